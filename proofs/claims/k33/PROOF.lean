import PyProof.Rows.All
import Lean
import KE.KTryMore
import KE.KItemsList
import KE.KItem
import KE.RegKTryMore
import KE.KDictList
import KE.KUnpack
import PySem.Challenge.RW_greywalk_k33_a_round_told_up
set_option Elab.async false
set_option linter.all false
set_option compiler.extract_closed false
set_option maxRecDepth 100000
set_option hygiene false
local macro_rules|`(γ)=>`(by decide +kernel)
local macro_rules|`(δ)=>`(by omega)
local macro_rules|`(ε)=>`(by decide)
local macro_rules|`(ζ)=>`(by simp)
local macro_rules|`(η)=>`(by rfl)
local macro_rules|`(↑$x)=>`(some (.ref $x))
local macro_rules|`(ι $x*)=>`(Hh P w K mg base $x*)
local macro_rules|`(μ $x*)=>`(lJ P w K mg base $x*)
local macro_rules|`(ν)=>`(St->Hp->Prop)
local macro_rules|`(ξ)=>`(⟨n,Q,bk,ct⟩)
local macro_rules|`(ο)=>`(rI (λ_ j=>0<j) λi j=>.int (i % j))
local macro_rules|`(π)=>`(ak 0)
local macro_rules|`(ρ)=>`(pv 0)
local macro_rules|`(ς)=>`(model X.prog X.w)
local macro_rules|`(τ)=>`(tC (.int 0))
local macro_rules|`(υ)=>`(tC (.int 1))
local macro_rules|`(χ)=>`(iR bD (pv 1) (az))
local macro_rules|`(ψ)=>`(cH se ph gr lo tu at_ st wa ls pa lx)
local macro_rules|`(ω)=>`(ak 1)
local macro_rules|`(Γ)=>`(tC (.int 2))
local macro_rules|`(Δ)=>`(Nat.le_refl _)
local macro_rules|`(Θ)=>`(nR λi j=>.int (i+j))
local macro_rules|`(Ξ)=>`(aK ρ rfl)
local macro_rules|`(Φ)=>`(Bk bU aJ aV bC)
local macro_rules|`(Ψ)=>`(pv 1)
local macro_rules|`(Ω)=>`(W.fnOf x qual (nP st) (kO st) (aG st) .none kV doc pm an cdv ct)
local macro_rules|`(ac)=>`(ak 3)
local macro_rules|`(ad)=>`(by repeat (first | exact trivial | refine⟨rfl,?_⟩))
local macro_rules|`(ae)=>`(ak 2)
local macro_rules|`(af)=>`(hr.mono ε)
local macro_rules|`(ag)=>`(aa (az) (aa (az) au))
local macro_rules|`(ah)=>`(model prog w)
local macro_rules|`(ai)=>`(s.heap.objs.size+1)
abbrev Ap:=PySem.Value->PySem.Shared->Prop
abbrev As:=PySem.Str->Option PySem.Value
abbrev At:=List (PySem.Addr×PySem.Obj)
abbrev Au:=List (Option Int)
abbrev AA:=Option Int
abbrev AB:=Option PySem.Value
abbrev AC:=List PySem.Value
abbrev AD:=List Int
abbrev AE:=List PySem.Addr
abbrev AF:=List PySem.Expr
abbrev AG:=List PySem.Str
abbrev AH:=PySem.Addr
abbrev AI:=PySem.Value
abbrev AJ:=PySem.Shared
abbrev AK:=PySem.FuncData
abbrev AL:=PySem.Program
abbrev AM:=PySem.Expr
abbrev AN:=PySem.World
abbrev aC:=PySem.W.Frag
theorem bM{α:Type}{l:List α}{i:Nat}(h:i<l.length):l[i]? =some l[i]:=List.getElem?_eq_getElem h
theorem fH{α:Type}{l:List α}{i:Nat}{a:α}(h:l[i]? =some a):∃h:i<l.length,l[i]=a:=List.getElem?_eq_some_iff.mp h
theorem dj{α β:Type}{f:α->β}{l:List α}{i:Nat}:(l.map f)[i]? =l[i]?.map f:=List.getElem?_map
theorem bx{α β:Type}{l:List α}(f:α->β):(l.map f).length=l.length:=List.length_map f
namespace L2
open PySem PySem.Spec PyProof.Rows
abbrev Key:=Sum Int Str
def IW:Key->AI->Bool
 | .inl k,v=>Value.isInt k v
 | .inr x,v=>Value.isStrOf x v
def Zyb(w:AN):Key->Int
 | .inl k=>hashInt k
 | .inr x=>hashStr w x
theorem fP:∀{k:Key}{v:AI},IW k v=true->(∃i t,k=Sum.inl i/\v=Value.int i t)\/(∃x t,k=Sum.inr x/\v=Value.str x t)
 | .inl i,v,h=>by
  obtain⟨t,e⟩:=Value.isInt_shape (k:=i) (v:=v) h;exact .inl ⟨i,t,rfl,e⟩
 | .inr x,v,h=>by
  obtain⟨t,e⟩:=Value.isStrOf_shape (x:=x) (v:=v) h;exact .inr ⟨x,t,rfl,e⟩
theorem Zkf(i:Int)(t:Tok):IW (.inl i) (.int i t)=true:=by simp[IW,Value.isInt]
theorem Zke(x:Str)(t:Tok):IW (.inr x) (.str x t)=true:=by simp[IW,Value.isStrOf]
theorem Zvs(a b:Int):decide ((Sum.inl a:Key)=Sum.inl b)=(a == b):=by
 by_cases e:a=b
 ·subst e;simp
 ·have h:¬ (Sum.inl a:Key)=Sum.inl b:=λq=>e (Sum.inl.inj q);rw[decide_eq_false h];exact(beq_eq_false_iff_ne.mpr e).symm
theorem Zvp(a b:Str):decide ((Sum.inr a:Key)=Sum.inr b)=decide (a=b):=by
 by_cases e:a=b
 ·subst e;simp
 ·have h:¬ (Sum.inr a:Key)=Sum.inr b:=λq=>e (Sum.inr.inj q);rw[decide_eq_false h,decide_eq_false e]
theorem Zvr(a:Int)(b:Str):decide ((Sum.inl a:Key)=Sum.inr b)=false:=decide_eq_false (λq=>nomatch q)
theorem Zvq(a:Str)(b:Int):decide ((Sum.inr a:Key)=Sum.inl b)=false:=decide_eq_false (λq=>nomatch q)
def eN(prog:AL)(w:AN):PySem.KeyKind prog w Key where
  is:=IW
  hash:=Zyb w
  inj:=λv a b ha hb=>by
    rcases fP ha with ⟨i,t,rfl,rfl⟩ | ⟨x,t,rfl,rfl⟩
    · rcases fP hb with ⟨j,u,rfl,e⟩ | ⟨y,u,rfl,e⟩
      · injection e with e1 _;rw[e1]
      · exact nomatch e
    · rcases fP hb with ⟨j,u,rfl,e⟩ | ⟨y,u,rfl,e⟩
      · exact nomatch e
      · injection e with e1 _;rw[e1]
  byValue:=λk v h=>by
    rcases fP h with ⟨i,t,rfl,rfl⟩ | ⟨x,t,rfl,rfl⟩<;>rfl
  pyHash:=λhv h=>by
    rcases fP hv with ⟨i,t,rfl,rfl⟩ | ⟨x,t,rfl,rfl⟩
    · exact wpAny_pyHash_int h
    · exact wpAny_pyHash_str h
  eqBool:=λhu hv h=>by
    rcases fP hu with ⟨i,t,rfl,rfl⟩ | ⟨x,t,rfl,rfl⟩
    · rcases fP hv with ⟨j,u,rfl,rfl⟩ | ⟨y,u,rfl,rfl⟩
      · rw[Zvs]at h;exact wpAny_eqBool_int h
      · rw[Zvr]at h;exact SeqAt.EqAt.int_str i t y u _ _ _ _ h
    · rcases fP hv with ⟨j,u,rfl,rfl⟩ | ⟨y,u,rfl,rfl⟩
      · rw[Zvq]at h;exact SeqAt.EqAt.str_int x t j u _ _ _ _ h
      · rw[Zvp]at h;exact wpAny_eqBool_str h
  «strs»:=λk x t v h=>by
    rcases fP h with ⟨i,u,rfl,e⟩ | ⟨y,u,rfl,e⟩
    · exact nomatch e
    · injection e with e1 _
      subst e1;cases v<;>rfl
theorem Zcp(prog:AL)(w:AN)(i:Int)(t:Tok):(eN prog w).is (.inl i) (.int i t)=true:=Zkf i t
theorem Zco(prog:AL)(w:AN)(x:Str)(t:Tok):(eN prog w).is (.inr x) (.str x t)=true:=Zke x t
inductive V where
 | non | bl (b:Bool) | int (i:Int) | str (x:Str) | byt (b:Array UInt8) | flt (b:UInt64) | ref (a:AH) | ty (n:String)
 deriving DecidableEq
def RelV:V->AI->Prop
 | .non,u=>u=Value.none
 | .bl b,u=>u=Value.bool b
 | .int i,u=>∃t,u=Value.int i t
 | .str x,u=>∃t,u=Value.str x t
 | .byt b,u=>∃t,u=Value.bytes b t
 | .flt b,u=>∃t,u=Value.float b t
 | .ref a,u=>u=Value.ref a
 | .ty n,u=>u=Value.type n
abbrev Vals:List V->AC->Prop:=Paired RelV
theorem Vals.length{xs:List V}{us:AC}(r:Vals xs us):xs.length=us.length:=Paired.length r
theorem Vals.get:∀{xs:List V}{us:AC}{i:Nat}{x:V},Vals xs us->xs[i]? =some x->∃u,us[i]? =some u/\RelV x u
 | _,_,_,_,.nil,e=>by simp at e
 | _,_,0,_,.cons r _,e=>by simp at e;subst e;exact⟨_,rfl,r⟩
 | _,_,i+1,x,.cons _ t,e=>by
  obtain⟨u,h1,h2⟩:=Vals.get (i:=i) (x:=x) t (by simpa using e);exact⟨u,by simpa using h1,h2⟩
theorem Vals.set{x:V}{u:AI}(r:RelV x u):∀{xs:List V}{us:AC} (i:Nat),Vals xs us->Vals (xs.set i x) (us.set i u)
 | _,_,_,.nil=>.nil
 | _,_,0,.cons _ t=>.cons r t
 | _,_,i+1,.cons q t=>.cons q (Vals.set r i t)
theorem Vals.append:∀{xs ys:List V}{us ws:AC},Vals xs us->Vals ys ws->Vals (xs++ys) (us++ws)
 | _,_,_,_,.nil,s=>s
 | _,_,_,_,.cons r t,s=>.cons r (Vals.append t s)
theorem Vals.take:∀{xs:List V}{us:AC} (n:Nat),Vals xs us->Vals (xs.take n) (us.take n)
 | _,_,0,_=>.nil
 | _,_,_+1,.nil=>.nil
 | _,_,n+1,.cons r t=>.cons r (Vals.take n t)
theorem Vals.drop:∀{xs:List V}{us:AC} (n:Nat),Vals xs us->Vals (xs.drop n) (us.drop n)
 | _,_,0,r=>r
 | _,_,_+1,.nil=>.nil
 | _,_,n+1,.cons _ t=>Vals.drop n t
def El:Option V->AB->Prop
 | some v,some u=>RelV v u
 | none,none=>True
 | _,_=>False
def KV{κ:Type}:List (κ×V)->List (κ×AI)->Prop:=Paired λ(p:κ×V) (q:κ×AI)=>p.1=q.1/\RelV p.2 q.2
def kV:Key->V
 | .inl i=>.int i
 | .inr x=>.str x
inductive HO where
  | lst (xs:List V)
  | tup (xs:List V)
  | dK (kvs:List (Key×V)) | dT (kvs:List (List Key×V))
  | set (S:Int->Bool) (n:Nat)
  | ins (C dx:AH) (fs:List (Str×V))
  | own (x:AH)
  | xd (fs:List (Str×V))
  | met (f x:AH)
  | rng (lo hi:Int)
  | yU (o:Obj) (u:HO)
  | Qd (ps:Array AI)
  | ext (φ:Heap->Prop)
abbrev Hp:=AH->Option HO
def upd(H:Hp)(a:AH)(o:HO):Hp:=λb=>if b=a then some o else H b
theorem aq{H:Hp}{a:AH}{o:HO}:upd H a o a=some o:=by unfold upd;rw[if_pos rfl]
theorem aB{H:Hp}{a b:AH}{o:HO}(h:b≠a):upd H a o b=H b:=by unfold upd;rw[if_neg h]
theorem eZ{H:Hp}{a:AH}{o u:HO}:upd (upd H a o) a u=upd H a u:=by
 funext b;unfold upd;split<;>rfl
theorem qG{H:Hp}{a b:AH}{o u:HO}(h:H a=some o)(h':H b=some u)(d:o≠u):a≠b:=by
 intro e;subst e;rw[h]at h';exact d (Option.some.inj h')
theorem aD{H:Hp}{a b:AH}{o:HO}(h:H a=some o)(h':H b=none):a≠b:=by
 intro e;subst e;rw[h]at h';cases h'
section
variable (P:AL)(w:AN)
def kj(H:Hp)(h:Heap)(a:AH):HO->Prop
 | .lst xs=>xs.length<=sizeLine/\∃(its:AC) (n:Nat),Vals xs its/\h.get? a=some { cls:=.type "list",data:=.seq its.toArray n }
 | .tup xs=>xs.length<=sizeLine/\∃its:AC,Vals xs its/\IsTup h a its.toArray
 | .dK kvs=>kvs.length<=sizeLine/\(a == sysModules)=false/\∃vs,KV kvs vs/\h.DictOf (eN P w) a vs
 | .dT kvs=>kvs.length<=sizeLine/\(a == sysModules)=false/\∃xs:List (List Key×AH×AI),
   Paired (λ(p:List Key×V) (q:List Key×AH×AI)=>p.1=q.1/\H q.2.1=some (.tup (p.1.map kV))/\RelV p.2 q.2.2) kvs xs/\
   ∃o es ep,h.get? a=some o/\o.ExactDict/\o.data=.dict es ep/\es.toList=xs.map (entryOfKey (tupleKind (eN P w)))/\(xs.map (·.1)).Nodup
 | .set S n=>h.SetOf (intKind P w) a S n
 | .ins C dx fs=>H dx=some (.own a)/\fs.length<=1000/\dx≠a/\h.get? a=some (W.instObj C dx)/\
   ∃mA,h.Ns1 dx mA/\(∀f,El (fs.lookup f) (mA f))/\PySem.Within mA (fs.map (·.1))
 | .own _=>∃o,h.get? a=some o
 | .xd fs=>∃mA,h.Ns1 a mA/\∀f,El (fs.lookup f) (mA f)
 | .rng lo hi=>∃t u v,h.get? a=some { cls:=.type "range",data:=.fields #[.int lo t,.int hi u,.int 1 v] }
 | .yU o u=>h.get? a=some o/\kj H h a u
 | .Qd ps=>h.get? a=some { cls:=.none,data:=.fields ps }
 | .met f x=>h.get? a=some (W.methodObj (.ref f) (.ref x))
 | .ext φ=>φ h/\(∃o,h.get? a=some o)/\∀h1 h2:Heap,φ h1->(∀o,h1.get? a=some o->h2.get? a=some o)->φ h2
def Dv(H:Hp)(h:Heap):Prop:=∀a o,H a=some o->kj P w H h a o
end
section
variable {P:AL}{w:AN}{H H':Hp}{h h':Heap}{a:AH}{o:HO}
theorem kj.lt(x:kj P w H h a o):a<h.objs.size:=by
 cases o with
 | lst xs=>obtain⟨_,_,_,_,e⟩:=x;exact Heap.lt_size e
 | tup xs=>obtain⟨_,_,_,p⟩:=x;exact p.lt
 | dK kvs=>obtain⟨_,_,_,_,o,_,_,e,_⟩:=x;exact Heap.lt_size e
 | dT kvs=>obtain⟨_,_,_,_,o,_,_,e,_⟩:=x;exact Heap.lt_size e
 | set S n=>obtain⟨o,_,_,_,e,_⟩:=x;exact Heap.lt_size e
 | ins C dx fs=>obtain⟨_,_,_,e,_⟩:=x;exact Heap.lt_size e
 | own y=>obtain⟨_,e⟩:=x;exact Heap.lt_size e
 | xd fs=>obtain⟨_,⟨_,_,_,e,_⟩,_⟩:=x;exact Heap.lt_size e
 | rng lo hi=>obtain⟨_,_,_,e⟩:=x;exact Heap.lt_size e
 | yU ob u=>obtain⟨e,_⟩:=x;exact Heap.lt_size e
 | Qd ps=>exact Heap.lt_size (show h.get? a=some _ from x)
 | met f y=>exact Heap.lt_size (show h.get? a=some _ from x)
 | ext φ=>obtain⟨_,⟨_,e⟩,_⟩:=x;exact Heap.lt_size e
theorem Paired.Zvk{α β:Type}{F G:α->β->Prop}:∀{l₁:List α}{l₂:List β},Paired F l₁ l₂->(∀a b,F a b->G a b)->Paired G l₁ l₂
 | _,_,.nil,_=>.nil
 | _,_,.cons r t,f=>.cons (f _ _ r) (Paired.Zvk t f)
theorem kj.stay(x:kj P w H h a o)(k:∀b u,(b=a\/H b=some (.own a))->h.get? b=some u->h'.get? b=some u)
  (ho:∀b,H b=some (.own a)->H' b=some (.own a)) (ht:∀b xs,H b=some (.tup xs)->H' b=some (.tup xs)):kj P w H' h' a o:=by
 induction o with
 | lst xs=>obtain⟨z,its,n,r,e⟩:=x;exact⟨z,its,n,r,k _ _ (.inl rfl) e⟩
 | tup xs=>obtain⟨z,its,r,ob,e,c⟩:=x;exact⟨z,its,r,ob,k _ _ (.inl rfl) e,c⟩
 | dK kvs=>obtain⟨z,y,vs,r,ob,es,ep,e,c⟩:=x;exact⟨z,y,vs,r,ob,es,ep,k _ _ (.inl rfl) e,c⟩
 | dT kvs=>
  obtain⟨z,y,xs,r,ob,es,ep,e,c⟩:=x;exact⟨z,y,xs,Paired.Zvk r λp q z=>⟨z.1,ht _ _ z.2.1,z.2.2⟩,ob,es,ep,k _ _ (.inl rfl) e,c⟩
 | set S n=>obtain⟨ob,es,ep,t,e,c⟩:=x;exact⟨ob,es,ep,t,k _ _ (.inl rfl) e,c⟩
 | ins C dx fs=>
  obtain⟨d,z,ne,e,mA,⟨od,es,ep,e2,c⟩,r⟩:=x;exact⟨ho _ d,z,ne,k _ _ (.inl rfl) e,mA,⟨od,es,ep,k _ _ (.inr d) e2,c⟩,r⟩
 | own y=>obtain⟨ob,e⟩:=x;exact⟨ob,k _ _ (.inl rfl) e⟩
 | xd fs=>obtain⟨mA,⟨od,es,ep,e,c⟩,r⟩:=x;exact⟨mA,⟨od,es,ep,k _ _ (.inl rfl) e,c⟩,r⟩
 | rng lo hi=>obtain⟨t,u,v,e⟩:=x;exact⟨t,u,v,k _ _ (.inl rfl) e⟩
 | yU ob u ih=>obtain⟨e,q⟩:=x;exact⟨k _ _ (.inl rfl) e,ih q⟩
 | Qd ps=>
  have e:h.get? a=some { cls:=.none,data:=.fields ps }:=x;show h'.get? a=some { cls:=.none,data:=.fields ps };exact k a _ (.inl rfl) e
 | met f y=>
  have e:h.get? a=some (W.methodObj (.ref f) (.ref y)):=x;show h'.get? a=some (W.methodObj (.ref f) (.ref y));exact k a _ (.inl rfl) e
 | ext φ=>obtain⟨p,⟨o,e⟩,st⟩:=x;exact⟨st _ _ p λo q=>k _ _ (.inl rfl) q,⟨o,k _ _ (.inl rfl) e⟩,st⟩
theorem Dv.lt(x:Dv P w H h)(e:H a=some o):a<h.objs.size:=(x a o e).lt
theorem Dv.fresh(x:Dv P w H h)(e:h.objs.size<=a):H a=none:=by
 cases q:H a with
 | none=>rfl
 | some u=>exact absurd (Nat.lt_of_lt_of_le (x.lt q) e) (Nat.lt_irrefl _)
theorem Dv.kept(x:Dv P w H h)(k:∀b u,h.get? b=some u->h'.get? b=some u):Dv P w H h':=λa o e=>
 (x a o e).stay (λb u _ q=>k b u q) (λ_ q=>q) λ_ _ q=>q
theorem Dv.laid(x:Dv P w H h)(k:∀b u,h.get? b=some u->h'.get? b=some u)(hp:h.objs.size<=a)(new:kj P w (upd H a o) h' a o):Dv P w (upd H a o) h':=λb u e=>by
 have hn:=x.fresh hp
 by_cases hb:b=a
 ·subst hb;rw[aq]at e;cases e;exact new
 ·rw[aB hb]at e;exact(x b u e).stay (λc v _ q=>k c v q) (λc q=>by rw[aB (aD q hn)];exact q) λc xs q=>by rw[aB (aD q hn)];exact q
end
def Rd(H:Hp)(a:AH)(u:HO):Prop:=H a=some u\/∃o,H a=some (.yU o u)
theorem Rd.ok{P:AL}{w:AN}{H:Hp}{h:Heap}{a:AH}{u:HO}(r:Rd H a u)(x:Dv P w H h):kj P w H h a u:=by
 rcases r with r | ⟨o,r⟩
 ·exact x a u r
 ·obtain⟨_,q⟩:=x a _ r;exact q
def Mut:Option HO->Prop
 | some (.lst _)=>True
 | some (.dK _)=>True
 | some (.dT _)=>True
 | some (.set _ _)=>True
 | some (.ins _ _ _)=>True
 | some (.ext _)=>True
 | _=>False
section
variable {P:AL}{w:AN}{H:Hp}{h h':Heap}{x e:AH}{o':HO}
theorem Dv.write(ok:Dv P w H h)(mu:Mut (H x))(he:e=x\/H e=some (.own x))(k:∀b u,b≠e->h.get? b=some u->h'.get? b=some u)(heo:∃u,h'.get? e=some u)
  (new:kj P w (upd H x o') h' x o'):Dv P w (upd H x o') h':=λb u q=>by
 have Zy5:∀c y,H c=some (.own y)->c≠x:=λc y r z=>by subst z;rw[r]at mu;exact mu
 have ZA2:∀c xs,H c=some (.tup xs)->c≠x:=λc xs r z=>by subst z;rw[r]at mu;exact mu
 by_cases hb:b=x
 ·subst hb;rw[aq]at q;cases q;exact new
 ·rw[aB hb]at q
  by_cases hbe:b=e
  ·have q':H b=some (.own x):=by
    rcases he with z | z
    ·exact absurd (hbe.trans z) hb
    ·rw[hbe];exact z
   rw[q]at q';cases q';obtain⟨v,hv⟩:=heo;exact⟨v,by rw[hbe];exact hv⟩
  ·refine(ok b u q).stay (λc v hc r=>k c v ?_ r) (λc r=>by rw[aB (Zy5 c b r)];exact r) λc xs r=>by rw[aB (ZA2 c xs r)];exact r
   rcases hc with rfl | hc
   ·exact hbe
   ·rintro rfl;rcases he with z | z
    ·exact Zy5 c b hc z
    ·rw[hc]at z;cases z;exact hb rfl
end
structure Un(fs ex:AE)(H H':Hp)(h h':Heap):Prop where
 keep:∀b o,h.get? b=some o->H b=none->b∉fs->b∉ex->h'.get? b=some o
 slot:∀b o,h.get? b=some o->H b=none->b∈fs->b∉ex->∃sl,h'.get? b=some { o with slots:=sl }
 free:∀b o,h.get? b=some o->H b=none->b∉ex->H' b=none
 there:∀b o,h.get? b=some o->b∉ex->∃o',h'.get? b=some o'
 tups:∀b xs,H b=some (.tup xs)->H' b=some (.tup xs)
 Lz:∀b o u,H b=some (.yU o u)->H' b=some (.yU o u)
 NT:∀b ps,H b=some (.Qd ps)->∃more,H' b=some (.Qd (ps++more))
section
variable {fs fs' ex ex':AE}{H H1 H2:Hp}{h h1 h2 h':Heap}{a x e:AH}{o:HO}
theorem Un.any(u:Un fs ex H H1 h h1){b:AH}{ob:Obj}(q:h.get? b=some ob)(n:H b=none)(hx:b∉ex):∃sl,h1.get? b=some { ob with slots:=sl }:=by
 by_cases hb:b∈fs
 ·exact u.slot b ob q n hb hx
 ·exact⟨ob.slots,u.keep b ob q n hb hx⟩
theorem Un.kept(k:∀b u,h.get? b=some u->h'.get? b=some u):Un fs ex H H h h':=
 ⟨λb ob q _ _ _=>k b ob q,λb ob q _ _ _=>⟨ob.slots,k b ob q⟩,λ_ _ _ n _=>n,λb ob q _=>⟨ob,k b ob q⟩,λ_ _ q=>q,λ_ _ _ q=>q,λ_ ps q=>⟨#[],by rw[q];simp⟩⟩
theorem Un.refl:Un fs ex H H h h:=Un.kept λ_ _ q=>q
theorem Un.laid(k:∀b u,h.get? b=some u->h'.get? b=some u)(hp:h.objs.size<=a)(hn:H a=none):Un fs ex H (upd H a o) h h' where
 keep:=λb u q _ _ _=>k b u q
 slot:=λb u q _ _ _=>⟨u.slots,k b u q⟩
 free:=λb u q n _=>by rw[aB (Nat.ne_of_lt (Nat.lt_of_lt_of_le (Heap.lt_size q) hp))];exact n
 there:=λb u q _=>⟨u,k b u q⟩
 tups:=λb xs q=>by rw[aB (aD q hn)];exact q
 Lz:=λb u xs q=>by rw[aB (aD q hn)];exact q
 NT:=λb ps q=>⟨#[],by rw[aB (aD q hn),q];simp⟩
theorem Un.write(mu:Mut (H x))(he:e=x\/H e=some (.own x))(k:∀b u,b≠e->h.get? b=some u->h'.get? b=some u)(heo:∃u,h'.get? e=some u):Un fs ex H (upd H x o) h h':=by
 have hx:∀b,H b=none->b≠x:=λb n z=>by subst z;rw[n]at mu;exact mu
 have hb:∀b,H b=none->b≠e:=λb n z=>by
  subst z;rcases he with r | r
  ·exact hx b n r
  ·rw[n]at r;cases r
 have hm:∀b u,H b=some u->¬ Mut (some u)->b≠x:=λb u q nm z=>by subst z;rw[q]at mu;exact nm mu
 refine⟨λb u q n _ _=>k b u (hb b n) q,λb u q n _ _=>⟨u.slots,k b u (hb b n) q⟩,λb u q n _=>by rw[aB (hx b n)];exact n,λb u q _=>?_,
  λb xs q=>by rw[aB (hm b _ q λz=>z)];exact q,λb u xs q=>by rw[aB (hm b _ q λz=>z)];exact q,λb ps q=>⟨#[],by rw[aB (hm b _ q λz=>z),q];simp⟩⟩
 by_cases hbe:b=e
 ·subst hbe;exact heo
 ·exact⟨u,k b u hbe q⟩
end
def trk(h:Heap)(H:Hp):AE:=(List.range h.objs.size).filter λa=>(H a).isSome
def Z7(h:Heap)(H:Hp):Heap:=W.hideAll h (trk h H)
theorem Zky(h:Heap)(H:Hp):(Z7 h H).objs.size=h.objs.size:=W.hideAll_size _ _
theorem Zor{h:Heap}{H:Hp}{b:AH}{o:Obj}(e:h.get? b=some o)(n:H b=none):(Z7 h H).get? b=some o:=
 W.hideAll_get _ e λhm=>by
  have q:(H b).isSome=true:=(List.mem_filter.mp hm).2;rw[n]at q;simp at q
theorem Zrs{h:Heap}{H:Hp}{b:AH}{o:Obj}(e:(Z7 h H).get? b=some o):h.get? b=some o/\H b=none:=by
 have e':h.get? b=some o:=W.of_hideAll (trk h H) e;refine⟨e',?_⟩;cases q:H b with
 | none=>rfl
 | some x=>
  have hm:b∈trk h H:=List.mem_filter.mpr ⟨List.mem_range.mpr (Heap.lt_size e'),by simp[q]⟩;have z:(Z7 h H).get? b=none:=W.hideAll_none (trk h H) hm;rw[z]at e;cases e
def Zte(g h:Heap)(L:AH):At:=(List.range h.objs.size).filterMap λa=>if a=L\/(g.get? a).isSome=true then none else(h.get? a).map λo=>(a,o)
def rest(g h:Heap)(L d:AH):At:=(Zte g h L).filter λp=>decide (p.1≠d)
structure Mod(K:aC)(mg:As)(base:Heap):Prop where
 kin:K.In base
 glob:base.Ns mainGlobals mg
 blt:∃mb,base.Ns builtinsNs mb/\∀x:Str,x≠"__name__"->mb x=bootBuiltins x
 nolimit:base.NoLimit
structure Cx where
 prog:AL
 w:AN
 K:aC
 mg:Str->AB
 base:Heap
 A:Around
 N:AG
 s₀:AJ
 H₀:Hp
 env:Env
 outer:List Env
 stack:List Env
 ex:AE
 fn:Str->Bool
 calm:Bool
 pn:At
 xe:AI->AJ->Prop
def frs(l:List Env):AE:=l.filterMap (·.frame)
abbrev Cx.fs(X:Cx):AE:=frs X.outer
def Vis(sc:Scope)(x:Str):Prop:=sc.names.lookup x=some .local\/sc.names.lookup x=some .cell\/sc.names.lookup x=some .free
def Loc(sc:Scope)(x:Str):Prop:=sc.names.lookup x=some .local\/sc.names.lookup x=some .cell
def Look(env:Env)(h:Heap)(m:As)(x:Str)(u:AI):Prop:=
 (env.kindOf x=some .local/\m x=some u)\/((env.kindOf x=some .cell\/env.kindOf x=some .free)/\∃c,env.cells.lookup x=some c/\h.IsCell c (some u))
structure Cx.Ok(X:Cx):Prop where
 mod:Mod X.K X.mg X.base
 kind:X.env.scope.kind=.function
 glob:X.env.globals=mainGlobals
 blt:X.env.builtins=builtinsNs
 above:X.s₀.heap.objs.size<=X.env.locals
 inj:∀x y c,X.env.cells.lookup x=some c->X.env.cells.lookup y=some c->x=y
 has:∀x,(X.env.kindOf x=some .cell\/X.env.kindOf x=some .free)->∃c,X.env.cells.lookup x=some c
 cab:∀x c,X.fn x=true->X.env.cells.lookup x=some c->X.s₀.heap.objs.size<=c
 hd:X.calm=true->X.A.handled=none
 frames:X.A.frames=some X.stack
 stk:X.stack=X.outer\/(X.stack=X.env::X.outer/\X.env.frame=some X.env.locals)
 exf:∀b∈X.ex,b≠X.env.locals/\∀x c,X.env.cells.lookup x=some c->c≠b
 bs:∀b o,X.base.get? b=some o->X.s₀.heap.get? b=some o/\X.H₀ b=none
 bsz:X.base.objs.size<=X.s₀.heap.objs.size
 Zch:∀b o,X.base.get? b=some o->b∉X.ex
 Zhd:∀b∈X.ex,b∉X.fs
 Am:X.s₀.heap.FunFrames X.base X.outer
 frf:∀b∈X.fs,X.H₀ b=none
structure Inv(X:Cx)(pins:At)(σ:List (Option V))(H:Hp)(s:AJ):Prop where
 ok:X.Ok
 os:s.os=X.s₀.os
 bare:AllBare s.gens
 base:Un X.fs X.ex X.H₀ H X.s₀.heap s.heap
 loc:∃m,s.heap.Ns X.env.locals m/\∀(i:Nat) (x:Str) (v:V),X.N[i]? =some x->σ[i]? =some (some v)->Vis X.env.scope x->∃u,RelV v u/\Look X.env s.heap m x u
 cell:∀x c,X.env.cells.lookup x=some c->∃v,s.heap.IsCell c v
 free:H X.env.locals=none
 vz:∀x c,X.env.cells.lookup x=some c->H c=none
 pin:∀p∈X.pn++pins,s.heap.get? p.1=some p.2/\H p.1=none/\p.1≠X.env.locals/\p.1∉X.fs/\∀v,p.2.data≠.cell v
 hok:Dv X.prog X.w H s.heap
 len:σ.length=X.N.length
section
variable {X:Cx}{pins:At}{σ:List (Option V)}{H H':Hp}{s:AJ}{h':Heap}
theorem Cx.Ok.ZA4(ok:X.Ok){b:AH}{o:Obj}(e:X.base.get? b=some o):b∉X.fs:=λhb=>by
 have:=(ok.Am.mem hb).1;rw[e]at this;cases this
theorem Inv.bs(I:Inv X pins σ H s):∀b o,X.base.get? b=some o->s.heap.get? b=some o/\H b=none:=λb o e=>
 ⟨I.base.keep b o (I.ok.bs b o e).1 (I.ok.bs b o e).2 (I.ok.ZA4 e) (I.ok.Zch b o e),I.base.free b o (I.ok.bs b o e).1 (I.ok.bs b o e).2 (I.ok.Zch b o e)⟩
theorem Inv.bk(I:Inv X pins σ H s):∀b o,X.base.get? b=some o->s.heap.get? b=some o:=λb o e=>(I.bs b o e).1
theorem Inv.mod(I:Inv X pins σ H s):Mod X.K X.mg X.base:=I.ok.mod
theorem Inv.Dk(I:Inv X pins σ H s):X.K.In s.heap:=I.ok.mod.kin.keeps I.bk
theorem Inv.lt(I:Inv X pins σ H s):X.env.locals<s.heap.objs.size:=let ⟨_,hn,_⟩:=I.loc;hn.lt
theorem Inv.sz(I:Inv X pins σ H s):X.s₀.heap.objs.size<=s.heap.objs.size:=Nat.le_trans I.ok.above (Nat.le_of_lt I.lt)
theorem Inv.ZA3(I:Inv X pins σ H s){a:AH}(h:s.heap.objs.size<=a):a∉X.fs:=λhb=>by
 obtain⟨_,o,ho,_⟩:=I.ok.Am.mem hb;exact absurd (Nat.lt_of_lt_of_le (Heap.lt_size ho) (Nat.le_trans I.sz h)) (Nat.lt_irrefl _)
theorem Inv.cne(I:Inv X pins σ H s):∀x c,X.env.cells.lookup x=some c->c≠X.env.locals:=λx c e z=>by
 obtain⟨v,o,ho,hd⟩:=I.cell x c e;obtain⟨m,⟨o',es,ep,ho',hd',_⟩,_⟩:=I.loc;rw[z,ho']at ho;cases ho;rw[hd']at hd;cases hd
theorem Inv.Am(I:Inv X pins σ H s):s.heap.FunFrames X.base X.outer:=by
 have all:∀(l:List Env),(∀b∈frs l,b∈X.fs)->X.s₀.heap.FunFrames X.base l->s.heap.FunFrames X.base l:=by
  intro l
  induction l with
  | nil=>intro _ _;trivial
  | cons env r ih=>
   intro hs hl;obtain⟨hk,⟨L,o,hf,hn,ho,hd⟩,hr⟩:=hl;have hL:L∈X.fs:=hs L (by unfold frs;rw[List.filterMap_cons,hf];exact List.mem_cons_self);obtain⟨sl,e⟩:=I.base.slot L o ho (I.ok.frf L hL) hL λz=>I.ok.Zhd L z hL;exact⟨hk,⟨L,_,hf,hn,e,hd⟩,ih (λb hb=>hs b (by unfold frs;rw[List.filterMap_cons,hf];exact List.mem_cons_of_mem _ hb)) hr⟩
 exact all X.outer (λ_ hb=>hb) I.ok.Am
theorem Inv.stack(I:Inv X pins σ H s):s.heap.FunFrames X.base X.stack:=by
 rcases I.ok.stk with e | ⟨e,hf⟩
 ·rw[e];exact I.Am
 ·rw[e];obtain⟨m,hn,_⟩:=I.loc;refine .cons (by rw[I.ok.kind];decide) hf hn ?_ I.Am;exact Heap.get?_none_of_le (Nat.le_trans I.ok.bsz I.ok.above)
theorem Inv.JQ(I:Inv X pins σ H s):∀b∈frs X.stack,b∈X.env.locals::X.fs:=λb hb=>by
 rcases I.ok.stk with e | ⟨e,hf⟩
 ·rw[e]at hb;exact List.mem_cons_of_mem _ hb
 ·rw[e]at hb;unfold frs at hb;rw[List.filterMap_cons,hf]at hb;exact hb
theorem Inv.XD(I:Inv X pins σ H s):∀b∈frs X.stack,H b=none:=λb hb=>by
 rcases List.mem_cons.mp (I.JQ b hb)with e | hb
 ·rw[e];exact I.free
 ·obtain⟨_,o,ho,_⟩:=I.ok.Am.mem hb;exact I.base.free b o ho (I.ok.frf b hb) λz=>I.ok.Zhd b z hb
theorem Inv.step{g':Array GenState}{t':Nat}{d':Drawn}{ch:AE}(I:Inv X pins σ H s)
  (hch:∀b∈ch,(b∈X.ex\/X.s₀.heap.objs.size<=b)/\b≠X.env.locals/\(∀x c,X.env.cells.lookup x=some c->c≠b)/\∀p∈X.pn++pins,p.1≠b)
  (keep:∀b o,b≠X.env.locals->b∉X.fs->b∉ch->s.heap.get? b=some o->H b=none->h'.get? b=some o)
  (slot:∀b o,b≠X.env.locals->b∈X.fs->b∉ch->s.heap.get? b=some o->H b=none->∃sl,h'.get? b=some { o with slots:=sl }) (free:∀b o,b∉ch->s.heap.get? b=some o->H b=none->H' b=none)
  (there:∀b o,b∉ch->s.heap.get? b=some o->∃o',h'.get? b=some o')
  (tups:∀b xs,H b=some (.tup xs)->H' b=some (.tup xs)) (Lz:∀b o u,H b=some (.yU o u)->H' b=some (.yU o u)) (NT:∀b ps,H b=some (.Qd ps)->∃more,H' b=some (.Qd (ps++more)))
  (ns:∀m,s.heap.Ns X.env.locals m->h'.Ns X.env.locals m) (hok:Dv X.prog X.w H' h') (hg:AllBare g'):
  Inv X pins σ H' { s with heap:=h',gens:=g',drawn:=d',toks:=t' }:=by
 have neL:∀b o,X.s₀.heap.get? b=some o->b≠X.env.locals:=λb o e=>Nat.ne_of_lt (Nat.lt_of_lt_of_le (Heap.lt_size e) I.ok.above);have neC:∀b o,X.s₀.heap.get? b=some o->b∉X.ex->b∉ch:=λb o e hx hb=>by
  rcases(hch b hb).1 with z | z
  ·exact hx z
  ·exact absurd (Nat.lt_of_lt_of_le (Heap.lt_size e) z) (Nat.lt_irrefl _)
 have cellK:∀x c,X.env.cells.lookup x=some c->∀v,s.heap.IsCell c v->h'.IsCell c v:=λx c e v ⟨o,ho,hd⟩=>by
  have nch:c∉ch:=λz=>(hch c z).2.2.1 x c e rfl
  by_cases hc:c∈X.fs
  ·obtain⟨sl,q⟩:=slot c o (I.cne x c e) hc nch ho (I.vz x c e);exact⟨_,q,hd⟩
  ·exact⟨o,keep c o (I.cne x c e) hc nch ho (I.vz x c e),hd⟩
 refine⟨I.ok,I.os,hg,⟨λb o e n hb hx=>?_,λb o e n hb hx=>?_,λb o e n hx=>?_,λb o e hx=>?_,λb xs e=>tups b xs (I.base.tups b xs e),λb o xs e=>Lz b o xs (I.base.Lz b o xs e),λb ps e=>?_⟩,?_,λx c e=>?_,?_,λx c e=>?_,λp hp=>?_,hok,I.len⟩
 ·exact keep b o (neL b o e) hb (neC b o e hx) (I.base.keep b o e n hb hx) (I.base.free b o e n hx)
 ·obtain⟨sl,e1⟩:=I.base.slot b o e n hb hx;obtain⟨sl',e2⟩:=slot b _ (neL b o e) hb (neC b o e hx) e1 (I.base.free b o e n hx);exact⟨sl',e2⟩
 ·obtain⟨o',e1⟩:=I.base.there b o e hx;exact free b o' (neC b o e hx) e1 (I.base.free b o e n hx)
 ·obtain⟨o',e1⟩:=I.base.there b o e hx;exact there b o' (neC b o e hx) e1
 ·obtain⟨m1,e1⟩:=I.base.NT b ps e;obtain⟨m2,e2⟩:=NT b _ e1;exact⟨m1++m2,by rw[e2,Array.append_assoc]⟩
 ·obtain⟨m,hn,hl⟩:=I.loc;refine⟨m,ns m hn,λi x v e1 e2 e3=>?_⟩;obtain⟨u,r,l⟩:=hl i x v e1 e2 e3;refine⟨u,r,?_⟩;rcases l with l | ⟨k,c,e,z⟩
  ·exact .inl l
  ·exact .inr ⟨k,c,e,cellK x c e _ z⟩
 ·obtain⟨v,z⟩:=I.cell x c e;exact⟨v,cellK x c e v z⟩
 ·obtain⟨m,⟨o,_,_,ho,_⟩,_⟩:=I.loc;exact free _ o (λz=>(hch _ z).2.1 rfl) ho I.free
 ·obtain⟨v,o,ho,hd⟩:=I.cell x c e;exact free c o (λz=>(hch c z).2.2.1 x c e rfl) ho (I.vz x c e)
 ·obtain⟨e,n,ne,nf,d⟩:=I.pin p hp;have nch:p.1∉ch:=λz=>(hch p.1 z).2.2.2 p hp rfl;exact⟨keep p.1 p.2 ne nf nch e n,free p.1 p.2 nch e n,ne,nf,d⟩
theorem Inv.un{t':Nat}(I:Inv X pins σ H s)(u:Un X.fs [] H H' s.heap h')(hok:Dv X.prog X.w H' h'):Inv X pins σ H' { s with heap:=h',toks:=t' }:=by
 obtain⟨m,⟨o,es,ep,ho,r⟩,_⟩:=id I.loc;obtain⟨sl,hL⟩:=u.any ho I.free ζ;exact I.step (g':=s.gens) (d':=s.drawn) (ch:=[]) (λ_ z=>nomatch z) (λb o _ hb _ e n=>u.keep b o e n hb ζ) (λb o _ hb _ e n=>u.slot b o e n hb ζ) (λb o _ e n=>u.free b o e n ζ) (λb o _ e=>u.there b o e ζ) u.tups u.Lz u.NT (λm' hm=>by
  obtain⟨o',es',ep',ho',r'⟩:=hm;rw[ho]at ho';cases ho';exact⟨_,es',ep',hL,r'⟩) hok I.bare
theorem Inv.call{g':Array GenState}{t':Nat}{d':Drawn}{ch:AE}(I:Inv X pins σ H s)(u:Un (frs X.stack) ch H H' s.heap h')(hok:Dv X.prog X.w H' h')(hg:AllBare g')
  (hch:∀b∈ch,(b∈X.ex\/X.s₀.heap.objs.size<=b)/\b≠X.env.locals/\(∀x c,X.env.cells.lookup x=some c->c≠b)/\∀p∈X.pn++pins,p.1≠b):
  Inv X pins σ H' { s with heap:=h',gens:=g',drawn:=d',toks:=t' }:=by
 obtain⟨m,⟨o,es,ep,ho,r⟩,_⟩:=id I.loc;obtain⟨sl,hL⟩:=u.any ho I.free λz=>(hch _ z).2.1 rfl;exact I.step (ch:=ch) hch (λb o hL hb hc e n=>u.keep b o e n (λz=>(List.mem_cons.mp (I.JQ b z)).elim hL hb) hc) (λb o _ _ hc e n=>u.any e n hc) (λb o hc e n=>u.free b o e n hc) (λb o hc e=>u.there b o e hc) u.tups u.Lz u.NT (λm' hm=>by
  obtain⟨o',es',ep',ho',r'⟩:=hm;rw[ho]at ho';cases ho';exact⟨_,es',ep',hL,r'⟩) hok hg
theorem Inv.turned{t':Nat}{it:AH}(I:Inv X pins σ H s)(k:∀b o,b≠it->s.heap.get? b=some o->h'.get? b=some o)(hn:H it=none)(hL:it≠X.env.locals)
  (h1:it∈X.ex\/X.s₀.heap.objs.size<=it) (h2:∀x c,X.env.cells.lookup x=some c->c≠it) (h3:∀p∈X.pn++pins,p.1≠it):Inv X pins σ H { s with heap:=h',toks:=t' }:=by
 have nit:∀b u,H b=some u->b≠it:=λb u e z=>by rw[z,hn]at e;cases e
 refine I.step (g':=s.gens) (d':=s.drawn) (ch:=[it]) (λb hb=>?_) (λb o _ _ hc e _=>k b o (λz=>hc (by simp[z])) e) (λb o _ _ hc e _=>⟨o.slots,k b o (λz=>hc (by simp[z])) e⟩) (λ_ _ _ _ n=>n)
  (λb o hc e=>⟨o,k b o (λz=>hc (by simp[z])) e⟩) (λ_ _ e=>e) (λ_ _ _ e=>e) (λb ps e=>⟨#[],by rw[e];simp⟩) (λm hm=>?_) (λb u e=>?_) I.bare
 ·have e:b=it:=by simpa using hb
  subst e;exact⟨h1,hL,h2,h3⟩
 ·obtain⟨o,es,ep,ho,r⟩:=hm;exact⟨o,es,ep,k _ o (Ne.symm hL) ho,r⟩
 ·refine(I.hok b u e).stay (λc v hc q=>k c v ?_ q) (λ_ q=>q) λ_ _ q=>q;rcases hc with z | z
  ·rw[z];exact nit b u e
  ·exact nit c _ z
theorem Inv.tok(I:Inv X pins σ H s)(t:Nat):Inv X pins σ H { s with toks:=t }:=I.un (h':=s.heap) (t':=t) Un.refl I.hok
theorem Inv.kept{t':Nat}(I:Inv X pins σ H s)(k:∀b u,s.heap.get? b=some u->h'.get? b=some u):Inv X pins σ H { s with heap:=h',toks:=t' }:=I.un (Un.kept k) (I.hok.kept k)
theorem Inv.laid{a:AH}{o:HO}{t':Nat}(I:Inv X pins σ H s)(k:∀b u,s.heap.get? b=some u->h'.get? b=some u)(hp:s.heap.objs.size<=a)(new:kj X.prog X.w (upd H a o) h' a o):
  Inv X pins σ (upd H a o) { s with heap:=h',toks:=t' }:=I.un (Un.laid k hp (I.hok.fresh hp)) (I.hok.laid k hp new)
theorem Inv.write{x e:AH}{o:HO}{t':Nat}(I:Inv X pins σ H s)(mu:Mut (H x))(he:e=x\/H e=some (.own x))(k:∀b u,b≠e->s.heap.get? b=some u->h'.get? b=some u)(heo:∃u,h'.get? e=some u)
  (new:kj X.prog X.w (upd H x o) h' x o):Inv X pins σ (upd H x o) { s with heap:=h',toks:=t' }:=I.un (Un.write mu he k heo) (I.hok.write mu he k heo new)
theorem Inv.DK{Zts:At}(I:Inv X pins σ H s)(h:∀p∈Zts,s.heap.get? p.1=some p.2/\H p.1=none/\p.1≠X.env.locals/\p.1∉X.fs/\∀v,p.2.data≠.cell v):Inv X Zts σ H s:=
 ⟨I.ok,I.os,I.bare,I.base,I.loc,I.cell,I.free,I.vz,λp hp=>(List.mem_append.mp hp).elim (λz=>I.pin p (List.mem_append_left _ z)) (h p),I.hok,I.len⟩
theorem Zcj{N:AG}(hN:N.Nodup){i j:Nat}{x:Str}(a:N[i]? =some x)(b:N[j]? =some x):i=j:=by
 obtain⟨h1,e1⟩:=fH a;obtain⟨h2,e2⟩:=fH b;exact(List.getElem_inj hN).mp (e1.trans e2.symm)
theorem Zjc{M:Model}{A:Around}{E:Ap}{i:Nat}{x:Str}{v:V}{u:AI}{Q:Unit->AJ->Prop}(I:Inv X pins σ H s)(hN:X.N.Nodup)(hi:X.N[i]? =some x)(hx:Loc X.env.scope x)(r:RelV v u)
  (h:∀s',Inv X pins (σ.set i (some v)) H s'->(∃a,Heap.SameBut a s.heap s'.heap/\(a=X.env.locals\/X.env.cells.lookup x=some a))->Q () s') (hf:X.fn x=true\/X.env.scope.names.lookup x=some .local:=by first | exact .inl rfl | exact .inr rfl | assumption):wpAny M A (storeName X.env x u) Q E s:=by
 obtain⟨m,hn,hl⟩:=id I.loc;have hcls:(X.env.scope.kind == .class || (X.env.scope.kind == .module && X.env.locals != X.env.globals))=false:=by rw[I.ok.kind];rfl
 have hiσ:i < σ.length:=by rw[I.len];exact(fH hi).1
 have cne:=I.cne;have tracked:∀{a:AH}{h':Heap},(∃o,s.heap.get? a=some o/\H a=none)->Heap.SameBut a s.heap h'->Dv X.prog X.w H h':=λ{a h'} ha hs b ob e=>by
  obtain⟨_,_,hfree⟩:=ha;refine(I.hok b ob e).stay (λc w' hc q=>(hs.2 c ?_).trans q) (λ_ q=>q) λ_ _ q=>q;rintro rfl;rcases hc with rfl | hc
  ·rw[hfree]at e;cases e
  ·rw[hfree]at hc;cases hc
 rcases hx with hk | hk
 ·refine wpAny_storeName_local hk hn (λh' hn' hs=>?_) hcls;obtain⟨oL,_,_,hoL,_⟩:=id hn;refine h _ ⟨I.ok,I.os,I.bare,⟨λb o e n hb hx=>?_,λb o e n hb hx=>?_,I.base.free,λb o e hx=>?_,I.base.tups,I.base.Lz,I.base.NT⟩,⟨_,hn',λj y v' e1 e2 e3=>?_⟩,λy c e=>?_,I.free,I.vz,λp hp=>?_,tracked ⟨oL,hoL,I.free⟩ hs,by simpa using I.len⟩ ⟨_,hs,.inl rfl⟩
  ·exact(hs.2 b (Nat.ne_of_lt (Nat.lt_of_lt_of_le (Heap.lt_size e) I.ok.above))).trans (I.base.keep b o e n hb hx)
  ·obtain⟨sl,e1⟩:=I.base.slot b o e n hb hx;exact⟨sl,(hs.2 b (Nat.ne_of_lt (Nat.lt_of_lt_of_le (Heap.lt_size e) I.ok.above))).trans e1⟩
  ·obtain⟨o',e1⟩:=I.base.there b o e hx;exact⟨o',(hs.2 b (Nat.ne_of_lt (Nat.lt_of_lt_of_le (Heap.lt_size e) I.ok.above))).trans e1⟩
  ·by_cases hj:j=i
   ·subst hj;rw[hi]at e1;cases e1;rw[List.getElem?_set_self hiσ]at e2;cases e2;exact⟨u,r,.inl ⟨hk,ζ⟩⟩
   ·rw[List.getElem?_set_ne (Ne.symm hj)]at e2;obtain⟨u',r',q⟩:=hl j y v' e1 e2 e3;refine⟨u',r',?_⟩;rcases q with ⟨k,e⟩ | ⟨k,c,e,z⟩
    ·refine .inl ⟨k,?_⟩;have:y≠x:=λe=>hj (Zcj hN e1 (e ▸ hi));simp[this,e]
    ·exact .inr ⟨k,c,e,z.sameBut hs (cne y c e)⟩
  ·obtain⟨w',z⟩:=I.cell y c e;exact⟨w',z.sameBut hs (cne y c e)⟩
  ·obtain⟨e,n,ne,nf,d⟩:=I.pin p hp;exact⟨(hs.2 p.1 ne).trans e,n,ne,nf,d⟩
 ·have hfn:X.fn x=true:=by
   rcases hf with z | z
   ·exact z
   ·rw[z]at hk;cases hk
  obtain⟨c,hc⟩:=I.ok.has x (.inl hk);obtain⟨w',z⟩:=I.cell x c hc;refine wpAny_storeName_cell I.ok.kind hk hc z (λh' hc' hs=>?_);obtain⟨oc,hoc,ZAz⟩:=id z;refine h { s with heap:=h' } ⟨I.ok,I.os,I.bare,⟨λb o e n hb hx=>?_,λb o e n hb hx=>?_,I.base.free,λb o e hx=>?_,I.base.tups,I.base.Lz,I.base.NT⟩,⟨m,hn.sameBut hs (Ne.symm (cne x c hc)),λj y v' e1 e2 e3=>?_⟩,λy c' e=>?_,I.free,I.vz,λp hp=>?_,tracked ⟨oc,hoc,I.vz x c hc⟩ hs,by simpa using I.len⟩ ⟨c,hs,.inr hc⟩
  ·exact(hs.2 b (Nat.ne_of_lt (Nat.lt_of_lt_of_le (Heap.lt_size e) (I.ok.cab x c hfn hc)))).trans (I.base.keep b o e n hb hx)
  ·obtain⟨sl,e1⟩:=I.base.slot b o e n hb hx;exact⟨sl,(hs.2 b (Nat.ne_of_lt (Nat.lt_of_lt_of_le (Heap.lt_size e) (I.ok.cab x c hfn hc)))).trans e1⟩
  ·obtain⟨o',e1⟩:=I.base.there b o e hx;exact⟨o',(hs.2 b (Nat.ne_of_lt (Nat.lt_of_lt_of_le (Heap.lt_size e) (I.ok.cab x c hfn hc)))).trans e1⟩
  ·by_cases hj:j=i
   ·subst hj;rw[hi]at e1;cases e1;rw[List.getElem?_set_self hiσ]at e2;cases e2;exact⟨u,r,.inr ⟨.inl hk,c,hc,hc'⟩⟩
   ·rw[List.getElem?_set_ne (Ne.symm hj)]at e2;obtain⟨u',r',q⟩:=hl j y v' e1 e2 e3;refine⟨u',r',?_⟩;rcases q with q | ⟨k,c',e,z'⟩
    ·exact .inl q
    ·refine .inr ⟨k,c',e,z'.sameBut hs ?_⟩;rintro rfl;exact hj (Zcj hN e1 (I.ok.inj _ _ _ e hc ▸ hi))
  ·by_cases hcc:c'=c
   ·subst hcc;exact⟨_,hc'⟩
   ·obtain⟨w2,z2⟩:=I.cell y c' e;exact⟨w2,z2.sameBut hs hcc⟩
  ·obtain⟨e,n,ne,nf,d⟩:=I.pin p hp;refine⟨(hs.2 p.1 ?_).trans e,n,ne,nf,d⟩;intro q;rw[q,hoc]at e;have q':oc=p.2:=Option.some.inj e;exact d w' (by rw[<- q'];exact ZAz)
theorem GX{M:Model}{A:Around}{E:Ap}{i:Nat}{x:Str}{v:V}{u:AI}{Q:Unit->AJ->Prop}(I:Inv X pins σ H s)(hN:X.N.Nodup)(hi:X.N[i]? =some x)(hx:Loc X.env.scope x)(r:RelV v u)
  (h:∀s',Inv X pins (σ.set i (some v)) H s'->Q () s') (hf:X.fn x=true\/X.env.scope.names.lookup x=some .local:=by first | exact .inl rfl | exact .inr rfl | assumption):wpAny M A (storeName X.env x u) Q E s:=
 Zjc I hN hi hx r (λs' I' _=>h s' I') hf
theorem Inv.call'{s':AJ}{ch:AE}(I:Inv X pins σ H s)(ho:s'.os=s.os)(u:Un (frs X.stack) ch H H' s.heap s'.heap)(hok:Dv X.prog X.w H' s'.heap)(hg:AllBare s'.gens)
  (hch:∀b∈ch,(b∈X.ex\/X.s₀.heap.objs.size<=b)/\b≠X.env.locals/\(∀x c,X.env.cells.lookup x=some c->c≠b)/\∀p∈X.pn++pins,p.1≠b):Inv X pins σ H' s':=by
 obtain⟨h',g',d',t',o'⟩:=s';have e:o'=s.os:=ho;subst e;exact I.call (g':=g') (t':=t') (d':=d') u hok hg hch
end
abbrev XK:=AI->Option AH->Hp->Prop
abbrev St:=List (Option V)
abbrev VK:=V->Hp->Prop
abbrev TE:=St->Hp->VK->Prop
abbrev TT:=St->Hp->(Bool->Hp->Prop)->Prop
abbrev TA:=St->Hp->(List V->Hp->Prop)->Prop
structure Ends where
 nx:ν
 rt:VK
 bk:ν:=λ_ _=>False
 ct:ν:=λ_ _=>False
abbrev TS:=Ends->ν
def EP(X:Cx)(pins:At)(σ:St)(Q:VK)(u:AI)(s':AJ):Prop:=∃v H',Inv X pins σ H' s'/\RelV v u/\Q v H'
def TP(X:Cx)(pins:At)(σ:St)(Q:Bool->Hp->Prop)(b:Bool)(s':AJ):Prop:=∃H',Inv X pins σ H' s'/\Q b H'
def AP(X:Cx)(pins:At)(σ:St)(Q:List V->Hp->Prop)(us:AC)(s':AJ):Prop:=∃vs H',Inv X pins σ H' s'/\Vals vs us/\Q vs H'
def SP(X:Cx)(pins:At)(D:Ends)(f:Flow)(s':AJ):Prop:=
 match f with
 | .next=>∃ σ' H',Inv X pins σ' H' s'/\D.nx σ' H'
 | .brk=>∃ σ' H',Inv X pins σ' H' s'/\D.bk σ' H'
 | .cont=>∃ σ' H',Inv X pins σ' H' s'/\D.ct σ' H'
 | .ret u=>∃v σ' H',Inv X pins σ' H' s'/\RelV v u/\D.rt v H'
def PE(X:Cx)(e:AM)(t:TE):Prop:=
 ∀(pins:At) (s:AJ) (σ:St) (H:Hp) (Q:VK),Inv X pins σ H s->t σ H Q->wpAny ς X.A (eval e X.env) (EP X pins σ Q) X.xe s
def PT(X:Cx)(e:AM)(t:TT):Prop:=
 ∀(pins:At) (s:AJ) (σ:St) (H:Hp) (Q:Bool->Hp->Prop),Inv X pins σ H s->t σ H Q->wpAny ς X.A (isTrue e X.env (eval e X.env)) (TP X pins σ Q) X.xe s
def PW(X:Cx)(e:AM)(t:TT):Prop:=
 ∀(whole:Sem AI) (pins:At) (s:AJ) (σ:St) (H:Hp) (Q:Bool->Hp->Prop),Inv X pins σ H s->t σ H Q->wpAny ς X.A (isTrue e X.env whole) (TP X pins σ Q) X.xe s
theorem PW.pt{X:Cx}{e:AM}{t:TT}(h:PW X e t):PT X e t:=h _
def PA(X:Cx)(es:AF)(t:TA):Prop:=
 ∀(pos:Pos) (pins:At) (s:AJ) (σ:St) (H:Hp) (Q:List V->Hp->Prop),Inv X pins σ H s->t σ H Q->wpAny ς X.A (spliced (backTo pos (starEach es X.env))) (AP X pins σ Q) X.xe s
def PS(X:Cx)(st:Stmt)(t:TS):Prop:=
 ∀(pins:At) (s:AJ) (σ:St) (H:Hp) (D:Ends),Inv X pins σ H s->t D σ H->wpAny ς X.A (exec st X.env) (SP X pins D) X.xe s
def PSs(X:Cx)(st:List Stmt)(t:TS):Prop:=
 ∀(pins:At) (s:AJ) (σ:St) (H:Hp) (D:Ends),Inv X pins σ H s->t D σ H->wpAny ς X.A (execs st X.env) (SP X pins D) X.xe s
theorem jw{α:Type}{t:Sem α}{Q Q':α->AJ->Prop}{M:Model}{A:Around}{E:Ap}{s:AJ}(h:wpAny M A t Q E s)(hQ:∀a s,Q a s->Q' a s):wpAny M A t Q' E s:=wpAny_mono h hQ λ_ _ x=>x
section
variable {X:Cx}
def ak(i:Nat):TE:=λσ H Q=>∃v,σ[i]? =some (some v)/\Q v H
def tC(v:V):TE:=λ_ H Q=>Q v H
theorem Zmu{i:Nat}{x:Str}{pos:Pos}(hN:X.N[i]? =some x)(hv:Vis X.env.scope x)(hd:(x == ("__debug__":Str))=false:=by decide)(hcd:(x == ("__classdict__":Str))=false:=by decide):PE X (.Name x pos) (ak i):=by
 intro pins s σ H Q I h;obtain⟨v,e,h⟩:=h;obtain⟨m,hn,hl⟩:=I.loc;obtain⟨u,r,l⟩:=hl i x v hN e hv;have fin:EP X pins σ Q u s:=⟨v,H,I,r,h⟩;rcases l with ⟨hk,hm⟩ | ⟨hk,c,hc,hcell⟩
 ·exact wpAny_Name (wpAny_loadName_local I.ok.kind hk hn hm fin) hd
 ·rcases hk with hk | hk
  ·exact wpAny_Name (wpAny_loadName_cell I.ok.kind hk hc hcell fin) hd
  ·exact wpAny_Name (wpAny_loadName_free I.ok.kind hk hc hcell fin hcd) hd
theorem az{i j pos}:PE X (.Constant (.int i) j pos) (tC (.int i)):=λ_ _ _ H _ I h=>wpAny_Constant_int ⟨.int i,H,I.tok _,⟨_,rfl⟩,h⟩
theorem qz{b j pos}:PE X (.Constant (.bool b) j pos) (tC (.bl b)):=λ_ _ _ H _ I h=>Constant_bool ⟨.bl b,H,I,rfl,h⟩
theorem gf{j pos}:PE X (.Constant .none j pos) (tC .non):=λ_ _ _ H _ I h=>Constant_none ⟨.non,H,I,rfl,h⟩
theorem aQ{x j pos}:PE X (.Constant (.str x) j pos) (tC (.str x)):=λ_ _ _ H _ I h=>Calls.Constant_str ⟨.str x,H,I.tok _,⟨_,rfl⟩,h⟩
def Gl(X:Cx)(x:Str):Prop:=X.env.kindOf x=some .globalImplicit
theorem uA{E:Ap}{pins:At}{s:AJ}{σ:St}{H:Hp}{x:Str}{u:AI}{pos:Pos}{Q:Ap}(I:Inv X pins σ H s)(hg:Gl X x)(hm:X.mg x=some u)(h:Q u s)
  (hd:(x == ("__debug__":Str))=false:=by decide):wpAny ς X.A (eval (.Name x pos) X.env) Q E s:=
 Calls.Name_function_global I.ok.kind hg (Calls.loadGlobal_global (by rw[I.ok.glob];exact I.mod.glob.keeps I.bk) hm h) hd
theorem Gj{E:Ap}{pins:At}{s:AJ}{σ:St}{H:Hp}{x:Str}{u:AI}{pos:Pos}{Q:Ap}(I:Inv X pins σ H s)(hg:Gl X x)(hm:X.mg x=none)(hv:bootBuiltins x=some u)(h:Q u s)
  (hn:x≠"__name__":=by decide) (hd:(x == ("__debug__":Str))=false:=by decide):wpAny ς X.A (eval (.Name x pos) X.env) Q E s:=by
 obtain⟨mb,h1,h2⟩:=I.mod.blt;exact Calls.Name_function_global I.ok.kind hg (Calls.loadGlobal_builtin (by rw[I.ok.glob];exact I.mod.glob.keeps I.bk) hm (by rw[I.ok.blt];exact h1.keeps I.bk) ((h2 x hn).trans hv) h) hd
theorem Zre{x:Str}{v:V}{u:AI}{pos:Pos}(hg:Gl X x)(hm:X.mg x=some u)(r:RelV v u)(hd:(x == ("__debug__":Str))=false:=by decide):PE X (.Name x pos) (tC v):=
 λ_ _ _ H _ I h=>uA I hg hm ⟨v,H,I,r,h⟩ hd
theorem HN{x:Str}{v:V}{u:AI}{pos:Pos}(hg:Gl X x)(hm:X.mg x=none)(hv:bootBuiltins x=some u)(r:RelV v u)(hn:x≠"__name__":=by decide)(hd:(x == ("__debug__":Str))=false:=by decide):PE X (.Name x pos) (tC v):=
 λ_ _ _ H _ I h=>Gj I hg hm hv ⟨v,H,I,r,h⟩ hn hd
variable {a b:AM}{ta tb:TE}{pos:Pos}
def PC(X:Cx)(op:CmpOp)(a b:AM)(t:TE):Prop:=
 ∀(pins:At) (s:AJ) (σ:St) (H:Hp) (Q:VK),Inv X pins σ H s->t σ H Q->
  wpAny ς X.A (eval a X.env) (λv s₁=>wpAny ς X.A (eval b X.env) (λu s₂=>wpAny ς X.A (compareOp op v u) (EP X pins σ Q) X.xe s₂) X.xe s₁) X.xe s
theorem Znd(b:AM){op:CmpOp}(h:op≠.In)(h2:op≠.NotIn):behindInMarks op b=false:=by
 have e1:(op == CmpOp.In)=false:=by cases op<;>first | rfl | exact absurd rfl h
 have e2:(op == CmpOp.NotIn)=false:=by cases op<;>first | rfl | exact absurd rfl h2
 cases b<;>simp[behindInMarks,e1,e2]
def tB(t:TE):TT:=λσ H Q=>t σ H λx H1=>∃c,x=.bl c/\Q c H1
theorem Zml{op:CmpOp}{t:TE}(h:PC X op a b t)(h1:behindInMarks op b=false:=by first | exact Znd _ ε ε | rfl):PT X (.Compare a [op] [b] pos) (tB t):=by
 intro pins s σ H Q I hw;refine wpAny_isTrue_Compare1 (jw (h pins s σ H _ I hw) λv s1 h1=>jw h1 λu s2 h2=>jw h2 λc s3 ⟨x,H1,I1,r1,q1⟩=>?_) h1;obtain⟨d,rfl,q⟩:=q1;cases r1;exact wpAny_truthy_bool ⟨H1,I1,q⟩
theorem lK{e:AM}{t:TE}(h:PE X e t)(he:∀whole,isTrue e X.env whole=(do let v <- whole;standAt e.pos;holding [v] (truthy v)):=by intro _;rfl):PT X e (tB t):=by
 intro pins s σ H Q I hw;refine isTrue_plain (jw (h pins s σ H _ I hw) λv s1 ⟨x,H1,I1,r1,q1⟩=>?_) (he _);obtain⟨d,rfl,q⟩:=q1;cases r1;exact wpAny_truthy_bool ⟨H1,I1,q⟩
variable {tA tB':TT}{rest:AF}
def Tj(t u:TT):TT:=λσ H Q=>t σ H λc H1=>if c=true then u σ H1 Q else Q false H1
def Wr(t u:TT):TT:=λσ H Q=>t σ H λc H1=>if c=true then Q true H1 else u σ H1 Q
def DY(t:TT):TT:=λσ H Q=>t σ H λc H1=>Q (!c) H1
theorem zZ(ha:PT X a tA):PW X (.BoolOp .And [a] pos) tA:=by
 intro wh pins s σ H Q I h;refine isTrue_and (jw (ha pins s σ H Q I h) λc s1 e=>?_);cases c with
 | true=>exact isTrue_and_nil e
 | false=>exact e
theorem qw(ha:PT X a tA):PW X (.BoolOp .Or [a] pos) tA:=by
 intro wh pins s σ H Q I h;refine isTrue_or (jw (ha pins s σ H Q I h) λc s1 e=>?_);cases c with
 | false=>exact isTrue_or_nil e
 | true=>exact e
theorem Ge(ha:PT X a tA)(hb:PW X (.BoolOp .And (b::rest) pos) tB'):PW X (.BoolOp .And (a::b::rest) pos) (Tj tA tB'):=by
 intro wh pins s σ H Q I h;refine isTrue_and (jw (ha pins s σ H _ I h) λc s1 ⟨H1,I1,q1⟩=>?_);cases c with
 | true=>exact hb wh pins s1 σ H1 Q I1 q1
 | false=>exact⟨H1,I1,q1⟩
theorem qU(ha:PT X a tA)(hb:PW X (.BoolOp .Or (b::rest) pos) tB'):PW X (.BoolOp .Or (a::b::rest) pos) (Wr tA tB'):=by
 intro wh pins s σ H Q I h;refine isTrue_or (jw (ha pins s σ H _ I h) λc s1 ⟨H1,I1,q1⟩=>?_);cases c with
 | true=>exact⟨H1,I1,q1⟩
 | false=>exact hb wh pins s1 σ H1 Q I1 q1
theorem qx(ha:PT X a tA):PT X (.UnaryOp .Not a pos) (DY tA):=by
 intro pins s σ H Q I h;exact isTrue_not (ha pins s σ H (λc H1=>Q (!c) H1) I h)
def Qe(ta tb:TE):TE:=λσ H Q=>ta σ H λx H1=>∃c,x=.bl c/\if c=true then tb σ H1 Q else Q (.bl false) H1
def Zq3(ta tb:TE):TE:=λσ H Q=>ta σ H λx H1=>∃c,x=.bl c/\if c=true then Q (.bl true) H1 else tb σ H1 Q
def Zi4(ta:TE):TE:=λσ H Q=>ta σ H λx H1=>∃c,x=.bl c/\Q (.bl (!c)) H1
theorem Kq{op}{t:TE}(h:PE X a t):PE X (.BoolOp op [a] pos) t:=λpins s σ H Q I hw=>BoolOp_one (h pins s σ H Q I hw)
theorem YM(ha:PE X a ta)(hb:PE X (.BoolOp .And (b::rest) pos) tb):PE X (.BoolOp .And (a::b::rest) pos) (Qe ta tb):=by
 intro pins s σ H Q I h;refine BoolOp_and (jw (ha pins s σ H _ I h) λv s1 ⟨x,H1,I1,r1,q1⟩=>?_);obtain⟨c,rfl,q1⟩:=q1;cases r1;refine wpAny_truthy_bool ?_;cases c with
 | true=>exact hb pins s1 σ H1 Q I1 q1
 | false=>exact⟨.bl false,H1,I1,rfl,q1⟩
theorem Ztt(ha:PE X a ta)(hb:PE X (.BoolOp .Or (b::rest) pos) tb):PE X (.BoolOp .Or (a::b::rest) pos) (Zq3 ta tb):=by
 intro pins s σ H Q I h;refine BoolOp_or (jw (ha pins s σ H _ I h) λv s1 ⟨x,H1,I1,r1,q1⟩=>?_);obtain⟨c,rfl,q1⟩:=q1;cases r1;refine wpAny_truthy_bool ?_;cases c with
 | false=>exact hb pins s1 σ H1 Q I1 q1
 | true=>exact⟨.bl true,H1,I1,rfl,q1⟩
theorem Zmw(ha:PE X a ta):PE X (.UnaryOp .Not a pos) (Zi4 ta):=by
 intro pins s σ H Q I h;refine UnaryOp_ (jw (ha pins s σ H _ I h) λv s1 ⟨x,H1,I1,r1,q1⟩=>?_);obtain⟨c,rfl,q1⟩:=q1;cases r1;exact not_of (wpAny_truthy_bool ⟨.bl (!c),H1,I1,rfl,q1⟩)
end
def cC(K:aC)(H:Hp)(a:AH)(xs:List V):Prop:=
 Rd H a (.lst xs)\/
  ∃(o:Obj) (its:Array AI) (n:Nat),K.lookup a=some o/\o.cls=.type "list"/\o.dict=none/\o.data=.seq its n/\its.size<=sizeLine/\Vals xs its.toList
def fM(K:aC)(H:Hp)(a:AH)(xs:List V):Prop:=
 Rd H a (.tup xs)\/
  ∃(o:Obj) (its:Array AI) (n:Nat),K.lookup a=some o/\o.cls=.type "tuple"/\o.data=.seq its n/\its.size<=sizeLine/\Vals xs its.toList
def ZI8:AI->Option V
 | .none=>some .non
 | .bool b=>some (.bl b)
 | .int i _=>some (.int i)
 | .str x _=>some (.str x)
 | .bytes b _=>some (.byt b)
 | .float b _=>some (.flt b)
 | .ref a=>↑a
 | .type n=>some (.ty n)
 | _=>none
theorem RelV.abs{x:V}{u:AI}(r:RelV x u):ZI8 u=some x:=by
 cases x with
 | non=>cases r;rfl
 | bl _=>cases r;rfl
 | int _=>obtain⟨t,rfl⟩:=r;rfl
 | str _=>obtain⟨t,rfl⟩:=r;rfl
 | byt _=>obtain⟨t,rfl⟩:=r;rfl
 | flt _=>obtain⟨t,rfl⟩:=r;rfl
 | ref _=>cases r;rfl
 | ty _=>cases r;rfl
theorem RelV.inj{x y:V}{u:AI}(r:RelV x u)(q:RelV y u):x=y:=Option.some.inj (r.abs.symm.trans q.abs)
theorem Vals.inj:∀{xs ys:List V}{us:AC},Vals xs us->Vals ys us->xs=ys
 | _,_,_,.nil,.nil=>rfl
 | _,_,_,.cons r t,.cons r' t'=>by rw[r.inj r',Vals.inj t t']
section
variable {X:Cx}{pins:At}{σ:St}{H:Hp}{s:AJ}{a:AH}{xs ys:List V}
theorem cC.of{K:aC}(h:H a=some (.lst xs)):cC K H a xs:=.inl (.inl h)
theorem fM.of{K:aC}(h:H a=some (.tup xs)):fM K H a xs:=.inl (.inl h)
theorem Inv.list(I:Inv X pins σ H s)(h:cC X.K H a xs):∃its:AC,Vals xs its/\PlainL s.heap a its.toArray/\xs.length<=sizeLine:=by
 rcases h with h | ⟨o,its,n,hk,hc,hd,hs,hz,r⟩
 ·obtain⟨z,its,n,r,e⟩:=h.ok I.hok;exact⟨its,r,⟨_,n,e,rfl,rfl,rfl⟩,z⟩
 ·refine⟨its.toList,r,⟨o,n,I.Dk a o hk,hc,hd,by simpa using hs⟩,?_⟩;have e:=r.length;simp only[Array.length_toList]at e;omega
theorem Inv.tuple(I:Inv X pins σ H s)(h:fM X.K H a xs):∃its:AC,Vals xs its/\IsTup s.heap a its.toArray/\xs.length<=sizeLine:=by
 rcases h with h | ⟨o,its,n,hk,hc,hs,hz,r⟩
 ·obtain⟨z,its,r,p⟩:=h.ok I.hok;exact⟨its,r,p,z⟩
 ·refine⟨its.toList,r,⟨o,I.Dk a o hk,hc,n,by simpa using hs⟩,?_⟩;have e:=r.length;simp only[Array.length_toList]at e;omega
theorem Inv.Zcr(I:Inv X pins σ H s)(h:cC X.K H a xs)(h':cC X.K H a ys):xs=ys:=by
 obtain⟨its,r,⟨o,n,e,_,_,d⟩,_⟩:=I.list h;obtain⟨its',r',⟨o',n',e',_,_,d'⟩,_⟩:=I.list h';rw[e]at e';cases e';rw[d]at d'
 injection d' with d1 _
 have:its=its':=by simpa using congrArg Array.toList d1
 subst this;exact r.inj r'
end
abbrev Cx.wish(X:Cx)(E:Ap):Cx:={ X with xe:=E }
abbrev Cx.nox(X:Cx):Cx:=X.wish λ_ _=>False
theorem Cx.Ok.wish{X:Cx}(ok:X.Ok)(E:Ap):(X.wish E).Ok:=
 ⟨ok.mod,ok.kind,ok.glob,ok.blt,ok.above,ok.inj,ok.has,ok.cab,ok.hd,ok.frames,ok.stk,ok.exf,ok.bs,ok.bsz,ok.Zch,ok.Zhd,ok.Am,ok.frf⟩
theorem Cx.Ok.Bp{X:Cx}{E:Ap}(ok:(X.wish E).Ok):X.Ok:=
 ⟨ok.mod,ok.kind,ok.glob,ok.blt,ok.above,ok.inj,ok.has,ok.cab,ok.hd,ok.frames,ok.stk,ok.exf,ok.bs,ok.bsz,ok.Zch,ok.Zhd,ok.Am,ok.frf⟩
section
variable {X:Cx}{pins:At}{σ:St}{H:Hp}{s:AJ}{E:Ap}
theorem Inv.wish(I:Inv X pins σ H s)(E:Ap):Inv (X.wish E) pins σ H s:=⟨I.ok.wish E,I.os,I.bare,I.base,I.loc,I.cell,I.free,I.vz,I.pin,I.hok,I.len⟩
theorem Inv.Bp(I:Inv (X.wish E) pins σ H s):Inv X pins σ H s:=⟨I.ok.Bp,I.os,I.bare,I.base,I.loc,I.cell,I.free,I.vz,I.pin,I.hok,I.len⟩
theorem SP.Bp{D:Ends}{f:Flow}{s':AJ}(h:SP (X.wish E) pins D f s'):SP X pins D f s':=by
 cases f with
 | next=>obtain⟨σ',H',I,q⟩:=h;exact⟨σ',H',I.Bp,q⟩
 | brk=>obtain⟨σ',H',I,q⟩:=h;exact⟨σ',H',I.Bp,q⟩
 | cont=>obtain⟨σ',H',I,q⟩:=h;exact⟨σ',H',I.Bp,q⟩
 | ret u=>obtain⟨v,σ',H',I,r,q⟩:=h;exact⟨v,σ',H',I.Bp,r,q⟩
theorem PSs.nox{st:List Stmt}{t:TS}(h:PSs X.nox st t):PSs X st t:=λpins s σ H D I hw=>
 wpAny_mono (h pins s σ H D (I.wish _) hw) (λ_ _ q=>q.Bp) λ_ _ z=>False.elim z
end
section
variable {X:Cx}{st:Stmt}{rest:List Stmt}{t u:TS}{e:AM}{te:TE}{pos:Pos}
def bY:TS:=λD σ H=>D.nx σ H
def aN(t u:TS):TS:=λD σ H=>t { D with nx:=u D } σ H
theorem aZ:PSs X [] bY:=λ_ _ σ H _ I h=>wpAny_execs_nil ⟨σ,H,I,h⟩
theorem ao(h1:PS X st t)(h2:PSs X rest u):PSs X (st::rest) (aN t u):=by
 intro pins s σ H D I h;refine wpAny_execs_cons (jw (h1 pins s σ H { D with nx:=u D } I h) λf s1 q=>?_);cases f with
 | next=>
  obtain⟨σ',H',I',q⟩:=q;exact h2 pins s1 σ' H' D I' q
 | ret v=>exact q
 | brk=>exact q
 | cont=>exact q
theorem aA(h1:PS X st t):PSs X [st] t:=by
 intro pins s σ H D I h;refine wpAny_execs_cons (jw (h1 pins s σ H D I h) λf s1 q=>?_);cases f with
 | next=>exact wpAny_execs_nil q
 | ret v=>exact q
 | brk=>exact q
 | cont=>exact q
theorem Inv.quiet{pins:At}{σ:St}{H:Hp}{s:AJ}(I:Inv X pins σ H s):interactive X.env=false:=by simp[interactive,I.ok.kind]
def uh(te:TE):TS:=λD σ H=>te σ H λ_ H1=>D.nx σ H1
theorem oJ(he:PE X e te)(hs:swapsWith e none pos.line X.env=pure false:=by rfl):PS X (.Expr e pos) (uh te):=by
 intro pins s σ H D I h;exact wpAny_Expr_any (jw (he pins s σ H _ I h) λv s1 ⟨x,H1,I1,r1,q1⟩=>⟨σ,H1,I1,q1⟩) I.quiet hs
def bH(te:TE):TS:=λD σ H=>te σ H D.rt
theorem aM(he:PE X e te):PS X (.Return (some e) pos) (bH te):=by
 intro pins s σ H D I h;exact wpAny_Return_some (jw (he pins s σ H _ I h) λv s1 ⟨x,H1,I1,r1,q1⟩=>⟨x,σ,H1,I1,r1,q1⟩)
def dX(c:TT)(t u:TS):TS:=λD σ H=>c σ H λb H1=>if b=true then t D σ H1 else u D σ H1
theorem cB{c:AM}{a b:List Stmt}{tc:TT}(hc:PT X c tc)(ha:PSs X a t)(hb:PSs X b u):PS X (.If c a b pos) (dX tc t u):=by
 intro pins s σ H D I h;refine wpAny_If (jw (hc pins s σ H _ I h) λd s1 ⟨H1,I1,q1⟩=>?_);cases d with
 | true=>exact ha pins s1 σ H1 D I1 q1
 | false=>exact hb pins s1 σ H1 D I1 q1
end
abbrev TG:=V->St->Hp->(ν)->Prop
abbrev TGs:=List V->St->Hp->(ν)->Prop
def PG(X:Cx)(target:AM)(t:TG):Prop:=
 ∀(pins:At) (s:AJ) (σ:St) (H:Hp) (v:V) (u:AI) (Q:ν),Inv X pins σ H s->RelV v u->t v σ H Q->
  wpAny ς X.A (assign target X.env u) (λ_ s'=>∃ σ' H',Inv X pins σ' H' s'/\Q σ' H') X.xe s
def PGs(X:Cx)(ts:AF)(t:TGs):Prop:=
 ∀(pins:At) (s:AJ) (σ:St) (H:Hp) (vs:List V) (us:AC) (Q:ν),Inv X pins σ H s->Vals vs us->t vs σ H Q->
  wpAny ς X.A (assignInOrder ((assignEach ts X.env).map (·.2)) us) (λ_ s'=>∃ σ' H',Inv X pins σ' H' s'/\Q σ' H') X.xe s
abbrev Zlm:=V->V->V->Hp->(Hp->Prop)->Prop
def Zx8(X:Cx)(t:Zlm):Prop:=
 ∀(pins:At) (s:AJ) (σ:St) (H:Hp) (o i v:V) (ov iv u:AI) (Q:Hp->Prop),Inv X pins σ H s->RelV o ov->RelV i iv->RelV v u->t o i v H Q->
  wpAny ς X.A (setItem ov iv u) (λ_ s'=>∃H',Inv X pins σ H' s'/\Q H') X.xe s
abbrev TIp:=V->V->Hp->VK->Prop
def PIp(X:Cx)(op:Operator)(t:TIp):Prop:=
 ∀(pins:At) (s:AJ) (σ:St) (H:Hp) (x y:V) (v u:AI) (Q:VK),Inv X pins σ H s->RelV x v->RelV y u->t x y H Q->
  wpAny ς X.A (inplaceOp op v u) (EP X pins σ Q) X.xe s
section
variable {X:Cx}{pos:Pos}
def aO(i:Nat):TG:=λv σ H Q=>Q (σ.set i (some v)) H
theorem gJ{i:Nat}{x:Str}(hN:X.N.Nodup)(hi:X.N[i]? =some x)(hx:Loc X.env.scope x)(hf:X.fn x=true\/X.env.scope.names.lookup x=some .local:=by first | exact .inl rfl | exact .inr rfl | assumption):PG X (.Name x pos) (aO i):=by
 intro pins s σ H v u Q I r h;exact wpAny_assign_Name (GX I hN hi hx r (λs' I'=>⟨_,H,I',h⟩) hf)
def Zl1:TGs:=λvs σ H Q=>vs=[]/\Q σ H
def yL(t:TG)(u:TGs):TGs:=λvs σ H Q=>∃v r,vs=v::r/\t v σ H λσ' H'=>u r σ' H' Q
theorem HJ:PGs X [] Zl1:=by
 intro pins s σ H vs us Q I r h;obtain⟨e,h⟩:=h;subst e;cases r;exact assignInOrder_nil ⟨σ,H,I,h⟩
theorem m7{e:AM}{es:AF}{t:TG}{u:TGs}(h1:PG X e t)(h2:PGs X es u)
  (hs:(assignEach (e::es) X.env).map (·.2)=assign e X.env::(assignEach es X.env).map (·.2):=by rfl):PGs X (e::es) (yL t u):=by
 intro pins s σ H vs us Q I r h;obtain⟨v,vr,e1,h⟩:=h;subst e1;cases r with
 | cons r rr=>
  rw[hs];refine assignInOrder_cons (jw (h1 pins s σ H _ _ _ I r h) λ_ s1 ⟨σ1,H1,I1,q1⟩=>?_);exact h2 pins s1 σ1 H1 _ _ Q I1 rr q1
def Zp0(K:aC)(n:Nat)(t:TGs):TG:=λv σ H Q=>∃a xs,v=.ref a/\fM K H a xs/\xs.length=n/\t xs σ H Q
theorem YL{es:AF}{k:Nat}{t:TGs}{n:Nat}(hc:X.calm=true)(h:PGs X es t)
  (hn:(assignEach es X.env).length=n:=by rfl) (hst:(assignEach es X.env).findIdx? (·.1)=none:=by rfl):PG X (.Tuple es k pos) (Zp0 X.K n t):=by
 intro pins s σ H v u Q I r hw;obtain⟨a,xs,e1,hq,hl,hw⟩:=hw;subst e1;cases r;obtain⟨its,rv,ht,hz⟩:=I.tuple hq;refine assign_Tuple_tuple (I.ok.hd hc) ht (by simp[hn,<- hl,rv.length]) hst λh' hx=>?_;have I1:Inv X pins σ H { s with heap:=h' }:=I.kept (t':=s.toks) λb o e=>hx b o (Nat.ne_of_lt (Heap.lt_size e)) e;exact h pins _ σ H xs _ Q I1 (by simpa using rv) hw
def Ov(to ti:TE)(t:Zlm):TG:=λv σ H Q=>to σ H λo H1=>ti σ H1 λi H2=>t o i v H2 λH3=>Q σ H3
theorem xT{o i:AM}{to ti:TE}{t:Zlm}(ho:PE X o to)(hi:PE X i ti)(hs:Zx8 X t)
  (ha:∀v,assign (.Subscript o i pos) X.env v=(do
   let ov <- holding [v] (eval o X.env)
   let iv <- holding [v,ov] (eval i X.env)
   standAt pos
   holding [v,ov,iv] (setItem ov iv v)
   release [v,ov,iv] []):=by intro _;rfl):PG X (.Subscript o i pos) (Ov to ti t):=by
 intro pins s σ H v u Q I r h;rw[ha];refine wpAny_bind (wpAny_holding (jw (ho pins s σ H _ I h) λov s1 ⟨x,H1,I1,r1,q1⟩=>?_));refine wpAny_bind (wpAny_holding (jw (hi pins s1 σ H1 _ I1 q1) λiv s2 ⟨y,H2,I2,r2,q2⟩=>?_));refine wpAny_bind (wpAny_standAt (wpAny_bind (wpAny_holding (jw (hs pins s2 σ H2 x y v ov iv u _ I2 r1 r2 r q2) λ_ s3 ⟨H3,I3,q3⟩=>?_))));exact wpAny_release ⟨σ,H3,I3,q3⟩
def bI(te:TE)(g:TG):TS:=λD σ H=>te σ H λx H1=>g x σ H1 D.nx
theorem u6{tg e:AM}{te:TE}{g:TG}(he:PE X e te)(hg:PG X tg g)(hs:swapsWithSole [tg] e pos.line X.env=pure false:=by rfl)(hw:swappedStores [tg] e X.env=pure none:=by rfl)
  (h1:(assignEach [tg] X.env).map (·.2)=[assign tg X.env]:=by rfl):PS X (.Assign [tg] e pos) (bI te g):=by
 intro pins s σ H D I h;refine wpAny_Assign_stores (jw (he pins s σ H _ I h) λv s1 ⟨x,H1,I1,r1,q1⟩=>?_) hs hw;rw[h1];exact jw (hg pins s1 σ H1 x v _ I1 r1 q1) λ_ s2 q=>q
theorem Zmn{i:Nat}{x:Str}{e:AM}{te:TE}{pos':Pos}(hN:X.N.Nodup)(hi:X.N[i]? =some x)(hx:Loc X.env.scope x)(he:PE X e te)(hs:swapsWith e (some (.Name x pos')) pos.line X.env=pure false:=by rfl)(hf:X.fn x=true\/X.env.scope.names.lookup x=some .local:=by first | exact .inl rfl | exact .inr rfl | assumption):
  PS X (.Assign [.Name x pos'] e pos) (bI te (aO i)):=by
 intro pins s σ H D I h;refine wpAny_Assign_Name (jw (he pins s σ H _ I h) λv s1 ⟨y,H1,I1,r1,q1⟩=>?_) hs;exact GX I1 hN hi hx r1 (λs2 I2=>⟨_,H1,I2,q1⟩) hf
def Zul(i:Nat)(te:TE)(ti:TIp):TS:=λD σ H=>∃x,σ[i]? =some (some x)/\te σ H λy H1=>ti x y H1 λz H2=>D.nx (σ.set i (some z)) H2
theorem Zuy{i:Nat}{x:Str}{e:AM}{te:TE}{op:Operator}{ti:TIp}{pos':Pos}(hN:X.N.Nodup)(hi:X.N[i]? =some x)(hx:Loc X.env.scope x)(he:PE X e te)(ho:PIp X op ti)(hf:X.fn x=true\/X.env.scope.names.lookup x=some .local:=by first | exact .inl rfl | exact .inr rfl | assumption):
  PS X (.AugAssign (.Name x pos') op e pos) (Zul i te ti):=by
 intro pins s σ H D I h;obtain⟨v,e1,h⟩:=h;obtain⟨m,hn,hl⟩:=I.loc;have vis:Vis X.env.scope x:=by rcases hx with k | k;exact .inl k;exact .inr (.inl k)
 obtain⟨u,r,l⟩:=hl i x v hi e1 vis;refine wpAny_AugAssign_Name ?_;have go:wpAny ς X.A (eval e X.env) (λw s₂=>wpAny ς X.A (inplaceOp op u w) (λr s₃=>wpAny ς X.A (storeName X.env x r) (λ_=>SP X pins D .next) X.xe s₃) X.xe s₂) X.xe s:=by
  refine jw (he pins s σ H _ I h) λw s1 ⟨y,H1,I1,r1,q1⟩=>?_;refine jw (ho pins s1 σ H1 v y u w _ I1 r r1 q1) λz s2 ⟨zv,H2,I2,r2,q2⟩=>?_;exact GX I2 hN hi hx r2 (λs3 I3=>⟨_,H2,I3,q2⟩) hf
 rcases l with ⟨hk,hm⟩ | ⟨hk,c,hc,hcell⟩
 ·exact wpAny_loadName_local I.ok.kind hk hn hm go
 ·rcases hk with hk | hk
  ·exact wpAny_loadName_cell I.ok.kind hk hc hcell go
  ·rcases hx with k | k
   ·have:X.env.scope.names.lookup x=some .free:=hk;rw[k]at this;cases this
   ·have:X.env.scope.names.lookup x=some .free:=hk;rw[k]at this;cases this
def Zi6(to ti te:TE)(Zq1:V->V->Hp->VK->Prop)(tip:TIp)(Zq0:Zlm):TS:=λD σ H=>to σ H λo H1=>ti σ H1 λi H2=>Zq1 o i H2 λx H3=>te σ H3 λy H4=>tip x y H4 λz H5=>Zq0 o i z H5 λH6=>D.nx σ H6
def Zzl(X:Cx)(t:V->V->Hp->VK->Prop):Prop:=
 ∀(pins:At) (s:AJ) (σ:St) (H:Hp) (o i:V) (ov iv:AI) (Q:VK),Inv X pins σ H s->RelV o ov->RelV i iv->t o i H Q->
  wpAny ς X.A (getItem ov iv) (EP X pins σ Q) X.xe s
theorem YH{o i e:AM}{to ti te:TE}{Zq1:V->V->Hp->VK->Prop}{tip:TIp}{Zq0:Zlm}{op:Operator}{tpos:Pos}(ho:PE X o to)(hi:PE X i ti)(hg:Zzl X Zq1)(he:PE X e te)(hp:PIp X op tip)(hs:Zx8 X Zq0)
  (ha:∀ov iv new,augStore i ov iv new=(do holding [new,ov,iv] (setItem ov iv new);release [new,ov,iv] [];pure .next):=by intros;rfl):PS X (.AugAssign (.Subscript o i tpos) op e pos) (Zi6 to ti te Zq1 tip Zq0):=by
 intro pins s σ H D I h;refine wpAny_AugAssign_SubscriptAny (jw (ho pins s σ H _ I h) λov s1 ⟨x1,H1,I1,r1,q1⟩=>?_) ha;refine jw (hi pins s1 σ H1 _ I1 q1) λiv s2 ⟨x2,H2,I2,r2,q2⟩=>?_;refine jw (hg pins s2 σ H2 x1 x2 ov iv _ I2 r1 r2 q2) λold s3 ⟨x3,H3,I3,r3,q3⟩=>?_;refine jw (he pins s3 σ H3 _ I3 q3) λv s4 ⟨x4,H4,I4,r4,q4⟩=>?_;refine jw (hp pins s4 σ H4 x3 x4 old v _ I4 r3 r4 q4) λnew s5 ⟨x5,H5,I5,r5,q5⟩=>?_;exact jw (hs pins s5 σ H5 x1 x2 x5 ov iv new _ I5 r1 r2 r5 q5) λ_ s6 ⟨H6,I6,q6⟩=>⟨σ,H6,I6,q6⟩
def ipI(f:Int->Int->Int):TIp:=λx y H Q=>∃i j,x=.int i/\y=.int j/\Q (.int (f i j)) H
theorem Z4:PIp X .Add (ipI λi j=>i+j):=by
 intro pins s σ H x y v u Q I r1 r2 h;obtain⟨i,j,e1,e2,q⟩:=h;subst e1;subst e2;obtain⟨t,rfl⟩:=r1;obtain⟨t',rfl⟩:=r2;exact iadd_int ⟨.int _,H,I.tok _,⟨_,rfl⟩,q⟩
end
section
variable {X:Cx}{pos:Pos}
def Zlv(c:TT)(tb:TS):TS:=λD σ H=>∃W:Nat->ν,(∃m,W m σ H)/\∀m σ H,W m σ H->
 c σ H λb H1=>if b=true then ∃N:ν,(∀ σ' H',N σ' H'->∃m',m'<m/\W m' σ' H')/\tb { D with nx:=N,ct:=N,bk:=D.nx } σ H1 else D.nx σ H1
theorem Zmm{c:AM}{body:List Stmt}{tc:TT}{tb:TS}(hp:PassesOwn ς X.A X.env X.xe)(hc:PT X c tc)(hb:PSs X body tb):PS X (.While c body [] pos) (Zlv tc tb):=by
 intro pins s σ H D I h;obtain⟨W,⟨m0,w0⟩,turn⟩:=h;refine wpAny_While (codeAny_whileLoop (λn s'=>∃ σ' H',Inv X pins σ' H' s'/\W n σ' H') ?_ m0 ⟨σ,H,I,w0⟩);rintro n s1 ⟨σ1,H1,I1,w1⟩;refine wpAny_passesOwn hp (jw (hc pins s1 σ1 H1 _ I1 (turn n σ1 H1 w1)) λb s2 ⟨H2,I2,q2⟩=>?_);cases b with
 | true=>
  obtain⟨N,hN,q2⟩:=q2;rw[if_pos rfl];refine wpAny_passesOwn hp (jw (hb pins s2 σ1 H2 _ I2 q2) λf s3 q3=>?_);cases f with
  | next=>
   obtain⟨σ3,H3,I3,n3⟩:=q3;obtain⟨m',hm,w3⟩:=hN σ3 H3 n3;exact⟨m',hm,σ3,H3,I3,w3⟩
  | cont=>
   obtain⟨σ3,H3,I3,n3⟩:=q3;obtain⟨m',hm,w3⟩:=hN σ3 H3 n3;exact⟨m',hm,σ3,H3,I3,w3⟩
  | brk=>exact q3
  | ret v=>exact q3
 | false=>
  rw[if_neg Bool.false_ne_true];exact wpAny_execs_nil ⟨σ1,H2,I2,q2⟩
end
structure It where
 go:Nat->Hp->Prop
 yld:Nat->Hp->V->Hp->Prop
 stop:Nat->Hp->Prop
def uH(X:Cx)(pins:At)(H:Hp)(b:AH):Prop:=
 H b=none/\b≠X.env.locals/\b∉X.fs/\(b∈X.ex\/X.s₀.heap.objs.size<=b)/\(∀x c,X.env.cells.lookup x=some c->c≠b)/\∀p∈X.pn++pins,p.1≠b
theorem Inv.Zh3{X:Cx}{pins:At}{σ:St}{H H':Hp}{s:AJ}{b:AH}(I:Inv X pins σ H s)(hb:s.heap.objs.size<=b)(hn:H' b=none):uH X pins H' b:=by
 refine⟨hn,Nat.ne_of_gt (Nat.lt_of_lt_of_le I.lt hb),I.ZA3 hb,.inr (Nat.le_trans I.sz hb),λx c e z=>?_,λp hp z=>?_⟩
 ·obtain⟨v,q⟩:=I.cell x c e;exact absurd (Nat.lt_of_lt_of_le q.lt (by rw[z];exact hb)) (Nat.lt_irrefl _)
 ·exact absurd (Nat.lt_of_lt_of_le (Heap.lt_size (I.pin p hp).1) (by rw[z];exact hb)) (Nat.lt_irrefl _)
structure Turn(P:AL)(w:AN)(K:aC)(tg:AM)(J:It)(fp:AE)(it:AH)(tn:Nat->Heap->Prop):Prop where
  mem:it∈fp
  obj:∀i h,tn i h->∀b∈fp,∃o,h.get? b=some o/\∀v,o.data≠.cell v
  keep:∀i h h',tn i h->(∀b∈fp,∀o,h.get? b=some o->h'.get? b=some o)->tn i h'
  item:∀(X:Cx),X.prog=P->X.w=w->X.K=K->X.calm=true->∀(i:Nat) (pins:At) (s:AJ) (σ:St) (H:Hp) (E:Ap),Inv X pins σ H s->(∀b∈fp,uH X pins H b)->tn i s.heap->J.go i H->
    wpAny (model P w) X.A (pyNext (.ref it)) (λr s1=>∃u,r=some u/\
      wpAny (model P w) X.A (letOwnedTupleGo tg (.ref it) u) (λ_ s2=>∃x H',Inv X pins σ H' s2/\RelV x u/\J.yld i H x H'/\tn (i+1) s2.heap/\∀b∈fp,H' b=none) E s1) E s
  done:∀(X:Cx),X.prog=P->X.w=w->X.K=K->X.calm=true->∀(i:Nat) (pins:At) (s:AJ) (σ:St) (H:Hp) (E:Ap),Inv X pins σ H s->(∀b∈fp,uH X pins H b)->tn i s.heap->J.stop i H->
    wpAny (model P w) X.A (pyNext (.ref it)) (λr s1=>r=none/\Inv X pins σ H s1) E s
  self:∀(A:Around) (i:Nat) (s:AJ) (Q:Ap) (E:Ap),tn i s.heap->Q (.ref it) s->wpAny (model P w) A (pyIter (.ref it)) Q E s
abbrev TI:=St->Hp->(It->Hp->Prop)->Prop
def PIE(X:Cx)(pins:At)(σ:St)(tg:AM)(R:It->Hp->Prop)(itv:AI)(s2:AJ):Prop:=
 ∃(it:AH) (fp:AE) (tn:Nat->Heap->Prop) (J:It) (H':Hp),itv=.ref it/\Inv X pins σ H' s2/\Turn X.prog X.w X.K tg J fp it tn/\tn 0 s2.heap/\(∀b∈fp,uH X pins H' b)/\R J H'
def PI(X:Cx)(tg iter:AM)(wi:TI):Prop:=
 ∀(pins:At) (s:AJ) (σ:St) (H:Hp) (R:It->Hp->Prop),Inv X pins σ H s->wi σ H R->
  wpAny ς X.A (eval iter X.env) (λv s1=>wpAny ς X.A (pyIter v) (PIE X pins σ tg R) X.xe s1) X.xe s
theorem Zoy{M:Model}{A:Around}{E:Ap}{s:AJ}{tg:AM}{it:AH}{u:AI}{o:Obj}{n:String}{vs:Array AI}{Q:Unit->AJ->Prop}(ho:s.heap.get? it=some o)(hc:o.cls=.type n)(hd:o.data=.fields vs)
    (hn:["enumerate","zip","dict_itemiterator","dict_reverseitemiterator","odict_iterator","itertools.zip_longest","itertools.pairwise"].contains n=false) (hQ:Q () s):wpAny M A (letOwnedTupleGo tg (.ref it) u) Q E s:=by
  unfold letOwnedTupleGo;cases tg<;>first
    | exact wpAny_pure hQ
    | (cases u<;>first
        | exact wpAny_pure hQ
        | (refine wpAny_bind (wpAny_load ho ?_)
           rw[hc,hd];show wpAny M A (if (["enumerate","zip","dict_itemiterator","dict_reverseitemiterator","odict_iterator","itertools.zip_longest","itertools.pairwise"].contains n && vs[0]? == some (rawInt _))=true then _ else _) Q E s;rw[if_neg (by intro h;rw[hn,Bool.false_and]at h;cases h)];exact wpAny_pure hQ))
def Itl(K:aC)(a:AH):It:=
 ⟨λi H=>∃xs x,cC K H a xs/\xs[i]? =some x,λi H x H'=>H'=H/\∀xs,cC K H a xs->xs[i]? =some x,λi H=>∃xs,cC K H a xs/\xs.length<=i⟩
def Itr(lo:Int)(n:Nat):It:=⟨λi _=>i<n,λi H x H'=>H'=H/\x=.int (lo+i),λi _=>n<=i⟩
theorem Zj8{P:AL}{w:AN}{K:aC}{tg:AM}(a it:AH):Turn P w K tg (Itl K a) [it] it (λi h=>h.IsListIter it a i) where
  mem:=ζ
  obj:=λi h st b hb=>by
    have e:b=it:=by simpa using hb
    subst e;obtain⟨o,e,c,d⟩:=st;exact⟨o,e,λv z=>by rw[d]at z;cases z⟩
  keep:=λi h h' st k=>st.at λo e=>k it ζ o e
  item:=by
    intro X hP hw hK hc i pins s σ H E I hf st hg;subst hP hw hK;obtain⟨xs,x,hq,hx⟩:=hg;obtain⟨its,rv,p,hz⟩:=I.list hq;obtain⟨u,hu,ru⟩:=rv.get hx;obtain⟨f0,f1,f2,f3,f4,f5⟩:=hf it ζ;refine wpAny_pyNext_list_item st p.isList (x:=u) (by simpa using hu) λh' st' sb=>?_;have I1:Inv X pins σ H { s with heap:=h' }:=I.turned (t':=s.toks) (λb o hb e=>(sb.2 b hb).trans e) f0 f1 f3 f4 f5;obtain⟨o,e,c,d⟩:=id st';exact⟨u,rfl,Zoy (s:={ s with heap:=h' }) e c d ε ⟨x,H,I1,ru,⟨rfl,λys hy=>by rw[I.Zcr hy hq];exact hx⟩,st',λb hb=>(hf b hb).1⟩⟩
  done:=by
    intro X hP hw hK hc i pins s σ H E I hf st hg;subst hP hw hK;obtain⟨xs,hq,hx⟩:=hg;obtain⟨its,rv,p,hz⟩:=I.list hq;obtain⟨f0,f1,f2,f3,f4,f5⟩:=hf it ζ;have hl:=rv.length;exact wpAny_pyNext_list_end (I.ok.hd hc) st p.isList (by simp;omega) λh' eb=>⟨rfl,I.turned (t':=s.toks) (λb o hb e=>eb b o hb e) f0 f1 f3 f4 f5⟩
  self:=λ_ _ _ _ _ st h=>wpAny_pyIter_listiter st h
theorem Zek{P:AL}{w:AN}{K:aC}{tg:AM}(it:AH)(lo:Int)(n:Nat):Turn P w K tg (Itr lo n) [it] it (λi h=>IsRangeIter h it (lo+(i:Nat) * 1) ((n:Int) - (i:Nat)) 1) where
  mem:=ζ
  obj:=λi h st b hb=>by
    have e:b=it:=by simpa using hb
    subst e;exact⟨_,st,λv z=>by
      have z':Data.fields _=Data.cell v:=z;cases z'⟩
  keep:=λi h h' st k=>k it ζ _ st
  item:=by
    intro X hP hw hK hc i pins s σ H E I hf st hg;subst hP hw hK;obtain⟨f0,f1,f2,f3,f4,f5⟩:=hf it ζ;have W:=Walks.range (prog:=X.prog) (w:=X.w) (I.ok.hd hc) it lo 1 n;refine W.item i s _ _ hg st λv h' tk hv st' kk=>?_;obtain⟨t,rfl⟩:=hv;have I1:Inv X pins σ H { s with heap:=h',toks:=tk }:=I.turned (λb o hb e=>kk b o (by simpa using hb) e) f0 f1 f3 f4 f5;refine⟨_,rfl,Zoy (s:={ s with heap:=h',toks:=tk }) (n:="range_iterator") st' rfl rfl ε ⟨.int (lo+i),H,I1,⟨t,?_⟩,⟨rfl,rfl⟩,st',λb hb=>(hf b hb).1⟩⟩;rw[Int.mul_one]
  done:=by
    intro X hP hw hK hc i pins s σ H E I hf st hg;subst hP hw hK;obtain⟨f0,f1,f2,f3,f4,f5⟩:=hf it ζ;exact wpAny_pyNext_range_end (I.ok.hd hc) st (by have:n<=i:=hg;omega) λh' eb=>⟨rfl,I.turned (t':=s.toks) (λb o hb e=>eb b o hb e) f0 f1 f3 f4 f5⟩
  self:=λ_ _ _ _ _ st h=>wpAny_pyIter_rangeiter st h
section
variable {X:Cx}{tg:AM}
def yJ(K:aC)(tl:TE):TI:=λσ H R=>tl σ H λx H1=>∃a,x=.ref a/\(∃xs,cC K H1 a xs)/\R (Itl K a) H1
theorem qy{l:AM}{tl:TE}(hl:PE X l tl):PI X tg l (yJ X.K tl):=by
 intro pins s σ H R I h;refine jw (hl pins s σ H _ I h) λv s1 ⟨x,H1,I1,r1,q1⟩=>?_;obtain⟨a,e,⟨xs,hq⟩,q⟩:=q1;subst e;cases r1;obtain⟨its,rv,p,hz⟩:=I1.list hq;refine wpAny_pyIter_list p.isList ?_;refine⟨s1.heap.objs.size,[s1.heap.objs.size],_,_,H1,rfl,I1.kept (t':=s1.toks) λb o e=>Heap.get?_push_of_some _ e,Zj8 a _,⟨_,Heap.get?_push_size _ rfl,rfl,rfl⟩,λb hb=>?_,q⟩;have e:b=s1.heap.objs.size:=by simpa using hb
 subst e;exact I1.Zh3 Δ (I1.hok.fresh Δ)
theorem Zmd{pins:At}{σ:St}{H:Hp}{s:AJ}{R:It->Hp->Prop}{E:Ap}{lo hi:Int}{t u v:Tok}{tk:Nat}(I:Inv X pins σ H s)(h1:-(2 ^ 62)<=lo)(h2:lo<2 ^ 62)(h3:-(2 ^ 62)<=hi)(h4:hi<2 ^ 62)
  (q:R (Itr lo (hi - lo).toNat) H):wpAny ς X.A (pyIter (.ref s.heap.objs.size)) (PIE X pins σ tg R) E { s with heap:=s.heap.push { cls:=.type "range",data:=.fields #[.int lo t,.int hi u,.int 1 v] },toks:=tk }:=by
 refine wpAny_pyIter_range (IsRange.new ..) (small_one h1 h2 h3 h4) ?_;have I1:Inv X pins σ H { s with heap:=s.heap.push { cls:=.type "range",data:=.fields #[.int lo t,.int hi u,.int 1 v] },toks:=tk }:=I.kept λb o e=>Heap.get?_push_of_some _ e;refine⟨(s.heap.push { cls:=.type "range",data:=.fields #[.int lo t,.int hi u,.int 1 v] }).objs.size,[(s.heap.push { cls:=.type "range",data:=.fields #[.int lo t,.int hi u,.int 1 v] }).objs.size],_,_,H,rfl,
  I1.kept (t':=tk) λb o e=>Heap.get?_push_of_some _ e,Zek _ lo (hi - lo).toNat,?_,λb hb=>?_,q⟩
 ·have e1:lo+((0:Nat):Int) * 1=lo:=ζ
  have e2:(((hi - lo).toNat:Nat):Int) - ((0:Nat):Int)=Builtin.Range.rangeSize lo hi 1:=by rw[rangeSize_one];split<;>omega
  show IsRangeIter _ _ (lo+((0:Nat):Int) * 1) ((((hi - lo).toNat:Nat):Int) - ((0:Nat):Int)) 1;rw[e1,e2];exact Heap.get?_push_size _ rfl
 ·have e:b=(s.heap.push { cls:=.type "range",data:=.fields #[.int lo t,.int hi u,.int 1 v] }).objs.size:=by simpa using hb
  subst e;exact I1.Zh3 Δ (I1.hok.fresh Δ)
def Ny(ta:TA):TI:=λσ H R=>ta σ H λvs H1=>∃j:Int,vs=[.int j]/\-(2 ^ 62)<=j/\j<2 ^ 62/\R (Itr 0 j.toNat) H1
theorem uI{a:AM}{ta:TA}{p pos:Pos}(hg:Gl X "range")(hm:X.mg "range"=none)(ha:PA X [a] ta)(hs:starEach [a] X.env=[(false,eval a X.env)]:=by rfl):PI X tg (.Call (.Name "range" p) [a] [] pos) (Ny ta):=by
 intro pins s σ H R I h;refine Call_ (Gj I hg hm boot_range (PyProof.Rows.callWith_type1 (jw (ha pos pins s σ H _ I h) λus s1 ⟨vs,H1,I1,r1,q1⟩=>?_) hs rfl));obtain⟨j,e,q1,q2,q⟩:=q1;subst e;cases r1 with
 | cons r rr=>
  cases rr;obtain⟨t,rfl⟩:=r;exact call_range_1 (Zmd I1 δ δ q1 q2 (by simpa using q))
def GQ(wi:TI)(g:TG)(tb:TS):TS:=λD σ H=>wi σ H λJ H1=>∃W:Nat->Nat->ν,(∃m,W 0 m σ H1)/\∀i m σ H,W i m σ H->
 (J.stop i H/\D.nx σ H)\/(J.go i H/\∃N:ν,(∀ σ' H',N σ' H'->∃m',m'<m/\W (i+1) m' σ' H')/\∀x H',J.yld i H x H'->g x σ H' λσ2 H2=>tb { D with nx:=N,ct:=N,bk:=D.nx } σ2 H2)
def Gf(fp:AE)(h:Heap):At:=fp.filterMap λb=>(h.get? b).map λo=>(b,o)
theorem vf{fp:AE}{h:Heap}{b:AH}{o:Obj}(hb:b∈fp)(e:h.get? b=some o):(b,o)∈Gf fp h:=List.mem_filterMap.mpr ⟨b,hb,by rw[e];rfl⟩
theorem Wx{fp:AE}{h:Heap}{p:AH×Obj}(hp:p∈Gf fp h):p.1∈fp/\h.get? p.1=some p.2:=by
 obtain⟨b,hb,e⟩:=List.mem_filterMap.mp hp;cases q:h.get? b with
 | none=>rw[q]at e;cases e
 | some o=>
  rw[q]at e;have e':(b,o)=p:=Option.some.inj e;subst e';exact⟨hb,q⟩
theorem Inv.pinned{pins:At}{σ:St}{H:Hp}{s:AJ}{fp:AE}(I:Inv X pins σ H s)(hf:∀b∈fp,uH X pins H b)(ho:∀b∈fp,∃o,s.heap.get? b=some o/\∀v,o.data≠.cell v):Inv X (pins++Gf fp s.heap) σ H s:=
 I.DK λp hp=>(List.mem_append.mp hp).elim (λz=>I.pin p (List.mem_append_right _ z)) λz=>by
  obtain⟨hb,e⟩:=Wx z;obtain⟨f0,f1,f2,_⟩:=hf p.1 hb;obtain⟨o,e',d⟩:=ho p.1 hb;rw[e]at e';cases e';exact⟨e,f0,f1,f2,d⟩
theorem Inv.GP{pins pl:At}{σ:St}{H:Hp}{s:AJ}(I:Inv X (pins++pl) σ H s):Inv X pins σ H s:=I.DK λp hp=>I.pin p (List.mem_append_right _ (List.mem_append_left _ hp))
theorem tZ{iter:AM}{body:List Stmt}{wi:TI}{g:TG}{tb:TS}{pos:Pos}(hp:PassesOwn ς X.A X.env X.xe)(hc:X.calm=true)(hi:PI X tg iter wi)(hg:PG X tg g)(hb:PSs X body tb)
  (hs:∀x,foldedSetIterable iter X.env x=pure x:=by intro _;rfl):PS X (.For tg iter body [] pos) (GQ wi g tb):=by
 intro pins s σ H D I h;refine wpAny_For (jw (hi pins s σ H _ I h) λv s1 h1=>jw h1 λitv s2 h2=>?_) hs;obtain⟨it,fp,tn,J,H2,e,I2,T,st2,f2,W,⟨m0,w0⟩,turn⟩:=h2;subst e;have stat:∀{H':Hp},(∀b∈fp,H' b=none)->∀b∈fp,uH X pins H' b:=λhn b hb=>⟨hn b hb,(f2 b hb).2⟩;refine codeAny_forLoop_any (λn s'=>∃i σ' H',Inv X pins σ' H' s'/\tn i s'.heap/\(∀b∈fp,H' b=none)/\W i n σ' H') ?_ m0 ⟨0,σ,H2,I2,st2,λb hb=>(f2 b hb).1,w0⟩;rintro n s3 ⟨i,σ3,H3,I3,st3,fr3,w3⟩;rcases turn i n σ3 H3 w3 with ⟨stop,qn⟩ | ⟨go,N,hN,step⟩
 ·refine wpAny_passesOwn hp (jw (T.done X rfl rfl rfl hc i pins s3 σ3 H3 X.xe I3 (stat fr3) st3 stop) λr s4 ⟨hr,I4⟩=>?_);subst hr;exact wpAny_execs_nil ⟨σ3,H3,I4,qn⟩
 ·refine wpAny_passesOwn hp (jw (T.item X rfl rfl rfl hc i pins s3 σ3 H3 X.xe I3 (stat fr3) st3 go) λr s4 ⟨u,hr,h4⟩=>?_);subst hr;refine wpAny_passesOwn hp (jw h4 λ_ s5 ⟨x,H5,I5,r5,y5,JR,fr5⟩=>?_);have I5':=I5.pinned (stat fr5) (T.obj _ _ JR);refine wpAny_passesOwn hp (jw (hg _ s5 σ3 H5 x u _ I5' r5 (step x H5 y5)) λ_ s6 ⟨σ6,H6,I6,q6⟩=>?_);refine wpAny_passesOwn hp (jw (hb _ s6 σ6 H6 _ I6 q6) λf s7 q7=>?_);have again:∀{σ7:St}{H7:Hp},Inv X (pins++Gf fp s5.heap) σ7 H7 s7->N σ7 H7->∃m,m<n/\∃i σ' H',Inv X pins σ' H' s7/\tn i s7.heap/\(∀b∈fp,H' b=none)/\W i m σ' H':=λ{σ7 H7} I7 n7=>by
   obtain⟨m',hm,w7⟩:=hN σ7 H7 n7;refine⟨m',hm,i+1,σ7,H7,I7.GP,T.keep _ _ _ JR λb hb o e=>(I7.pin (b,o) (List.mem_append_right _ (List.mem_append_right _ (vf hb e)))).1,λb hb=>?_,w7⟩;obtain⟨o,e,d⟩:=T.obj _ _ JR b hb;exact(I7.pin (b,o) (List.mem_append_right _ (List.mem_append_right _ (vf hb e)))).2.1
  cases f with
  | next=>obtain⟨σ7,H7,I7,n7⟩:=q7;exact again I7 n7
  | cont=>obtain⟨σ7,H7,I7,n7⟩:=q7;exact again I7 n7
  | brk=>obtain⟨σ7,H7,I7,q7⟩:=q7;exact⟨σ7,H7,I7.GP,q7⟩
  | ret v=>obtain⟨x7,σ7,H7,I7,r7,q7⟩:=q7;exact⟨x7,σ7,H7,I7.GP,r7,q7⟩
end
theorem Zp3{K:aC}{a:AH}{xs:List V}{g:TG}{tb:TS}{D:Ends}{σ:St}{H:Hp}(Pv:Nat->ν)(h0:Pv 0 σ H)(hl:∀i σ H,i<=xs.length->Pv i σ H->cC K H a xs)
  (hs:∀i x σ H,xs[i]? =some x->Pv i σ H->g x σ H λσ2 H2=>tb { D with nx:=Pv (i+1),ct:=Pv (i+1),bk:=D.nx } σ2 H2) (hd:∀ σ H,Pv xs.length σ H->D.nx σ H):
  ∃W:Nat->Nat->ν,(∃m,W 0 m σ H)/\∀i m σ H,W i m σ H->
   ((Itl K a).stop i H/\D.nx σ H)\/((Itl K a).go i H/\∃N:ν,(∀ σ' H',N σ' H'->∃m',m'<m/\W (i+1) m' σ' H')/\∀x H',(Itl K a).yld i H x H'->g x σ H' λσ2 H2=>tb { D with nx:=N,ct:=N,bk:=D.nx } σ2 H2):=by
 refine⟨λi m σ H=>m=xs.length - i/\i<=xs.length/\Pv i σ H,⟨xs.length,ζ,Nat.zero_le _,h0⟩,?_⟩;rintro i m σ H ⟨rfl,hi,p⟩;have q:=hl i σ H hi p
 by_cases hlt:i<xs.length
 ·refine .inr ⟨⟨xs,xs[i],q,by simp[hlt]⟩,Pv (i+1),λσ' H' p'=>⟨xs.length - (i+1),δ,rfl,hlt,p'⟩,λx H' y=>?_⟩;obtain⟨e,y⟩:=y;subst e;exact hs i x σ _ (y xs q) p
 ·have e:i=xs.length:=δ
  subst e;exact .inl ⟨⟨xs,q,Nat.le_refl _⟩,hd σ H p⟩
theorem Zl2{lo:Int}{n:Nat}{g:TG}{tb:TS}{D:Ends}{σ:St}{H:Hp}(Pv:Nat->ν)(h0:Pv 0 σ H)
  (hs:∀i σ H,i<n->Pv i σ H->g (.int (lo+i)) σ H λσ2 H2=>tb { D with nx:=Pv (i+1),ct:=Pv (i+1),bk:=D.nx } σ2 H2) (hd:∀ σ H,Pv n σ H->D.nx σ H):
  ∃W:Nat->Nat->ν,(∃m,W 0 m σ H)/\∀i m σ H,W i m σ H->
   ((Itr lo n).stop i H/\D.nx σ H)\/((Itr lo n).go i H/\∃N:ν,(∀ σ' H',N σ' H'->∃m',m'<m/\W (i+1) m' σ' H')/\∀x H',(Itr lo n).yld i H x H'->g x σ H' λσ2 H2=>tb { D with nx:=N,ct:=N,bk:=D.nx } σ2 H2):=by
 refine⟨λi m σ H=>m=n - i/\i<=n/\Pv i σ H,⟨n,ζ,Nat.zero_le _,h0⟩,?_⟩;rintro i m σ H ⟨rfl,hi,p⟩
 by_cases hlt:i<n
 ·refine .inr ⟨hlt,Pv (i+1),λσ' H' p'=>⟨n - (i+1),δ,rfl,hlt,p'⟩,λx H' y=>?_⟩;obtain⟨e,y⟩:=y;subst e y;exact hs i σ _ hlt p
 ·have e:i=n:=δ
  subst e;exact .inl ⟨Nat.le_refl _,hd σ H p⟩
abbrev R2:=V->V->Hp->VK->Prop
def yM(X:Cx)(f:AI->AI->Sem AI)(r:R2):Prop:=
 ∀(pins:At) (s:AJ) (σ:St) (H:Hp) (x y:V) (v u:AI) (Q:VK),Inv X pins σ H s->RelV x v->RelV y u->r x y H Q->
  wpAny ς X.A (f v u) (EP X pins σ Q) X.xe s
def UnR(X:Cx)(f:AI->Sem AI)(r:V->Hp->VK->Prop):Prop:=
 ∀(pins:At) (s:AJ) (σ:St) (H:Hp) (x:V) (v:AI) (Q:VK),Inv X pins σ H s->RelV x v->r x H Q->
  wpAny ς X.A (f v) (EP X pins σ Q) X.xe s
def JK(X:Cx)(f:AI)(r:List V->Hp->VK->Prop):Prop:=
 ∀(pins:At) (s:AJ) (σ:St) (H:Hp) (xs:List V) (us:AC) (Q:VK),Inv X pins σ H s->Vals xs us->r xs H Q->
  wpAny ς X.A (call f us) (EP X pins σ Q) X.xe s
def ZI9(X:Cx)(r:V->Hp->(Bool->Hp->Prop)->Prop):Prop:=
 ∀(pins:At) (s:AJ) (σ:St) (H:Hp) (x:V) (v:AI) (Q:Bool->Hp->Prop),Inv X pins σ H s->RelV x v->r x H Q->
  wpAny ς X.A (truthy v) (TP X pins σ Q) X.xe s
def bw(r:R2)(ta tb:TE):TE:=λσ H Q=>ta σ H λx H1=>tb σ H1 λy H2=>r x y H2 Q
def tUn(r:V->Hp->VK->Prop)(ta:TE):TE:=λσ H Q=>ta σ H λx H1=>r x H1 Q
def rI(C:Int->Int->Prop)(g:Int->Int->V):R2:=λx y H Q=>∃i j,x=.int i/\y=.int j/\C i j/\Q (g i j) H
def nR(g:Int->Int->V):R2:=λx y H Q=>∃i j,x=.int i/\y=.int j/\Q (g i j) H
def rU(g:Int->V):V->Hp->VK->Prop:=λx H Q=>∃i,x=.int i/\Q (g i) H
section
variable {X:Cx}{a b c:AM}{ta tb tc:TE}{pos:Pos}
theorem Zx0(ha:PE X a ta)(hb:PE X b tb){pins:At}{s:AJ}{σ:St}{H:Hp}{R:V->V->Hp->Prop}(I:Inv X pins σ H s)
  (h:ta σ H λx H1=>tb σ H1 λy H2=>R x y H2) {Q:Ap}{f:AI->AI->Sem AI}
  (hf:∀v u s2 x y H2,Inv X pins σ H2 s2->RelV x v->RelV y u->R x y H2->wpAny ς X.A (f v u) Q X.xe s2):
  wpAny ς X.A (eval a X.env) (λv s₁=>wpAny ς X.A (eval b X.env) (λu s₂=>wpAny ς X.A (f v u) Q X.xe s₂) X.xe s₁) X.xe s:=by
 refine jw (ha pins s σ H _ I h) λv s1 ⟨x,H1,I1,r1,q1⟩=>?_;refine jw (hb pins s1 σ H1 _ I1 q1) λu s2 ⟨y,H2,I2,r2,q2⟩=>?_;exact hf v u s2 x y H2 I2 r1 r2 q2
theorem bh{op:Operator}{r:R2}(ho:yM X (binaryOp op) r)(ha:PE X a ta)(hb:PE X b tb):PE X (.BinOp a op b pos) (bw r ta tb):=by
 intro pins s σ H Q I h;exact wpAny_BinOp (Zx0 ha hb I h λv u s2 x y H2 I2 rx ry q=>ho pins s2 σ H2 x y v u Q I2 rx ry q)
theorem Zy0{op:UnaryOp}{r:V->Hp->VK->Prop}(ho:UnR X (unaryOp op) r)(ha:PE X a ta):PE X (.UnaryOp op a pos) (tUn r ta):=by
 intro pins s σ H Q I h;exact UnaryOp_ (jw (ha pins s σ H _ I h) λv s1 ⟨x,H1,I1,r1,q1⟩=>ho pins s1 σ H1 x v Q I1 r1 q1)
theorem opI{f:AI->AI->Sem AI}{C:Int->Int->Prop}{g:Int->Int->Int}
  (rule:∀(i j:Int) (t u:Tok) (s:AJ) (Q:Ap) (E:Ap),C i j->Q (.int (g i j) s.toks) { s with toks:=s.toks+1 }->wpAny ς X.A (f (.int i t) (.int j u)) Q E s):
  yM X f (rI C λi j=>.int (g i j)):=by
 intro pins s σ H x y v u Q I rx ry h;obtain⟨i,j,rfl,rfl,hc,q⟩:=h;obtain⟨t,rfl⟩:=rx;obtain⟨t',rfl⟩:=ry;exact rule i j t t' s _ _ hc ⟨.int (g i j),H,I.tok _,⟨_,rfl⟩,q⟩
theorem Zrj{f:AI->AI->Sem AI}{g:Int->Int->Int}
  (rule:∀(i j:Int) (t u:Tok) (s:AJ) (Q:Ap) (E:Ap),Q (.int (g i j) s.toks) { s with toks:=s.toks+1 }->wpAny ς X.A (f (.int i t) (.int j u)) Q E s):
  yM X f (nR λi j=>.int (g i j)):=by
 intro pins s σ H x y v u Q I rx ry h;obtain⟨i,j,rfl,rfl,q⟩:=h;obtain⟨t,rfl⟩:=rx;obtain⟨t',rfl⟩:=ry;exact rule i j t t' s _ _ ⟨.int (g i j),H,I.tok _,⟨_,rfl⟩,q⟩
theorem Zrk{f:AI->AI->Sem AI}{g:Int->Int->Bool}
  (rule:∀(i j:Int) (t u:Tok) (s:AJ) (Q:Ap) (E:Ap),Q (.bool (g i j)) s->wpAny ς X.A (f (.int i t) (.int j u)) Q E s):
  yM X f (nR λi j=>.bl (g i j)):=by
 intro pins s σ H x y v u Q I rx ry h;obtain⟨i,j,rfl,rfl,q⟩:=h;obtain⟨t,rfl⟩:=rx;obtain⟨t',rfl⟩:=ry;exact rule i j t t' s _ _ ⟨.bl (g i j),H,I,rfl,q⟩
def MJ(i j:Int):Prop:=0<j/\j<1073741824
def Zbd(i j:Int):Prop:=0<=j/\j<=1000000/\i.natAbs<2 ^ 64
def Tc(i j:Int):Prop:=(-(2 ^ 64)<i/\i<2 ^ 64)\/(-(2 ^ 64)<j/\j<2 ^ 64)
theorem Tc.ok{i j:Int}(h:Tc i j):IntMulOk i j:=by
 rcases h with ⟨h1,h2⟩ | ⟨h1,h2⟩
 ·exact .of_left (intBits_le_64 h1 h2)
 ·exact .of_right (intBits_le_64 h1 h2)
theorem Zej(k:Nat):(0:Int)<=2 ^ k:=by
 rw[two_pow_cast];exact Int.natCast_nonneg _
theorem jF:yM X (binaryOp .Add) Θ:=Zrj λ_ _ _ _ _ _ _ q=>add_int q
theorem Ad:yM X (binaryOp .Sub) (nR λi j=>.int (i - j)):=Zrj λ_ _ _ _ _ _ _ q=>sub_int q
theorem KJ:yM X (binaryOp .Mult) (rI Tc λi j=>.int (i * j)):=opI λ_ _ _ _ _ _ _ hc q=>mul_int q hc.ok
theorem qD:yM X (binaryOp .FloorDiv) (rI MJ λi j=>.int (i / j)):=opI λi j _ _ _ _ _ hc q=>by
 have h1:(0:Int)<j:=hc.1;have h2:j<1073741824:=hc.2;exact floordiv_int δ (by rw[Int.fdiv_eq_ediv_of_nonneg i δ];exact q) (.inl (PyProof.noPylong_small δ))
theorem gn:yM X (binaryOp .Mod) ο:=opI λi j _ _ _ _ _ hc q=>by
 have h1:(0:Int)<j:=hc;exact mod_int' δ (by rw[Int.fmod_eq_emod_of_nonneg i δ];exact q)
theorem YT:yM X (binaryOp .Pow) (rI Zbd λi j=>.int (i ^ j.toNat)):=opI λ_ _ _ _ _ _ _ hc q=>pow_int_small hc.1 hc.2.1 hc.2.2 q
theorem Zn4:yM X (binaryOp .LShift) (rI Zbd λi j=>.int (i * 2 ^ j.toNat)):=opI λ_ _ _ _ _ _ _ hc q=>lshift_int_small hc.1 hc.2.1 hc.2.2 q
theorem Zfx:yM X (binaryOp .RShift) (rI (λ_ j=>0<=j) λi j=>.int (i / 2 ^ j.toNat)):=opI λi j _ _ _ _ _ hc q=>
 rshift_int hc (by rw[Int.fdiv_eq_ediv_of_nonneg i (Zej _)];exact q)
theorem QX:yM X (binaryOp .BitAnd) (nR λi j=>.int (Builtin.bitAnd i j)):=Zrj λ_ _ _ _ _ _ _ q=>and_int q
theorem Zy2:yM X (binaryOp .BitOr) (nR λi j=>.int (Builtin.bitOr i j)):=Zrj λ_ _ _ _ _ _ _ q=>or_int q
theorem unI{f:AI->Sem AI}{g:Int->Int}
  (rule:∀(i:Int) (t:Tok) (s:AJ) (Q:Ap) (E:Ap),Q (.int (g i) s.toks) { s with toks:=s.toks+1 }->wpAny ς X.A (f (.int i t)) Q E s):
  UnR X f (rU λi=>.int (g i)):=by
 intro pins s σ H x v Q I rx h;obtain⟨i,rfl,q⟩:=h;obtain⟨t,rfl⟩:=rx;exact rule i t s _ _ ⟨.int (g i),H,I.tok _,⟨_,rfl⟩,q⟩
theorem Zu7:UnR X (unaryOp .USub) (rU λi=>.int (-i)):=unI λ_ _ _ _ _ q=>neg_int q
end
def Zxv:V->V->Bool
 | .non,.non=>true | .non,.int _=>true | .int _,.non=>true | .non,.bl _=>true | .bl _,.non=>true | .non,.str _=>true | .str _,.non=>true
 | .int _,.int _=>true | .bl _,.bl _=>true | .str _,.str _=>true | .byt _,.byt _=>true
 | .int _,.str _=>true | .str _,.int _=>true | .bl _,.str _=>true | .str _,.bl _=>true
 | _,_=>false
def vR:R2:=λx y H Q=>Zxv x y=true/\Q (.bl (decide (x=y))) H
def rNe:R2:=λx y H Q=>Zxv x y=true/\Q (.bl (!decide (x=y))) H
theorem Ziv{i j:Int}:decide (V.int i=V.int j)=(i == j):=by
 rw[Bool.eq_iff_iff];simp
theorem Zpm{i j:Bool}:decide (V.bl i=V.bl j)=(i == j):=by
 rw[Bool.eq_iff_iff];simp
theorem Ziu{i j:Str}:decide (V.str i=V.str j)=(i == j):=by
 rw[Bool.eq_iff_iff];simp
theorem Ziw{i j:Array UInt8}:decide (V.byt i=V.byt j)=(i.toList == j.toList):=by
 rw[Bool.eq_iff_iff];cases i;cases j;simp
section
variable {X:Cx}{a b c:AM}{ta tb tc:TE}{pos:Pos}
theorem fX{pins:At}{σ:St}{H:Hp}{s:AJ}{Q:VK}{k k':Bool}(I:Inv X pins σ H s)(q:Q (.bl k) H)(e:k=k'):EP X pins σ Q (.bool k') s:=by
 subst e;exact⟨.bl k,H,I,rfl,q⟩
theorem iI:yM X (compareOp .Eq) vR:=by
 intro pins s σ H x y v u Q I rx ry h;obtain⟨hs,q⟩:=h;cases x with
 | non=>
  cases rx;cases y with
  | non=>cases ry;exact PySem.EqNone.eq_none_none (fX I q ζ)
  | bl j=>cases ry;exact PySem.EqNone.eq_none_bool (fX I q ζ)
  | int j=>obtain⟨t',rfl⟩:=ry;exact PySem.EqNone.eq_none_int (fX I q ζ)
  | str j=>obtain⟨t',rfl⟩:=ry;exact PySem.EqNone.eq_none_str (fX I q ζ)
  | _=>exact absurd (show false=true from hs) Bool.false_ne_true
 | bl i=>
  cases rx;cases y with
  | non=>cases ry;exact PySem.EqNone.eq_bool_none (fX I q ζ)
  | bl j=>cases ry;exact eq_bool (fX I q Zpm)
  | str j=>obtain⟨t',rfl⟩:=ry;exact PySem.EqMixed.eq_bool_str (fX I q ζ)
  | _=>exact absurd (show false=true from hs) Bool.false_ne_true
 | int i=>
  obtain⟨t,rfl⟩:=rx;cases y with
  | non=>cases ry;exact PySem.EqNone.eq_int_none (fX I q ζ)
  | int j=>obtain⟨t',rfl⟩:=ry;exact eq_int (fX I q Ziv)
  | str j=>obtain⟨t',rfl⟩:=ry;exact PySem.EqMixed.eq_int_str (fX I q ζ)
  | _=>exact absurd (show false=true from hs) Bool.false_ne_true
 | str i=>
  obtain⟨t,rfl⟩:=rx;cases y with
  | non=>cases ry;exact PySem.EqNone.eq_str_none (fX I q ζ)
  | bl j=>cases ry;exact PySem.EqMixed.eq_str_bool (fX I q ζ)
  | int j=>obtain⟨t',rfl⟩:=ry;exact PySem.EqMixed.eq_str_int (fX I q ζ)
  | str j=>obtain⟨t',rfl⟩:=ry;exact eq_str (fX I q Ziu)
  | _=>exact absurd (show false=true from hs) Bool.false_ne_true
 | byt i=>
  obtain⟨t,rfl⟩:=rx;cases y with
  | byt j=>obtain⟨t',rfl⟩:=ry;exact W.eq_bytes (fX I q Ziw)
  | _=>exact absurd (show false=true from hs) Bool.false_ne_true
 | _=>cases y<;>exact absurd (show false=true from hs) Bool.false_ne_true
theorem Ep:yM X (compareOp .NotEq) rNe:=by
 intro pins s σ H x y v u Q I rx ry h;obtain⟨hs,q⟩:=h;cases x with
 | non=>
  cases rx;cases y with
  | non=>cases ry;exact PySem.EqNone.ne_none_none (fX I q ζ)
  | bl j=>cases ry;exact PySem.EqNone.ne_none_bool (fX I q ζ)
  | int j=>obtain⟨t',rfl⟩:=ry;exact PySem.EqNone.ne_none_int (fX I q ζ)
  | str j=>obtain⟨t',rfl⟩:=ry;exact PySem.EqNone.ne_none_str (fX I q ζ)
  | _=>exact absurd (show false=true from hs) Bool.false_ne_true
 | bl i=>
  cases rx;cases y with
  | non=>cases ry;exact PySem.EqNone.ne_bool_none (fX I q ζ)
  | bl j=>cases ry;exact ne_bool (fX I q (congrArg not Zpm))
  | str j=>obtain⟨t',rfl⟩:=ry;exact PySem.EqMixed.ne_bool_str (fX I q ζ)
  | _=>exact absurd (show false=true from hs) Bool.false_ne_true
 | int i=>
  obtain⟨t,rfl⟩:=rx;cases y with
  | non=>cases ry;exact PySem.EqNone.ne_int_none (fX I q ζ)
  | int j=>obtain⟨t',rfl⟩:=ry;exact ne_int (fX I q (congrArg not Ziv))
  | str j=>obtain⟨t',rfl⟩:=ry;exact PySem.EqMixed.ne_int_str (fX I q ζ)
  | _=>exact absurd (show false=true from hs) Bool.false_ne_true
 | str i=>
  obtain⟨t,rfl⟩:=rx;cases y with
  | non=>cases ry;exact PySem.EqNone.ne_str_none (fX I q ζ)
  | bl j=>cases ry;exact PySem.EqMixed.ne_str_bool (fX I q ζ)
  | int j=>obtain⟨t',rfl⟩:=ry;exact PySem.EqMixed.ne_str_int (fX I q ζ)
  | str j=>obtain⟨t',rfl⟩:=ry;exact ne_str (fX I q (congrArg not Ziu))
  | _=>exact absurd (show false=true from hs) Bool.false_ne_true
 | byt i=>
  obtain⟨t,rfl⟩:=rx;cases y with
  | byt j=>obtain⟨t',rfl⟩:=ry;exact W.ne_bytes (fX I q (congrArg not Ziw))
  | _=>exact absurd (show false=true from hs) Bool.false_ne_true
 | _=>cases y<;>exact absurd (show false=true from hs) Bool.false_ne_true
theorem Er:yM X (compareOp .Lt) (nR λi j=>.bl (decide (i<j))):=Zrk λ_ _ _ _ _ _ _ q=>lt_int q
theorem Ztu:yM X (compareOp .LtE) (nR λi j=>.bl (decide (i<=j))):=Zrk λ_ _ _ _ _ _ _ q=>le_int q
theorem Zc1:yM X (compareOp .Gt) (nR λi j=>.bl (decide (j<i))):=Zrk λ_ _ _ _ _ _ _ q=>gt_int q
theorem Zy3:yM X (compareOp .GtE) (nR λi j=>.bl (decide (j<=i))):=Zrk λ_ _ _ _ _ _ _ q=>ge_int q
theorem Zv2:yM X (compareOp .Is) (λx y H Q=>y=.non/\Q (.bl (decide (x=.non))) H):=by
 intro pins s σ H x y v u Q I rx ry h;obtain⟨rfl,q⟩:=h;cases ry;refine is_none_gen (fX I q ?_);cases x<;>first
  | (cases rx;rfl)
  | (obtain⟨t,rfl⟩:=rx;rfl)
theorem Zrh:yM X (compareOp .IsNot) (λx y H Q=>y=.non/\Q (.bl (!decide (x=.non))) H):=by
 intro pins s σ H x y v u Q I rx ry h;obtain⟨rfl,q⟩:=h;cases ry;refine isnot_none_gen (fX I q ?_);cases x<;>first
  | (cases rx;rfl)
  | (obtain⟨t,rfl⟩:=rx;rfl)
def isObj:HO->Bool
 | .lst _=>true
 | .ins _ _ _=>true
 | _=>false
theorem K1{pins:At}{s:AJ}{σ:St}{H:Hp}{a:AH}{o:HO}(I:Inv X pins σ H s)(h:H a=some o)(p:isObj o=true):∃ob,s.heap.get? a=some ob/\ob.cls≠.type "tuple":=by
 cases o with
 | lst xs=>
  obtain⟨_,its,n,_,e⟩:xs.length<=sizeLine/\∃(its:AC) (n:Nat),Vals xs its/\s.heap.get? a=some { cls:=.type "list",data:=.seq its.toArray n }:=I.hok a _ h;exact⟨_,e,(by show Value.type "list"≠.type "tuple";decide +kernel)⟩
 | ins C dx fs=>
  have x:=I.hok a _ h;obtain⟨_,_,_,e,_⟩:=x;exact⟨_,e,(by show Value.ref C≠.type "tuple";exact λz=>by cases z)⟩
 | _=>exact absurd (show false=true from p) Bool.false_ne_true
theorem qF(b:AM){op:CmpOp}(h:op≠.In:=by decide)(h2:op≠.NotIn:=by decide):behindInMarks op b=false:=by
 have e1:(op == CmpOp.In)=false:=by cases op<;>first | rfl | exact absurd rfl h
 have e2:(op == CmpOp.NotIn)=false:=by cases op<;>first | rfl | exact absurd rfl h2
 cases b<;>simp[behindInMarks,e1,e2]
theorem mL{op:CmpOp}{r:R2}(ho:yM X (compareOp op) r)(ha:PE X a ta)(hb:PE X b tb)(hm:behindInMarks op b=false):PE X (.Compare a [op] [b] pos) (bw r ta tb):=by
 intro pins s σ H Q I h;exact wpAny_Compare1 (Zx0 ha hb I h λv u s2 x y H2 I2 rx ry q=>ho pins s2 σ H2 x y v u Q I2 rx ry q) hm
def bO(t:TE):TT:=λσ H Q=>t σ H λx H'=>∃k,x=.bl k/\Q k H'
theorem Zqu{op:CmpOp}{r:R2}(ho:yM X (compareOp op) r)(ha:PE X a ta)(hb:PE X b tb)(hm:behindInMarks op b=false):PT X (.Compare a [op] [b] pos) (bO (bw r ta tb)):=by
 intro pins s σ H Q I h;refine wpAny_isTrue_Compare1 (jw (ha pins s σ H _ I h) λv s1 ⟨x,H1,I1,r1,q1⟩=>jw (hb pins s1 σ H1 _ I1 q1) λu s2 ⟨y,H2,I2,r2,q2⟩=>
  jw (ho pins s2 σ H2 x y v u _ I2 r1 r2 q2) λc s3 ⟨z,H3,I3,r3,k,e,q3⟩=>?_) hm
 subst e;cases r3;exact wpAny_truthy_bool ⟨H3,I3,q3⟩
def Zep(r r':R2)(ta tb tc:TE):TE:=λσ H Q=>ta σ H λx H1=>tb σ H1 λy H2=>r x y H2 λz H3=>∃k,z=.bl k/\
 (if k=true then tc σ H3 λw' H4=>r' y w' H4 Q else Q (.bl false) H3)
theorem Zn0{op op':CmpOp}{r r':R2}(ho:yM X (compareOp op) r)(ho':yM X (compareOp op') r')(ha:PE X a ta)(hb:PE X b tb)(hc:PE X c tc)
  (hm:lastMarks [op,op'] [b,c]=false:=by with_unfolding_all rfl):PE X (.Compare a [op,op'] [b,c] pos) (Zep r r' ta tb tc):=by
 intro pins s σ H Q I h;refine Compare_chain (jw (ha pins s σ H _ I h) λv s1 ⟨x,H1,I1,r1,q1⟩=>chain_link (jw (hb pins s1 σ H1 _ I1 q1) λu s2 ⟨y,H2,I2,r2,q2⟩=>
  jw (ho pins s2 σ H2 x y v u _ I2 r1 r2 q2) λd s3 ⟨z,H3,I3,r3,k,e,q3⟩=>?_)) hm
 subst e;cases r3;refine wpAny_truthy_bool ?_;cases k with
 | false=>exact ite_ff ⟨.bl false,H3,I3,rfl,q3⟩
 | true=>exact ite_tt (chain_last (jw (hc pins s3 σ H3 _ I3 q3) λw' s4 ⟨z',H4,I4,r4,q4⟩=>ho' pins s4 σ H4 y z' u w' Q I4 r2 r4 q4))
def Zpu(K:aC)(x:V)(H:Hp)(k:Bool):Prop:=
 match x with
 | .non=>k=false
 | .bl b=>k=b
 | .int i=>k=(i != 0)
 | .str y=>y.length<=sizeLine/\k=((y.length:Int) != 0)
 | .byt y=>y.size<=sizeLine/\k=((y.size:Int) != 0)
 | .ref p=>(∃xs,cC K H p xs/\k=!xs.isEmpty)\/(∃xs,fM K H p xs/\k=!xs.isEmpty)\/∃kvs,H p=some (.dK kvs)/\k=!kvs.isEmpty
 | _=>False
theorem Zgp{κ:Type}{kvs:List (κ×V)}{vs:List (κ×AI)}(r:KV kvs vs):(!vs.isEmpty)=!kvs.isEmpty:=by
 cases r<;>rfl
theorem RQ{xs:List V}{its:AC}(r:Vals xs its):(!its.toArray.isEmpty)=!xs.isEmpty:=by
 cases r<;>simp
theorem Dh:(sizeLine:Nat)<2 ^ 63:=by rw[sizeLine_eq];decide
theorem Zuc:ZI9 X (λx H Q=>∃k,Zpu X.K x H k/\Q k H):=by
 intro pins s σ H x v Q I rx h;obtain⟨k,e,q⟩:=h;have hl:=Dh;have hs:sizeLine=16777216:=sizeLine_eq;cases x with
 | non=>
  cases rx;have e':k=false:=e;subst e';exact truthy_none ⟨H,I,q⟩
 | bl b=>
  cases rx;have e':k=b:=e;subst e';exact wpAny_truthy_bool ⟨H,I,q⟩
 | int i=>
  obtain⟨t,rfl⟩:=rx;have e':k=(i != 0):=e;subst e';exact PySem.P.truthy_int ⟨H,I,q⟩
 | str y=>
  obtain⟨t,rfl⟩:=rx;obtain⟨hy,e'⟩:y.length<=sizeLine/\k=((y.length:Int) != 0):=e;subst e';exact PySem.P.truthy_str δ ⟨H,I.tok _,q⟩
 | byt y=>
  obtain⟨t,rfl⟩:=rx;obtain⟨hy,e'⟩:y.size<=sizeLine/\k=((y.size:Int) != 0):=e;subst e';exact W.truthy_bytes δ ⟨H,I.tok _,q⟩
 | ref p=>
  cases rx;have e':(∃xs,cC X.K H p xs/\k=!xs.isEmpty)\/(∃xs,fM X.K H p xs/\k=!xs.isEmpty)\/∃kvs,H p=some (.dK kvs)/\k=!kvs.isEmpty:=e;rcases e' with ⟨xs,hx,e'⟩ | ⟨xs,hx,e'⟩ | ⟨kvs,hx,e'⟩
  ·subst e';obtain⟨its,r,pl,hz⟩:=I.list hx;have hlen:=r.length;exact wpAny_truthy_list pl.isList (by simp only[List.size_toArray];omega) ⟨H,I.tok _,by rw[RQ r];exact q⟩
  ·subst e';obtain⟨its,r,pl,hz⟩:=I.tuple hx;have hlen:=r.length;exact truthy_tuple pl (by simp only[List.size_toArray];omega) ⟨H,I.tok _,by rw[RQ r];exact q⟩
  ·subst e';obtain⟨hz,hS,vs,r,m⟩:kvs.length<=sizeLine/\(p == sysModules)=false/\∃vs,KV kvs vs/\s.heap.DictOf (eN X.prog X.w) p vs:=I.hok p _ hx;have hlen:kvs.length=vs.length:=Paired.length r;exact wpAny_truthy_dict hS m δ ⟨H,I.tok _,by rw[Zgp r];exact q⟩
 | _=>exact(show False from e).elim
theorem Zbt(ha:PE X a ta)(he:∀whole,isTrue a X.env whole=(do let v <- whole;standAt a.pos;holding [v] (truthy v))):
  PT X a (λσ H Q=>ta σ H λx H'=>∃k,Zpu X.K x H' k/\Q k H'):=by
 intro pins s σ H Q I h;exact isTrue_plain (jw (ha pins s σ H _ I h) λv s1 ⟨x,H1,I1,r1,q1⟩=>Zuc pins s1 σ H1 x v Q I1 r1 q1) (he _)
theorem QZ:yM X (binaryOp .Add) (λx y H Q=>∃i j,x=.str i/\y=.str j/\i.length+j.length<=sizeLine/\Q (.str (i++j)) H):=by
 intro pins s σ H x y v u Q I rx ry h;obtain⟨i,j,rfl,rfl,hz,q⟩:=h;obtain⟨t,rfl⟩:=rx;obtain⟨t',rfl⟩:=ry;exact add_str (λt' tk=>⟨.str (i++j),H,I.tok _,⟨_,rfl⟩,q⟩) hz
theorem vals1{x:V}{us:AC}(r:Vals [x] us):∃u,us=[u]/\RelV x u:=by
 cases r with
 | cons r1 r2=>cases r2;exact⟨_,rfl,r1⟩
theorem vals2{x y:V}{us:AC}(r:Vals [x,y] us):∃u w',us=[u,w']/\RelV x u/\RelV y w':=by
 cases r with
 | cons r1 r2=>
  cases r2 with
  | cons r3 r4=>cases r4;exact⟨_,_,rfl,r1,r3⟩
theorem Zlg(hc:X.calm=true):JK X (.builtin "max") (λxs H Q=>∃i j,xs=[.int i,.int j]/\Q (.int (if j > i then j else i)) H):=by
 intro pins s σ H xs us Q I r h;obtain⟨i,j,rfl,q⟩:=h;obtain⟨u,w',rfl,⟨t,rfl⟩,⟨t',rfl⟩⟩:=vals2 r;refine max_two_ints (I.ok.hd hc) λh' tk k=>⟨_,H,I.kept k,?_,q⟩
 by_cases hj:j > i
 ·rw[if_pos hj,if_pos hj];exact⟨_,rfl⟩
 ·rw[if_neg hj,if_neg hj];exact⟨_,rfl⟩
end
structure Zhw(h:Heap)(x dx C:AH)(mA:As):Prop where
 obj:h.get? x=some (W.instObj C dx)
 ns:h.Ns1 dx mA
 ne:dx≠x
theorem Zkd{h:Heap}{dx:AH}{mA:As}(n:h.Ns1 dx mA):∃od,h.get? dx=some od/\∀name,W.lookIn name od=some (mA name):=by
 obtain⟨o,es,ep,ho,hd,hk,_,hm⟩:=n;refine⟨o,ho,λname=>?_⟩;have e:=hm name;unfold nsFind findBy at e;rw[<- Array.find?_toList]at e;unfold W.lookIn;rw[hd];dsimp only;split
 ·rename_i y q
  rw[q]at e;exact congrArg some e
 ·rename_i q
  rw[q]at e;have a:es.toList.any (·.refKey)=false:=by
   rw[List.any_eq_false];intro y hy;obtain⟨z,t,hkey⟩:=hk y (Array.mem_toList_iff.mp hy);simp[DictEntry.refKey,hkey]
  have a':¬ es.toList.any (·.refKey)=true:=by rw[a];exact Bool.false_ne_true
  rw[if_neg a'];exact congrArg some e
theorem Zhw.look{h:Heap}{x dx C:AH}{mA:As}(I:Zhw h x dx C mA):∃od,W.InstAt h x (W.instObj C dx) C (some od)/\∀name,W.lookIn name od=some (mA name):=
 let ⟨od,ho,hl⟩:=Zkd I.ns
 ⟨od,⟨I.obj,rfl,rfl,ho⟩,hl⟩
section
variable {prog:AL}{w:AN}{A:Around}{E:Ap}{s:AJ}{K:aC}{x dx C f:AH}{mA:As}{name:Str}{v:AI}
theorem get_map{expr:Bool}{Q:Ap}(X:K.In s.heap)(I:Zhw s.heap x dx C mA)(hg:W.plainGet K C name=true)(hh:W.hasDictIn K C=true)
  (ha:W.findIn K (.ref C) name=some none) (hv:mA name=some v) (hv':W.handedIn v=true) (h:Q v { s with toks:=s.toks+1 }):
  wpAny ah A (getAttr (.ref x) name expr) Q E s:=by
 obtain⟨od,J,hl⟩:=I.look;exact W.get_value X J (W.plainGet_of hg).1 (W.findObj_own hh ha rfl (by rw[hl,hv])) hv' h
theorem Zoz{pl:Sem Bool}{Q:AI×AC->AJ->Prop}(X:K.In s.heap)(I:Zhw s.heap x dx C mA)(hg:W.plainGet K C name=true)
  (hf:W.findIn K (.ref C) name=some (↑f)) (ht:W.isFn K (.ref f)=true) (hv:mA name=none) (h:Q (.ref f,[.ref x]) s):
  wpAny ah A (getMethod (.ref x) name pl) Q E s:=by
 obtain⟨od,J,hl⟩:=I.look;exact W.method_fn X J (W.plainGet_of hg).1 (W.plainGet_of hg).2 hf (beq_iff_eq.mp ht) (by show(W.lookIn name od).map (·.isSome)=some false;rw[hl,hv];rfl) h
theorem Zqa{ns:AG}{Q:Unit->AJ->Prop}(X:K.In s.heap)(I:Zhw s.heap x dx C mA)
  (hs:W.findIn K (.ref C) "__setattr__"=some (some (.builtin "object.__setattr__"))) (hp:W.plainOver K C=true) (ht:W.takerIn K C name=some none) (hh:W.hasDictIn K C=true)
  (hw:PySem.Within mA ns) (hsz:ns.length<=sizeLine)
  (h:∀h',Zhw h' x dx C (λy=>if y=name then some v else mA y)->Heap.SameBut dx s.heap h'->Q () { s with heap:=h',toks:=s.toks+2 }):
  wpAny ah A (setAttr (.ref x) name v) Q E s:=by
 obtain⟨od,J,hl⟩:=I.look;refine W.set_plain X J hs (W.osa_open (s:={ s with toks:=s.toks+1 }) (r:=none) X J hp ht λb=>?_);obtain⟨cd,hc,hd'⟩:=W.any_some hh;have hx:s.heap.get? x=some ⟨.ref C,some dx,.plain,#[]⟩:=I.obj;refine wpAny_bind (wpAny_pure (wpAny_bind (wpAny_bind (wpAny_loadPart hx (wpAny_bind (W.Looks.here (s:={ s with toks:=s.toks+1 }) (W.looks_clsIn X hc) ?_))))));rw[hd'];refine wpAny_pure (a:=some dx) (wpAny_bind (wpAny_pure (wpAny_bind ?_)));refine wpAny_nsSet1 (s:={ s with toks:=s.toks+1 }) I.ns λh' hn2 hs2=>?_;obtain⟨oD,esD,epD,hoD,hdD,hcD⟩:=hn2.count (PySem.Within.cons name v hw);refine wpAny_bind (wpAny_lookBehind hoD (by rw[hdD];exact pastItsLine_dict (Nat.le_trans hcD (by rw[List.length_cons];omega))) ?_);exact wpAny_pure (h _ ⟨(hs2.2 _ (Ne.symm I.ne)).trans I.obj,hn2,I.ne⟩ hs2)
theorem Znl{R:Result->AJ->Prop}{vs:AC}{kw:List (Str×AI)}(X:K.In s.heap)(hm:W.makesIn K C=true)
  (hi:W.findIn K (.ref C) "__init__"=some (↑f)) (hf:W.typeIn K (.ref f)=some (.type "function"))
  (h:codeAny ah (A.under (.builtin "type.__call__" ⟨.ref C::vs,kw⟩)) (.call (.ref f) ⟨.ref ai::vs,kw⟩) (W.InitBack ai R)
   { s with heap:=(s.heap.push W.emptyDict).push (W.instObj C s.heap.objs.size) }):
  codeAny ah A (.call (.ref C) ⟨vs,kw⟩) R s:=by
 obtain⟨hh,g,d,t,os⟩:=s;exact W.make_core (W.makes_of X hm) (W.looks_findIn X hi) (λself=>W.bind_fn X self hf) (.inl rfl) h
theorem Zk4{R:Result->AJ->Prop}(X:K.In s.heap)(hm:W.makesIn K C=true)
  (hi:W.findIn K (.ref C) "__init__"=some (some (.builtin "object.__init__")))
  (hb:∀self,W.Looks ah s.heap (bindSpecial (.builtin "object.__init__") self) (.builtin "object.__init__",[self]))
  (h:codeAny ah (A.under (.builtin "type.__call__" ⟨[.ref C],[]⟩)) (.call (.builtin "object.__init__") ⟨[.ref ai],[]⟩) (W.InitBack ai R)
   { s with heap:=(s.heap.push W.emptyDict).push (W.instObj C s.heap.objs.size) }):
  codeAny ah A (.call (.ref C) ⟨[],[]⟩) R s:=by
 obtain⟨hh,g,d,t,os⟩:=s;exact W.make_core (W.makes_of X hm) (W.looks_findIn X hi) hb (.inr ⟨rfl,rfl⟩) h
end
def cI(f:Str)(v:V):List (Str×V)->List (Str×V)
 | []=>[(f,v)]
 | (g,x)::r=>if g=f then(g,v)::r else(g,x)::cI f v r
theorem Nr(f g:Str)(v:V):∀fs:List (Str×V),(cI f v fs).lookup g=if g=f then some v else fs.lookup g
 | []=>by
  show List.lookup g [(f,v)]=_
  by_cases h:g=f
  ·have hb:(g == f)=true:=beq_iff_eq.mpr h;simp only[List.lookup,hb,if_pos h]
  ·have hb:(g == f)=false:=beq_eq_false_iff_ne.mpr h;simp only[List.lookup,hb,if_neg h]
 | (k,x)::r=>by
  have ih:=Nr f g v r;rw[show cI f v ((k,x)::r)=(if k=f then(k,v)::r else(k,x)::cI f v r)from rfl]
  by_cases hk:k=f
  ·rw[if_pos hk]
   by_cases h:g=k
   ·have hb:(g == k)=true:=beq_iff_eq.mpr h;simp only[List.lookup,hb,if_pos (h.trans hk)]
   ·have hb:(g == k)=false:=beq_eq_false_iff_ne.mpr h;simp only[List.lookup,hb,if_neg (λe:g=f=>h (e.trans hk.symm))]
  ·rw[if_neg hk]
   by_cases h:g=k
   ·have hb:(g == k)=true:=beq_iff_eq.mpr h;simp only[List.lookup,hb,if_neg (λe:g=f=>hk (h.symm.trans e))]
   ·have hb:(g == k)=false:=beq_eq_false_iff_ne.mpr h;simp only[List.lookup,hb];exact ih
theorem Lf(f:Str)(v:V):∀fs:List (Str×V),f∈(cI f v fs).map (·.1)/\∀g,g∈fs.map (·.1)->g∈(cI f v fs).map (·.1)
 | []=>⟨by simp[cI],λg h=>by simp at h⟩
 | (k,x)::r=>by
  obtain⟨i1,i2⟩:=Lf f v r;rw[show cI f v ((k,x)::r)=(if k=f then(k,v)::r else(k,x)::cI f v r)from rfl]
  by_cases hk:k=f
  ·rw[if_pos hk];subst hk;exact⟨ζ,λg h=>by simpa using h⟩
  ·rw[if_neg hk];refine⟨?_,λg h=>?_⟩
   ·rw[List.map_cons];exact List.mem_cons_of_mem _ i1
   ·rw[List.map_cons]at h ⊢;rcases List.mem_cons.mp h with e | e
    ·exact List.mem_cons.mpr (.inl e)
    ·exact List.mem_cons_of_mem _ (i2 g e)
theorem Nu(f:Str)(v:V):∀fs:List (Str×V),(cI f v fs).length<=fs.length+1
 | []=>by simp[cI]
 | (k,x)::r=>by
  have ih:=Nu f v r;rw[show cI f v ((k,x)::r)=(if k=f then(k,v)::r else(k,x)::cI f v r)from rfl]
  by_cases hk:k=f
  ·rw[if_pos hk,List.length_cons,List.length_cons];omega
  ·rw[if_neg hk,List.length_cons,List.length_cons];omega
theorem El.some_of{v:V}{o:AB}(r:El (some v) o):∃u,o=some u/\RelV v u:=by
 cases o with
 | none=>exact(show False from r).elim
 | some u=>exact⟨u,rfl,r⟩
theorem El.none_of{o:AB}(r:El none o):o=none:=by
 cases o with
 | none=>rfl
 | some u=>exact(show False from r).elim
theorem Zl0{v:V}{u:AI}(r:RelV v u):W.handedIn u=true:=by
 cases v with
 | non=>cases (show u=Value.none from r);rfl
 | bl b=>cases (show u=Value.bool b from r);rfl
 | int i=>obtain⟨t,e⟩:=(show ∃t,u=Value.int i t from r);cases e;rfl
 | str x=>obtain⟨t,e⟩:=(show ∃t,u=Value.str x t from r);cases e;rfl
 | byt b=>obtain⟨t,e⟩:=(show ∃t,u=Value.bytes b t from r);cases e;rfl
 | flt b=>obtain⟨t,e⟩:=(show ∃t,u=Value.float b t from r);cases e;rfl
 | ref a=>cases (show u=Value.ref a from r);rfl
 | ty n=>cases (show u=Value.type n from r);rfl
section
variable {P:AL}{w:AN}{H H':Hp}{h h':Heap}{a C dx:AH}{fs fs':List (Str×V)}
theorem Pg(hok:Dv P w H h)(e:H a=some (.ins C dx fs)):∃mA,Zhw h a dx C mA/\(∀f,El (fs.lookup f) (mA f))/\PySem.Within mA (fs.map (·.1))/\fs.length<=1000/\H dx=some (.own a):=by
 obtain⟨d,z,ne,ob,mA,n,r,q⟩:=(show kj P w H h a (.ins C dx fs)from hok a _ e);exact⟨mA,⟨ob,n,ne⟩,r,q,z,d⟩
end
structure Fl(K:aC)(C:AH):Prop where
 pg:W.plainGet K C Str.empty=true
 hd:W.hasDictIn K C=true
 po:W.plainOver K C=true
 sa:W.findIn K (.ref C) "__setattr__"=some (some (.builtin "object.__setattr__"))
theorem Fl.get{K:aC}{C:AH}(c:Fl K C)(f:Str):W.plainGet K C f=true:=c.pg
def bL(K:aC)(C:AH)(f:Str):Prop:=W.findIn K (.ref C) f=some none
theorem bL.taker{K:aC}{C:AH}{f:Str}(n:bL K C f):W.takerIn K C f=some none:=by
 unfold W.takerIn;rw[show W.findIn K (.ref C) f=some none from n];rfl
structure Con(K:aC)(C:AH)(f:Str)(v:V)(u:AI):Prop where
 at_:W.findIn K (.ref C) f=some (some u)
 rel:RelV v u
 get:W.specialIn K u "__get__"=some none
 cp:W.copiedNames.contains f=false
structure Meth(K:aC)(C:AH)(m:Str)(f:AH):Prop where
 at_:W.findIn K (.ref C) m=some (↑f)
 fn:W.isFn K (.ref f)=true
 kp:W.keepIn K (.ref f)=true
section
variable {X:Cx}{pins:At}{σ:St}{H:Hp}{s:AJ}{a C dx:AH}{fs:List (Str×V)}{f:Str}{v:V}{A:Around}{E:Ap}
theorem Zh1{b:Bool}{Q:Ap}(I:Inv X pins σ H s)(e:H a=some (.ins C dx fs))(c:Fl X.K C)(n:bL X.K C f)(l:fs.lookup f=some v)
  (h:∀u s',Inv X pins σ H s'->RelV v u->Q u s'):wpAny ς A (getAttr (.ref a) f b) Q E s:=by
 obtain⟨mA,O,r,_,_,_⟩:=Pg I.hok e;obtain⟨u,hu,ru⟩:=El.some_of (v:=v) (o:=mA f) (by rw[<- l];exact r f);exact get_map I.Dk O (c.get f) c.hd n hu (Zl0 ru) (h u _ (I.tok _) ru)
theorem RZ{m:Str}{g:AH}{pl:Sem Bool}{Q:AI×AC->AJ->Prop}(I:Inv X pins σ H s)(e:H a=some (.ins C dx fs))(c:Fl X.K C)(k:Meth X.K C m g)(l:fs.lookup m=none)
  (h:Q (.ref g,[.ref a]) s):wpAny ς A (getMethod (.ref a) m pl) Q E s:=by
 obtain⟨mA,O,r,_,_,_⟩:=Pg I.hok e;have hn:mA m=none:=El.none_of (by rw[<- l];exact r m);exact Zoz I.Dk O (c.get m) k.at_ k.fn hn h
theorem Zf2{y:V}{u:AI}{Q:Unit->AJ->Prop}(I:Inv X pins σ H s)(e:H a=some (.ins C dx fs))(c:Fl X.K C)(n:bL X.K C f)(hl:fs.length<1000)(ry:RelV y u)
  (h:∀s',Inv X pins σ (upd H a (.ins C dx (cI f y fs))) s'->Q () s'):wpAny ς A (setAttr (.ref a) f u) Q E s:=by
 obtain⟨mA,O,r,wi,_,ho⟩:=Pg I.hok e;have hz:(fs.map (·.1)).length<=sizeLine:=by rw[bx,sizeLine_eq];omega
 refine Zqa I.Dk O c.sa c.po n.taker c.hd wi hz λh' O' sb=>h _ ?_;have hd:∃o,h'.get? dx=some o:=let ⟨o,_,_,e',_⟩:=O'.ns;⟨o,e'⟩
 refine I.write (x:=a) (e:=dx) (by rw[e];exact True.intro) (.inr ho) (λb q hb z=>(sb.2 b hb).trans z) hd ?_;refine⟨by rw[aB O.ne];exact ho,?_,O.ne,O'.obj,_,O'.ns,λg=>?_,λg hg=>?_⟩
 ·have:=Nu f y fs;omega
 ·show El ((cI f y fs).lookup g) (if g=f then some u else mA g);rw[Nr]
  by_cases q:g=f
  ·rw[if_pos q,if_pos q];exact ry
  ·rw[if_neg q,if_neg q];exact r g
 ·by_cases q:g=f
  ·rw[q];exact(Lf f y fs).1
  ·refine(Lf f y fs).2 g (wi g λz=>hg ?_);show(if g=f then some u else mA g)=none;rw[if_neg q];exact z
theorem Inv.made(I:Inv X pins σ H s):Inv X pins σ (upd (upd H s.heap.objs.size (.own ai)) ai (.ins C s.heap.objs.size []))
  { s with heap:=(s.heap.push W.emptyDict).push (W.instObj C s.heap.objs.size) }:=by
 have e1:(s.heap.push W.emptyDict).get? s.heap.objs.size=some W.emptyDict:=Heap.get?_push_size s.heap rfl;have e2:((s.heap.push W.emptyDict).push (W.instObj C s.heap.objs.size)).get? (s.heap.objs.size+1)=some (W.instObj C s.heap.objs.size):=by
  have:=Heap.get?_push_size (s.heap.push W.emptyDict) (o:=W.instObj C s.heap.objs.size) rfl
  rwa [Heap.size_push]at this
 have e3:(s.heap.push W.emptyDict).Ns s.heap.objs.size (λ_=>none):=⟨W.emptyDict,#[],_,e1,rfl,(λe he=>absurd he ζ),λ_=>rfl⟩;have I1:=I.laid (a:=s.heap.objs.size) (o:=.own ai) (h':=s.heap.push W.emptyDict) (t':=s.toks) (λb u q=>Heap.get?_push_of_some _ q) Δ ⟨_,e1⟩;refine I1.laid (a:=s.heap.objs.size+1) (o:=.ins C s.heap.objs.size []) (t':=s.toks) (λb u q=>Heap.get?_push_of_some _ q) (Nat.le_of_eq (Heap.size_push _ _)) ?_;have ne:s.heap.objs.size≠s.heap.objs.size+1:=Nat.ne_of_lt (Nat.lt_succ_self _);refine⟨by rw[aB ne,aq],Nat.zero_le _,ne,e2,λ_=>none,(Heap.Ns1.of_empty e3).at λo q=>Heap.get?_push_of_some _ q,λ_=>True.intro,λy hy=>absurd rfl hy⟩
theorem Ztc{prog:AL}{w:AN}{env:Env}{e:AM}{f:Str}{pos:Pos}{s:AJ}{Q:Ap}(hb:attributeBase e f env (eval e env)=eval e env)
  (h:wpAny ah A (eval e env) (λo s₁=>wpAny ah A (getAttr o f true) Q E s₁) E s):wpAny ah A (eval (.Attribute e f pos) env) Q E s:=
 Attribute_any_ h (by rw[arm_eval_Attribute,hb])
end
def bG(K:aC)(ta:TE)(f:Str):TE:=λσ H Q=>ta σ H λx H1=>∃a C dx fs v,x=.ref a/\H1 a=some (.ins C dx fs)/\Fl K C/\bL K C f/\fs.lookup f=some v/\Q v H1
def iw(K:aC)(ta tv:TE)(f:Str):TS:=λD σ H=>tv σ H λy H1=>ta σ H1 λx H2=>∃a C dx fs,x=.ref a/\H2 a=some (.ins C dx fs)/\Fl K C/\bL K C f/\fs.length<1000/\
 D.nx σ (upd H2 a (.ins C dx (cI f y fs)))
section
variable {X:Cx}{o e value:AM}{f:Str}{pos pos' tpos:Pos}{ta tv:TE}
theorem aK(he:PE X e ta)(hb:attributeBase e f X.env (eval e X.env)=eval e X.env):PE X (.Attribute e f pos) (bG X.K ta f):=by
 intro pins s σ H Q I h;refine Ztc hb (jw (he pins s σ H _ I h) λu s1 ⟨x,H1,I1,rx,a,C,dx,fs,v,ex,ea,c,n,l,q⟩=>?_);subst ex;obtain rfl:u=Value.ref a:=rx;exact Zh1 I1 ea c n l λu' s2 I2 ru=>⟨v,H1,I2,ru,q⟩
theorem cJ(ha:PE X o ta)(hv:PE X value tv)(hs:swapsWith value (some (.Attribute o f pos')) pos.line X.env=pure false):PS X (.Assign [.Attribute o f pos'] value pos) (iw X.K ta tv f):=by
 intro pins s σ H D I h;refine plainObj_wpAny_Assign_Attribute (jw (hv pins s σ H _ I h) λu s1 ⟨y,H1,I1,ry,q⟩=>jw (ha pins s1 σ H1 _ I1 q) λov s2 ⟨x,H2,I2,rx,a,C,dx,fs,ex,ea,c,n,l,q2⟩=>?_) hs;subst ex;obtain rfl:ov=Value.ref a:=rx;exact Zf2 I2 ea c n l ry λs3 I3=>⟨σ,_,I3,q2⟩
end
section
variable {X:Cx}{pins:At}{σ:St}{H:Hp}{s:AJ}{A:Around}{E:Ap}{Q:Ap}{c:AI}{b:Bool}
inductive Mj(K:aC)(H:Hp):V->AI->Prop where
 | non:Mj K H .non (.type "NoneType")
 | bl (x:Bool):Mj K H (.bl x) (.type "bool")
 | int (i:Int):Mj K H (.int i) (.type "int")
 | str (x:Str):Mj K H (.str x) (.type "str")
 | flt (x:UInt64):Mj K H (.flt x) (.type "float")
 | lst {a:AH}{xs:List V} (e:H a=some (.lst xs)):Mj K H (.ref a) (.type "list")
 | yU {a:AH}{o:Obj}{xs:List V} (e:H a=some (.yU o (.lst xs))):Mj K H (.ref a) (.type "list")
 | tup {a:AH}{xs:List V} (e:H a=some (.tup xs)):Mj K H (.ref a) (.type "tuple")
 | dK {a:AH}{kvs:List (Key×V)} (e:H a=some (.dK kvs)):Mj K H (.ref a) (.type "dict")
 | dT {a:AH}{kvs:List (List Key×V)} (e:H a=some (.dT kvs)):Mj K H (.ref a) (.type "dict")
 | ins {a C dx:AH}{fs:List (Str×V)} (e:H a=some (.ins C dx fs)) (cl:Fl K C) (ha:W.findIn K (.ref C) "__class__"=some (some (.builtin "object.__class__")))
   (hn:W.specialIn K (.builtin "object.__class__") "__get__"=some (some (.builtin "getset_descriptor.__get__"))) (htk:W.takesIn K (.builtin "object.__class__")=some true)
   (hm:W.mroIn K C (.type "object")=some true):Mj K H (.ref a) (.ref C)
theorem Zkg{x:V}{u t:AI}(I:Inv X pins σ H s)(rx:RelV x u)(ty:Mj X.K H x t)(e:W.kitOne X.K t c=some b)(h:∀tk,Q (.bool b) { s with toks:=tk }):
  wpAny ς A (call (.builtin "isinstance") [u,c]) Q E s:=by
 cases ty with
 | non=>cases (show u=Value.none from rx);exact W.kia_one W.kitx_none I.Dk True.intro e (λz=>nomatch z) h
 | bl y=>cases (show u=Value.bool y from rx);exact W.kia_one W.kitx_bool I.Dk True.intro e (λz=>nomatch z) h
 | int i=>obtain⟨t,q⟩:=(show ∃t,u=Value.int i t from rx);cases q;exact W.kia_one W.kitx_int I.Dk True.intro e (λz=>nomatch z) h
 | str y=>obtain⟨t,q⟩:=(show ∃t,u=Value.str y t from rx);cases q;exact W.kia_one W.kitx_str I.Dk True.intro e (λz=>nomatch z) h
 | flt y=>obtain⟨t,q⟩:=(show ∃t,u=Value.float y t from rx);cases q;exact W.kia_one W.kitx_float I.Dk True.intro e (λz=>nomatch z) h
 | @lst a xs ea=>
  cases (show u=Value.ref a from rx);obtain⟨_,_,n,_,h1⟩:=(show kj X.prog X.w H s.heap a (.lst xs)from I.hok a _ ea);exact W.kia_one W.kitx_list I.Dk ⟨_,h1,rfl⟩ e (λz=>nomatch z) h
 | @yU a ob xs ea=>
  cases (show u=Value.ref a from rx);obtain⟨_,_,_,n,_,h1⟩:=(show kj X.prog X.w H s.heap a (.yU ob (.lst xs))from I.hok a _ ea);exact W.kia_one W.kitx_list I.Dk ⟨_,h1,rfl⟩ e (λz=>nomatch z) h
 | @tup a xs ea=>
  cases (show u=Value.ref a from rx);obtain⟨_,_,_,p⟩:=(show kj X.prog X.w H s.heap a (.tup xs)from I.hok a _ ea);obtain⟨o,h1,h2,_⟩:=p;exact W.kia_one W.kitx_tuple I.Dk ⟨o,h1,h2⟩ e (λz=>nomatch z) h
 | @dK a kvs ea=>
  cases (show u=Value.ref a from rx);obtain⟨_,_,vs,_,p⟩:=(show kj X.prog X.w H s.heap a (.dK kvs)from I.hok a _ ea);obtain⟨o,es,ep,h1,h2,_⟩:=p;exact W.kia_one W.kitx_dict I.Dk ⟨o,h1,h2.1⟩ e (λz=>nomatch z) h
 | @dT a kvs ea=>
  cases (show u=Value.ref a from rx);obtain⟨_,_,xs,_,o,es,ep,h1,h2,_⟩:=(show kj X.prog X.w H s.heap a (.dT kvs)from I.hok a _ ea);exact W.kia_one W.kitx_dict I.Dk ⟨o,h1,h2.1⟩ e (λz=>nomatch z) h
 | @ins a C dx fs ea cl ha hn htk hm=>
  cases (show u=Value.ref a from rx);obtain⟨mA,O,_⟩:=Pg I.hok ea;obtain⟨od,J,_⟩:=O.look;exact W.kia_one (W.kitx_own (cl.get _) cl.hd ha hn htk hm) I.Dk J e (λz=>nomatch z) h
end
structure Room(k:Nat)(A:Around):Prop where
 hd:A.handled=none
 dp:A.depth+3 * k+5<recursionLimit
 un:A.units+16 * k+200<cLine
theorem Room.mono{j k:Nat}{A:Around}(r:Room k A)(h:j<=k):Room j A:=⟨r.hd,by have:=r.dp;omega,by have:=r.un;omega⟩
theorem Room.deeper{k:Nat}{A:Around}(r:Room (k+1) A)(env:Env):Room k (A.deeper env):=
 ⟨r.hd,by have:=r.dp;show A.depth+1+3 * k+5<_;omega,by have:=r.un;show A.units+3+16 * k+200<_;omega⟩
theorem Zgf{A:Around}{C:AH}{us:AC}{kw:List (Str×AI)}:(A.under (.builtin "type.__call__" ⟨.ref C::us,kw⟩)).depth=A.depth+1:=by
 first | rfl | simp[Around.under,Code.weight,Code.isCreation,Code.isGuard,Code.isCaller,Code.frames,Code.isFrame,guardIds]
theorem Zge{A:Around}{C:AH}{us:AC}{kw:List (Str×AI)}:(A.under (.builtin "type.__call__" ⟨.ref C::us,kw⟩)).units=A.units+1:=by
 first | rfl | simp[Around.under,Code.cUnits,Code.frames,Code.isFrame]
theorem Room.make{k:Nat}{A:Around}(r:Room (k+1) A)(C:AH)(us:AC)(kw:List (Str×AI)):Room k (A.under (.builtin "type.__call__" ⟨.ref C::us,kw⟩)):=
 ⟨r.hd,by have:=r.dp;rw[Zgf];omega,by have:=r.un;rw[Zge];omega⟩
theorem Room.depth{k:Nat}{A:Around}(r:Room k A):A.depth<recursionLimit:=by have:=r.dp;omega
theorem Room.units{k:Nat}{A:Around}(r:Room k A):A.units+64<cLine:=by have:=r.un;omega
def aF:TA:=λ_ H Q=>Q [] H
def aj(ta:TE)(tr:TA):TA:=λσ H Q=>ta σ H λx H1=>tr σ H1 λxs H2=>Q (x::xs) H2
section
variable {X:Cx}{e:AM}{es:AF}{te:TE}{t:TA}{pos:Pos}
theorem au:PA X [] aF:=λ_ _ _ _ H Q I h=>Calls.spliced_nil ⟨[],H,I,.nil,h⟩
theorem aa(ha:PE X e te)(hr:PA X es t)(hs:starEach (e::es) X.env=(false,eval e X.env)::starEach es X.env:=by rfl):PA X (e::es) (aj te t):=by
 intro pos pins s σ H Q I h;rw[hs];show wpAny _ _ (spliced ((false,eval e X.env)::backTo pos (starEach es X.env))) _ _ s;refine Calls.spliced_cons (jw (ha pins s σ H _ I h) λu s1 ⟨x,H1,I1,r1,q1⟩=>?_);exact jw (hr pos pins s1 σ H1 _ I1 q1) λus s2 ⟨xs,H2,I2,r2,q2⟩=>⟨x::xs,H2,I2,.cons r1 r2,q2⟩
def fU(t:TA):TE:=λσ H Q=>t σ H λxs H1=>xs.length<=sizeLine/\∀p,H1 p=none->Q (.ref p) (upd H1 p (.tup xs))
def gk(t:TA):TE:=λσ H Q=>t σ H λxs H1=>xs.length<=sizeLine/\∀p,H1 p=none->Q (.ref p) (upd H1 p (.lst xs))
theorem cF{x1}(h:PA X es t):PE X (.Tuple es x1 pos) (fU t):=by
 intro pins s σ H Q I hq;refine wpAny_Tuple_spliced (jw (h pos pins s σ H _ I hq) λus s1 ⟨xs,H1,I1,r,z,q⟩=>⟨by rw[<- r.length];exact z,?_⟩);have hf:H1 s1.heap.objs.size=none:=I1.hok.fresh Δ;refine⟨.ref s1.heap.objs.size,upd H1 s1.heap.objs.size (.tup xs),I1.laid (t':=s1.toks) (λb u e=>Heap.get?_push_of_some _ e) Δ ?_,rfl,q _ hf⟩;exact⟨z,us,r,⟨_,Heap.get?_push_size _ rfl,rfl,_,rfl⟩⟩
theorem cQ(h:PA X es t):PE X (.List es pos) (gk t):=by
 intro pins s σ H Q I hq;refine wpAny_List_spliced (jw (h pos pins s σ H _ I hq) λus s1 ⟨xs,H1,I1,r,z,q⟩=>⟨by rw[<- r.length];exact z,?_⟩);have hf:H1 s1.heap.objs.size=none:=I1.hok.fresh Δ;refine⟨.ref s1.heap.objs.size,upd H1 s1.heap.objs.size (.lst xs),I1.laid (t':=s1.toks) (λb u e=>Heap.get?_push_of_some _ e) Δ ?_,rfl,q _ hf⟩;exact⟨z,us,0,r,Heap.get?_push_size _ rfl⟩
end
abbrev Sp:=List V->Hp->VK->XK->Prop
abbrev CXT:=List Env->Hp->AJ->XK->AI->AJ->Prop
structure Zhz(P:AL)(w:AN)(K:aC)(mg:As)(base:Heap)(A:Around)(outer:List Env)(s:AJ)(H:Hp):Prop where
 frames:A.frames=some outer
 mod:Mod K mg base
 bs:∀b o,base.get? b=some o->s.heap.get? b=some o/\H b=none
 bsz:base.objs.size<=s.heap.objs.size
 Am:s.heap.FunFrames base outer
 frf:∀b∈frs outer,H b=none
 hok:Dv P w H s.heap
 bare:AllBare s.gens
def CE(outer:List Env)(P:AL)(w:AN)(H:Hp)(s:AJ)(Q:VK)(u:AI)(s':AJ):Prop:=
 ∃v H',s'.os=s.os/\AllBare s'.gens/\Un (frs outer) [] H H' s.heap s'.heap/\Dv P w H' s'.heap/\RelV v u/\Q v H'
def CR(CX:CXT)(outer:List Env)(P:AL)(w:AN)(H:Hp)(s:AJ)(Q:VK)(E:XK)(r:Result)(s':AJ):Prop:=
 match r with
 | .ok (.ret u)=>CE outer P w H s Q u s'
 | .ok _=>False
 | .error e=>CX outer H s E e s'
structure vP(P:AL)(w:AN)(K:aC)(mg:As)(base:Heap)(CX:CXT)(k:Nat)(f:AH)(fd:AK)(ps:AG)(sp:Sp):Prop where
 len:∀vs H Q E,sp vs H Q E->vs.length=ps.length
 run:∀(A:Around) (outer:List Env) (s:AJ) (H:Hp) (args:Args) (us:AC) (vs:List V) (Q:VK) (E:XK),Room k A->Zhz P w K mg base A outer s H->BindsTo s fd args (ps.zip us)->Vals vs us->sp vs H Q E->
  codeAny (model P w) A (.call (.ref f) args) (CR CX outer P w H s Q E) s
theorem Zhz.make{P:AL}{w:AN}{K:aC}{mg:As}{base:Heap}{A:Around}{outer:List Env}{s:AJ}{H:Hp}(e:Zhz P w K mg base A outer s H)(C:AH)(us:AC)(kw:List (Str×AI)):
  Zhz P w K mg base (A.under (.builtin "type.__call__" ⟨.ref C::us,kw⟩)) outer s H:=⟨by first | exact e.frames | (simpa[Around.under,Code.envs,Code.isFrame,pushEnvs]using e.frames),e.mod,e.bs,e.bsz,e.Am,e.frf,e.hok,e.bare⟩
section
variable {X:Cx}{pins:At}{σ:St}{H:Hp}{s s':AJ}
theorem Inv.env0(I:Inv X pins σ H s):Zhz X.prog X.w X.K X.mg X.base X.A X.stack s H:=
 ⟨I.ok.frames,I.ok.mod,I.bs,Nat.le_trans I.ok.bsz I.sz,I.stack,I.XD,I.hok,I.bare⟩
theorem Inv.after{Q:VK}{u:AI}(I:Inv X pins σ H s)(h:CE X.stack X.prog X.w H s Q u s'):EP X pins σ Q u s':=by
 obtain⟨v,H',os,bare,un,hok,r,q⟩:=h;obtain⟨hh,g,d,t,os'⟩:=s';obtain rfl:os'=s.os:=os;exact⟨v,H',I.call (h':=hh) (g':=g) (d':=d) (t':=t) (ch:=[]) un hok bare (λb z=>absurd z ζ),r,q⟩
end
def aX(sp:Sp)(vV:List V)(E:XK)(t:TA):TE:=λσ H Q=>t σ H λvs H1=>sp (vs++vV) H1 Q E
def lq(C:AH)(m:Str)(sp:Sp)(vV:List V)(E:XK)(ta:TE)(t:TA):TE:=λσ H Q=>ta σ H λx H1=>∃a dx fs,x=.ref a/\H1 a=some (.ins C dx fs)/\fs.lookup m=none/\
 t σ H1 λvs H2=>sp (x::(vs++vV)) H2 Q E
def Ba(C:AH)(sp:Sp)(vV:List V)(E:XK)(t:TA):TE:=λσ H Q=>t σ H λvs H1=>∀x dx,H1 x=none->H1 dx=none->dx≠x->
 sp (.ref x::(vs++vV)) (upd (upd H1 dx (.own x)) x (.ins C dx [])) (λv H2=>v=.non/\Q (.ref x) H2) E
def Binds(K:aC)(fd:AK)(ps:AG)(ds:AC):Prop:=
 ∀(s:AJ) (us:AC),K.In s.heap->(us++ds).length=ps.length->BindsTo s fd ⟨us,[]⟩ (ps.zip (us++ds))
theorem Binds.all{K:aC}{fd:AK}{ps:AG}(h:∀us:AC,us.length=ps.length->bindArgs fd ⟨us,[]⟩=pure (ps.zip us)):Binds K fd ps []:=λs us _ hl=>by
 rw[List.append_nil]at hl ⊢;exact .of_eq (h us hl)
def Passes(CX:CXT)(X:Cx)(E:XK):Prop:=∀(pins:At) (σ:St) (H:Hp) (s:AJ) (e:AI) (s':AJ),Inv X pins σ H s->CX X.stack H s E e s'->X.xe e s'
section
variable {X:Cx}{CX:CXT}{k:Nat}{f C:AH}{fd:AK}{ps:AG}{sp:Sp}{vV:List V}{ds:AC}{E:XK}{x m:Str}{p pos apos:Pos}{e o:AM}{es:AF}{ta:TE}{t:TA}
theorem Yy{pins:At}{σ:St}{H:Hp}{s:AJ}{Q:VK}{us:AC}{vs:List V}(F:vP X.prog X.w X.K X.mg X.base CX k f fd ps sp)(hr:Room k X.A)(hb:Binds X.K fd ps ds)(hd:Vals vV ds)(hx:Passes CX X E)
  (I:Inv X pins σ H s) (r:Vals vs us) (h:sp (vs++vV) H Q E):wpAny ς X.A (call (.ref f) us) (EP X pins σ Q) X.xe s:=by
 have r2:Vals (vs++vV) (us++ds):=r.append hd;have hl:(us++ds).length=ps.length:=by rw[<- r2.length];exact F.len _ _ _ _ h
 refine wpAny_call (codeAny_mono (F.run X.A X.stack s H ⟨us,[]⟩ (us++ds) (vs++vV) Q E hr I.env0 (hb s us I.Dk hl) r2 h) λr s' hq=>?_);cases r with
 | error e=>exact hx pins σ H s e s' I hq
 | ok fl=>
  cases fl with
  | ret u=>exact I.after hq
  | next=>exact False.elim hq
  | brk=>exact False.elim hq
  | cont=>exact False.elim hq
theorem wu(F:vP X.prog X.w X.K X.mg X.base CX k f fd ps sp)(hr:Room k X.A)(hg:Gl X x)(hm:X.mg x=↑f)(hk:W.keepIn X.K (.ref f)=true)(hb:Binds X.K fd ps ds)(hd:Vals vV ds)(hx:Passes CX X E)
  (ha:PA X (e::es) t) (hdb:(x == ("__debug__":Str))=false:=by decide) (he:starEach (e::es) X.env=(false,eval e X.env)::starEach es X.env:=by rfl) (hpl:(backTo pos (starEach es X.env)).any (·.1)=false:=by rfl):
  PE X (.Call (.Name x p) (e::es) [] pos) (aX sp vV E t):=by
 intro pins s σ H Q I h;refine wpAny_Call_Name_kw (uA I hg hm ?_ hdb);refine W.callWith_K (h₀:=X.base) I.ok.mod.kin hk (jw (ha pos pins s σ H _ I h) λus s1 ⟨vs,H1,I1,r,q⟩=>⟨I1.Dk,?_⟩) he hpl;exact Yy F hr hb hd hx I1 r q
theorem sG{pl:Sem Bool}(he:PE X o ta)(c:Fl X.K C)(hm:Meth X.K C m f)(F:vP X.prog X.w X.K X.mg X.base CX k f fd ps sp)(hr:Room k X.A)(hb:Binds X.K fd ps ds)(hd:Vals vV ds)(hx:Passes CX X E)(ha:PA X (e::es) t)
  (hst:starEach (e::es) X.env=(false,eval e X.env)::starEach es X.env:=by rfl) (hpl:(backTo pos (starEach es X.env)).any (·.1)=false:=by rfl)
  (ht:eval (.Call (.Attribute o m apos) (e::es) [] pos) X.env=(do
   let ov <- eval o X.env
   standAt apos.atName
   let (f,first) <- holding [ov] (getMethod ov m pl)
   callWith pos f first (backTo pos (starEach (e::es) X.env)) (backToKw pos (keywordEach [] X.env))):=by rfl):
  PE X (.Call (.Attribute o m apos) (e::es) [] pos) (lq C m sp vV E ta t):=by
 intro pins s σ H Q I h;refine W.methodCall_KW (pl:=pl) (jw (he pins s σ H _ I h) λu s1 ⟨x,H1,I1,rx,a,dx,fs,ex,ea,l,q⟩=>?_) ht;subst ex;obtain rfl:u=Value.ref a:=rx;refine RZ I1 ea c hm l ?_;refine W.callWith_K (first:=[.ref a]) (h₀:=X.base) I.ok.mod.kin hm.kp (jw (ha pos pins s1 σ H1 _ I1 q) λus s2 ⟨vs,H2,I2,r,q2⟩=>⟨I2.Dk,?_⟩) hst hpl;exact Yy (us:=.ref a::us) (vs:=.ref a::vs) F hr hb hd hx I2 (.cons rfl r) q2
theorem lW{pl:Sem Bool}(he:PE X o ta)(c:Fl X.K C)(hm:Meth X.K C m f)(F:vP X.prog X.w X.K X.mg X.base CX k f fd ps sp)(hr:Room k X.A)(hb:Binds X.K fd ps ds)(hd:Vals vV ds)(hx:Passes CX X E)
  (ht:eval (.Call (.Attribute o m apos) [] [] pos) X.env=(do
   let ov <- eval o X.env
   standAt apos.atName
   let (f,first) <- holding [ov] (getMethod ov m pl)
   callWith pos f first (backTo pos (starEach [] X.env)) (backToKw pos (keywordEach [] X.env))):=by rfl):
  PE X (.Call (.Attribute o m apos) [] [] pos) (lq C m sp vV E ta aF):=by
 intro pins s σ H Q I h;refine W.methodCall_KW (pl:=pl) (jw (he pins s σ H _ I h) λu s1 ⟨x,H1,I1,rx,a,dx,fs,ex,ea,l,q⟩=>?_) ht;subst ex;obtain rfl:u=Value.ref a:=rx;refine RZ I1 ea c hm l ?_;exact W.callWith_K0 (first:=[.ref a]) I1.Dk hm.kp (Yy (us:=[.ref a]) (vs:=[.ref a]) F hr hb hd hx I1 (.cons rfl .nil) q)
structure Mk(K:aC)(C f:AH):Prop where
 makes:W.makesIn K C=true
 init:W.findIn K (.ref C) "__init__"=some (↑f)
 fn:W.isFn K (.ref f)=true
 kp:W.keepIn K (.ref C)=true
theorem Zbq{pins:At}{σ:St}{H:Hp}{s:AJ}{Q:VK}{us:AC}{vs:List V}(M:Mk X.K C f)(F:vP X.prog X.w X.K X.mg X.base CX k f fd ps sp)(hr:Room (k+1) X.A)(hb:Binds X.K fd ps ds)(hd:Vals vV ds)
  (hx:Passes CX X E) (I:Inv X pins σ H s) (r:Vals vs us)
  (h:∀x dx,H x=none->H dx=none->dx≠x->sp (.ref x::(vs++vV)) (upd (upd H dx (.own x)) x (.ins C dx [])) (λv H2=>v=.non/\Q (.ref x) H2) E):
  wpAny ς X.A (call (.ref C) us) (EP X pins σ Q) X.xe s:=by
 have hq:=h ai s.heap.objs.size (I.hok.fresh (Nat.le_succ _)) (I.hok.fresh Δ) (Nat.ne_of_lt (Nat.lt_succ_self _));have I2:=Inv.made (C:=C) I;have r2:Vals (V.ref ai::(vs++vV)) (Value.ref ai::(us++ds)):=.cons rfl (r.append hd);have hl:(Value.ref ai::us++ds).length=ps.length:=by
  have e:=r2.length;rw[F.len _ _ _ _ hq]at e;exact e.symm
 refine wpAny_call (Znl (f:=f) I.Dk M.makes M.init (beq_iff_eq.mp M.fn) (codeAny_mono (F.run _ X.stack _ _ ⟨Value.ref ai::us,[]⟩ (Value.ref ai::(us++ds)) _ _ E (hr.make C us [])
  (I2.env0.make C us []) (hb _ (Value.ref ai::us) I2.Dk hl) r2 hq) λr s' hq'=>?_))
 cases r with
 | error e=>exact hx pins σ _ _ e s' I2 hq'
 | ok fl=>
  cases fl with
  | ret u=>
   obtain⟨v,H',I3,rv,ev,q3⟩:=I2.after hq';subst ev;exact⟨rv,⟨V.ref ai,H',I3,rfl,q3⟩⟩
  | next=>exact False.elim hq'
  | brk=>exact False.elim hq'
  | cont=>exact False.elim hq'
theorem z6(M:Mk X.K C f)(F:vP X.prog X.w X.K X.mg X.base CX k f fd ps sp)(hr:Room (k+1) X.A)(hg:Gl X x)(hm:X.mg x=↑C)(hb:Binds X.K fd ps ds)(hd:Vals vV ds)(hx:Passes CX X E)
  (ha:PA X (e::es) t) (hdb:(x == ("__debug__":Str))=false:=by decide) (he:starEach (e::es) X.env=(false,eval e X.env)::starEach es X.env:=by rfl) (hpl:(backTo pos (starEach es X.env)).any (·.1)=false:=by rfl):
  PE X (.Call (.Name x p) (e::es) [] pos) (Ba C sp vV E t):=by
 intro pins s σ H Q I h;refine wpAny_Call_Name_kw (uA I hg hm ?_ hdb);refine W.callWith_K (h₀:=X.base) I.ok.mod.kin M.kp (jw (ha pos pins s σ H _ I h) λus s1 ⟨vs,H1,I1,r,q⟩=>⟨I1.Dk,?_⟩) he hpl;exact Zbq M F hr hb hd hx I1 r q
theorem Zmx(M:Mk X.K C f)(F:vP X.prog X.w X.K X.mg X.base CX k f fd ps sp)(hr:Room (k+1) X.A)(hg:Gl X x)(hm:X.mg x=↑C)(hb:Binds X.K fd ps ds)(hd:Vals vV ds)(hx:Passes CX X E)
  (hdb:(x == ("__debug__":Str))=false:=by decide):PE X (.Call (.Name x p) [] [] pos) (Ba C sp vV E aF):=by
 intro pins s σ H Q I h;refine wpAny_Call_Name_kw (uA I hg hm ?_ hdb);exact W.callWith_K0 I.Dk M.kp (Zbq (us:=[]) M F hr hb hd hx I .nil h)
end
section
variable {X:Cx}{CX:CXT}{k:Nat}{f C:AH}{fd:AK}{ps ks:AG}{sp:Sp}{E:XK}{x m:Str}{p pos apos kpos:Pos}{e o:AM}{es:AF}{kws:List Keyword}{te ta:TE}{t tk:TA}{nm:Option Str}
structure ZIb(K:aC)(fd:AK)(ps ks:AG)(g:AC->AC->AC)(gV:List V->List V->List V):Prop where
 to:∀(s:AJ) (us ws:AC),K.In s.heap->(g us ws).length=ps.length->BindsTo s fd ⟨us,ks.zip ws⟩ (ps.zip (g us ws))
 rel:∀{vs:List V}{us:AC}{zs:List V}{ws:AC},Vals vs us->Vals zs ws->Vals (gV vs zs) (g us ws)
variable {g:AC->AC->AC}{gV:List V->List V->List V}
end
structure aP(N P:AG)(sc:Scope):Prop where
 kind:sc.kind=.function
 co:sc.isCoroutine=false
 gen:sc.isGenerator=false
 nd:N.Nodup
 pre:N.take P.length=P
 par:∀x∈P,sc.names.lookup x=some .local\/sc.names.lookup x=some .cell
 Zvc:∀y∈sc.names,y.2≠.free
theorem Xm{kindOf:Str->Option NameKind}{x:Str}:∀{binds:List (Str×AI)}{m:As},(∀v,(x,v)∉binds)->bindL kindOf binds m x=m x
 | [],_,_=>rfl
 | (n,v)::r,m,h=>by
  unfold bindL;rw[Xm λw hw=>h w (List.mem_cons_of_mem _ hw)];split
  ·have:x≠n:=by rintro rfl;exact h v List.mem_cons_self
   simp[this]
  ·rfl
theorem Xo{kindOf:Str->Option NameKind}{x:Str}:∀{binds:List (Str×AI)}{m:As},(∀v,(x,v)∉binds)->bindC kindOf binds m x=m x
 | [],_,_=>rfl
 | (n,v)::r,m,h=>by
  unfold bindC;rw[Xo λw hw=>h w (List.mem_cons_of_mem _ hw)];split
  ·rfl
  ·have:x≠n:=by rintro rfl;exact h v List.mem_cons_self
   simp[this]
theorem Xn{kindOf:Str->Option NameKind}{x:Str}{v:AI}:∀{P:AG}{vs:AC}{i:Nat}{m:As},P.Nodup->P[i]? =some x->vs[i]? =some v->kindOf x=some .local->
  bindL kindOf (P.zip vs) m x=some v
 | [],_,_,_,_,h,_,_=>by simp at h
 | _::_,[],_,_,_,_,h,_=>by simp at h
 | p::P,w::vs,0,m,nd,h1,h2,hk=>by
  simp at h1 h2;subst h1;subst h2;show bindL kindOf ((p,w)::P.zip vs) m p=_;unfold bindL;rw[Xm λv hv=>(List.nodup_cons.mp nd).1 (List.of_mem_zip hv).1,if_pos hk];simp
 | p::P,w::vs,i+1,m,nd,h1,h2,hk=>by
  show bindL kindOf ((p,w)::P.zip vs) m x=_;unfold bindL;exact Xn (i:=i) (List.nodup_cons.mp nd).2 (by simpa using h1) (by simpa using h2) hk
theorem Xp{kindOf:Str->Option NameKind}{x:Str}{v:AI}:∀{P:AG}{vs:AC}{i:Nat}{m:As},P.Nodup->P[i]? =some x->vs[i]? =some v->kindOf x≠some .local->
  bindC kindOf (P.zip vs) m x=some v
 | [],_,_,_,_,h,_,_=>by simp at h
 | _::_,[],_,_,_,_,h,_=>by simp at h
 | p::P,w::vs,0,m,nd,h1,h2,hk=>by
  simp at h1 h2;subst h1;subst h2;show bindC kindOf ((p,w)::P.zip vs) m p=_;unfold bindC;rw[Xo λv hv=>(List.nodup_cons.mp nd).1 (List.of_mem_zip hv).1,if_neg hk];simp
 | p::P,w::vs,i+1,m,nd,h1,h2,hk=>by
  show bindC kindOf ((p,w)::P.zip vs) m x=_;unfold bindC;exact Xp (i:=i) (List.nodup_cons.mp nd).2 (by simpa using h1) (by simpa using h2) hk
def start(N:AG)(vs:List V):St:=vs.map some++List.replicate (N.length - vs.length) none
def Mg(CX:CXT)(P:AL)(w:AN)(K:aC)(mg:As)(base:Heap)(N:AG)(qual:Str)(scope:Scope)(f:AH)(cd:AI)(A:Around)(outer:List Env)(s:AJ)(H:Hp)(E:XK):Cx where
 prog:=P
 w:=w
 K:=K
 mg:=mg
 base:=base
 A:=A.deeper (envOfC qual scope s.heap.objs.size f cd)
 N:=N
 s₀:=s
 H₀:=H
 env:=envOfC qual scope s.heap.objs.size f cd
 outer:=outer
 stack:=envOfC qual scope s.heap.objs.size f cd::outer
 ex:=[]
 calm:=true
 fn:=λ_=>true
 pn:=[]
 xe:=λe s'=>wpAny (model P w) (A.deeper (envOfC qual scope s.heap.objs.size f cd)) (leaving (envOfC qual scope s.heap.objs.size f cd) e) (λ_ s''=>CX outer H s E e s'') (λe' s''=>CX outer H s E e' s'') s'
theorem Zdx{sc:Scope}{n:Nat}{x:Str}(h:sc.names.lookup x=some .cell):∃c,(cellsFrom n sc.names []).lookup x=some c:=by
 have q:=W.cellsFrom_some sc.names n [] (.inl h);exact Option.isSome_iff_exists.mp q
theorem Zkj{CX:CXT}{P:AL}{w:AN}{K:aC}{mg:As}{base:Heap}{N ps:AG}{qual:Str}{scope:Scope}{f:AH}{cd:AI}{A:Around}{outer:List Env}{s s1:AJ}{H:Hp}{E:XK}{us:AC}{vs:List V}
  (S:aP N ps scope) (hd:A.handled=none) (e0:Zhz P w K mg base A outer s H) (hl:vs.length=ps.length) (r:Vals vs us)
  (x:InCallC s s.heap.objs.size (bindL (envOfC qual scope s.heap.objs.size f cd).kindOf (ps.zip us) λ_=>none) (cellsFrom ai scope.names []) (bindC (envOfC qual scope s.heap.objs.size f cd).kindOf (ps.zip us) λ_=>none) s1):
  Inv (Mg CX P w K mg base N qual scope f cd A outer s H E) [] (start N vs) H s1:=by
 have hpl:ps.length<=N.length:=by have:=congrArg List.length S.pre;rw[List.length_take]at this;omega
 obtain⟨h1,tk,rfl,hk⟩:=x.done;have noA:∀b:AH,b∉(Mg CX P w K mg base N qual scope f cd A outer s H E).ex:=λb z=>absurd (show b∈([]:AE)from z) ζ;refine⟨⟨e0.mod,S.kind,rfl,rfl,Nat.le_refl _,λy z c h1 h2=>?_,λy hy=>?_,λy c _ h=>?_,λ_=>hd,Around.frames_deeper e0.frames,.inr ⟨rfl,rfl⟩,λb z=>absurd z (noA b),e0.bs,e0.bsz,λb _ _=>noA b,λb z=>absurd z (noA b),e0.Am,e0.frf⟩,
  rfl,e0.bare,Un.kept hk,⟨_,x.toInCall.ns,λi y v h1 h2 h3=>?_⟩,λy c h=>⟨_,x.cell y c h⟩,e0.hok.fresh Δ,λy c h=>?_,λp hp=>absurd (show p∈([]:At)from hp) ζ,e0.hok.kept hk,?_⟩
 ·exact name_of_addr x.apart (PySem.mem_of_lookup h1) (PySem.mem_of_lookup h2)
 ·have hy:scope.names.lookup y=some .cell\/scope.names.lookup y=some .free:=hy;rcases hy with hy | hy
  ·exact Zdx hy
  ·exact absurd rfl (S.Zvc _ (PySem.mem_of_lookup hy))
 ·exact Nat.le_of_lt (x.above y c (PySem.mem_of_lookup h))
 ·have hi:i<vs.length:=by
   unfold start at h2
   by_cases hi:i<vs.length
   ·exact hi
   ·rw[List.getElem?_append_right (by simpa using hi)]at h2;rw[List.getElem?_replicate]at h2;split at h2<;>cases h2
  have ha:vs[i]? =some v:=by
   unfold start at h2;rw[List.getElem?_append_left (by simpa using hi),dj]at h2;cases e:vs[i]? with
   | none=>rw[e]at h2;cases h2
   | some a=>rw[e]at h2;cases h2;rfl
  obtain⟨u,hu,rv⟩:=r.get ha;have hp:ps[i]? =some y:=by
   rw[<- S.pre,List.getElem?_take_of_lt δ];exact h1
  have ndP:ps.Nodup:=by rw[<- S.pre];exact S.nd.sublist (List.take_sublist _ _)
  refine⟨u,rv,?_⟩;rcases S.par y (List.mem_of_getElem? hp)with k | k
  ·exact .inl ⟨k,Xn ndP hp hu k⟩
  ·obtain⟨c,e⟩:=Zdx (n:=s.heap.objs.size+1) k;refine .inr ⟨.inl k,c,e,?_⟩;have q:=x.cell y c e;rw[Xp ndP hp hu (by show scope.names.lookup y≠_;rw[k];decide)]at q;exact q
 ·exact e0.hok.fresh (Nat.le_of_lt (x.above y c (PySem.mem_of_lookup h)))
 ·unfold start;show _=N.length;rw[List.length_append,bx,List.length_replicate];omega
theorem Zp4{CX:CXT}{P:AL}{w:AN}{K:aC}{mg:As}{base:Heap}{k:Nat}{f:AH}{name qual:Str}{params:Arguments}{body:List Stmt}{scope:Scope}{dV kV doc pm cdv ct oc:AI}{an od:Option AH}
  {osl:Array AB}{N ps:AG}{sp:Sp} (lk:K.lookup f=some ⟨oc,od,.func (W.fnOf name qual params body scope dV kV doc pm an cdv ct),osl⟩) (hcd:W.codeIn K cdv qual=true) (S:aP N ps scope)
  (len:∀vs H Q E,sp vs H Q E->vs.length=ps.length)
  (hbody:∀(A:Around) (outer:List Env) (s:AJ) (H:Hp) (vs:List V) (Q:VK) (E:XK),Room k (A.deeper (envOfC qual scope s.heap.objs.size f cdv))->sp vs H Q E->
   ∃t,PSs (Mg CX P w K mg base N qual scope f cdv A outer s H E) body t/\t { nx:=λ_ H'=>Q .non H',rt:=Q } (start N vs) H):
  vP P w K mg base CX (k+1) f (W.fnOf name qual params body scope dV kV doc pm an cdv ct) ps sp:=by
 refine⟨len,λA outer s H args us vs Q E hr e0 hb r hsp=>?_⟩;have hl:=len _ _ _ _ hsp;have KX:K.In s.heap:=e0.mod.kin.keeps λb o e=>(e0.bs b o e).1;have lim:s.heap.NoLimit:=e0.mod.nolimit.keeps λb o e=>(e0.bs b o e).1;have hkind:∀y∈ps.zip us,scope.names.lookup y.1=some .local\/(scope.names.lookup y.1=some .cell/\((cellsFrom ai scope.names []).lookup y.1).isSome=true):=λ⟨n,v⟩ hy=>by
  rcases S.par n (List.of_mem_zip hy).1 with q | q
  ·exact .inl q
  ·exact .inr ⟨q,W.cellsFrom_some _ _ _ (.inl q)⟩
 refine codeAny_call_function hr.depth (KX _ _ lk) rfl S.co S.gen rfl (W.codeRec_of KX hcd) (hb _ _ _ _ ?_);refine wpAny_newFunctionEnv_cells S.kind hkind λenv he s1 x=>?_;subst he;refine⟨lim.keeps x.toInCall.keep,codeAny_func ?_⟩;obtain⟨t,ht,hq⟩:=hbody A outer s H vs Q E (hr.deeper _) hsp;have I:Inv (Mg CX P w K mg base N qual scope f cdv A outer s H E) [] (start N vs) H s1:=Zkj S hr.hd e0 hl r x;refine wpAny_mono (ht [] s1 (start N vs) H _ I hq) (λfl s' hs=>?_) λe s' hs=>hs;have fin:∀{σ':St}{H':Hp}{v:V}{u:AI},Inv (Mg CX P w K mg base N qual scope f cdv A outer s H E) [] σ' H' s'->RelV v u->Q v H'->CE outer P w H s Q u s':=
  λ{σ' H' v u} J rv q=>⟨v,H',J.os,J.bare,J.base,J.hok,rv,q⟩
 cases fl with
 | ret u=>
  obtain⟨v,σ',H',J,rv,q⟩:=hs;exact fin J rv q
 | next=>
  obtain⟨σ',H',J,q⟩:=hs;exact fin (v:=V.non) (u:=Value.none) J rfl q
 | brk=>
  obtain⟨_,_,_,q⟩:=hs;exact False.elim q
 | cont=>
  obtain⟨_,_,_,q⟩:=hs;exact False.elim q
section
variable {X:Cx}{x:Str}{p pos:Pos}{e:AM}{es:AF}{t:TA}{id T:String}{r:List V->Hp->VK->Prop}
def tK(r:List V->Hp->VK->Prop)(t:TA):TE:=λσ H Q=>t σ H λvs H1=>r vs H1 Q
theorem cg(hc:JK X (.builtin id) r)(hg:Gl X x)(hm:X.mg x=none)(hv:bootBuiltins x=some (.builtin id))(ha:PA X (e::es) t)(hn:x≠"__name__":=by decide)(hdb:(x == ("__debug__":Str))=false:=by decide)
  (he:starEach (e::es) X.env=(false,eval e X.env)::starEach es X.env:=by rfl) (hpl:(backTo pos (starEach es X.env)).any (·.1)=false:=by rfl):PE X (.Call (.Name x p) (e::es) [] pos) (tK r t):=by
 intro pins s σ H Q I h;refine wpAny_Call_Name_kw (Gj I hg hm hv ?_ hn hdb);exact PyProof.Rows.callWith_builtin1 (jw (ha pos pins s σ H _ I h) λus s1 ⟨vs,H1,I1,r1,q1⟩=>hc pins s1 σ H1 vs us Q I1 r1 q1) he hpl
theorem rJ(hc:JK X (.type T) r)(hg:Gl X x)(hm:X.mg x=none)(hv:bootBuiltins x=some (.type T))(ha:PA X (e::es) t)(hn:x≠"__name__":=by decide)(hdb:(x == ("__debug__":Str))=false:=by decide)
  (he:starEach (e::es) X.env=(false,eval e X.env)::starEach es X.env:=by rfl) (hpl:(backTo pos (starEach es X.env)).any (·.1)=false:=by rfl):PE X (.Call (.Name x p) (e::es) [] pos) (tK r t):=by
 intro pins s σ H Q I h;refine wpAny_Call_Name_kw (Gj I hg hm hv ?_ hn hdb);exact PyProof.Rows.callWith_type1 (jw (ha pos pins s σ H _ I h) λus s1 ⟨vs,H1,I1,r1,q1⟩=>hc pins s1 σ H1 vs us Q I1 r1 q1) he hpl
end
end L2
namespace HT
open PySem PyProof.Rows
section
open PySem.SeqAt
open PySem.AutoSeq1 (wpAny_loadPart')
open PySem.MeetsSeq PySem.MeetsSeq2 PySem.MeetsSeq3
end
section
variable {prog:AL}{w:AN}{A:Around}{E:Ap}{s:AJ}
theorem Ztb{t b:AH}{vs ws:AC}{Q:Ap}(ht:IsTup s.heap t vs.toArray)(hb:IsTup s.heap b ws.toArray)(hv:vs≠[])
  (h1:ws=[]->Q (.ref t) s) (h2:ws≠[]->Q (.ref s.heap.objs.size) { s with heap:=s.heap.push { cls:=.type "tuple",data:=.seq (vs++ws).toArray } })
  (hsz:vs.length+ws.length<=sizeLine):wpAny ah A (binaryOp .Add (.ref t) (.ref b)) Q E s:=by
 obtain⟨⟨cls,dd,data,sl⟩,ho,hc,n,hd⟩:=id ht;obtain⟨⟨cls2,dd2,data2,sl2⟩,ho2,hc2,n2,hd2⟩:=id hb;simp only at hc hd hc2 hd2;subst hc hd hc2 hd2;have e:vs.toArray++ws.toArray=(vs++ws).toArray:=ζ
 by_cases hw:ws=[]
 ·exact concat_meets ⟨_,ho,rfl⟩ ⟨_,ho2,rfl⟩ noFill_tuple_add seq_tuple_add PySem.F.slot_tuple_add PySem.F.entry_tuple_add (PySem.F.args_tuple_add_2 _ _)
   (tuple_addW1 t b vs.toArray ws.toArray n n2 dd dd2 sl sl2 (by simpa using hv) (by simp[hw])) ⟨ho,ho2,h1 hw⟩
 ·refine concat_meets ⟨_,ho,rfl⟩ ⟨_,ho2,rfl⟩ noFill_tuple_add seq_tuple_add PySem.F.slot_tuple_add PySem.F.entry_tuple_add (PySem.F.args_tuple_add_2 _ _)
   (tuple_addW2 t b vs.toArray ws.toArray n n2 dd dd2 sl sl2 (by simpa using hv) (by simpa using hw) (by rw[List.size_toArray,List.size_toArray];exact hsz)) ⟨ho,ho2,?_⟩
  rw[e];exact h2 hw
def Yx(n d:Nat):AA->Nat
 | none=>d
 | some v=>if v<0 then(v+(n:Int)).toNat else min v.toNat n
end
end HT
namespace L2
open PySem PySem.Spec PyProof.Rows
abbrev TO:=St->Hp->(AA->Hp->Prop)->Prop
def PO(X:Cx)(e:Option AM)(t:TO):Prop:=
 ∀(pins:At) (s:AJ) (σ:St) (H:Hp) (Q:AA->Hp->Prop),Inv X pins σ H s->t σ H Q->
  wpAny ς X.A (evalPart e X.env) (λu s'=>∃o H',Inv X pins σ H' s'/\IsPart u o/\Q o H') X.xe s
def Xy:TO:=λ_ H Q=>Q none H
def Zbe(t:TE):TO:=λσ H Q=>t σ H λx H1=>∃i,x=.int i/\Q (some i) H1
theorem intsAre_of{ns:AD}:∀{us:AC},Vals (ns.map V.int) us->IntsAre us ns:=by
 induction ns with
 | nil=>intro us r;rw[List.map_nil]at r;cases r;exact .nil
 | cons n ns ih=>
  intro us r;rw[List.map_cons]at r;cases r with
  | cons r1 r2=>
   obtain⟨t,e⟩:=r1;subst e;exact .cons n t (ih r2)
section
variable {X:Cx}{e:AM}{te:TE}{lo hi:Option AM}{tl th:TO}{pos p2:Pos}
theorem Zqy:PO X none Xy:=by
 intro pins s σ H Q I h;rw[evalPart_none];exact wpAny_pure ⟨none,H,I,.none,h⟩
theorem YJ(h:PE X e te):PO X (some e) (Zbe te):=by
 intro pins s σ H Q I hw;rw[evalPart_some];refine jw (h pins s σ H _ I hw) λu s1 ⟨x,H1,I1,r1,q1⟩=>?_;obtain⟨i,rfl,q⟩:=q1;obtain⟨t,rfl⟩:=r1;exact⟨some i,H1,I1,.int i t,q⟩
def SlR(X:Cx)(r:V->AA->AA->Hp->VK->Prop):Prop:=
 ∀(pins:At) (s:AJ) (σ:St) (H:Hp) (x:V) (v vl vu:AI) (lo hi:AA) (sl:AH) (Q:VK),Inv X pins σ H s->RelV x v->s.heap.IsSliceOf sl vl vu .none->IsPart vl lo->IsPart vu hi->r x lo hi H Q->
  ∃T id,typeLookup (.type T) "__getitem__"=pure (some (.builtin id))/\s.TypeIs v T/\wpAny ς X.A (getItem v (.ref sl)) (EP X pins σ Q) X.xe s
def tSl(r:V->AA->AA->Hp->VK->Prop)(te:TE)(tl th:TO):TE:=λσ H Q=>te σ H λx H1=>tl σ H1 λl H2=>th σ H2 λu H3=>r x l u H3 Q
theorem Zbu{r:V->AA->AA->Hp->VK->Prop}(hr:SlR X r)(he:PE X e te)(hl:PO X lo tl)(hu:PO X hi th):PE X (.Subscript e (.Slice lo hi none p2) pos) (tSl r te tl th):=by
 intro pins s σ H Q I h;refine Subscript_ (jw (he pins s σ H _ I h) λv s1 ⟨x,H1,I1,r1,q1⟩=>?_);refine wpAny_Slice (jw (hl pins s1 σ H1 _ I1 q1) λvl s2 ⟨l,H2,I2,pl,q2⟩=>jw (hu pins s2 σ H2 _ I2 q2) λvu s3 ⟨u,H3,I3,pu,q3⟩=>?_);rw[evalPart_none];refine wpAny_pure ?_;have I4:Inv X pins σ H3 { s3 with heap:=s3.heap.push { cls:=.type "slice",data:=.fields #[vl,vu,.none] } }:=I3.kept (t':=s3.toks) λb ob q=>Heap.get?_push_of_some _ q;obtain⟨T,id,hT,ht,hg⟩:=hr pins { s3 with heap:=s3.heap.push { cls:=.type "slice",data:=.fields #[vl,vu,.none] } } σ H3 x v vl vu l u s3.heap.objs.size Q I4 r1 (Heap.IsSliceOf.new ..) pl pu q3;show wpAny ς X.A (subscriptTail e (.Slice lo hi none p2) v (.ref s3.heap.objs.size)) (EP X pins σ Q) X.xe { s3 with heap:=s3.heap.push { cls:=.type "slice",data:=.fields #[vl,vu,.none] } };exact tail_any (ops:=[.ref s3.heap.objs.size,v]) ht hT hg (by with_unfolding_all rfl)
def Sg(xs:List V)(lo hi:AA):List V:=(xs.drop (HT.Yx xs.length 0 lo)).take (HT.Yx xs.length xs.length hi - HT.Yx xs.length 0 lo)
theorem Zdu(xs:List V)(lo hi:AA):(Sg xs lo hi).length<=xs.length:=by
 unfold Sg;rw[List.length_take,List.length_drop];omega
def Ztr(K:aC):R2:=λx y H Q=>∃a b xs ys,x=.ref a/\y=.ref b/\fM K H a xs/\fM K H b ys/\xs≠[]/\xs.length+ys.length<=sizeLine/\
 (ys=[]->Q (.ref a) H)/\(ys≠[]->∀p,H p=none->Q (.ref p) (upd H p (.tup (xs++ys))))
theorem Vals.Zn{xs:List V}{us:AC}(r:Vals xs us):us=[]↔xs=[]:=by
 cases r with
 | nil=>simp
 | cons _ _=>simp
theorem Zri:yM X (binaryOp .Add) (Ztr X.K):=by
 intro pins s σ H x y v u Q I rx ry h;obtain⟨a,b,xs,ys,rfl,rfl,ha,hb,hx,hz,q1,q2⟩:=h;cases rx;cases ry;obtain⟨its,r1,p1,_⟩:=I.tuple ha;obtain⟨its2,r2,p2,_⟩:=I.tuple hb;refine HT.Ztb p1 p2 (λz=>hx (r1.Zn.mp z)) (λz=>⟨.ref a,H,I,rfl,q1 (r2.Zn.mp z)⟩) (λz=>?_) (by rw[<- r1.length,<- r2.length];exact hz);refine⟨.ref s.heap.objs.size,_,I.laid (t':=s.toks) (o:=.tup (xs++ys)) (λb ob q=>Heap.get?_push_of_some _ q) Δ ?_,rfl,q2 (λw=>z (r2.Zn.mpr w)) _ (I.hok.fresh Δ)⟩;exact⟨by rw[List.length_append];exact hz,_,r1.append r2,IsTup.new _ _⟩
end
def ixN(n:Nat)(i:Int):Option Nat:=if 0<=i then(if i<n then some i.toNat else none)else if -(n:Int)<=i then some (i+n).toNat else none
def atI{α:Type}(xs:List α)(i:Int):Option α:=(ixN xs.length i).bind λj=>xs[j]?
theorem Zin{n:Nat}{i:Int}{j:Nat}(h:ixN n i=some j):seqIndex? i n=some j/\j<n/\-(n:Int)<=i/\i<n:=by
 unfold ixN at h
 by_cases h0:0<=i
 ·rw[if_pos h0]at h
  by_cases h1:i<n
  ·rw[if_pos h1]at h;have e:i.toNat=j:=Option.some.inj h;exact⟨by rw[seqIndex_of h0 h1,e],δ,δ,h1⟩
  ·rw[if_neg h1]at h;cases h
 ·rw[if_neg h0]at h
  by_cases h1:-(n:Int)<=i
  ·rw[if_pos h1]at h;have e:(i+n).toNat=j:=Option.some.inj h;exact⟨by rw[seqIndex_neg δ h1,e],δ,h1,δ⟩
  ·rw[if_neg h1]at h;cases h
theorem Pk{α:Type}{xs:List α}{i:Int}{v:α}(h:atI xs i=some v):∃j,seqIndex? i xs.length=some j/\xs[j]? =some v/\j<xs.length/\-(xs.length:Int)<=i/\i<xs.length:=by
 unfold atI at h;cases e:ixN xs.length i with
 | none=>rw[e]at h;cases h
 | some j=>
  rw[e]at h;obtain⟨h1,h2,h3,h4⟩:=Zin e;exact⟨j,h1,h,h2,h3,h4⟩
theorem kW{α:Type}{xs:List α}{j:Nat}{v:α}(h:xs[j]? =some v):atI xs (j:Int)=some v:=by
 have hj:j<xs.length:=(fH h).1;have e:ixN xs.length (j:Int)=some j:=by
  unfold ixN;rw[if_pos δ,if_pos δ];simp
 unfold atI;rw[e];exact h
def Zj4(b:AM):Prop:=∀o i,subscripted b false o i=operate [o,i] (getItem o i)
def IxR(X:Cx)(r:R2):Prop:=
 ∀(value slice:AM) (pins:At) (s:AJ) (σ:St) (H:Hp) (x y:V) (v u:AI) (Q:VK),Inv X pins σ H s->RelV x v->RelV y u->r x y H Q->
  subscripted slice false v u=operate [v,u] (getItem v u)->wpAny ς X.A (subscriptTail value slice v u) (EP X pins σ Q) X.xe s
def MtR(X:Cx)(id:String)(r:V->List V->Hp->VK->Prop):Prop:=
 ∀(pins:At) (s:AJ) (σ:St) (H:Hp) (x:V) (xs:List V) (v:AI) (us:AC) (Q:VK),Inv X pins σ H s->RelV x v->Vals xs us->r x xs H Q->
  wpAny ς X.A (call (.builtin id) (v::us)) (EP X pins σ Q) X.xe s
section
variable {X:Cx}{a b:AM}{ta tb:TE}{pos:Pos}
theorem Zy1{r:R2}(hr:IxR X r)(ha:PE X a ta)(hb:PE X b tb)(hs:Zj4 b):PE X (.Subscript a b pos) (bw r ta tb):=by
 intro pins s σ H Q I h;exact Subscript_ (Zx0 ha hb I h λv u s2 x y H2 I2 rx ry q=>hr a b pins s2 σ H2 x y v u Q I2 rx ry q (hs _ _))
def qb(K:aC):R2:=λx y H Q=>∃p xs i v,x=.ref p/\y=.int i/\cC K H p xs/\atI xs i=some v/\Q v H
def cZ(K:aC):R2:=λx y H Q=>∃p xs i v,x=.ref p/\y=.int i/\fM K H p xs/\atI xs i=some v/\Q v H
def Zmf:R2:=λx y H Q=>∃z i c,x=.str z/\y=.int i/\z.length<=sizeLine/\atI z.cps.toList i=some c/\Q (.str ⟨#[c]⟩) H
theorem fj:IxR X (qb X.K):=by
 intro value slice pins s σ H x y v u Q I rx ry h hs;obtain⟨p,xs,i,z,rfl,rfl,hq,he,q⟩:=h;cases rx;obtain⟨t,rfl⟩:=ry;obtain⟨its,r,pl,hz⟩:=I.list hq;obtain⟨j,h1,h2,h3,h4,h5⟩:=Pk he;obtain⟨w,ew,rw'⟩:=r.get h2;have hl:=r.length;have hn:=Dh;have fin:EP X pins σ Q w s:=⟨z,H,I,rw',q⟩
 by_cases h0:0<=i
 ·have hj:i.toNat=j:=by
   rw[seqIndex_of h0 h5]at h1;exact Option.some.inj h1
  exact item_listR pl.isList h0 δ (by rw[hj];simpa using ew) fin hs
 ·have hj:(i+(its.toArray.size:Int)).toNat=j:=by
   rw[seqIndex_neg δ h4]at h1;rw[List.size_toArray,<- hl];exact Option.some.inj h1
  exact subscriptTail_builtinR (x:=w) pl.isList.typeIs slot_list_getitem.lookup
   (wpAny_getItem_list_neg (Q:=λr s'=>r=w/\EP X pins σ Q r s') pl.isList δ (by rw[List.size_toArray]<;>omega) δ (by rw[hj];simpa using ew) ⟨rfl,fin⟩) hs
theorem bD:IxR X (cZ X.K):=by
 intro value slice pins s σ H x y v u Q I rx ry h hs;obtain⟨p,xs,i,z,rfl,rfl,hq,he,q⟩:=h;cases rx;obtain⟨t,rfl⟩:=ry;obtain⟨its,r,pl,hz⟩:=I.tuple hq;obtain⟨j,h1,h2,h3,h4,h5⟩:=Pk he;obtain⟨w,ew,rw'⟩:=r.get h2;have hl:=r.length;have hn:=Dh;have fin:EP X pins σ Q w s:=⟨z,H,I,rw',q⟩;exact subscriptTail_builtinR (x:=w) pl.typeIs slot_tuple_getitem.lookup
  (getItem_tuple (j:=j) (Q:=λr s'=>r=w/\EP X pins σ Q r s') pl δ δ (by rw[List.size_toArray,<- hl];exact h1) (by simpa using ew) ⟨rfl,fin⟩) hs
theorem Zoc:IxR X Zmf:=by
 intro value slice pins s σ H x y v u Q I rx ry h hs;obtain⟨z,i,c,rfl,rfl,hz,he,q⟩:=h;obtain⟨t,rfl⟩:=rx;obtain⟨t',rfl⟩:=ry;obtain⟨j,h1,h2,h3,h4,h5⟩:=Pk he;have hl:z.cps.toList.length=z.length:=by simp[Str.length]
 rw[hl]at h1 h4 h5;have hn:=Dh;exact tail_any (typeIs_str s z t) slot_str_getitem.lookup (getItem_str (c:=c) (by
  have e1:decide (i < -(2 ^ 63:Int))=false:=decide_eq_false δ;have e2:decide (i≥2 ^ 63)=false:=decide_eq_false δ;rw[e1,e2,Bool.or_false]) (by rw[h1];simpa using h2) ⟨.str ⟨#[c]⟩,H,I.tok _,⟨_,rfl⟩,q⟩) hs
theorem Zgd(its:AC)(n j:Nat)(u:AI):Obj.mapSeq (·.setIfInBounds j u) { cls:=.type "list",data:=.seq its.toArray n }={ cls:=.type "list",data:=.seq (its.set j u).toArray n }:=by
 simp[Obj.mapSeq]
theorem Inv.lst{pins:At}{σ:St}{H:Hp}{s:AJ}{p:AH}{xs:List V}(I:Inv X pins σ H s)(h:H p=some (.lst xs)):
  ∃(its:AC) (n:Nat),Vals xs its/\s.heap.get? p=some { cls:=.type "list",data:=.seq its.toArray n }/\xs.length<=sizeLine:=by
 obtain⟨z,its,n,r,e⟩:=I.hok p _ h;exact⟨its,n,r,e,z⟩
theorem Inv.Zvl{pins:At}{σ:St}{H:Hp}{s:AJ}{p:AH}{xs ys:List V}{its its':AC}{n n':Nat}{f:Obj->Obj}(I:Inv X pins σ H s)(h:H p=some (.lst xs))
  (ho:s.heap.get? p=some { cls:=.type "list",data:=.seq its.toArray n }) (hf:f { cls:=.type "list",data:=.seq its.toArray n }={ cls:=.type "list",data:=.seq its'.toArray n' }) (r:Vals ys its') (hz:ys.length<=sizeLine) (t:Nat):
  Inv X pins σ (upd H p (.lst ys)) { s with heap:=s.heap.update p f,toks:=t }:=by
 have e:(s.heap.update p f).get? p=some { cls:=.type "list",data:=.seq its'.toArray n' }:=by
  rw[Heap.get?_update_self f ho (by rw[hf]<;>rfl),hf]
 refine I.write (x:=p) (e:=p) (by rw[h];trivial) (.inl rfl) (λb u hb q=>(Heap.get?_update_other _ _ (Ne.symm hb)).trans q) ⟨_,e⟩ ?_;exact⟨hz,its',n',r,e⟩
def v9:V->V->V->Hp->(Hp->Prop)->Prop:=λo i v H Q=>∃p xs k j,o=.ref p/\i=.int k/\H p=some (.lst xs)/\ixN xs.length k=some j/\Q (upd H p (.lst (xs.set j v)))
theorem set_list:Zx8 X v9:=by
 intro pins s σ H o i v ov iv u Q I ro ri rv h;obtain⟨p,xs,k,j,rfl,rfl,hp,hj,q⟩:=h;cases ro;obtain⟨t,rfl⟩:=ri;obtain⟨its,n,r,ho,hz⟩:=I.lst hp;obtain⟨h1,h2,h3,h4⟩:=Zin hj;have hl:=r.length;have hn:=Dh;have I':Inv X pins σ (upd H p (.lst (xs.set j v))) { s with heap:=s.heap.update p (Obj.mapSeq (·.setIfInBounds j u)) }:=
  I.Zvl hp ho (Zgd its n j u) (r.set rv j) (by rw[List.length_set];exact hz) s.toks
 by_cases h0:0<=k
 ·have hk:k.toNat=j:=by
   rw[seqIndex_of h0 h4]at h1;exact Option.some.inj h1
  exact W.ki_setAt ho h0 δ (by rw[List.size_toArray,<- hl];exact h4) (by rw[hk];exact⟨_,I',q⟩)
 ·have hk:(k+(its.toArray.size:Int)).toNat=j:=by
   rw[seqIndex_neg δ h3]at h1;rw[List.size_toArray,<- hl];exact Option.some.inj h1
  exact W.ki_setBack ho δ (by rw[List.size_toArray,<- hl];exact h3) δ (by rw[hk];exact⟨_,I',q⟩)
theorem Yb(lo hi:AA)(n:Nat):(sliceBounds lo hi none n).1=((HT.Yx n 0 lo:Nat):Int)/\(sliceBounds lo hi none n).2.1=((HT.Yx n n hi:Nat):Int)/\(sliceBounds lo hi none n).2.2=1:=by
 refine⟨?_,?_,rfl⟩
 ·cases lo with
  | none=>simp[sliceBounds,HT.Yx]
  | some i=>
   simp only[sliceBounds,HT.Yx,Option.getD_none,show(1:Int) > 0 by decide,if_true]
   by_cases h:i<0
   ·simp only[h,if_true]<;>omega
   ·simp only[h,if_false]<;>omega
 ·cases hi with
  | none=>simp[sliceBounds,HT.Yx]
  | some i=>
   simp only[sliceBounds,HT.Yx,Option.getD_none,show(1:Int) > 0 by decide,if_true]
   by_cases h:i<0
   ·simp only[h,if_true]<;>omega
   ·simp only[h,if_false]<;>omega
theorem Tw(its:AC)(lo hi:AA):slicePick its.toArray lo hi none=((its.drop (HT.Yx its.length 0 lo)).take (HT.Yx its.length its.length hi - HT.Yx its.length 0 lo)).toArray:=by
 obtain⟨h1,h2,h3⟩:=Yb lo hi its.toArray.size;unfold slicePick;rw[h1,h2,h3];simp only[sliceRange_one,pick_run,List.size_toArray]<;>rfl
def Zuu(K:aC):V->AA->AA->Hp->VK->Prop:=λx lo hi H Q=>∃a xs,x=.ref a/\cC K H a xs/\∀p,H p=none->Q (.ref p) (upd H p (.lst (Sg xs lo hi)))
theorem Zi8:SlR X (Zuu X.K):=by
 intro pins s σ H x v vl vu lo hi sl Q I rx hs pl pu h;obtain⟨a,xs,rfl,hx,q⟩:=h;cases rx;obtain⟨its,r,ht,hz⟩:=I.list hx;have hlen:=r.length;refine⟨"list",_,slot_list_getitem.lookup,ht.isList.typeIs,?_⟩;refine wpAny_getItem_list_slice ht.isList hs pl pu .none ζ ?_ (by rw[List.size_toArray]<;>omega);rw[Tw,<- hlen];refine⟨.ref s.heap.objs.size,_,I.laid (t':=s.toks) (o:=.lst (Sg xs lo hi)) (λb ob q=>Heap.get?_push_of_some _ q) Δ ?_,rfl,q _ (I.hok.fresh Δ)⟩;exact⟨Nat.le_trans (Zdu xs lo hi) hz,_,0,(r.drop (HT.Yx xs.length 0 lo)).take (HT.Yx xs.length xs.length hi - HT.Yx xs.length 0 lo),Heap.get?_push_size _ rfl⟩
def qN:V->Bool
 | .non=>true
 | .bl _=>true
 | .int _=>true
 | .str _=>true
 | _=>false
def eqV:V->V->Bool
 | .non,.non=>true
 | .bl a,.bl b=>a == b
 | .bl a,.int b=>(if a then 1 else 0) == b
 | .int a,.bl b=>a == (if b then 1 else 0)
 | .int a,.int b=>a == b
 | .str a,.str b=>a == b
 | _,_=>false
theorem Ao{A:Around}{s:AJ}{y x:V}{u v:AI}(ry:RelV y u)(rx:RelV x v)(fy:qN y=true)(fx:qN x=true):SeqAt.EqAt A s u v (eqV y x):=by
 cases y with
 | non=>
  cases ry;cases x with
  | non=>cases rx;exact SeqAt.EqAt.same _
  | bl b=>cases rx;exact SeqAt.EqAt.none_bool b
  | int b=>obtain⟨t,rfl⟩:=rx;exact SeqAt.EqAt.none_int b t
  | str b=>obtain⟨t,rfl⟩:=rx;exact SeqAt.EqAt.none_str b t
  | _=>exact absurd (show false=true from fx) Bool.false_ne_true
 | bl a=>
  cases ry;cases x with
  | non=>cases rx;exact SeqAt.EqAt.bool_none a
  | bl b=>cases rx;exact SeqAt.EqAt.bool_bool a b
  | int b=>obtain⟨t,rfl⟩:=rx;exact SeqAt.EqAt.bool_int a b t
  | str b=>obtain⟨t,rfl⟩:=rx;exact SeqAt.EqAt.bool_str a b t
  | _=>exact absurd (show false=true from fx) Bool.false_ne_true
 | int a=>
  obtain⟨t',rfl⟩:=ry;cases x with
  | non=>cases rx;exact SeqAt.EqAt.int_none a t'
  | bl b=>cases rx;exact SeqAt.EqAt.int_bool a t' b
  | int b=>obtain⟨t,rfl⟩:=rx;exact SeqAt.EqAt.int_int a t' b t
  | str b=>obtain⟨t,rfl⟩:=rx;exact SeqAt.EqAt.int_str a t' b t
  | _=>exact absurd (show false=true from fx) Bool.false_ne_true
 | str a=>
  obtain⟨t',rfl⟩:=ry;cases x with
  | non=>cases rx;exact SeqAt.EqAt.str_none a t'
  | bl b=>cases rx;exact SeqAt.EqAt.str_bool a t' b
  | int b=>obtain⟨t,rfl⟩:=rx;exact SeqAt.EqAt.str_int a t' b t
  | str b=>obtain⟨t,rfl⟩:=rx;exact SeqAt.EqAt.str_str a t' b t
  | _=>exact absurd (show false=true from fx) Bool.false_ne_true
 | _=>exact absurd (show false=true from fy) Bool.false_ne_true
def eqU(x:V)(u:AI):Bool:=match u with
 | .none=>eqV .non x
 | .bool b=>eqV (.bl b) x
 | .int i _=>eqV (.int i) x
 | .str z _=>eqV (.str z) x
 | _=>false
theorem Zpb{x y:V}{u:AI}(r:RelV y u)(f:qN y=true):eqU x u=eqV y x:=by
 cases y with
 | non=>cases r;rfl
 | bl b=>cases r;rfl
 | int i=>obtain⟨t,rfl⟩:=r;rfl
 | str z=>obtain⟨t,rfl⟩:=r;rfl
 | _=>exact absurd (show false=true from f) Bool.false_ne_true
theorem Jt{x:V}:∀{xs:List V}{us:AC},Vals xs us->xs.all qN=true->us.any (eqU x)=xs.any λy=>eqV y x
 | _,_,.nil,_=>rfl
 | y::xs,u::us,.cons r t,f=>by
  rw[List.all_cons,Bool.and_eq_true]at f;rw[List.any_cons,List.any_cons,Zpb r f.1,Jt t f.2]
theorem De{A:Around}{s:AJ}{x:V}{v:AI}(rx:RelV x v)(fx:qN x=true):∀{xs:List V}{us:AC},Vals xs us->xs.all qN=true->∀u∈us,SeqAt.EqAt A s u v (eqU x u)
 | _,_,.nil,_=>λu hu=>by cases hu
 | y::xs,u::us,.cons r t,f=>λu' hu=>by
  rw[List.all_cons,Bool.and_eq_true]at f;rcases List.mem_cons.mp hu with rfl | hu
  ·rw[Zpb r f.1];exact Ao r rx f.1 fx
  ·exact De rx fx t f.2 u' hu
def inV(x:V)(xs:List V):Bool:=xs.any λy=>eqV y x
def rIn(K:aC)(neg:Bool):R2:=λx y H Q=>∃p xs,y=.ref p/\(cC K H p xs\/fM K H p xs)/\qN x=true/\xs.all qN=true/\Q (.bl (if neg then !inV x xs else inV x xs)) H
theorem yE:yM X (compareOp .In) (rIn X.K false):=by
 intro pins s σ H x y v u Q I rx ry h;obtain⟨p,xs,rfl,hq,fx,fs,q⟩:=h;cases ry;rcases hq with hq | hq
 ·obtain⟨its,r,pl,hz⟩:=I.list hq;refine SeqAt.in_listAt (eqU x) pl.isList (λw hw=>De rx fx r fs w (by simpa using hw)) ⟨.bl _,H,I,rfl,?_⟩;rw[show its.toArray.any (eqU x)=its.any (eqU x) by simp,Jt r fs];exact q
 ·obtain⟨its,r,pl,hz⟩:=I.tuple hq;refine SeqAt.in_tupleAt (eqU x) pl (λw hw=>De rx fx r fs w (by simpa using hw)) ⟨.bl _,H,I,rfl,?_⟩;rw[show its.toArray.any (eqU x)=its.any (eqU x) by simp,Jt r fs];exact q
theorem HS:yM X (compareOp .NotIn) (rIn X.K true):=by
 intro pins s σ H x y v u Q I rx ry h;obtain⟨p,xs,rfl,hq,fx,fs,q⟩:=h;cases ry;rcases hq with hq | hq
 ·obtain⟨its,r,pl,hz⟩:=I.list hq;refine SeqAt.notIn_listAt (eqU x) pl.isList (λw hw=>De rx fx r fs w (by simpa using hw)) ⟨.bl _,H,I,rfl,?_⟩;rw[show its.toArray.any (eqU x)=its.any (eqU x) by simp,Jt r fs];exact q
 ·obtain⟨its,r,pl,hz⟩:=I.tuple hq;refine SeqAt.notIn_tupleAt (eqU x) pl (λw hw=>De rx fx r fs w (by simpa using hw)) ⟨.bl _,H,I,rfl,?_⟩;rw[show its.toArray.any (eqU x)=its.any (eqU x) by simp,Jt r fs];exact q
theorem Zai:JK X (.builtin "len") (λxs H Q=>∃p ys,xs=[.ref p]/\(cC X.K H p ys\/fM X.K H p ys)/\Q (.int ys.length) H):=by
 intro pins s σ H xs us Q I r h;obtain⟨p,ys,rfl,hq,q⟩:=h;obtain⟨u,rfl,rx⟩:=vals1 r;cases rx;have hn:=Dh;rcases hq with hq | hq
 ·obtain⟨its,r',pl,hz⟩:=I.list hq;have hlen:=r'.length;exact Calls.call_len_list pl.isList (by simp only[List.size_toArray]<;>omega) ⟨.int ys.length,H,I.tok _,⟨s.toks+1,by rw[List.size_toArray,hlen]⟩,q⟩
 ·obtain⟨its,r',pl,hz⟩:=I.tuple hq;have hlen:=r'.length;exact len_tuple pl (by simp only[List.size_toArray]<;>omega) ⟨.int ys.length,H,I.tok _,⟨s.toks+1,by rw[List.size_toArray,hlen]⟩,q⟩
theorem Js:JK X (.type "list") (λxs H Q=>∃p ys,xs=[.ref p]/\(cC X.K H p ys\/fM X.K H p ys)/\∀l,H l=none->Q (.ref l) (upd H l (.lst ys))):=by
 intro pins s σ H xs us Q I r h;obtain⟨p,ys,rfl,hq,q⟩:=h;obtain⟨u,rfl,rx⟩:=vals1 r;cases rx;have fin:∀(its:AC),Vals ys its->ys.length<=sizeLine->∀(h':Heap) (c':Nat),(∀b o',s.heap.get? b=some o'->h'.get? b=some o')->
   h'.get? s.heap.objs.size=some { cls:=.type "list",dict:=none,data:=.seq its.toArray c',slots:=#[] }->EP X pins σ Q (.ref s.heap.objs.size) { s with heap:=h' }:=λits r' hz h' c' kp e=>
  ⟨.ref s.heap.objs.size,_,I.laid (t':=s.toks) kp Δ (show kj X.prog X.w _ h' _ (.lst ys)from⟨hz,its,c',r',e⟩),rfl,q _ (I.hok.fresh Δ)⟩
 rcases hq with hq | hq
 ·obtain⟨its,r',pl,hz⟩:=I.list hq;have hlen:=r'.length;obtain⟨o,ho,hc,n,hd⟩:=pl.isList;exact call_list_seq p (.inl rfl) ho hc hd (λh' c' kp e=>fin its r' hz h' c' kp e) (by simp only[List.size_toArray]<;>omega)
 ·obtain⟨its,r',pl,hz⟩:=I.tuple hq;have hlen:=r'.length;obtain⟨o,ho,hc,n,hd⟩:=pl;exact call_list_seq p (.inr rfl) ho hc hd (λh' c' kp e=>fin its r' hz h' c' kp e) (by simp only[List.size_toArray]<;>omega)
def tyV(K:aC)(T:String)(x:V)(H:Hp):Prop:=match x with
 | .str _=>T="str"
 | .int _=>T="int"
 | .ref p=>(T="list"/\∃xs,cC K H p xs)\/(T="tuple"/\∃o,K.lookup p=some o/\o.cls=.type "tuple"/\o.dict=none)\/
   (T="dict"/\((∃kvs,H p=some (.dK kvs))\/∃kvs,H p=some (.dT kvs)))\/(T="set"/\∃S n,H p=some (.set S n))
 | _=>False
theorem Zu9{pins:At}{σ:St}{H:Hp}{s:AJ}{T:String}{x:V}{v:AI}(I:Inv X pins σ H s)(r:RelV x v)(ty:tyV X.K T x H):
  s.TypeIs v T/\∀a,v=.ref a->∃ob,s.heap.get? a=some ob/\ob.dict=none:=by
 cases x with
 | str z=>
  obtain⟨t,rfl⟩:=r;cases (show T="str" from ty);exact⟨typeIs_str s z t,λ_ e=>nomatch e⟩
 | int i=>
  obtain⟨t,rfl⟩:=r;cases (show T="int" from ty);exact⟨typeIs_int s i t,λ_ e=>nomatch e⟩
 | ref p=>
  cases r;rcases ty with ⟨rfl,xs,hq⟩ | ⟨rfl,o,hk,hc,hd⟩ | ⟨rfl,hk⟩ | ⟨rfl,S,n,hk⟩
  ·obtain⟨its,_,pl,_⟩:=I.list hq;refine⟨pl.isList.typeIs,λa e=>?_⟩;cases e;obtain⟨o,n,e,c,hd,_⟩:=pl;exact⟨o,e,hd⟩
  ·refine⟨⟨o,I.Dk p o hk,hc⟩,λa e=>?_⟩;cases e;exact⟨o,I.Dk _ o hk,hd⟩
  ·have z:∃o,s.heap.get? p=some o/\o.ExactDict:=by
    rcases hk with ⟨kvs,hk⟩ | ⟨kvs,hk⟩
    ·obtain⟨_,_,_,_,o,_,_,e,ex,_⟩:=I.hok p _ hk;exact⟨o,e,ex⟩
    ·obtain⟨_,_,_,_,o,_,_,e,ex,_⟩:=I.hok p _ hk;exact⟨o,e,ex⟩
   obtain⟨o,e,ex⟩:=z;refine⟨⟨o,e,ex.1⟩,λa e2=>?_⟩;cases e2;exact⟨o,e,ex.2.1⟩
  ·obtain⟨o,_,_,_,e,ex,_⟩:=I.hok p _ hk;refine⟨⟨o,e,ex.1⟩,λa e2=>?_⟩;cases e2;exact⟨o,e,ex.2.1⟩
 | _=>exact False.elim ty
def tBM(K:aC)(T:String)(r:V->List V->Hp->VK->Prop)(to:TE)(t:TA):TE:=λσ H Q=>to σ H λx H1=>tyV K T x H1/\t σ H1 λxs H2=>r x xs H2 Q
variable {o e:AM}{es:AF}{to:TE}{t:TA}{name:Str}{apos cpos:Pos}{T id:String}{r:V->List V->Hp->VK->Prop}
theorem wz(pa:PlainAttrs T)(slot:Slot T name id)(hty:typeOf (.builtin id)=pure (.type "method_descriptor"))(hm:MtR X id r)(ho:PE X o to)(ha:PA X (e::es) t)
  (hbase:attributeBase o name X.env (eval o X.env)=eval o X.env:=by rfl)
  (hfew:((backTo cpos (starEach (e::es) X.env)).all (λx=>!x.1) && (backToKw cpos (keywordEach [] X.env)).all (λx=>x.1.isSome)
   && decide ((e::es).length+([]:List Keyword).length+(if ([]:List Keyword).isEmpty then 0 else 1)<30))=true:=by rfl)
  (hline:(apos.endLine == cpos.line)=true:=by rfl) (hs:starEach (e::es) X.env=(false,eval e X.env)::starEach es X.env:=by rfl) (hplain:(backTo cpos (starEach es X.env)).any (·.1)=false:=by rfl):
  PE X (.Call (.Attribute o name apos) (e::es) [] cpos) (tBM X.K T r to t):=by
 intro pins s σ H Q I h;refine wpAny_Call_method_late hbase hfew hline rfl (jw (ho pins s σ H _ I h) λv s1 ⟨x,H1,I1,r1,ty,q1⟩=>?_);obtain⟨h1,h2⟩:=Zu9 I1 r1 ty;refine⟨T,id,pa,slot,hty,h1,h2,?_⟩;have hA:=ha cpos pins s1 σ H1 _ I1 q1;rw[hs]at hA ⊢;refine Calls.callWith_builtin (by show(false || (backTo cpos (starEach es X.env)).any (·.1))=false;rw[hplain]<;>rfl) (Calls.evalArgs_plain ?_);exact jw hA λus s2 ⟨vs,H2,I2,r2,q2⟩=>hm pins s2 σ H2 x vs v us Q I2 r1 r2 q2
end
def MtM(X:Cx)(id:String)(r:V->List V->Hp->VK->Prop):Prop:=
 ∀(pins:At) (s:AJ) (σ:St) (H:Hp) (x:V) (xs:List V) (v:AI) (us:AC) (Q:VK),Inv X pins σ H s->RelV x v->Vals xs us->r x xs H Q->
  wpAny ς X.A (call (.builtin id) (v::us)) (EP X pins σ Q) X.xe s
theorem Vals.one:∀{x:V}{us:AC},Vals [x] us->∃u,us=[u]/\RelV x u
 | _,_,.cons r .nil=>⟨_,rfl,r⟩
theorem Vals.eraseIdx:∀{xs:List V}{us:AC} (i:Nat),Vals xs us->Vals (xs.eraseIdx i) (us.eraseIdx i)
 | _,_,_,.nil=>.nil
 | _,_,0,.cons _ t=>t
 | _,_,i+1,.cons r t=>.cons r (Vals.eraseIdx i t)
theorem Vals.rep{xs:List V}{us:AC}(h:Vals xs us):∀k:Nat,Vals (List.replicate k xs).flatten (List.replicate k us).flatten
 | 0=>.nil
 | k+1=>by
  rw[List.replicate_succ,List.replicate_succ,List.flatten_cons,List.flatten_cons];exact Vals.append h (Vals.rep h k)
theorem WR{α:Type}:∀(l:List α) (i:Nat),(l.eraseIdx i).length<=l.length
 | [],_=>Nat.le_refl _
 | _::_,0=>Nat.le_succ _
 | _::r,i+1=>Nat.succ_le_succ (WR r i)
theorem foldl_rep(its:AC):∀(k:Nat) (acc:AC),
  List.foldl (λx1 x2=>x1++x2) acc.toArray (List.replicate k its.toArray)=(acc++(List.replicate k its).flatten).toArray
 | 0,acc=>ζ
 | k+1,acc=>by
  have e:acc.toArray++its.toArray=(acc++its).toArray:=ζ
  have e2:(acc++its)++(List.replicate k its).flatten=acc++(List.replicate (k+1) its).flatten:=by
   rw[List.replicate_succ,List.flatten_cons,List.append_assoc]
  rw[<- e2,<- foldl_rep its k (acc++its),<- e,List.replicate_succ,List.foldl_cons]
section
variable {X:Cx}{pins:At}{σ:St}{H:Hp}{s:AJ}{l b:AH}{xs ys zs:List V}
theorem Inv.Zvm{its its':AC}{n:Nat}{f:Array AI->Array AI}{t':Nat}(I:Inv X pins σ H s)(hH:H l=some (.lst xs))
  (e:s.heap.get? l=some { cls:=.type "list",data:=.seq its.toArray n }) (hf:f its.toArray=its'.toArray) (hv:Vals ys its') (hz:ys.length<=sizeLine):
  Inv X pins σ (upd H l (.lst ys)) { s with heap:=s.heap.update l (Obj.mapSeq f),toks:=t' }:=by
 have q:=PySem.IsL.update e f;rw[hf]at q;refine I.write (x:=l) (e:=l) (by rw[hH];exact trivial) (.inl rfl) (λb' u hb hu=>(Heap.get?_update_other s.heap (Obj.mapSeq f) (Ne.symm hb)).trans hu) ⟨_,q⟩ ?_;exact⟨hz,its',_,hv,q⟩
theorem Inv.Zy9{its:AC}{t':Nat}(I:Inv X pins σ H s)(hv:Vals ys its)(hz:ys.length<=sizeLine):
  Inv X pins σ (upd H s.heap.objs.size (.lst ys)) { s with heap:=s.heap.push { cls:=.type "list",data:=.seq its.toArray },toks:=t' }:=
 I.laid (λ_ _ q=>Heap.get?_push_of_some _ q) Δ ⟨hz,its,0,hv,Heap.get?_push_size _ rfl⟩
theorem Inv.fresh(I:Inv X pins σ H s):H s.heap.objs.size=none:=I.hok.fresh Δ
theorem Inv.Zgi(I:Inv X pins σ H s)(hH:H l=some (.lst xs)):xs.length<=sizeLine/\∃(its:AC) (n:Nat),Vals xs its/\xs.length=its.length/\s.heap.get? l=some { cls:=.type "list",data:=.seq its.toArray n }:=by
 obtain⟨z,its,n,r,e⟩:=I.hok l _ hH;exact⟨z,its,n,r,r.length,e⟩
theorem Zcc{n:Nat}(h:n<=sizeLine):Builtin.List.listTooLong n=false:=by
 unfold Builtin.List.listTooLong;exact decide_eq_false δ
end
section
variable {X:Cx}
def qu:V->List V->Hp->VK->Prop:=λx vs H Q=>∃l xs y,x=.ref l/\vs=[y]/\H l=some (.lst xs)/\xs.length<sizeLine/\Q .non (upd H l (.lst (xs++[y])))
theorem nD:MtM X "list.append" qu:=by
 intro pins s σ H x vs v us Q I rx rv h;obtain⟨l,xs,y,rfl,rfl,hH,hz,q⟩:=h;cases rx;obtain⟨u,rfl,ru⟩:=rv.one;obtain⟨z,its,n,r,hl,e⟩:=I.Zgi hH;refine call_meets F.slot_list_append ⟨_,e,rfl⟩ F.entry_list_append (F.args_list_append_2 _ _) (PySem.list_append l its.toArray n u (by rw[List.size_toArray];omega)) ⟨e,?_⟩;refine⟨.non,_,I.Zvm (its':=its++[u]) hH e ζ (r.append (.cons ru .nil)) ?_,rfl,q⟩;rw[List.length_append,List.length_singleton];omega
def O1:V->List V->Hp->VK->Prop:=λx vs H Q=>∃l b xs zs,x=.ref l/\vs=[.ref b]/\H l=some (.lst xs)/\H b=some (.lst zs)/\xs.length+zs.length<=sizeLine/\Q .non (upd H l (.lst (xs++zs)))
theorem K3:MtM X "list.extend" O1:=by
 intro pins s σ H x vs v us Q I rx rv h;obtain⟨l,b,xs,zs,rfl,rfl,hH,hB,hz,q⟩:=h;cases rx;obtain⟨u,rfl,ru⟩:=rv.one;cases ru;obtain⟨z,its,n,r,hl,e⟩:=I.Zgi hH;obtain⟨z2,its2,n2,r2,hl2,e2⟩:=I.Zgi hB;have hsz:its.toArray.size+its2.toArray.size<=sizeLine:=by rw[List.size_toArray,List.size_toArray];omega
 have Zoq:¬ (!its.toArray.isEmpty && Builtin.List.listTooLong (its.toArray.size+its2.toArray.size))=true:=by
  rw[Zcc hsz,Bool.and_false];exact Bool.false_ne_true
 refine call_meets F.slot_list_extend ⟨_,e,rfl⟩ F.entry_list_extend (F.args_list_extend_2 _ _)
  (AutoSeq1.list_extend_list_list_0 l its.toArray n b its2.toArray n2 Zoq (by rw[List.size_toArray];omega) δ) ⟨e,e2,?_⟩
 refine⟨.non,_,I.Zvm (its':=its++its2) hH e ζ (r.append r2) ?_,rfl,q⟩;rw[List.length_append];omega
def Zme:V->List V->Hp->VK->Prop:=λx vs H Q=>∃l xs i k y,x=.ref l/\vs=[.int i]/\H l=some (.lst xs)/\-(2 ^ 63)<=i/\i<2 ^ 63/\seqIndex? i xs.length=some k/\xs[k]? =some y/\Q y (upd H l (.lst (xs.eraseIdx k)))
theorem Zni:MtM X "list.pop" Zme:=by
 intro pins s σ H x vs v us Q I rx rv h;obtain⟨l,xs,i,k,y,rfl,rfl,hH,h1,h2,hk,hy,q⟩:=h;cases rx;obtain⟨u,rfl,ru⟩:=rv.one;obtain⟨t,rfl⟩:=ru;obtain⟨z,its,n,r,hl,e⟩:=I.Zgi hH;obtain⟨w,hw,rw'⟩:=r.get hy;refine call_meets F.slot_list_pop ⟨_,e,rfl⟩ F.entry_list_pop (F.args_list_pop_2 _ _)
  (MeetsSeq.list_pop_at l its.toArray n i t k w (fitsIndex_both h1 h2) (by rw[List.size_toArray,<- hl];exact hk) (by rw[<- Array.getElem?_toList];exact hw) (by rw[List.size_toArray];omega)) ⟨e,?_⟩
 refine⟨y,_,I.Zvm (its':=its.eraseIdx k) hH e ?_ (r.eraseIdx k) ?_,rw',q⟩
 ·show its.toArray.eraseIdxIfInBounds k=(its.eraseIdx k).toArray;rw[List.eraseIdxIfInBounds_toArray]
 ·have:=WR xs k;omega
def u5:R2:=λx y H Q=>∃l b xs zs,x=.ref l/\y=.ref b/\H l=some (.lst xs)/\H b=some (.lst zs)/\xs.length+zs.length<=sizeLine/\∀p,H p=none->Q (.ref p) (upd H p (.lst (xs++zs)))
theorem pP:yM X (binaryOp .Add) u5:=by
 intro pins s σ H x y v u Q I rx ry h;obtain⟨l,b,xs,zs,rfl,rfl,hH,hB,hz,q⟩:=h;cases rx;cases ry;obtain⟨z,its,n,r,hl,e⟩:=I.Zgi hH;obtain⟨z2,its2,n2,r2,hl2,e2⟩:=I.Zgi hB;refine PySem.P.add_list e e2 ?_ (by rw[List.size_toArray,List.size_toArray];omega);have ea:its.toArray++its2.toArray=(its++its2).toArray:=ζ
 rw[ea];exact⟨.ref _,_,I.Zy9 (t':=s.toks) (r.append r2) (by rw[List.length_append];omega),rfl,q _ I.fresh⟩
def Zbs:R2:=λx y H Q=>∃l k xs,x=.ref l/\y=.int k/\H l=some (.lst xs)/\-(2 ^ 63)<=k/\k<2 ^ 63/\xs.length * k.toNat<=sizeLine/\
 ∀p,H p=none->Q (.ref p) (upd H p (.lst (List.replicate k.toNat xs).flatten))
theorem len_rep{α:Type}(xs:List α)(k:Nat):(List.replicate k xs).flatten.length=k * xs.length:=by
 induction k with
 | zero=>simp
 | succ k ih=>rw[List.replicate_succ,List.flatten_cons,List.length_append,ih,Nat.succ_mul,Nat.add_comm]
theorem QW:yM X (binaryOp .Mult) Zbs:=by
 intro pins s σ H x y v u Q I rx ry h;obtain⟨l,k,xs,rfl,rfl,hH,h1,h2,hz,q⟩:=h;cases rx;obtain⟨t,rfl⟩:=ry;obtain⟨z,its,n,r,hl,e⟩:=I.Zgi hH;have hlen:its.toArray.size * k.toNat<=sizeLine:=by rw[List.size_toArray,<- hl];exact hz
 have hcap:¬ its.toArray.size * k.toNat > (2 ^ 63 - 1) / 8:=by
  have:(sizeLine:Nat)<=(2 ^ 63 - 1) / 8:=ε
  omega
 have hfit:¬ (!Builtin.List.listFitsIndex k)=true:=by
  rw[fitsIndex_both h1 h2];exact Bool.false_ne_true
 have Zoq:¬ Builtin.List.listTooLong (its.toArray.size * k.toNat)=true:=by
  rw[Zcc hlen];exact Bool.false_ne_true
 have hnew:List.foldl (λx1 x2=>x1++x2) #[] (List.replicate (if its.toArray.isEmpty=true then 0 else k.toNat) its.toArray)=(List.replicate k.toNat its).flatten.toArray:=by
  have f0:∀m:Nat,List.foldl (λx1 x2=>x1++x2) #[] (List.replicate m its.toArray)=(List.replicate m its).flatten.toArray:=λm=>by
   have:=foldl_rep its m [];rw[List.nil_append]at this;exact this
  rw[f0];cases its with
  | nil=>simp
  | cons a r'=>rw[if_neg ζ]
 refine wpAny_binaryOp_repeat_ref (T:="list") (U:="int") ε ⟨_,e,rfl⟩ (λs'=>typeIs_int s' k t) noFill_list_mul F.fills_int_mul F.slot_int_rmul repeat_list F.slot_int_index.lookup
  (call_meets F.slot_int_rmul (typeIs_int s k t) F.entry_int_rmul (F.args_int_rmul_2 _ _) (int___rmul___int_list k t l its.toArray n)
   ⟨e,rfl,⟨_,e,rfl⟩,call_meets F.slot_list_mul ⟨_,e,rfl⟩ F.entry_list_mul (F.args_list_mul_2 _ _) (AutoListH.list___mul___list_int_3 l its.toArray n k t hfit hcap Zoq) ⟨e,?_⟩⟩)
 rw[hnew];exact⟨.ref _,_,I.Zy9 (t':=s.toks) (r.rep k.toNat) (by rw[len_rep,Nat.mul_comm];exact hz),rfl,q _ I.fresh⟩
end
section
variable {prog:AL}{w:AN}{A:Around}{E:Ap}{s:AJ}
end
section
variable {X:Cx}
end
end L2
namespace Att
open PySem PySem.W PySem.Calls PyProof.Rows
theorem Ou{P:Params}{h:Heap}:∀(ns:AD) (vs:AC),WellAll P h vs (ns.map WData.int)->IntsAre vs ns:=by
 intro ns
 induction ns with
 | nil=>
  intro vs w;rw[List.map_nil]at w;cases w;exact .nil
 | cons n ns ih=>
  intro vs w;rw[List.map_cons]at w;cases w with
  | cons a b=>
   cases a;exact .cons _ _ (ih _ b)
theorem Zjg{l:OpenLaw}{n:Nat}(hn:l.most=some n){P:Params}{h:Heap}{args:List WData}{vals:AC}
  (hpre:l.row.toRowW.claim.pre args=true) (hwl:WellAll P h vals args):
  ∃a vs ns,vals=[Value.ref a]/\args=[WData.list (ns.map WData.int)]/\h.get? a=some { cls:=.type "list",data:=.seq vs.toArray }/\IntsAre vs ns/\ns.length<=n:=by
 have hsh:WShape.hasAll [] args [.list .int]=true:=(pre_splitW hpre).1;have hc:l.pre.holds [] { args:=args }=true:=(pre_splitW hpre).2;obtain⟨d,r,rfl,h1,h2⟩:=hasAllW_cons hsh;obtain rfl:=hasAllW_nil h2;obtain⟨xs,rfl,h3⟩:=hasW_list h1;obtain⟨ns,rfl⟩:=items_int h3;have hlen:ns.length<=n:=by
  unfold OpenLaw.pre at hc;have h4:(WTm.not (.lt (.lit (.int (n:Int))) (.len (.arg 0)))).holds [] { args:=[.list (ns.map .int)] }=true:=by
   have h4:=(holds_andW hc).1;rw[hn]at h4;exact h4
  have h5:=condW_of h4 (w_not (w_lt w_lit (w_len_list (w_arg rfl))));rw[bx]at h5;refine Nat.le_of_not_lt λq=>?_;have q':(n:Int)<((ns.length:Nat):Int):=δ
  first
   | (rw[decide_eq_true q']at h5;exact absurd h5 ε)
   | (simp at h5;omega)
 cases hwl with
 | cons w1 w2=>
  cases w2;cases w1 with
  | list ho hall=>exact⟨_,_,ns,rfl,rfl,ho,Ou ns _ hall,hlen⟩
theorem Zjp(l:OpenLaw)(args:List WData):l.row.toRowW.claim.post args (.bool true) args=true:=
 postW_of (r:=l.row.toRowW) (X:=(true == true))
  (show WShape.has [] (.bool true) .bool=true by first | rfl | decide | simp[WShape.has,WShape.arms,WShape.armsAll])
  (show(WTm.eq .res (.lit (.bool true))).value [] { args:=args,res:=some (.bool true),after:=args }=some (.bool (true == true))from w_eq_bool (w_res rfl) w_lit) rfl
theorem Zdz{l:OpenLaw}{n:Nat}{q:AL}{loose:AG}{XP:(As)->Heap->Prop}{YP:AN->Heap->Prop}{d:DefRec}
  (hn:l.most=some n) (hdf:d.params.defaults=[])
  (call:∀(w:AN) (s₀ s₁:AJ) (mg mb:As) (fa:AH) (o:Obj) (pm cd doc:AI) (a:AH) (vs:AC) (ns:AD),
   Ground q loose [] XP w s₀ mg mb s₁.heap->YP w s₁.heap->
   s₁.heap.get? fa=some o->o.data=.func (docDef d.name d.params d.body d.scope pm cd doc)->s₁.heap.CodeRec cd d.name->mg d.name=↑fa->
   s₁.heap.get? a=some { cls:=.type "list",data:=.seq vs.toArray }->IntsAre vs ns->ns.length<=n->s₁.gens=#[]->
   codeAny (model l.prog w) callerA (.call (.ref fa) ⟨[.ref a],[]⟩) (λr s'=>r=.ok (.ret (.bool true))/\OldK s₁.heap s'.heap/\s'.os=s₁.os/\AllBare s'.gens) s₁):
  WalkO q loose XP YP l.row.toRowW d [] (λf vs=>PySem.call f vs):=by
 intro w s₀ s₁ mg mb G Y fa o pm cd doc dV kV ho hd hcd hD hmg hg args vals as hpre hlay hrd hwl hlo;obtain rfl:dV=.none:=Dflts.none hD hdf;obtain rfl:kV=.none:=Dflts.noKw hD;obtain⟨a,vs,ns,rfl,rfl,hobj,hints,hlen⟩:=Zjg hn hpre hwl;refine enter_call (codeAny_mono (call w s₀ s₁ mg mb fa o pm cd doc a vs ns G Y ho (fd_plain hd) hcd hmg hobj hints hlen hg) λr s' hq=>?_);obtain⟨rfl,h2,h3,h4⟩:=hq;exact⟨.inl ⟨.bool true,.bool true,[],rfl,λ_=>rfl,.bool true,Zjp l _,λ_=>⟨List.Pairwise.nil,λ_ hm=>(nomatch hm)⟩⟩,h2,h3,h4⟩
section
variable {prog:AL}{w:AN}{A:Around}{E:Ap}{s:AJ}{K:Frag}
end
end Att
namespace L2
open PySem PySem.Spec PyProof.Rows
theorem V7:∀{vs:AC}{ns:AD},IntsAre vs ns->Vals (ns.map V.int) vs
 | _,_,.nil=>.nil
 | _,_,.cons n t h=>.cons ⟨t,rfl⟩ (V7 h)
def Only(H:Hp):Prop:=∀b,H b=none\/∃o xs,H b=some (.yU o (.lst xs))
theorem Zo8{P:AL}{w:AN}{K:aC}{mg mb:As}{CX:CXT}{k:Nat}{fa a:AH}{fd:AK}{x:Str}{sp:Sp}{s₁:AJ}{vs:AC}{ns:AD}
  (KX:K.In s₁.heap) (hns:s₁.heap.Ns mainGlobals mg) (hb:s₁.heap.Ns builtinsNs mb) (hbb:∀x:Str,x≠"__name__"->mb x=bootBuiltins x) (hlim:s₁.heap.NoLimit) (hg:s₁.gens=#[])
  (ha:s₁.heap.get? a=some { cls:=.type "list",data:=.seq vs.toArray }) (hi:IntsAre vs ns) (hl:ns.length<=sizeLine) (hr:Room k callerA)
  (F:∀base:Heap,K.In base->base.Ns mainGlobals mg->vP P w K mg base CX k fa fd [x] sp) (hbind:∀(s:AJ) (u:AI),BindsTo s fd ⟨[u],[]⟩ [(x,u)])
  (hsp:∀H:Hp,Only H->cC K H a (ns.map V.int)->sp [.ref a] H (λv _=>v=.bl true) λ_ _ _=>False)
  (hCX:∀H e s',CX [] H s₁ (λ_ _ _=>False) e s'->False):
  codeAny (model P w) callerA (.call (.ref fa) ⟨[.ref a],[]⟩) (λr s'=>r=.ok (.ret (.bool true))/\OldK s₁.heap s'.heap/\s'.os=s₁.os/\AllBare s'.gens) s₁:=by
 have rv:=V7 hi;have lenV:=hi.length;have core:∀H:Hp,Only H->cC K H a (ns.map V.int)->Dv P w H s₁.heap->(∀b,H b≠none->b=a)->(H a≠none->K.lookup a=none)->
   codeAny (model P w) callerA (.call (.ref fa) ⟨[.ref a],[]⟩) (λr s'=>r=.ok (.ret (.bool true))/\OldK s₁.heap s'.heap/\s'.os=s₁.os/\AllBare s'.gens) s₁:=by
  intro H hO hS hok hA hK;have Zj1:∀{b:AH}{o:Obj},s₁.heap.get? b=some o->H b=none->(Z7 s₁.heap H).get? b=some o:=λe n=>Zor e n;have noA:∀{b:AH}{o:Obj}{es:Array DictEntry}{ep:Nat},s₁.heap.get? b=some o->o.data=.dict es ep->H b=none:=λ{b o es ep} e d=>by
   cases q:H b with
   | none=>rfl
   | some u=>
    have e':b=a:=hA b (by rw[q];simp);subst e';rw[ha]at e;cases e;have d':Data.seq vs.toArray _=Data.dict es ep:=d;cases d'
  have nsK:∀{b:AH}{m:As},s₁.heap.Ns b m->(Z7 s₁.heap H).Ns b m:=λ{b m} ⟨o,es,ep,e,d,r⟩=>⟨o,es,ep,Zj1 e (noA e d),d,r⟩;have hKb:K.In (Z7 s₁.heap H):=λb o e=>Zj1 (KX b o e) (by
   cases q:H b with
   | none=>rfl
   | some u=>
    have e':b=a:=hA b (by rw[q];simp);subst e';rw[hK (by rw[q];simp)]at e;cases e)
  have hM:Mod K mg (Z7 s₁.heap H):=⟨hKb,nsK hns,⟨mb,nsK hb,hbb⟩,let ⟨mc,h1,h2⟩:=hlim;⟨mc,nsK h1,h2⟩⟩;have e0:Zhz P w K mg (Z7 s₁.heap H) callerA [] s₁ H:=⟨rfl,hM,λb o e=>Zrs e,Nat.le_of_eq (Zky _ _),trivial,λb hb=>absurd (show b∈([]:AE)from hb) ζ,hok,.of_eq hg⟩;refine codeAny_mono ((F _ hKb (nsK hns)).run callerA [] s₁ H ⟨[.ref a],[]⟩ [.ref a] [.ref a] _ _ hr e0 (hbind s₁ (.ref a)) (.cons rfl .nil) (hsp H hO hS)) λr s' h=>?_;cases r with
  | error e=>exact(hCX H e s' h).elim
  | ok fl=>
   cases fl with
   | next=>exact False.elim h
   | brk=>exact False.elim h
   | cont=>exact False.elim h
   | ret u=>
    obtain⟨v,H',os,bare,un,hok',r',q⟩:=h;have q':v=.bl true:=q;subst q';obtain rfl:u=Value.bool true:=r';refine⟨rfl,OldK.of_keep λb o e=>?_,os,bare⟩;cases q:H b with
    | none=>exact un.keep b o e q (by intro z;exact absurd (show b∈([]:AE)from z) ζ) ζ
    | some u=>
     rcases hO b with z | ⟨ob,xs,z⟩
     ·rw[q]at z;cases z
     ·have z2:=un.Lz b ob _ z;obtain⟨e1,_⟩:=hok b _ z;obtain⟨e2,_⟩:=hok' b _ z2;rw[e]at e1;cases e1;exact e2
 cases hk:K.lookup a with
 | some o=>
  have e:=KX a o hk;rw[ha]at e;cases e;refine core (λ_=>none) (λ_=>.inl rfl) (.inr ⟨_,vs.toArray,_,hk,rfl,rfl,rfl,by rw[List.size_toArray,lenV];exact hl,by simpa using rv⟩) (λb u z=>by have z':(none:Option HO)=some u:=z;cases z') (λb z=>absurd rfl z) λz=>absurd rfl z
 | none=>
  refine core (λb=>if b=a then some (.yU { cls:=.type "list",data:=.seq vs.toArray } (.lst (ns.map V.int)))else none) (λb=>?_) (.inl (.inr ⟨{ cls:=.type "list",data:=.seq vs.toArray },if_pos rfl⟩)) (λb u z=>?_) (λb z=>?_) λ_=>hk
  ·by_cases hb:b=a
   ·exact .inr ⟨_,_,if_pos hb⟩
   ·exact .inl (if_neg hb)
  ·by_cases hb:b=a
   ·have z':=(if_pos hb).symm.trans z;cases z';subst hb;exact⟨ha,by rw[bx];exact hl,vs,_,rv,ha⟩
   ·have z':=(if_neg hb).symm.trans z;cases z'
  ·by_cases hb:b=a
   ·exact hb
   ·exact absurd (if_neg hb) z
theorem Zpz{l:W.OpenLaw}{n k:Nat}{q:AL}{loose:AG}{XP:(As)->Heap->Prop}{YP:AN->Heap->Prop}{d:DefRec}{K:Params->aC}{CX:AN->CXT}{sp:AN->Sp}{x:Str}
  (hn:l.most=some n) (hn2:n<=sizeLine) (hdf:d.params.defaults=[]) (hr:Room k callerA)
  (hY:∀(w:AN) (h:Heap),YP w h->(K w.params).In h)
  (F:∀(w:AN) (mg:As) (fa:AH) (h:Heap),(K w.params).In h->h.Ns mainGlobals mg->mg d.name=↑fa->
   ∃fd:AK,(∀(s:AJ) (u:AI),BindsTo s fd ⟨[u],[]⟩ [(x,u)])/\
    ∀base:Heap,(K w.params).In base->base.Ns mainGlobals mg->vP l.prog w (K w.params) mg base (CX w) k fa fd [x] (sp w))
  (hsp:∀(w:AN) (H:Hp) (a:AH) (ns:AD),ns.length<=n->Only H->cC (K w.params) H a (ns.map V.int)->sp w [.ref a] H (λv _=>v=.bl true) λ_ _ _=>False)
  (hCX:∀(w:AN) (H:Hp) (s:AJ) (e:AI) (s':AJ),CX w [] H s (λ_ _ _=>False) e s'->False):
  W.WalkO q loose XP YP l.row.toRowW d [] (λf vs=>PySem.call f vs):=by
 refine Att.Zdz hn hdf λw s₀ s₁ mg mb fa o pm cd doc a vs ns G Y ho hd hcd hmg hobj hints hlen hg=>?_;have KX:=hY w _ Y;obtain⟨fd,hb,hF⟩:=F w mg fa _ KX G.T.g hmg;exact Zo8 KX G.T.g G.T.b G.T.builtins G.T.nolimit hg hobj hints (Nat.le_trans hlen hn2) hr hF hb (λH hO hS=>hsp w H a ns hlen hO hS) λH e s'=>hCX w H s₁ e s'
def inClass(s:Stmt)(j:Nat):Stmt:=match s with
 | .ClassDef _ _ _ body _ _ _ _ _ _ _=>body.getD j (.Pass ⟨0,0,0,0⟩)
 | _=>.Pass ⟨0,0,0,0⟩
def nP(s:Stmt):Arguments:=match s with
 | .FunctionDef _ a _ _ _ _ _ _ _ _=>a
 | _=>{ posonlyargs:=[],args:=[],vararg:=none,kwonlyargs:=[],kw_defaults:=[],kwarg:=none,defaults:=[] }
def kO(s:Stmt):List Stmt:=match s with
 | .FunctionDef _ _ b _ _ _ _ _ _ _=>b
 | _=>[]
def aG(s:Stmt):Scope:=match s with
 | .FunctionDef _ _ _ _ _ _ sc _ _ _=>sc
 | _=>{ kind:=.function,names:=[],isGenerator:=false,isCoroutine:=false }
abbrev E0:XK:=λ_ _ _=>False
structure jE(K:aC)(x qual:Str)(st:Stmt)(f:AH)(fd:AK):Prop where
 ex:∃(oc:AI) (od:Option AH) (kV doc pm:AI) (an:Option AH) (cdv ct:AI) (osl:Array AB),
  fd=W.fnOf x qual (nP st) (kO st) (aG st) .none kV doc pm an cdv ct/\K.lookup f=some ⟨oc,od,.func fd,osl⟩/\W.codeIn K cdv qual=true
 kp:W.keepIn K (.ref f)=true
section
variable {P:AL}{w:AN}{K:aC}{mg:As}{base:Heap}
theorem jE.binds{x qual:Str}{st:Stmt}{f:AH}{fd:AK}{ps:AG}(F:jE K x qual st f fd)
  (h:∀(kV doc pm:AI) (an:Option AH) (cdv ct:AI) (us:AC),us.length=ps.length->bindArgs Ω ⟨us,[]⟩=pure (ps.zip us)):Binds K fd ps []:=by
 obtain⟨oc,od,kV,doc,pm,an,cdv,ct,osl,rfl,lk,hcd⟩:=F.ex;exact .all (h kV doc pm an cdv ct)
theorem Zp1{x qual:Str}{st:Stmt}{f:AH}{oc:AI}{od an:Option AH}{osl:Array AB}{kV doc pm cdv ct:AI}(l:K.lookup f=some ⟨oc,od,.func Ω,osl⟩)
  (c:W.codeIn K cdv qual=true) (k:W.keepIn K (.ref f)=true):jE K x qual st f Ω:=⟨⟨oc,od,kV,doc,pm,an,cdv,ct,osl,rfl,l,c⟩,k⟩
end
theorem sZ{A:Around}{k:Nat}(hr:Room k A):A.units+1<cLine:=Nat.lt_of_le_of_lt (Nat.add_le_add_left (by decide:1<=64) _) hr.units
section
variable {X:Cx}
theorem pv(i:Nat){x:Str}{pos:Pos}(hN:X.N[i]? =some x:=by rfl)(hv:Vis X.env.scope x:=by first | exact Or.inl rfl | exact Or.inr (Or.inl rfl) | exact Or.inr (Or.inr rfl))(hd:(x == ("__debug__":Str))=false:=by decide)
  (hcd:(x == ("__classdict__":Str))=false:=by decide):PE X (.Name x pos) (ak i):=Zmu hN hv hd hcd
end
theorem Zsa{A B:Prop}(h:B):if false=true then A else B:=by
 rw[if_neg Bool.false_ne_true];exact h
theorem Zgo{A B:Prop}(h:A):if true=true then A else B:=by
 rw[if_pos rfl];exact h
theorem Zvu{c A B:Prop} [Decidable c](h1:c->A)(h2:¬ c->B):if c then A else B:=by
 by_cases h:c
 ·rw[if_pos h];exact h1 h
 ·rw[if_neg h];exact h2 h
def bz(H H':Hp):Prop:=∀b o,H b=some o->H' b=some o
theorem bz.refl(H:Hp):bz H H:=λ_ _ h=>h
theorem bz.trans{H H1 H2:Hp}(a:bz H H1)(b:bz H1 H2):bz H H2:=λc o h=>b c o (a c o h)
theorem bz.free{H H':Hp}(e:bz H H'){l:AH}(h:H' l=Option.none):H l=Option.none:=by
 cases q:H l with
 | none=>rfl
 | some o=>
  rw[e l o q]at h;cases h
theorem bz.seq{K:aC}{H H':Hp}{a:AH}{xs:List V}(e:bz H H')(h:cC K H a xs):cC K H' a xs:=by
 rcases h with (h | ⟨o,h⟩) | h
 ·exact .inl (.inl (e _ _ h))
 ·exact .inl (.inr ⟨o,e _ _ h⟩)
 ·exact .inr h
section
variable {X:Cx}{pins:At}{σ:List (Option V)}{H H':Hp}{s:AJ}{h':Heap}
end
section
variable {X:Cx}
variable {a b:AM}{ta tb:TE}{pos:Pos}
variable {tA tB':TT}{rest:AF}
end
section
variable {X:Cx}{a b c:AM}{ta tb tc:TE}{pos:Pos}
end
section
variable {prog:AL}{w:AN}{A:Around}{E:Ap}{s:AJ}{K:aC}{x dx C f:AH}{mA:As}{name:Str}{v:AI}
end
section
variable {X:Cx}{pins:At}{σ:St}{H:Hp}{s:AJ}{a C dx:AH}{fs:List (Str×V)}{f:Str}{v:V}{A:Around}{E:Ap}
end
section
variable {X:Cx}{CX:CXT}{k:Nat}{f C:AH}{fd:AK}{ps:AG}{sp:Sp}{vV:List V}{ds:AC}{E:XK}{x m:Str}{p pos apos:Pos}{e o:AM}{es:AF}{ta:TE}{t:TA}
end
section
variable {X:Cx}{x:Str}{p pos:Pos}{e:AM}{es:AF}{t:TA}{id T:String}{r:List V->Hp->VK->Prop}
end
section
variable {κ:Type} [DecidableEq κ]
def tL(kvs:List (κ×V))(k:κ):Option V:=(kvs.find? λkv=>decide (kv.1=k)).map (·.2)
def putK(kvs:List (κ×V))(k:κ)(v:V):List (κ×V):=
 if (kvs.any λkv=>decide (kv.1=k))=true then kvs.map (λkv=>if kv.1=k then(kv.1,v)else kv)else kvs++[(k,v)]
theorem GJ{p:κ×V}{r:List (κ×V)}{k:κ}(e:p.1=k):tL (p::r) k=some p.2:=by simp[tL,List.find?_cons,e]
theorem GK{p:κ×V}{r:List (κ×V)}{k:κ}(e:¬ p.1=k):tL (p::r) k=tL r k:=by simp[tL,List.find?_cons,e]
theorem P0(k:κ):∀kvs:List (κ×V),(kvs.any λkv=>decide (kv.1=k))=(tL kvs k).isSome
 | []=>rfl
 | p::r=>by
  rw[List.any_cons]
  by_cases e:p.1=k
  ·simp only[GJ e,decide_eq_true e,Bool.true_or,Option.isSome_some]
  ·rw[GK e,decide_eq_false e,Bool.false_or];exact P0 k r
theorem Di(kvs:List (κ×V))(k:κ)(v:V):(putK kvs k v).length<=kvs.length+1:=by
 unfold putK;split
 ·rw[bx];omega
 ·rw[List.length_append,List.length_cons,List.length_nil];omega
theorem Zmk{kvs:List (κ×V)}{k:κ}(v:V)(h:tL kvs k=none):putK kvs k v=kvs++[(k,v)]:=by
 unfold putK;rw[P0,h];exact if_neg ε
theorem El.Lh{o:Option V}{u:AB}(r:El o u):o.isSome=u.isSome:=by
 cases o with
 | none=>cases u with
  | none=>rfl
  | some _=>exact(show False from r).elim
 | some _=>cases u with
  | none=>exact(show False from r).elim
  | some _=>rfl
theorem KV.val{kvs:List (κ×V)}{vs:List (κ×AI)}(r:KV kvs vs)(k:κ):El (tL kvs k) (valueAt vs k):=by
 unfold KV at r
 induction r with
 | nil=>exact True.intro
 | @cons p q ps qs h t ih=>
  obtain⟨h1,h2⟩:=h
  by_cases e:p.1=k
  ·have e':q.1=k:=h1.symm.trans e;have b:valueAt (q::qs) k=some q.2:=by simp[valueAt,List.find?_cons,e']
   rw[GJ e,b];exact h2
  ·have e':¬ q.1=k:=λz=>e (h1.trans z);have b:valueAt (q::qs) k=valueAt qs k:=by simp[valueAt,List.find?_cons,e']
   rw[GK e,b];exact ih
theorem KV.any{kvs:List (κ×V)}{vs:List (κ×AI)}(r:KV kvs vs)(k:κ):(kvs.any λkv=>decide (kv.1=k))=vs.any λkv=>decide (kv.1=k):=by
 unfold KV at r
 induction r with
 | nil=>rfl
 | cons h t ih=>rw[List.any_cons,List.any_cons,ih,h.1]
theorem KV.repl{kvs:List (κ×V)}{vs:List (κ×AI)}(r:KV kvs vs)(k:κ){y:V}{u:AI}(ry:RelV y u):
  KV (kvs.map λkv=>if kv.1=k then(kv.1,y)else kv) (vs.map λkv=>if kv.1=k then(kv.1,u)else kv):=by
 unfold KV at r ⊢
 induction r with
 | nil=>exact .nil
 | @cons p q ps qs h t ih=>
  rw[List.map_cons,List.map_cons];refine .cons ?_ ih;obtain⟨h1,h2⟩:=h
  by_cases e:p.1=k
  ·rw[if_pos e,if_pos (h1.symm.trans e)];exact⟨h1,ry⟩
  ·rw[if_neg e,if_neg (λz=>e (h1.trans z))];exact⟨h1,h2⟩
theorem KV.put{kvs:List (κ×V)}{vs:List (κ×AI)}(r:KV kvs vs)(k:κ){y:V}{u:AI}(ry:RelV y u):KV (putK kvs k y) (stored vs k u):=by
 unfold putK stored;rw[r.any k]
 by_cases e:(vs.any λkv=>decide (kv.1=k))=true
 ·rw[if_pos e,if_pos e];exact r.repl k ry
 ·rw[if_neg e,if_neg e];exact Paired.snoc r ⟨rfl,ry⟩
theorem KV.length{kvs:List (κ×V)}{vs:List (κ×AI)}(r:KV kvs vs):kvs.length=vs.length:=Paired.length r
end
theorem Zd6{P:AL}{w:AN}{k:Key}{u:AI}(r:RelV (kV k) u):(eN P w).is k u=true:=by
 cases k with
 | inl i=>obtain⟨t,e⟩:=(show ∃t,u=Value.int i t from r);subst e;exact Zcp P w i t
 | inr x=>obtain⟨t,e⟩:=(show ∃t,u=Value.str x t from r);subst e;exact Zco P w x t
theorem WW{P:AL}{w:AN}:∀{ks:List Key}{us:AC},Vals (ks.map kV) us->ItemsAre (eN P w) ks us
 | [],_,r=>by rw[List.map_nil]at r;cases r;exact .nil
 | k::ks,_,r=>by
  rw[List.map_cons]at r;cases r with
  | cons h t=>exact .cons (Zd6 h) (WW t)
abbrev KT(H:Hp):List (List Key×V)->List (List Key×AH×AI)->Prop:=Paired λp q=>p.1=q.1/\H q.2.1=some (.tup (p.1.map kV))/\RelV p.2 q.2.2
theorem KT.val{H:Hp}{kvs:List (List Key×V)}{xs:List (List Key×AH×AI)}(r:KT H kvs xs)(k:List Key):El (tL kvs k) ((atKey xs k).map (·.2)):=by
 induction r with
 | nil=>exact True.intro
 | @cons p q ps qs h t ih=>
  obtain⟨h1,_,h2⟩:=h
  by_cases e:p.1=k
  ·have e':q.1=k:=h1.symm.trans e;have b:atKey (q::qs) k=some q.2:=by simp[atKey,List.find?_cons,e']
   rw[GJ e,b];exact h2
  ·have e':¬ q.1=k:=λz=>e (h1.trans z);have b:atKey (q::qs) k=atKey qs k:=by simp[atKey,List.find?_cons,e']
   rw[GK e,b];exact ih
theorem KT.repl{H:Hp}{kvs:List (List Key×V)}{xs:List (List Key×AH×AI)}(r:KT H kvs xs)(k:List Key){y:V}{u:AI}(ry:RelV y u):
  KT H (kvs.map λkv=>if kv.1=k then(kv.1,y)else kv) (xs.map (putAt k u)):=by
 induction r with
 | nil=>exact .nil
 | @cons p q ps qs h t ih=>
  rw[List.map_cons,List.map_cons];refine .cons ?_ ih;obtain⟨h1,h2,h3⟩:=h;unfold putAt
  by_cases e:p.1=k
  ·rw[if_pos e,if_pos (h1.symm.trans e)];exact⟨h1,h2,ry⟩
  ·rw[if_neg e,if_neg (λz=>e (h1.trans z))];exact⟨h1,h2,h3⟩
theorem KT.put{H:Hp}{kvs:List (List Key×V)}{xs:List (List Key×AH×AI)}(r:KT H kvs xs)(k:List Key){b:AH}{y:V}{u:AI}(hb:H b=some (.tup (k.map kV)))(ry:RelV y u):
  KT H (putK kvs k y) (storedH xs k b u):=by
 have e:(kvs.any λkv=>decide (kv.1=k))=(atKey xs k).isSome:=by
  rw[P0,(r.val k).Lh,Option.isSome_map]
 unfold putK storedH;rw[e]
 by_cases q:(atKey xs k).isSome=true
 ·rw[if_pos q,if_pos q];exact r.repl k ry
 ·rw[if_neg q,if_neg q];exact Paired.snoc r ⟨rfl,hb,ry⟩
theorem KT.keeps{H H':Hp}{kvs:List (List Key×V)}{xs:List (List Key×AH×AI)}(r:KT H kvs xs)(ht:∀b ys,H b=some (.tup ys)->H' b=some (.tup ys)):KT H' kvs xs:=
 Paired.Zvk r λ_ _ z=>⟨z.1,ht _ _ z.2.1,z.2.2⟩
section
variable {P:AL}{w:AN}{H:Hp}{h:Heap}{a:AH}
theorem Ztq{u:HO}(ok:Dv P w H h)(e:Rd H a u):kj P w H h a u:=e.ok ok
theorem Jp{kvs:List (Key×V)}(ok:Dv P w H h)(e:Rd H a (.dK kvs)):kvs.length<=sizeLine/\(a == sysModules)=false/\∃vs,KV kvs vs/\h.DictOf (eN P w) a vs:=
 show kj P w H h a (.dK kvs)from Ztq ok e
theorem Zpj{kvs:List (Key×V)}(ok:Dv P w H h)(e:H a=some (.dK kvs)):kvs.length<=sizeLine/\(a == sysModules)=false/\∃vs,KV kvs vs/\h.DictOf (eN P w) a vs:=Jp ok (.inl e)
theorem ZP{ks:List Key}(ok:Dv P w H h)(e:H a=some (.tup (ks.map kV))):(tupleKind (eN P w)).is h ks a:=by
 obtain⟨_,its,r,o,h1,h2,n,h3⟩:=(show kj P w H h a (.tup (ks.map kV))from ok a _ e);exact⟨o,its.toArray,n,h1,h2,h3,by simpa using WW r⟩
theorem Zdo{kvs:List (List Key×V)}(ok:Dv P w H h)(e:Rd H a (.dT kvs)):kvs.length<=sizeLine/\(a == sysModules)=false/\
  ∃xs,KT H kvs xs/\h.DictOfH (tupleKind (eN P w)) a xs:=by
 obtain⟨z,y,xs,r,o,es,ep,h1,h2,h3,h4,h5⟩:=(show kj P w H h a (.dT kvs)from Ztq ok e);refine⟨z,y,xs,r,o,es,ep,h1,h2,h3,h4,λx hx=>?_,h5⟩;have all:∀{l:List (List Key×V)}{m:List (List Key×AH×AI)},KT H l m->∀x∈m,(tupleKind (eN P w)).is h x.1 x.2.1:=by
  intro l m q
  induction q with
  | nil=>intro x hx;exact nomatch hx
  | @cons p q ps qs hq t ih=>
   intro x hx;rcases List.mem_cons.mp hx with e | hx
   ·subst e;exact ZP ok (by rw[<- hq.1];exact hq.2.1)
   ·exact ih x hx
 exact all r x hx
theorem Zz7{kvs:List (List Key×V)}(ok:Dv P w H h)(e:H a=some (.dT kvs)):kvs.length<=sizeLine/\(a == sysModules)=false/\
  ∃xs,KT H kvs xs/\h.DictOfH (tupleKind (eN P w)) a xs:=Zdo ok (.inl e)
end
def vQ(H:Hp)(a:AH)(y:V)(r:Option V):Prop:=
 (∃kvs k,Rd H a (.dK kvs)/\y=kV k/\r=tL kvs k)\/∃kvs k b,Rd H a (.dT kvs)/\y=.ref b/\H b=some (.tup (k.map kV))/\r=tL kvs k
def V5(H:Hp)(a:AH)(y v:V)(H':Hp):Prop:=
 (∃kvs k,H a=some (.dK kvs)/\y=kV k/\kvs.length<sizeLine/\H'=upd H a (.dK (putK kvs k v)))\/
 ∃kvs k b,H a=some (.dT kvs)/\y=.ref b/\H b=some (.tup (k.map kV))/\kvs.length<sizeLine/\H'=upd H a (.dT (putK kvs k v))
theorem vQ.k{H:Hp}{a:AH}{kvs:List (Key×V)}{k:Key}(e:H a=some (.dK kvs)):vQ H a (kV k) (tL kvs k):=.inl ⟨kvs,k,.inl e,rfl,rfl⟩
theorem V5.k{H:Hp}{a:AH}{kvs:List (Key×V)}{k:Key}{v:V}(e:H a=some (.dK kvs))(hl:kvs.length<sizeLine):V5 H a (kV k) v (upd H a (.dK (putK kvs k v))):=.inl ⟨kvs,k,e,rfl,hl,rfl⟩
section
variable {X:Cx}{pins:At}{σ:St}{H:Hp}{s:AJ}{a:AH}{y v:V}{u r:AI}{o:Option V}{A:Around}{E:Ap}
theorem Inv.big(I:Inv X pins σ H s):sysModules<s.heap.objs.size:=by
 have h:mainGlobals<s.heap.objs.size:=(I.mod.glob.keeps I.bk).lt;exact Nat.lt_trans ε h
theorem Zle{Q:Ap}(hu:A.units+1<cLine)(I:Inv X pins σ H s)(g:vQ H a y (some v))(ry:RelV y u)(h:∀w' s',Inv X pins σ H s'->RelV v w'->Q w' s'):
  wpAny ς A (getItem (.ref a) u) Q E s:=by
 rcases g with ⟨kvs,k,e,ey,l⟩ | ⟨kvs,k,b,e,ey,eb,l⟩
 ·subst ey;obtain⟨z,hd,vs,rel,dd⟩:=Jp I.hok e;obtain⟨w',hw,rw'⟩:=El.some_of (v:=v) (o:=valueAt vs k) (by rw[l];exact rel.val k);exact wpAny_getItem_of (Zd6 ry) dd.mapOf hw (h w' _ (I.tok _) rw')
 ·subst ey;cases (show u=Value.ref b from ry);obtain⟨z,hd,xs,rel,dd⟩:=Zdo I.hok e;obtain⟨w',hw,rw'⟩:=El.some_of (v:=v) (o:=(atKey xs k).map (·.2)) (by rw[l];exact rel.val k);obtain⟨p,hp,hp2⟩:=Option.map_eq_some_iff.mp hw;refine wpAny_getItem_heap (tupleKind_room_in1 hu) (ZP I.hok eb) dd hp ?_;rw[hp2];exact h w' _ (I.tok _) rw'
theorem Zix{Q:Ap}(hu:A.units+1<cLine)(I:Inv X pins σ H s)(g:vQ H a y o)(ry:RelV y u)(h:∀s',Inv X pins σ H s'->Q (.bool (!o.isSome)) s'):
  wpAny ς A (compareOp .NotIn u (.ref a)) Q E s:=by
 rcases g with ⟨kvs,k,e,ey,l⟩ | ⟨kvs,k,b,e,ey,eb,l⟩
 ·subst ey;obtain⟨z,hd,vs,rel,dd⟩:=Jp I.hok e;refine wpAny_notIn_of (Zd6 ry) hd dd.mapOf ?_;rw[<- (rel.val k).Lh,<- l];exact h _ (I.tok _)
 ·subst ey;cases (show u=Value.ref b from ry);obtain⟨z,hd,xs,rel,dd⟩:=Zdo I.hok e;refine wpAny_notIn_heap (tupleKind_room_in1 hu) (ZP I.hok eb) hd dd ?_;have q:=(rel.val k).Lh;rw[Option.isSome_map]at q;rw[<- q,<- l];exact h _ (I.tok _)
theorem Zah{h':Heap}{t':Nat}{ob:HO}(I:Inv X pins σ H s)(mu:Mut (H a))(hs:Heap.SameBut a s.heap h')(he:∃q,h'.get? a=some q)(new:kj X.prog X.w (upd H a ob) h' a ob):
  Inv X pins σ (upd H a ob) { s with heap:=h',toks:=t' }:=
 I.write (x:=a) (e:=a) mu (.inl rfl) (λb q hb z=>(hs.2 b hb).trans z) he new
theorem Zpk{P:AL}{w:AN}{H':Hp}{h':Heap}{kvs:List (Key×V)}{vs:List (Key×AI)}(z:kvs.length<=sizeLine)(hd:(a == sysModules)=false)(rel:KV kvs vs)(dd:h'.DictOf (eN P w) a vs):
  kj P w H' h' a (.dK kvs):=⟨z,hd,vs,rel,dd⟩
theorem Zld{H':Hp}{Q:Unit->AJ->Prop}(hu:A.units+1<cLine)(I:Inv X pins σ H s)(g:V5 H a y v H')(ry:RelV y u)(rv:RelV v r)(h:∀s',Inv X pins σ H' s'->Q () s'):
  wpAny ς A (setItem (.ref a) u r) Q E s:=by
 rcases g with ⟨kvs,k,e,ey,l,eH⟩ | ⟨kvs,k,b,e,ey,eb,l,eH⟩
 ·subst ey eH;obtain⟨z,hd,vs,rel,dd⟩:=Zpj I.hok e;have hz:vs.length<=sizeLine:=by rw[<- rel.length];exact z
  have hl:(putK kvs k v).length<=sizeLine:=by have:=Di kvs k v;omega
  refine wpAny_setItem_pairs (hsz:=hz) (Zd6 ry) dd λh' dd' hs=>h _ ?_;have he:∃q,h'.get? a=some q:=let ⟨q,_,_,hq,_⟩:=dd';⟨q,hq⟩
  exact Zah I (by rw[e];exact True.intro) hs he (Zpk hl hd (rel.put k rv) dd')
 ·subst ey eH;cases (show u=Value.ref b from ry);obtain⟨z,hd,xs,rel,dd⟩:=Zz7 I.hok e;have hz:xs.length<=sizeLine:=by rw[<- Paired.length rel];exact z
  have hl:(putK kvs k v).length<=sizeLine:=by have:=Di kvs k v;omega
  refine wpAny_setItem_heap (hsz:=hz) (tupleKind_room_in1 hu) (ZP I.hok eb) dd λh' dd' hs=>h _ ?_;obtain⟨q,es,ep,hq,h2,h3,h4,_,h5⟩:=dd';refine Zah I (by rw[e];exact True.intro) hs ⟨q,hq⟩ ⟨hl,hd,_,(rel.put k eb rv).keeps λc ys ec=>?_,q,es,ep,hq,h2,h3,h4,h5⟩;rw[aB (qG ec e (λz=>nomatch z))];exact ec
end
section
variable {X:Cx}{pins:At}{σ:St}{H:Hp}{s:AJ}{a:AH}{kvs:List (Key×V)}{k:Key}{u:AI}{A:Around}{E:Ap}
end
def Zth(i:AM):Prop:=∀ov iv,subscripted i false ov iv=operate [ov,iv] (getItem ov iv)
theorem Zi7{prog:AL}{w:AN}{A:Around}{E:Ap}{s:AJ}{env:Env}{value slice:AM}{pos:Pos}{T id:String}{Q:Ap}
  (hl:typeLookup (.type T) "__getitem__"=pure (some (.builtin id))) (hs:Zth slice)
  (h:wpAny ah A (eval value env) (λo s₁=>wpAny ah A (eval slice env) (λi s₂=>s₂.TypeIs o T/\wpAny ah A (getItem o i) Q E s₂) E s₁) E s):
  wpAny ah A (eval (.Subscript value slice pos) env) Q E s:=by
 refine Subscript_ (wpAny_mono h (λo s₁ h₁=>wpAny_mono h₁ (λi s₂ h₂=>?_) λ_ _ x=>x) λ_ _ x=>x);obtain⟨hT,h₂⟩:=h₂;unfold subscriptTail;refine wpAny_bind ?_;rw[getitemInPython_of_ne hT.not_modules];refine wpAny_bind (wpAny_specialOf hT hl ?_);have fin:wpAny ah A (subscripted slice false o i) (λr s₃=>wpAny ah A (letTemporaryGo value o r >>= λ_=>pure r) Q E s₃) E s₂:=by
  rw[hs o i];exact wpAny_operating (wpAny_mono h₂ (λr s₃ h₃=>wpAny_bind (wpAny_letTemporaryGo (wpAny_pure h₃))) λ_ _ x=>x)
 first
  | exact wpAny_pure (wpAny_bind fin)
  | exact wpAny_bind (wpAny_pure (wpAny_bind fin))
  | exact wpAny_bind fin
theorem Zdt{X:Cx}{pins:At}{σ:St}{H:Hp}{s:AJ}{a:AH}{y:V}{o:Option V}(I:Inv X pins σ H s)(g:vQ H a y o):s.TypeIs (.ref a) "dict":=by
 rcases g with ⟨kvs,k,e,_,_⟩ | ⟨kvs,k,b,e,_,_,_⟩
 ·obtain⟨_,_,vs,_,dd⟩:=Jp I.hok e;exact dd.typeIs
 ·obtain⟨_,_,xs,_,dd⟩:=Zdo I.hok e;exact dd.typeIs
def jm(td ty:TE):TE:=λσ H Q=>td σ H λx H1=>ty σ H1 λy H2=>∃a v,x=.ref a/\vQ H2 a y (some v)/\Q v H2
def Xz(ty td:TE):TE:=λσ H Q=>ty σ H λy H1=>td σ H1 λx H2=>∃a o,x=.ref a/\vQ H2 a y o/\Q (.bl (!o.isSome)) H2
def QC(td ty tv:TE):TS:=λD σ H=>tv σ H λv H1=>td σ H1 λx H2=>ty σ H2 λy H3=>∃a H4,x=.ref a/\V5 H3 a y v H4/\D.nx σ H4
section
variable {X:Cx}{o i e value:AM}{pos pos' tpos:Pos}{td ty tv:TE}
theorem Zrg(hu:X.A.units+1<cLine)(ho:PE X o td)(hi:PE X i ty)(hs:Zth i):PE X (.Subscript o i pos) (jm td ty):=by
 intro pins s σ H Q I h;refine Zi7 PySem.F.slot_dict_getitem.lookup hs (jw (ho pins s σ H _ I h) λu s1 ⟨x,H1,I1,rx,q1⟩=>jw (hi pins s1 σ H1 _ I1 q1) λiv s2 ⟨y,H2,I2,ry,a,v,ex,g,q2⟩=>?_);subst ex;obtain rfl:u=Value.ref a:=rx;exact⟨Zdt I2 g,Zle hu I2 g ry λw' s3 I3 rw'=>⟨v,H2,I3,rw',q2⟩⟩
theorem Zjt(hu:X.A.units+1<cLine)(hi:PE X i ty)(ho:PE X o td):PC X .NotIn i o (Xz ty td):=by
 intro pins s σ H Q I h;refine jw (hi pins s σ H _ I h) λiv s1 ⟨y,H1,I1,ry,q1⟩=>jw (ho pins s1 σ H1 _ I1 q1) λu s2 ⟨x,H2,I2,rx,a,ov,ex,g,q2⟩=>?_;subst ex;obtain rfl:u=Value.ref a:=rx;exact Zix hu I2 g ry λs3 I3=>⟨.bl (!ov.isSome),H2,I3,rfl,q2⟩
theorem O3(hu:X.A.units+1<cLine)(ho:PE X o td)(hi:PE X i ty)(hv:PE X value tv)(hs:swapsWith value (some (.Subscript o i pos')) pos.line X.env=pure false):
  PS X (.Assign [.Subscript o i pos'] value pos) (QC td ty tv):=by
 intro pins s σ H D I h;refine wpAny_Assign_Subscript (jw (hv pins s σ H _ I h) λr s1 ⟨v,H1,I1,rv,q1⟩=>jw (ho pins s1 σ H1 _ I1 q1) λu s2 ⟨x,H2,I2,rx,q2⟩=>jw (hi pins s2 σ H2 _ I2 q2) λiv s3 ⟨y,H3,I3,ry,a,H4,ex,g,q3⟩=>?_) hs;subst ex;obtain rfl:u=Value.ref a:=rx;exact Zld hu I3 g ry rv λs4 I4=>⟨σ,H4,I4,q3⟩
end
theorem Zds{P:AL}{w:AN}{H:Hp}(h:Heap)(hb:sysModules<h.objs.size):kj P w H (h.push { cls:=.type "dict",data:=.dict #[] }) h.objs.size (.dK []):=
 ⟨Nat.zero_le _,beq_eq_false_iff_ne.mpr (Ne.symm (Nat.ne_of_lt hb)),[],.nil,Heap.DictOf.new h⟩
def Zeo:TE:=λ_ H Q=>∀p,H p=none->Q (.ref p) (upd H p (.dK []))
section
variable {X:Cx}{pos:Pos}
theorem Zbw:PE X (.Dict [] [] pos) Zeo:=λpins s σ H Q I h=>
 wpAny_Dict_empty ⟨.ref s.heap.objs.size,_,I.laid (a:=s.heap.objs.size) (o:=.dK []) (t':=s.toks) (λ_ _ q=>Heap.get?_push_of_some _ q) Δ (Zds s.heap I.big),rfl,h _ (I.hok.fresh Δ)⟩
end
def Xx:List (TE×TE)->St->Hp->(List (V×V)->Hp->Prop)->Prop
 | [],_,H,Q=>Q [] H
 | (tk,tv)::r,σ,H,Q=>tk σ H λx H1=>tv σ H1 λy H2=>Xx r σ H2 λps H3=>Q ((x,y)::ps) H3
abbrev VV:List (V×V)->List (AI×AI)->Prop:=Paired λp q=>RelV p.1 q.1/\RelV p.2 q.2
def PPs(X:Cx)(pos:Pos)(keys:List (Option AM))(values:AF)(trs:List (TE×TE)):Prop:=
 ∀(pins:At) (s:AJ) (σ:St) (H:Hp) (Q:List (V×V)->Hp->Prop),Inv X pins σ H s->Xx trs σ H Q->
  wpAny ς X.A (evalPairs (pairTrees keys values X.env pos)) (λvs s'=>∃ps H',Inv X pins σ H' s'/\VV ps vs/\Q ps H') X.xe s
theorem Zqx{X:Cx}{pos:Pos}:PPs X pos [] [] []:=λpins s σ H Q I h=>pairTrees_nil_walk ⟨[],H,I,.nil,h⟩
theorem Zmp{X:Cx}{pos:Pos}{k v:AM}{ks:List (Option AM)}{vs:AF}{tk tv:TE}{trs:List (TE×TE)}(hk:PE X k tk)(hv:PE X v tv)(hr:PPs X pos ks vs trs):
  PPs X pos (some k::ks) (v::vs) ((tk,tv)::trs):=λpins s σ H Q I h=>
 pairTrees_cons_walk (jw (hk pins s σ H _ I h) λu s1 ⟨x,H1,I1,rx,q1⟩=>jw (hv pins s1 σ H1 _ I1 q1) λw2 s2 ⟨y,H2,I2,ry,q2⟩=>
  jw (hr pins s2 σ H2 _ I2 q2) λws s3 ⟨ps,H3,I3,rel,q3⟩=>⟨(x,y)::ps,H3,I3,.cons ⟨rx,ry⟩ rel,q3⟩)
def K4(kvs more:List (Key×V)):List (Key×V):=more.foldl (λacc kv=>putK acc kv.1 kv.2) kvs
theorem KV.merge:∀{more:List (Key×V)}{rs:List (Key×AI)}{kvs:List (Key×V)}{vs:List (Key×AI)},KV more rs->KV kvs vs->KV (K4 kvs more) (merged vs rs):=by
 intro more rs kvs vs r;unfold KV at r
 induction r generalizing kvs vs with
 | nil=>intro q;exact q
 | @cons p q ps qs h t ih=>
  intro r0;have e:KV (putK kvs p.1 p.2) (stored vs q.1 q.2):=by
   have:=r0.put p.1 h.2;rw[<- h.1];exact this
  exact ih e
theorem Ez:∀(more kvs:List (Key×V)),(K4 kvs more).length<=kvs.length+more.length
 | [],kvs=>by show kvs.length<=kvs.length+0;omega
 | p::r,kvs=>by
  have h1:=Ez r (putK kvs p.1 p.2);have h2:=Di kvs p.1 p.2;show(K4 (putK kvs p.1 p.2) r).length<=_;rw[List.length_cons];omega
theorem Sy{P:AL}{w:AN}:∀{kvs:List (Key×V)}{ws:List (AI×AI)},VV (kvs.map λkv=>(kV kv.1,kv.2)) ws->∃rs,Carries (eN P w) ws rs/\KV kvs rs
 | [],_,r=>by rw[List.map_nil]at r;cases r;exact⟨[],True.intro,.nil⟩
 | p::kvs,_,r=>by
  rw[List.map_cons]at r;cases r with
  | @cons a b as bs h t=>
   obtain⟨rs,c,q⟩:=Sy (P:=P) (w:=w) t;obtain⟨b1,b2⟩:=b;exact⟨(p.1,b2)::rs,⟨Zd6 h.1,rfl,c⟩,.cons ⟨rfl,h.2⟩ q⟩
def Zlz(trs:List (TE×TE)):TE:=λσ H Q=>∀p,H p=none->Xx trs σ (upd H p (.dK [])) λps H2=>H2 p=some (.dK [])/\∃kvs:List (Key×V),ps=kvs.map (λkv=>(kV kv.1,kv.2))/\kvs.length<=15/\Q (.ref p) (upd H2 p (.dK (K4 [] kvs)))
theorem Zrf{X:Cx}{pos:Pos}{keys:List (Option AM)}{values:AF}{trs:List (TE×TE)}(h:PPs X pos keys values trs)(hall:keys.all (·.isSome)=true)(hl:keys.length=values.length)(h0:keys≠[])
  (h15:keys.length<=15):PE X (.Dict keys values pos) (Zlz trs):=by
 intro pins s σ H Q I q;have hn:=I.hok.fresh (Nat.le_refl s.heap.objs.size);have I1:=I.laid (a:=s.heap.objs.size) (o:=.dK []) (h':=s.heap.push { cls:=.type "dict",data:=.dict #[] }) (t':=s.toks) (λ_ _ q=>Heap.get?_push_of_some _ q) Δ (Zds s.heap I.big);refine wpAny_Dict_walk (knd:=eN X.prog X.w) hall hl h0 h15 (jw (h pins _ σ _ _ I1 (q _ hn)) λws s2 ⟨ps,H2,I2,rel,e,kvs,ep,lk,q2⟩=>?_);subst ep;obtain⟨rs,c,rk⟩:=Sy (P:=X.prog) (w:=X.w) rel;obtain⟨z,hd,vs0,r0,dd⟩:=Zpj I2.hok e;cases r0;refine⟨rs,c,dd,λh' dd' hs=>⟨.ref s.heap.objs.size,_,?_,rfl,q2⟩⟩;have hz:(K4 [] kvs).length<=sizeLine:=by
  have h1:=Ez kvs [];rw[List.length_nil]at h1;rw[sizeLine_eq];omega
 have he:∃q,h'.get? s.heap.objs.size=some q:=let ⟨q,_,_,hq,_⟩:=dd';⟨q,hq⟩
 exact Zah I2 (by rw[e];exact True.intro) hs he (Zpk hz hd (rk.merge .nil) dd')
structure M1(X:Cx)(o:AM)(m:Str)(apos:Pos)(e:AM)(cpos:Pos):Prop where
 base:attributeBase o m X.env (eval o X.env)=eval o X.env
 few:((backTo cpos (starEach [e] X.env)).all (λx=>!x.1) && (backToKw cpos (keywordEach [] X.env)).all (λx=>x.1.isSome)
  && decide (([e]:AF).length+([]:List Keyword).length+(if ([]:List Keyword).isEmpty then 0 else 1)<30))=true
 line:(apos.endLine == cpos.line)=true
 trees:backTo cpos (starEach [e] X.env)=[(false,eval e X.env)]
structure M2(X:Cx)(o:AM)(m:Str)(apos:Pos)(e f:AM)(cpos:Pos):Prop where
 base:attributeBase o m X.env (eval o X.env)=eval o X.env
 few:((backTo cpos (starEach [e,f] X.env)).all (λx=>!x.1) && (backToKw cpos (keywordEach [] X.env)).all (λx=>x.1.isSome)
  && decide (([e,f]:AF).length+([]:List Keyword).length+(if ([]:List Keyword).isEmpty then 0 else 1)<30))=true
 line:(apos.endLine == cpos.line)=true
 trees:backTo cpos (starEach [e,f] X.env)=[(false,eval e X.env),(false,eval f X.env)]
def IsD(H:Hp)(a:AH):Prop:=(∃kvs,Rd H a (.dK kvs))\/∃kvs,Rd H a (.dT kvs)
theorem Zod{X:Cx}{pins:At}{σ:St}{H:Hp}{s:AJ}{a:AH}(I:Inv X pins σ H s)(d:IsD H a):
  s.TypeIs (.ref a) "dict"/\(∀b,Value.ref a=.ref b->∃ob,s.heap.get? b=some ob/\ob.dict=none)/\(a == sysModules)=false:=by
 rcases d with ⟨kvs,e⟩ | ⟨kvs,e⟩
 ·obtain⟨_,hd,vs,_,dd⟩:=Jp I.hok e;refine⟨dd.typeIs,λb q=>?_,hd⟩;cases q;obtain⟨ob,_,_,h1,h2,_⟩:=dd;exact⟨ob,h1,h2.2.1⟩
 ·obtain⟨_,hd,xs,_,dd⟩:=Zdo I.hok e;refine⟨dd.typeIs,λb q=>?_,hd⟩;cases q;obtain⟨ob,_,_,h1,h2,_⟩:=dd;exact⟨ob,h1,h2.2.1⟩
section
variable {X:Cx}{pins:At}{σ:St}{H:Hp}{s:AJ}{a:AH}{y d:V}{u r:AI}{o:Option V}{A:Around}{E:Ap}
end
section
variable {X:Cx}{o e f:AM}{apos cpos:Pos}{td ty tx:TE}
end
section
variable {X:Cx}{pins:At}{σ:St}{H:Hp}{s:AJ}{a:AH}{kvs:List (Key×V)}{A:Around}{E:Ap}
end
section
variable {X:Cx}{pins:At}{σ:St}{H:Hp}{s:AJ}{a:AH}{y:V}{u:AI}{A:Around}{E:Ap}
end
end L2
namespace Att
open PySem PySem.W PySem.Calls PyProof.Rows
section
variable {prog:AL}{w:AN}{A:Around}{E:Ap}{s:AJ}{K:Frag}
end
end Att
namespace L2
open PySem PySem.Spec PyProof.Rows
section
variable {X:Cx}
end
section
variable {κ:Type} [DecidableEq κ]
end
end L2
set_option maxHeartbeats 40000000
namespace G
open PySem L2
section
variable {D:Ends}{σ:St}{H H1:Hp}{Q:VK}{t u:TS}{ta tb tc te:TE}{n:ν}{r:VK}{b c:ν}
theorem vo(h:t ⟨u ⟨n,r,b,c⟩,r,b,c⟩ σ H):aN t u ⟨n,r,b,c⟩ σ H:=h
theorem vp(h:n σ H):bY ⟨n,r,b,c⟩ σ H:=h
theorem Zwc(h:te σ H λ_ H1=>n σ H1):uh te ⟨n,r,b,c⟩ σ H:=h
theorem Zio(h:te σ H r):bH te ⟨n,r,b,c⟩ σ H:=h
theorem Zw8{c':TT}(h:c' σ H λk H1=>if k=true then t ⟨n,r,b,c⟩ σ H1 else u ⟨n,r,b,c⟩ σ H1):dX c' t u ⟨n,r,b,c⟩ σ H:=h
theorem RW{g:TG}(h:te σ H λx H1=>g x σ H1 n):bI te g ⟨n,r,b,c⟩ σ H:=h
theorem i_C{v:V}(h:Q v H):tC v σ H Q:=h
theorem Zgs{f:R2}(h:ta σ H λx H1=>tb σ H1 λy H2=>f x y H2 Q):bw f ta tb σ H Q:=h
theorem ZAh{f:V->Hp->VK->Prop}(h:ta σ H λx H1=>f x H1 Q):tUn f ta σ H Q:=h
def kB(q:Bool->Hp->Prop):VK:=λx H'=>∃k,x=.bl k/\q k H'
theorem i_B{k:Bool}{q:Bool->Hp->Prop}(h:q k H):kB q (.bl k) H:=⟨k,rfl,h⟩
theorem Zvy{q:Bool->Hp->Prop}(h:te σ H (kB q)):bO te σ H q:=h
theorem Zyi{q:Bool->Hp->Prop}(h:te σ H (kB q)):tB te σ H q:=h
theorem Zyw{t u:TT}{q:Bool->Hp->Prop}(h:t σ H λk H1=>if k=true then u σ H1 q else q false H1):Tj t u σ H q:=h
theorem Zyk{t u:TT}{q:Bool->Hp->Prop}(h:t σ H λk H1=>if k=true then q true H1 else u σ H1 q):Wr t u σ H q:=h
theorem Ztz{t:TT}{q:Bool->Hp->Prop}(h:t σ H λk H1=>q (!k) H1):DY t σ H q:=h
theorem Zwi(h:ta σ H (kB λk H1=>if k=true then tb σ H1 Q else Q (.bl false) H1)):Qe ta tb σ H Q:=h
theorem Zyj(h:ta σ H (kB λk H1=>if k=true then Q (.bl true) H1 else tb σ H1 Q)):Zq3 ta tb σ H Q:=h
theorem Zw1(h:ta σ H (kB λk H1=>Q (.bl (!k)) H1)):Zi4 ta σ H Q:=h
theorem Zyx{g:Int->Int->V}{i j:Int}(h:Q (g i j) H):nR g (.int i) (.int j) H Q:=⟨i,j,rfl,rfl,h⟩
theorem i_I{C:Int->Int->Prop}{g:Int->Int->V}{i j:Int}(hc:C i j)(h:Q (g i j) H):rI C g (.int i) (.int j) H Q:=⟨i,j,rfl,rfl,hc,h⟩
theorem i_U{g:Int->V}{i:Int}(h:Q (g i) H):rU g (.int i) H Q:=⟨i,rfl,h⟩
theorem Zyv{i j:Int}(h:Q (.bl (decide (i=j))) H):vR (.int i) (.int j) H Q:=⟨rfl,by rw[show decide (V.int i=V.int j)=decide (i=j)from decide_eq_decide.mpr ⟨λe=>V.int.inj e,λe=>by rw[e]⟩];exact h⟩
theorem Zyu{i j:Str}(h:Q (.bl (decide (i=j))) H):vR (.str i) (.str j) H Q:=⟨rfl,by rw[show decide (V.str i=V.str j)=decide (i=j)from decide_eq_decide.mpr ⟨λe=>V.str.inj e,λe=>by rw[e]⟩];exact h⟩
theorem Zyo{i j:Int}(h:Q (.bl (!decide (i=j))) H):rNe (.int i) (.int j) H Q:=⟨rfl,by rw[show decide (V.int i=V.int j)=decide (i=j)from decide_eq_decide.mpr ⟨λe=>V.int.inj e,λe=>by rw[e]⟩];exact h⟩
theorem Zyn{i j:Str}(h:Q (.bl (!decide (i=j))) H):rNe (.str i) (.str j) H Q:=⟨rfl,by rw[show decide (V.str i=V.str j)=decide (i=j)from decide_eq_decide.mpr ⟨λe=>V.str.inj e,λe=>by rw[e]⟩];exact h⟩
def Oj:R2:=λx y H Q=>y=.non/\Q (.bl (decide (x=.non))) H
def HD:R2:=λx y H Q=>y=.non/\Q (.bl (!decide (x=.non))) H
theorem Zw7(h:Q (.bl true) H):Oj .non .non H Q:=⟨rfl,h⟩
theorem Zw6{i:Int}(h:Q (.bl false) H):Oj (.int i) .non H Q:=⟨rfl,h⟩
theorem Zw5{i:AH}(h:Q (.bl false) H):Oj (.ref i) .non H Q:=⟨rfl,h⟩
theorem Zse(h:Q (.bl false) H):HD .non .non H Q:=⟨rfl,h⟩
theorem Zsd{i:Int}(h:Q (.bl true) H):HD (.int i) .non H Q:=⟨rfl,h⟩
theorem Zsc{i:AH}(h:Q (.bl true) H):HD (.ref i) .non H Q:=⟨rfl,h⟩
theorem Zgu{A B:Prop}(h:A):if true=true then A else B:=Zgo h
theorem Z5{A B:Prop}(h:B):if false=true then A else B:=Zsa h
theorem Zsj{A B:Prop}(h:B):if (!true)=true then A else B:=Zsa h
theorem Zsk{A B:Prop}(h:A):if (!false)=true then A else B:=Zgo h
theorem qM{p A B:Prop} [Decidable p](h1:p->A)(h2:¬ p->B):if decide p=true then A else B:=Zvu (λe=>h1 (of_decide_eq_true e)) (λe=>h2 (λq=>e (decide_eq_true q)))
theorem Gn{p A B:Prop} [Decidable p](h1:¬ p->A)(h2:p->B):if (!decide p)=true then A else B:=Zvu (λe=>h1 (by simpa using e)) (λe=>h2 (by simpa using e))
theorem Zyl{q:List V->Hp->Prop}(h:q [] H):aF σ H q:=h
theorem Zwg{q:List V->Hp->Prop}{t:TA}(h:ta σ H λx H1=>t σ H1 λxs H2=>q (x::xs) H2):aj ta t σ H q:=h
theorem Zyq{t:TA}(h:t σ H λxs H1=>xs.length<=sizeLine/\∀p,H1 p=none->Q (.ref p) (upd H1 p (.lst xs))):gk t σ H Q:=h
theorem Zyf{t:TA}(h:t σ H λxs H1=>xs.length<=sizeLine/\∀p,H1 p=none->Q (.ref p) (upd H1 p (.tup xs))):fU t σ H Q:=h
theorem Zwh{t:TA}{sp:Sp}{vV:List V}{E:XK}(h:t σ H λvs H1=>sp (vs++vV) H1 Q E):aX sp vV E t σ H Q:=h
theorem ZAv{t:TA}{f:List V->Hp->VK->Prop}(h:t σ H λvs H1=>f vs H1 Q):tK f t σ H Q:=h
theorem Zw3{t:TA}{sp:Sp}{vV:List V}{E:XK}{C:AH}(h:t σ H λvs H1=>∀x dx,H1 x=none->H1 dx=none->dx≠x->sp (.ref x::(vs++vV)) (upd (upd H1 dx (.own x)) x (.ins C dx [])) (λv H2=>v=.non/\Q (.ref x) H2) E):Ba C sp vV E t σ H Q:=h
def Zye(K:aC)(f:Str)(Q:VK):VK:=λx H1=>∃a C dx fs v,x=.ref a/\H1 a=some (.ins C dx fs)/\Fl K C/\bL K C f/\fs.lookup f=some v/\Q v H1
theorem Zyt{K:aC}{f:Str}(h:ta σ H (Zye K f Q)):bG K ta f σ H Q:=h
theorem aH{K:aC}{f:Str}{a C dx:AH}{fs:List (Str×V)}{v:V}(h:H a=some (.ins C dx fs))(hc:Fl K C)(hn:bL K C f)(hl:fs.lookup f=some v)(q:Q v H):Zye K f Q (.ref a) H:=⟨a,C,dx,fs,v,rfl,h,hc,hn,hl,q⟩
theorem Zvz{K:aC}{f:Str}{tv:TE}(h:tv σ H λy H1=>ta σ H1 λx H2=>∃a C dx fs,x=.ref a/\H2 a=some (.ins C dx fs)/\Fl K C/\bL K C f/\fs.length<1000/\n σ (upd H2 a (.ins C dx (cI f y fs)))):iw K ta tv f ⟨n,r,b,c⟩ σ H:=h
theorem Zw2{C:AH}{m:Str}{sp:Sp}{vV:List V}{E:XK}{t:TA}(h:ta σ H λx H1=>∃a dx fs,x=.ref a/\H1 a=some (.ins C dx fs)/\fs.lookup m=none/\t σ H1 λvs H2=>sp (x::(vs++vV)) H2 Q E):lq C m sp vV E ta t σ H Q:=h
theorem Zoi{q:AA->Hp->Prop}(h:q none H):Xy σ H q:=h
def kI(q:Int->Hp->Prop):VK:=λx H1=>∃i,x=.int i/\q i H1
theorem Zw0{q:AA->Hp->Prop}(h:te σ H (kI λi=>q (some i))):Zbe te σ H q:=h
theorem ZAj{i:Int}{q:Int->Hp->Prop}(h:q i H):kI q (.int i) H:=⟨i,rfl,h⟩
theorem ZAi{f:V->AA->AA->Hp->VK->Prop}{tl th:TO}(h:te σ H λx H1=>tl σ H1 λl H2=>th σ H2 λu H3=>f x l u H3 Q):tSl f te tl th σ H Q:=h
theorem ZAu{K:aC}{T:String}{f:V->List V->Hp->VK->Prop}{to:TE}{t:TA}(h:to σ H λx H1=>tyV K T x H1/\t σ H1 λxs H2=>f x xs H2 Q):tBM K T f to t σ H Q:=h
theorem Zys{wi:TI}{g:TG}{tb:TS}(h:wi σ H λJ H1=>∃W:Nat->Nat->ν,(∃m,W 0 m σ H1)/\∀i m σ H,W i m σ H->
 (J.stop i H/\n σ H)\/(J.go i H/\∃N:ν,(∀ σ' H',N σ' H'->∃m',m'<m/\W (i+1) m' σ' H')/\∀x H',J.yld i H x H'->g x σ H' λσ2 H2=>tb ⟨N,r,n,N⟩ σ2 H2)):GQ wi g tb ⟨n,r,b,c⟩ σ H:=h
theorem ZAm{K:aC}{R:It->Hp->Prop}(h:te σ H λx H1=>∃a,x=.ref a/\(∃xs,cC K H1 a xs)/\R (Itl K a) H1):yJ K te σ H R:=h
theorem ZAl{ta:TA}{R:It->Hp->Prop}(h:ta σ H λvs H1=>∃j:Int,vs=[.int j]/\-(2 ^ 62)<=j/\j<2 ^ 62/\R (Itr 0 j.toNat) H1):Ny ta σ H R:=h
end
theorem ZAg{v:V}{l:St}{H:Hp}{Q:VK}(h:Q v H):ak 0 (some v::l) H Q:=⟨v,rfl,h⟩
theorem ZAf{x0:Option V}{v:V}{l:St}{H:Hp}{Q:VK}(h:Q v H):ak 1 (x0::some v::l) H Q:=⟨v,rfl,h⟩
theorem ZAt{x0:Option V}{y:Option V}{v:V}{l:St}{H:Hp}{Q:ν}(h:Q (x0::some v::l) H):aO 1 v (x0::y::l) H Q:=h
theorem ZAe{x0 x1:Option V}{v:V}{l:St}{H:Hp}{Q:VK}(h:Q v H):ak 2 (x0::x1::some v::l) H Q:=⟨v,rfl,h⟩
theorem Zwa{x0 x1:Option V}{y:Option V}{v:V}{l:St}{H:Hp}{Q:ν}(h:Q (x0::x1::some v::l) H):aO 2 v (x0::x1::y::l) H Q:=h
theorem Zgr{x0 x1 x2:Option V}{v:V}{l:St}{H:Hp}{Q:VK}(h:Q v H):ak 3 (x0::x1::x2::some v::l) H Q:=⟨v,rfl,h⟩
theorem Zdb{x0 x1 x2:Option V}{y:Option V}{v:V}{l:St}{H:Hp}{Q:ν}(h:Q (x0::x1::x2::some v::l) H):aO 3 v (x0::x1::x2::y::l) H Q:=h
theorem ZAd{x0 x1 x2 x3:Option V}{v:V}{l:St}{H:Hp}{Q:VK}(h:Q v H):ak 4 (x0::x1::x2::x3::some v::l) H Q:=⟨v,rfl,h⟩
theorem Zsl{x0 x1 x2 x3:Option V}{y:Option V}{v:V}{l:St}{H:Hp}{Q:ν}(h:Q (x0::x1::x2::x3::some v::l) H):aO 4 v (x0::x1::x2::x3::y::l) H Q:=h
theorem ZAc{x0 x1 x2 x3 x4:Option V}{v:V}{l:St}{H:Hp}{Q:VK}(h:Q v H):ak 5 (x0::x1::x2::x3::x4::some v::l) H Q:=⟨v,rfl,h⟩
theorem ZAs{x0 x1 x2 x3 x4:Option V}{y:Option V}{v:V}{l:St}{H:Hp}{Q:ν}(h:Q (x0::x1::x2::x3::x4::some v::l) H):aO 5 v (x0::x1::x2::x3::x4::y::l) H Q:=h
theorem ZAb{x0 x1 x2 x3 x4 x5:Option V}{v:V}{l:St}{H:Hp}{Q:VK}(h:Q v H):ak 6 (x0::x1::x2::x3::x4::x5::some v::l) H Q:=⟨v,rfl,h⟩
theorem ZAr{x0 x1 x2 x3 x4 x5:Option V}{y:Option V}{v:V}{l:St}{H:Hp}{Q:ν}(h:Q (x0::x1::x2::x3::x4::x5::some v::l) H):aO 6 v (x0::x1::x2::x3::x4::x5::y::l) H Q:=h
theorem ZAa{x0 x1 x2 x3 x4 x5 x6:Option V}{v:V}{l:St}{H:Hp}{Q:VK}(h:Q v H):ak 7 (x0::x1::x2::x3::x4::x5::x6::some v::l) H Q:=⟨v,rfl,h⟩
theorem ZAq{x0 x1 x2 x3 x4 x5 x6:Option V}{y:Option V}{v:V}{l:St}{H:Hp}{Q:ν}(h:Q (x0::x1::x2::x3::x4::x5::x6::some v::l) H):aO 7 v (x0::x1::x2::x3::x4::x5::x6::y::l) H Q:=h
theorem ZA9{x0 x1 x2 x3 x4 x5 x6 x7:Option V}{v:V}{l:St}{H:Hp}{Q:VK}(h:Q v H):ak 8 (x0::x1::x2::x3::x4::x5::x6::x7::some v::l) H Q:=⟨v,rfl,h⟩
theorem ZAp{x0 x1 x2 x3 x4 x5 x6 x7:Option V}{y:Option V}{v:V}{l:St}{H:Hp}{Q:ν}(h:Q (x0::x1::x2::x3::x4::x5::x6::x7::some v::l) H):aO 8 v (x0::x1::x2::x3::x4::x5::x6::x7::y::l) H Q:=h
theorem ZA8{x0 x1 x2 x3 x4 x5 x6 x7 x8:Option V}{v:V}{l:St}{H:Hp}{Q:VK}(h:Q v H):ak 9 (x0::x1::x2::x3::x4::x5::x6::x7::x8::some v::l) H Q:=⟨v,rfl,h⟩
theorem ZAo{x0 x1 x2 x3 x4 x5 x6 x7 x8:Option V}{y:Option V}{v:V}{l:St}{H:Hp}{Q:ν}(h:Q (x0::x1::x2::x3::x4::x5::x6::x7::x8::some v::l) H):aO 9 v (x0::x1::x2::x3::x4::x5::x6::x7::x8::y::l) H Q:=h
theorem aL{H:Hp}{p:AH}(h:H p=none)(o:HO):bz H (upd H p o):=λb u q=>by rw[aB (aD q h)];exact q
theorem nwO{H H1:Hp}{a:AH}{o:HO}(n:H a=none)(h:upd H a o=H1):bz H H1/\H1 a=some o:=by
 subst h;exact⟨aL n o,aq⟩
def tyN(H:Hp):V->Option String
 | .non=>some "NoneType"
 | .bl _=>some "bool"
 | .int _=>some "int"
 | .str _=>some "str"
 | .ref a=>match H a with
  | some (.lst _)=>some "list"
  | some (.yU _ (.lst _))=>some "list"
  | some (.tup _)=>some "tuple"
  | some (.dK _)=>some "dict"
  | some (.dT _)=>some "dict"
  | _=>none
 | _=>none
def vU(t n:String):Option Bool:=if ["int","bool","str","list","tuple","dict"].contains n then some (t == n || (t == "bool" && n == "int"))else none
def SJ:List V->Hp->VK->Prop:=λxs H Q=>∃x n t k,xs=[x,.ty n]/\tyN H x=some t/\vU t n=some k/\Q (.bl k) H
theorem Nx:vU "int" "int"=some true:=γ
theorem Jb:vU "int" "bool"=some false:=γ
theorem Zd8:vU "int" "str"=some false:=γ
theorem ZX:vU "int" "list"=some false:=γ
theorem Vc:vU "int" "tuple"=some false:=γ
theorem ZZ:vU "int" "dict"=some false:=γ
theorem Z3:vU "bool" "int"=some true:=γ
theorem Vi:vU "bool" "bool"=some true:=γ
theorem Z2:vU "bool" "str"=some false:=γ
theorem Vg:vU "bool" "list"=some false:=γ
theorem RP:vU "bool" "tuple"=some false:=γ
theorem Vh:vU "bool" "dict"=some false:=γ
theorem Zd7:vU "str" "int"=some false:=γ
theorem ZS:vU "str" "bool"=some false:=γ
theorem Nv:vU "str" "str"=some true:=γ
theorem ZQ:vU "str" "list"=some false:=γ
theorem U9:vU "str" "tuple"=some false:=γ
theorem ZR:vU "str" "dict"=some false:=γ
theorem Lq:vU "NoneType" "int"=some false:=γ
theorem Jf:vU "NoneType" "bool"=some false:=γ
theorem Lp:vU "NoneType" "str"=some false:=γ
theorem Jc:vU "NoneType" "list"=some false:=γ
theorem Gk:vU "NoneType" "tuple"=some false:=γ
theorem Je:vU "NoneType" "dict"=some false:=γ
theorem ZW:vU "list" "int"=some false:=γ
theorem Vb:vU "list" "bool"=some false:=γ
theorem ZV:vU "list" "str"=some false:=γ
theorem EY:vU "list" "list"=some true:=γ
theorem RM:vU "list" "tuple"=some false:=γ
theorem Va:vU "list" "dict"=some false:=γ
theorem U8:vU "tuple" "int"=some false:=γ
theorem RK:vU "tuple" "bool"=some false:=γ
theorem U7:vU "tuple" "str"=some false:=γ
theorem RG:vU "tuple" "list"=some false:=γ
theorem Bd:vU "tuple" "tuple"=some true:=γ
theorem RJ:vU "tuple" "dict"=some false:=γ
theorem Z1:vU "dict" "int"=some false:=γ
theorem Vf:vU "dict" "bool"=some false:=γ
theorem Z0:vU "dict" "str"=some false:=γ
theorem Vd:vU "dict" "list"=some false:=γ
theorem RN:vU "dict" "tuple"=some false:=γ
theorem Ve:vU "dict" "dict"=some true:=γ
theorem Zgw{i:Int}{H:Hp}{Q:VK}(h:Q (.bl true) H):SJ [.int i,.ty "int"] H Q:=⟨_,_,_,_,rfl,rfl,Nx,h⟩
theorem Zda{i:Int}{H:Hp}{Q:VK}(h:Q (.bl false) H):SJ [.int i,.ty "bool"] H Q:=⟨_,_,_,_,rfl,rfl,Jb,h⟩
theorem Zgv{i:Str}{H:Hp}{Q:VK}(h:Q (.bl true) H):SJ [.str i,.ty "str"] H Q:=⟨_,_,_,_,rfl,rfl,Nv,h⟩
theorem Zd9{a:AH}{H:Hp}{Q:VK}{xs:List V}(hp:H a=some (.lst xs))(h:Q (.bl true) H):SJ [.ref a,.ty "list"] H Q:=⟨_,_,_,_,rfl,(by show(match H a with | some (.lst _)=>some "list" | some (.yU _ (.lst _))=>some "list" | some (.tup _)=>some "tuple" | some (.dK _)=>some "dict" | some (.dT _)=>some "dict" | _=>none)=some "list";rw[hp]),EY,h⟩
theorem Z6{a:AH}{H:Hp}{Q:VK}{xs:List V}(hp:H a=some (.tup xs))(h:Q (.bl true) H):SJ [.ref a,.ty "tuple"] H Q:=⟨_,_,_,_,rfl,(by show(match H a with | some (.lst _)=>some "list" | some (.yU _ (.lst _))=>some "list" | some (.tup _)=>some "tuple" | some (.dK _)=>some "dict" | some (.dT _)=>some "dict" | _=>none)=some "tuple";rw[hp]),Bd,h⟩
def iC(K:aC):List V->Hp->VK->Prop:=λxs H Q=>∃p ys,xs=[.ref p]/\(cC K H p ys\/fM K H p ys)/\Q (.int ys.length) H
theorem fK{K:aC}{a:AH}{H:Hp}{Q:VK}{xs:List V}(hp:cC K H a xs)(h:Q (.int xs.length) H):iC K [.ref a] H Q:=⟨a,xs,rfl,.inl hp,h⟩
theorem lX{K:aC}{a:AH}{H:Hp}{Q:VK}{xs:List V}{i:Int}{v:V}(hp:cC K H a xs)(hi:atI xs i=some v)(h:Q v H):qb K (.ref a) (.int i) H Q:=⟨a,xs,i,v,rfl,rfl,hp,hi,h⟩
section
variable {K:aC}{a:AH}{xs:List V}{g:TG}{tb:TS}{σ:St}{H:Hp}{n:ν}{r:VK}
theorem forL(xs:List V)(Pv:Nat->ν)(h0:Pv 0 σ H)(hl:∀i σ H,i<=xs.length->Pv i σ H->cC K H a xs)
  (hs:∀i x σ H,xs[i]? =some x->Pv i σ H->g x σ H λσ2 H2=>tb ⟨Pv (i+1),r,n,Pv (i+1)⟩ σ2 H2) (hd:∀ σ H,Pv xs.length σ H->n σ H):
  ∃W:Nat->Nat->ν,(∃m,W 0 m σ H)/\∀i m σ H,W i m σ H->
   ((Itl K a).stop i H/\n σ H)\/((Itl K a).go i H/\∃N:ν,(∀ σ' H',N σ' H'->∃m',m'<m/\W (i+1) m' σ' H')/\∀x H',(Itl K a).yld i H x H'->g x σ H' λσ2 H2=>tb ⟨N,r,n,N⟩ σ2 H2):=
 Zp3 (D:=⟨n,r,λ_ _=>False,λ_ _=>False⟩) Pv h0 hl hs hd
theorem forR{lo:Int}{k:Nat}(Pv:Nat->ν)(h0:Pv 0 σ H)
  (hs:∀i σ H,i<k->Pv i σ H->g (.int (lo+i)) σ H λσ2 H2=>tb ⟨Pv (i+1),r,n,Pv (i+1)⟩ σ2 H2) (hd:∀ σ H,Pv k σ H->n σ H):
  ∃W:Nat->Nat->ν,(∃m,W 0 m σ H)/\∀i m σ H,W i m σ H->
   ((Itr lo k).stop i H/\n σ H)\/((Itr lo k).go i H/\∃N:ν,(∀ σ' H',N σ' H'->∃m',m'<m/\W (i+1) m' σ' H')/\∀x H',(Itr lo k).yld i H x H'->g x σ H' λσ2 H2=>tb ⟨N,r,n,N⟩ σ2 H2):=
 Zl2 (D:=⟨n,r,λ_ _=>False,λ_ _=>False⟩) Pv h0 hs hd
end
theorem aU{n:Nat}(h:n<=1000000):n<=sizeLine:=Nat.le_trans h ε
def Zmh:R2:=λx y H Q=>∃i j,x=.str i/\y=.str j/\i.length+j.length<=sizeLine/\Q (.str (i++j)) H
theorem Zon{i j:Str}{H:Hp}{Q:VK}(hz:i.length+j.length<=sizeLine)(h:Q (.str (i++j)) H):Zmh (.str i) (.str j) H Q:=⟨i,j,rfl,rfl,hz,h⟩
theorem Zyr{z:Str}{i:Int}{c:Nat}{H:Hp}{Q:VK}(hz:z.length<=sizeLine)(hi:atI z.cps.toList i=some c)(h:Q (.str ⟨#[c]⟩) H):Zmf (.str z) (.int i) H Q:=⟨z,i,c,rfl,rfl,hz,hi,h⟩
theorem Zol{z:Str}{i:Int}{H:Hp}{Q:VK}(hz:z.length<=sizeLine)(h0:0<=i)(h1:i<z.length)(h:∀c:Nat,Q (.str ⟨#[c]⟩) H):Zmf (.str z) (.int i) H Q:=by
 have hk:i.toNat<z.cps.toList.length:=by rw[Array.length_toList];exact(Int.toNat_lt h0).mpr h1
 have ek:i=((i.toNat:Nat):Int):=δ
 have q:atI z.cps.toList ((i.toNat:Nat):Int)=some z.cps.toList[i.toNat]:=kW (bM hk);rw[<- ek]at q;exact Zyr hz q (h _)
theorem str_len(z:Str):z.cps.toList.length=z.length:=Array.length_toList
def pick(σ:St)(j:Nat):Option V:=match σ[j]? with
 | some v=>v
 | none=>none
def tLC(wi:TI)(caps:List Nat)(tc:TT)(te:TE):TE:=λσ H Q=>wi σ H λJ H1=>∃W:Nat->Nat->List V->Hp->Prop,(∃m,W 0 m [] H1)/\∀i m ys H,W i m ys H->
 (J.stop i H/\∀p,H p=none->Q (.ref p) (upd H p (.lst ys)))\/
 (J.go i H/\ys.length<sizeLine/\∀x H',J.yld i H x H'->tc (some x::caps.map (pick σ)) H' λk H2=>if k=true then te (some x::caps.map (pick σ)) H2 (λy H3=>∃m',m'<m/\W (i+1) m' (ys++[y]) H3)else ∃m',m'<m/\W (i+1) m' ys H2)
def Az:TT:=λ_ H Q=>Q true H
theorem Gp{σ:St}{H:Hp}{Q:Bool->Hp->Prop}(h:Q true H):Az σ H Q:=h
theorem Zsm{r r':R2}{ta tb tc:TE}{σ:St}{H:Hp}{Q:VK}(h:ta σ H λx H1=>tb σ H1 λy H2=>r x y H2 (kB λk H3=>if k=true then tc σ H3 (λw H4=>r' y w H4 Q)else Q (.bl false) H3)):Zep r r' ta tb tc σ H Q:=h
def Zjl(z:Str)(n:Int):Str:=⟨(List.replicate n.toNat z.cps.toList).flatten.toArray⟩
def Zia:R2:=λx y H Q=>∃z k,x=.str z/\y=.int k/\0<=k/\k<=1000/\z.length<=1000/\∀t:Str,t.length<=1000000->t=Zjl z k->Q (.str t) H
theorem Zog{z:Str}{k:Int}{H:Hp}{Q:VK}(h0:0<=k)(h1:k<=1000)(h2:z.length<=1000)(h:∀t:Str,t.length<=1000000->t=Zjl z k->Q (.str t) H):Zia (.str z) (.int k) H Q:=⟨z,k,rfl,rfl,h0,h1,h2,h⟩
def Zzg:List V->Hp->VK->Prop:=λxs H Q=>∃i j,xs=[.int i,.int j]/\Q (.int (if j > i then j else i)) H
theorem Zyp{i j:Int}{H:Hp}{Q:VK}(h:Q (.int (if j > i then j else i)) H):Zzg [.int i,.int j] H Q:=⟨i,j,rfl,h⟩
structure EqD(K:aC)(C:AH):Prop where
 eq:W.findIn K (.ref C) "__eq__"=some (some (.builtin "object.__eq__"))
 ob:W.mroIn K C (.type "object")=some true
def JL(C:AH)(E:XK)(ta:TA):TS:=λ_ σ H=>ta σ H λvs H1=>vs.length<=100/\E (.ref C) none H1
def Zeq(sp:Sp)(vV:List V)(E:St->XK)(t:TA):TE:=λσ H Q=>t σ H λvs H1=>sp (vs++vV) H1 Q (E σ)
def Zuj(Mt:AI->Prop)(tb:(St->XK)->TS)(th:TS):TS:=λD σ H=>tb (λσ' cls _ H'=>Mt cls/\th D σ' H') D σ H
section
variable {σ:St}{H:Hp}{Q:VK}{n:ν}{r:VK}{b c:ν}{te:TE}{t:TA}
theorem Zsb{C:AH}{E:XK}(h:t σ H λvs H1=>vs.length<=100/\E (.ref C) none H1):JL C E t ⟨n,r,b,c⟩ σ H:=h
theorem Zsn{sp:Sp}{vV:List V}{E:St->XK}(h:t σ H λvs H1=>sp (vs++vV) H1 Q (E σ)):Zeq sp vV E t σ H Q:=h
theorem Zyg{Mt:AI->Prop}{tb:(St->XK)->TS}{th:TS}(h:tb (λσ' cls _ H'=>Mt cls/\th ⟨n,r,b,c⟩ σ' H') ⟨n,r,b,c⟩ σ H):Zuj Mt tb th ⟨n,r,b,c⟩ σ H:=h
end
theorem Zw9{to ti:TE}{ts:Zlm}{x:V}{σ:St}{H:Hp}{Q:ν}(h:to σ H λo H1=>ti σ H1 λi H2=>ts o i x H2 λH3=>Q σ H3):Ov to ti ts x σ H Q:=h
def Gs(K:aC):List V->Hp->VK->Prop:=λxs H Q=>∃(p:AH) (ys:List V),xs=[.ref p]/\cC K H p ys/\∀l,H l=none->Q (.ref l) (upd H l (.lst ys))
theorem Jh{K:aC}{H:Hp}{Q:VK}{p:AH}{ys:List V}(h1:cC K H p ys)(h:∀l,H l=none->Q (.ref l) (upd H l (.lst ys))):Gs K [.ref p] H Q:=⟨p,ys,rfl,h1,h⟩
def OkN(K:aC)(H:Hp)(xs:List V):Prop:=∀y∈xs,y=.non\/∃a C dx fs,y=.ref a/\H a=some (.ins C dx fs)/\Fl K C/\EqD K C
def Zuv(K:aC)(neg:Bool):R2:=λx y H Q=>∃p xs,x=.non/\y=.ref p/\cC K H p xs/\OkN K H xs/\Q (.bl (if neg then !decide (V.non∈xs)else decide (V.non∈xs))) H
theorem Zoh{K:aC}{H:Hp}{Q:VK}{p:AH}{xs:List V}(h1:cC K H p xs)(h2:OkN K H xs)(h:Q (.bl (!decide (V.non∈xs))) H):Zuv K true .non (.ref p) H Q:=⟨p,xs,rfl,rfl,h1,h2,h⟩
def Zib(K:aC):V->List V->Hp->VK->Prop:=λx vs H Q=>∃p xs,x=.ref p/\vs=[.non]/\cC K H p xs/\OkN K H xs/\V.non∈xs/\Q (.int (xs.idxOf V.non)) H
def eqL(xs ys:List V):Bool:=xs.length == ys.length && (xs.zip ys).all λp=>eqV p.1 p.2
def HF(K:aC)(neg:Bool):R2:=λx y H Q=>∃p q xs ys,x=.ref p/\y=.ref q/\cC K H p xs/\cC K H q ys/\(xs.length=ys.length->xs.all qN=true/\ys.all qN=true)/\Q (.bl (if neg then !eqL xs ys else eqL xs ys)) H
theorem rW(ns:AD):(ns.map V.int).all qN=true:=by
 rw[List.all_eq_true];intro x hx;obtain⟨i,_,rfl⟩:=List.mem_map.mp hx;rfl
theorem Zdl(ns:AD):∀ms:AD,eqL (ns.map V.int) (ms.map V.int)=decide (ns=ms):=by
 induction ns with
 | nil=>
  intro ms;cases ms with
  | nil=>rfl
  | cons m ms=>rfl
 | cons n ns ih=>
  intro ms;cases ms with
  | nil=>rfl
  | cons m ms=>
   have:=ih ms;unfold eqL at this ⊢;rw[List.map_cons,List.map_cons,List.zip_cons_cons,List.all_cons,List.length_cons,List.length_cons];have e1:eqV (V.int n) (V.int m)=(n == m):=rfl;have e2:((ns.map V.int).length+1 == (ms.map V.int).length+1)=((ns.map V.int).length == (ms.map V.int).length):=by
    rw[Bool.eq_iff_iff,beq_iff_eq,beq_iff_eq];omega
   dsimp only;rw[e1,e2];rw[Bool.eq_iff_iff]at this ⊢;simp only[Bool.and_eq_true,beq_iff_eq,decide_eq_true_eq]at this ⊢;constructor
   ·rintro⟨a,b,c⟩;rw[b,this.mp ⟨a,c⟩]
   ·intro e
    injection e with e1 e2
    obtain⟨a,c⟩:=this.mpr e2;exact⟨a,e1,c⟩
theorem Zgx{K:aC}{H:Hp}{Q:VK}{p q:AH}{ns ms:AD}(h1:cC K H p (ns.map V.int))(h2:cC K H q (ms.map V.int))(h:Q (.bl (decide (ns=ms))) H):HF K false (.ref p) (.ref q) H Q:=by
 refine⟨p,q,_,_,rfl,rfl,h1,h2,λ_=>⟨rW _,rW _⟩,?_⟩;rw[Zdl];exact h
theorem Zwb{K:aC}{H:Hp}{Q:VK}{p q:AH}{xs:List V}(h1:cC K H p xs)(h2:cC K H q [])(h:Q (.bl (decide (xs=[]))) H):HF K false (.ref p) (.ref q) H Q:=by
 refine⟨p,q,_,_,rfl,rfl,h1,h2,λe=>?_,?_⟩
 ·have:xs=[]:=List.length_eq_zero_iff.mp e;subst this;exact⟨rfl,rfl⟩
 ·have e:eqL xs []=decide (xs=[]):=by cases xs<;>rfl
  show Q (.bl (eqL xs [])) H;rw[e];exact h
def Fm(S:AE)(H H':Hp):Prop:=∀b o,H b=some o->b∉S->H' b=some o
theorem Fm.same{H H':Hp}(a:Fm [] H H'):bz H H':=λc o h=>a c o h (λz=>nomatch z)
def fz(S:AE)(H:Hp):Hp:=λb=>if b∈S then none else H b
theorem Zgt{x:V}{H:Hp}{Q:VK}(h:Q (.bl (!decide (x=.non))) H):HD x .non H Q:=⟨rfl,h⟩
def LCg(J:It)(caps:List Nat)(tc:TT)(te:TE)(σ:St)(H:Hp)(Q:VK):Prop:=∃W:Nat->Nat->List V->Hp->Prop,(∃m,W 0 m [] H)/\∀i m ys H,W i m ys H->
 (J.stop i H/\∀p,H p=none->Q (.ref p) (upd H p (.lst ys)))\/
 (J.go i H/\ys.length<sizeLine/\∀x H',J.yld i H x H'->tc (some x::caps.map (pick σ)) H' λk H2=>if k=true then te (some x::caps.map (pick σ)) H2 (λy H3=>∃m',m'<m/\W (i+1) m' (ys++[y]) H3)else ∃m',m'<m/\W (i+1) m' ys H2)
theorem W2{wi:TI}{caps:List Nat}{tc:TT}{te:TE}{σ:St}{H:Hp}{Q:VK}(h:wi σ H λJ H1=>LCg J caps tc te σ H1 Q):tLC wi caps tc te σ H Q:=h
theorem Zo4{J:It}{caps:List Nat}{tc:TT}{te:TE}{σ:St}{H:Hp}{Q:VK}(k:Nat)(hz:k<=1000000)(g:Nat->Option V)
  (hstop:J.stop k H) (hgo:∀i,i<k->J.go i H) (hy:∀i x H',i<k->J.yld i H x H'->H'=H/\(∀q:Bool->Hp->Prop,q (g i).isSome H->tc (some x::caps.map (pick σ)) H q)/\∀(y:V) (q:VK),g i=some y->q y H->te (some x::caps.map (pick σ)) H q)
  (q:∀p,H p=none->Q (.ref p) (upd H p (.lst ((List.range k).filterMap g)))):
  LCg J caps tc te σ H Q:=by
 refine⟨λi m ys H'=>H'=H/\i<=k/\m=k - i/\ys=(List.range i).filterMap g,⟨k,rfl,Nat.zero_le _,rfl,rfl⟩,?_⟩;rintro i m ys _ ⟨rfl,hi,rfl,rfl⟩
 by_cases hk:i=k
 ·subst hk;exact .inl ⟨hstop,q⟩
 ·have hlt:i<k:=δ
  refine .inr ⟨hgo i hlt,?_,λx H' y=>?_⟩
  ·refine Nat.lt_of_le_of_lt (Nat.le_trans (List.length_filterMap_le _ _) ?_) (show 1000000<sizeLine by decide);rw[List.length_range];omega
  ·obtain⟨rfl,h1,h2⟩:=hy i x H' hlt y;refine h1 _ ?_;have er:List.filterMap g (List.range (i+1))=List.filterMap g (List.range i)++(match g i with | some y=>[y] | none=>[]):=by
    rw[List.range_succ,List.filterMap_append];cases e:g i with
    | none=>rw[List.filterMap_cons_none e];rfl
    | some y=>rw[List.filterMap_cons_some e];rfl
   cases e:g i with
   | none=>
    rw[e]at er;dsimp only[Option.isSome];refine Zsa ⟨k - (i+1),δ,rfl,δ,rfl,?_⟩;rw[er,List.append_nil]
   | some y=>
    rw[e]at er;dsimp only[Option.isSome];refine Zgo (h2 y _ e ⟨k - (i+1),δ,rfl,δ,rfl,?_⟩);rw[er]
theorem Za1(l:List Nat)(p:Nat->Bool)(f:Nat->V):l.filterMap (λi=>if p i=true then some (f i)else none)=(l.filter p).map f:=by
 induction l with
 | nil=>rfl
 | cons a l ih=>
  by_cases h:p a=true
  ·rw[List.filterMap_cons_some (by rw[if_pos h]),List.filter_cons_of_pos h,List.map_cons,ih]
  ·rw[List.filterMap_cons_none (by rw[if_neg h]),List.filter_cons_of_neg h,ih]
theorem Zo5{caps:List Nat}{tc:TT}{te:TE}{σ:St}{H:Hp}{Q:VK}{n:Nat}{z:Int}(ez:z.toNat=n)(p:Nat->Bool)(f:Nat->V)(hz:n<=1000000)
  (htc:∀i,i<n->∀q:Bool->Hp->Prop,q (p i) H->tc (some (.int i)::caps.map (pick σ)) H q)
  (hte:∀i,i<n->p i=true->∀q:VK,q (f i) H->te (some (.int i)::caps.map (pick σ)) H q)
  (q:∀l,H l=none->Q (.ref l) (upd H l (.lst (((List.range n).filter p).map f)))):
  LCg (Itr 0 z.toNat) caps tc te σ H Q:=by
 subst ez;refine Zo4 z.toNat hz (λi=>if p i=true then some (f i)else none) Δ (λi hi=>hi) (λi x H' hi y=>?_) ?_
 ·obtain⟨e1,e2⟩:=y;have ex:x=.int i:=by rw[e2];simp
  refine⟨e1,λq hq=>?_,λy q hy hq=>?_⟩
  ·rw[ex];refine htc i hi q ?_;cases e:p i with
   | true=>rw[e]at hq;exact hq
   | false=>rw[e]at hq;exact hq
  ·rw[ex];cases e:p i with
   | true=>
    rw[e]at hy;have ey:f i=y:=by simpa using hy
    exact hte i hi e q (by rw[ey];exact hq)
   | false=>rw[e]at hy;simp at hy
 ·rw[Za1];exact q
theorem Zu{K:aC}{a:AH}{xs:List V}{caps:List Nat}{tc:TT}{te:TE}{σ:St}{H:Hp}{Q:VK}(hs:cC K H a xs)(g:Nat->Option V)(hz:xs.length<=1000000)
  (hy:∀i x,xs[i]? =some x->(∀q:Bool->Hp->Prop,q (g i).isSome H->tc (some x::caps.map (pick σ)) H q)/\∀(y:V) (q:VK),g i=some y->q y H->te (some x::caps.map (pick σ)) H q)
  (q:∀p,H p=none->Q (.ref p) (upd H p (.lst ((List.range xs.length).filterMap g)))):
  LCg (Itl K a) caps tc te σ H Q:=by
 refine Zo4 xs.length hz g ⟨xs,hs,Nat.le_refl _⟩ (λi hi=>⟨xs,xs[i],hs,bM hi⟩) (λi x H' hi y=>?_) q;obtain⟨e1,e2⟩:=y;exact⟨e1,hy i x (e2 xs hs)⟩
theorem uB{n i:Nat}(h:i<n):ixN n (i:Int)=some i:=by
 unfold ixN;rw[if_pos δ,if_pos δ];simp
theorem Zs9{n:Nat}{i:Int}(h0:0<=i)(h:i.toNat<n):ixN n i=some i.toNat:=by
 have e:i=((i.toNat:Nat):Int):=δ
 have:=uB h;rw[<- e]at this;exact this
theorem uC{α:Type}{xs:List α}{i:Int}{v:α}(h0:0<=i)(h:xs[i.toNat]? =some v):atI xs i=some v:=by
 have e:i=((i.toNat:Nat):Int):=δ
 have:=kW h;rw[<- e]at this;exact this
inductive Al{α β:Type}(P:α->β->Prop):List α->List β->Prop
 | nil:Al P [] []
 | cons {x:α}{y:β}{xs:List α}{ys:List β}:P x y->Al P xs ys->Al P (x::xs) (y::ys)
section
variable {α β:Type}{P P':α->β->Prop}{xs:List α}{ys:List β}
theorem Al.length(h:Al P xs ys):xs.length=ys.length:=by
 induction h with
 | nil=>rfl
 | cons _ _ ih=>rw[List.length_cons,List.length_cons,ih]
theorem Al.mono(h:Al P xs ys)(f:∀x y,P x y->P' x y):Al P' xs ys:=by
 induction h with
 | nil=>exact .nil
 | cons p _ ih=>exact .cons (f _ _ p) ih
theorem Al.get(h:Al P xs ys):∀{i:Nat}{y:β},ys[i]? =some y->∃x,xs[i]? =some x/\P x y:=by
 induction h with
 | nil=>intro i y e;simp at e
 | cons p _ ih=>
  intro i y e;cases i with
  | zero=>simp at e;subst e;exact⟨_,rfl,p⟩
  | succ i=>
   obtain⟨x,e1,e2⟩:=ih (i:=i) (y:=y) (by simpa using e);exact⟨x,by simpa using e1,e2⟩
end
abbrev Tg:=AH->Nat×Nat
def WT(H:Hp)(T:Tg):Prop:=∀b,H b=none->T b=(0,0)
structure d7(s:Nat)(H H':Hp)(T T':Tg):Prop where
 kp:∀b o,H b=some o->(T b).1≠s->H' b=some o
 al:∀b o,H b=some o->∃o',H' b=some o'
 tg:∀b o,H b=some o->T' b=T b
 wt:WT H' T'
def dz(T:Tg)(a:AH)(v:Nat×Nat):Tg:=λx=>if x=a then v else T x
theorem gU{T:Tg}{a:AH}{v:Nat×Nat}:dz T a v a=v:=by unfold dz;rw[if_pos rfl]
theorem fc{T:Tg}{a b:AH}{v:Nat×Nat}(h:b≠a):dz T a v b=T b:=by unfold dz;rw[if_neg h]
theorem WT.same{H H':Hp}{T:Tg}(w:WT H T)(s:bz H H'):WT H' T:=λb h=>w b (s.free h)
theorem d7.refl{s:Nat}{H:Hp}{T:Tg}(w:WT H T):d7 s H H T T:=⟨λ_ _ h _=>h,λ_ o h=>⟨o,h⟩,λ_ _ _=>rfl,w⟩
theorem d7.same{s:Nat}{H H':Hp}{T:Tg}(w:WT H T)(e:bz H H'):d7 s H H' T T:=⟨λb o h _=>e b o h,λb o h=>⟨o,e b o h⟩,λ_ _ _=>rfl,w.same e⟩
theorem d7.trans{s:Nat}{H H1 H2:Hp}{T T1 T2:Tg}(a:d7 s H H1 T T1)(b:d7 s H1 H2 T1 T2):d7 s H H2 T T2 where
 kp:=λx o h n=>b.kp x o (a.kp x o h n) (by rw[a.tg x o h];exact n)
 al:=λx o h=>by
  obtain⟨o1,h1⟩:=a.al x o h;exact b.al x o1 h1
 tg:=λx o h=>by
  obtain⟨o1,h1⟩:=a.al x o h;rw[b.tg x o1 h1,a.tg x o h]
 wt:=b.wt
theorem d7.upd{s:Nat}{H:Hp}{T:Tg}{a:AH}{o o':HO}(w:WT H T)(ha:H a=some o)(ht:(T a).1=s):d7 s H (L2.upd H a o') T T where
 kp:=λx u h n=>by
  have:x≠a:=λe=>n (by rw[e];exact ht);rw[aB this];exact h
 al:=λx u h=>by
  by_cases e:x=a
  ·exact⟨o',by rw[e,aq]⟩
  ·exact⟨u,by rw[aB e];exact h⟩
 tg:=λ_ _ _=>rfl
 wt:=λb h=>w b (by
  by_cases e:b=a
  ·rw[e,aq]at h;cases h
  ·rw[aB e]at h;exact h)
theorem Ag{T:Tg}{a b:AH}{x y:Nat×Nat}(ha:T a=x)(hb:T b=y)(h:x≠y):a≠b:=λe=>h (by rw[<- ha,<- hb,e])
theorem Zo7{J:It}{caps:List Nat}{tc:TT}{te:TE}{σ:St}{H:Hp}{Q:VK}(k:Nat)(hz:k<=1000000)(R:Nat->V->Hp->Prop)(mono:∀i y H1 H2,R i y H1->bz H1 H2->R i y H2)
  (hstop:∀H',bz H H'->J.stop k H') (hgo:∀i H',i<k->bz H H'->J.go i H')
  (hy:∀i x H1 H',i<k->bz H H1->J.yld i H1 x H'->H'=H1/\(∀q:Bool->Hp->Prop,q true H1->tc (some x::caps.map (pick σ)) H1 q)/\∀q:VK,(∀y H2,bz H1 H2->R i y H2->q y H2)->te (some x::caps.map (pick σ)) H1 q)
  (q:∀ys H',bz H H'->ys.length=k->(∀(i:Nat) y,ys[i]? =some y->R i y H')->∀p,H' p=none->Q (.ref p) (upd H' p (.lst ys))):
  LCg J caps tc te σ H Q:=by
 refine⟨λi m ys H'=>bz H H'/\i<=k/\m=k - i/\ys.length=i/\∀(j:Nat) y,ys[j]? =some y->R j y H',⟨k,bz.refl _,Nat.zero_le _,rfl,rfl,λj y e=>by simp at e⟩,?_⟩;rintro i m ys H1 ⟨s1,hi,rfl,hl,hr⟩
 by_cases hk:i=k
 ·subst hk;exact .inl ⟨hstop H1 s1,q ys H1 s1 hl hr⟩
 ·have hlt:i<k:=δ
  refine .inr ⟨hgo i H1 hlt s1,Nat.lt_of_le_of_lt (show ys.length<=1000000 by omega) (show 1000000<sizeLine by decide),λx H' y=>?_⟩;obtain⟨rfl,h1,h2⟩:=hy i x H1 H' hlt s1 y;refine h1 _ (Zgo (h2 _ λy H2 s2 r=>⟨k - (i+1),δ,s1.trans s2,δ,rfl,by rw[List.length_append,hl];rfl,λj z e=>?_⟩))
  by_cases hj:j<ys.length
  ·rw[List.getElem?_append_left hj]at e;exact mono j z _ _ (hr j z e) s2
  ·have hj':=(fH e).1;rw[List.length_append,List.length_singleton]at hj';have ej:j=ys.length:=δ
   subst ej;rw[List.getElem?_append_right Δ,Nat.sub_self]at e;cases e;rw[hl];exact r
theorem Zs0{caps:List Nat}{tc:TT}{te:TE}{σ:St}{H:Hp}{Q:VK}{n:Nat}{z:Int}(ez:z.toNat=n)(hz:n<=1000000)(R:Nat->V->Hp->Prop)(mono:∀i y H1 H2,R i y H1->bz H1 H2->R i y H2)
  (htc:∀i H1,∀q:Bool->Hp->Prop,q true H1->tc (some (.int i)::caps.map (pick σ)) H1 q)
  (hte:∀(i:Nat) H1,i<n->bz H H1->∀q:VK,(∀y H2,bz H1 H2->R i y H2->q y H2)->te (some (.int i)::caps.map (pick σ)) H1 q)
  (q:∀ys H',bz H H'->ys.length=n->(∀(i:Nat) y,ys[i]? =some y->R i y H')->∀p,H' p=none->Q (.ref p) (upd H' p (.lst ys))):LCg (Itr 0 z.toNat) caps tc te σ H Q:=by
 subst ez;refine Zo7 z.toNat hz R mono (λ_ _=>Nat.le_refl _) (λi _ hi _=>hi) (λi x H1 H' hi s1 y=>?_) q;obtain⟨e1,e2⟩:=y;have ex:x=.int i:=by rw[e2];simp
 subst ex;exact⟨e1,htc i H1,λq hq=>hte i H1 hi s1 q hq⟩
theorem Zs1{J:It}{caps:List Nat}{tc:TT}{te:TE}{σ:St}{H:Hp}{Q:VK}(k:Nat)(hz:k<=1000000)(R:Nat->AH->Hp->Prop)(mono:∀i y H1 H2,R i y H1->bz H1 H2->R i y H2)(al:∀i y H1,R i y H1->∃o,H1 y=some o)
  (hstop:∀H',bz H H'->J.stop k H') (hgo:∀i H',i<k->bz H H'->J.go i H')
  (hy:∀i x H1 H',i<k->bz H H1->J.yld i H1 x H'->H'=H1/\(∀q:Bool->Hp->Prop,q true H1->tc (some x::caps.map (pick σ)) H1 q)/\∀q:VK,(∀r H2,bz H1 H2->H1 r=none->R i r H2->q (.ref r) H2)->te (some x::caps.map (pick σ)) H1 q)
  (q:∀(rs:AE) H',bz H H'->rs.length=k->rs.Nodup->(∀r∈rs,H r=none)->(∀(i:Nat) r,rs[i]? =some r->R i r H')->∀p,H' p=none->Q (.ref p) (upd H' p (.lst (rs.map V.ref)))):
  LCg J caps tc te σ H Q:=by
 refine⟨λi m ys H'=>∃rs:AE,ys=rs.map V.ref/\bz H H'/\i<=k/\m=k - i/\rs.length=i/\rs.Nodup/\(∀r∈rs,H r=none)/\∀(j:Nat) r,rs[j]? =some r->R j r H',⟨k,[],rfl,bz.refl _,Nat.zero_le _,rfl,rfl,List.nodup_nil,λr hr=>(nomatch hr),λj y e=>by simp at e⟩,?_⟩;rintro i m _ H1 ⟨rs,rfl,s1,hi,rfl,hl,nd,nn,hr⟩
 by_cases hk:i=k
 ·subst hk;exact .inl ⟨hstop H1 s1,q rs H1 s1 hl nd nn hr⟩
 ·have hlt:i<k:=δ
  refine .inr ⟨hgo i H1 hlt s1,Nat.lt_of_le_of_lt (show(rs.map V.ref).length<=1000000 by rw[bx];omega) (show 1000000<sizeLine by decide),λx H' y=>?_⟩;obtain⟨rfl,h1,h2⟩:=hy i x H1 H' hlt s1 y;refine h1 _ (Zgo (h2 _ λr H2 s2 nr rr=>⟨k - (i+1),δ,rs++[r],by rw[List.map_append];rfl,s1.trans s2,δ,rfl,by rw[List.length_append,hl];rfl,?_,λz hz=>?_,λj z e=>?_⟩))
  ·rw[List.nodup_append];refine⟨nd,ζ,λa ha b hb e=>?_⟩;rw[List.mem_singleton.mp hb]at e;subst e;obtain⟨j,hj,ej⟩:=List.getElem_of_mem ha;obtain⟨o,ho⟩:=al j a _ (hr j a (by rw[bM hj,ej]));rw[nr]at ho;cases ho
  ·rcases List.mem_append.mp hz with hz | hz
   ·exact nn z hz
   ·rw[List.mem_singleton.mp hz];exact s1.free nr
  ·by_cases hj:j<rs.length
   ·rw[List.getElem?_append_left hj]at e;exact mono j z _ _ (hr j z e) s2
   ·have hj':=(fH e).1;rw[List.length_append,List.length_singleton]at hj';have ej:j=rs.length:=δ
    subst ej;rw[List.getElem?_append_right Δ,Nat.sub_self]at e;cases e;rw[hl];exact rr
theorem Zo6{K:aC}{a:AH}{xs:List V}{caps:List Nat}{tc:TT}{te:TE}{σ:St}{H:Hp}{Q:VK}(hs:cC K H a xs)(hz:xs.length<=1000000)(R:Nat->AH->Hp->Prop)(mono:∀i y H1 H2,R i y H1->bz H1 H2->R i y H2)(al:∀i y H1,R i y H1->∃o,H1 y=some o)
  (htc:∀x H1,∀q:Bool->Hp->Prop,q true H1->tc (some x::caps.map (pick σ)) H1 q)
  (hte:∀(i:Nat) x H1,xs[i]? =some x->bz H H1->∀q:VK,(∀r H2,bz H1 H2->H1 r=none->R i r H2->q (.ref r) H2)->te (some x::caps.map (pick σ)) H1 q)
  (q:∀(rs:AE) H',bz H H'->rs.length=xs.length->rs.Nodup->(∀r∈rs,H r=none)->(∀(i:Nat) r,rs[i]? =some r->R i r H')->∀p,H' p=none->Q (.ref p) (upd H' p (.lst (rs.map V.ref)))):LCg (Itl K a) caps tc te σ H Q:=by
 refine Zs1 xs.length hz R mono al (λH' s=>⟨xs,s.seq hs,Nat.le_refl _⟩) (λi H' hi s=>⟨xs,xs[i],s.seq hs,bM hi⟩) (λi x H1 H' hi s1 y=>?_) q;obtain⟨e1,e2⟩:=y;exact⟨e1,htc x H1,λq hq=>hte i x H1 (e2 xs (s1.seq hs)) s1 q hq⟩
end G
namespace G
open PySem L2 PySem.Spec PyProof.Rows
theorem boot_isinstance:bootBuiltins "isinstance"=some (.builtin "isinstance"):=γ
theorem boot_len:bootBuiltins "len"=some (.builtin "len"):=γ
theorem boot_max:bootBuiltins "max"=some (.builtin "max"):=γ
theorem boot_int:bootBuiltins "int"=some (.type "int"):=γ
theorem boot_str:bootBuiltins "str"=some (.type "str"):=γ
theorem boot_bool:bootBuiltins "bool"=some (.type "bool"):=γ
theorem boot_list:bootBuiltins "list"=some (.type "list"):=γ
theorem boot_tuple:bootBuiltins "tuple"=some (.type "tuple"):=γ
structure Zxf(K:aC)(x qual:Str)(st:Stmt)(f:AH)(fd:AK):Prop where
 ex:∃(oc:AI) (od:Option AH) (dV kV doc pm:AI) (an:Option AH) (cdv ct:AI) (osl:Array AB),
  fd=W.fnOf x qual (nP st) (kO st) (aG st) dV kV doc pm an cdv ct/\K.lookup f=some ⟨oc,od,.func fd,osl⟩/\W.codeIn K cdv qual=true
 kp:W.keepIn K (.ref f)=true
section
variable {P:AL}{w:AN}{K:aC}{mg:As}{base:Heap}
theorem Zsy{x qual:Str}{st:Stmt}{f:AH}{oc dV:AI}{od an:Option AH}{osl:Array AB}{kV doc pm cdv ct:AI}(l:K.lookup f=some ⟨oc,od,.func (W.fnOf x qual (nP st) (kO st) (aG st) dV kV doc pm an cdv ct),osl⟩)
  (c:W.codeIn K cdv qual=true) (k:W.keepIn K (.ref f)=true):Zxf K x qual st f (W.fnOf x qual (nP st) (kO st) (aG st) dV kV doc pm an cdv ct):=⟨⟨oc,od,dV,kV,doc,pm,an,cdv,ct,osl,rfl,l,c⟩,k⟩
theorem Zhu{f td:AH}{oc tc:AI}{od to_:Option AH}{osl ts:Array AB}{fd:AK}{items:Array AI}{tn:Nat}{ps:AG}{ds:AC}(_:K.lookup f=some ⟨oc,od,.func fd,osl⟩)(t:K.lookup td=some ⟨tc,to_,.seq items tn,ts⟩)
  (h:∀us:AC,us.length+ds.length=ps.length->∃k,bindArgs fd ⟨us,[]⟩=seqItems? (.ref td) >>= k/\k (some items)=pure (ps.zip (us++ds))) (hd:fd.defaults=.ref td:=by rfl):Binds K fd ps ds:=by
 intro s us KX hl;obtain⟨k,h1,h2⟩:=h us (by rw[List.length_append]at hl;exact hl);exact BindsTo.of_defaults hd (KX _ _ t) rfl (by rw[h1,hd]) h2
end
section
variable {X:Cx}
theorem wB:yM X (compareOp .Is) Oj:=Zv2
theorem HR:yM X (compareOp .IsNot) HD:=Zrh
theorem cz:JK X (.builtin "len") (iC X.K):=Zai
def kk(t n:String):Option Bool:=if (Value.type t == Value.type n)=true then some true else if W.kitMeta n=true then(fastBuiltinMro t).map (·.contains (.type n))else none
theorem Zvo(K:aC)(t n:String):W.kitOne K (.type t) (.type n)=kk t n:=rfl
theorem Zgm:kk "int" "int"=some true:=γ
theorem Zd0:kk "int" "bool"=some false:=γ
theorem Zgl:kk "int" "str"=some false:=γ
theorem Zcy:kk "int" "list"=some false:=γ
theorem ZD:kk "int" "tuple"=some false:=γ
theorem Zcz:kk "int" "dict"=some false:=γ
theorem Zd4:kk "bool" "int"=some true:=γ
theorem ZM:kk "bool" "bool"=some true:=γ
theorem Zd3:kk "bool" "str"=some false:=γ
theorem ZK:kk "bool" "list"=some false:=γ
theorem U5:kk "bool" "tuple"=some false:=γ
theorem ZL:kk "bool" "dict"=some false:=γ
theorem Zgk:kk "str" "int"=some false:=γ
theorem Zcv:kk "str" "bool"=some false:=γ
theorem Zgj:kk "str" "str"=some true:=γ
theorem Zct:kk "str" "list"=some false:=γ
theorem Zx:kk "str" "tuple"=some false:=γ
theorem Zcu:kk "str" "dict"=some false:=γ
theorem Ot:kk "NoneType" "int"=some false:=γ
theorem Le:kk "NoneType" "bool"=some false:=γ
theorem Oq:kk "NoneType" "str"=some false:=γ
theorem Lb:kk "NoneType" "list"=some false:=γ
theorem IV:kk "NoneType" "tuple"=some false:=γ
theorem Ld:kk "NoneType" "dict"=some false:=γ
theorem Zcx:kk "list" "int"=some false:=γ
theorem ZC:kk "list" "bool"=some false:=γ
theorem Zcw:kk "list" "str"=some false:=γ
theorem Zy:kk "list" "list"=some true:=γ
theorem U3:kk "list" "tuple"=some false:=γ
theorem Zz:kk "list" "dict"=some false:=γ
theorem Zw:kk "tuple" "int"=some false:=γ
theorem U0:kk "tuple" "bool"=some false:=γ
theorem Zv:kk "tuple" "str"=some false:=γ
theorem UT:kk "tuple" "list"=some false:=γ
theorem Rz:kk "tuple" "tuple"=some true:=γ
theorem UW:kk "tuple" "dict"=some false:=γ
theorem Zd2:kk "dict" "int"=some false:=γ
theorem ZJ:kk "dict" "bool"=some false:=γ
theorem Zd1:kk "dict" "str"=some false:=γ
theorem ZF:kk "dict" "list"=some false:=γ
theorem U4:kk "dict" "tuple"=some false:=γ
theorem ZG:kk "dict" "dict"=some true:=γ
theorem Zua{H:Hp}{x:V}{t:String}(e:tyN H x=some t):t="int"\/t="bool"\/t="str"\/t="NoneType"\/t="list"\/t="tuple"\/t="dict":=by
 unfold tyN at e;split at e<;>(first | (cases e;simp) | (split at e<;>(first | (cases e;simp) | cases e)) | cases e)
theorem Zvv{t n:String}{k:Bool}(e:vU t n=some k):n="int"\/n="bool"\/n="str"\/n="list"\/n="tuple"\/n="dict":=by
 unfold vU at e
 by_cases h:(["int","bool","str","list","tuple","dict"].contains n)=true
 ·simpa using h
 ·rw[if_neg h]at e;cases e
theorem Zya{H:Hp}{x:V}{t n:String}{k:Bool}(ht:tyN H x=some t)(e:vU t n=some k):kk t n=some k:=by
 rcases Zua ht with rfl | rfl | rfl | rfl | rfl | rfl | rfl<;>rcases Zvv e with rfl | rfl | rfl | rfl | rfl | rfl
 ·rw[Nx]at e;rw[Zgm];exact e
 ·rw[Jb]at e;rw[Zd0];exact e
 ·rw[Zd8]at e;rw[Zgl];exact e
 ·rw[ZX]at e;rw[Zcy];exact e
 ·rw[Vc]at e;rw[ZD];exact e
 ·rw[ZZ]at e;rw[Zcz];exact e
 ·rw[Z3]at e;rw[Zd4];exact e
 ·rw[Vi]at e;rw[ZM];exact e
 ·rw[Z2]at e;rw[Zd3];exact e
 ·rw[Vg]at e;rw[ZK];exact e
 ·rw[RP]at e;rw[U5];exact e
 ·rw[Vh]at e;rw[ZL];exact e
 ·rw[Zd7]at e;rw[Zgk];exact e
 ·rw[ZS]at e;rw[Zcv];exact e
 ·rw[Nv]at e;rw[Zgj];exact e
 ·rw[ZQ]at e;rw[Zct];exact e
 ·rw[U9]at e;rw[Zx];exact e
 ·rw[ZR]at e;rw[Zcu];exact e
 ·rw[Lq]at e;rw[Ot];exact e
 ·rw[Jf]at e;rw[Le];exact e
 ·rw[Lp]at e;rw[Oq];exact e
 ·rw[Jc]at e;rw[Lb];exact e
 ·rw[Gk]at e;rw[IV];exact e
 ·rw[Je]at e;rw[Ld];exact e
 ·rw[ZW]at e;rw[Zcx];exact e
 ·rw[Vb]at e;rw[ZC];exact e
 ·rw[ZV]at e;rw[Zcw];exact e
 ·rw[EY]at e;rw[Zy];exact e
 ·rw[RM]at e;rw[U3];exact e
 ·rw[Va]at e;rw[Zz];exact e
 ·rw[U8]at e;rw[Zw];exact e
 ·rw[RK]at e;rw[U0];exact e
 ·rw[U7]at e;rw[Zv];exact e
 ·rw[RG]at e;rw[UT];exact e
 ·rw[Bd]at e;rw[Rz];exact e
 ·rw[RJ]at e;rw[UW];exact e
 ·rw[Z1]at e;rw[Zd2];exact e
 ·rw[Vf]at e;rw[ZJ];exact e
 ·rw[Z0]at e;rw[Zd1];exact e
 ·rw[Vd]at e;rw[ZF];exact e
 ·rw[RN]at e;rw[U4];exact e
 ·rw[Ve]at e;rw[ZG];exact e
theorem tyOf{K:aC}{H:Hp}{x:V}{t:String}(e:tyN H x=some t):Mj K H x (.type t):=by
 cases x with
 | non=>cases e;exact .non
 | bl y=>cases e;exact .bl y
 | int y=>cases e;exact .int y
 | str y=>cases e;exact .str y
 | byt y=>cases e
 | flt y=>cases e
 | ty y=>cases e
 | ref a=>
  have e':(match H a with | some (.lst _)=>some "list" | some (.yU _ (.lst _))=>some "list" | some (.tup _)=>some "tuple" | some (.dK _)=>some "dict" | some (.dT _)=>some "dict" | _=>none)=some t:=e;split at e'
  ·rename_i h;cases e';exact .lst h
  ·rename_i h;cases e';exact .yU h
  ·rename_i h;cases e';exact .tup h
  ·rename_i h;cases e';exact .dK h
  ·rename_i h;cases e';exact .dT h
  ·cases e'
theorem Dp:JK X (.builtin "isinstance") SJ:=by
 intro pins s σ H xs us Q I r h;obtain⟨x,n,t,k,rfl,ht,hk,q⟩:=h;obtain⟨u,w',rfl,rx,rn⟩:=vals2 r;have rn':w'=Value.type n:=rn;subst rn';exact Zkg (t:=.type t) (b:=k) I rx (tyOf ht) ((Zvo _ _ _).trans (Zya ht hk)) λtk=>⟨.bl k,H,I.tok _,rfl,q⟩
end
section
variable {X:Cx}
def GC(mg:As)(x:Str)(v:V):Prop:=∃u,mg x=some u/\RelV v u
theorem GC.pe{x:Str}{v:V}{pos:Pos}(h:GC X.mg x v)(hg:Gl X x)(hd:(x == ("__debug__":Str))=false:=by decide):PE X (.Name x pos) (tC v):=by
 obtain⟨u,hm,r⟩:=h;exact Zre hg hm r hd
end
section
variable {X:Cx}
theorem Zrw(z:Str)(k:Int):Txt.mul z k=Zjl z k:=by
 unfold Txt.mul Zjl;have fl:∀(n:Nat) (acc:List Nat),List.foldl (λx1 x2=>x1++x2) acc.toArray (List.replicate n z.cps)=(acc++(List.replicate n z.cps.toList).flatten).toArray:=by
  intro n
  induction n with
  | zero=>intro acc;simp
  | succ n ih=>
   intro acc;rw[List.replicate_succ,List.replicate_succ,List.foldl_cons,List.flatten_cons];have e:acc.toArray++z.cps=(acc++z.cps.toList).toArray:=ζ
   rw[e,ih,List.append_assoc]
 split
 ·rename_i h
  have e:k.toNat=0:=δ
  rw[e];rfl
 ·rename_i h
  split
  ·rename_i h2
   rw[Bool.or_eq_true]at h2;rcases h2 with h2 | h2
   ·have e:k.toNat=1:=by have:=beq_iff_eq.mp h2;omega
    rw[e];simp
   ·have e:z.cps=#[]:=Array.eq_empty_of_size_eq_zero (beq_iff_eq.mp h2);obtain⟨zc⟩:=z;dsimp only at e;subst e;have:∀n:Nat,(List.replicate n ([]:List Nat)).flatten=[]:=λn=>by
     induction n with
     | zero=>rfl
     | succ n ih=>rw[List.replicate_succ,List.flatten_cons,ih];rfl
    simp[this]
  ·have:=fl k.toNat [];simp only[List.nil_append]at this;show(⟨List.foldl (λx1 x2=>x1++x2) #[] (List.replicate k.toNat z.cps)⟩:Str)=_;rw[this]
theorem QF(z:Str)(k:Int):(Zjl z k).length=k.toNat * z.length:=by
 show(List.toArray _).size=_;rw[List.size_toArray];have:∀n:Nat,(List.replicate n z.cps.toList).flatten.length=n * z.length:=λn=>by
  induction n with
  | zero=>simp
  | succ n ih=>rw[List.replicate_succ,List.flatten_cons,List.length_append,ih,str_len,Nat.succ_mul,Nat.add_comm]
 exact this _
theorem Zif:yM X (binaryOp .Mult) Zia:=by
 intro pins s σ H x y v u Q I rx ry h;obtain⟨z,k,rfl,rfl,h0,h1,h2,q⟩:=h;obtain⟨t,rfl⟩:=rx;obtain⟨t',rfl⟩:=ry;have hb:k.toNat * z.length<=1000000:=Nat.le_trans (Nat.mul_le_mul (show k.toNat<=1000 by omega) h2) ε;refine SB.mul ⟨?_,λh3 _=>?_,λh3 _=>?_⟩ λt'' kk=>?_
 ·simp;omega
 ·intro z1;have:(z.length:Int)<=1000:=δ
  have e:(1000:Int)<(2 ^ 63 - 1) / k:=by
   have hk:0<k:=δ
   rw[Int.lt_iff_add_one_le,Int.le_ediv_iff_mul_le hk];omega
  omega
 ·unfold Builtin.Str.tooLong;have:z.length * k.toNat<=1000000:=by rw[Nat.mul_comm];exact hb
  simp;exact Nat.le_trans this ε
 ·rw[Zrw];exact⟨.str (Zjl z k),H,I.tok _,⟨_,rfl⟩,q _ (by rw[QF];exact hb) rfl⟩
end
end G
namespace G
open PySem L2
end G
namespace G
open PySem L2 PySem.Spec PyProof.Rows
section
variable {X:Cx}{pins:At}{σ:L2.St}{H:Hp}{s:AJ}{acc:AH}{ys:List V}{its:AC}{n:Nat}
theorem adopt(I:Inv X pins σ H s)(hf:uH X pins H acc)(ho:s.heap.get? acc=some { cls:=.type "list",data:=.seq its.toArray n })(hv:Vals ys its)(hz:ys.length<=sizeLine):Inv X pins σ (upd H acc (.lst ys)) s:=by
 obtain⟨f0,f1,f2,f3,f4,f5⟩:=hf;have ne:∀b u,H b=some u->b≠acc:=λb u e=>aD e f0;refine I.step (h':=s.heap) (g':=s.gens) (t':=s.toks) (d':=s.drawn) (ch:=[acc]) (λb hb=>?_) (λ_ _ _ _ _ e _=>e) (λb o _ _ _ e _=>⟨o.slots,e⟩) (λb o hb e h0=>?_) (λb o _ e=>⟨o,e⟩)
  (λb xs e=>by rw[aB (ne b _ e)];exact e) (λb o u e=>by rw[aB (ne b _ e)];exact e) (λb ps e=>⟨#[],by rw[aB (ne b _ e),e];simp⟩) (λm hm=>hm) (λb u e=>?_) I.bare
 ·have e:b=acc:=by simpa using hb
  subst e;exact⟨f3,f1,f4,f5⟩
 ·have e:b≠acc:=by simpa using hb
  rw[aB e];exact h0
 ·by_cases hb:b=acc
  ·subst hb;rw[aq]at e;cases e;exact⟨hz,its,n,hv,ho⟩
  ·rw[aB hb]at e;exact(I.hok b u e).stay (λ_ _ _ q=>q) (λc q=>by rw[aB (ne c _ q)];exact q) λc xs q=>by rw[aB (ne c _ q)];exact q
theorem disown(I:Inv X pins σ (upd H acc (.lst ys)) s)(hf:uH X pins H acc):Inv X pins σ H s:=by
 obtain⟨f0,f1,f2,f3,f4,f5⟩:=hf;have back:∀b u,upd H acc (.lst ys) b=some u->u≠.lst ys->H b=some u:=λb u e hne=>by
  by_cases hb:b=acc
  ·subst hb;rw[aq]at e;cases e;exact absurd rfl hne
  ·rw[aB hb]at e;exact e
 refine I.step (h':=s.heap) (g':=s.gens) (t':=s.toks) (d':=s.drawn) (ch:=[acc]) (λb hb=>?_) (λ_ _ _ _ _ e _=>e) (λb o _ _ _ e _=>⟨o.slots,e⟩) (λb o hb e h0=>?_) (λb o _ e=>⟨o,e⟩)
  (λb xs e=>back b _ e (λz=>nomatch z)) (λb o u e=>back b _ e (λz=>nomatch z)) (λb ps e=>⟨#[],by rw[back b _ e (λz=>nomatch z)];simp⟩) (λm hm=>hm) (λb u e=>?_) I.bare
 ·have e:b=acc:=by simpa using hb
  subst e;exact⟨f3,f1,f4,f5⟩
 ·have e:b≠acc:=by simpa using hb
  rw[aB e]at h0;exact h0
 ·have hb:b≠acc:=aD e f0;have e':upd H acc (.lst ys) b=some u:=by rw[aB hb];exact e
  exact(I.hok b u e').stay (λ_ _ _ q=>q) (λc q=>back c _ q (λz=>nomatch z)) λc xs q=>back c _ q (λz=>nomatch z)
end
def PF(X:Cx)(ifs:AF)(t:TT):Prop:=
 ∀(pins:At) (s:AJ) (σ:L2.St) (H:Hp) (Q:Bool->Hp->Prop),Inv X pins σ H s->t σ H Q->
  wpAny ς X.A (forIn ifs true λc r=>if r=true then do let ok <- isTrue c X.env (eval c X.env);pure (ForInStep.yield ok)else pure (ForInStep.yield r)) (TP X pins σ Q) X.xe s
theorem Ko{X:Cx}:PF X [] Az:=λ_ _ _ H _ I h=>wpAny_tests_nil ⟨H,I,h⟩
theorem Zfs{X:Cx}{c:AM}{t:TT}(h:PT X c t):PF X [c] t:=λpins s σ H Q I q=>wpAny_tests_one (h pins s σ H Q I q)
def Mh(X:Cx)(scope:Scope)(cl:List (Str×AH))(N:AG)(C:AH)(s:AJ)(H:Hp)(ex:AE)(pn:At):Cx:=
 { X with N:=N,s₀:=s,H₀:=H,env:=compEnvC scope cl C X.env,outer:=X.stack,ex:=ex,fn:=λ_=>false,pn:=pn,xe:=λ_ _=>False }
def AllIn(cells:List (Str×AH)):List (Str×AH)->Prop
 | []=>True
 | p::r=>cells.lookup p.1=some p.2/\AllIn cells r
theorem AllIn.get{cells:List (Str×AH)}:∀{cl:List (Str×AH)},AllIn cells cl->∀{x:Str}{c:AH},cl.lookup x=some c->cells.lookup x=some c
 | [],_,x,c,h=>by cases h
 | (y,d)::r,a,x,c,h=>by
  cases e:(x == y)with
  | true=>
   rw[List.lookup_cons,e]at h;have e':x=y:=beq_iff_eq.mp e;subst e';cases h;exact a.1
  | false=>
   rw[List.lookup_cons,e]at h;exact AllIn.get a.2 h
def Bh(X:Cx):AG->List Nat->Prop
 | [],[]=>True
 | y::r,j::js=>X.N[j]? =some y/\X.env.kindOf y=some .cell/\Bh X r js
 | _,_=>False
theorem Bh.len{X:Cx}:∀{ns:AG}{js:List Nat},Bh X ns js->ns.length=js.length
 | [],[],_=>rfl
 | [],_::_,h=>h.elim
 | _::_,[],h=>h.elim
 | _::r,_::js,h=>by rw[List.length_cons,List.length_cons,Bh.len h.2.2]
theorem Bh.get{X:Cx}{σ:L2.St}:∀{ns:AG}{js:List Nat},Bh X ns js->∀{i:Nat}{x:Str}{v:V},ns[i]? =some x->(js.map (pick σ))[i]? =some (some v)->∃j:Nat,X.N[j]? =some x/\X.env.kindOf x=some .cell/\σ[j]? =some (some v)
 | [],_,_,i,x,v,h,_=>by simp at h
 | _::_,[],h,_,_,_,_,_=>h.elim
 | y::r,j::js,h,0,x,v,h1,h2=>by
  simp at h1 h2;subst h1;refine⟨j,h.1,h.2.1,?_⟩;unfold pick at h2;split at h2
  ·rename_i e;rw[e,h2]
  ·cases h2
 | y::r,j::js,h,i+1,x,v,h1,h2=>Bh.get (i:=i) h.2.2 (by simpa using h1) (by simpa using h2)
theorem Znz{x n:Str}{k:NameKind}{r:List (Str×NameKind)}(h:(x == n)=false):List.lookup x ((n,k)::r)=List.lookup x r:=by rw[List.lookup_cons,h]
theorem Zo0{x n:Str}{k:NameKind}{r:List (Str×NameKind)}(h:(x == n)=true):List.lookup x ((n,k)::r)=some k:=by rw[List.lookup_cons,h]
def QG(env:Env)(x:Str)(k:NameKind):NameKind:=if (k == NameKind.free && env.scope.kind == .function && env.kindOf x == some .cell)=true then .cell else k
theorem vm{env:Env}{x:Str}:∀{names:List (Str×NameKind)},
  (names.map λ(n,k)=>if (k == NameKind.free && env.scope.kind == .function && env.kindOf n == some .cell)then(n,NameKind.cell)else(n,k)).lookup x=(names.lookup x).map (QG env x)
 | []=>rfl
 | (n,k')::r=>by
  have ih:=@vm env x r;show List.lookup x ((if (k' == NameKind.free && env.scope.kind == .function && env.kindOf n == some .cell)=true then(n,NameKind.cell)else(n,k'))::r.map λ(n,k)=>if (k == NameKind.free && env.scope.kind == .function && env.kindOf n == some .cell)then(n,NameKind.cell)else(n,k))=_;cases hx:x == n with
  | true=>
   have e:=beq_iff_eq.mp hx;subst e;rw[Zo0 (k:=k') hx]
   by_cases hc:(k' == NameKind.free && env.scope.kind == .function && env.kindOf x == some .cell)=true
   ·rw[if_pos hc,Zo0 hx];show some NameKind.cell=some (QG env x k');unfold QG;rw[if_pos hc]
   ·rw[if_neg hc,Zo0 hx];show some k'=some (QG env x k');unfold QG;rw[if_neg hc]
  | false=>
   rw[Znz (k:=k') (r:=r) hx]
   by_cases hc:(k' == NameKind.free && env.scope.kind == .function && env.kindOf n == some .cell)=true
   ·rw[if_pos hc,Znz hx];exact ih
   ·rw[if_neg hc,Znz hx];exact ih
theorem lookup_all{names:List (Str×NameKind)}{p:Str×NameKind->Bool}:∀{x:Str}{k:NameKind},names.all p=true->names.lookup x=some k->p (x,k)=true:=by
 induction names with
 | nil=>intro x k _ h;simp at h
 | cons y r ih=>
  intro x k ha h;obtain⟨n,k'⟩:=y;rw[List.all_cons,Bool.and_eq_true]at ha;cases hx:x == n with
  | true=>
   rw[List.lookup_cons,hx]at h;have e1:x=n:=beq_iff_eq.mp hx;have e2:k'=k:=Option.some.inj h;rw[e1,<- e2];exact ha.1
  | false=>
   rw[List.lookup_cons,hx]at h;exact ih ha.2 h
theorem Zdv{prog:AL}{w:AN}{A:Around}{R:Result->AJ->Prop}{s:AJ}{elt target iter:AM}{ifs:AF}{scope:Scope}{pos:Pos}{it acc:AI}{env:Env}(I:Nat->AJ->Prop)
  (turn:∀n s,I n s->wpAny ah A (pyNext it) (λr s₁=>match r with
   | none=>R (.ok .next) s₁
   | some v=>wpAny ah A (letOwnedTupleGo target it v) (λ_ s₁'=>wpAny ah A (assign target env v) (λ_ s₂=>
     wpAny ah A (forIn ifs true λc r=>if r=true then do let ok <- isTrue c env (eval c env);pure (ForInStep.yield ok)else pure (ForInStep.yield r)) (λok s₃=>
      if ok=true then wpAny ah A (eval elt env) (λx s₄=>
       wpAny ah A (call (.builtin "list.append") [acc,x]) (λ_ s₅=>∃m,m<n/\I m s₅) (λ_ _=>False) s₄) (λ_ _=>False) s₃
      else ∃m,m<n/\I m s₃) (λ_ _=>False) s₂) (λ_ _=>False) s₁') (λ_ _=>False) s₁) (λ_ _=>False) s)
  (n:Nat) (h:I n s):
  codeAny ah A (.compLoop (.ListComp elt [⟨target,iter,ifs,0⟩] scope pos) 0 it acc env) R s:=by
 refine codeAny_loop rfl I (λn s hI=>?_) n h;show wpAny _ A ((compTurn (.ListComp elt [⟨target,iter,ifs,0⟩] scope pos) 0 it acc env).onRaise (λx=>do noteFrame x env;theTreesLotGoes x)) _ _ s;refine wpAny_noted ?_;rw[compTurn_list];refine wpAny_bind (wpAny_standAt (wpAny_bind (wpAny_mono (turn n s hI) (λr s₁ h₁=>?_) λ_ _ h'=>h'.elim)));cases r with
 | none=>exact wpAny_pure h₁
 | some v=>
  refine wpAny_bind (wpAny_mono h₁ (λ_ s₁' h₁'=>?_) λ_ _ h'=>h'.elim);refine wpAny_bind (wpAny_mono h₁' (λ_ s₂ h₂=>wpAny_bind (wpAny_mono h₂ (λok s₃ h₃=>?_) λ_ _ h'=>h'.elim)) λ_ _ h'=>h'.elim);cases ok with
  | false=>exact wpAny_pure ⟨rfl,h₃⟩
  | true=>
   exact wpAny_bind (wpAny_bind (wpAny_mono h₃ (λx s₄ h₄=>wpAny_bind (wpAny_mono h₄ (λ_ s₅ h₅=>wpAny_pure (wpAny_pure ⟨rfl,h₅⟩)) λ_ _ h'=>h'.elim)) λ_ _ h'=>h'.elim))
theorem Zil{X:Cx}{elt iter tg:AM}{pos:Pos}{ifs:AF}{scope:Scope}{cl:List (Str×AH)}{wi:TI}{tc:TT}{te:TE}{cns:AG}{ns:AG}{gt:TG}{R:It->L2.St->Hp->VK->Prop}{use:Option (AI->Sem Unit)}{Q0:Ap}{pins:At}{s:AJ}{σ:L2.St}{H:Hp}{Q:VK}(caps:List Nat)
  (hR:∀J σ H Q,R J σ H Q->∃W:Nat->Nat->List V->Hp->Prop,(∃m,W 0 m [] H)/\∀i m ys H,W i m ys H->
   (J.stop i H/\∀p,H p=none->Q (.ref p) (upd H p (.lst ys)))\/
   (J.go i H/\ys.length<sizeLine/\∀x H',J.yld i H x H'->∀vs:L2.St,vs.length=ns.length->∃us:L2.St,us.length=ns.length/\gt x (vs++caps.map (pick σ)) H' (λσ2 H2=>σ2=us++caps.map (pick σ)/\H2=H')/\tc (us++caps.map (pick σ)) H' λk H2=>if k=true then te (us++caps.map (pick σ)) H2 (λy H3=>∃m',m'<m/\W (i+1) m' (ys++[y]) H3)else ∃m',m'<m/\W (i+1) m' ys H2))
  (hi:PI X tg iter wi) (hg:∀C s H ex pn,PG (Mh X scope cl (ns++cns) C s H ex pn) tg gt)
  (hf:∀C s H ex pn,PF (Mh X scope cl (ns++cns) C s H ex pn) ifs tc) (he:∀C s H ex pn,PE (Mh X scope cl (ns++cns) C s H ex pn) elt te) (hc:X.calm=true)
  (hclos:closureFor scope X.env=pure cl) (hcl:AllIn X.env.cells cl) (hcap:Bh X cns caps)
  (hkind:scope.kind=.function) (hcell:(scope.names.all λp=>p.2 != .cell)=true) (hfree:(scope.names.all λp=>p.2 != .free || (cl.lookup p.1).isSome)=true)
  (hcf:(cns.all λy=>scope.names.lookup y == some .free)=true) (hnames:∀y∈scope.names,y.2=.local->scope.names.lookup y.1=some .local)
  (hs:∀v,foldedSetIterable iter X.env v=pure v)
  (I:Inv X pins σ H s) (h:wi σ H λJ H1=>R J σ H1 Q)
  (hend:∀(acc C:AH) (s6:AJ) (m:As) r0,s6.heap.Ns C m->(∀{Hf:Hp},Hf C=none->uH X pins Hf C)->(∀h',Heap.SameBut C s6.heap h'->EP X pins σ (λv Hf=>Q v Hf/\Hf C=none) (.ref acc) { s6 with heap:=h' })->compPost ς X.A X.xe use Q0 (.ref acc) C (.ok r0) s6):
  wpAny ς X.A (comprehension (.ListComp elt [⟨tg,iter,ifs,0⟩] scope pos) scope X.env (firstIterPos [⟨tg,iter,ifs,0⟩] pos) (newList []) (firstAsync [⟨tg,iter,ifs,0⟩]) (firstIter [⟨tg,iter,ifs,0⟩] X.env) use) Q0 X.xe s:=by
 refine wpAny_comprehension_free rfl hs hclos hkind hnames (jw (hi pins s σ H _ I h) λxv s1 h1=>jw h1 λitv s2 h2=>?_);obtain⟨it,fp,tn,J,H2,rfl,I2,T,st2,f2,hr⟩:=h2;obtain⟨W,⟨m0,w0⟩,turn⟩:=hR _ _ _ _ hr;have hne:∀y∈scope.names,y.2≠.cell:=λy hy e=>by
  have:=List.all_eq_true.mp hcell y hy;rw[e]at this;simp at this
 refine wpAny_newObj_type (wpAny_newFunctionEnv hne (by intro y hy;simp at hy) (λh₁ hns₁ hsb₁=>?_) hkind);dsimp only at hns₁ hsb₁ ⊢;generalize hacc:s2.heap.objs.size=acc;generalize hH3:s2.heap.push { cls:=.type "list",dict:=none,data:=.seq ([]:AC).toArray }=h3 at hns₁ hsb₁ ⊢;have hC:h3.objs.size=acc+1:=by rw[<- hH3,Heap.size_push,hacc]
 have k23:∀b o,s2.heap.get? b=some o->h3.get? b=some o:=λb o e=>hH3 ▸ Heap.get?_push_of_some _ e;have k34:∀b o,h3.get? b=some o->h₁.get? b=some o:=λb o e=>hsb₁.extBut b o (Nat.ne_of_lt (Heap.lt_size e)) (Heap.get?_push_of_some _ e);have ZA1:h3.get? acc=some { cls:=.type "list",dict:=none,data:=.seq ([]:AC).toArray }:=by
  rw[<- hH3,<- hacc];exact Heap.get?_push_size _ rfl
 have I3:Inv X pins σ H2 { s2 with heap:=h3 }:=I2.kept (t':=s2.toks) k23;have Zwq:uH X pins H2 acc:=I2.Zh3 (Nat.le_of_eq hacc) (I2.hok.fresh (Nat.le_of_eq hacc));have fpl:∀b∈fp,b<acc:=λb hb=>by
  obtain⟨o,e,_⟩:=T.obj _ _ st2 b hb;rw[<- hacc];exact Heap.lt_size e
 have Zl6:∀b∈acc::fp,uH X pins H2 b:=λb hb=>(List.mem_cons.mp hb).elim (λe=>e ▸ Zwq) (f2 b);have exC:∀b∈acc::fp,b≠h3.objs.size:=λb hb=>by
  rcases List.mem_cons.mp hb with e | hb
  ·rw[hC,e];exact Nat.ne_of_lt (Nat.lt_succ_self _)
  ·rw[hC];exact Nat.ne_of_lt (Nat.lt_succ_of_lt (fpl b hb))
 have Zer:∀b∈acc::fp,b∉frs X.stack:=λb hb hm=>by
  obtain⟨_,g1,g2,_⟩:=Zl6 b hb;exact(List.mem_cons.mp (I2.JQ b hm)).elim g1 g2
 let Y:Cx:=Mh X scope cl (ns++cns) h3.objs.size { s2 with heap:=h3 } H2 (acc::fp) (X.pn++pins)
 have cellsOf:∀y c,cl.lookup y=some c->X.env.cells.lookup y=some c:=λy c e=>hcl.get e;have Zim:∀y k,Y.env.kindOf y=some k->(k=.cell\/k=.free)->∃c,cl.lookup y=some c:=λy k e hk=>by
  have e0:(scope.names.lookup y).map (QG X.env y)=some k:=vm.symm.trans e;obtain⟨k0,e1,e2⟩:=Option.map_eq_some_iff.mp e0;have e3:=lookup_all hfree e1;have e4:=lookup_all hcell e1
  by_cases hf:k0=.free
  ·subst hf;rw[Bool.or_eq_true]at e3;rcases e3 with e3 | e3
   ·exact absurd rfl (bne_iff_ne.mp e3)
   ·exact Option.isSome_iff_exists.mp e3
  ·exfalso
   have e5:QG X.env y k0=k0:=by
    unfold QG;rw[if_neg];intro z;rw[Bool.and_eq_true,Bool.and_eq_true]at z;exact hf (beq_iff_eq.mp z.1.1)
   rw[e5]at e2;subst e2;rcases hk with rfl | rfl
   ·simp at e4
   ·exact hf rfl
 have okY:Y.Ok:={
  mod:=I2.ok.mod
  kind:=hkind
  glob:=I2.ok.glob
  blt:=I2.ok.blt
  above:=Nat.le_refl _
  inj:=λa b c e1 e2=>I2.ok.inj a b c (cellsOf _ _ e1) (cellsOf _ _ e2)
  has:=λy hy=>hy.elim (λe=>Zim y _ e (.inl rfl)) (λe=>Zim y _ e (.inr rfl))
  cab:=λy c e=>nomatch e
  hd:=I2.ok.hd
  frames:=I2.ok.frames
  stk:=.inl rfl
  exf:=λb hb=>⟨exC b hb,λy c e=>(Zl6 b hb).2.2.2.2.1 y c (cellsOf _ _ e)⟩
  bs:=λb o e=>⟨k23 b o (I2.bs b o e).1,(I2.bs b o e).2⟩
  bsz:=by
   show X.base.objs.size<=h3.objs.size;rw[hC,<- hacc];exact Nat.le_succ_of_le (Nat.le_trans I2.ok.bsz I2.sz)
  Zch:=λb o e hb=>by
   rcases(Zl6 b hb).2.2.2.1 with z | z
   ·exact I2.ok.Zch b o e z
   ·exact absurd (Nat.lt_of_lt_of_le (Heap.lt_size e) (Nat.le_trans I2.ok.bsz z)) (Nat.lt_irrefl _)
  Zhd:=Zer
  Am:=I3.stack
  frf:=I3.XD }
 have Zo3:(List.replicate ns.length none++caps.map (pick σ):L2.St).length=(ns++cns).length:=by rw[List.length_append,List.length_append,List.length_replicate,bx,hcap.len]
 have I4:Inv Y [] (List.replicate ns.length none++caps.map (pick σ)) H2 { s2 with heap:=h₁,toks:=s2.toks+([]:List (Str×AI)).length }:={
  ok:=okY
  os:=rfl
  bare:=I2.bare
  base:=Un.kept k34
  loc:=by
   refine⟨_,hns₁,λi y v e1 e2 e3=>?_⟩
   by_cases hlt:i<ns.length
   ·have e2:(List.replicate ns.length none++caps.map (pick σ):L2.St)[i]? =some (some v):=e2;rw[List.getElem?_append_left (by rw[List.length_replicate];exact hlt),List.getElem?_replicate,if_pos hlt]at e2;cases e2
   ·have e1':cns[i - ns.length]? =some y:=by
     have e1':(ns++cns)[i]? =some y:=e1;rw[List.getElem?_append_right δ]at e1';exact e1'
    have e2':(caps.map (pick σ):L2.St)[i - ns.length]? =some (some v):=by
     have e2:(List.replicate ns.length none++caps.map (pick σ):L2.St)[i]? =some (some v):=e2;rw[List.getElem?_append_right (by rw[List.length_replicate];omega),List.length_replicate]at e2;exact e2
    obtain⟨j,j1,j2,j3⟩:=hcap.get (σ:=σ) (i:=i - ns.length) (x:=y) (v:=v) e1' e2';obtain⟨m,hn,hl⟩:=I2.loc;obtain⟨u,r,l⟩:=hl j y v j1 j3 (.inr (.inl j2));rcases l with ⟨l,_⟩ | ⟨_,c,l1,l2⟩
    ·rw[j2]at l;cases l
    ·refine⟨u,r,.inr ?_⟩;rcases e3 with e3 | e3 | e3
     ·exfalso
      have hm:y∈cns:=List.mem_of_getElem? e1';have hl:scope.names.lookup y=some .free:=beq_iff_eq.mp (List.all_eq_true.mp hcf y hm);have e0:(scope.names.lookup y).map (QG X.env y)=some .local:=vm.symm.trans e3;rw[hl]at e0;have e5:QG X.env y .free=.local:=Option.some.inj e0;unfold QG at e5;split at e5<;>cases e5
     ·obtain⟨c',hc'⟩:=Zim y _ e3 (.inl rfl);have:=cellsOf _ _ hc';rw[l1]at this;cases this;exact⟨.inl e3,c,hc',l2.keeps λb o e=>k34 _ _ (k23 _ _ e)⟩
     ·obtain⟨c',hc'⟩:=Zim y _ e3 (.inr rfl);have:=cellsOf _ _ hc';rw[l1]at this;cases this;exact⟨.inr e3,c,hc',l2.keeps λb o e=>k34 _ _ (k23 _ _ e)⟩
  cell:=λy c e=>by
   obtain⟨v,z⟩:=I2.cell y c (cellsOf _ _ e);exact⟨v,z.keeps λb o e=>k34 _ _ (k23 _ _ e)⟩
  free:=I2.hok.fresh (by rw[hacc];show acc<=h3.objs.size;rw[hC];exact Nat.le_succ _)
  vz:=λy c e=>I2.vz y c (cellsOf _ _ e)
  pin:=λp hp=>by
   have hp2:p∈(X.pn++pins)++[]:=hp;have hp':p∈X.pn++pins:=by rw[List.append_nil]at hp2;exact hp2
   obtain⟨p1,p2,p3,p4,p5⟩:=I2.pin p hp';refine⟨k34 _ _ (k23 _ _ p1),p2,?_,λhm=>(List.mem_cons.mp (I2.JQ _ hm)).elim p3 p4,p5⟩;exact Nat.ne_of_lt (by show p.1<h3.objs.size;exact Heap.lt_size (k23 _ _ p1))
  hok:=I2.hok.kept λb u e=>k34 _ _ (k23 _ _ e)
  len:=Zo3 }
 have fpY:∀{H':Hp}{pl:At}{b:AH},b∈acc::fp->H' b=none->(∀p∈pl,p.1≠b)->uH Y pl H' b:=λ{H' pl b} hb hn hp=>
  ⟨hn,exC b hb,Zer b hb,.inl hb,λy c e=>(Zl6 b hb).2.2.2.2.1 y c (cellsOf _ _ e),λp hm=>(List.mem_append.mp hm).elim (λz=>(Zl6 b hb).2.2.2.2.2 p z) (hp p)⟩
 have fin:∀{σ':L2.St}{H':Hp}{s':AJ}{ys:List V}{its:AC}{kk:Nat}{pl:At},Inv Y pl σ' H' s'->H' acc=none->Vals ys its->ys.length<=sizeLine->
   s'.heap.get? acc=some { cls:=.type "list",data:=.seq its.toArray kk }->(∀p,H' p=none->Q (.ref p) (upd H' p (.lst ys)))->
   ∀h',Heap.SameBut h3.objs.size s'.heap h'->EP X pins σ (λv Hf=>Q v Hf/\Hf h3.objs.size=none) (.ref acc) { s' with heap:=h' }:=λ{σ' H' s' ys its kk pl} J ha hv hz ho hq h' hs'=>by
  have Zz3:acc≠h3.objs.size:=exC acc (List.mem_cons_self);have Zd5:∀b o,b≠h3.objs.size->s'.heap.get? b=some o->h'.get? b=some o:=λb o hb e=>hs'.extBut b o hb e;have ltC:∀b o,s2.heap.get? b=some o->b≠h3.objs.size:=λb o e=>Nat.ne_of_lt (Heap.lt_size (k23 b o e));have Zh0:H' h3.objs.size=none:=J.free;have un:Un (frs X.stack) (acc::fp) H2 H' s2.heap h':={
   keep:=λb o e n hb hx=>Zd5 b o (ltC b o e) (J.base.keep b o (k23 b o e) n hb hx)
   slot:=λb o e n hb hx=>by
    obtain⟨sl,q⟩:=J.base.slot b o (k23 b o e) n hb hx;exact⟨sl,Zd5 b _ (ltC b o e) q⟩
   free:=λb o e n hx=>J.base.free b o (k23 b o e) n hx
   there:=λb o e hx=>by
    obtain⟨o',q⟩:=J.base.there b o (k23 b o e) hx;exact⟨o',Zd5 b o' (ltC b o e) q⟩
   tups:=J.base.tups
   Lz:=J.base.Lz
   NT:=J.base.NT }
  have hok:Dv X.prog X.w H' h':=λb u e=>by
   refine(J.hok b u e).stay (λc v hc q=>Zd5 c v ?_ q) (λ_ q=>q) λ_ _ q=>q;rintro rfl;rcases hc with rfl | hc
   ·rw[Zh0]at e;cases e
   ·rw[Zh0]at hc;cases hc
  have I5:Inv X pins σ H' { s' with heap:=h' }:=I2.call' (ch:=acc::fp) J.os un hok J.bare λb hb=>by
   obtain⟨g0,g1,g2,g3,g4,g5⟩:=Zl6 b hb;exact⟨g3,g1,g4,g5⟩
  refine⟨.ref acc,_,adopt (acc:=acc) I5 ?_ (Zd5 _ _ Zz3 ho) hv hz,rfl,hq acc ha,by rw[aB Zz3.symm];exact Zh0⟩;obtain⟨g0,g1,g2,g3,g4,g5⟩:=Zwq;exact⟨ha,g1,g2,g3,g4,g5⟩
 have loop:codeAny ς X.A (.compLoop (.ListComp elt [⟨tg,iter,ifs,0⟩] scope pos) 0 (.ref it) (.ref acc) Y.env) (compPost ς X.A X.xe use Q0 (.ref acc) h3.objs.size)
   { s2 with heap:=h₁,toks:=s2.toks+([]:List (Str×AI)).length }:=by
  refine Zdv (λn s'=>∃(i:Nat) (v:L2.St) (ys:List V) (its:AC) (kk:Nat) (H':Hp),v.length=ns.length/\Inv Y [] (v++caps.map (pick σ)) H' s'/\tn i s'.heap/\(∀b∈fp,H' b=none)/\H' acc=none/\Vals ys its/\ys.length<=sizeLine/\
   s'.heap.get? acc=some { cls:=.type "list",data:=.seq its.toArray kk }/\W i n ys H') ?_ m0 ⟨0,List.replicate ns.length none,[],[],0,H2,List.length_replicate,I4,T.keep _ _ _ st2 (λb _ o e=>k34 _ _ (k23 _ _ e)),λb hb=>(f2 b hb).1,Zwq.1,.nil,Nat.zero_le _,k34 _ _ ZA1,w0⟩
  rintro n s5 ⟨i,v,ys,its,kk,H5,lv,I5,JR,fr5,ha5,hv5,hz5,ho5,w5⟩;have Zxz:Inv Y [(acc,{ cls:=.type "list",data:=.seq its.toArray kk })] (v++caps.map (pick σ)) H5 s5:=I5.DK λp hp=>by
   have e:p=(acc,{ cls:=.type "list",data:=.seq its.toArray kk }):=by simpa using hp
   subst e;exact⟨ho5,ha5,exC acc List.mem_cons_self,Zer acc List.mem_cons_self,λv=>by intro z;cases z⟩
  have fpA:∀{H':Hp},(∀b∈fp,H' b=none)->∀b∈fp,uH Y [(acc,{ cls:=.type "list",data:=.seq its.toArray kk })] H' b:=λhn b hb=>fpY (List.mem_cons_of_mem _ hb) (hn b hb) λp hp=>by
   have e:p=(acc,{ cls:=.type "list",data:=.seq its.toArray kk }):=by simpa using hp
   subst e;exact(Nat.ne_of_lt (fpl b hb)).symm
  rcases turn i n ys H5 w5 with ⟨stop,qn⟩ | ⟨go,hlt,step⟩
  ·refine jw (T.done Y rfl rfl rfl hc i _ s5 _ H5 (λ_ _=>False) Zxz (fpA fr5) JR stop) λr s6 ⟨hr,I6⟩=>?_;subst hr;obtain⟨m,hm,_⟩:=I6.loc;have ho6:=(I6.pin (acc,{ cls:=.type "list",data:=.seq its.toArray kk }) (List.mem_append_right _ List.mem_cons_self)).1;exact hend acc h3.objs.size s6 m _ hm (λhf=>I2.Zh3 (by rw[hC,hacc];exact Nat.le_succ _) hf) (fin I6 ha5 hv5 hz5 ho6 qn)
  ·refine jw (T.item Y rfl rfl rfl hc i _ s5 _ H5 (λ_ _=>False) Zxz (fpA fr5) JR go) λr s6 ⟨u,hr,h6⟩=>?_;subst hr;refine jw h6 λ_ s7 ⟨z,H7,I7,r7,y7,st7,fr7⟩=>?_;have I7':=I7.pinned (fpA fr7) (T.obj _ _ st7);obtain⟨us,lu,hgt,step⟩:=step z H7 y7 v lv;have pg:PG Y tg gt:=hg _ _ _ _ _;refine jw (pg _ s7 _ H7 z u (λσ2 H2'=>σ2=us++caps.map (pick σ)/\H2'=H7) I7' r7 hgt) λ_ s8 ⟨σ8,H8,I8,e8,e8'⟩=>?_;subst e8 e8';refine jw (hf _ _ _ _ _ _ s8 _ H8 _ I8 step) λok s9 ⟨H9,I9,q9⟩=>?_;have stat:∀{H':Hp}{s':AJ}{σ':L2.St},Inv Y ([(acc,{ cls:=.type "list",data:=.seq its.toArray kk })]++Gf fp s7.heap) σ' H' s'->tn (i+1) s'.heap/\(∀b∈fp,H' b=none)/\H' acc=none/\s'.heap.get? acc=some { cls:=.type "list",data:=.seq its.toArray kk }:=λ{H' s' σ'} J=>by
    have pa:=J.pin (acc,{ cls:=.type "list",data:=.seq its.toArray kk }) (List.mem_append_right _ (List.mem_append_left _ List.mem_cons_self));refine⟨T.keep _ _ _ st7 λb hb o e=>(J.pin (b,o) (List.mem_append_right _ (List.mem_append_right _ (vf hb e)))).1,λb hb=>?_,pa.2.1,pa.1⟩;obtain⟨o,e,d⟩:=T.obj _ _ st7 b hb;exact(J.pin (b,o) (List.mem_append_right _ (List.mem_append_right _ (vf hb e)))).2.1
   have Ztv:∀{H':Hp}{s':AJ}{σ':L2.St}{pl:At},Inv Y pl σ' H' s'->Inv Y [] σ' H' s':=λJ=>J.DK λp hp=>nomatch hp;cases ok with
   | false=>
    obtain⟨m',hm,w9⟩:=q9;obtain⟨t1,t2,t3,t4⟩:=stat I9;exact⟨m',hm,i+1,us,ys,its,kk,H9,lu,Ztv I9,t1,t2,t3,hv5,hz5,t4,w9⟩
   | true=>
    show wpAny _ _ (eval elt Y.env) _ _ s9;refine jw (he _ _ _ _ _ _ s9 _ H9 _ I9 q9) λy s10 ⟨yv,H10,I10,r10,m',hm,w10⟩=>?_;obtain⟨t1,t2,t3,t4⟩:=stat I10;have ZIc:Inv Y (Gf fp s7.heap) (us++caps.map (pick σ)) H10 s10:=I10.DK λp hp=>I10.pin p (List.mem_append_right _ (List.mem_append_right _ hp));have fA:uH Y (Gf fp s7.heap) H10 acc:=fpY List.mem_cons_self t3 λp hp=>Nat.ne_of_lt (fpl _ (Wx hp).1);have Ja:=adopt ZIc fA t4 hv5 hz5;refine jw (nD (X:=Y) _ s10 _ _ (.ref acc) [yv] (.ref acc) [y] (λ_ H'=>H'=upd (upd H10 acc (.lst ys)) acc (.lst (ys++[yv]))) Ja rfl (.cons r10 .nil) ⟨acc,ys,yv,rfl,rfl,aq,hlt,rfl⟩) λ_ s11 ⟨_,H11,I11,_,e11⟩=>?_;rw[eZ]at e11;subst e11;obtain⟨ZAw,its',kk',ZAx,ZB0⟩:=I11.hok acc _ aq;have Jd:=disown I11 fA;have Zzt:tn (i+1) s11.heap:=T.keep _ _ _ st7 λb hb o e=>(Jd.pin (b,o) (List.mem_append_right _ (vf hb e))).1;exact⟨m',hm,i+1,us,ys++[yv],its',kk',H10,lu,Ztv Jd,Zzt,t2,t3,ZAx,ZAw,ZB0,w10⟩
 exact codeAny_compStart_list loop (T.self X.A 0 _ _ _ (T.keep _ _ _ st2 (λb _ o e=>k34 _ _ (k23 _ _ e))) loop)
theorem Zmy{X:Cx}{elt iter tg:AM}{pos:Pos}{ifs:AF}{scope:Scope}{cl:List (Str×AH)}{wi:TI}{tc:TT}{te:TE}{cns:AG}{ns:AG}{gt:TG}{R:It->L2.St->Hp->VK->Prop}(caps:List Nat)
  (hR:∀J σ H Q,R J σ H Q->∃W:Nat->Nat->List V->Hp->Prop,(∃m,W 0 m [] H)/\∀i m ys H,W i m ys H->
   (J.stop i H/\∀p,H p=none->Q (.ref p) (upd H p (.lst ys)))\/
   (J.go i H/\ys.length<sizeLine/\∀x H',J.yld i H x H'->∀vs:L2.St,vs.length=ns.length->∃us:L2.St,us.length=ns.length/\gt x (vs++caps.map (pick σ)) H' (λσ2 H2=>σ2=us++caps.map (pick σ)/\H2=H')/\tc (us++caps.map (pick σ)) H' λk H2=>if k=true then te (us++caps.map (pick σ)) H2 (λy H3=>∃m',m'<m/\W (i+1) m' (ys++[y]) H3)else ∃m',m'<m/\W (i+1) m' ys H2))
  (hi:PI X tg iter wi) (hg:∀C s H ex pn,PG (Mh X scope cl (ns++cns) C s H ex pn) tg gt)
  (hf:∀C s H ex pn,PF (Mh X scope cl (ns++cns) C s H ex pn) ifs tc) (he:∀C s H ex pn,PE (Mh X scope cl (ns++cns) C s H ex pn) elt te) (hc:X.calm=true)
  (hclos:closureFor scope X.env=pure cl) (hcl:AllIn X.env.cells cl) (hcap:Bh X cns caps)
  (hkind:scope.kind=.function) (hcell:(scope.names.all λp=>p.2 != .cell)=true) (hfree:(scope.names.all λp=>p.2 != .free || (cl.lookup p.1).isSome)=true)
  (hcf:(cns.all λy=>scope.names.lookup y == some .free)=true) (hnames:∀y∈scope.names,y.2=.local->scope.names.lookup y.1=some .local)
  (hs:∀v,foldedSetIterable iter X.env v=pure v):
  PE X (.ListComp elt [⟨tg,iter,ifs,0⟩] scope pos) (λσ H Q=>wi σ H λJ H1=>R J σ H1 Q):=by
 intro pins s σ H Q I h;rw[eval_ListComp];refine Zil caps hR hi hg hf he hc hclos hcl hcap hkind hcell hfree hcf hnames hs I h λacc C s6 m r0 hm fC fin=>⟨m,hm,λh' hs'=>?_⟩;obtain⟨v,Hf,If,rf,qf,_⟩:=fin h' hs';exact⟨v,Hf,If,rf,qf⟩
theorem Zbv{X:Cx}{elt iter:AM}{x:Str}{px pos:Pos}{ifs:AF}{scope:Scope}{cl:List (Str×AH)}{wi:TI}{tc:TT}{te:TE}{cns:AG}(caps:List Nat)
  (hi:PI X (.Name x px) iter wi)
  (hf:∀C s H ex pn,PF (Mh X scope cl (x::cns) C s H ex pn) ifs tc) (he:∀C s H ex pn,PE (Mh X scope cl (x::cns) C s H ex pn) elt te) (hc:X.calm=true)
  (hclos:closureFor scope X.env=pure cl) (hcl:AllIn X.env.cells cl) (hcap:Bh X cns caps)
  (hkind:scope.kind=.function) (hcell:(scope.names.all λp=>p.2 != .cell)=true) (hfree:(scope.names.all λp=>p.2 != .free || (cl.lookup p.1).isSome)=true)
  (hcf:(cns.all λy=>scope.names.lookup y == some .free)=true) (hnames:∀y∈scope.names,y.2=.local->scope.names.lookup y.1=some .local) (hx:scope.names.lookup x=some .local) (hnd:(x::cns).Nodup)
  (hs:∀v,foldedSetIterable iter X.env v=pure v:=by intro _;rfl):
  PE X (.ListComp elt [⟨.Name x px,iter,ifs,0⟩] scope pos) (tLC wi caps tc te):=by
 refine Zmy (ns:=[x]) (gt:=aO 0) caps (λJ σ H Q h=>?_) hi (λC s H ex pn=>gJ hnd rfl (.inl (lookup_relabel_local hx)) (.inr (lookup_relabel_local hx))) hf he hc hclos hcl hcap hkind hcell hfree hcf hnames hs;obtain⟨W,w0,turn⟩:=h;refine⟨W,w0,λi m ys H hw=>(turn i m ys H hw).imp id λ⟨g,l,st⟩=>⟨g,l,λz H' y vs hv=>?_⟩⟩
 match vs,hv with
 | [v],_=>exact⟨[some z],rfl,⟨rfl,rfl⟩,st z H' y⟩
theorem K1{P:AL}{w:AN}{H:Hp}{h:Heap}{a:AH}{o:HO}(x:kj P w H h a o):∃ob,h.get? a=some ob:=by
 induction o with
 | lst xs=>obtain⟨_,_,_,_,e⟩:=x;exact⟨_,e⟩
 | tup xs=>obtain⟨_,_,_,ob,e,_⟩:=x;exact⟨ob,e⟩
 | dK kvs=>obtain⟨_,_,_,_,ob,_,_,e,_⟩:=x;exact⟨ob,e⟩
 | dT kvs=>obtain⟨_,_,_,_,ob,_,_,e,_⟩:=x;exact⟨ob,e⟩
 | set S n=>obtain⟨ob,_,_,_,e,_⟩:=x;exact⟨ob,e⟩
 | ins C dx fs=>obtain⟨_,_,_,e,_⟩:=x;exact⟨_,e⟩
 | own y=>exact x
 | xd fs=>obtain⟨_,⟨ob,_,_,e,_⟩,_⟩:=x;exact⟨ob,e⟩
 | rng lo hi=>obtain⟨_,_,_,e⟩:=x;exact⟨_,e⟩
 | yU ob u ih=>exact⟨_,x.1⟩
 | Qd ps=>exact⟨_,x⟩
 | met f y=>exact⟨_,x⟩
 | ext φ=>obtain⟨_,e,_⟩:=x;exact e
theorem Xv{P:AL}{w:AN}{fs:AE}{H0 H1:Hp}{h0 h1 h2:Heap}(u:Un fs [] H0 H1 h0 h1)(ok:Dv P w H1 h1)(fr:∀b∈fs,H1 b=none)
  (kp:∀b o,h1.get? b=some o->((∃v,h0.get? b=some v)\/∃v,H1 b=some v)->b∉fs->h2.get? b=some o) (sl:∀b o,h1.get? b=some o->b∈fs->∃z,h2.get? b=some { o with slots:=z }):
  Un fs [] H0 H1 h0 h2/\Dv P w H1 h2:=by
 refine⟨⟨λb o e n hb hx=>kp b o (u.keep b o e n hb hx) (.inl ⟨o,e⟩) hb,λb o e n hb hx=>?_,u.free,λb o e hx=>?_,u.tups,u.Lz,u.NT⟩,λa o e=>?_⟩
 ·obtain⟨z,e1⟩:=u.slot b o e n hb hx;obtain⟨z2,e2⟩:=sl b _ e1 hb;exact⟨z2,e2⟩
 ·obtain⟨o',e1⟩:=u.there b o e hx
  by_cases hb:b∈fs
  ·obtain⟨z,e2⟩:=sl b _ e1 hb;exact⟨_,e2⟩
  ·exact⟨o',kp b o' e1 (.inl ⟨o,e⟩) hb⟩
 ·refine(ok a o e).stay (λb v hb q=>?_) (λ_ q=>q) λ_ _ q=>q;have hs:∃v,H1 b=some v:=by
   rcases hb with z | z
   ·exact⟨o,by rw[z];exact e⟩
   ·exact⟨_,z⟩
  refine kp b v q (.inr hs) λz=>?_;obtain⟨v',e'⟩:=hs;rw[fr b z]at e';cases e'
def S9(P:AL)(w:AN):CXT:=λouter H s E e s'=>
 ∃(ea:AH) (cls a0:AI) (B:Heap) (H':Hp),e=.ref ea/\s'.os=s.os/\AllBare s'.gens/\Un (frs outer) [] H H' s.heap s'.heap/\Dv P w H' s'.heap/\Heap.FlyingW B outer ea cls a0 s'.heap/\
  (∀b o,s'.heap.get? b=some o->((∃v,s.heap.get? b=some v)\/∃v,H' b=some v)->b∉frs outer->B.get? b=some o)/\E cls none H'
theorem fV{P:AL}{w:AN}{X:Cx}:Passes (S9 P w) X E0:=λ_ _ _ _ _ _ _ h=>by
 obtain⟨_,_,_,_,_,_,_,_,_,_,_,_,z⟩:=h;exact z.elim
section
variable {P:AL}{w:AN}{K:aC}{mg:As}{base:Heap}{N:AG}{qual:Str}{scope:Scope}{f:AH}{cd:AI}{A:Around}{outer:List Env}{s:AJ}{H:Hp}{E:XK}
theorem HQ:Passes (S9 P w) (Mg (S9 P w) P w K mg base N qual scope f cd A outer s H E) E:=by
 intro pins σ H1 s1 e s2 I h;obtain⟨ea,cls,a0,B,H2,rfl,os,bare,un,ok,fl,hB,hE⟩:=h;have J:Inv (Mg (S9 P w) P w K mg base N qual scope f cd A outer s H E) pins σ H2 s2:=I.call' os un ok bare (λb z=>nomatch z);have L0:∀b o,s.heap.get? b=some o->b≠(envOfC qual scope s.heap.objs.size f cd).locals:=λb o e=>Nat.ne_of_lt (Nat.lt_of_lt_of_le (Heap.lt_size e) I.ok.above);have nin:∀b,((∃v,s.heap.get? b=some v)\/∃v,H2 b=some v)->b∉frs outer->b∉frs (envOfC qual scope s.heap.objs.size f cd::outer):=λb hb hn hm=>by
  rcases List.mem_cons.mp (J.JQ b hm)with z | z
  ·rcases hb with ⟨v,e⟩ | ⟨v,e⟩
   ·exact L0 b v e z
   ·rw[z]at e;have:=J.free;rw[e]at this;cases this
  ·exact hn z
 have was:∀b,((∃v,s.heap.get? b=some v)\/∃v,H2 b=some v)->(∃v,s1.heap.get? b=some v)\/∃v,H2 b=some v:=λb hb=>by
  rcases hb with ⟨v,e⟩ | hb
  ·exact .inl (I.base.there b v e (λz=>nomatch z))
  ·exact .inr hb
 refine wpAny_leaves_onW I.ok.frames rfl fl λh' fl' sm=>?_;have dat:∀b o,s2.heap.get? b=some o->b∈frs outer->∀vs,o.data≠.fields vs:=λb o e hb=>by
  obtain⟨_,o',ho',hd⟩:=J.Am.mem hb;rw[e]at ho';cases ho';exact hd
 have inB:∀b o,s2.heap.get? b=some o->((∃v,s.heap.get? b=some v)\/∃v,H2 b=some v)->b∉frs outer->B.get? b=some o:=λb o e hb hn=>hB b o e (was b hb) (nin b hb hn);have U:=Xv (P:=P) (w:=w) (h2:=h') J.base J.hok (λb hb=>by
   obtain⟨_,o,ho,_⟩:=J.ok.Am.mem hb;exact J.base.free b o ho (J.ok.frf b hb) (λz=>nomatch z)) (λb o e hb hn=>fl'.1 _ _ (inB b o e hb hn)) λb o e hb=>sm b o e (dat b o e hb)
 refine⟨ea,cls,a0,B,H2,rfl,J.os,J.bare,U.1,U.2,fl',λb o e hb hn=>?_,hE⟩;have there:∃v,s2.heap.get? b=some v:=by
  rcases hb with ⟨v,z⟩ | ⟨v,z⟩
  ·exact J.base.there b v z (λz=>nomatch z)
  ·exact K1 (J.hok b v z)
 obtain⟨v,z⟩:=there;have q:=inB b v z hb hn;have:=fl'.1 _ _ q;rw[e]at this;cases this;exact q
theorem YG{pins:At}{σ:L2.St}{H1:Hp}{s1:AJ}{C e:AH}{vs:AC}{h1:Heap}(I:Inv (Mg (S9 P w) P w K mg base N qual scope f cd A outer s H E) pins σ H1 s1)
  (hx:Heap.MadeExcOf s1.heap h1 e (.ref C) vs) (hE:E (.ref C) none H1):(Mg (S9 P w) P w K mg base N qual scope f cd A outer s H E).xe (.ref e) { s1 with heap:=h1 }:=by
 have L0:∀b o,s.heap.get? b=some o->b≠(envOfC qual scope s.heap.objs.size f cd).locals:=λb o e=>Nat.ne_of_lt (Nat.lt_of_lt_of_le (Heap.lt_size e) I.ok.above);have nin:∀b,((∃v,s.heap.get? b=some v)\/∃v,H1 b=some v)->b∉frs outer->b∉frs (envOfC qual scope s.heap.objs.size f cd::outer):=λb hb hn hm=>by
  rcases List.mem_cons.mp (I.JQ b hm)with z | z
  ·rcases hb with ⟨v,e⟩ | ⟨v,e⟩
   ·exact L0 b v e z
   ·rw[z]at e;have:=I.free;rw[e]at this;cases this
  ·exact hn z
 have fh:s1.heap.FunFrames (W.hideAll s1.heap (frs (envOfC qual scope s.heap.objs.size f cd::outer))) (envOfC qual scope s.heap.objs.size f cd::outer):=
  W.funFrames_hide I.stack λenv he b hb=>List.mem_filterMap.mpr ⟨env,he,hb⟩
 refine wpAny_leaves_madeW (s:={ s1 with heap:=h1 }) I.ok.frames rfl (λb o q=>W.of_hideAll _ q) fh hx λh' t fl _ _ sm=>?_;have inB:∀b o,s1.heap.get? b=some o->((∃v,s.heap.get? b=some v)\/∃v,H1 b=some v)->b∉frs outer->(W.hideAll s1.heap (frs (envOfC qual scope s.heap.objs.size f cd::outer))).get? b=some o:=
  λb o e hb hn=>W.hideAll_get _ e (nin b hb hn)
 have dat:∀b o,s1.heap.get? b=some o->b∈frs outer->∀vs,o.data≠.fields vs:=λb o e hb=>by
  obtain⟨_,o',ho',hd⟩:=I.Am.mem hb;rw[e]at ho';cases ho';exact hd
 have U:=Xv (P:=P) (w:=w) (h2:=h') I.base I.hok (λb hb=>by
   obtain⟨_,o,ho,_⟩:=I.ok.Am.mem hb;exact I.base.free b o ho (I.ok.frf b hb) (λz=>nomatch z)) (λb o e hb hn=>fl.1 _ _ (inB b o e hb hn)) λb o e hb=>sm b o (hx.keeps b o e) (dat b o e hb)
 refine⟨e,.ref C,.ref t,_,H1,rfl,I.os,I.bare,U.1,U.2,fl,λb o q hb hn=>?_,hE⟩;have there:∃v,s1.heap.get? b=some v:=by
  rcases hb with ⟨v,z⟩ | ⟨v,z⟩
  ·exact I.base.there b v z (λz=>nomatch z)
  ·exact K1 (I.hok b v z)
 obtain⟨v,z⟩:=there;have q2:=inB b v z hb hn;have:=fl.1 _ _ q2;rw[q]at this;cases this;exact q2
end
abbrev Zpw(K:aC)(C:AH):Prop:=W.excIn K C [.type "ValueError",.type "Exception",.type "BaseException",.type "object"] "ValueError.__new__"=true
theorem Zt5{K:aC}{h:Heap}{C:AH}{ms:AC}{ni:String}(X:K.In h)(q:W.excIn K C ms ni=true):
  ∃tl N nm ql bs hd sn sub ab col dd j0 j1 j2 j3 j5 mN,h.get? C=some (excClassObj nm ql C N bs tl hd sn sub ab col dd j0 j1 j2 j3 j5 ni)/\h.Ns N mN/\mN "__init__"=none/\OwnTail h ms tl:=by
 unfold W.excIn at q;split at q
 ·rename_i dd ZI7 slots hob
  split at q
  ·rename_i C2 tl j0 j1 j2 j3 n2 j5 em es
   simp only[Bool.and_eq_true,beq_iff_eq,Bool.not_eq_true']at q;obtain⟨⟨⟨⟨⟨e1,e2⟩,e3⟩,e4⟩,e5⟩,e6⟩:=q;subst e1 e2;obtain⟨c1,c2,c3,c4,c5,c6,c7,c8,c9,c10,c11⟩:=ZI7;dsimp only at em e3 e5 e6;subst em e3;have Zwr:slots=#[j0,j1,j2,j3,some (.builtin n2),j5]:=by
    obtain⟨ls⟩:=slots;simp only at es;rw[es]
   subst Zwr;refine⟨tl,c4,c1,c5,c2,c6,c7,c8,c9,c10,dd,j0,j1,j2,j3,j5,h.nsMap c4,X _ _ hob,?_,W.nsMap_none_of_in X e5 e6,W.tail_of_in X e4⟩;exact .of_isNs (W.isNs_of_in X e5)
  ·cases q
 ·cases q
section
variable {X:Cx}{x:Str}{C:AH}{np cpos pos:Pos}{e:AM}{es:AF}{ta:TA}{E:XK}
theorem HH(hc:X.calm=true)(hg:Gl X x)(hm:X.mg x=↑C)(hx:Zpw X.K C)(ha:PA X (e::es) ta)
  (hE:∀(pins:At) (σ:L2.St) (H:Hp) (s:AJ) (ea:AH) (vs:AC) (h1:Heap),Inv X pins σ H s->Heap.MadeExcOf s.heap h1 ea (.ref C) vs->E (.ref C) none H->X.xe (.ref ea) { s with heap:=h1 })
  (hs:starEach (e::es) X.env=(false,eval e X.env)::starEach es X.env:=by rfl) (hpl:(backTo cpos (starEach es X.env)).any (·.1)=false:=by rfl) (hd:(x == ("__debug__":Str))=false:=by decide):
  PS X (.Raise (some (.Call (.Name x np) (e::es) [] cpos)) none pos) (JL C E ta):=by
 intro pins s σ H D I h;obtain⟨tl,N,nm,ql,bs,hdd,sn,sub,ab,col,dd,j0,j1,j2,j3,j5,mN,hC,hN,hni,T⟩:=Zt5 I.ok.mod.kin hx;refine wpAny_Raise_call_subT (C:=C) (nm:=nm) (q:=ql) (N:=N) (bs:=bs) (bm:=tl) (hdct:=hdd) (sn:=sn) (sub:=sub) (ab:=ab) (col:=col) (dd:=dd) (k0:=j0) (k1:=j1) (k2:=j2) (k3:=j3) (k5:=j5) PySem.F.excBase_ValueError (mN:=mN)
  (T.hasType PySem.F.excBase_ValueError.hasBase) (I.ok.hd hc) ?_ hni (uA I hg hm ⟨rfl,?_⟩ hd)
 ·rw[hs];show(false || (backTo cpos (starEach es X.env)).any (·.1))=false;rw[hpl];rfl
 ·have q:=ha cpos pins s σ H _ I h;rw[hs]at q ⊢;refine Calls.evalArgs_plain (jw q λus s1 ⟨vs,H1,I1,r,l1,hE1⟩=>⟨rfl,?_,I1.bk _ _ hC,hN.keeps I1.bk,T.keeps I1.bk,λh1 ea hmade=>hE pins σ H1 s1 ea _ h1 I1 hmade hE1⟩);rw[<- r.length];exact Nat.le_trans l1 ε
end
def Zj5(CX:CXT)(X:Cx)(E:L2.St->XK):Prop:=∀(pins:At) (σ:L2.St) (H:Hp) (s:AJ) (e:AI) (s':AJ),Inv X pins σ H s->CX X.stack H s (E σ) e s'->X.xe e s'
section
variable {X:Cx}{CX:CXT}{k:Nat}{f C:AH}{fd:AK}{ps:AG}{sp:Sp}{vV:List V}{ds:AC}{E:L2.St->XK}{x m:Str}{p pos apos:Pos}{e o:AM}{es:AF}{ta:TE}{t:TA}
theorem Zqn{pins:At}{σ:L2.St}{H:Hp}{s:AJ}{Q:VK}{us:AC}{vs:List V}(F:vP X.prog X.w X.K X.mg X.base CX k f fd ps sp)(hr:Room k X.A)(hb:Binds X.K fd ps ds)(hd:Vals vV ds)(hx:Zj5 CX X E)
  (I:Inv X pins σ H s) (r:Vals vs us) (h:sp (vs++vV) H Q (E σ)):wpAny ς X.A (call (.ref f) us) (EP X pins σ Q) X.xe s:=by
 have r2:Vals (vs++vV) (us++ds):=r.append hd;have hl:(us++ds).length=ps.length:=by rw[<- r2.length];exact F.len _ _ _ _ h
 refine wpAny_call (codeAny_mono (F.run X.A X.stack s H ⟨us,[]⟩ (us++ds) (vs++vV) Q (E σ) hr I.env0 (hb s us I.Dk hl) r2 h) λr s' hq=>?_);cases r with
 | error e=>exact hx pins σ H s e s' I hq
 | ok fl=>
  cases fl with
  | ret u=>exact I.after hq
  | next=>exact False.elim hq
  | brk=>exact False.elim hq
  | cont=>exact False.elim hq
theorem Zn1(F:vP X.prog X.w X.K X.mg X.base CX k f fd ps sp)(hr:Room k X.A)(hg:Gl X x)(hm:X.mg x=↑f)(hk:W.keepIn X.K (.ref f)=true)(hb:Binds X.K fd ps ds)(hd:Vals vV ds)(hx:Zj5 CX X E)
  (ha:PA X (e::es) t) (hdb:(x == ("__debug__":Str))=false:=by decide) (he:starEach (e::es) X.env=(false,eval e X.env)::starEach es X.env:=by rfl) (hpl:(backTo pos (starEach es X.env)).any (·.1)=false:=by rfl):
  PE X (.Call (.Name x p) (e::es) [] pos) (Zeq sp vV E t):=by
 intro pins s σ H Q I h;refine wpAny_Call_Name_kw (uA I hg hm ?_ hdb);refine W.callWith_K (h₀:=X.base) I.ok.mod.kin hk (jw (ha pos pins s σ H _ I h) λus s1 ⟨vs,H1,I1,r,q⟩=>⟨I1.Dk,?_⟩) he hpl;exact Zqn F hr hb hd hx I1 r q
end
abbrev cxB(X:Cx)(pn:At)(xe:Ap):Cx:={ X with pn:=pn,xe:=xe }
abbrev cxH(X:Cx)(ea:AI)(pn:At):Cx:={ X with A:=X.A.mark (some ea),calm:=false,pn:=pn,xe:=λ_ _=>False }
section
variable {X:Cx}{pins:At}{σ:L2.St}{H:Hp}{s:AJ}
theorem Zv9(ok:X.Ok)(pn:At)(xe:Ap):(cxB X pn xe).Ok:=
 ⟨ok.mod,ok.kind,ok.glob,ok.blt,ok.above,ok.inj,ok.has,ok.cab,ok.hd,ok.frames,ok.stk,ok.exf,ok.bs,ok.bsz,ok.Zch,ok.Zhd,ok.Am,ok.frf⟩
theorem Zv8(ok:X.Ok)(ea:AI)(pn:At):(cxH X ea pn).Ok:=
 ⟨ok.mod,ok.kind,ok.glob,ok.blt,ok.above,ok.inj,ok.has,ok.cab,λz=>(nomatch z),ok.frames,ok.stk,ok.exf,ok.bs,ok.bsz,ok.Zch,ok.Zhd,ok.Am,ok.frf⟩
theorem Zud(I:Inv X pins σ H s)(xe:Ap):Inv (cxB X (X.pn++pins) xe) [] σ H s:=
 ⟨Zv9 I.ok _ _,I.os,I.bare,I.base,I.loc,I.cell,I.free,I.vz,λp hp=>I.pin p (by simpa using hp),I.hok,I.len⟩
theorem Rb{xe:Ap}{pl:At}(ok:X.Ok)(I:Inv (cxB X (X.pn++pins) xe) pl σ H s):Inv X pins σ H s:=
 ⟨ok,I.os,I.bare,I.base,I.loc,I.cell,I.free,I.vz,λp hp=>I.pin p (List.mem_append_left _ hp),I.hok,I.len⟩
theorem Zlt(I:Inv X pins σ H s)(ea:AI):Inv (cxH X ea (X.pn++pins)) [] σ H s:=
 ⟨Zv8 I.ok _ _,I.os,I.bare,I.base,I.loc,I.cell,I.free,I.vz,λp hp=>I.pin p (by simpa using hp),I.hok,I.len⟩
theorem Zm{ea:AI}{pl:At}(ok:X.Ok)(I:Inv (cxH X ea (X.pn++pins)) pl σ H s):Inv X pins σ H s:=
 ⟨ok,I.os,I.bare,I.base,I.loc,I.cell,I.free,I.vz,λp hp=>I.pin p (List.mem_append_left _ hp),I.hok,I.len⟩
theorem Zuo{xe:Ap}{D:Ends}{f:Flow}(ok:X.Ok)(h:SP (cxB X (X.pn++pins) xe) [] D f s):SP X pins D f s:=by
 cases f with
 | next=>obtain⟨σ',H',I,q⟩:=h;exact⟨σ',H',Rb ok I,q⟩
 | brk=>obtain⟨σ',H',I,q⟩:=h;exact⟨σ',H',Rb ok I,q⟩
 | cont=>obtain⟨σ',H',I,q⟩:=h;exact⟨σ',H',Rb ok I,q⟩
 | ret u=>obtain⟨v,σ',H',I,r,q⟩:=h;exact⟨v,σ',H',Rb ok I,r,q⟩
theorem Zun{ea:AI}{D:Ends}{f:Flow}(ok:X.Ok)(h:SP (cxH X ea (X.pn++pins)) [] D f s):SP X pins D f s:=by
 cases f with
 | next=>obtain⟨σ',H',I,q⟩:=h;exact⟨σ',H',Zm ok I,q⟩
 | brk=>obtain⟨σ',H',I,q⟩:=h;exact⟨σ',H',Zm ok I,q⟩
 | cont=>obtain⟨σ',H',I,q⟩:=h;exact⟨σ',H',Zm ok I,q⟩
 | ret u=>obtain⟨v,σ',H',I,r,q⟩:=h;exact⟨v,σ',H',Zm ok I,r,q⟩
theorem flown{ea:AH}{cls a0:AI}{B:Heap}{H2:Hp}{s2:AJ}{h3:Heap}(I:Inv X pins σ H s)(os:s2.os=s.os)(bare:AllBare s2.gens)(un:Un (frs X.stack) [] H H2 s.heap s2.heap)(ok:Dv X.prog X.w H2 s2.heap)
  (fl:Heap.FlyingW B X.stack ea cls a0 s2.heap) (hB:∀b o,s2.heap.get? b=some o->((∃v,s.heap.get? b=some v)\/∃v,H2 b=some v)->b∉frs X.stack->B.get? b=some o)
  (st:B.StaysIn h3) (sm:s2.heap.UpToSlots h3):Inv X pins σ H2 { s2 with heap:=h3 }:=by
 have fr:∀b∈frs X.stack,H2 b=none:=λb hb=>by
  obtain⟨_,o,ho,_⟩:=I.stack.mem hb;exact un.free b o ho (I.XD b hb) (λz=>nomatch z)
 have U:=Xv (P:=X.prog) (w:=X.w) (h2:=h3) un ok fr (λb o e hb hn=>st _ _ (hB b o e hb hn)) λb o e hb=>by
  obtain⟨_,o',ho',hd⟩:=fl.2.2.1.mem hb;rw[e]at ho';cases ho';exact sm b o e hd
 exact I.call' (s':={ s2 with heap:=h3 }) (ch:=[]) os U.1 U.2 bare (λb z=>nomatch z)
end
section
variable {X:Cx}{x:Str}{C:AH}{np pos hpos:Pos}{body suite:List Stmt}{b₀:Stmt}{Mt:AI->Prop}{tb:(L2.St->XK)->TS}{th:TS}
theorem Zux(hst:X.stack=X.env::X.outer/\X.env.frame=some X.env.locals)(hg:Gl X x)(hm:X.mg x=↑C)(hMt:∀c,Mt c->W.exmOne X.K c (.ref C)=some true)
  (hb:∀(E:L2.St->XK) (pn:At) (xe:Ap),Zj5 (S9 X.prog X.w) (cxB X pn xe) E->PSs (cxB X pn xe) body (tb E))
  (hs:∀(ea:AI) (pn:At),PSs (cxH X ea pn) (b₀::suite) th) (hd:(x == ("__debug__":Str))=false:=by decide):
  PS X (.Try body [.ExceptHandler (some (.Name x np)) none (b₀::suite) hpos] [] [] pos) (Zuj Mt tb th):=by
 intro pins s σ H D I h;refine wpAny_Try_except ?_;have hx:Zj5 (S9 X.prog X.w) (cxB X (X.pn++pins) λe s'=>∃ σ H s,Inv X pins σ H s/\S9 X.prog X.w X.stack H s (λcls _ H'=>Mt cls/\th D σ H') e s') (λσ' cls _ H'=>Mt cls/\th D σ' H'):=
  λpl σ H s e s' J z=>⟨σ,H,s,Rb I.ok J,z⟩
 refine wpAny_mono (hb _ _ _ hx [] s σ H D (Zud I _) h) (λf s1 q=>?_) λe s1 q=>?_
 ·have q:=Zuo I.ok q;cases f with
  | next=>exact wpAny_execs_nil q
  | ret v=>exact q
  | brk=>exact q
  | cont=>exact q
 ·obtain⟨σ1,H1,s0,J,ea,cls,a0,B,H2,rfl,os,bare,un,ok,fl,hB,hM,hth⟩:=q;have fl0:=fl;rw[hst.1]at fl0;refine wpAny_looks_onW (hst.1 ▸ J.ok.frames) hst.2 fl0 λh4 Zz2 sm4=>?_;refine wpAny_landsW Zz2 λh5 fl5 sm5=>?_;have Zxs:s1.heap.UpToSlots h5:=sm4.trans sm5;have J5:=flown J os bare un ok fl hB fl5.1 Zxs;refine wpAny_handleBy_cons (codeAny_handlers_test (uA (X:=cxH X (.ref ea) (X.pn++pins)) (Zlt J5 (.ref ea)) hg hm ?_ hd)) (by intro z;cases z);obtain⟨ob,hob,hoc⟩:=fl5.there;have LT:W.Looks ς h5 (typeOf (.ref ea)) cls:=hoc ▸ (W.Looks.ld hob).andThen .now;refine(W.exm_one J5.Dk LT (hMt cls hM)).here ?_;refine codeAny_handlers_suite ?_;refine lands_againW fl5 λh6 fl6 sm6=>?_;have J6:=flown J os bare un ok fl hB fl6.1 (Zxs.trans sm6);refine wpAny_mono (hs (.ref ea) (X.pn++pins) [] _ σ1 H2 D (Zlt J6 (.ref ea)) hth) (λf s2 q=>Zun I.ok q) λ_ _ z=>z.elim
end
section
variable {P:AL}{w:AN}{K:aC}{mg:As}{base:Heap}{x qual:Str}{st:Stmt}{f:AH}{fd:AK}{N ps:AG}{k:Nat}{sp:Sp}
theorem fok(F:jE K x qual st f fd)(S:aP N ps (aG st))(len:∀vs H Q E,sp vs H Q E->vs.length=ps.length)
  (hbody:∀(cdv:AI) (A:Around) (outer:List Env) (s:AJ) (H:Hp) (vs:List V) (Q:VK) (E:XK),Room k (A.deeper (envOfC qual (aG st) s.heap.objs.size f cdv))->sp vs H Q E->
   ∃t,PSs (Mg (S9 P w) P w K mg base N qual (aG st) f cdv A outer s H E).nox (kO st) t/\t { nx:=λ_ H'=>Q .non H',rt:=Q } (start N vs) H):vP P w K mg base (S9 P w) (k+1) f fd ps sp:=by
 obtain⟨oc,od,kV,doc,pm,an,cdv,ct,osl,rfl,lk,hcd⟩:=F.ex;refine Zp4 lk hcd S len λA outer s H vs Q E hr hsp=>?_;obtain⟨t,h,q⟩:=hbody cdv A outer s H vs Q E hr hsp;exact⟨t,h.nox,q⟩
theorem ZI6(F:jE K x qual st f fd)(S:aP N ps (aG st))(len:∀vs H Q E,sp vs H Q E->vs.length=ps.length)
  (hbody:∀(cdv:AI) (A:Around) (outer:List Env) (s:AJ) (H:Hp) (vs:List V) (Q:VK) (E:XK),Room k (A.deeper (envOfC qual (aG st) s.heap.objs.size f cdv))->sp vs H Q E->
   ∃t,PSs (Mg (S9 P w) P w K mg base N qual (aG st) f cdv A outer s H E) (kO st) t/\t { nx:=λ_ H'=>Q .non H',rt:=Q } (start N vs) H):vP P w K mg base (S9 P w) (k+1) f fd ps sp:=by
 obtain⟨oc,od,kV,doc,pm,an,cdv,ct,osl,rfl,lk,hcd⟩:=F.ex;exact Zp4 lk hcd S len λA outer s H vs Q E hr hsp=>hbody cdv A outer s H vs Q E hr hsp
theorem Zz5(F:Zxf K x qual st f fd)(S:aP N ps (aG st))(len:∀vs H Q E,sp vs H Q E->vs.length=ps.length)
  (hbody:∀(cdv:AI) (A:Around) (outer:List Env) (s:AJ) (H:Hp) (vs:List V) (Q:VK) (E:XK),Room k (A.deeper (envOfC qual (aG st) s.heap.objs.size f cdv))->sp vs H Q E->
   ∃t,PSs (Mg (S9 P w) P w K mg base N qual (aG st) f cdv A outer s H E) (kO st) t/\t { nx:=λ_ H'=>Q .non H',rt:=Q } (start N vs) H):vP P w K mg base (S9 P w) (k+1) f fd ps sp:=by
 obtain⟨oc,od,dV,kV,doc,pm,an,cdv,ct,osl,rfl,lk,hcd⟩:=F.ex;exact Zp4 lk hcd S len λA outer s H vs Q E hr hsp=>hbody cdv A outer s H vs Q E hr hsp
end
structure ZIn(K:aC)(C:AH):Prop where
 ga:W.findIn K (.ref C) "__getattribute__"=some (some (.builtin "BaseException.__getattribute__"))
 no:W.findIn K (.ref C) "__getattr__"=some none
 cl:W.findIn K (.ref C) "__class__"=some (some (.builtin "object.__class__"))
 so:W.mroIn K C (.type "object")=some true
 sb:W.mroIn K C (.type "BaseException")=some true
 is:W.hasDictIn K C=true
section
variable {prog:AL}{w:AN}{A:Around}{E:Ap}{h:Heap}{g:Array GenState}{d:Drawn}{t:Nat}{os:OsState}{a:AH}{o:Obj}{C:AH}{K:aC}
end
section
variable {X:Cx}
theorem vI:JK X (.type "list") (Gs X.K):=by
 intro pins s σ H xs us Q I r h;obtain⟨p,ys,rfl,hs,q⟩:=h;exact Js pins s σ H [.ref p] us Q I r ⟨p,ys,rfl,.inl hs,q⟩
theorem Xj{xs ys:List V}{us ws:AC}(rx:Vals xs us)(ry:Vals ys ws)(fx:xs.all qN=true)(fy:ys.all qN=true)(hl:xs.length=ys.length):
  (∀(A:Around) (s:AJ) (j:Nat) (h1:j<us.toArray.size) (h2:j<ws.toArray.size),SeqAt.EqAt A s us.toArray[j] ws.toArray[j] (match xs[j]?,ys[j]? with | some a,some b=>eqV a b | _,_=>false))/\
  (List.range us.toArray.size).all (λj=>match xs[j]?,ys[j]? with | some a,some b=>eqV a b | _,_=>false)=eqL xs ys:=by
 refine⟨λA s j h1 h2=>?_,?_⟩
 ·rw[List.size_toArray]at h1 h2;have l1:=rx.length;have l2:=ry.length;have a1:xs[j]? =some xs[j]:=bM δ;have a2:ys[j]? =some ys[j]:=bM δ;obtain⟨u,e1,r1⟩:=rx.get a1;obtain⟨w',e2,r2⟩:=ry.get a2;rw[bM h1]at e1;rw[bM h2]at e2;cases e1;cases e2;rw[a1,a2];exact Ao r1 r2 (List.all_eq_true.mp fx _ (List.getElem_mem δ)) (List.all_eq_true.mp fy _ (List.getElem_mem δ))
 ·rw[List.size_toArray,<- rx.length];unfold eqL;rw[beq_iff_eq.mpr hl,Bool.true_and,Bool.eq_iff_iff,List.all_eq_true,List.all_eq_true];constructor
  ·intro h p hp;obtain⟨j,hj,e⟩:=List.getElem_of_mem hp;rw[List.length_zip]at hj;have:=h j (List.mem_range.mpr δ);rw[bM (show j<xs.length by omega),bM (show j<ys.length by omega)]at this;rw[List.getElem_zip]at e;rw[<- e];exact this
  ·intro h j hj;have hj:=List.mem_range.mp hj;rw[bM (show j<xs.length by omega),bM (show j<ys.length by omega)];have hz:j<(xs.zip ys).length:=by rw[List.length_zip];omega
   have:=h _ (List.getElem_mem hz);rw[List.getElem_zip]at this;exact this
theorem Zis{xs ys:List V}(h:xs.length≠ys.length):eqL xs ys=false:=by
 unfold eqL;rw[show(xs.length == ys.length)=false by simpa using h,Bool.false_and]
theorem YX(hu:X.A.units+1<cLine):yM X (compareOp .Eq) (HF X.K false):=by
 intro pins s σ H x y v u Q I rx ry h;obtain⟨p,q',xs,ys,rfl,rfl,hx,hy,ff,q⟩:=h;cases rx;cases ry;obtain⟨us,r1,pl1,_⟩:=I.list hx;obtain⟨ws,r2,pl2,_⟩:=I.list hy;have hu':X.A.units<cLine:=δ
 by_cases hl:xs.length=ys.length
 ·obtain⟨e1,e2⟩:=Xj r1 r2 (ff hl).1 (ff hl).2 hl;refine SeqAt.eq_listAt pl1.isList pl2.isList (by rw[List.size_toArray,List.size_toArray,<- r1.length,<- r2.length];exact hl) hu' (λj h1 h2=>e1 _ _ j h1 h2) ?_;rw[e2];exact⟨.bl _,H,I,rfl,q⟩
 ·refine SeqAt.eq_list_lengthsAt pl1.isList pl2.isList ?_ hu' ?_
  ·rw[List.size_toArray,List.size_toArray,<- r1.length,<- r2.length];simpa using hl
  ·refine⟨.bl _,H,I,rfl,?_⟩;have:=q;rw[Zis hl]at this;exact this
end
theorem Zna:fastBuiltinMro "NoneType"=some [.type "NoneType",.type "object"]:=γ
section
variable {K:aC}{A:Around}{a C:AH}{o:Obj}
theorem Zws{M:Model}{E:Ap}{s:AJ}{Q:Unit->AJ->Prop}(LI:W.Looks M s.heap (isInstance (.ref a) (.type "object")) true)(hq:Q () s):wpAny M A (checkBuiltinCall "object.__eq__" ⟨[.ref a,.none],[]⟩) Q E s:=by
 have ha:=PySem.F.cmpArgs_eq (.ref a) .none;simp only[checkBuiltinCall,PySem.F.cmpKind_eq,PySem.F.cmpSplit_eq];refine wpAny_bind (LI.here ?_);simp only[Bool.not_true,Bool.false_eq_true,if_false];cases hsig:Manifest.signature? "object.__eq__" with
 | none=>exact wpAny_pure hq
 | some sig=>
  simp only[argsOk,hsig]at ha;have h2:Bind.checkArgs "object.__eq__" sig ⟨[.ref a,.none],[]⟩=pure ():=ha;show wpAny M A (Bind.checkArgs "object.__eq__" sig ⟨[.ref a,.none],[]⟩) Q E _;rw[h2];exact wpAny_pure hq
theorem Zt7{prog:AL}{w:AN}{E:Ap}{s:AJ}{Q:Ap}(LI:W.Looks ah s.heap (isInstance (.ref a) (.type "object")) true)(hq:Q .notImplemented s):
  wpAny ah A (call (.builtin "object.__eq__") [.ref a,.none]) Q E s:=by
 refine wpAny_call (codeAny_call_builtin PySem.F.cmp_object.eq.plain PySem.F.cmpEntry_eq (Zws LI ?_));obtain⟨h,g,d,t,os⟩:=s;unfold Builtin.«object.__eq__»
 repeat (first | with_reducible refine wpAny_bind (m:=isSame (.ref a) .none) (wpAny_pure ?_) | wp_step)
 exact hq
theorem Zub{prog:AL}{w:AN}{E:Ap}{s:AJ}{Q:AB->AJ->Prop}(X:K.In s.heap)(hx:s.heap.get? a=some o)(hc:o.cls=.ref C)(hE:EqD K C)(hq:Q none s):
  wpAny ah A (tryCompare (.ref a) "__eq__" .none) Q E s:=by
 have LT:W.Looks ah s.heap (typeOf (.ref a)) (.ref C):=hc ▸ (W.Looks.ld hx).andThen .now;have LI:W.Looks ah s.heap (isInstance (.ref a) (.type "object")) true:=LT.andThen (W.looks_mroIn X hE.ob);have LS:W.Looks ah s.heap (specialOf (.ref a) "__eq__") (some (.builtin "object.__eq__")):=LT.andThen (W.looks_findIn X hE.eq);simp only[tryCompare];refine wpAny_bind ?_;simp only[callSpecialIfBound?,bindSpecialIfBound?];refine wpAny_holding (wpAny_bind (wpAny_bind (LS.here ?_)));simp only[PySem.F.cmp_object.eq.bind];have fin:wpAny ah A (call (.builtin "object.__eq__") ([.ref a]++[.none]) >>= λv=>pure (some v)) (λr s'=>wpAny ah A (match r with | some .notImplemented | none=>pure none | some v=>pure (some v)) Q E s') E s:=
  wpAny_bind (Zt7 LI (wpAny_pure (wpAny_pure hq)))
 refine wpAny_bind (wpAny_askSetting (wpAny_ite ?_));split
 ·exact wpAny_bind (wpAny_pure (wpAny_pure fin))
 ·exact wpAny_tryCatch (wpAny_bind (wpAny_pure (wpAny_pure fin)))
theorem Zqp{s:AJ}(X:K.In s.heap)(hx:s.heap.get? a=some o)(hc:o.cls=.ref C)(hE:EqD K C)(hu:A.units<cLine):SeqAt.RcAt A s (.ref a) .none false:=λprog w E Q h=>by
 have LT:W.Looks ah s.heap (typeOf (.ref a)) (.ref C):=hc ▸ (W.Looks.ld hx).andThen .now;have hi:cmpInfo CmpOp.Eq=("==",("__eq__":Str),("__eq__":Str)):=rfl;have ho:oneThing? .Eq (.ref a) .none=none:=rfl;simp only[richCompare,hi,ho]
 try with_reducible refine wpAny_holding ?_
 refine wpAny_bind (wpAny_cRoomFor_or (.inr hu) ?_);refine wpAny_bind (LT.here (wpAny_bind (m:=typeOf .none) (wpAny_pure ?_)));have hne:(Value.ref C != Value.type "NoneType")=true:=ζ
 simp only[hne,if_true];have hs:isSubtype (.type "NoneType") (.ref C)=pure false:=by
  rw[isSubtype_type,Zna];rfl
 refine wpAny_bind (wpAny_of_eq hs ?_);simp only[Bool.false_eq_true,if_false,Bool.not_false,if_true];refine wpAny_bind (m:=tryCompare (.ref a) _ .none) (Zub X hx hc hE ?_);refine wpAny_bind (m:=tryCompare .none _ (.ref a)) (wpAny_tryCompare_declines (T:="NoneType") rfl PySem.F.slot_NoneType_eq_refl (call_gives PySem.F.slot_NoneType_eq_refl rfl PySem.F.entry_NoneType_eq (PySem.F.args_NoneType_eq_2 _ _) (SeqAt.NoneType___eq___none_ref_0 a) ⟨rfl,?_⟩));exact wpAny_bind (wpAny_rule (wpAny_bind (wpAny_of_eq (rfl:isSame (.ref a) .none=pure false) (wpAny_pure h))))
theorem Zt6{s:AJ}(X:K.In s.heap)(hx:s.heap.get? a=some o)(hc:o.cls=.ref C)(hE:EqD K C)(hu:A.units<cLine):SeqAt.EqAt A s (.ref a) .none false:=λprog w E Q h=>by
 unfold eqBool;refine wpAny_holding ?_;refine wpAny_ite_split (λhab=>absurd (eq_of_beq hab) nofun) (λ_=>?_);exact wpAny_bind (Zqp X hx hc hE hu prog w E _ (wpAny_truthy_bool h))
end
section
variable {X:Cx}
def Dc(u:AI):Bool:=match u with
 | .none=>true
 | _=>false
theorem Zcg{H:Hp}{y:V}{u:AI}(r:RelV y u)(h:y=.non\/∃a C dx fs,y=.ref a/\H a=some (.ins C dx fs)/\Fl X.K C/\EqD X.K C):Dc u=decide (y=.non):=by
 rcases h with rfl | ⟨a,_,_,_,rfl,_⟩
 ·obtain rfl:u=Value.none:=r;rfl
 ·obtain rfl:u=Value.ref a:=r;rfl
theorem Znc{pins:At}{σ:L2.St}{H:Hp}{s:AJ}{A:Around}{y:V}{u:AI}(I:Inv X pins σ H s)(hu:A.units<cLine)(r:RelV y u)(h:y=.non\/∃a C dx fs,y=.ref a/\H a=some (.ins C dx fs)/\Fl X.K C/\EqD X.K C):SeqAt.EqAt A s u .none (Dc u):=by
 rcases h with rfl | ⟨a,C,dx,fs,rfl,ha,hc,he⟩
 ·obtain rfl:u=Value.none:=r;exact SeqAt.EqAt.same .none
 ·obtain rfl:u=Value.ref a:=r;obtain⟨_,_,_,e,_⟩:=(show kj X.prog X.w H s.heap a (.ins C dx fs)from I.hok a _ ha);exact Zt6 I.Dk e rfl he hu
theorem Zcf{H:Hp}:∀{xs:List V}{us:AC},Vals xs us->OkN X.K H xs->us.any Dc=decide (V.non∈xs)
 | _,_,.nil,_=>rfl
 | y::xs,u::us,.cons r t,h=>by
  rw[List.any_cons,Zcf t λz hz=>h z (List.mem_cons_of_mem _ hz),Zcg r (h y List.mem_cons_self),Bool.eq_iff_iff];simp only[Bool.or_eq_true,decide_eq_true_eq,List.mem_cons];constructor
  ·rintro(z | z)
   ·exact .inl z.symm
   ·exact .inr z
  ·rintro(z | z)
   ·exact .inl z.symm
   ·exact .inr z
theorem Zcd{H:Hp}{pins:At}{σ:L2.St}{s:AJ}{A:Around}{xs:List V}{us:AC}(I:Inv X pins σ H s)(hu:A.units<cLine)(r:Vals xs us)(h:OkN X.K H xs):∀u∈us,SeqAt.EqAt A s u .none (Dc u):=by
 intro u hm;obtain⟨i,hi,rfl⟩:=List.getElem_of_mem hm;have hl:=r.length;have hx:xs[i]? =some xs[i]:=bM δ;obtain⟨u',e,ru⟩:=r.get hx;rw[bM hi]at e;cases e;exact Znc I hu ru (h _ (List.getElem_mem δ))
theorem Zju(hu:X.A.units+1<cLine):yM X (compareOp .NotIn) (Zuv X.K true):=by
 intro pins s σ H x y v u Q I rx ry h;obtain⟨p,xs,rfl,rfl,hs,hk,q⟩:=h;obtain rfl:v=Value.none:=rx;cases ry;obtain⟨us,r,pl,_⟩:=I.list hs;refine SeqAt.notIn_listAt Dc pl.isList (λw hw=>Zcd I (by show X.A.units+1<cLine;exact hu) r hk w (by simpa using hw)) ⟨.bl _,H,I,rfl,?_⟩;rw[show us.toArray.any Dc=us.any Dc by simp,Zcf r hk];exact q
theorem Zce{H:Hp}{xs:List V}{us:AC}(r:Vals xs us)(h:OkN X.K H xs)(j:Nat)(hj:j<us.length)(hj':j<xs.length):Dc us[j]=decide (xs[j]=V.non):=by
 obtain⟨u',e,ru⟩:=r.get (bM hj');rw[bM hj]at e;cases e;exact Zcg ru (h _ (List.getElem_mem hj'))
theorem Zk2(hu:X.A.units+1<cLine):MtR X "list.index" (Zib X.K):=by
 intro pins s σ H x xs v us Q I rx rs h;obtain⟨p,ys,rfl,rfl,hs,hk,hn,q⟩:=h;obtain rfl:v=Value.ref p:=rx;obtain⟨u,rfl,ru⟩:=Vals.one rs;obtain rfl:u=Value.none:=ru;obtain⟨ws,r,pl,hz⟩:=I.list hs;obtain⟨⟨cls,dd,data,sl⟩,ho,hc,n,hd⟩:=pl.isList;simp only at hc hd;subst hc hd;have hl:=r.length;have hj:ys.idxOf V.non<ys.length:=List.idxOf_lt_length_iff.mpr hn;have hz2:ys.length<2 ^ 62:=Nat.lt_of_le_of_lt hz ε;refine call_meets PySem.F.slot_list_index ⟨_,ho,rfl⟩ PySem.F.entry_list_index (PySem.F.args_list_index_2 _ _)
  (SeqAt.list_indexAt p ws.toArray n dd sl .none Dc (ys.idxOf V.non) (by simpa[hl]using hj) δ ?_ ?_) ⟨ho,λy hy=>Zcd I (by show X.A.units+1<cLine;exact hu) r hk y (by simpa using hy),⟨.int _,H,I.tok _,⟨_,rfl⟩,q⟩⟩
 ·show Dc ws[ys.idxOf V.non]=true;rw[Zce r hk _ δ hj,decide_eq_true_eq];exact List.getElem_idxOf hj
 ·intro j hjs hlt;show Dc ws[j]=false;rw[Zce r hk j (by simpa using hjs) δ,decide_eq_false_iff_not];intro e;have:=List.not_of_lt_findIdx (p:=(· == V.non)) (xs:=ys) hlt;simp[e]at this
theorem YW(hu:X.A.units+1<cLine):yM X (compareOp .NotEq) (HF X.K true):=by
 intro pins s σ H x y v u Q I rx ry h;obtain⟨p,q',xs,ys,rfl,rfl,hx,hy,ff,q⟩:=h;cases rx;cases ry;obtain⟨us,r1,pl1,_⟩:=I.list hx;obtain⟨ws,r2,pl2,_⟩:=I.list hy;have hu':X.A.units<cLine:=δ
 by_cases hl:xs.length=ys.length
 ·obtain⟨e1,e2⟩:=Xj r1 r2 (ff hl).1 (ff hl).2 hl;refine SeqAt.RcNeAt.lists pl1.isList pl2.isList (by rw[List.size_toArray,List.size_toArray,<- r1.length,<- r2.length];exact hl) hu' (λj h1 h2=>e1 _ _ j h1 h2) X.prog X.w X.xe _ ?_;rw[e2];exact⟨.bl _,H,I,rfl,q⟩
 ·refine SeqAt.RcNeAt.lists_lengths pl1.isList pl2.isList ?_ hu' X.prog X.w X.xe _ ?_
  ·rw[List.size_toArray,List.size_toArray,<- r1.length,<- r2.length];simpa using hl
  ·refine⟨.bl _,H,I,rfl,?_⟩;have:=q;rw[Zis hl]at this;exact this
end
end G
namespace G
open PySem L2
def JN(C:AH):TE:=λ_ H Q=>∀x dx,H x=none->H dx=none->dx≠x->Q (.ref x) (upd (upd H dx (.own x)) x (.ins C dx []))
theorem Zsf{C:AH}{σ:St}{H:Hp}{Q:VK}(h:∀x dx,H x=none->H dx=none->dx≠x->Q (.ref x) (upd (upd H dx (.own x)) x (.ins C dx []))):JN C σ H Q:=h
def JM(t u:TE):TE:=λσ H Q=>t σ H Q\/u σ H Q
theorem W0{t u:TE}{σ:St}{H:Hp}{Q:VK}(h:t σ H Q):JM t u σ H Q:=.inl h
theorem Jg{t u:TE}{σ:St}{H:Hp}{Q:VK}(h:u σ H Q):JM t u σ H Q:=.inr h
end G
namespace G
open PySem L2 PySem.Spec PyProof.Rows
section
variable {X:Cx}
theorem wj{e:AM}{t u:TE}(h1:PE X e t)(h2:PE X e u):PE X e (JM t u):=by
 intro pins s σ H Q I h;rcases h with h | h
 ·exact h1 pins s σ H Q I h
 ·exact h2 pins s σ H Q I h
structure Mk0(K:aC)(C:AH):Prop where
 makes:W.makesIn K C=true
 init:W.findIn K (.ref C) "__init__"=some (some (.builtin "object.__init__"))
 kp:W.keepIn K (.ref C)=true
theorem Zfk{C:AH}{pins:At}{σ:L2.St}{H:Hp}{s:AJ}{Q:VK}(M:Mk0 X.K C)(I:Inv X pins σ H s)
  (h:∀x dx,H x=none->H dx=none->dx≠x->Q (.ref x) (upd (upd H dx (.own x)) x (.ins C dx []))):wpAny ς X.A (call (.ref C) []) (EP X pins σ Q) X.xe s:=by
 have hq:=h ai s.heap.objs.size (I.hok.fresh (Nat.le_succ _)) (I.hok.fresh Δ) (Nat.ne_of_lt (Nat.lt_succ_self _));have I2:=Inv.made (C:=C) I;have Y:=W.makes_of (M:=model X.prog X.w) I.Dk M.makes;refine wpAny_call (Zk4 I.Dk M.makes M.init (λself=>W.Looks.of_pure (W.oi_bind self)) ?_);have e2:((s.heap.push W.emptyDict).push (W.instObj C s.heap.objs.size)).get? (s.heap.objs.size+1)=some (W.instObj C s.heap.objs.size):=by
  have:=Heap.get?_push_size (s.heap.push W.emptyDict) (o:=W.instObj C s.heap.objs.size) rfl;rw[Heap.size_push]at this;exact this
 have t1:W.Looks ς ((s.heap.push W.emptyDict).push (W.instObj C s.heap.objs.size)) (typeOf (.ref ai)) (.ref C):=(W.Looks.ld e2).andThen .now;have t2:W.Looks ς ((s.heap.push W.emptyDict).push (W.instObj C s.heap.objs.size)) (isInstance (.ref ai) (.type "object")) true:=t1.andThen (Y.top.keeps λb o e=>Heap.get?_push_of_some _ (Heap.get?_push_of_some _ e));refine codeAny_call_builtin W.oi_plain W.entry_oi (@W.check_slot ς _ _ _ "object.__init__" "object" "__init__" (.ref ai) [] [] _ W.oi_kind W.oi_split t2 (W.oi_args (.ref ai)) ?_);rw[W.oi_run];exact wpAny_pure (And.intro rfl ⟨V.ref ai,_,I2,rfl,hq⟩)
theorem Kr{C:AH}{x:Str}{p pos:Pos}(M:Mk0 X.K C)(hg:Gl X x)(hm:X.mg x=↑C)(hdb:(x == ("__debug__":Str))=false:=by decide):PE X (.Call (.Name x p) [] [] pos) (JN C):=by
 intro pins s σ H Q I h;refine wpAny_Call_Name_kw (uA I hg hm ?_ hdb);exact W.callWith_K0 I.Dk M.kp (Zfk M I h)
structure ZIm(K:aC)(C:AH):Prop where
 pg:W.plainGet K C "__class__"=true
 hd:W.hasDictIn K C=true
 cl:W.findIn K (.ref C) "__class__"=some (some (.builtin "object.__class__"))
 sp:W.specialIn K (.builtin "object.__class__") "__get__"=some (some (.builtin "getset_descriptor.__get__"))
 tk:W.takesIn K (.builtin "object.__class__")=some true
 so:W.mroIn K C (.type "object")=some true
end
end G
namespace G
open PySem L2
end G
namespace G
open PySem L2 PySem.Spec PyProof.Rows
def Ze2(w:AN):List DictEntry->List (Str×AH)->Prop
 | [],[]=>True
 | e::es,p::t=>e.hash=hashStr w p.1/\(∃tk,e.key=.str p.1 tk)/\e.val=.ref p.2/\Ze2 w es t
 | _,_=>False
def Tab(K:aC)(w:AN)(mg:As)(nm:Str)(Qd:List (Str×AH)):Prop:=
 ∃dd o es ep,mg nm=↑dd/\K.lookup dd=some o/\o.ExactDict/\o.data=.dict es ep/\Ze2 w es.toList Qd
theorem Ze2.keys{prog:AL}{w:AN}:∀{es:List DictEntry}{Qd:List (Str×AH)},Ze2 w es Qd->∀e∈es,∃k,(strKind prog w).is k e.key=true/\e.hash=(strKind prog w).hash k
 | [],_,_=>λe he=>absurd he List.not_mem_nil
 | e::es,[],h=>h.elim
 | e::es,p::t,h=>λx hx=>by
  obtain⟨h1,⟨tk,h2⟩,_,h4⟩:=h;rcases List.mem_cons.mp hx with rfl | hx
  ·refine⟨p.1,?_,h1⟩;rw[h2];show Value.isStrOf p.1 (.str p.1 tk)=true;simp[Value.isStrOf]
  ·exact Ze2.keys h4 x hx
theorem Ze2.find{w:AN}:∀{es:List DictEntry}{Qd:List (Str×AH)}{k:Str}{f:AH},Ze2 w es Qd->Qd.lookup k=some f->(es.find? λe=>Value.isStrOf k e.key).map (·.val)=↑f
 | [],[],_,_,_,h=>by cases h
 | [],_::_,_,_,h,_=>h.elim
 | _::_,[],_,_,h,_=>h.elim
 | e::es,p::t,k,f,h,hl=>by
  obtain⟨_,⟨tk,h2⟩,h3,h4⟩:=h;rw[List.find?_cons,h2]
  by_cases hk:k=p.1
  ·subst hk;have e1:Value.isStrOf p.1 (.str p.1 tk)=true:=by simp[Value.isStrOf]
   rw[e1];have e2:List.lookup p.1 (p::t)=some p.2:=by
    obtain⟨a,b⟩:=p;simp[List.lookup]
   rw[e2]at hl;cases hl;show some e.val=_;rw[h3]
  ·have e1:Value.isStrOf k (.str p.1 tk)=false:=by
    simp only[Value.isStrOf,beq_eq_false_iff_ne,ne_eq];exact λz=>hk z.symm
   rw[e1];have e2:List.lookup k (p::t)=List.lookup k t:=by
    obtain⟨a,b⟩:=p;simp only[List.lookup];rw[beq_eq_false_iff_ne.mpr hk]
   rw[e2]at hl;exact Ze2.find h4 hl
def Zq2(Qd:List (Str×AH))(ti:TE):TE:=λσ H Q=>ti σ H λy H1=>∃k f,y=.str k/\Qd.lookup k=some f/\Q (.ref f) H1
theorem Zyh{Qd:List (Str×AH)}{ti:TE}{σ:L2.St}{H:Hp}{Q:VK}(h:ti σ H λy H1=>∃k f,y=.str k/\Qd.lookup k=some f/\Q (.ref f) H1):Zq2 Qd ti σ H Q:=h
theorem Zmv{X:Cx}{nm:Str}{Qd:List (Str×AH)}{i:AM}{ti:TE}{p pos:Pos}(T:Tab X.K X.w X.mg nm Qd)(hg:Gl X nm)(hi:PE X i ti)(hs:Zth i)(hd:(nm == ("__debug__":Str))=false:=by decide):
  PE X (.Subscript (.Name nm p) i pos) (Zq2 Qd ti):=by
 intro pins s σ H Q I h;obtain⟨dd,o,es,ep,hm,hk,ho,hda,te⟩:=T;refine Zi7 PySem.F.slot_dict_getitem.lookup hs (uA I hg hm ?_ hd);refine jw (hi pins s σ H _ I h) λiv s2 ⟨y,H2,I2,ry,k,f,ey,l,q2⟩=>?_;subst ey;have hh:=I2.Dk dd o hk;refine⟨⟨o,hh,ho.1⟩,?_⟩;obtain⟨tk,rfl⟩:∃tk,iv=.str k tk:=ry;refine wpAny_getItem_of (knd:=strKind X.prog X.w) (k:=k) (f:=λk=>findBy Value.isStrOf es k) (by show Value.isStrOf k (.str k tk)=true;simp[Value.isStrOf]) ⟨o,es,ep,hh,ho,hda,λe he=>te.keys e (by simpa using he),λ_=>rfl⟩ (v:=.ref f) ?_ ⟨.ref f,H2,I2.tok _,rfl,q2⟩;show Option.map (λx=>x.val) (Array.find? (λe=>Value.isStrOf k e.key) es)=_;rw[<- Array.find?_toList];exact te.find l
def Th(P:AL)(w:AN)(K:aC)(mg:As)(base:Heap)(CX:CXT)(k:Nat)(ps:AG)(L:List (AH×Sp)):Prop:=
 ∀f sp,(f,sp)∈L->∃k' fd,k'<=k/\vP P w K mg base CX k' f fd ps sp/\W.keepIn K (.ref f)=true/\L2.Binds K fd ps []
theorem Th.nil{P:AL}{w:AN}{K:aC}{mg:As}{base:Heap}{CX:CXT}{k:Nat}{ps:AG}:Th P w K mg base CX k ps []:=λ_ _ h=>absurd h List.not_mem_nil
theorem Th.cons{P:AL}{w:AN}{K:aC}{mg:As}{base:Heap}{CX:CXT}{k k':Nat}{ps:AG}{L:List (AH×Sp)}{f:AH}{fd:AK}{sp:Sp}(hk:k'<=k)(F:vP P w K mg base CX k' f fd ps sp)(hb:L2.Binds K fd ps [])(hp:W.keepIn K (.ref f)=true)(t:Th P w K mg base CX k ps L):Th P w K mg base CX k ps ((f,sp)::L):=λg sp' h=>by
 rcases List.mem_cons.mp h with e | h
 ·cases e;exact⟨k',fd,hk,F,hp,hb⟩
 ·exact t g sp' h
def XC(i:Nat)(L:List (AH×Sp))(E:XK)(t:TA):TE:=λσ H Q=>∃f sp,σ[i]? =some (↑f)/\(f,sp)∈L/\t σ H λvs H1=>sp vs H1 Q E
theorem nO{i:Nat}{L:List (AH×Sp)}{E:XK}{t:TA}{σ:L2.St}{H:Hp}{Q:VK}{f:AH}(sp:Sp)(hf:σ[i]? =some (↑f))(hm:(f,sp)∈L)(h:t σ H λvs H1=>sp vs H1 Q E):XC i L E t σ H Q:=⟨f,sp,hf,hm,h⟩
theorem Zbx{X:Cx}{CX:CXT}{k i:Nat}{ps:AG}{L:List (AH×Sp)}{x:Str}{E:XK}{e:AM}{es:AF}{t:TA}{p pos:Pos}(F:Th X.prog X.w X.K X.mg X.base CX k ps L)(hr:Room k X.A)(hN:X.N[i]? =some x)(hv:Vis X.env.scope x)(hx:Passes CX X E)
  (ha:PA X (e::es) t) (hd:(x == ("__debug__":Str))=false:=by decide) (hcd:(x == ("__classdict__":Str))=false:=by decide) (he:starEach (e::es) X.env=(false,eval e X.env)::starEach es X.env:=by rfl) (hpl:(backTo pos (starEach es X.env)).any (·.1)=false:=by rfl):
  PE X (.Call (.Name x p) (e::es) [] pos) (XC i L E t):=by
 intro pins s σ H Q I h;obtain⟨f,sp,ef,hm,h⟩:=h;obtain⟨k',fd,hk,FO,hp,hb⟩:=F f sp hm;refine wpAny_Call_Name_kw (jw (Zmu hN hv hd hcd pins s σ H (λv H'=>v=.ref f/\H'=H) I ⟨_,ef,rfl,rfl⟩) λu s1 ⟨v,H1,I1,r,e1,e2⟩=>?_);subst e1 e2;obtain rfl:u=Value.ref f:=r;refine W.callWith_K (h₀:=X.base) I1.ok.mod.kin hp (jw (ha pos pins s1 σ H1 _ I1 h) λus s2 ⟨vs,H2,I2,r2,q2⟩=>⟨I2.Dk,?_⟩) he hpl;refine Yy (vV:=[]) FO (hr.mono hk) hb .nil hx I2 r2 ?_;rw[List.append_nil];exact q2
section
variable {σ:L2.St}{H:Hp}{Q:VK}{td ty tv:TE}{n bk ct:L2.St->Hp->Prop}{r:VK}
theorem Zwf(h:td σ H λx H1=>ty σ H1 λy H2=>∃a v,x=.ref a/\vQ H2 a y (some v)/\Q v H2):jm td ty σ H Q:=h
theorem Zom(h:ty σ H λy H1=>td σ H1 λx H2=>∃a o,x=.ref a/\vQ H2 a y o/\Q (.bl (!o.isSome)) H2):Xz ty td σ H Q:=h
theorem Zwd(h:tv σ H λv H1=>td σ H1 λx H2=>ty σ H2 λy H3=>∃a H4,x=.ref a/\V5 H3 a y v H4/\n σ H4):QC td ty tv ⟨n,r,bk,ct⟩ σ H:=h
theorem Zpl{a:AH}{kvs:List (L2.Key×V)}{z:Str}(e:H a=some (.dK kvs)):vQ H a (.str z) (tL kvs (Sum.inr z)):=vQ.k (k:=Sum.inr z) e
theorem Zz9{a:AH}{kvs:List (L2.Key×V)}{z:Str}{v:V}(e:H a=some (.dK kvs))(hl:kvs.length<sizeLine):V5 H a (.str z) v (upd H a (.dK (putK kvs (Sum.inr z) v))):=V5.k (k:=Sum.inr z) e hl
end
def Zti(K:aC)(J:It)(caps:List Nat)(tc:TT)(te:TE)(σ:L2.St)(H1:Hp)(Q:VK):Prop:=∃W:Nat->Nat->List V->Hp->Prop,(∃m,W 0 m [] H1)/\∀i m ys H,W i m ys H->
 (J.stop i H/\∀p,H p=none->Q (.ref p) (upd H p (.lst ys)))\/
 (J.go i H/\ys.length<sizeLine/\∀x H',J.yld i H x H'->∃a u v,x=.ref a/\fM K H' a [u,v]/\tc (some u::some v::caps.map (pick σ)) H' λk H2=>if k=true then te (some u::some v::caps.map (pick σ)) H2 (λy H3=>∃m',m'<m/\W (i+1) m' (ys++[y]) H3)else ∃m',m'<m/\W (i+1) m' ys H2)
def Zly(K:aC)(wi:TI)(caps:List Nat)(tc:TT)(te:TE):TE:=λσ H Q=>wi σ H λJ H1=>Zti K J caps tc te σ H1 Q
theorem Zw4{K:aC}{wi:TI}{caps:List Nat}{tc:TT}{te:TE}{σ:L2.St}{H:Hp}{Q:VK}(h:wi σ H λJ H1=>Zti K J caps tc te σ H1 Q):Zly K wi caps tc te σ H Q:=h
def Zzs(K:aC)(te:TE):TE:=λσ H Q=>∃a u v r,σ=↑a::r/\fM K H a [u,v]/\te (some u::some v::r) H Q
theorem Zik{K:aC}{J:It}{caps:List Nat}{te:TE}{σ:L2.St}{H:Hp}{Q:VK}(h:LCg J caps Az (Zzs K te) σ H Q):Zti K J caps Az te σ H Q:=by
 obtain⟨W,w0,step⟩:=h;refine⟨W,w0,λi m ys H hw=>?_⟩;rcases step i m ys H hw with z | ⟨g,l,st⟩
 ·exact .inl z
 ·refine .inr ⟨g,l,λx H' y=>?_⟩;have h1:=st x H' y;simp only[Az,↓reduceIte]at h1;obtain⟨a,u,v,r,e,hs,q⟩:=h1;cases e;refine⟨a,u,v,rfl,hs,?_⟩;simp only[Az,↓reduceIte];exact q
theorem Zft{X:Cx}{elt iter:AM}{x y:Str}{px py pt pos:Pos}{kt:Nat}{ifs:AF}{scope:Scope}{cl:List (Str×AH)}{wi:TI}{tc:TT}{te:TE}{cns:AG}(caps:List Nat)
  (hi:PI X (.Tuple [.Name x px,.Name y py] kt pt) iter wi)
  (hf:∀C s H ex pn,PF (Mh X scope cl (x::y::cns) C s H ex pn) ifs tc) (he:∀C s H ex pn,PE (Mh X scope cl (x::y::cns) C s H ex pn) elt te) (hc:X.calm=true)
  (hclos:closureFor scope X.env=pure cl) (hcl:AllIn X.env.cells cl) (hcap:Bh X cns caps)
  (hkind:scope.kind=.function) (hcell:(scope.names.all λp=>p.2 != .cell)=true) (hfree:(scope.names.all λp=>p.2 != .free || (cl.lookup p.1).isSome)=true)
  (hcf:(cns.all λy=>scope.names.lookup y == some .free)=true) (hnames:∀y∈scope.names,y.2=.local->scope.names.lookup y.1=some .local) (hx:scope.names.lookup x=some .local) (hy:scope.names.lookup y=some .local) (hnd:(x::y::cns).Nodup)
  (hs:∀v,foldedSetIterable iter X.env v=pure v:=by intro _;rfl):
  PE X (.ListComp elt [⟨.Tuple [.Name x px,.Name y py] kt pt,iter,ifs,0⟩] scope pos) (Zly X.K wi caps tc te):=by
 refine Zmy (ns:=[x,y]) (gt:=Zp0 X.K 2 (yL (aO 0) (yL (aO 1) Zl1))) caps (λJ σ H Q h=>?_) hi (λC s H ex pn=>YL hc (m7 (gJ hnd rfl (.inl (lookup_relabel_local hx)) (.inr (lookup_relabel_local hx))) (m7 (gJ hnd rfl (.inl (lookup_relabel_local hy)) (.inr (lookup_relabel_local hy))) HJ))) hf he hc hclos hcl hcap hkind hcell hfree hcf hnames hs;obtain⟨W,w0,turn⟩:=h;refine⟨W,w0,λi m ys H hw=>(turn i m ys H hw).imp id λ⟨g,l,st⟩=>⟨g,l,λz H' y vs hv=>?_⟩⟩;obtain⟨ta,u1,u2,ez,hst,st⟩:=st z H' y
 match vs,hv with
 | [v,v'],_=>exact⟨[some u1,some u2],rfl,⟨ta,_,ez,hst,rfl,_,_,rfl,_,_,rfl,rfl,rfl,rfl⟩,st⟩
theorem Zmo{X:Cx}{iz:Nat}{z:Str}{pz Zxx:Pos}{elt iter:AM}{x:Str}{px pos:Pos}{ifs:AF}{scope:Scope}{cl:List (Str×AH)}{wi:TI}{tc:TT}{te:TE}{cns:AG}(caps:List Nat)
  (hi:PI X (.Name x px) iter wi)
  (hf:∀C s H ex pn,PF (Mh X scope cl (x::cns) C s H ex pn) ifs tc) (he:∀C s H ex pn,PE (Mh X scope cl (x::cns) C s H ex pn) elt te) (hc:X.calm=true)
  (hclos:closureFor scope X.env=pure cl) (hcl:AllIn X.env.cells cl) (hcap:Bh X cns caps)
  (hkind:scope.kind=.function) (hcell:(scope.names.all λp=>p.2 != .cell)=true) (hfree:(scope.names.all λp=>p.2 != .free || (cl.lookup p.1).isSome)=true)
  (hcf:(cns.all λy=>scope.names.lookup y == some .free)=true) (hnames:∀y∈scope.names,y.2=.local->scope.names.lookup y.1=some .local) (hx:scope.names.lookup x=some .local) (hnd:(x::cns).Nodup)
  (hN:X.N.Nodup) (hiz:X.N[iz]? =some z) (hz:Loc X.env.scope z) (hfz:X.fn z=true\/X.env.scope.names.lookup z=some .local)
  (hsw:swapsWithSole [.Name z pz] (.ListComp elt [⟨.Name x px,iter,ifs,0⟩] scope pos) Zxx.line X.env=pure true) (hs:∀v,foldedSetIterable iter X.env v=pure v:=by intro _;rfl):
  PS X (.Assign [.Name z pz] (.ListComp elt [⟨.Name x px,iter,ifs,0⟩] scope pos) Zxx) (bI (tLC wi caps tc te) (aO iz)):=by
 intro pins s σ H D I h;generalize hQ:(λv H1=>aO iz v σ H1 D.nx)=Q;have h:tLC wi caps tc te σ H Q:=hQ ▸ h;rw[exec_Assign_arm];refine wpAny_bind (wpAny_standAt ?_);rw[hsw];refine wpAny_bind (wpAny_pure ?_);rw[if_pos rfl];refine wpAny_bind ?_;rw[evalThenUse]
 suffices key:wpAny ς X.A (comprehension (.ListComp elt [⟨.Name x px,iter,ifs,0⟩] scope pos) scope X.env (firstIterPos [⟨.Name x px,iter,ifs,0⟩] pos) (newList []) (firstAsync [⟨.Name x px,iter,ifs,0⟩]) (firstIter [⟨.Name x px,iter,ifs,0⟩] X.env) (some λv=>assignAll v ((assignEach [.Name z pz] X.env).map (·.2)))) (λ_ s'=>SP X pins D .next s') X.xe s from
  wpAny_bind (wpAny_mono key (λ_ s' h=>wpAny_pure (wpAny_pure h)) λ_ _ h=>h)
 refine Zil (ns:=[x]) (gt:=aO 0) (R:=λJ σ H Q=>LCg J caps tc te σ H Q) caps (λJ σ H Q h=>?_) hi (λC s H ex pn=>gJ hnd rfl (.inl (lookup_relabel_local hx)) (.inr (lookup_relabel_local hx))) hf he hc hclos hcl hcap hkind hcell hfree hcf hnames hs I h λacc C s6 m r0 hm fCC fin=>?_
 ·obtain⟨W,w0,turn⟩:=h;refine⟨W,w0,λi m ys H hw=>(turn i m ys H hw).imp id λ⟨g,l,st⟩=>⟨g,l,λz H' y vs hv=>?_⟩⟩
  match vs,hv with
  | [v],_=>exact⟨[some z],rfl,⟨rfl,rfl⟩,st z H' y⟩
 obtain⟨v,Hf,If,rf,qf,hfC⟩:=fin s6.heap (Heap.SameBut.refl _ _);have fC:uH X pins Hf C:=fCC hfC;obtain⟨oC,esC,epC,gC,dC,kC,nC⟩:=hm;have Ip:Inv X (pins++[(C,oC)]) σ Hf s6:=Inv.DK If λp hp=>by
  rcases List.mem_append.mp hp with hp | hp
  ·exact If.pin p (List.mem_append_right _ hp)
  ·rw[List.mem_singleton.mp hp];exact⟨gC,fC.1,fC.2.1,fC.2.2.1,λv z=>by rw[dC]at z;cases z⟩
 show wpAny _ _ (assign (.Name z pz) X.env (.ref acc)) _ _ _;refine wpAny_assign_Name (GX Ip hN hiz hz rf (λs7 I7=>?_) hfz);have g7:=(I7.pin (C,oC) (List.mem_append_right _ (List.mem_append_right _ List.mem_cons_self))).1;refine⟨m,⟨oC,esC,epC,g7,dC,kC,nC⟩,λh' hs'=>?_⟩;have I8:=I7.GP;have qf:D.nx (σ.set iz (some v)) Hf:=by rw[<- hQ]at qf;exact qf
 have kb:∀b o,b≠C->s7.heap.get? b=some o->h'.get? b=some o:=λb o hb e=>hs'.extBut b o hb e;refine⟨_,Hf,I8.step (ch:=[C]) (λb hb=>?_) (λb o _ _ hb e _=>kb b o (λz=>hb (by rw[z];exact List.mem_cons_self)) e) (λb o _ _ hb e _=>⟨o.slots,kb b o (λz=>hb (by rw[z];exact List.mem_cons_self)) e⟩) (λ_ _ _ _ h=>h) (λb o hb e=>⟨o,kb b o (λz=>hb (by rw[z];exact List.mem_cons_self)) e⟩) (λ_ _ h=>h) (λ_ _ _ h=>h) (λ_ ps h=>⟨#[],by simpa using h⟩) (λm' hm'=>?_) (λb u e=>?_) I8.bare,qf⟩
 ·rw[List.mem_singleton.mp hb];exact⟨fC.2.2.2.1,fC.2.1,fC.2.2.2.2.1,fC.2.2.2.2.2⟩
 ·obtain⟨o',e1,e2,e3,e4,e5⟩:=hm';exact⟨o',e1,e2,kb _ _ fC.2.1.symm e3,e4,e5⟩
 ·refine(I8.hok b u e).stay (λc w' hc q=>kb c w' ?_ q) (λ_ q=>q) λ_ _ q=>q;rintro rfl;rcases hc with rfl | hc
  ·rw[hfC]at e;cases e
  ·rw[hfC]at hc;cases hc
end G
namespace G
open PySem L2
def Ite(K:aC)(a:AH):It:=
 ⟨λi H=>∃xs x,cC K H a xs/\xs[i]? =some x,λi H x H'=>∃t v,x=.ref t/\H t=none/\H'=upd H t (.tup [.int i,v])/\∀xs,cC K H a xs->xs[i]? =some v,λi H=>∃xs,cC K H a xs/\xs.length<=i⟩
def Zdc(K:aC)(ta:TA):TI:=λσ H R=>ta σ H λvs H1=>∃a,vs=[.ref a]/\(∃xs,cC K H1 a xs)/\R (Ite K a) H1
theorem ZAn{K:aC}{ta:TA}{σ:L2.St}{H:Hp}{R:It->Hp->Prop}(h:ta σ H λvs H1=>∃a,vs=[.ref a]/\(∃xs,cC K H1 a xs)/\R (Ite K a) H1):Zdc K ta σ H R:=h
def Lg(v d:AH):HO:=.ext λh=>h.IsItemsView v d
def Zen(td:TE):TE:=λσ H Q=>td σ H λx H1=>∃a kvs,x=.ref a/\Rd H1 a (.dK kvs)/\∀v,H1 v=none->Q (.ref v) (upd H1 v (Lg v a))
theorem Zsi{td:TE}{σ:L2.St}{H:Hp}{Q:VK}(h:td σ H λx H1=>∃a kvs,x=.ref a/\Rd H1 a (.dK kvs)/\∀v,H1 v=none->Q (.ref v) (upd H1 v (Lg v a))):Zen td σ H Q:=h
def Ze3(H:Hp):AE->List (Key×V)->Prop
 | [],[]=>True
 | t::ts,kv::kvs=>H t=some (.tup [kV kv.1,kv.2])/\Ze3 H ts kvs
 | _,_=>False
def Zhs:List V->Hp->VK->Prop:=λxs H Q=>∃v a kvs,xs=[.ref v]/\H v=some (Lg v a)/\Rd H a (.dK kvs)/\∀l ts H',H l=none->bz H H'->H' l=some (.lst (ts.map V.ref))->Ze3 H' ts kvs->Q (.ref l) H'
theorem Zsh{H:Hp}{Q:VK}{v a:AH}{kvs:List (Key×V)}(h1:H v=some (Lg v a))(h2:Rd H a (.dK kvs))(h:∀l ts H',H l=none->bz H H'->H' l=some (.lst (ts.map V.ref))->Ze3 H' ts kvs->Q (.ref l) H'):Zhs [.ref v] H Q:=⟨v,a,kvs,rfl,h1,h2,h⟩
def Zsv(kvs:List (Key×V)):V->Option Bool
 | .int i=>some (tL kvs (.inl i)).isSome
 | .str x=>some (tL kvs (.inr x)).isSome
 | .non=>some false
 | _=>none
def Zm0(neg:Bool)(ty td:TE):TE:=λσ H Q=>ty σ H λy H1=>td σ H1 λx H2=>∃a kvs b,x=.ref a/\Rd H2 a (.dK kvs)/\Zsv kvs y=some b/\Q (.bl (if neg then !b else b)) H2
theorem Zwe{neg:Bool}{ty td:TE}{σ:L2.St}{H:Hp}{Q:VK}(h:ty σ H λy H1=>td σ H1 λx H2=>∃a kvs b,x=.ref a/\Rd H2 a (.dK kvs)/\Zsv kvs y=some b/\Q (.bl (if neg then !b else b)) H2):Zm0 neg ty td σ H Q:=h
section
variable {K:aC}{a:AH}{g:TG}{tb:TS}{σ:L2.St}{H:Hp}{n:L2.St->Hp->Prop}{r:VK}
theorem Zz4(xs:List V)(Pv:Nat->L2.St->Hp->Prop)(h0:Pv 0 σ H)(hl:∀i σ H,i<=xs.length->Pv i σ H->cC K H a xs)
  (hs:∀i x t σ H,xs[i]? =some x->Pv i σ H->H t=none->g (.ref t) σ (upd H t (.tup [.int i,x])) λσ2 H2=>tb ⟨Pv (i+1),r,n,Pv (i+1)⟩ σ2 H2) (hd:∀ σ H,Pv xs.length σ H->n σ H):
  ∃W:Nat->Nat->L2.St->Hp->Prop,(∃m,W 0 m σ H)/\∀i m σ H,W i m σ H->
   ((Ite K a).stop i H/\n σ H)\/((Ite K a).go i H/\∃N:L2.St->Hp->Prop,(∀ σ' H',N σ' H'->∃m',m'<m/\W (i+1) m' σ' H')/\∀x H',(Ite K a).yld i H x H'->g x σ H' λσ2 H2=>tb ⟨N,r,n,N⟩ σ2 H2):=by
 refine⟨λi m σ H=>i<=xs.length/\m=xs.length - i/\Pv i σ H,⟨xs.length,Nat.zero_le _,rfl,h0⟩,?_⟩;rintro i m σ H ⟨hi,rfl,p⟩;have hq:=hl i σ H hi p
 by_cases hk:i=xs.length
 ·subst hk;exact .inl ⟨⟨xs,hq,Nat.le_refl _⟩,hd σ H p⟩
 ·have hlt:i<xs.length:=δ
  have hx:xs[i]? =some xs[i]:=bM hlt;refine .inr ⟨⟨xs,_,hq,hx⟩,Pv (i+1),λσ' H' p'=>⟨xs.length - (i+1),δ,δ,rfl,p'⟩,?_⟩;rintro x H' ⟨t,v,rfl,ht,rfl,hv⟩;exact hs i v t σ H (hv xs hq) p ht
theorem Zs2{caps:List Nat}{tc:TT}{te:TE}{Q:VK}{xs:List V}(hs:cC K H a xs)(hz:xs.length<=1000000)(W:Nat->List V->Hp->Prop)(h0:W 0 [] H)(hst:∀i ys H1,W i ys H1->bz H H1/\ys.length<=i)
  (step:∀i x ys H1 t (C:List V->Hp->Prop),(∀zs H3,W (i+1) zs H3->C zs H3)->xs[i]? =some x->W i ys H1->H1 t=none->tc (some (.int i)::some x::caps.map (pick σ)) (upd H1 t (.tup [.int i,x])) λk H2=>if k=true then te (some (.int i)::some x::caps.map (pick σ)) H2 (λy H3=>C (ys++[y]) H3)else C ys H2)
  (q:∀ys H1,W xs.length ys H1->∀p,H1 p=none->Q (.ref p) (upd H1 p (.lst ys))):Zti K (Ite K a) caps tc te σ H Q:=by
 refine⟨λi m ys H1=>i<=xs.length/\m=xs.length - i/\W i ys H1,⟨xs.length,Nat.zero_le _,rfl,h0⟩,?_⟩;rintro i m ys H1 ⟨hi,rfl,w⟩;obtain⟨sm,hl⟩:=hst i ys H1 w;have hq:cC K H1 a xs:=sm.seq hs
 by_cases hk:i=xs.length
 ·subst hk;exact .inl ⟨⟨xs,hq,Nat.le_refl _⟩,q ys H1 w⟩
 ·have hlt:i<xs.length:=δ
  refine .inr ⟨⟨xs,_,hq,bM hlt⟩,Nat.lt_of_le_of_lt (show ys.length<=1000000 by omega) (show 1000000<sizeLine by decide),?_⟩;rintro x H' ⟨t,v,rfl,ht,rfl,hv⟩;exact⟨t,_,_,rfl,fM.of aq,step i v ys H1 t (λzs H3=>∃m',m'<xs.length - i/\i+1<=xs.length/\m'=xs.length - (i+1)/\W (i+1) zs H3) (λzs H3 w'=>⟨xs.length - (i+1),δ,δ,rfl,w'⟩) (hv xs hq) w ht⟩
end
end G
namespace G
open PySem L2 PySem.Spec PyProof.Rows
theorem Zkh{X:Cx}{pins:At}{σ:L2.St}{H:Hp}{s:AJ}{h':Heap}{t':Nat}{e it:AH}(I:Inv X pins σ H s)(k:∀b u,b≠e->b≠it->s.heap.get? b=some u->h'.get? b=some u)(fe:uH X pins H e)(fi:uH X pins H it):
  Inv X pins σ H { s with heap:=h',toks:=t' }:=by
 have ne:∀b u,H b=some u->b≠e:=λb u q z=>by rw[z,fe.1]at q;cases q
 have ni:∀b u,H b=some u->b≠it:=λb u q z=>by rw[z,fi.1]at q;cases q
 have nm:∀b,b∉[e,it]->b≠e/\b≠it:=λb hb=>⟨λz=>hb (by simp[z]),λz=>hb (by simp[z])⟩;refine I.step (g':=s.gens) (d':=s.drawn) (ch:=[e,it]) (λb hb=>?_) (λb o _ _ hc q _=>k b o (nm b hc).1 (nm b hc).2 q) (λb o _ _ hc q _=>⟨o.slots,k b o (nm b hc).1 (nm b hc).2 q⟩) (λ_ _ _ _ n=>n)
  (λb o hc q=>⟨o,k b o (nm b hc).1 (nm b hc).2 q⟩) (λ_ _ q=>q) (λ_ _ _ q=>q) (λb ps q=>⟨#[],by rw[q];simp⟩) (λm hm=>?_) (λb u q=>?_) I.bare
 ·rcases List.mem_cons.mp hb with z | z
  ·rw[z];exact⟨fe.2.2.2.1,fe.2.1,fe.2.2.2.2.1,fe.2.2.2.2.2⟩
  ·have z':b=it:=by simpa using z
   rw[z'];exact⟨fi.2.2.2.1,fi.2.1,fi.2.2.2.2.1,fi.2.2.2.2.2⟩
 ·obtain⟨o,es,ep,ho,r⟩:=hm;exact⟨o,es,ep,k _ o (Ne.symm fe.2.1) (Ne.symm fi.2.1) ho,r⟩
 ·refine(I.hok b u q).stay (λc v hc z=>?_) (λ_ z=>z) λ_ _ z=>z;rcases hc with y | y
  ·rw[y]at z ⊢;exact k b v (ne b u q) (ni b u q) z
  ·exact k c v (ne c _ y) (ni c _ y) z
theorem RT{X:Cx}{pins:At}{σ:L2.St}{H:Hp}{s:AJ}{h':Heap}{t':Nat}{e it a:AH}{o:HO}(I:Inv X pins σ H s)(k:∀b u,b≠e->b≠it->s.heap.get? b=some u->h'.get? b=some u)(fe:uH X pins H e)(fi:uH X pins H it)
  (ha:s.heap.objs.size<=a) (new:kj X.prog X.w (upd H a o) h' a o):Inv X pins σ (upd H a o) { s with heap:=h',toks:=t' }:=by
 have hn:=I.hok.fresh ha;have ne:∀b u,H b=some u->b≠e:=λb u q z=>by rw[z,fe.1]at q;cases q
 have ni:∀b u,H b=some u->b≠it:=λb u q z=>by rw[z,fi.1]at q;cases q
 have nm:∀b,b∉[e,it]->b≠e/\b≠it:=λb hb=>⟨λz=>hb (by simp[z]),λz=>hb (by simp[z])⟩;have na:∀b u,s.heap.get? b=some u->b≠a:=λb u q=>Nat.ne_of_lt (Nat.lt_of_lt_of_le (Heap.lt_size q) ha);refine I.step (g':=s.gens) (d':=s.drawn) (ch:=[e,it]) (λb hb=>?_) (λb o _ _ hc q _=>k b o (nm b hc).1 (nm b hc).2 q) (λb o _ _ hc q _=>⟨o.slots,k b o (nm b hc).1 (nm b hc).2 q⟩) (λb u _ q n=>(aB (na b u q)).trans n)
  (λb o hc q=>⟨o,k b o (nm b hc).1 (nm b hc).2 q⟩) (λb xs q=>(aB (aD q hn)).trans q) (λb o xs q=>(aB (aD q hn)).trans q) (λb ps q=>⟨#[],by rw[aB (aD q hn),q];simp⟩) (λm hm=>?_) (λb u q=>?_) I.bare
 ·rcases List.mem_cons.mp hb with z | z
  ·rw[z];exact⟨fe.2.2.2.1,fe.2.1,fe.2.2.2.2.1,fe.2.2.2.2.2⟩
  ·have z':b=it:=by simpa using z
   rw[z'];exact⟨fi.2.2.2.1,fi.2.1,fi.2.2.2.2.1,fi.2.2.2.2.2⟩
 ·obtain⟨o,es,ep,ho,r⟩:=hm;exact⟨o,es,ep,k _ o (Ne.symm fe.2.1) (Ne.symm fi.2.1) ho,r⟩
 ·by_cases hb:b=a
  ·subst hb;rw[aq]at q;cases q;exact new
  ·rw[aB hb]at q;refine(I.hok b u q).stay (λc v hc z=>?_) (λc z=>by rw[aB (aD z hn)];exact z) λc xs z=>by rw[aB (aD z hn)];exact z
   rcases hc with y | y
   ·rw[y]at z ⊢;exact k b v (ne b u q) (ni b u q) z
   ·exact k c v (ne c _ y) (ni c _ y) z
theorem Zj9{P:AL}{w:AN}{K:aC}{elts:AF}{x1:Nat}{pt:Pos}(a e it:AH)(hne:e≠it):
    Turn P w K (.Tuple elts x1 pt) (Ite K a) [e,it] e (λi h=>(∃old,IsEnum h e it ((i:Nat):Int) old)/\h.IsListIter it a i) where
  mem:=ζ
  obj:=λi h st b hb=>by
    obtain⟨⟨old,he⟩,o,ho,c,d⟩:=st;rcases List.mem_cons.mp hb with z | z
    · rw[z];exact⟨_,he,λv z=>by cases z⟩
    · have z':b=it:=by simpa using z
      rw[z'];exact⟨o,ho,λv z=>by rw[d]at z;cases z⟩
  keep:=λi h h' st k=>⟨let ⟨old,he⟩:=st.1;⟨old,k e ζ _ he⟩,st.2.at λo q=>k it ζ o q⟩
  item:=by
    intro X hP hw hK hc i pins s σ H E I hf st hg;subst hP hw hK;obtain⟨xs,x,hq,hx⟩:=hg;obtain⟨its,rv,p,hz⟩:=I.list hq;obtain⟨u,hu,ru⟩:=rv.get hx;obtain⟨⟨old,he⟩,hit⟩:=st;have fe:=hf e ζ;have fi:=hf it ζ;have hes:e<s.heap.objs.size:=Heap.lt_size he;have his:it<s.heap.objs.size:=by obtain⟨o,q,_⟩:=hit;exact Heap.lt_size q
    refine wpAny_pyNext_enum_item he hit p.isList (x:=u) (by simpa using hu) hne λh1 ho1 hit1 ht1 hz1 hk1=>?_;refine⟨_,rfl,wpAny_letOwnedTupleGo_enum (s:={ s with heap:=h1,toks:=s.toks+1 }) ho1 λh2 he2 hs2=>?_⟩
    replace hs2:Heap.SameBut e h1 h2:=hs2
    have hn:H s.heap.objs.size=none:=I.hok.fresh Δ;have I2:Inv X pins σ (upd H s.heap.objs.size (.tup [.int ((i:Nat):Int),x])) { s with heap:=h2,toks:=s.toks+1 }:=by
      refine RT I (λb v hb hb' q=>hs2.extBut b v hb (hk1 b v hb hb' q)) fe fi Δ ?_;refine⟨by show 2<=sizeLine;decide,[.int ((i:Nat):Int) s.toks,u],.cons ⟨_,rfl⟩ (.cons ru .nil),⟨_,hs2.extBut _ _ (Nat.ne_of_gt hes) ht1,rfl,_,rfl⟩⟩
    refine⟨.ref s.heap.objs.size,_,I2,rfl,⟨_,x,rfl,hn,rfl,λys hy=>by rw[I.Zcr hy hq];exact hx⟩,⟨⟨u,?_⟩,hit1.extBut hs2.extBut (Ne.symm hne)⟩,λb hb=>?_⟩
    · have e1:(((i+1:Nat)):Int)=(i:Int)+1:=δ
      show IsEnum h2 e it (((i+1:Nat)):Int) u;rw[e1];exact he2
    · rcases List.mem_cons.mp hb with z | z
      · rw[z,aB (Nat.ne_of_lt hes)];exact fe.1
      · have z':b=it:=by simpa using z
        rw[z',aB (Nat.ne_of_lt his)];exact fi.1
  done:=by
    intro X hP hw hK hc i pins s σ H E I hf st hg;subst hP hw hK;obtain⟨xs,hq,hx⟩:=hg;obtain⟨its,rv,p,hz⟩:=I.list hq;obtain⟨⟨old,he⟩,hit⟩:=st;have hl:=rv.length;exact wpAny_pyNext_enum_end (I.ok.hd hc) he hit p.isList (by simp;omega) λh' hx'=>⟨rfl,Zkh (t':=s.toks) I (λb o _ hb' q=>hx' b o hb' q) (hf e ζ) (hf it ζ)⟩
  self:=λA i s Q E st h=>let ⟨_,he⟩:=st.1;wpAny_pyIter_enum he h
theorem YK{X:Cx}{elts:AF}{x1:Nat}{pt:Pos}{l:AM}{ta:TA}{p pos:Pos}(hg:Gl X "enumerate")(hm:X.mg "enumerate"=none)(ha:PA X [l] ta)(hs:starEach [l] X.env=[(false,eval l X.env)]:=by rfl):
  PI X (.Tuple elts x1 pt) (.Call (.Name "enumerate" p) [l] [] pos) (Zdc X.K ta):=by
 intro pins s σ H R I h;refine Call_ (Gj I hg hm boot_enumerate (PyProof.Rows.callWith_type1 (jw (ha pos pins s σ H _ I h) λus s1 ⟨vs,H1,I1,r1,q1⟩=>?_) hs rfl));obtain⟨a,e,⟨xs,hq⟩,q⟩:=q1;subst e;cases r1 with
 | cons r rr=>
  cases rr;obtain rfl:_=Value.ref a:=r;obtain⟨its,rv,pl,hz⟩:=I1.list hq;refine call_enumerate_list pl.isList λh' he hit hsz hk=>?_;have I2:Inv X pins σ H1 { s1 with heap:=h' }:=I1.kept (t':=s1.toks) hk
  refine wpAny_pyIter_enum (s:={ s1 with heap:=h' }) he ?_;have hf:∀b,s1.heap.objs.size<=b->uH X pins H1 b:=λb hb=>I1.Zh3 hb (I1.hok.fresh hb);refine⟨_,[s1.heap.objs.size+1,s1.heap.objs.size],_,_,H1,rfl,I2,Zj9 a _ _ (Nat.succ_ne_self _),⟨⟨_,he⟩,hit⟩,λb hb=>?_,q⟩;rcases List.mem_cons.mp hb with z | z
  ·rw[z];exact hf _ (Nat.le_succ _)
  ·have z':b=s1.heap.objs.size:=by simpa using z
   rw[z'];exact hf _ Δ
theorem Zki{X:Cx}{pins:At}{σ:L2.St}{H:Hp}{s:AJ}{a:AH}{o:HO}(I:Inv X pins σ H s)(f:uH X pins H a)(new:kj X.prog X.w (upd H a o) s.heap a o):Inv X pins σ (upd H a o) s:=by
 have hn:=f.1;have r:Inv X pins σ (upd H a o) { s with heap:=s.heap,gens:=s.gens,drawn:=s.drawn,toks:=s.toks }:=by
  refine I.step (g':=s.gens) (t':=s.toks) (d':=s.drawn) (ch:=[a]) (λb hb=>?_) (λb u _ _ _ q _=>q) (λb u _ _ _ q _=>⟨u.slots,q⟩) (λb u hc q n=>(aB (λz=>hc (by simp[z]))).trans n) (λb u _ q=>⟨u,q⟩)
   (λb xs q=>(aB (aD q hn)).trans q) (λb u xs q=>(aB (aD q hn)).trans q) (λb ps q=>⟨#[],by rw[aB (aD q hn),q];simp⟩) (λm hm=>hm) (λb u q=>?_) I.bare
  ·have z:b=a:=by simpa using hb
   rw[z];exact⟨f.2.2.2.1,f.2.1,f.2.2.2.2.1,f.2.2.2.2.2⟩
  ·by_cases hb:b=a
   ·subst hb;rw[aq]at q;cases q;exact new
   ·rw[aB hb]at q;exact(I.hok b u q).stay (λc v _ z=>z) (λc z=>by rw[aB (aD z hn)];exact z) λc xs z=>by rw[aB (aD z hn)];exact z
 exact r
theorem Zh2{X:Cx}{pins:At}{H:Hp}{a b:AH}{o:HO}(f:uH X pins H b)(h:b≠a):uH X pins (upd H a o) b:=⟨(aB h).trans f.1,f.2⟩
theorem Zyc{P:AL}{w:AN}{k:Key}{u:AI}(h:(eN P w).is k u=true):RelV (kV k) u:=by
 rcases fP h with ⟨i,t,rfl,rfl⟩ | ⟨x,t,rfl,rfl⟩
 ·exact⟨t,rfl⟩
 ·exact⟨t,rfl⟩
theorem Zmz{X:Cx}{o:AM}{td:TE}{apos cpos:Pos}(ho:PE X o td)(hbase:attributeBase o "items" X.env (eval o X.env)=eval o X.env:=by rfl)(hline:(apos.endLine == cpos.line)=true:=by rfl):
  PE X (.Call (.Attribute o "items" apos) [] [] cpos) (Zen td):=by
 intro pins s σ H Q I h;refine wpAny_Call_method0_late hbase hline (jw (ho pins s σ H _ I h) λu s1 ⟨x,H1,I1,rx,a,kvs,ex,rd,q⟩=>?_);subst ex;obtain rfl:u=Value.ref a:=rx;obtain⟨t1,t2,hd⟩:=Zod I1 (.inl ⟨kvs,rd⟩);obtain⟨z,_,vs,rel,dd⟩:=Jp I1.hok rd;refine⟨"dict","dict.items",PySem.F.plainAttrs_dict,PySem.F.slot_dict_items,PySem.F.type_dict_items,t1,t2,Calls.callWith_builtin rfl (PySem.evalArgs_none ?_)⟩;refine call_meetsIn PySem.F.slot_dict_items t1 PySem.F.entry_dict_items (PySem.F.args_dict_items_1 _) (meets_dict_items (eN X.prog X.w) a hd) ⟨⟨vs,dd⟩,?_⟩;have hn:=I1.hok.fresh Δ;refine⟨.ref s1.heap.objs.size,_,I1.laid (t':=s1.toks) (λb u e=>Heap.get?_push_of_some _ e) Δ ?_,rfl,q _ hn⟩;exact⟨⟨_,Heap.get?_push_size _ rfl,rfl,rfl⟩,⟨_,Heap.get?_push_size _ rfl⟩,λh1 h2 ⟨o,ho,r⟩ k=>⟨o,k o ho,r⟩⟩
theorem MN{X:Cx}{pins:At}{σ:L2.St}{s:AJ}:∀(as:AE) (kvs:List (Key×V)) (vs:List (Key×AI)) (H:Hp),Inv X pins σ H s->as.Nodup->(∀a∈as,uH X pins H a)->as.length=kvs.length->KV kvs vs->
  (∀(j:Nat) (a:AH),as[j]? =some a->∃key k x,vs[j]? =some (k,x)/\(eN X.prog X.w).is k key=true/\s.heap.get? a=some { cls:=.type "tuple",data:=.seq #[key,x] })->
  ∃H',Inv X pins σ H' s/\bz H H'/\Ze3 H' as kvs
 | [],[],_,H,I,_,_,_,_,_=>⟨H,I,λ_ _ h=>h,trivial⟩
 | [],_::_,_,_,_,_,_,hl,_,_=>by simp at hl
 | _::_,[],_,_,_,_,_,hl,_,_=>by simp at hl
 | a::as,kv::kvs,vs,H,I,nd,fp,hl,r,pr=>by
  cases r with
  | cons rv rs=>
   rename_i q ws
   obtain⟨key,k,x,e,hk,hg⟩:=pr 0 a rfl;have e':q=(k,x):=by simpa using e
   subst e';obtain⟨rk,rx⟩:=rv;have fa:=fp a ζ;have na:a∉as:=(List.nodup_cons.mp nd).1;have rk':kv.1=k:=rk;have I1:Inv X pins σ (L2.upd H a (.tup [kV kv.1,kv.2])) s:=Zki I fa ⟨by show 2<=sizeLine;decide,[key,x],.cons (by rw[rk'];exact Zyc hk) (.cons rx .nil),⟨_,hg,rfl,_,rfl⟩⟩;obtain⟨H',I',sm,ps⟩:=MN as kvs ws _ I1 (List.nodup_cons.mp nd).2 (λb hb=>Zh2 (fp b (by simp[hb])) λz=>na (z ▸ hb)) (by simpa using hl) rs (λj b hb=>by simpa using pr (j+1) b (by simpa using hb));refine⟨H',I',λb o hb=>sm b o ?_,sm _ _ aq,ps⟩;rw[aB (aD hb fa.1)];exact hb
theorem Wu:∀as:AE,Vals (as.map V.ref) (as.map Value.ref)
 | []=>.nil
 | _::as=>.cons rfl (Wu as)
theorem Zhr{X:Cx}(hc:X.calm=true):JK X (.type "list") Zhs:=by
 intro pins s σ H xs us Q I r h;obtain⟨v,a,kvs,rfl,hv,rd,q⟩:=h;obtain⟨u,rfl,ru⟩:=Vals.one r;obtain rfl:u=Value.ref v:=ru;have hvw:s.heap.IsItemsView v a:=(show kj X.prog X.w H s.heap v (Lg v a)from I.hok v _ hv).1;obtain⟨z,hd,vs,rel,dd⟩:=Jp I.hok rd;obtain⟨ep,hm⟩:=dd.dictAt;have hl:=rel.length;refine W.kdx_call (I.ok.hd hc) hvw hm (by rw[<- hl];exact z) λh' tk acc c as hk hS hal hG hacc=>?_;have hn:=I.hok.fresh (Nat.le_refl s.heap.objs.size);have I1:Inv X pins σ (upd H s.heap.objs.size (.lst (as.map V.ref))) { s with heap:=h',toks:=tk }:=by
  refine I.laid hk Δ ⟨by rw[bx,hal,<- hl];exact z,acc.toList,c,by rw[hacc];exact Wu as,by rw[Array.toArray_toList];exact hS⟩
 have nd:as.Nodup:=hG.rise.imp λh=>Nat.ne_of_lt h;obtain⟨H',I',sm,ps⟩:=MN as kvs vs _ I1 nd (λb hb=>Zh2 (I.Zh3 (Nat.le_of_lt (hG.above b hb)) (I.hok.fresh (Nat.le_of_lt (hG.above b hb)))) (Nat.ne_of_gt (hG.above b hb))) (by rw[hal,hl]) rel (λj b hb=>hG.pairs j b hb);refine⟨.ref s.heap.objs.size,H',I',rfl,q _ as H' hn (λb o hb=>sm b o ?_) (sm _ _ aq) ps⟩;rw[aB (aD hb hn)];exact hb
theorem Zp2{X:Cx}{pins:At}{σ:L2.St}{H:Hp}{s:AJ}{a:AH}{o:Obj}{kvs:List (Key×V)}(I:Inv X pins σ H s)(h:H a=some (.dK kvs))(ho:s.heap.get? a=some o):Inv X pins σ (upd H a (.yU o (.dK kvs))) s:=by
 have ne:∀b u,H b=some u->u≠.dK kvs->b≠a:=λb u q n z=>n (by rw[z,h]at q;exact(Option.some.inj q).symm);have r:Inv X pins σ (upd H a (.yU o (.dK kvs))) { s with heap:=s.heap,gens:=s.gens,drawn:=s.drawn,toks:=s.toks }:=by
  refine I.step (g':=s.gens) (t':=s.toks) (d':=s.drawn) (ch:=[]) (λb hb=>nomatch hb) (λb u _ _ _ q _=>q) (λb u _ _ _ q _=>⟨u.slots,q⟩) (λb u hc q n=>(aB (λz=>by rw[z,h]at n;cases n)).trans n) (λb u _ q=>⟨u,q⟩)
   (λb xs q=>(aB (ne b _ q (λz=>by cases z))).trans q) (λb u xs q=>(aB (ne b _ q (λz=>by cases z))).trans q) (λb ps q=>⟨#[],by rw[aB (ne b _ q (λz=>by cases z)),q];simp⟩) (λm hm=>hm) (λb u q=>?_) I.bare
  have hs:∀c u,H c=some u->u≠.dK kvs->upd H a (.yU o (.dK kvs)) c=some u:=λc u z n=>by rw[aB (ne c u z n)];exact z
  by_cases hb:b=a
  ·subst hb;rw[aq]at q;cases q;exact⟨ho,(I.hok b _ h).stay (λc v _ z=>z) (λc z=>hs c _ z (λy=>by cases y)) λc xs z=>hs c _ z (λy=>by cases y)⟩
  ·rw[aB hb]at q;exact(I.hok b u q).stay (λc v _ z=>z) (λc z=>hs c _ z (λy=>by cases y)) λc xs z=>hs c _ z (λy=>by cases y)
 exact r
def Zvt:Option Key->AI->Bool
 | none,.none=>true
 | none,_=>false
 | some k,v=>IW k v
theorem mQ{k:Option Key}{v:AI}(h:Zvt k v=true):(k=none/\v=.none)\/∃j,k=some j/\IW j v=true:=by
 cases k with
 | none=>cases v<;>first | exact .inl ⟨rfl,rfl⟩ | cases h
 | some j=>exact .inr ⟨j,rfl,h⟩
theorem RD{j:Key}(h:IW j Value.none=true):False:=by
 rcases fP h with ⟨i,t,_,e⟩ | ⟨x,t,_,e⟩<;>cases e
def Zvj(P:AL)(w:AN):PySem.KeyKind P w (Option Key) where
  is:=Zvt
  hash:=λk=>match k with | none=>reduceHash 0xFCA86420 | some k=>Zyb w k
  inj:=λv a b ha hb=>by
    rcases mQ ha with ⟨rfl,rfl⟩ | ⟨i,rfl,h1⟩
    · rcases mQ hb with ⟨rfl,_⟩ | ⟨j,rfl,h2⟩
      · rfl
      · exact(RD h2).elim
    · rcases mQ hb with ⟨rfl,rfl⟩ | ⟨j,rfl,h2⟩
      · exact(RD h1).elim
      · rw[(eN P w).inj v i j h1 h2]
  byValue:=λk v h=>by
    rcases mQ h with ⟨rfl,rfl⟩ | ⟨i,rfl,h1⟩
    · rfl
    · exact(eN P w).byValue i v h1
  pyHash:=λ{A E s k v Q} hv h=>by
    rcases mQ hv with ⟨rfl,rfl⟩ | ⟨i,rfl,h1⟩
    · exact W.pyHash_slot (T:="NoneType") rfl F.slot_NoneType_hash F.entry_NoneType_hash (F.args_NoneType_hash_1 _) (beq_builtin_none _) (.inl rfl) (wpAny_bind (wpAny_pure (wpAny_bind (wpAny_mkInt (wpAny_pure ⟨_,_,rfl,h⟩)))))
    · exact(eN P w).pyHash h1 h
  eqBool:=λ{A E s a b u v Q} hu hv h=>by
    rcases mQ hu with ⟨rfl,rfl⟩ | ⟨i,rfl,h1⟩
    · rcases mQ hv with ⟨rfl,rfl⟩ | ⟨j,rfl,h2⟩
      · exact Ao (A:=A) (s:=s) (y:=.non) (x:=.non) rfl rfl rfl rfl P w E Q h
      · rcases fP h2 with ⟨n,t,rfl,rfl⟩ | ⟨x,t,rfl,rfl⟩
        · exact Ao (A:=A) (s:=s) (y:=.non) (x:=.int n) rfl ⟨t,rfl⟩ rfl rfl P w E Q h
        · exact Ao (A:=A) (s:=s) (y:=.non) (x:=.str x) rfl ⟨t,rfl⟩ rfl rfl P w E Q h
    · rcases mQ hv with ⟨rfl,rfl⟩ | ⟨j,rfl,h2⟩
      · rcases fP h1 with ⟨n,t,rfl,rfl⟩ | ⟨x,t,rfl,rfl⟩
        · exact Ao (A:=A) (s:=s) (y:=.int n) (x:=.non) ⟨t,rfl⟩ rfl rfl rfl P w E Q h
        · exact Ao (A:=A) (s:=s) (y:=.str x) (x:=.non) ⟨t,rfl⟩ rfl rfl rfl P w E Q h
      · refine(eN P w).eqBool h1 h2 ?_
        have e:decide (i=j)=decide (some i=some j):=by
          by_cases z:i=j
          · subst z;simp
          · rw[decide_eq_false z,decide_eq_false (λy=>z (Option.some.inj y))]
        rw[e];exact h
  «strs»:=λk x t v h=>by
    rcases mQ h with ⟨_,e⟩ | ⟨i,rfl,h1⟩
    · cases e
    · exact(eN P w).strs i x t v h1
theorem Znb{P:AL}{w:AN}{h:Heap}{a:AH}{vs:List (Key×AI)}(dd:h.DictOf (eN P w) a vs):∃f,h.MapOf (Zvj P w) a f/\f none=none:=by
 obtain⟨o,es,ep,ho,hc,hd,hk,hp,hn⟩:=dd;refine⟨λk=>findBy (Zvj P w).is es k,⟨o,es,ep,ho,hc,hd,λe he=>?_,λ_=>rfl⟩,?_⟩
 ·obtain⟨k,h1,h2⟩:=hk e he;exact⟨some k,h1,h2⟩
 ·show Option.map (λx=>x.val) (Array.find? (λe=>Zvt none e.key) es)=none;rw[Option.map_eq_none_iff,Array.find?_eq_none];intro e he;obtain⟨k,h1,_⟩:=hk e he;rcases fP h1 with ⟨n,t,_,z⟩ | ⟨x,t,_,z⟩<;>rw[z]<;>exact λy=>nomatch y
section
variable {X:Cx}{i o:AM}{ty td:TE}
theorem Zgz{kvs:List (Key×V)}{y:V}{b:Bool}(h:Zsv kvs y=some b):(∃k,y=kV k/\b=(tL kvs k).isSome)\/(y=.non/\b=false):=by
 cases y<;>simp only[Zsv,Option.some.injEq]at h<;>first | cases h
 ·exact .inr ⟨rfl,rfl⟩
 ·exact .inl ⟨.inl _,rfl,rfl⟩
 ·exact .inl ⟨.inr _,rfl,rfl⟩
theorem Zfu(hu:X.A.units+1<cLine)(hi:PE X i ty)(ho:PE X o td):PC X .NotIn i o (Zm0 true ty td):=by
 intro pins s σ H Q I h;refine jw (hi pins s σ H _ I h) λiv s1 ⟨y,H1,I1,ry,h1⟩=>?_;refine jw (ho pins s1 σ H1 _ I1 h1) λov s2 ⟨x,H2,I2,rx,a,kvs,b,ex,rd,hb,q⟩=>?_;subst ex;obtain rfl:ov=Value.ref a:=rx;rcases Zgz hb with ⟨k,rfl,rfl⟩ | ⟨rfl,rfl⟩
 ·exact Zix hu I2 (.inl ⟨kvs,k,rd,rfl,rfl⟩) ry λs' I'=>⟨.bl _,H2,I',rfl,q⟩
 ·obtain rfl:iv=Value.none:=ry;obtain⟨z,hd,vs,rel,dd⟩:=Jp I2.hok rd;obtain⟨f,hm,hf⟩:=Znb dd;refine wpAny_notIn_of (knd:=Zvj X.prog X.w) (k:=none) rfl hd hm ?_;rw[hf];exact⟨.bl _,H2,I2.tok _,rfl,q⟩
end
section
variable {X:Cx}
end
section
variable {X:Cx}{x1 x2 x3 x4:Str}{C1 C2 C3 C4:AH}{pos np1 np2 np3 np4 hp1 hp2 hp3 hp4:Pos}{body su1 su2 su3 su4:List Stmt}{b1 b2 b3 b4:Stmt}{M1 M2 M3 M4:AI->Prop}{tb:(L2.St->XK)->TS}{t1 t2 t3 t4:TS}
end
end G
namespace G
open PySem L2
end G
namespace G
open PySem L2 PySem.Spec PyProof.Rows
def MK(v d:AH):HO:=.ext λh=>h.IsValuesView v d
def Zlw(td:TE):TE:=λσ H Q=>td σ H λx H1=>∃a kvs,x=.ref a/\Rd H1 a (.dK kvs)/\∀v,H1 v=none->Q (.ref v) (upd H1 v (MK v a))
theorem Zvw{td:TE}{σ:L2.St}{H:Hp}{Q:VK}(h:td σ H λx H1=>∃a kvs,x=.ref a/\Rd H1 a (.dK kvs)/\∀v,H1 v=none->Q (.ref v) (upd H1 v (MK v a))):Zlw td σ H Q:=h
theorem Zjr{X:Cx}{o:AM}{td:TE}{apos cpos:Pos}(ho:PE X o td)(hbase:attributeBase o "values" X.env (eval o X.env)=eval o X.env:=by rfl)(hline:(apos.endLine == cpos.line)=true:=by rfl):
  PE X (.Call (.Attribute o "values" apos) [] [] cpos) (Zlw td):=by
 intro pins s σ H Q I h;refine wpAny_Call_method0_late hbase hline (jw (ho pins s σ H _ I h) λu s1 ⟨x,H1,I1,rx,a,kvs,ex,rd,q⟩=>?_);subst ex;obtain rfl:u=Value.ref a:=rx;obtain⟨t1,t2,hd⟩:=Zod I1 (.inl ⟨kvs,rd⟩);obtain⟨z,_,vs,rel,dd⟩:=Jp I1.hok rd;refine⟨"dict","dict.values",PySem.F.plainAttrs_dict,PySem.F.slot_dict_values,PySem.F.type_dict_values,t1,t2,Calls.callWith_builtin rfl (PySem.evalArgs_none ?_)⟩;refine call_meetsIn PySem.F.slot_dict_values t1 PySem.F.entry_dict_values (PySem.F.args_dict_values_1 _) (meets_dict_values (eN X.prog X.w) a hd) ⟨⟨vs,dd⟩,?_⟩;have hn:=I1.hok.fresh Δ;refine⟨.ref s1.heap.objs.size,_,I1.laid (t':=s1.toks) (λb u e=>Heap.get?_push_of_some _ e) Δ ?_,rfl,q _ hn⟩;exact⟨⟨_,Heap.get?_push_size _ rfl,rfl,rfl⟩,⟨_,Heap.get?_push_size _ rfl⟩,λh1 h2 ⟨o,ho,r⟩ k=>⟨o,k o ho,r⟩⟩
def Itv(a:AH)(o:Obj)(kvs:List (Key×V)):It:=
 ⟨λi H=>H a=some (.yU o (.dK kvs))/\i<kvs.length,λi H x H'=>H'=H/\∃kv,kvs[i]? =some kv/\x=kv.2,λi H=>H a=some (.yU o (.dK kvs))/\kvs.length<=i⟩
def Zop(te:TE):TI:=λσ H R=>te σ H λx H1=>∃v a kvs,x=.ref v/\H1 v=some (MK v a)/\H1 a=some (.dK kvs)/\∀o,R (Itv a o kvs) (upd H1 a (.yU o (.dK kvs)))
theorem ZAk{te:TE}{σ:L2.St}{H:Hp}{R:It->Hp->Prop}(h:te σ H λx H1=>∃v a kvs,x=.ref v/\H1 v=some (MK v a)/\H1 a=some (.dK kvs)/\∀o,R (Itv a o kvs) (upd H1 a (.yU o (.dK kvs)))):Zop te σ H R:=h
theorem Ww{α β:Type}{R:α->β->Prop}:∀{xs:List α}{ys:List β},Paired R xs ys->∀(i:Nat) x y,xs[i]? =some x->ys[i]? =some y->R x y
 | _,_,.nil,_,_,_,h,_=>by simp at h
 | _,_,.cons r rs,0,_,_,h1,h2=>by
  cases h1;cases h2;exact r
 | _,_,.cons r rs,i+1,_,_,h1,h2=>Ww rs i _ _ (by simpa using h1) (by simpa using h2)
theorem Zj7{P:AL}{w:AN}{K:aC}{tg:AM}(a it:AH)(o:Obj)(kvs:List (Key×V))(ep:Nat)(hep:∃es,o.data=.dict es ep):Turn P w K tg (Itv a o kvs) [it] it (λi h=>h.IsValIter it a i kvs.length ep) where
  mem:=ζ
  obj:=λi h st b hb=>by
    have e:b=it:=by simpa using hb
    subst e;obtain⟨o,e,c,d⟩:=st;exact⟨o,e,λv z=>by rw[d]at z;cases z⟩
  keep:=λi h h' st k=>by
    obtain⟨o,e,r⟩:=st;exact⟨o,k it ζ o e,r⟩
  item:=by
    intro X hP hw hK hc i pins s σ H E I hf st hg;subst hP hw hK;obtain⟨hz,hi⟩:=hg;obtain⟨ho,z,hd,vs,rel,dd⟩:s.heap.get? a=some o/\kvs.length<=sizeLine/\(a == sysModules)=false/\∃vs,KV kvs vs/\s.heap.DictOf (eN X.prog X.w) a vs:=I.hok a _ hz;obtain⟨ep',hm⟩:=dd.dictAt;obtain⟨es,hes⟩:=hep;have he:ep'=ep:=by
      obtain⟨o',es',ho',_,hd',_⟩:=id hm;rw[ho]at ho';cases ho';rw[hes]at hd';injection hd' with _ e;exact e.symm
    subst he;have hl:=rel.length;have hv:vs[i]? =some vs[i]:=bM δ;have hv2:kvs[i]? =some kvs[i]:=bM hi;have hk:RelV kvs[i].2 vs[i].2:=(Ww rel i _ _ hv2 hv).2;obtain⟨f0,f1,f2,f3,f4,f5⟩:=hf it ζ;rw[hl]at st;refine wpAny_pyNext_values_item st hm (k:=vs[i].1) (v:=vs[i].2) (by rw[hv]) λh' st' sb=>?_;have I1:Inv X pins σ H { s with heap:=h' }:=I.turned (t':=s.toks) (λb o hb e=>(sb.2 b hb).trans e) f0 f1 f3 f4 f5;obtain⟨oi,e,c,d⟩:=id st';exact⟨_,rfl,Zoy (s:={ s with heap:=h' }) e c d ε ⟨kvs[i].2,H,I1,hk,⟨rfl,_,hv2,rfl⟩,by rw[hl];exact st',λb hb=>(hf b hb).1⟩⟩
  done:=by
    intro X hP hw hK hc i pins s σ H E I hf st hg;subst hP hw hK;obtain⟨hz,hi⟩:=hg;obtain⟨ho,z,hd,vs,rel,dd⟩:s.heap.get? a=some o/\kvs.length<=sizeLine/\(a == sysModules)=false/\∃vs,KV kvs vs/\s.heap.DictOf (eN X.prog X.w) a vs:=I.hok a _ hz;obtain⟨ep',hm⟩:=dd.dictAt;obtain⟨es,hes⟩:=hep;have he:ep'=ep:=by
      obtain⟨o',es',ho',_,hd',_⟩:=id hm;rw[ho]at ho';cases ho';rw[hes]at hd';injection hd' with _ e;exact e.symm
    subst he;have hl:=rel.length;obtain⟨f0,f1,f2,f3,f4,f5⟩:=hf it ζ;rw[hl]at st;exact wpAny_pyNext_values_end (I.ok.hd hc) st hm (by rw[List.getElem?_eq_none];omega) λh' eb=>⟨rfl,I.turned (t':=s.toks) (λb o hb e=>eb b o hb e) f0 f1 f3 f4 f5⟩
  self:=λ_ _ _ _ _ st h=>wpAny_pyIter_valiter st h
theorem Zr5{X:Cx}{tg:AM}{e:AM}{te:TE}(he:PE X e te):PI X tg e (Zop te):=by
 intro pins s σ H R I h;refine jw (he pins s σ H _ I h) λu s1 ⟨x,H1,I1,r1,q1⟩=>?_;obtain⟨v,a,kvs,e,hv,hq,q⟩:=q1;subst e;obtain rfl:u=Value.ref v:=r1;have Zyy:s1.heap.IsValuesView v a:=(I1.hok v _ hv).1;obtain⟨z,hs,vs,rel,dd⟩:=Zpj I1.hok hq;obtain⟨ep,hm⟩:=dd.dictAt;obtain⟨o,es,ho,_,hes,_⟩:=id hm;refine wpAny_pyIter_values Zyy hm ?_;have I2:=Zp2 I1 hq ho;have hne:s1.heap.objs.size≠a:=Nat.ne_of_gt (Heap.lt_size ho);refine⟨s1.heap.objs.size,[s1.heap.objs.size],_,_,_,rfl,I2.kept (t':=s1.toks) λb o e=>Heap.get?_push_of_some _ e,Zj7 a _ o kvs ep ⟨es,hes⟩,?_,λb hb=>?_,q o⟩
 ·rw[rel.length];exact⟨_,Heap.get?_push_size _ rfl,rfl,rfl⟩
 ·have e:b=s1.heap.objs.size:=by simpa using hb
  subst e;exact Zh2 (I1.Zh3 Δ (I1.hok.fresh Δ)) hne
theorem Zja{X:Cx}{pins:At}{σ:L2.St}{H:Hp}{s:AJ}{a:AH}{o:Obj}{kvs:List (Key×V)}(I:Inv X pins σ H s)(h:H a=some (.yU o (.dK kvs)))(hn:∀o' u,X.H₀ a≠some (.yU o' u)):Inv X pins σ (upd H a (.dK kvs)) s:=by
 have ne:∀b u,H b=some u->u≠.yU o (.dK kvs)->b≠a:=λb u q n z=>n (by rw[z,h]at q;exact(Option.some.inj q).symm);have n0:∀b,H b=none->upd H a (.dK kvs) b=none:=λb q=>(aB (λz=>by rw[z,h]at q;cases q)).trans q;have hs:∀c u,H c=some u->u≠.yU o (.dK kvs)->upd H a (.dK kvs) c=some u:=λc u z n=>by rw[aB (ne c u z n)];exact z
 obtain⟨i1,i2,i3,i4,i5,i6,i7,i8,i9,i10,i11⟩:=I;refine⟨i1,i2,i3,⟨i4.keep,i4.slot,λb ob e n hx=>n0 b (i4.free b ob e n hx),i4.there,λb xs e=>hs b _ (i4.tups b xs e) (λz=>by cases z),λb ob u e=>(aB (a:=a) (b:=b) (λz=>hn ob u (by rw[<- z];exact e))).trans (i4.Lz b ob u e),λb ps e=>?_⟩,i5,i6,n0 _ i7,λx c e=>n0 _ (i8 x c e),λp hp=>?_,λb u q=>?_,i11⟩
 ·obtain⟨more,q⟩:=i4.NT b ps e;exact⟨more,hs b _ q (λz=>by cases z)⟩
 ·obtain⟨p1,p2,p3⟩:=i9 p hp;exact⟨p1,n0 _ p2,p3⟩
 ·by_cases hb:b=a
  ·subst hb;rw[aq]at q;cases q;exact(i10 b _ h).2.stay (λc v _ z=>z) (λc z=>hs c _ z (λy=>by cases y)) λc xs z=>hs c _ z (λy=>by cases y)
  ·rw[aB hb]at q;exact(i10 b u q).stay (λc v _ z=>z) (λc z=>hs c _ z (λy=>by cases y)) λc xs z=>hs c _ z (λy=>by cases y)
def Zlx(H0:Hp)(te:TE):TE:=λσ H Q=>te σ H λx H1=>∃a o kvs,H1 a=some (.yU o (.dK kvs))/\(∀o' u,H0 a≠some (.yU o' u))/\Q x (upd H1 a (.dK kvs))
theorem Zvx{H0:Hp}{te:TE}{σ:L2.St}{H:Hp}{Q:VK}(h:te σ H λx H1=>∃a o kvs,H1 a=some (.yU o (.dK kvs))/\(∀o' u,H0 a≠some (.yU o' u))/\Q x (upd H1 a (.dK kvs))):Zlx H0 te σ H Q:=h
theorem Zrd{X:Cx}{e:AM}{te:TE}(he:PE X e te):PE X e (Zlx X.H₀ te):=by
 intro pins s σ H Q I h;refine jw (he pins s σ H _ I h) λu s1 ⟨x,H1,I1,r1,a,o,kvs,ha,hn,q⟩=>?_;exact⟨x,_,Zja I1 ha hn,r1,q⟩
def Zuk(K:aC)(te:TE):TT:=λσ H Q=>te σ H λx H'=>∃k,Zpu K x H' k/\Q k H'
theorem Zty{K:aC}{te:TE}{σ:L2.St}{H:Hp}{Q:Bool->Hp->Prop}(h:te σ H λx H'=>∃k,Zpu K x H' k/\Q k H'):Zuk K te σ H Q:=h
theorem Zxj{K:aC}{H:Hp}{a:AH}{xs:List V}{P:Bool->Prop}(h:cC K H a xs)(q:P (!xs.isEmpty)):∃k,Zpu K (.ref a) H k/\P k:=⟨_,.inl ⟨xs,h,rfl⟩,q⟩
theorem Zoo{i:Nat}{c x:Int}{f:Int->Int->Int}{n:L2.St->Hp->Prop}{r:VK}{b ct:L2.St->Hp->Prop}{σ:L2.St}{H:Hp}(e:σ[i]? =some (some (.int x)))(h:n (σ.set i (some (.int (f x c)))) H):Zul i (tC (.int c)) (ipI f) ⟨n,r,b,ct⟩ σ H:=⟨_,e,x,c,rfl,rfl,h⟩
def Zpp(K:aC):List V->Hp->VK->Prop:=λxs H Q=>∃p ys,xs=[.ref p]/\(cC K H p ys\/fM K H p ys)/\∀l,H l=none->Q (.ref l) (upd H l (.lst ys))
theorem Zsg{K:aC}{H:Hp}{Q:VK}{p:AH}{ys:List V}(h1:fM K H p ys)(h:∀l,H l=none->Q (.ref l) (upd H l (.lst ys))):Zpp K [.ref p] H Q:=⟨p,ys,rfl,.inr h1,h⟩
def Dq(K:aC)(H:Hp):Nat->V->V->Prop
 | 0,x,y=>x=y/\qN x=true
 | d+1,x,y=>(x=y/\qN x=true)\/∃a b,x=.ref a/\y=.ref b/\(a=b\/∃xs ys,((cC K H a xs/\cC K H b ys)\/(fM K H a xs/\fM K H b ys))/\Al (Dq K H d) xs ys)
theorem Zt8{K:aC}{H:Hp}{d:Nat}{x:V}(h:qN x=true):Dq K H d x x:=by
 cases d with
 | zero=>exact⟨rfl,h⟩
 | succ d=>exact .inl ⟨rfl,h⟩
theorem R8{K:aC}{H:Hp}{d:Nat}:∀{xs:List V},xs.all qN=true->Al (Dq K H d) xs xs
 | [],_=>.nil
 | x::xs,h=>by
  rw[List.all_cons,Bool.and_eq_true]at h;exact .cons (Zt8 h.1) (R8 h.2)
def Zmg(K:aC)(neg:Bool):R2:=λx y H Q=>∃a b xs ys,x=.ref a/\y=.ref b/\((cC K H a xs/\cC K H b ys)\/(fM K H a xs/\fM K H b ys))/\Al (Dq K H 6) xs ys/\Q (.bl (!neg)) H
section
variable {X:Cx}
theorem Zdk:∀{x:V},qN x=true->eqV x x=true
 | .non,_=>rfl
 | .bl b,_=>by cases b<;>rfl
 | .int i,_=>by simp[eqV]
 | .str z,_=>by simp[eqV]
theorem Zz8{pins:At}{σ:L2.St}{H:Hp}{s:AJ}(I:Inv X pins σ H s):∀(d:Nat) {A:Around}{x y:V}{u v:AI},A.units+d<cLine->RelV x u->RelV y v->Dq X.K H d x y->SeqAt.EqAt A s u v true:=by
 intro d
 induction d with
 | zero=>
  intro A x y u v hu rx ry h;obtain⟨rfl,hf⟩:=h;have:=Ao (A:=A) (s:=s) rx ry hf hf;rw[Zdk hf]at this;exact this
 | succ d ih=>
  intro A x y u v hu rx ry h;rcases h with ⟨rfl,hf⟩ | ⟨a,b,rfl,rfl,h⟩
  ·have:=Ao (A:=A) (s:=s) rx ry hf hf;rw[Zdk hf]at this;exact this
  ·obtain rfl:u=Value.ref a:=rx;obtain rfl:v=Value.ref b:=ry
   by_cases e:a=b
   ·subst e;exact SeqAt.EqAt.same _
   rcases h with rfl | ⟨xs,ys,hs,al⟩
   ·exact absurd rfl e
   ·refine SeqAt.EqAt.of_refs e ?_;have hl:=al.length;have hu':A.units<cLine:=δ
    have item:∀{us ws:AC},Vals xs us->Vals ys ws->∀(j:Nat) (h1:j<us.toArray.size) (h2:j<ws.toArray.size),SeqAt.EqAt A.in1 s us.toArray[j] ws.toArray[j] true:=by
     intro us ws r1 r2 j h1 h2;rw[List.size_toArray]at h1 h2;have l1:=r1.length;have l2:=r2.length;have a1:xs[j]? =some xs[j]:=bM δ;have a2:ys[j]? =some ys[j]:=bM δ;obtain⟨u',e1,q1⟩:=r1.get a1;obtain⟨w',e2,q2⟩:=r2.get a2;rw[bM h1]at e1;rw[bM h2]at e2;cases e1;cases e2;obtain⟨x',e3,dq⟩:=al.get a2;rw[a1]at e3;cases e3;exact ih (A:=A.in1) (by show A.units+1+d<cLine;omega) q1 q2 dq
    rcases hs with ⟨ha,hb⟩ | ⟨ha,hb⟩
    ·obtain⟨us,r1,pl1,_⟩:=I.list ha;obtain⟨ws,r2,pl2,_⟩:=I.list hb;have:=SeqAt.RcAt.lists (A:=A) (e:=λ_=>true) pl1.isList pl2.isList (by rw[List.size_toArray,List.size_toArray,<- r1.length,<- r2.length];exact hl) hu' (λj h1 h2=>item r1 r2 j h1 h2);rw[show(List.range us.toArray.size).all (λ_=>true)=true from by rw[List.all_eq_true];intros;rfl]at this;exact this
    ·obtain⟨us,r1,pl1,_⟩:=I.tuple ha;obtain⟨ws,r2,pl2,_⟩:=I.tuple hb;have e0:us.toArray.size=ws.toArray.size:=by rw[List.size_toArray,List.size_toArray,<- r1.length,<- r2.length];exact hl
     have:=SeqAt.RcAt.tuples (A:=A) (e:=λ_=>true) pl1 pl2 hu' (λj h1 h2=>item r1 r2 j h1 h2);rw[show(List.range (min us.toArray.size ws.toArray.size)).all (λ_=>true)=true from by rw[List.all_eq_true];intros;rfl,e0]at this;simpa using this
theorem DR{pins:At}{σ:L2.St}{H:Hp}{s:AJ}(I:Inv X pins σ H s){A:Around}(hu:A.units+8<cLine){xs ys:List V}{us ws:AC}(al:Al (Dq X.K H 6) xs ys)(r1:Vals xs us)(r2:Vals ys ws)(j:Nat)(h1:j<us.toArray.size)(h2:j<ws.toArray.size):SeqAt.EqAt A.in1 s us.toArray[j] ws.toArray[j] true:=by
 rw[List.size_toArray]at h1 h2;have l1:=r1.length;have l2:=r2.length;have a1:xs[j]? =some xs[j]:=bM δ;have a2:ys[j]? =some ys[j]:=bM δ;obtain⟨u',e1,q1⟩:=r1.get a1;obtain⟨w',e2,q2⟩:=r2.get a2;rw[bM h1]at e1;rw[bM h2]at e2;cases e1;cases e2;obtain⟨x',e3,dq⟩:=al.get a2;rw[a1]at e3;cases e3;exact Zz8 I 6 (A:=A.in1) (by show A.units+1+6<cLine;omega) q1 q2 dq
theorem Zv3(hu:X.A.units+64<cLine):yM X (compareOp .Eq) (Zmg X.K false):=by
 intro pins s σ H x y v u Q I rx ry h;obtain⟨p,q',xs,ys,rfl,rfl,hs,al,q⟩:=h;obtain rfl:v=Value.ref p:=rx;obtain rfl:u=Value.ref q':=ry;have hl:=al.length;rcases hs with ⟨ha,hb⟩ | ⟨ha,hb⟩
 ·obtain⟨us,r1,pl1,_⟩:=I.list ha;obtain⟨ws,r2,pl2,_⟩:=I.list hb;refine SeqAt.eq_listAt (e:=λ_=>true) pl1.isList pl2.isList (by rw[List.size_toArray,List.size_toArray,<- r1.length,<- r2.length];exact hl) δ (DR I δ al r1 r2) ?_;rw[show(List.range us.toArray.size).all (λ_=>true)=true from by rw[List.all_eq_true];intros;rfl];exact⟨.bl _,H,I,rfl,q⟩
 ·obtain⟨us,r1,pl1,_⟩:=I.tuple ha;obtain⟨ws,r2,pl2,_⟩:=I.tuple hb;have e0:us.toArray.size=ws.toArray.size:=by rw[List.size_toArray,List.size_toArray,<- r1.length,<- r2.length];exact hl
  refine SeqAt.eq_tupleAt (e:=λ_=>true) pl1 pl2 δ (DR I δ al r1 r2) ?_;rw[show(List.range (min us.toArray.size ws.toArray.size)).all (λ_=>true)=true from by rw[List.all_eq_true];intros;rfl,e0];simp only[beq_self_eq_true,Bool.and_self];exact⟨.bl _,H,I,rfl,q⟩
theorem Zv1(hu:X.A.units+64<cLine):yM X (compareOp .NotEq) (Zmg X.K true):=by
 intro pins s σ H x y v u Q I rx ry h;obtain⟨p,q',xs,ys,rfl,rfl,hs,al,q⟩:=h;obtain rfl:v=Value.ref p:=rx;obtain rfl:u=Value.ref q':=ry;have hl:=al.length;rcases hs with ⟨ha,hb⟩ | ⟨ha,hb⟩
 ·obtain⟨us,r1,pl1,_⟩:=I.list ha;obtain⟨ws,r2,pl2,_⟩:=I.list hb;have:=SeqAt.RcNeAt.lists (A:=X.A) (s:=s) (e:=λ_=>true) pl1.isList pl2.isList (by rw[List.size_toArray,List.size_toArray,<- r1.length,<- r2.length];exact hl) δ (DR I δ al r1 r2);rw[show(List.range us.toArray.size).all (λ_=>true)=true from by rw[List.all_eq_true];intros;rfl]at this;exact this _ _ _ _ ⟨.bl _,H,I,rfl,q⟩
 ·obtain⟨us,r1,pl1,_⟩:=I.tuple ha;obtain⟨ws,r2,pl2,_⟩:=I.tuple hb;have e0:us.toArray.size=ws.toArray.size:=by rw[List.size_toArray,List.size_toArray,<- r1.length,<- r2.length];exact hl
  have:=SeqAt.RcNeAt.tuples (A:=X.A) (s:=s) (e:=λ_=>true) pl1 pl2 δ (DR I δ al r1 r2);rw[show(List.range (min us.toArray.size ws.toArray.size)).all (λ_=>true)=true from by rw[List.all_eq_true];intros;rfl,e0]at this;simp only[beq_self_eq_true,Bool.and_self]at this;exact this _ _ _ _ ⟨.bl _,H,I,rfl,q⟩
theorem Zu0{K:aC}{neg:Bool}{H:Hp}{Q:VK}{a b:AH}{xs ys:List V}(hs:(cC K H a xs/\cC K H b ys)\/(fM K H a xs/\fM K H b ys))(al:Al (Dq K H 6) xs ys)(q:Q (.bl (!neg)) H):Zmg K neg (.ref a) (.ref b) H Q:=⟨a,b,xs,ys,rfl,rfl,hs,al,q⟩
end
end G
namespace G
open PySem L2
def Zic(K:aC):V->V->Hp->VK->Prop:=λx y H Q=>∃p xs i v,x=.ref p/\y=.int i/\cC K H p xs/\0<=i/\atI xs i=some v/\Q v H
theorem R0{X:Cx}:Zzl X (Zic X.K):=by
 intro pins s σ H x y v u Q I rx ry h;obtain⟨p,xs,i,z,rfl,rfl,hq,h0,he,q⟩:=h;cases rx;obtain⟨t,rfl⟩:=ry;obtain⟨its,r,pl,hz⟩:=I.list hq;obtain⟨j,h1,h2,h3,h4,h5⟩:=Pk he;obtain⟨w,ew,rw'⟩:=r.get h2;have hl:=r.length;have hn:=Dh;have hj:i.toNat=j:=by
  rw[seqIndex_of h0 h5]at h1;exact Option.some.inj h1
 exact wpAny_getItem_list pl.isList h0 δ (by rw[hj];simpa using ew) ⟨z,H,I,rw',q⟩
end G
namespace G
open PySem L2 PySem.Spec PyProof.Rows
section
variable {X:Cx}{pos:Pos}
def Zu4(K:aC)(n:Nat)(t:TGs):TG:=λv σ H Q=>∃a xs,v=.ref a/\cC K H a xs/\xs.length=n/\t xs σ H Q
theorem Zr6{es:AF}{k:Nat}{t:TGs}{n:Nat}(hc:X.calm=true)(h:PGs X es t)
  (hn:(assignEach es X.env).length=n:=by rfl) (hst:(assignEach es X.env).findIdx? (·.1)=none:=by rfl):PG X (.Tuple es k pos) (Zu4 X.K n t):=by
 intro pins s σ H v u Q I r hw;obtain⟨a,xs,e1,hq,hl,hw⟩:=hw;subst e1;cases r;obtain⟨its,rv,pl,hz⟩:=I.list hq;rw[assign_Tuple];refine wpAny_bind (wpAny_standAt ?_);unfold unpack;rw[hst,show(assignEach es X.env).length=its.toArray.size by simp[hn,<- hl,rv.length]];refine wpAny_bind (wpAny_holding (W.kun_itemsOf (I.ok.hd hc) pl.isList λh' hx=>?_));have I1:Inv X pins σ H { s with heap:=h' }:=I.kept (t':=s.toks) λb o e=>hx b o (Nat.ne_of_lt (Heap.lt_size e)) e;exact h pins _ σ H xs _ Q I1 (by simpa using rv) hw
theorem Nz:∀{i:Nat}{ns:AD},ns.Nodup->i<=ns.length->firstMet (λi=>ns.getD i 0) i=ns.take i
 | 0,_,_,_=>by rw[firstMet_zero,List.take_zero]
 | i+1,ns,nd,h=>by
  have hi:i<ns.length:=h;have e:=Nz (i:=i) nd (Nat.le_of_lt h);rw[firstMet_succ,e,List.take_add_one,bM hi];have eg:ns.getD i 0=ns[i]:=by rw[List.getD_eq_getElem?_getD,bM hi];rfl
  rw[eg];have nm:¬ (ns.take i).any (· == ns[i])=true:=by
   intro q;obtain⟨x,hx,ex⟩:=List.any_eq_true.mp q;obtain⟨j,hj,ej⟩:=List.mem_take_iff_getElem.mp hx;have:ns[j]' δ=ns[i]:=by rw[ej];simpa using ex
   have:=(List.getElem_inj nd).mp this;omega
  unfold step_dedup;rw[if_neg nm];rfl
def Zi5(K:aC)(te:TE):TE:=λσ H Q=>te σ H λv H1=>∃(a:AH) (ns:AD),v=.ref a/\cC K H1 a (ns.map V.int)/\ns.length<4000/\Q (.int (firstMet (λi=>ns.getD i 0) ns.length).length) H1
theorem Zjs{p p' pos':Pos}{e:AM}{te:TE}(hc:X.calm=true)(hg:Gl X "len")(hm:X.mg "len"=none)(hg':Gl X "set")(hm':X.mg "set"=none)(ha:PE X e te)
  (he:starEach [e] X.env=[(false,eval e X.env)]:=by rfl) (hs:starEach [.Call (.Name "set" p') [e] [] pos'] X.env=[(false,eval (.Call (.Name "set" p') [e] [] pos') X.env)]:=by rfl):
  PE X (.Call (.Name "len" p) [.Call (.Name "set" p') [e] [] pos'] [] pos) (Zi5 X.K te):=by
 intro pins s σ H Q I h;refine wpAny_Call_Name_kw (Gj I hg hm PySem.boot_len ?_ ε ε);refine PyProof.Rows.callWith_builtin1 ?_ (by rw[hs];rfl) rfl;rw[hs];show wpAny _ _ (spliced ((false,eval (.Call (.Name "set" p') [e] [] pos') X.env)::[])) _ _ s;refine Calls.spliced_cons ?_;refine wpAny_Call_Name_kw (Gj I hg' hm' PyProof.Rows.boot_set ?_ ε ε);refine PyProof.Rows.callWith_type1 ?_ (by rw[he];rfl) rfl;rw[he];show wpAny _ _ (spliced ((false,eval e X.env)::[])) _ _ s;refine Calls.spliced_cons (jw (ha pins s σ H _ I h) λu s1 ⟨x,H1,I1,r1,q1⟩=>Calls.spliced_nil ?_);obtain⟨a,ns,rfl,hq,hb,q⟩:=q1;obtain rfl:u=Value.ref a:=r1;obtain⟨its,rv,pl,hz⟩:=I1.list hq;have hl:=rv.length;rw[bx]at hl;have hsz:its.toArray.size=ns.length:=by rw[List.size_toArray];exact hl.symm
 refine PySem.call_set_list (I1.ok.hd hc) pl.isList (ns:=ns) (by simpa using intsAre_of rv) (by rw[hsz];unfold scanBound;omega) λh' tk hS hk=>?_;rw[hsz]at hS;obtain⟨o,ho,hex,es,ep,t,hd,_,_,hn,hf⟩:=hS.objOf;have I2:Inv X pins σ H1 { s1 with heap:=h',toks:=tk }:=I1.kept λb o e=>hk b o (Heap.lt_size e) e;have hle:=firstMet_length_le (λi=>ns.getD i 0) ns.length;refine Calls.spliced_nil (call_len_set (s:={ s1 with heap:=h',toks:=tk }) ho hex hd hf (by rw[hn];have:=Dh;omega) ?_);exact⟨.int (firstMet (λi=>ns.getD i 0) ns.length).length,H1,I2.tok _,⟨tk+1,by rw[hn]⟩,q⟩
end
end G
local macro_rules | `(tactic| walk_at "g2")=>`(tactic| with_reducible first | refine G.vp ?_ | refine G.Zwc ?_ | refine G.Zio ?_ | refine G.Zw8 ?_ | refine G.RW ?_ | refine G.i_C ?_ | refine G.Zgs ?_ | refine G.ZAh ?_ | refine G.i_B ?_ | refine G.Zvy ?_ | refine G.Zyi ?_ | refine G.Zyw ?_ | refine G.Zyk ?_ | refine G.Ztz ?_ | refine G.Zwi ?_ | refine G.Zyj ?_ | refine G.Zw1 ?_ | refine G.Zyx ?_ | refine G.i_U ?_ | refine G.Zyv ?_ | refine G.Zyu ?_ | refine G.Zyo ?_ | refine G.Zyn ?_ | refine G.Zw7 ?_ | refine G.Zw6 ?_ | refine G.Zw5 ?_ | refine G.Zse ?_ | refine G.Zsd ?_ | refine G.Zsc ?_ | refine G.Zgu ?_ | refine G.Z5 ?_ | refine G.Zsj ?_ | refine G.Zsk ?_ | refine G.Zyl ?_ | refine G.Zwg ?_ | refine G.Zyq ?_ | refine G.Zyf ?_ | refine G.Zwh ?_ | refine G.ZAv ?_ | refine G.Zw3 ?_ | refine G.Zyt ?_ | refine G.Zvz ?_ | refine G.Zw2 ?_ | refine G.Zoi ?_ | refine G.Zw0 ?_ | refine G.ZAj ?_ | refine G.ZAi ?_ | refine G.ZAu ?_ | refine G.Zys ?_ | refine G.ZAm ?_ | refine G.ZAl ?_ | refine G.ZAg ?_ | refine G.ZAf ?_ | refine G.ZAe ?_ | refine G.Zgr ?_ | refine G.ZAd ?_ | refine G.ZAc ?_ | refine G.ZAb ?_ | refine G.ZAa ?_ | refine G.ZA9 ?_ | refine G.ZA8 ?_ | refine G.ZAt ?_ | refine G.Zwa ?_ | refine G.Zdb ?_ | refine G.Zsl ?_ | refine G.ZAs ?_ | refine G.ZAr ?_ | refine G.ZAq ?_ | refine G.ZAp ?_ | refine G.ZAo ?_ | refine G.Gp ?_ | refine G.Zsm ?_ | refine G.Zyp ?_ | refine G.Zsb ?_ | refine G.Zsn ?_ | refine G.Zyg ?_ | refine G.Zw9 ?_ | refine G.Zsf ?_ | refine G.Zyh ?_ | refine G.Zwf ?_ | refine G.Zom ?_ | refine G.Zwd ?_ | refine G.Zw4 ?_ | refine G.Zgw ?_ | refine G.Zda ?_ | refine G.Zgv ?_ | refine G.Zvw ?_ | refine G.ZAk ?_ | refine G.Zvx ?_ | refine G.Zty ?_ | refine G.ZAn ?_ | refine G.Zsi ?_ | refine G.Zwe ?_)
local macro_rules | `(tactic| walk_at "g1")=>`(tactic| first | (with_reducible refine G.vo ?_) | walk_at "g2")
local macro_rules | `(tactic| walk_at "ne")=>`(tactic| first | assumption | (exact Ne.symm (by assumption)) | exact L2.aD (by assumption) (by assumption) | exact Ne.symm (L2.aD (by assumption) (by assumption)) | exact Nat.ne_of_lt (by assumption))
local macro_rules | `(tactic| walk_at "hp")=>`(tactic| first | assumption | exact L2.aq | (refine Eq.trans (L2.aB ?hne) ?_;(case hne=>walk_at "ne");walk_at "hp"))
local macro_rules | `(tactic| walk_at"d")=>`(tactic| first | omega | decide | (show (_:Int)<_;decide) | exact ⟨ε,ε⟩ | exact ⟨ε,ε,ε⟩ | (unfold L2.Tc;omega) | exact .inl (by unfold L2.Tc;omega))
local macro_rules | `(tactic| walk_at"e")=>`(tactic| repeat (first | walk_at "g1" | ((with_reducible refine G.i_I ?hc ?_);(case hc=>walk_at"d"))))
local macro_rules | `(tactic| walk_at"s")=>`(tactic| repeat (first | walk_at "g2" | ((with_reducible refine G.i_I ?hc ?_);(case hc=>walk_at"d"))))
local macro_rules | `(tactic| walk_at"c")=>`(tactic| simp only [List.map_cons,List.map_nil,G.pick,List.getElem?_cons_zero,List.getElem?_cons_succ])
local macro_rules | `(tactic| apply $e)=>`(tactic| (walk_at"e";refine $e))
local macro_rules | `(tactic| exists $e,*)=>`(tactic| (walk_at"e";refine⟨$e,*, ?_⟩))
local macro_rules | `(tactic| ext)=>`(tactic| walk_at"e")
local macro_rules | `(tactic| left)=>`(tactic| walk_at"s")
local macro_rules | `(tactic| right)=>`(tactic| (have h2:=(Except.ok.inj h);rw[<- (Prod.mk.inj h2).2]))
namespace K33
open PySem L2 G
def nQ(birth:Int)(bulk:Int)(tone:Int)(load:Int)(fa:AH):List (Str×V):=[("birth",.int birth),("bulk",.int bulk),("tone",.int tone),("load",.int load),("fields",.ref fa)]
theorem gR{birth:Int}{bulk:Int}{tone:Int}{load:Int}{fa:AH}:List.lookup ("birth":Str) (nQ birth bulk tone load fa)=some (.int birth:V):=rfl
theorem VG{birth:Int}{bulk:Int}{tone:Int}{load:Int}{fa:AH}:List.lookup ("bulk":Str) (nQ birth bulk tone load fa)=some (.int bulk:V):=rfl
theorem VF{birth:Int}{bulk:Int}{tone:Int}{load:Int}{fa:AH}:List.lookup ("tone":Str) (nQ birth bulk tone load fa)=some (.int tone:V):=rfl
theorem Ff{birth:Int}{bulk:Int}{tone:Int}{load:Int}{fa:AH}:List.lookup ("load":Str) (nQ birth bulk tone load fa)=some (.int load:V):=rfl
theorem nj{birth:Int}{bulk:Int}{tone:Int}{load:Int}{fa:AH}:List.lookup ("fields":Str) (nQ birth bulk tone load fa)=some (.ref fa:V):=rfl
theorem Ss{birth:Int}{bulk:Int}{tone:Int}{load:Int}{fa:AH}(y:Int):cI "tone" (.int y) (nQ birth bulk tone load fa)=nQ birth bulk y load fa:=rfl
theorem Su{birth:Int}{bulk:Int}{tone:Int}{load:Int}{fa:AH}(y:Int):cI "load" (.int y) (nQ birth bulk tone load fa)=nQ birth bulk tone y fa:=rfl
theorem Zpo{birth:Int}{bulk:Int}{tone:Int}{load:Int}{fa:AH}:(cI "fields" (.ref fa) (cI "load" (.int load) (cI "tone" (.int tone) (cI "bulk" (.int bulk) (cI "birth" (.int birth) [])))))=nQ birth bulk tone load fa:=rfl
theorem vG{birth:Int}{bulk:Int}{tone:Int}{load:Int}{fa:AH}:List.lookup ("units":Str) (nQ birth bulk tone load fa)=none:=rfl
theorem Gr{birth:Int}{bulk:Int}{tone:Int}{load:Int}{fa:AH}:List.lookup ("has_field":Str) (nQ birth bulk tone load fa)=none:=rfl
def kY(room:Int)(ca:AH)(used:Int)(born:Int):List (Str×V):=[("room",.int room),("cells",.ref ca),("used",.int used),("born",.int born)]
theorem Vn{room:Int}{ca:AH}{used:Int}{born:Int}:List.lookup ("room":Str) (kY room ca used born)=some (.int room:V):=rfl
theorem cA{room:Int}{ca:AH}{used:Int}{born:Int}:List.lookup ("cells":Str) (kY room ca used born)=some (.ref ca:V):=rfl
theorem yh{room:Int}{ca:AH}{used:Int}{born:Int}:List.lookup ("used":Str) (kY room ca used born)=some (.int used:V):=rfl
theorem Vo{room:Int}{ca:AH}{used:Int}{born:Int}:List.lookup ("born":Str) (kY room ca used born)=some (.int born:V):=rfl
theorem Dl{room:Int}{ca:AH}{used:Int}{born:Int}(y:Int):cI "used" (.int y) (kY room ca used born)=kY room ca y born:=rfl
theorem RX{room:Int}{ca:AH}{used:Int}{born:Int}(y:Int):cI "born" (.int y) (kY room ca used born)=kY room ca used y:=rfl
theorem Zot{room:Int}{ca:AH}{used:Int}{born:Int}:(cI "born" (.int born) (cI "used" (.int used) (cI "cells" (.ref ca) (cI "room" (.int room) []))))=kY room ca used born:=rfl
theorem Vk{room:Int}{ca:AH}{used:Int}{born:Int}:List.lookup ("make":Str) (kY room ca used born)=none:=rfl
theorem Z8{room:Int}{ca:AH}{used:Int}{born:Int}:List.lookup ("lay":Str) (kY room ca used born)=none:=rfl
theorem Vm{room:Int}{ca:AH}{used:Int}{born:Int}:List.lookup ("back":Str) (kY room ca used born)=none:=rfl
theorem Vl{room:Int}{ca:AH}{used:Int}{born:Int}:List.lookup ("free":Str) (kY room ca used born)=none:=rfl
theorem nZ{room:Int}{ca:AH}{used:Int}{born:Int}:List.lookup ("there":Str) (kY room ca used born)=none:=rfl
def RC(lk:AH)(tl:Int):List (Str×V):=[("looking",.ref lk),("tells",.int tl)]
theorem oN{lk:AH}{tl:Int}:List.lookup ("looking":Str) (RC lk tl)=some (.ref lk:V):=rfl
theorem Dj{lk:AH}{tl:Int}:List.lookup ("tells":Str) (RC lk tl)=some (.int tl:V):=rfl
theorem Zo9{lk:AH}{tl:Int}:(cI "tells" (.int tl) (cI "looking" (.ref lk) []))=RC lk tl:=rfl
def Zdd(nm:Str)(sa:AH):List (Str×V):=[("name",.str nm),("slots",.ref sa)]
theorem vq{nm:Str}{sa:AH}:List.lookup ("slots":Str) (Zdd nm sa)=some (.ref sa:V):=rfl
theorem Zow{nm:Str}{sa:AH}:(cI "slots" (.ref sa) (cI "name" (.str nm) []))=Zdd nm sa:=rfl
def Bo(hp:AH)(ki:AH)(hl:AH)(nm:AH)(sw:AH):List (Str×V):=[("heap",.ref hp),("kind",.ref ki),("hands",.ref hl),("names",.ref nm),("sweeper",.ref sw)]
theorem bF{hp:AH}{ki:AH}{hl:AH}{nm:AH}{sw:AH}:List.lookup ("heap":Str) (Bo hp ki hl nm sw)=some (.ref hp:V):=rfl
theorem lU{hp:AH}{ki:AH}{hl:AH}{nm:AH}{sw:AH}:List.lookup ("kind":Str) (Bo hp ki hl nm sw)=some (.ref ki:V):=rfl
theorem eY{hp:AH}{ki:AH}{hl:AH}{nm:AH}{sw:AH}:List.lookup ("hands":Str) (Bo hp ki hl nm sw)=some (.ref hl:V):=rfl
theorem m6{hp:AH}{ki:AH}{hl:AH}{nm:AH}{sw:AH}:List.lookup ("names":Str) (Bo hp ki hl nm sw)=some (.ref nm:V):=rfl
theorem bA{hp:AH}{ki:AH}{hl:AH}{nm:AH}{sw:AH}:List.lookup ("sweeper":Str) (Bo hp ki hl nm sw)=some (.ref sw:V):=rfl
theorem Zj6{hp:AH}{ki:AH}{hl:AH}{nm:AH}{sw:AH}:(cI "sweeper" (.ref sw) (cI "names" (.ref nm) (cI "hands" (.ref hl) (cI "kind" (.ref ki) (cI "heap" (.ref hp) [])))))=Bo hp ki hl nm sw:=rfl
def cH(se:Int)(ph:Str)(gr:AH)(lo:Int)(tu:Int)(at_:Int)(st:Int)(wa:Int)(ls:Int)(pa:Int)(lx:V):List (Str×V):=[("sense",.int se),("phase",.str ph),("grey",.ref gr),("looked",.int lo),("turn",.int tu),("at",.int at_),("stop",.int st),("walks",.int wa),("looks",.int ls),("passes",.int pa),("loss",lx)]
theorem pA{se:Int}{ph:Str}{gr:AH}{lo:Int}{tu:Int}{at_:Int}{st:Int}{wa:Int}{ls:Int}{pa:Int}{lx:V}:List.lookup ("sense":Str) ψ=some (.int se:V):=rfl
theorem jA{se:Int}{ph:Str}{gr:AH}{lo:Int}{tu:Int}{at_:Int}{st:Int}{wa:Int}{ls:Int}{pa:Int}{lx:V}:List.lookup ("phase":Str) ψ=some (.str ph:V):=rfl
theorem uM{se:Int}{ph:Str}{gr:AH}{lo:Int}{tu:Int}{at_:Int}{st:Int}{wa:Int}{ls:Int}{pa:Int}{lx:V}:List.lookup ("grey":Str) ψ=some (.ref gr:V):=rfl
theorem jT{se:Int}{ph:Str}{gr:AH}{lo:Int}{tu:Int}{at_:Int}{st:Int}{wa:Int}{ls:Int}{pa:Int}{lx:V}:List.lookup ("looked":Str) ψ=some (.int lo:V):=rfl
theorem uL{se:Int}{ph:Str}{gr:AH}{lo:Int}{tu:Int}{at_:Int}{st:Int}{wa:Int}{ls:Int}{pa:Int}{lx:V}:List.lookup ("turn":Str) ψ=some (.int tu:V):=rfl
theorem GR{se:Int}{ph:Str}{gr:AH}{lo:Int}{tu:Int}{at_:Int}{st:Int}{wa:Int}{ls:Int}{pa:Int}{lx:V}:List.lookup ("at":Str) ψ=some (.int at_:V):=rfl
theorem Qf{se:Int}{ph:Str}{gr:AH}{lo:Int}{tu:Int}{at_:Int}{st:Int}{wa:Int}{ls:Int}{pa:Int}{lx:V}:List.lookup ("stop":Str) ψ=some (.int st:V):=rfl
theorem Bb{se:Int}{ph:Str}{gr:AH}{lo:Int}{tu:Int}{at_:Int}{st:Int}{wa:Int}{ls:Int}{pa:Int}{lx:V}:List.lookup ("walks":Str) ψ=some (.int wa:V):=rfl
theorem tM{se:Int}{ph:Str}{gr:AH}{lo:Int}{tu:Int}{at_:Int}{st:Int}{wa:Int}{ls:Int}{pa:Int}{lx:V}:List.lookup ("looks":Str) ψ=some (.int ls:V):=rfl
theorem yC{se:Int}{ph:Str}{gr:AH}{lo:Int}{tu:Int}{at_:Int}{st:Int}{wa:Int}{ls:Int}{pa:Int}{lx:V}:List.lookup ("passes":Str) ψ=some (.int pa:V):=rfl
theorem Qg{se:Int}{ph:Str}{gr:AH}{lo:Int}{tu:Int}{at_:Int}{st:Int}{wa:Int}{ls:Int}{pa:Int}{lx:V}:List.lookup ("loss":Str) ψ=some (lx:V):=rfl
theorem JP{se:Int}{ph:Str}{gr:AH}{lo:Int}{tu:Int}{at_:Int}{st:Int}{wa:Int}{ls:Int}{pa:Int}{lx:V}(y:Int):cI "sense" (.int y) ψ=cH y ph gr lo tu at_ st wa ls pa lx:=rfl
theorem oH{se:Int}{ph:Str}{gr:AH}{lo:Int}{tu:Int}{at_:Int}{st:Int}{wa:Int}{ls:Int}{pa:Int}{lx:V}(y:Str):cI "phase" (.str y) ψ=cH se y gr lo tu at_ st wa ls pa lx:=rfl
theorem N7{se:Int}{ph:Str}{gr:AH}{lo:Int}{tu:Int}{at_:Int}{st:Int}{wa:Int}{ls:Int}{pa:Int}{lx:V}(y:AH):cI "grey" (.ref y) ψ=cH se ph y lo tu at_ st wa ls pa lx:=rfl
theorem vY{se:Int}{ph:Str}{gr:AH}{lo:Int}{tu:Int}{at_:Int}{st:Int}{wa:Int}{ls:Int}{pa:Int}{lx:V}(y:Int):cI "looked" (.int y) ψ=cH se ph gr y tu at_ st wa ls pa lx:=rfl
theorem NZ{se:Int}{ph:Str}{gr:AH}{lo:Int}{tu:Int}{at_:Int}{st:Int}{wa:Int}{ls:Int}{pa:Int}{lx:V}(y:Int):cI "turn" (.int y) ψ=cH se ph gr lo y at_ st wa ls pa lx:=rfl
theorem En{se:Int}{ph:Str}{gr:AH}{lo:Int}{tu:Int}{at_:Int}{st:Int}{wa:Int}{ls:Int}{pa:Int}{lx:V}(y:Int):cI "at" (.int y) ψ=cH se ph gr lo tu y st wa ls pa lx:=rfl
theorem N5{se:Int}{ph:Str}{gr:AH}{lo:Int}{tu:Int}{at_:Int}{st:Int}{wa:Int}{ls:Int}{pa:Int}{lx:V}(y:Int):cI "stop" (.int y) ψ=cH se ph gr lo tu at_ y wa ls pa lx:=rfl
theorem yz{se:Int}{ph:Str}{gr:AH}{lo:Int}{tu:Int}{at_:Int}{st:Int}{wa:Int}{ls:Int}{pa:Int}{lx:V}(y:Int):cI "walks" (.int y) ψ=cH se ph gr lo tu at_ st y ls pa lx:=rfl
theorem qW{se:Int}{ph:Str}{gr:AH}{lo:Int}{tu:Int}{at_:Int}{st:Int}{wa:Int}{ls:Int}{pa:Int}{lx:V}(y:Int):cI "looks" (.int y) ψ=cH se ph gr lo tu at_ st wa y pa lx:=rfl
theorem vX{se:Int}{ph:Str}{gr:AH}{lo:Int}{tu:Int}{at_:Int}{st:Int}{wa:Int}{ls:Int}{pa:Int}{lx:V}(y:Int):cI "passes" (.int y) ψ=cH se ph gr lo tu at_ st wa ls y lx:=rfl
theorem N6{se:Int}{ph:Str}{gr:AH}{lo:Int}{tu:Int}{at_:Int}{st:Int}{wa:Int}{ls:Int}{pa:Int}{lx:V}(y:V):cI "loss" (y) ψ=cH se ph gr lo tu at_ st wa ls pa y:=rfl
theorem Zjb{se:Int}{ph:Str}{gr:AH}{lo:Int}{tu:Int}{at_:Int}{st:Int}{wa:Int}{ls:Int}{pa:Int}{lx:V}:(cI "loss" (lx) (cI "passes" (.int pa) (cI "looks" (.int ls) (cI "walks" (.int wa) (cI "stop" (.int st) (cI "at" (.int at_) (cI "turn" (.int tu) (cI "looked" (.int lo) (cI "grey" (.ref gr) (cI "phase" (.str ph) (cI "sense" (.int se) [])))))))))))=cH se ph gr lo tu at_ st wa ls pa lx:=rfl
def rH(K:aC):TS:=
 (aN (iw K π ω "birth")
   (aN (iw K π ac "bulk")
   (aN (iw K π (ak 4) "tone")
   (aN (iw K π τ "load")
   (iw K π (bw (Zbs) (gk (aj (tC .non) aF)) ae) "fields")))))
def xR(K:aC):TS:=
 (bH (bw Θ (bw Θ υ (tK (G.iC K) (aj (bG K π "fields") aF))) (bG K π "bulk")))
def qt(K:aC):TS:=
 (bH (Zep (nR λi j=>.bl (decide (i<=j))) (nR λi j=>.bl (decide (i<j))) τ ω (tK (G.iC K) (aj (bG K π "fields") aF))))
def rF(K:aC):TS:=
 (aN (iw K π ω "room")
   (aN (iw K π (gk aF) "cells")
   (aN (iw K π τ "used")
   (iw K π τ "born"))))
def zW(K:aC)(bB bU aY:AH)(JW sE X7 Zbi:Sp)(E:XK):TS:=
 (aN (bI (Ba bB JW [] E0 (aj (bw Θ (bG K π "born") υ) (aj ω (aj ae (aj ac aF))))) (aO 4))
   (aN (dX (bO (bw (nR λi j=>.bl (decide (j<i))) (lq bB "units" sE [] E0 (ak 4) aF) (lq aY "free" X7 [] E0 π aF))) (G.JL bU E (aj (tC (.str "the room does not suffice")) aF)) bY)
   (aN (iw K π (bG K (ak 4) "birth") "born")
   (aN (iw K π (bw Θ (bG K π "used") (lq bB "units" sE [] E0 (ak 4) aF)) "used")
   (bH (lq aY "lay" Zbi [] E0 π (aj (ak 4) aF)))))))
def Cq(K:aC):TS:=
 (aN (dX (bO (bw (G.Zuv K true) (tC .non) (bG K π "cells"))) (aN (uh (tBM K "list" qu (bG K π "cells") (aj ω aF)))
   (bH (bw (nR λi j=>.int (i - j)) (tK (G.iC K) (aj (bG K π "cells") aF)) υ))) bY)
   (aN (bI (tBM K "list" (G.Zib K) (bG K π "cells") (aj (tC .non) aF)) (aO 2))
   (aN (bI ω (Ov (bG K π "cells") ae v9))
   (bH ae))))
def zY(K:aC)(bB:AH)(sE:Sp):TS:=
 (aN (bI (bw (qb K) (bG K π "cells") ω) (aO 2))
   (aN (iw K π (bw (nR λi j=>.int (i - j)) (bG K π "used") (lq bB "units" sE [] E0 ae aF)) "used")
   (aN (bI (tC .non) (Ov (bG K π "cells") ω v9))
   (bH (bG K ae "birth")))))
def zX(K:aC):TS:=
 (bH (bw (nR λi j=>.int (i - j)) (bG K π "room") (bG K π "used")))
def xQ(K:aC):TS:=
 (bH (G.tLC (Ny (aj (tK (G.iC K) (aj (bG K π "cells") aF)) aF)) [0] (bO (bw (G.HD) (bw (qb K) (bG K ω "cells") π) (tC .non))) π))
def Gd(K:aC):TS:=
 (aN (dX ((Wr (bO (bw (G.Oj) ω (tC .non))) (Wr (bO (bw (nR λi j=>.bl (decide (i<j))) ω τ)) (bO (bw (nR λi j=>.bl (decide (j<=i))) ω (tK (G.iC K) (aj (bG K π "cells") aF))))))) (bH (tC .non)) bY)
   (bH (bw (qb K) (bG K π "cells") ω)))
def Cp(K:aC)(jX:Sp):TS:=
 (aN (bI (aX jX [] E0 (aj π (aj ω aF))) (aO 2))
   (aN (dX (bO (bw (G.Oj) ae (tC .non))) (bH (tC .non)) bY)
   (bH (bG K ae "birth"))))
def zE(K:aC)(Ws:Sp):TS:=
 (aN (bI (gk aF) (aO 2))
   (aN (GQ (G.Zdc K (aj ω aF)) (Zp0 K 2 (yL (aO 3) (yL (aO 4) Zl1)))
   (uh (tBM K "list" O1 ae (aj (aX Ws [] E0 (aj π (aj (ak 4) (aj (fU (aj ac aF)) aF)))) aF))))
   (aN (bI (Zeo) (aO 5))
   (aN (bI τ (aO 6))
   (aN (Zlv (bO (bw (nR λi j=>.bl (decide (i<j))) (ak 6) (tK (G.iC K) (aj ae aF)))) (aN (bI (bw (cZ K) (bw (qb K) ae (ak 6)) τ) (aO 7))
   (aN (bI (bw (cZ K) (bw (qb K) ae (ak 6)) υ) (aO 8))
   (aN (bI (bw Θ (ak 6) υ) (aO 6))
   (dX (tB (G.Zm0 true (ak 7) (ak 5))) (aN (QC (ak 5) (ak 7) (ak 8))
   (uh (tBM K "list" O1 ae (aj (aX Ws [] E0 (aj π (aj (bG K (bw (qb K) (bG K π "cells") (ak 7)) "fields") (aj (ak 8) aF)))) aF)))) bY)))))
   (bH (tK (G.Zhs) (aj (G.Zen (ak 5)) aF))))))))
def Dz(K:aC)(jX:Sp):TS:=
 (bH (G.Zly K (G.Zdc K (aj ω aF)) [0,2] (bO (bw (G.HD) (aX jX [] E0 (aj ae (aj ω aF))) (tC .non))) (fU (aj ω (aj (bw (Ztr K) ac (fU (aj π aF))) aF)))))
def rG(K:aC):TS:=
 (aN (iw K π ω "name")
   (iw K π (bw (Zbs) (gk (aj (tC .non) aF)) ae) "slots"))
def oX(K:aC):TS:=
 (aN (iw K π τ "sense")
   (aN (iw K π (tC (.str "rest")) "phase")
   (aN (iw K π (gk aF) "grey")
   (aN (iw K π τ "looked")
   (aN (iw K π τ "turn")
   (aN (iw K π τ "at")
   (aN (iw K π τ "stop")
   (aN (iw K π τ "walks")
   (aN (iw K π τ "looks")
   (aN (iw K π τ "passes")
   (iw K π (tC .non) "loss")))))))))))
def qi(K:aC)(lQ aY bK:AH)(JV JT Ea:Sp):TS:=
 (aN (iw K π (Ba aY JT [] E0 (aj ω aF)) "heap")
   (aN (iw K π ae "kind")
   (aN (iw K π (G.Zly K (yJ K ac) [] G.Az (Ba lQ JV [] E0 (aj π (aj ω aF)))) "hands")
   (aN (iw K π (Zeo) "names")
   (iw K π (Ba bK Ea [] E0 aF) "sweeper")))))
def YD(K:aC):TS:=
 (bH (G.tLC (yJ K (bG K π "hands")) [] G.Az (tK (G.Gs K) (aj (bG K π "slots") aF))))
def zJ(K:aC)(eO:Sp):TS:=
 (bH (G.tLC (yJ K ω) [0] G.Az (aX eO [] E0 (aj ω (aj π aF)))))
def zF(K:aC):TS:=
 (bH (bw (vR) (bw (nR λi j=>.int (Builtin.bitAnd i j)) (bw (rI (λ_ j=>0<=j) λi j=>.int (i / 2 ^ j.toNat)) (bG K (bG K π "sweeper") "looked") ω) υ) υ))
def zG(K:aC):TS:=
 (bH (bw (vR) (bG K ω "tone") (bG K (bG K π "sweeper") "sense")))
def xF(K:aC):TS:=
 (bH (bw (rIn K false) (bG K (bG K π "sweeper") "phase") (fU (aj (tC (.str "walk")) (aj (tC (.str "lost")) aF)))))
def QJ(K:aC)(fG dU gq:AH)(Ho um:Sp):TS:=
 (aN (bI (bG K π "sweeper") (aO 1))
   (aN (iw K ω (bw (nR λi j=>.int (i - j)) υ (bG K ω "sense")) "sense")
   (aN (iw K ω (bw Θ (bG K ω "turn") υ) "turn")
   (aN (iw K ω (tC (.str "walk")) "phase")
   (aN (iw K ω (gk aF) "grey")
   (aN (iw K ω (G.JM (lq dU "at_begin" Ho [] E0 (bG K (bG K π "kind") "looking") (aj (tK (G.iC K) (aj (bG K π "hands") aF)) aF)) (G.JM (lq fG "at_begin" um [] E0 (bG K (bG K π "kind") "looking") (aj (tK (G.iC K) (aj (bG K π "hands") aF)) aF)) (lq gq "at_begin" um [] E0 (bG K (bG K π "kind") "looking") (aj (tK (G.iC K) (aj (bG K π "hands") aF)) aF)))) "looked")
   (aN (iw K ω τ "walks")
   (aN (iw K ω τ "looks")
   (iw K ω τ "passes")))))))))
def YC(K:aC)(jX gH:Sp):TS:=
 (aN (bI (bG K π "sweeper") (aO 2))
   (aN (bI (aX jX [] E0 (aj (bG K π "heap") (aj ω aF))) (aO 3))
   (aN (dX ((Wr (bO (bw (rNe) (bG K ae "phase") (tC (.str "walk")))) (Wr (bO (bw (G.Oj) ac (tC .non))) (tB (aX gH [] E0 (aj π (aj ac aF))))))) (bH (tC .non)) bY)
   (aN (iw K ac (bG K ae "sense") "tone")
   (aN (uh (tBM K "list" qu (bG K ae "grey") (aj ω aF)))
   (bH (bG K ac "birth")))))))
def Cj(K:aC)(Zq8:Sp):TS:=
 (aN (bI (gk aF) (aO 2))
   (aN (GQ (yJ K ω) (aO 3)
   (aN (bI (aX Zq8 [] E0 (aj π (aj ac aF))) (aO 4))
   (dX (bO (bw (G.HD) (ak 4) (tC .non))) (uh (tBM K "list" qu ae (aj (ak 4) aF))) bY)))
   (bH ae)))
def YF(K:aC)(jX gH:Sp):TS:=
 (aN (bI (aX jX [] E0 (aj (bG K π "heap") (aj ω aF))) (aO 3))
   (aN (dX ((Wr (bO (bw (G.Oj) ac (tC .non))) (bO (bw (rNe) (bG K ac "birth") ae)))) (bH (tC (.bl true))) bY)
   (bH ((Qe (bw (vR) (bG K (bG K π "sweeper") "phase") (tC (.str "give"))) (Zi4 (aX gH [] E0 (aj π (aj ac aF)))))))))
def QH(K:aC)(Zq9 Zes:Sp)(H0:Hp):TS:=
 (bH (bw (u5) (aX Zq9 [] E0 (aj π aF)) (gk (aj (G.Zlx H0 (G.Zly K (G.Zop (G.Zlw (bG K π "names"))) [0] G.Az (aX Zes [] E0 (aj ae (aj π (aj ω aF)))))) aF))))
def FJ(K:aC)(XH gH Tp:Sp):TS:=
 (aN (dX (tB (aX XH [] E0 (aj π (aj ω (aj ae aF))))) (bH (tC .non)) bY)
   (aN (dX ((Tj (tB (aX Tp [] E0 (aj π aF))) (DY (tB (aX gH [] E0 (aj π (aj (bw (qb K) (bG K (bG K π "heap") "cells") ω) aF))))))) (bH (tC .non)) bY)
   (bH ω)))
def xx(K:aC)(lA:Sp):TS:=
 (aN (bI (gk aF) (aO 2))
   (aN (GQ (G.Zdc K (aj (bG K π "hands") aF)) (Zp0 K 2 (yL (aO 3) (yL (aO 4) Zl1)))
   (dX (bO (bw (vR) (bw (nR λi j=>.int (Builtin.bitAnd i j)) (bw (rI (λ_ j=>0<=j) λi j=>.int (i / 2 ^ j.toNat)) ω ac) υ) υ)) (uh (tBM K "list" O1 ae (aj (aX lA [] E0 (aj π (aj (bG K (ak 4) "slots") aF))) aF))) bY))
   (bH ae)))
def tY(K:aC)(Zm4 o7:Sp):TS:=
 (aN (uh (aX Zm4 [] E0 (aj π aF)))
   (aN (bI (aX o7 [] E0 (aj π (aj (bG K (bG K π "sweeper") "looked") aF))) (aO 1))
   (bH (fU (aj (tC (.str "begin")) (aj (bG K (bG K π "sweeper") "turn") (aj ω aF)))))))
def tW(K:aC)(Qk Zq6:Sp):TS:=
 (aN (dX (G.Zuk K (bG K (bG K π "sweeper") "grey")) (bH (aX Zq6 [] E0 (aj π aF))) bY)
   (bH (aX Qk [] E0 (aj π aF))))
def Yz(K:aC)(lA:Sp):TS:=
 (aN (bI (bG K π "sweeper") (aO 1))
   (aN (bI (bw (qb K) (bG K (bG K π "heap") "cells") (tBM K "list" Zme (bG K ω "grey") (aj τ aF))) (aO 2))
   (aN (iw K ω (bw Θ (bG K ω "walks") υ) "walks")
   (bH (fU (aj (tC (.str "walk")) (aj (bG K ae "birth") (aj (aX lA [] E0 (aj π (aj (bG K ae "fields") aF))) aF))))))))
def oW(K:aC)(fG dU gq:AH)(su jU Zf1 o7:Sp):TS:=
 (aN (bI (aX o7 [] E0 (aj π (aj ac aF))) (aO 4))
   (aN (dX ((Wr (bO (bw (vR) ac τ)) (DY ((Wr (tB (G.JM (lq dU "stays" jU [] E0 ae aF) (G.JM (lq fG "stays" jU [] E0 ae aF) (lq gq "stays" su [] E0 ae aF)))) (G.Zuk K (ak 4))))))) (bH (aX Zf1 [] E0 (aj π aF))) bY)
   (aN (iw K ω (bw Θ (bG K ω "looks") υ) "looks")
   (aN (dX (tB (G.JM (lq dU "stays" jU [] E0 ae aF) (G.JM (lq fG "stays" jU [] E0 ae aF) (lq gq "stays" su [] E0 ae aF)))) (iw K ω (bw (nR λi j=>.int (Builtin.bitOr i j)) (bG K ω "looked") ac) "looked") bY)
   (bH (fU (aj (tC (.str "look")) (aj ac (aj (ak 4) aF)))))))))
def uW(K:aC)(fG dU gq:AH)(Hq Hl su Br jU Zf1 o7:Sp):TS:=
 (aN (bI (bG K π "sweeper") (aO 1))
   (aN (bI (bG K (bG K π "kind") "looking") (aO 2))
   (aN (bI (G.JM (lq dU "next_look" Br [] E0 ae (aj (bG K ω "looked") (aj (tK (G.iC K) (aj (bG K π "hands") aF)) aF))) (G.JM (lq fG "next_look" Hq [] E0 ae (aj (bG K ω "looked") (aj (tK (G.iC K) (aj (bG K π "hands") aF)) aF))) (lq gq "next_look" Hl [] E0 ae (aj (bG K ω "looked") (aj (tK (G.iC K) (aj (bG K π "hands") aF)) aF))))) (aO 3))
   (oW K fG dU gq su jU Zf1 o7))))
def Zfp(K:aC)(XJ Tq Zbg wW:Sp):TS:=
 (aN (bI (bG K π "sweeper") (aO 1))
   (aN (iw K ω (tK (G.iC K) (aj (bG K (bG K π "heap") "cells") aF)) "stop")
   (aN (iw K ω τ "at")
   (aN (bI (aX Tq [] E0 (aj π aF)) (aO 2))
   (aN (dX (bO (bw (G.HD) ae (tC .non))) (aN (iw K ω (tC (.str "lost")) "phase")
   (aN (iw K ω ae "loss")
   (bH (aX wW [] E0 (aj ae aF))))) bY)
   (aN (iw K ω (tC (.str "give")) "phase")
   (aN (bI (aX XJ [] E0 (aj (bG K π "heap") (aj (aX Zbg [] E0 (aj π aF)) aF))) (aO 3))
   (bH (fU (aj (tC (.str "cut")) (aj (tK (G.iC K) (aj ac aF)) (aj ac aF))))))))))))
def xG(K:aC)(gH Zet Zm3:Sp):TS:=
 (aN (GQ (yJ K (aX Zet [] E0 (aj (bG K π "heap") (aj (aX Zm3 [] E0 (aj π aF)) aF)))) (Zp0 K 2 (yL (aO 1) (yL (aO 2) Zl1)))
   (aN (bI (bw (qb K) (bG K (bG K π "heap") "cells") ω) (aO 3))
   (dX (DY (tB (aX gH [] E0 (aj π (aj ac aF))))) (bH (fU (aj (tC (.str "lost")) (aj (bG K ac "birth") (aj (tK (G.Zpp K) (aj ae aF)) aF))))) bY)))
   (bH (tC .non)))
def Ck(K:aC)(aY:AH)(o8 gH:Sp):TS:=
 (aN (bI (bG K π "heap") (aO 1))
   (bH (G.tLC (yJ K (lq aY "there" o8 [] E0 ω aF)) [0,1] (DY (tB (aX gH [] E0 (aj ω (aj (bw (qb K) (bG K ae "cells") π) aF))))) π)))
def xr(K:aC):TS:=
 (bH (fU (aj (bw (cZ K) π τ) (aj (bw (cZ K) π υ) (aj (tK (G.Gs K) (aj (bw (cZ K) π Γ) aF)) aF)))))
def tX(K:aC)(Zum Tn:Sp):TS:=
 (aN (dX (bO (bw (nR λi j=>.bl (decide (i<j))) (bG K (bG K π "sweeper") "at") (bG K (bG K π "sweeper") "stop"))) (bH (aX Tn [] E0 (aj π aF))) bY)
   (bH (aX Zum [] E0 (aj π aF))))
def xu(K:aC)(aY:AH)(X8 jX gH:Sp):TS:=
 (aN (bI (bG K π "sweeper") (aO 1))
   (aN (bI (bG K ω "at") (aO 2))
   (aN (iw K ω (bw Θ ae υ) "at")
   (aN (iw K ω (bw Θ (bG K ω "passes") υ) "passes")
   (aN (bI (aX jX [] E0 (aj (bG K π "heap") (aj ae aF))) (aO 3))
   (aN (dX ((Wr (bO (bw (G.Oj) ac (tC .non))) (tB (aX gH [] E0 (aj π (aj ac aF)))))) (bH (fU (aj (tC (.str "pass")) (aj ae (aj (gk aF) aF))))) bY)
   (bH (fU (aj (tC (.str "back")) (aj (lq aY "back" X8 [] E0 (bG K π "heap") (aj ae aF)) (aj (gk (aj ae aF)) aF)))))))))))
def Zfo(K:aC):TS:=
 (aN (bI (bG K π "sweeper") (aO 1))
   (aN (iw K ω (tC (.str "rest")) "phase")
   (bH (fU (aj (tC (.str "end")) (aj (bG K ω "turn") (aj (gk (aj (bG K ω "walks") (aj (bG K ω "looks") (aj (bG K ω "passes") aF)))) aF)))))))
def qe(K:aC)(wW:Sp):TS:=
 (bH (aX wW [] E0 (aj (bG K (bG K π "sweeper") "loss") aF)))
def YB(K:aC)(cU cT cR bV:AH)(Oe Od Oc Hi:Sp):TS:=
 (aN (bI (G.Zq2 [("rest",cU),("walk",cR),("give",cT),("lost",bV)] (bG K (bG K π "sweeper") "phase")) (aO 1))
   (bH (G.XC 1 [(cU,Oe),(cR,Oc),(cT,Od),(bV,Hi)] E0 (aj π aF))))
def Km:TS:=
 (bH (bw (nR λi j=>.int (i - j)) (bw (rI Zbd λi j=>.int (i * 2 ^ j.toNat)) υ π) υ))
def oY:TS:=
 (bH τ)
def nT:TS:=
 (bH τ)
def rD:TS:=
 (bH (tC (.bl true)))
def qm(JS:Sp):TS:=
 (bH (aX JS [] E0 (aj ω aF)))
def qp:TS:=
 (aN (GQ (Ny (aj ae aF)) (aO 3)
   (dX (bO (bw (vR) (bw (nR λi j=>.int (Builtin.bitAnd i j)) (bw (rI (λ_ j=>0<=j) λi j=>.int (i / 2 ^ j.toNat)) ω ac) υ) τ)) (bH (bw (rI Zbd λi j=>.int (i * 2 ^ j.toNat)) υ ac)) bY))
   (bH τ))
def qj(JS:Sp):TS:=
 (bH (aX JS [] E0 (aj ae aF)))
def xP:TS:=
 (bH (tC (.bl false)))
def rE(K:aC):TS:=
 (aN (iw K π ω "looking")
   (iw K π ae "tells"))
def Cg(K:aC):TS:=
 (bH (bG K (bw (qb K) (bG K π "hands") ω) "slots"))
def Gb(K:aC)(aJ:AH)(jX dm:Sp)(E:XK):TS:=
 (aN (bI (aX jX [] E0 (aj (bG K π "heap") (aj (bw (qb K) (aX dm [] E0 (aj π (aj ω aF))) ae) aF))) (aO 3))
   (aN (dX (bO (bw (G.Oj) ac (tC .non))) (G.JL aJ E (aj (tC (.str "the slot holds no cell")) aF)) bY)
   (bH ac)))
def zH(K:aC)(bB aV:AH)(Hr pI:Sp)(E:XK):TS:=
 (aN (bI (aX pI [] E (aj π (aj ω (aj ae aF)))) (aO 4))
   (aN (dX (DY (tB (lq bB "has_field" Hr [] E0 (ak 4) (aj ac aF)))) (G.JL aV E (aj (tC (.str "the cell does not have the field")) aF)) bY)
   (bH (bG K (ak 4) "fields"))))
def uT(K:aC):TS:=
 (aN (dX (bO (bw (vR) (bw (nR λi j=>.int (Builtin.bitAnd i j)) (bG K (bG K π "kind") "tells") υ) τ)) (bH (gk aF)) bY)
   (bH (gk (aj ω aF))))
def uU(K:aC)(XF:Sp):TS:=
 (aN (dX ((Wr (bO (bw (vR) (bw (nR λi j=>.int (Builtin.bitAnd i j)) (bG K (bG K π "kind") "tells") Γ) τ)) (tB (aX XF [] E0 (aj π (aj ω aF)))))) (bH (gk aF)) bY)
   (bH (gk (aj ae aF))))
def FT(K:aC)(aY:AH)(X6 eO dm:Sp)(E:XK):TS:=
 (aN (bI (aX dm [] E0 (aj π (aj (bw (cZ K) ω υ) aF))) (aO 2))
   (aN (bI (bw (cZ K) ω (tC (.int 3))) (aO 3))
   (aN (bI (bw (cZ K) ω (tC (.int 4))) (aO 4))
   (aN (bI (lq aY "make" X6 [] E (bG K π "heap") (aj ac (aj (ak 4) (aj (bG K (bG K π "sweeper") "sense") aF)))) (aO 5))
   (aN (bI (ak 5) (Ov ae (bw (cZ K) ω Γ) v9))
   (bH (fU (aj (tC (.str "made")) (aj (aX eO [] E0 (aj (bG K π "heap") (aj (ak 5) aF))) (aj (gk aF) aF))))))))))
def Kl(K:aC)(eO yV dm:Sp)(E:XK):TS:=
 (aN (bI (bw (cZ K) ω υ) (aO 2))
   (aN (bI (bw (cZ K) ω (tC (.int 3))) (aO 3))
   (aN (bI (bw (cZ K) ω (tC (.int 4))) (aO 4))
   (aN (bI (bw (qb K) (aX yV [] E (aj π (aj ae (aj ac (aj (ak 4) aF))))) (ak 4)) (aO 5))
   (aN (bI (ak 5) (Ov (aX dm [] E0 (aj π (aj ae aF))) (bw (cZ K) ω Γ) v9))
   (bH (fU (aj (tC (.str "got")) (aj (aX eO [] E0 (aj (bG K π "heap") (aj (ak 5) aF))) (aj (gk aF) aF))))))))))
def Kh(K:aC)(eO yV lA dm uN Qi:Sp)(E:XK):TS:=
 (aN (bI (bw (cZ K) ω υ) (aO 2))
   (aN (bI (bw (cZ K) ω (tC (.int 3))) (aO 3))
   (aN (bI (aX yV [] E (aj π (aj ae (aj (bw (cZ K) ω Γ) (aj ac aF))))) (aO 4))
   (aN (bI (bw (qb K) (ak 4) ac) (aO 5))
   (aN (bI (bw (qb K) (aX dm [] E0 (aj π (aj ae aF))) (bw (cZ K) ω (tC (.int 4)))) (aO 6))
   (aN (bI (ak 6) (Ov (ak 4) ac v9))
   (aN (bI (aX lA [] E0 (aj π (aj (bw (u5) (aX Qi [] E0 (aj π (aj (ak 5) aF))) (aX uN [] E0 (aj π (aj ae (aj (ak 6) aF))))) aF))) (aO 7))
   (bH (fU (aj (tC (.str "put")) (aj (aX eO [] E0 (aj (bG K π "heap") (aj (ak 5) aF))) (aj (ak 7) aF))))))))))))
def Ga(K:aC)(eO dm:Sp):TS:=
 (aN (bI (aX dm [] E0 (aj π (aj (bw (cZ K) ω υ) aF))) (aO 2))
   (aN (bI (bw (qb K) ae (bw (cZ K) ω (tC (.int 3)))) (aO 3))
   (aN (bI ac (Ov ae (bw (cZ K) ω Γ) v9))
   (bH (fU (aj (tC (.str "copied")) (aj (aX eO [] E0 (aj (bG K π "heap") (aj ac aF))) (aj (gk aF) aF))))))))
def FZ(K:aC)(eO dm:Sp):TS:=
 (aN (bI (aX dm [] E0 (aj π (aj (bw (cZ K) ω υ) aF))) (aO 2))
   (aN (bI (bw (qb K) ae (bw (cZ K) ω Γ)) (aO 3))
   (aN (bI (tC .non) (Ov ae (bw (cZ K) ω Γ) v9))
   (bH (fU (aj (tC (.str "dropped")) (aj (aX eO [] E0 (aj (bG K π "heap") (aj ac aF))) (aj (gk aF) aF))))))))
def FW(K:aC)(eO lA dm uN:Sp):TS:=
 (aN (bI (bw (cZ K) ω υ) (aO 2))
   (aN (bI (bw (cZ K) ω (tC (.int 3))) (aO 3))
   (aN (bI (bw (qb K) (aX dm [] E0 (aj π (aj ae aF))) (bw (cZ K) ω Γ)) (aO 4))
   (aN (bI (ak 4) (Ov (aX dm [] E0 (aj π (aj ac aF))) (bw (cZ K) ω (tC (.int 4))) v9))
   (aN (bI (aX lA [] E0 (aj π (aj (aX uN [] E0 (aj π (aj ae (aj (ak 4) aF)))) aF))) (aO 5))
   (bH (fU (aj (tC (.str "given")) (aj (aX eO [] E0 (aj (bG K π "heap") (aj (ak 4) aF))) (aj (ak 5) aF))))))))))
def Cm(K:aC)(pI:Sp)(E:XK):TS:=
 (aN (bI (aX pI [] E (aj π (aj (bw (cZ K) ω υ) (aj (bw (cZ K) ω Γ) aF)))) (aO 2))
   (aN (bI (bG K ae "load") (aO 3))
   (aN (iw K ae (bw (cZ K) ω (tC (.int 3))) "load")
   (bH (fU (aj (tC (.str "wrote")) (aj ac (aj (gk aF) aF))))))))
def FP(K:aC)(pI:Sp)(E:XK):TS:=
 (aN (bI (aX pI [] E (aj π (aj (bw (cZ K) ω υ) (aj (bw (cZ K) ω Γ) aF)))) (aO 2))
   (bH (fU (aj (tC (.str "read")) (aj (bG K ae "load") (aj (gk aF) aF))))))
def FQ(K:aC)(pI dm:Sp)(E:XK):TS:=
 (aN (bI (bw (cZ K) ω υ) (aO 2))
   (aN (bI (bw (cZ K) ω Γ) (aO 3))
   (aN (bI (bG K (aX pI [] E (aj π (aj ae (aj ac aF)))) "birth") (aO 4))
   (aN (QC (bG K π "names") (bw (cZ K) ω (tC (.int 3))) (fU (aj (bw (qb K) (aX dm [] E0 (aj π (aj ae aF))) ac) (aj (ak 4) aF))))
   (bH (fU (aj (tC (.str "named")) (aj (ak 4) (aj (gk aF) aF)))))))))
def FN(K:aC)(eO lA Qj dm:Sp)(E:XK):TS:=
 (aN (bI (aX Qj [] E (aj π (aj (bw (cZ K) ω (tC (.int 3))) aF))) (aO 2))
   (aN (bI ae (Ov (aX dm [] E0 (aj π (aj (bw (cZ K) ω υ) aF))) (bw (cZ K) ω Γ) v9))
   (aN (bI (aX lA [] E0 (aj π (aj (gk (aj ae aF)) aF))) (aO 3))
   (bH (fU (aj (tC (.str "sought")) (aj (aX eO [] E0 (aj (bG K π "heap") (aj ae aF))) (aj ac aF))))))))
def uV(K:aC)(bC:AH)(XH:Sp)(E:XK):TS:=
 (aN (dX (tB (Xz ω (bG K π "names"))) (G.JL bC E (aj (tC (.str "the weak name was never given")) aF)) bY)
   (aN (bI (bw (cZ K) (jm (bG K π "names") ω) τ) (aO 2))
   (aN (bI (bw (cZ K) (jm (bG K π "names") ω) υ) (aO 3))
   (aN (dX (tB (aX XH [] E0 (aj π (aj ae (aj ac aF))))) (bH (tC .non)) bY)
   (bH ae)))))
def Zmc(K:aC)(iu ir jD ig ie gZ jC gY gW fL:AH)(Zf0 Zez Zje Zey Zex Zew Zjd Zev Zeu Zbh:Sp)(E:XK):TS:=
 (aN (bI (G.Zq2 [("make",ie),("get",jD),("put",jC),("copy",iu),("drop",ir),("give",ig),("write",fL),("read",gY),("name",gZ),("seek",gW)] (bw (cZ K) ω τ)) (aO 2))
   (bH (G.XC 2 [(ie,Zex),(jD,Zje),(jC,Zjd),(iu,Zf0),(ir,Zez),(ig,Zey),(fL,Zbh),(gY,Zev),(gZ,Zew),(gW,Zeu)] E (aj π (aj ω aF)))))
def zV(K:aC):TS:=
 (aN (dX (bO (bw (nR λi j=>.bl (decide (i<j))) ω (tK (G.iC K) (aj π aF)))) (bH (bw (qb K) π ω)) bY)
   (bH τ))
def zT:TS:=
 (bH (bw ο (bw ο (bw (rI Tc λi j=>.int (i * j)) (bw ο π ω) (tC (.int 48271))) ω) ae))
def zK:TS:=
 (aN (bI (tC (.str "abcdefghijklmnopqrstuvwxyz")) (aO 2))
   (aN (bI (bw Θ υ (bw ο π (tC (.int 12)))) (aO 3))
   (aN (bI (bw ο (bw (rI MJ λi j=>.int (i / j)) π (tC (.int 12))) ac) (aO 4))
   (aN (bI (bw (Zmf) ae (bw ο (bw (rI MJ λi j=>.int (i / j)) π (tC (.int 5))) (tC (.int 26)))) (aO 5))
   (aN (bI (bw (Zmf) ae (bw ο (bw Θ (bw (rI MJ λi j=>.int (i / j)) π (tC (.int 7))) (bw (rI Tc λi j=>.int (i * j)) (tC (.int 5)) ω)) (tC (.int 26)))) (aO 6))
   (bH (bw (G.Zmh) (bw (G.Zmh) (bw (G.Zia) (ak 5) (ak 4)) (ak 6)) (bw (G.Zia) (ak 5) (bw (nR λi j=>.int (i - j)) (bw (nR λi j=>.int (i - j)) ac υ) (ak 4))))))))))
def xK(K:aC)(fZ bJ mD:Sp):TS:=
 (aN (bI (aX fZ [] E0 (aj π (aj υ aF))) (aO 1))
   (aN (bI (gk aF) (aO 2))
   (aN (GQ (Ny (aj (bw Θ υ (aX bJ [] E0 (aj ω (aj (tC (.int 104729)) (aj (tC (.int 5)) aF))))) aF)) (aO 3)
   (aN (bI (tC (.int 3)) (aO 4))
   (aN (dX (bO (bw (vR) (bw ο ω (tC (.int 3))) υ)) (bI (bw Θ (tC (.int 3)) (aX bJ [] E0 (aj (bw Θ ω (bw (rI Tc λi j=>.int (i * j)) (bw (rI Tc λi j=>.int (i * j)) (tC (.int 7)) ac) ac)) (aj (tC (.int 224737)) (aj (tC (.int 7)) aF))))) (aO 4)) bY)
   (uh (tBM K "list" qu ae (aj (fU (aj (aX mD [] E0 (aj ω (aj ac aF))) (aj (ak 4) aF))) aF))))))
   (bH ae))))
def zN(fZ bJ:Sp):TS:=
 (aN (bI (aX fZ [] E0 (aj π (aj Γ aF))) (aO 1))
   (aN (dX (bO (bw (vR) (aX bJ [] E0 (aj ω (aj (tC (.int 7919)) (aj (tC (.int 4)) aF)))) υ)) (bH (bw Θ (tC (.int 4)) (bw ο (bw (rI MJ λi j=>.int (i / j)) ω (tC (.int 4))) (tC (.int 60))))) bY)
   (bH (bw (nR λi j=>.int (i - j)) (bw (rI Zbd λi j=>.int (i ^ j.toNat)) (tC (.int 10)) (tC (.int 15))) (bw ο ω (bw (rI Zbd λi j=>.int (i ^ j.toNat)) (tC (.int 10)) (tC (.int 12))))))))
def zQ(fG dU kE gq:AH)(qX:Sp):TS:=
 (aN (dX (bO (bw (vR) (bw ο π (tC (.int 3))) τ)) (bH (Ba kE qX [] E0 (aj (G.JN dU) (aj (bw ο (bw (rI MJ λi j=>.int (i / j)) π (tC (.int 3))) (tC (.int 4))) aF)))) bY)
   (aN (dX (bO (bw (vR) (bw ο π (tC (.int 3))) υ)) (bH (Ba kE qX [] E0 (aj (G.JN fG) (aj (bw ο (bw (rI MJ λi j=>.int (i / j)) π (tC (.int 3))) (tC (.int 4))) aF)))) bY)
   (bH (Ba kE qX [] E0 (aj (G.JN gq) (aj (bw ο (bw (rI MJ λi j=>.int (i / j)) π (tC (.int 3))) (tC (.int 4))) aF))))))
def zO(K:aC)(bJ:Sp):TS:=
 (aN (bI (bw (qb K) (gk (aj υ (aj Γ (aj Γ (aj (tC (.int 3)) (aj τ (aj (tC (.int 8)) aF))))))) (aX bJ [] E0 (aj π (aj (tC (.int 611953)) (aj (tC (.int 6)) aF))))) (aO 3))
   (aN (bI τ (aO 4))
   (aN (dX (bO (bw (vR) (bw ο π (tC (.int 3))) υ)) (bI (bw ο π (tC (.int 7))) (aO 4)) bY)
   (aN (dX (bO (bw (vR) (bw ο π (tC (.int 3))) Γ)) (bI (bw ο π (bw Θ (bw (rI Zbd λi j=>.int (i ^ j.toNat)) (tC (.int 10)) (tC (.int 12))) υ)) (aO 4)) bY)
   (bH (fU (aj (tC (.str "make")) (aj ω (aj ae (aj ac (aj (ak 4) aF)))))))))))
def zP:TS:=
 (aN (bI (bw ο π (bw (rI Zbd λi j=>.int (i ^ j.toNat)) (tC (.int 10)) (tC (.int 60)))) (aO 1))
   (aN (dX (bO (bw (vR) (bw ο (bw (rI MJ λi j=>.int (i / j)) π (tC (.int 7))) Γ) υ)) (bH (tUn (rU λi=>.int (-i)) ω)) bY)
   (bH ω)))
def zU(K:aC)(bJ XX XS mD:Sp):TS:=
 (aN (bI (aX bJ [] E0 (aj π (aj (tC (.int 104729)) (aj (tK (G.iC K) (aj ω aF)) aF)))) (aO 3))
   (aN (bI (aX bJ [] E0 (aj π (aj (tC (.int 224737)) (aj (bw (cZ K) (bw (qb K) ω ac) υ) aF)))) (aO 4))
   (aN (bI (aX bJ [] E0 (aj π (aj (tC (.int 350377)) (aj (bw (cZ K) (bw (qb K) ω ac) υ) aF)))) (aO 5))
   (aN (bI (aX bJ [] E0 (aj π (aj (tC (.int 479909)) (aj (bw (qb K) (gk (aj (tC (.int 3)) (aj (tC (.int 8)) aF))) (bw (rI MJ λi j=>.int (i / j)) (bw ο π (tC (.int 5))) (tC (.int 4)))) aF)))) (aO 6))
   (aN (bI (aX bJ [] E0 (aj π (aj (tC (.int 7919)) (aj (tC (.int 20)) aF)))) (aO 7))
   (aN (dX (bO (bw (nR λi j=>.bl (decide (i<j))) (ak 7) (tC (.int 5)))) (bH (aX XS [] E0 (aj π (aj ac (aj (ak 4) aF))))) bY)
   (aN (dX (bO (bw (nR λi j=>.bl (decide (i<j))) (ak 7) (tC (.int 8)))) (bH (fU (aj (tC (.str "get")) (aj ac (aj (ak 4) (aj (ak 5) (aj (ak 6) aF))))))) bY)
   (aN (dX (bO (bw (nR λi j=>.bl (decide (i<j))) (ak 7) (tC (.int 11)))) (bH (fU (aj (tC (.str "put")) (aj ac (aj (ak 5) (aj (ak 6) (aj (ak 4) aF))))))) bY)
   (aN (dX (bO (bw (vR) (ak 7) (tC (.int 11)))) (bH (fU (aj (tC (.str "copy")) (aj ac (aj (ak 4) (aj (ak 5) aF)))))) bY)
   (aN (dX (bO (bw (vR) (ak 7) (tC (.int 12)))) (bH (fU (aj (tC (.str "drop")) (aj ac (aj (ak 4) aF))))) bY)
   (aN (dX (bO (bw (nR λi j=>.bl (decide (i<j))) (ak 7) (tC (.int 15)))) (aN (bI (aX bJ [] E0 (aj π (aj (tC (.int 746773)) (aj (tK (G.iC K) (aj ω aF)) aF)))) (aO 8))
   (bH (fU (aj (tC (.str "give")) (aj ac (aj (ak 4) (aj (ak 8) (aj (aX bJ [] E0 (aj π (aj (tC (.int 882377)) (aj (bw (cZ K) (bw (qb K) ω (ak 8)) υ) aF)))) aF)))))))) bY)
   (aN (dX (bO (bw (vR) (ak 7) (tC (.int 15)))) (bH (fU (aj (tC (.str "write")) (aj ac (aj (ak 5) (aj (aX XX [] E0 (aj π aF)) aF)))))) bY)
   (aN (bI (aX mD [] E0 (aj ae (aj (aX bJ [] E0 (aj π (aj (tC (.int 1299709)) (aj Γ aF)))) aF))) (aO 9))
   (aN (dX (bO (bw (nR λi j=>.bl (decide (i<j))) (ak 7) (tC (.int 18)))) (bH (fU (aj (tC (.str "name")) (aj ac (aj (ak 5) (aj (ak 9) aF)))))) bY)
   (bH (fU (aj (tC (.str "seek")) (aj ac (aj (ak 4) (aj (ak 9) aF))))))))))))))))))))
def xO(K:aC)(X5 bJ:Sp):TS:=
 (aN (bI (aX X5 [] E0 (aj π (aj ω (aj ae aF)))) (aO 3))
   (aN (dX ((Tj (bO (bw (vR) (bw (cZ K) ac τ) (tC (.str "put")))) (bO (bw (vR) (bw ο (bw (rI MJ λi j=>.int (i / j)) π (tC (.int 5))) Γ) τ)))) (bH (gk (aj ac (aj (fU (aj (tC (.str "drop")) (aj (bw (cZ K) ac υ) (aj (bw (cZ K) ac (tC (.int 4))) aF)))) aF)))) bY)
   (aN (dX ((Tj (bO (bw (vR) (bw (cZ K) ac τ) (tC (.str "get")))) (bO (bw (vR) (bw ο (bw (rI MJ λi j=>.int (i / j)) π (tC (.int 5))) Γ) τ)))) (bH (gk (aj ac (aj (fU (aj (tC (.str "put")) (aj (bw (cZ K) ac υ) (aj (bw (cZ K) ac (tC (.int 3))) (aj (bw (cZ K) ac (tC (.int 4))) (aj (aX bJ [] E0 (aj π (aj (tC (.int 1159523)) (aj (tC (.int 3)) aF)))) aF)))))) aF)))) bY)
   (bH (gk (aj ac aF))))))
def pL(K:aC)(mD:Sp):TS:=
 (aN (GQ (Ny (aj (tK (G.iC K) (aj π aF)) aF)) (aO 4)
   (aN (dX (bO (bw (vR) (ak 5) υ)) (bI (bw (u5) ac (gk (aj (fU (aj (tC (.str "get")) (aj (ak 4) (aj υ (aj τ (aj (bw ο (ak 4) Γ) aF)))))) (aj (fU (aj (tC (.str "put")) (aj (ak 4) (aj τ (aj (bw ο (ak 4) Γ) (aj Γ aF)))))) aF)))) (aO 3)) bY)
   (aN (dX (bO (bw (nR λi j=>.bl (decide (j<i))) (ak 5) υ)) (bI (bw (u5) ac (gk (aj (fU (aj (tC (.str "make")) (aj (ak 4) (aj τ (aj υ (aj τ aF)))))) (aj (fU (aj (tC (.str "put")) (aj (ak 4) (aj τ (aj τ (aj υ aF)))))) (aj (fU (aj (tC (.str "drop")) (aj (ak 4) (aj υ aF)))) aF))))) (aO 3)) bY)
   (dX (bO (bw (vR) (ak 5) (tC (.int 3)))) (bI (bw (u5) ac (gk (aj (fU (aj (tC (.str "name")) (aj (ak 4) (aj τ (aj (aX mD [] E0 (aj ae (aj (bw ο (ak 4) Γ) aF))) aF))))) (aj (fU (aj (tC (.str "drop")) (aj (ak 4) (aj τ aF)))) aF)))) (aO 3)) bY))))
   (bH ac))
def xJ(K:aC)(bJ mD:Sp):TS:=
 (aN (bI (gk aF) (aO 3))
   (aN (GQ (Ny (aj (tK (G.iC K) (aj π aF)) aF)) (aO 4)
   (aN (bI (bw (u5) ac (gk (aj (fU (aj (tC (.str "make")) (aj (ak 4) (aj τ (aj Γ (aj τ aF)))))) (aj (fU (aj (tC (.str "make")) (aj (ak 4) (aj υ (aj υ (aj τ aF)))))) aF)))) (aO 3))
   (bI (bw (u5) ac (gk (aj (fU (aj (tC (.str "put")) (aj (ak 4) (aj τ (aj (bw ο (ak 4) Γ) (aj υ aF)))))) (aj (fU (aj (tC (.str "drop")) (aj (ak 4) (aj υ aF)))) aF)))) (aO 3))))
   (aN (bI (aX bJ [] E0 (aj ω (aj (tC (.int 746773)) (aj (tC (.int 4)) aF)))) (aO 5))
   (aN (dX (bO (bw (nR λi j=>.bl (decide (j<i))) (ak 5) υ)) (bI (bw (u5) ac (G.tLC (Ny (aj (tK (G.iC K) (aj π aF)) aF)) [] G.Az (fU (aj (tC (.str "make")) (aj π (aj υ (aj τ (aj τ aF)))))))) (aO 3)) bY)
   (aN (bI (bw (u5) ac (bw (Zbs) (gk (aj (tC .non) aF)) (bw Θ υ (aX bJ [] E0 (aj ω (aj (tC (.int 882377)) (aj (tC (.int 4)) aF))))))) (aO 3))
   (pL K mD))))))
def qg(K:aC)(fZ wX bJ:Sp):TS:=
 (aN (bI (aX fZ [] E0 (aj π (aj Γ aF))) (aO 3))
   (aN (bI τ (aO 4))
   (aN (GQ (yJ K (tSl (Zuu K) π (Zbe (tC (.int 3))) (Zbe (tC (.int 63))))) (aO 5)
   (aN (bI (bw Θ (ak 5) (bw (rI Tc λi j=>.int (i * j)) (bw (rI Tc λi j=>.int (i * j)) (ak 4) (ak 4)) (tC (.int 1000003)))) (aO 6))
   (aN (dX (bO (bw (vR) (aX bJ [] E0 (aj (ak 6) (aj (tC (.int 1020379)) (aj (tC (.int 3)) aF)))) τ)) (bI (bw (u5) ae (bw (Zbs) (gk (aj (tC .non) aF)) (bw Θ υ (aX bJ [] E0 (aj (ak 6) (aj (tC (.int 1159523)) (aj (tC (.int 6)) aF))))))) (aO 2)) (bI (bw (u5) ae (aX wX [] E0 (aj (ak 6) (aj ω (aj ac aF))))) (aO 2)))
   (Zul 4 υ (ipI λi j=>i+j)))))
   (bH (bw (u5) ae (bw (Zbs) (gk (aj (tC .non) aF)) (bw Θ (tC (.int 12)) (aX bJ [] E0 (aj ac (aj (tC (.int 1020379)) (aj (tC (.int 12)) aF)))))))))))
def zM(K:aC)(fZ wX bJ Tt:Sp):TS:=
 (aN (bI (gk aF) (aO 2))
   (aN (dX (bO (bw (nR λi j=>.bl (decide (j<i))) (aX bJ [] E0 (aj (aX fZ [] E0 (aj π (aj τ aF))) (aj (tC (.int 611953)) (aj (tC (.int 4)) aF)))) τ)) (bI (aX Tt [] E0 (aj ω (aj (aX fZ [] E0 (aj π (aj τ aF))) (aj (aX fZ [] E0 (aj π (aj Γ aF))) aF)))) (aO 2)) bY)
   (qg K fZ wX bJ)))
def uX:TS:=
 (bH ((Qe (tK (G.SJ) (aj π (aj (tC (.ty "int")) aF))) (Zi4 (tK (G.SJ) (aj π (aj (tC (.ty "bool")) aF)))))))
def xN(K:aC)(Bq:Sp):TS:=
 (aN (dX ((Wr (DY (tB (tK (G.SJ) (aj π (aj (tC (.ty "tuple")) aF))))) (Wr (bO (bw (rNe) (tK (G.iC K) (aj π aF)) (tC (.int 3)))) (DY (tB (tK (G.SJ) (aj (bw (cZ K) π τ) (aj (tC (.ty "str")) aF)))))))) (bH (tC (.bl false))) bY)
   (aN (dX ((Wr (DY (tB (aX Bq [] E0 (aj (bw (cZ K) π υ) aF)))) (DY (tB (tK (G.SJ) (aj (bw (cZ K) π Γ) (aj (tC (.ty "list")) aF))))))) (bH (tC (.bl false))) bY)
   (aN (GQ (yJ K (bw (cZ K) π Γ)) (aO 2)
   (dX (DY (tB (aX Bq [] E0 (aj ae aF)))) (bH (tC (.bl false))) bY))
   (bH (bw (G.Zmg K false) π ω)))))
def zR(aJ bU aV bC:AH)(Zxr:Sp):TS:=
 (aN (bI (tC .non) (aO 2))
   (aN (G.Zuj (λcls=>cls=Value.ref aJ\/cls=Value.ref aV\/cls=Value.ref bU\/cls=Value.ref bC) (λEx=>(bI (G.Zeq Zxr [] Ex (aj π (aj ω aF))) (aO 2))) (bI (tC .non) (aO 2)))
   (bH ae)))
def xM(K:aC)(aY:AH)(o8:Sp):TS:=
 (aN (bI (G.tLC (yJ K (lq aY "there" o8 [] E0 (bG K π "heap") aF)) [0] G.Az (bG K (bw (qb K) (bG K (bG K ω "heap") "cells") π) "birth")) (aO 1))
   (bH (Zlz [((tC (.str "there")),ω),((tC (.str "noted")),(gk aF)),((tC (.str "walked")),(gk aF)),((tC (.str "ends")),(gk aF)),((tC (.str "back")),(gk aF)),((tC (.str "counts")),(gk (aj τ (aj τ (aj τ (aj τ aF))))))])))
def mF(K:aC):TS:=
 (aN (dX (bO (bw (rIn K false) (bw (cZ K) ω τ) (fU (aj (tC (.str "begin")) (aj (tC (.str "walk")) (aj (tC (.str "look")) aF)))))) (bH ((Qe (bw (G.HF K false) (jm π (tC (.str "ends"))) (gk aF)) (bw (G.HF K false) (tSl (Zuu K) (jm π (tC (.str "noted"))) Xy (Zbe (tK (G.iC K) (aj (jm π (tC (.str "walked"))) aF)))) (jm π (tC (.str "walked"))))))) bY)
   (bH ((Zq3 (bw (rIn K false) (bw (cZ K) ω τ) (fU (aj (tC (.str "cut")) (aj (tC (.str "lost")) aF)))) (bw (G.HF K true) (jm π (tC (.str "ends"))) (gk aF))))))
def mG(K:aC):TS:=
 (aN (dX (bO (bw (vR) (bw (cZ K) ω τ) (tC (.str "back")))) (uh (tBM K "list" qu (jm π (tC (.str "back"))) (aj (bw (cZ K) ω υ) aF))) bY)
   (mF K))
def mH(K:aC):TS:=
 (aN (dX (bO (bw (rIn K false) (bw (cZ K) ω τ) (fU (aj (tC (.str "back")) (aj (tC (.str "pass")) aF))))) (Zi6 ((jm π (tC (.str "counts")))) (Γ) (υ) (G.Zic K) (ipI λi j=>i+j) v9) bY)
   (mG K))
def mJ(K:aC):TS:=
 (aN (dX (bO (bw (vR) (bw (cZ K) ω τ) (tC (.str "look")))) (Zi6 ((jm π (tC (.str "counts")))) (υ) (υ) (G.Zic K) (ipI λi j=>i+j) v9) bY)
   (mH K))
def mK(K:aC):TS:=
 (aN (dX (bO (bw (vR) (bw (cZ K) ω τ) (tC (.str "walk")))) (uh (tBM K "list" qu (jm π (tC (.str "walked"))) (aj (bw (cZ K) ω υ) aF))) bY)
   (mJ K))
def xH(K:aC):TS:=
 (aN (Zi6 ((jm π (tC (.str "counts")))) (τ) (υ) (G.Zic K) (ipI λi j=>i+j) v9)
   (aN (dX (bO (bw (rIn K false) (bw (cZ K) ω τ) (fU (aj (tC (.str "begin")) (aj (tC (.str "walk")) (aj (tC (.str "look")) aF)))))) (QC π (tC (.str "noted")) (bw (u5) (jm π (tC (.str "noted"))) (bw (cZ K) ω Γ))) bY)
   (mK K)))
def uZ(K:aC):TS:=
 (aN (bI (jm π (tC (.str "noted"))) (aO 5))
   (aN (uh (tBM K "list" qu (jm π (tC (.str "ends"))) (aj (bw (cZ K) ω Γ) aF)))
   (aN (bI (ak 4) (Ov (jm π (tC (.str "counts"))) (tC (.int 3)) v9))
   (aN (dX ((Wr (bO (bw (G.HF K true) (ak 5) (jm π (tC (.str "walked"))))) (bO (bw (rNe) (G.Zi5 K (ak 5)) (tK (G.iC K) (aj (ak 5) aF)))))) (bH (tC (.bl false))) bY)
   (aN (GQ (yJ K (bw (u5) (ak 5) (bw (cZ K) ω Γ))) (aO 6)
   (dX (bO (bw (rIn K true) (ak 6) (jm π (tC (.str "there"))))) (bH (tC (.bl false))) bY))
   (aN (bI (bw (qb K) (jm π (tC (.str "counts"))) υ) (aO 7))
   (aN (dX ((Wr ((Tj (bO (bw (vR) ae τ)) (bO (bw (rNe) (ak 7) τ)))) (Wr ((Tj (bO (bw (vR) ae υ)) (bO (bw (rNe) (ak 7) ac)))) ((Tj (bO (bw (vR) ae Γ)) (bO (bw (nR λi j=>.bl (decide (j<i))) (ak 7) (tK (G.iC K) (aj (ak 5) aF))))))))) (bH (tC (.bl false))) bY)
   (bH ((Qe (bw (vR) (bw (cZ K) ω υ) (tK (G.iC K) (aj (bw (cZ K) ω Γ) aF))) (bw (vR) (tK (G.iC K) (aj (ak 5) aF)) (bw (nR λi j=>.int (i - j)) (tK (G.iC K) (aj (jm π (tC (.str "there"))) aF)) (bw (cZ K) ω υ)))))))))))))
def uY(K:aC):TS:=
 (aN (bI (jm π (tC (.str "counts"))) (G.Zu4 K 4 (yL (aO 2) (yL (aO 3) (yL (aO 4) (yL (aO 5) Zl1))))))
   (aN (dX ((Wr (bO (bw (G.HF K true) (jm π (tC (.str "noted"))) (jm π (tC (.str "walked"))))) (bO (bw (G.Zmg K true) (jm π (tC (.str "ends"))) (gk (aj (jm π (tC (.str "back"))) aF)))))) (bH (tC (.bl false))) bY)
   (aN (dX ((Wr (bO (bw (rNe) (ak 4) (ak 5))) (bO (bw (rNe) ae (bw Θ (bw Θ (bw Θ (tC (.int 3)) ac) (tK (G.iC K) (aj (jm π (tC (.str "walked"))) aF))) (ak 4)))))) (bH (tC (.bl false))) bY)
   (bH (bw (G.HF K false) (bw (cZ K) ω Γ) (gk (aj (tK (G.iC K) (aj (jm π (tC (.str "walked"))) aF)) (aj ac (aj (ak 4) aF)))))))))
def zL(K:aC)(Qm Ql Tv Tr Zq7:Sp):TS:=
 (aN (bI (aX Zq7 [] E0 (aj π aF)) (aO 4))
   (aN (dX (DY (tB (aX Tv [] E0 (aj (ak 4) (aj (ak 4) aF))))) (bH (tC (.bl false))) bY)
   (aN (bI (fU (aj (bw (cZ K) (ak 4) τ) (aj (bw (cZ K) (ak 4) υ) (aj (tK (G.Gs K) (aj (bw (cZ K) (ak 4) Γ) aF)) aF)))) (aO 5))
   (aN (uh (tBM K "list" qu (bw (cZ K) (ak 4) Γ) (aj (tC (.int 9)) aF)))
   (aN (dX (DY (tB (aX Tr [] E0 (aj ω (aj (ak 5) aF))))) (bH (tC (.bl false))) bY)
   (aN (dX (bO (bw (vR) (bw (cZ K) (ak 5) τ) (tC (.str "lost")))) (bH (bw (G.HF K false) (jm ω (tC (.str "noted"))) (jm ω (tC (.str "walked"))))) bY)
   (aN (dX (bO (bw (vR) (bw (cZ K) (ak 5) τ) (tC (.str "cut")))) (bH (aX Qm [] E0 (aj ω (aj (ak 5) (aj ae (aj (tK (G.iC K) (aj (bG K π "hands") aF)) (aj ac aF))))))) bY)
   (bH ((Zq3 (bw (rNe) (bw (cZ K) (ak 5) τ) (tC (.str "end"))) (aX Ql [] E0 (aj ω (aj (ak 5) aF)))))))))))))
def pM(K:aC)(X4:Sp):TS:=
 (aN (bI (aX X4 [] E0 (aj π (aj ω aF))) (aO 3))
   (aN (dX (bO (bw (G.Oj) ac (tC .non))) (bH (tC (.bl true))) bY)
   (aN (bI (tK (G.Gs K) (aj (bw (cZ K) ac Γ) aF)) (aO 4))
   (aN (uh (tBM K "list" qu (bw (cZ K) ac Γ) (aj (tC (.int 9)) aF)))
   (aN (dX ((Tj (bO (bw (G.HF K true) (ak 4) (gk aF))) ((Wr (bO (bw (rIn K true) (bw (cZ K) ac τ) (fU (aj (tC (.str "put")) (aj (tC (.str "given")) (aj (tC (.str "sought")) aF)))))) (bO (bw (rNe) (bG K (bG K π "sweeper") "phase") (tC (.str "walk")))))))) (bH (tC (.bl false))) bY)
   (aN (QC ae (tC (.str "noted")) (bw (u5) (jm ae (tC (.str "noted"))) (ak 4)))
   (bH (bw (nR λi j=>.bl (decide (i<=j))) (tK (G.iC K) (aj (ak 4) aF)) Γ))))))))
def Zfn(K:aC)(aY fD:AH)(o8 Hj fZ Fp Eo Tu X3 XR XN XM:Sp):TS:=
 (aN (bI (bw ο (aX fZ [] E0 (aj π (aj τ aF))) (tC (.int 12))) (aO 1))
   (aN (bI (aX Tu [] E0 (aj π aF)) (aO 2))
   (aN (bI (Ba fD Hj [] E0 (aj (aX XR [] E0 (aj π aF)) (aj (aX X3 [] E0 (aj ω aF)) (aj (tK (G.Gs K) (aj ae aF)) aF)))) (aO 3))
   (aN (bI (aX Eo [] E0 (aj ac aF)) (aO 4))
   (aN (bI τ (aO 5))
   (aN (GQ (yJ K (aX XN [] E0 (aj π (aj ae aF)))) (aO 6)
   (aN (dX (bO (bw (vR) (bG K (bG K ac "sweeper") "phase") (tC (.str "lost")))) (bH (tC (.bl true))) bY)
   (aN (dX (bO (bw (G.Oj) (ak 6) (tC .non))) (aN (dX (bO (bw (vR) (bG K (bG K ac "sweeper") "phase") (tC (.str "rest")))) (bI (aX Eo [] E0 (aj ac aF)) (aO 4)) bY)
   (dX (DY (tB (aX XM [] E0 (aj ac (aj (ak 4) (aj (bw ο ω (tC (.int 3))) (aj (ak 5) aF))))))) (bH (tC (.bl false))) bY)) (dX (DY (tB (aX Fp [] E0 (aj ac (aj (ak 6) (aj (ak 4) aF)))))) (bH (tC (.bl false))) bY))
   (bI (tK (G.Zzg) (aj (ak 5) (aj (tK (G.iC K) (aj (lq aY "there" o8 [] E0 (bG K ac "heap") aF) aF)) aF))) (aO 5)))))
   (bH (tC (.bl true)))))))))
structure TxC(K:aC)(bB aY:AH):Prop where
 dB:Fl K bB
 dZ:bL K bB "birth"
 nW:bL K bB "bulk"
 mz:bL K bB "tone"
 lC:bL K bB "load"
 fW:bL K bB "fields"
 cP:Fl K aY
 nU:bL K aY "room"
 bT:bL K aY "cells"
 jo:bL K aY "used"
 mq:bL K aY "born"
 Ph:EqD K bB
structure yS(CC:AH)(H:Hp)(p fa:AH)(birth bulk tone load:Int)(fl:List V):Prop where
 o:∃dx,H p=some (.ins CC dx (nQ birth bulk tone load fa))
 f:H fa=some (.lst fl)
theorem yS.same{CC:AH}{H H':Hp}{p fa:AH}{birth bulk tone load:Int}{fl:List V}(h:yS CC H p fa birth bulk tone load fl)(s:bz H H'):yS CC H' p fa birth bulk tone load fl:=by
 obtain⟨⟨dx,h1⟩,h2⟩:=h;exact⟨⟨dx,s _ _ h1⟩,s _ _ h2⟩
structure HpO(CH:AH)(H:Hp)(hp ca:AH)(room used born:Int)(cs:List V):Prop where
 o:∃dx,H hp=some (.ins CH dx (kY room ca used born))
 c:H ca=some (.lst cs)
theorem Sv{a b c d e f g:Int}{x y:AH}:nQ a b c d x≠kY e y f g:=λz=>by
 have:=congrArg List.length z;cases this
def wV(CC:AH):Sp:=λvs H Q E=>∃p birth many bulk tone,vs=[.ref p,.int birth,.int many,.int bulk,.int tone]/\∃dx,H p=some (.ins CC dx [])/\0<=many/\many<=1000/\
 ∀fa H',H fa=none->H' p=some (.ins CC dx (nQ birth bulk tone 0 fa))->H' fa=some (.lst (List.replicate many.toNat V.non))->(∀b o,H b=some o->b≠p->H' b=some o)->Q .non H'
def mW(CC:AH):Sp:=λvs H Q E=>∃p,vs=[.ref p]/\∃fa birth bulk tone load fl,yS CC H p fa birth bulk tone load fl/\Q (.int (1+fl.length+bulk)) H
def wQ(CH:AH):Sp:=λvs H Q E=>∃p room,vs=[.ref p,.int room]/\∃dx,H p=some (.ins CH dx [])/\
 ∀ca H',H ca=none->H' p=some (.ins CH dx (kY room ca 0 0))->H' ca=some (.lst [])->(∀b o,H b=some o->b≠p->H' b=some o)->Q .non H'
def wR(CH:AH):Sp:=λvs H Q E=>∃hp,vs=[.ref hp]/\∃ca room used born cs,HpO CH H hp ca room used born cs/\Q (.int (room - used)) H
def DG(cs:List V):AD:=((List.range cs.length).filter λi=>!decide (cs[i]? =some V.non)).map λ(i:Nat)=>(i:Int)
def jl(CH:AH):Sp:=λvs H Q E=>∃hp,vs=[.ref hp]/\∃ca room used born cs,HpO CH H hp ca room used born cs/\cs.length<=1000/\∀l,H l=none->Q (.ref l) (upd H l (.lst ((DG cs).map V.int)))
def putN(cs:List V)(v:V):List V:=if V.non∈cs then cs.set (cs.idxOf V.non) v else cs++[v]
def Av(K:aC)(CH:AH):Sp:=λvs H Q E=>∃hp v,vs=[.ref hp,v]/\∃ca room used born cs,HpO CH H hp ca room used born cs/\OkN K H cs/\cs.length<=1000/\Q (.int (cs.idxOf V.non)) (upd H ca (.lst (putN cs v)))
def tG(CC CH:AH):Sp:=λvs H Q E=>∃hp i,vs=[.ref hp,.int i]/\∃ca dx room used born cs p fa birth bulk tone load fl,0<=i/\H hp=some (.ins CH dx (kY room ca used born))/\H ca=some (.lst cs)/\cs[i.toNat]? =↑p/\yS CC H p fa birth bulk tone load fl/\
 Q (.int birth) (upd (upd H hp (.ins CH dx (kY room ca (used - (1+fl.length+bulk)) born))) ca (.lst (cs.set i.toNat V.non)))
def wO(K:aC)(CC CH CF:AH):Sp:=λvs H Q E=>∃hp many bulk tone,vs=[.ref hp,.int many,.int bulk,.int tone]/\∃ca dx room used born cs,H hp=some (.ins CH dx (kY room ca used born))/\H ca=some (.lst cs)/\OkN K H cs/\cs.length<=1000/\0<=many/\many<=1000/\
 (room - used<1+many+bulk->∀H',bz H H'->E (.ref CF) none H')/\
 (1+many+bulk<=room - used->∀p fa H',H p=none->H fa=none->Fm [hp,ca] H H'->H' hp=some (.ins CH dx (kY room ca (used+(1+many+bulk)) (born+1)))->H' ca=some (.lst (putN cs (.ref p)))->
  yS CC H' p fa (born+1) bulk tone 0 (List.replicate many.toNat V.non)->Q (.int (cs.idxOf V.non)) H')
section
variable {K:aC}{bB aY bU:AH}{H:Hp}{Q:VK}{E:XK}{n:ν}{bk ct:ν}
theorem V6{p:AH}(T:TxC K bB aY)(q:∃fa birth bulk tone load fl,yS bB H p fa birth bulk tone load fl/\Q (.int (1+fl.length+bulk)) H):xR K ξ [↑p] H:=by
 obtain⟨fa,birth,bulk,tone,load,fl,⟨⟨dx,h1⟩,h2⟩,h⟩:=q;unfold xR;apply aH h1 T.dB T.fW nj ?_;apply fK (cC.of h2) ?_;apply aH h1 T.dB T.nW VG ?_;apply h
theorem MF{p:AH}{birth many bulk tone:Int}(T:TxC K bB aY)(q:∃dx,H p=some (.ins bB dx [])/\0<=many/\many<=1000/\
 ∀fa H',H fa=none->H' p=some (.ins bB dx (nQ birth bulk tone 0 fa))->H' fa=some (.lst (List.replicate many.toNat V.non))->(∀b o,H b=some o->b≠p->H' b=some o)->Q .non H'):
  rH K ⟨λ_ H'=>Q .non H',Q,bk,ct⟩ [↑p,some (.int birth),some (.int many),some (.int bulk),some (.int tone)] H:=by
 obtain⟨dx,hp,h0,h1,h⟩:=q;unfold rH;exists p,bB,dx,[],rfl,hp,T.dB,T.dZ,ε;apply⟨p,bB,dx,_,rfl,aq,T.dB,T.nW,by show 1<1000;decide,?_⟩;rw[eZ];apply⟨p,bB,dx,_,rfl,aq,T.dB,T.mz,by show 2<1000;decide,?_⟩;rw[eZ];apply⟨p,bB,dx,_,rfl,aq,T.dB,T.lC,by show 3<1000;decide,?_⟩;rw[eZ];apply⟨ε,λl0 hl0=>?_⟩;apply⟨l0,many,_,rfl,rfl,aq,δ,δ,?_,λfa hfa=>?_⟩
 ·show 1 * many.toNat<=sizeLine;exact aU δ
 have npl:p≠l0:=aD aq hl0;have npf:p≠fa:=aD ((aB npl).trans aq) hfa;apply⟨p,bB,dx,_,rfl,(aB npf).trans ((aB npl).trans aq),T.dB,T.fW,by show 4<1000;decide,?_⟩;have nfa:H fa=none:=by
  have e:=hfa;have n1:fa≠l0:=λz=>by rw[z,aq]at e;cases e
  rw[aB n1,aB npf.symm]at e;exact e
 refine h fa _ nfa (aq.trans (congrArg (λl=>some (HO.ins bB dx l)) Zpo)) ?_ λb o hb hne=>?_
 ·rw[aB npf.symm,aq];have e:(List.replicate many.toNat [V.non]).flatten=List.replicate many.toNat V.non:=by
   generalize many.toNat=k
   induction k with
   | zero=>rfl
   | succ k ih=>rw[List.replicate_succ,List.replicate_succ,List.flatten_cons,ih];rfl
  rw[e]
 ·have e1:upd H p (HO.ins bB dx (cI "load" (V.int 0) (cI "tone" (V.int tone) (cI "bulk" (V.int bulk) (cI "birth" (V.int birth) []))))) b=some o:=(aB hne).trans hb;have n1:b≠l0:=aD e1 hl0;have n2:b≠fa:=aD ((aB n1).trans e1) hfa;rw[aB hne,aB n2,aB n1];exact e1
theorem Mq{p:AH}{room:Int}(T:TxC K bB aY)(q:∃dx,H p=some (.ins aY dx [])/\
 ∀ca H',H ca=none->H' p=some (.ins aY dx (kY room ca 0 0))->H' ca=some (.lst [])->(∀b o,H b=some o->b≠p->H' b=some o)->Q .non H'):
  rF K ⟨λ_ H'=>Q .non H',Q,bk,ct⟩ [↑p,some (.int room)] H:=by
 obtain⟨dx,hp,h⟩:=q;unfold rF;exists p,aY,dx,[],rfl,hp,T.cP,T.nU,ε;apply⟨ε,λca hca=>?_⟩;ext;have npc:p≠ca:=aD aq hca;refine⟨p,aY,dx,_,rfl,(aB npc).trans aq,T.cP,T.bT,by show 1<1000;decide,?_⟩;apply⟨p,aY,dx,_,rfl,aq,T.cP,T.jo,by show 2<1000;decide,?_⟩;rw[eZ];apply⟨p,aY,dx,_,rfl,aq,T.cP,T.mq,by show 3<1000;decide,?_⟩;rw[eZ];have nca:H ca=none:=by
  have e:=hca;rw[aB npc.symm]at e;exact e
 refine h ca _ nca (aq.trans (congrArg (λl=>some (HO.ins aY dx l)) Zot)) ?_ λb o hb hne=>?_
 ·rw[aB npc.symm,aq]
 ·rw[aB hne,aB (aD ((aB hne).trans hb) hca),aB hne];exact hb
theorem Zb3{hp:AH}(T:TxC K bB aY)(q:∃ca room used born cs,HpO aY H hp ca room used born cs/\Q (.int (room - used)) H):zX K ξ [↑hp] H:=by
 obtain⟨ca,room,used,born,cs,⟨⟨dx,h1⟩,h2⟩,h⟩:=q;unfold zX;apply aH h1 T.cP T.nU Vn ?_;apply aH h1 T.cP T.jo yh ?_;apply h
theorem V0{hp:AH}(T:TxC K bB aY)(q:∃ca room used born cs,HpO aY H hp ca room used born cs/\cs.length<=1000/\∀l,H l=none->Q (.ref l) (upd H l (.lst ((DG cs).map V.int)))):xQ K ξ [↑hp] H:=by
 obtain⟨ca,room,used,born,cs,⟨⟨dx,h1⟩,h2⟩,hl,h⟩:=q;unfold xQ;apply W2 ?_;apply aH h1 T.cP T.bT cA ?_;apply fK (cC.of h2) ?_;exists _,rfl,δ,δ;refine Zo5 (n:=cs.length) δ (p:=λi=>!decide (cs[i]? =some V.non)) (f:=λi=>.int i) δ ?_ ?_ ?_
 ·intro i hi k hk;walk_at"c";apply aH h1 T.cP T.bT cA ?_;apply lX (cC.of h2) (kW (bM hi)) ?_;apply Zgt ?_;rw[bM hi]at hk;ext;simpa using hk
 ·intro i hi _ k hk;walk_at"c";apply hk
 ·have e:((DG cs).map V.int)=((List.range cs.length).filter λi=>!decide (cs[i]? =some V.non)).map λ(i:Nat)=>V.int i:=by
   unfold DG;rw[List.map_map];rfl
  rw[<- e];exact h
theorem Ze4{hp:AH}{v:V}(T:TxC K bB aY)(q:∃ca room used born cs,HpO aY H hp ca room used born cs/\OkN K H cs/\cs.length<=1000/\Q (.int (cs.idxOf V.non)) (upd H ca (.lst (putN cs v)))):Cq K ξ [↑hp,some v,none] H:=by
 obtain⟨ca,room,used,born,cs,⟨⟨dx,h1⟩,h2⟩,ho,hl,h⟩:=q;unfold Cq;apply aH h1 T.cP T.bT cA ?_;apply Zoh (cC.of h2) ho ?_;apply Gn (λhn=>?_) (λhn=>?_)
 ·apply aH h1 T.cP T.bT cA ?_;refine⟨.inl ⟨rfl,_,cC.of h2⟩,?_⟩;exists ca,cs,v,rfl,rfl,h2,Nat.lt_of_le_of_lt hl ε;ext;have hne:hp≠ca:=qG h1 h2 (λz=>by cases z);refine aH ((aB hne).trans h1) T.cP T.bT cA ?_;apply fK (cC.of aq) ?_;ext;have e1:(((cs++[v]).length:Int) - 1)=(cs.idxOf V.non:Nat):=by
   rw[List.length_append,List.idxOf_eq_length hn];simp
  have e2:putN cs v=cs++[v]:=by unfold putN;rw[if_neg hn]
  rw[e1,<- e2];exact h
 ·apply aH h1 T.cP T.bT cA ?_;refine⟨.inl ⟨rfl,_,cC.of h2⟩,?_⟩;exists ca,cs,rfl,rfl,cC.of h2,ho,hn;apply aH h1 T.cP T.bT cA ?_;ext;have hi:cs.idxOf V.non<cs.length:=List.idxOf_lt_length_iff.mpr hn;refine⟨ca,cs,_,_,rfl,rfl,h2,uB hi,?_⟩;have e2:putN cs v=cs.set (cs.idxOf V.non) v:=by unfold putN;rw[if_pos hn]
  rw[<- e2];apply h
theorem Zb4{hp:AH}{i:Int}(T:TxC K bB aY)(q:∃ca dx room used born cs p fa birth bulk tone load fl,0<=i/\H hp=some (.ins aY dx (kY room ca used born))/\H ca=some (.lst cs)/\cs[i.toNat]? =↑p/\yS bB H p fa birth bulk tone load fl/\
 Q (.int birth) (upd (upd H hp (.ins aY dx (kY room ca (used - (1+fl.length+bulk)) born))) ca (.lst (cs.set i.toNat V.non)))):zY K bB (mW bB) ξ [↑hp,some (.int i),none] H:=by
 obtain⟨ca,dx,room,used,born,cs,p,fa,birth,bulk,tone,load,fl,h0,h1,h2,hi,co,h⟩:=q;obtain⟨⟨dp,c1⟩,c2⟩:=id co;unfold zY;apply aH h1 T.cP T.bT cA ?_;apply lX (cC.of h2) (uC h0 hi) ?_;apply aH h1 T.cP T.jo yh ?_;exists p,dp,_,rfl,c1,vG;exists p,rfl,fa,birth,bulk,tone,load,fl,co;apply⟨hp,aY,dx,_,rfl,h1,T.cP,T.jo,by show 4<1000;decide,?_⟩;rw[Dl];have hne:hp≠ca:=qG h1 h2 (λz=>by cases z);apply aH aq T.cP T.bT cA ?_;ext;have hlt:i.toNat<cs.length:=(fH hi).1;refine⟨ca,cs,_,_,rfl,rfl,(aB hne.symm).trans h2,Zs9 h0 hlt,?_⟩;apply aH (C:=bB) (a:=p) (dx:=dp) (fs:=nQ birth bulk tone load fa) ?_ T.dB T.dZ gR ?_
 ·have n1:p≠ca:=qG c1 h2 (λz=>by cases z);have n2:p≠hp:=qG c1 h1 (λz=>by injection z with _ _ z;exact Sv z);rw[aB n1,aB n2];exact c1
 exact h
theorem Zb2{hp:AH}{many bulk tone:Int}(T:TxC K bB aY)(q:∃ca dx room used born cs,H hp=some (.ins aY dx (kY room ca used born))/\H ca=some (.lst cs)/\OkN K H cs/\cs.length<=1000/\0<=many/\many<=1000/\
 (room - used<1+many+bulk->∀H',bz H H'->E (.ref bU) none H')/\
 (1+many+bulk<=room - used->∀p fa H',H p=none->H fa=none->Fm [hp,ca] H H'->H' hp=some (.ins aY dx (kY room ca (used+(1+many+bulk)) (born+1)))->H' ca=some (.lst (putN cs (.ref p)))->
  yS bB H' p fa (born+1) bulk tone 0 (List.replicate many.toNat V.non)->Q (.int (cs.idxOf V.non)) H')):
  zW K bB bU aY (wV bB) (mW bB) (wR aY) (Av K aY) E ξ [↑hp,some (.int many),some (.int bulk),some (.int tone),none] H:=by
 obtain⟨ca,dx,room,used,born,cs,h1,h2,ho,hl,m0,m1,hE,hQ⟩:=q;have hne:hp≠ca:=qG h1 h2 (λz=>by cases z);unfold zW;apply aH h1 T.cP T.mq Vo ?_;ext;intro p dp np ndp ned;refine⟨p,_,many,_,_,rfl,dp,aq,m0,m1,λfa H1 nfa c1 c2 f3=>⟨rfl,?_⟩⟩;have Zvh:H fa=none:=by
  have e:=nfa
  by_cases z1:fa=p
  ·rw[z1,aq]at e;cases e
  ·rw[aB z1]at e
   by_cases z2:fa=dp
   ·rw[z2,aq]at e;cases e
   ·rw[aB z2]at e;exact e
 have sm:bz H H1:=λb o hb=>by
  refine f3 b o ?_ (aD hb np);rw[aB (aD hb np),aB (aD hb ndp)];exact hb
 have co:yS bB H1 p fa (born+1) bulk tone 0 (List.replicate many.toNat V.non):=⟨⟨dp,c1⟩,c2⟩;have el:((List.replicate many.toNat V.non).length:Int)=many:=by rw[List.length_replicate];omega
 exists p,dp,_,rfl,c1,vG;exists p,rfl,fa,_,_,_,_,_,co;exists hp,dx,_,rfl,sm _ _ h1,Vl;exists hp,rfl,ca,room,used,born,cs,⟨⟨dx,sm _ _ h1⟩,sm _ _ h2⟩;ext;rw[el];refine qM (λhf=>?_) (λhf=>?_)
 ·apply⟨ε,hE hf H1 sm⟩
 ·apply aH c1 T.dB T.dZ gR ?_;apply⟨hp,aY,dx,_,rfl,sm _ _ h1,T.cP,T.mq,by show 4<1000;decide,?_⟩;rw[RX];apply aH aq T.cP T.jo yh ?_;ext;have n1:p≠hp:=(aD h1 np).symm;have n2:fa≠hp:=(aD h1 Zvh).symm;have n3:p≠ca:=(aD h2 np).symm;have n4:fa≠ca:=(aD h2 Zvh).symm;refine⟨p,dp,_,rfl,(aB n1).trans c1,vG,?_⟩;exists p,rfl,fa,_,_,_,_,_,⟨⟨dp,(aB n1).trans c1⟩,(aB n2).trans c2⟩;ext;rw[el];refine⟨hp,aY,dx,_,rfl,aq,T.cP,T.jo,by show 4<1000;decide,?_⟩;rw[Dl,eZ];exists hp,dx,_,rfl,aq,Z8;exists hp,.ref p,rfl,ca,room,_,_,cs,⟨⟨dx,aq⟩,(aB hne.symm).trans (sm _ _ h2)⟩,?_,hl
  ·intro y hy;rcases ho y hy with e | ⟨a,C,d,fs,e,ha,hc,he⟩
   ·exact .inl e
   ·refine .inr ?_
    by_cases z:a=hp
    ·rw[z]at ha e;rw[h1]at ha;cases ha;exact⟨hp,_,_,_,e,aq,hc,he⟩
    ·exact⟨a,C,d,fs,e,(aB z).trans (sm _ _ ha),hc,he⟩
  ·refine hQ δ p fa _ np Zvh ?_ ((aB hne).trans aq) aq ⟨⟨dp,?_⟩,?_⟩
   ·intro b o hb hn;have b1:b≠hp:=λz=>hn (by rw[z];exact List.mem_cons_self);have b2:b≠ca:=λz=>hn (by rw[z];exact List.mem_cons_of_mem _ List.mem_cons_self);rw[aB b2,aB b1];exact sm _ _ hb
   ·rw[aB n3,aB n1];exact c1
   ·rw[aB n4,aB n2];exact c2
end
structure Ce where
 birth:Int
 bulk:Int
 tone:Int
 load:Int
 fl:Au
 deriving DecidableEq
structure Sw where
 sense:Int
 phase:Str
 grey:AD
 looked:Int
 turn:Int
 at':Int
 stop:Int
 walks:Int
 looks:Int
 passes:Int
 loss:V
structure Wm where
 room:Int
 used:Int
 born:Int
 cells:List (Option Ce)
 hands:List (Str×Au)
 names:List (Str×(Int×Int))
 w:Int
 tells:Int
 sw:Sw
structure Wa where
 wo:AH
 hp:AH
 ca:AH
 ki:AH
 lk:AH
 hl:AH
 nm:AH
 sw:AH
 gr:AH
 hs:List (AH×AH)
 cs:List (Option (AH×AH))
 ns:AE
def oV:AA->V
 | none=>.non
 | some i=>.int i
def pV:Option (AH×AH)->V
 | none=>.non
 | some p=>.ref p.1
structure yx(s:Nat)(t0:Nat->Prop)(H H':Hp)(T T':Tg):Prop where
 kp:∀b o,H b=some o->(T b).1=s->¬ t0 (T b).2->H' b=some o
 tg:∀b o,H b=some o->T' b=T b
section
variable {CHd CC:AH}{H H':Hp}{T T':Tg}{s j i:Nat}{t0:Nat->Prop}
theorem yx.at{a:AH}{o:HO}{m:Nat}(f:yx s t0 H H' T T')(ht:T a=(s,m))(n:¬ t0 m)(h:H a=some o):H' a=some o:=f.kp a o h (by rw[ht]) (by rw[ht];exact n)
theorem yx.tag{a:AH}{o:HO}{x:Nat×Nat}(f:yx s t0 H H' T T')(h:H a=some o)(ht:T a=x):T' a=x:=(f.tg a o h).trans ht
theorem yx.CZ{a:AH}{o:HO}{m:Nat}(ht:T a=(s,m)):yx s (·=m) H (upd H a o) T T:=⟨λb u h e n=>by
  have:b≠a:=λz=>n (by rw[z,ht]);rw[aB this];exact h,λ_ _ _=>rfl⟩
theorem yx.of_same(e:bz H H'):yx s (λ_=>False) H H' T T:=⟨λb o h _ _=>e b o h,λ_ _ _=>rfl⟩
theorem yx.Zn8{s':Nat}(e:d7 s' H H' T T')(n:s≠s'):yx s (λ_=>False) H H' T T':=⟨λb o h z _=>e.kp b o h (by rw[z];exact n),e.tg⟩
structure HdO(CHd:AH)(H:Hp)(T:Tg)(s j:Nat)(p:AH×AH)(m:Str×Au):Prop where
 t1:T p.1=(s,20+2 * j)
 t2:T p.2=(s,21+2 * j)
 o1:∃dx,H p.1=some (.ins CHd dx (Zdd m.1 p.2))
 o2:H p.2=some (.lst (m.2.map oV))
theorem HdO.mv{p:AH×AH}{m:Str×Au}(h:HdO CHd H T s j p m)(f:yx s t0 H H' T T')(n1:¬ t0 (20+2 * j))(n2:¬ t0 (21+2 * j)):HdO CHd H' T' s j p m:=by
 obtain⟨a1,a2,⟨dx,b1⟩,b2⟩:=h;exact⟨f.tag b1 a1,f.tag b2 a2,⟨dx,f.at a1 n1 b1⟩,f.at a2 n2 b2⟩
structure S8(CC:AH)(H:Hp)(T:Tg)(s i:Nat)(p:AH×AH)(c:Ce):Prop where
 t1:T p.1=(s,100+2 * i)
 t2:T p.2=(s,101+2 * i)
 o1:∃dx,H p.1=some (.ins CC dx (nQ c.birth c.bulk c.tone c.load p.2))
 o2:H p.2=some (.lst (c.fl.map oV))
theorem S8.mv{p:AH×AH}{c:Ce}(h:S8 CC H T s i p c)(f:yx s t0 H H' T T')(n1:¬ t0 (100+2 * i))(n2:¬ t0 (101+2 * i)):S8 CC H' T' s i p c:=by
 obtain⟨a1,a2,⟨dx,b1⟩,b2⟩:=h;exact⟨f.tag b1 a1,f.tag b2 a2,⟨dx,f.at a1 n1 b1⟩,f.at a2 n2 b2⟩
def CeP(CC:AH)(H:Hp)(T:Tg)(s i:Nat):Option (AH×AH)->Option Ce->Prop
 | none,none=>True
 | some p,some c=>S8 CC H T s i p c
 | _,_=>False
theorem CeP.mv{p:Option (AH×AH)}{c:Option Ce}(h:CeP CC H T s i p c)(f:yx s t0 H H' T T')(n1:¬ t0 (100+2 * i))(n2:¬ t0 (101+2 * i)):CeP CC H' T' s i p c:=by
 cases p with
 | none=>cases c with
  | none=>trivial
  | some c=>exact h.elim
 | some p=>cases c with
  | none=>exact h.elim
  | some c=>exact S8.mv h f n1 n2
end
def NmO(H:Hp)(T:Tg)(t:AH)(m:Str×(Int×Int)):Prop:=T t=(0,0)/\H t=some (.tup [.int m.2.1,.int m.2.2])
structure Cs where
 W:AH
 H:AH
 C:AH
 K:AH
 D:AH
 S:AH
 F:AH
 E:AH
 L:AH
structure WB(X:Cs)(H:Hp)(T:Tg)(s:Nat)(A:Wa)(w tells:Int):Prop where
 tw:T A.wo=(s,0)
 tk:T A.ki=(0,0)
 tl:T A.lk=(0,0)
 tn:T A.hl=(s,5)
 ow:∃dx,H A.wo=some (.ins X.W dx (Bo A.hp A.ki A.hl A.nm A.sw))
 ok:∃dx,H A.ki=some (.ins X.K dx (RC A.lk tells))
 ol:∃dx,(w=0/\H A.lk=some (.ins X.F dx []))\/(w=1/\H A.lk=some (.ins X.E dx []))\/(w=2/\H A.lk=some (.ins X.L dx []))
 on:H A.hl=some (.lst (A.hs.map λp=>V.ref p.1))
structure WH(X:Cs)(H:Hp)(T:Tg)(s:Nat)(A:Wa)(room used born:Int):Prop where
 th:T A.hp=(s,1)
 tc:T A.ca=(s,2)
 oh:∃dx,H A.hp=some (.ins X.H dx (kY room A.ca used born))
 oc:H A.ca=some (.lst (A.cs.map pV))
def Bj(M:List (Str×(Int×Int)))(ns:AE):List ((Int ⊕ Str)×V):=List.zipWith (λ(m:Str×(Int×Int)) (t:AH)=>(Sum.inr m.1,V.ref t)) M ns
structure WN(H:Hp)(T:Tg)(s:Nat)(A:Wa)(names:List (Str×(Int×Int))):Prop where
 tm:T A.nm=(s,6)
 om:H A.nm=some (.dK (Bj names A.ns))
 nms:Al (NmO H T) A.ns names
structure WS(X:Cs)(H:Hp)(T:Tg)(s:Nat)(A:Wa)(S:Sw):Prop where
 ts:T A.sw=(s,7)
 tg:T A.gr=(s,8)
 os:∃dx,H A.sw=some (.ins X.S dx (cH S.sense S.phase A.gr S.looked S.turn S.at' S.stop S.walks S.looks S.passes S.loss))
 og:H A.gr=some (.lst (S.grey.map V.int))
structure WD(X:Cs)(H:Hp)(T:Tg)(s:Nat)(hs:List (AH×AH))(hands:List (Str×Au)):Prop where
 lh:hs.length=hands.length
 l5:hs.length<=30
 hd:∀(j:Nat) p m,hs[j]? =some p->hands[j]? =some m->HdO X.D H T s j p m
structure WC(X:Cs)(H:Hp)(T:Tg)(s:Nat)(cs:List (Option (AH×AH)))(cells:List (Option Ce)):Prop where
 lc:cs.length=cells.length
 ce:∀(i:Nat) p c,cs[i]? =some p->cells[i]? =some c->CeP X.C H T s i p c
structure WJ(X:Cs)(H:Hp)(T:Tg)(s:Nat)(A:Wa)(M:Wm):Prop where
 jb:WB X H T s A M.w M.tells
 jh:WH X H T s A M.room M.used M.born
 jn:WN H T s A M.names
 js:WS X H T s A M.sw
 jd:WD X H T s A.hs M.hands
 jc:WC X H T s A.cs M.cells
section
variable {X:Cs}{H H':Hp}{T T':Tg}{s:Nat}{t0:Nat->Prop}{A:Wa}{M:Wm}
theorem WB.mv{w tells:Int}(j:WB X H T s A w tells)(f:yx s t0 H H' T T')(f0:∀b o,H b=some o->T b=(0,0)->H' b=some o)(n0:¬ t0 0)(n5:¬ t0 5):WB X H' T' s A w tells:=by
 obtain⟨tw,tk,tl,tn,⟨d1,ow⟩,⟨d3,ok⟩,⟨d4,ol⟩,on⟩:=j;have hlk:∃o,H A.lk=some o:=by
  rcases ol with ⟨_,e⟩ | ⟨_,e⟩ | ⟨_,e⟩
  ·exact⟨_,e⟩
  ·exact⟨_,e⟩
  ·exact⟨_,e⟩
 obtain⟨olk,elk⟩:=hlk;refine⟨f.tag ow tw,f.tag ok tk,f.tag elk tl,f.tag on tn,⟨d1,f.at tw n0 ow⟩,⟨d3,f0 _ _ ok tk⟩,⟨d4,?_⟩,f.at tn n5 on⟩;rcases ol with ⟨z,e⟩ | ⟨z,e⟩ | ⟨z,e⟩
 ·exact .inl ⟨z,f0 _ _ e tl⟩
 ·exact .inr (.inl ⟨z,f0 _ _ e tl⟩)
 ·exact .inr (.inr ⟨z,f0 _ _ e tl⟩)
theorem WH.mv{room used born:Int}(j:WH X H T s A room used born)(f:yx s t0 H H' T T')(n1:¬ t0 1)(n2:¬ t0 2):WH X H' T' s A room used born:=by
 obtain⟨th,tc,⟨d,oh⟩,oc⟩:=j;exact⟨f.tag oh th,f.tag oc tc,⟨d,f.at th n1 oh⟩,f.at tc n2 oc⟩
theorem WN.mv{names:List (Str×(Int×Int))}(j:WN H T s A names)(f:yx s t0 H H' T T')(f0:∀b o,H b=some o->T b=(0,0)->H' b=some o)(n6:¬ t0 6):WN H' T' s A names:=by
 obtain⟨tm,om,nms⟩:=j;exact⟨f.tag om tm,f.at tm n6 om,nms.mono λt m ⟨z1,z2⟩=>⟨f.tag z2 z1,f0 _ _ z2 z1⟩⟩
theorem WS.mv{S:Sw}(j:WS X H T s A S)(f:yx s t0 H H' T T')(n7:¬ t0 7)(n8:¬ t0 8):WS X H' T' s A S:=by
 obtain⟨ts,tg,⟨d,os⟩,og⟩:=j;exact⟨f.tag os ts,f.tag og tg,⟨d,f.at ts n7 os⟩,f.at tg n8 og⟩
theorem WD.mv{hs:List (AH×AH)}{hands:List (Str×Au)}(j:WD X H T s hs hands)(f:yx s t0 H H' T T')(n:∀k,20<=k->k<100->¬ t0 k):WD X H' T' s hs hands:=by
 obtain⟨lh,l5,hd⟩:=j;refine⟨lh,l5,λj p m e1 e2=>?_⟩;have hl:j<hs.length:=(fH e1).1;exact(hd j p m e1 e2).mv f (n _ δ δ) (n _ δ δ)
theorem WC.mv{cs:List (Option (AH×AH))}{cells:List (Option Ce)}(j:WC X H T s cs cells)(f:yx s t0 H H' T T')(n:∀k,100<=k->¬ t0 k):WC X H' T' s cs cells:=by
 obtain⟨lc,ce⟩:=j;exact⟨lc,λi p c e1 e2=>(ce i p c e1 e2).mv f (n _ δ) (n _ δ)⟩
theorem WJ.mv(j:WJ X H T s A M)(f:yx s (λ_=>False) H H' T T')(f0:∀b o,H b=some o->T b=(0,0)->H' b=some o):WJ X H' T' s A M:=
 ⟨j.jb.mv f f0 id id,j.jh.mv f id id,j.jn.mv f f0 id,j.js.mv f id id,j.jd.mv f λ_ _ _=>id,j.jc.mv f λ_ _=>id⟩
theorem WJ.same(j:WJ X H T s A M)(e:bz H H'):WJ X H' T s A M:=j.mv (yx.of_same e) λb o h _=>e b o h
theorem WJ.other{s':Nat}(j:WJ X H T s A M)(e:d7 s' H H' T T')(n:s≠s')(n0:s'≠0):WJ X H' T' s A M:=j.mv (yx.Zn8 e n) λb o h t=>e.kp b o h (by rw[t];exact λz=>n0 z.symm)
theorem pR{a:AH}{o':HO}{m:Nat}(h0:s≠0)(ta:T a=(s,m)):∀b o,H b=some o->T b=(0,0)->upd H a o' b=some o:=λb o e t=>by
 rw[aB (Ag t ta (λz=>h0 (congrArg Prod.fst z).symm))];exact e
theorem WJ.slot(j:WJ X H T s A M)(w:WT H T)(h0:s≠0){h k:Nat}{p:AH×AH}{m:Str×Au}{x:AA}(hp:A.hs[h]? =some p)(hm:M.hands[h]? =some m):
  d7 s H (upd H p.2 (.lst ((m.2.map oV).set k (oV x)))) T T/\WJ X (upd H p.2 (.lst ((m.2.map oV).set k (oV x)))) T s A { M with hands:=M.hands.set h (m.1,m.2.set k x) }:=by
 have hl:=j.jd.l5;have hh:h<A.hs.length:=(fH hp).1;have hh':h<M.hands.length:=(fH hm).1;have d:=j.jd.hd h p m hp hm;refine⟨d7.upd w d.o2 (by rw[d.t2]),?_⟩;have f:yx s (·=21+2 * h) H (upd H p.2 (.lst ((m.2.map oV).set k (oV x)))) T T:=yx.CZ d.t2;have b2:upd H p.2 (.lst ((m.2.map oV).set k (oV x))) p.2=some (.lst ((m.2.set k x).map oV)):=by rw[aq,List.map_set]
 refine⟨j.jb.mv f (pR h0 d.t2) δ δ,j.jh.mv f δ δ,j.jn.mv f (pR h0 d.t2) δ,j.js.mv f δ δ,⟨by rw[List.length_set];exact j.jd.lh,hl,λj' p' m' e1 e2=>?_⟩,j.jc.mv f λ_ _=>δ⟩
 by_cases hj:j'=h
 ·subst hj;dsimp only at e2;rw[List.getElem?_set_self hh']at e2;rw[hp]at e1;cases e1;cases e2;obtain⟨dd,o1⟩:=d.o1;exact⟨d.t1,d.t2,⟨dd,f.at d.t1 δ o1⟩,b2⟩
 ·dsimp only at e2;rw[List.getElem?_set_ne (λz=>hj z.symm)]at e2;exact(j.jd.hd j' p' m' e1 e2).mv f δ δ
theorem WC.at(j:WC X H T s A.cs M.cells){i:Nat}{c:Ce}(h:M.cells[i]? =some (some c)):∃p,A.cs[i]? =some (some p)/\S8 X.C H T s i p c:=by
 have hl:i<A.cs.length:=by rw[j.lc];exact(fH h).1
 have e:=j.ce i _ _ (bM hl) h;cases hg:A.cs[i]with
 | none=>rw[hg]at e;exact e.elim
 | some g=>rw[hg]at e;exact⟨g,by rw[bM hl,hg],e⟩
theorem WC.at0(j:WC X H T s A.cs M.cells){i:Nat}(h:M.cells[i]? =some none):A.cs[i]? =some none:=by
 have hl:i<A.cs.length:=by rw[j.lc];exact(fH h).1
 have e:=j.ce i _ _ (bM hl) h;cases hg:A.cs[i]with
 | none=>rw[bM hl,hg]
 | some g=>rw[hg]at e;exact e.elim
theorem WC.chg(j:WC X H T s A.cs M.cells){i:Nat}{p:AH×AH}{c':Ce}(f:yx s t0 H H' T T')(hp:A.cs[i]? =some (some p))(n:∀k,100<=k->k≠100+2 * i->k≠101+2 * i->¬ t0 k)(e:S8 X.C H' T' s i p c'):
  WC X H' T' s A.cs (M.cells.set i (some c')):=by
 have hl:i<A.cs.length:=(fH hp).1;refine⟨by rw[List.length_set];exact j.lc,λk g c e1 e2=>?_⟩
 by_cases hk:k=i
 ·subst hk;rw[List.getElem?_set_self (by rw[<- j.lc];exact hl)]at e2;rw[hp]at e1;cases e1;cases e2;exact e
 ·rw[List.getElem?_set_ne (λz=>hk z.symm)]at e2;exact(j.ce k g c e1 e2).mv f (n _ δ δ δ) (n _ δ δ δ)
theorem WJ.field(j:WJ X H T s A M)(w:WT H T)(h0:s≠0){i k:Nat}{p:AH×AH}{c:Ce}{x:AA}(hp:A.cs[i]? =some (some p))(e:S8 X.C H T s i p c):
  d7 s H (upd H p.2 (.lst ((c.fl.map oV).set k (oV x)))) T T/\WJ X (upd H p.2 (.lst ((c.fl.map oV).set k (oV x)))) T s A { M with cells:=M.cells.set i (some { c with fl:=c.fl.set k x }) }:=by
 refine⟨d7.upd w e.o2 (by rw[e.t2]),?_⟩;have f:yx s (·=101+2 * i) H (upd H p.2 (.lst ((c.fl.map oV).set k (oV x)))) T T:=yx.CZ e.t2;have b2:upd H p.2 (.lst ((c.fl.map oV).set k (oV x))) p.2=some (.lst ((c.fl.set k x).map oV)):=by rw[aq,List.map_set]
 obtain⟨dd,o1⟩:=e.o1;exact⟨j.jb.mv f (pR h0 e.t2) δ δ,j.jh.mv f δ δ,j.jn.mv f (pR h0 e.t2) δ,j.js.mv f δ δ,j.jd.mv f λ_ _ _=>δ,
  j.jc.chg f hp (λk _ _ n2 z=>n2 z) ⟨e.t1,e.t2,⟨dd,f.at e.t1 δ o1⟩,b2⟩⟩
theorem WJ.cell(j:WJ X H T s A M)(w:WT H T)(h0:s≠0){i:Nat}{p:AH×AH}{c:Ce}{dx:AH}{tone load:Int}(hp:A.cs[i]? =some (some p))(e:S8 X.C H T s i p c):
  d7 s H (upd H p.1 (.ins X.C dx (nQ c.birth c.bulk tone load p.2))) T T/\WJ X (upd H p.1 (.ins X.C dx (nQ c.birth c.bulk tone load p.2))) T s A { M with cells:=M.cells.set i (some { c with tone:=tone,load:=load }) }:=by
 obtain⟨dd,o1⟩:=e.o1;refine⟨d7.upd w o1 (by rw[e.t1]),?_⟩;have f:yx s (·=100+2 * i) H (upd H p.1 (.ins X.C dx (nQ c.birth c.bulk tone load p.2))) T T:=yx.CZ e.t1;exact⟨j.jb.mv f (pR h0 e.t1) δ δ,j.jh.mv f δ δ,j.jn.mv f (pR h0 e.t1) δ,j.js.mv f δ δ,j.jd.mv f λ_ _ _=>δ,
  j.jc.chg f hp (λk _ n1 _ z=>n1 z) ⟨e.t1,e.t2,⟨dx,aq⟩,f.at e.t2 δ e.o2⟩⟩
theorem WJ.sweep(j:WJ X H T s A M)(w:WT H T)(h0:s≠0){dx:AH}(S:Sw)(e9:S.grey=M.sw.grey):
  d7 s H (upd H A.sw (.ins X.S dx (cH S.sense S.phase A.gr S.looked S.turn S.at' S.stop S.walks S.looks S.passes S.loss))) T T/\
  WJ X (upd H A.sw (.ins X.S dx (cH S.sense S.phase A.gr S.looked S.turn S.at' S.stop S.walks S.looks S.passes S.loss))) T s A { M with sw:=S }:=by
 obtain⟨ts,tg,⟨dd,os⟩,og⟩:=j.js;refine⟨d7.upd w os (by rw[ts]),?_⟩;have f:yx s (·=7) H (upd H A.sw (.ins X.S dx (cH S.sense S.phase A.gr S.looked S.turn S.at' S.stop S.walks S.looks S.passes S.loss))) T T:=yx.CZ ts;exact⟨j.jb.mv f (pR h0 ts) δ δ,j.jh.mv f δ δ,j.jn.mv f (pR h0 ts) δ,⟨ts,tg,⟨dx,aq⟩,by rw[e9];exact f.at tg δ og⟩,j.jd.mv f λ_ _ _=>δ,j.jc.mv f λ_ _=>δ⟩
theorem WJ.Zu1(j:WJ X H T s A M)(w:WT H T)(h0:s≠0){g:AD}:d7 s H (upd H A.gr (.lst (g.map V.int))) T T/\WJ X (upd H A.gr (.lst (g.map V.int))) T s A { M with sw:={ M.sw with grey:=g } }:=by
 obtain⟨ts,tg,⟨dd,os⟩,og⟩:=j.js;refine⟨d7.upd w og (by rw[tg]),?_⟩;have f:yx s (·=8) H (upd H A.gr (.lst (g.map V.int))) T T:=yx.CZ tg;exact⟨j.jb.mv f (pR h0 tg) δ δ,j.jh.mv f δ δ,j.jn.mv f (pR h0 tg) δ,⟨ts,tg,⟨dd,f.at ts δ os⟩,aq⟩,j.jd.mv f λ_ _ _=>δ,j.jc.mv f λ_ _=>δ⟩
theorem WJ.back(j:WJ X H T s A M)(w:WT H T)(h0:s≠0){i:Nat}{dx:AH}{used':Int}(hi:i<A.cs.length)(H':Hp)(kp:∀b o,H b=some o->b≠A.hp->b≠A.ca->H' b=some o)(a1:H' A.hp=some (.ins X.H dx (kY M.room A.ca used' M.born)))(a2:H' A.ca=some (.lst ((A.cs.map pV).set i V.non))):
  d7 s H H' T T/\WJ X H' T s { A with cs:=A.cs.set i none } { M with used:=used',cells:=M.cells.set i none }:=by
 obtain⟨th,tc,⟨dd,oh⟩,oc⟩:=j.jh;have al:∀b o,H b=some o->∃o',H' b=some o':=λb o h=>by
  by_cases z1:b=A.hp
  ·exact⟨_,by rw[z1];exact a1⟩
  ·by_cases z2:b=A.ca
   ·exact⟨_,by rw[z2];exact a2⟩
   ·exact⟨o,kp b o h z1 z2⟩
 have f:yx s (λk=>k=1\/k=2) H H' T T:=⟨λb o h e n=>kp b o h (λz=>n (.inl (by rw[z,th]))) (λz=>n (.inr (by rw[z,tc]))),λ_ _ _=>rfl⟩;have f0:∀b o,H b=some o->T b=(0,0)->H' b=some o:=λb o h t=>kp b o h (Ag t th (λz=>h0 (congrArg Prod.fst z).symm)) (Ag t tc (λz=>h0 (congrArg Prod.fst z).symm));refine⟨⟨λb o h n=>kp b o h (λz=>n (by rw[z,th])) (λz=>n (by rw[z,tc])),al,λ_ _ _=>rfl,λb h=>w b ?_⟩,?_⟩
 ·cases z:H b with
  | none=>rfl
  | some o=>obtain⟨o',z'⟩:=al b o z;rw[h]at z';cases z'
 ·refine⟨?_,⟨th,tc,⟨dx,a1⟩,by rw[List.map_set];exact a2⟩,?_,?_,j.jd.mv f λ_ _ _=>δ,⟨by rw[List.length_set,List.length_set];exact j.jc.lc,λk g c e1 e2=>?_⟩⟩
  ·obtain⟨b1,b2,b3,b4,b5,b6,b7,b8⟩:=j.jb.mv f f0 δ δ;exact⟨b1,b2,b3,b4,b5,b6,b7,b8⟩
  ·obtain⟨b1,b2,b3⟩:=j.jn.mv f f0 δ;exact⟨b1,b2,b3⟩
  ·obtain⟨b1,b2,b3,b4⟩:=j.js.mv f δ δ;exact⟨b1,b2,b3,b4⟩
  ·by_cases hk:k=i
   ·subst hk;dsimp only at e1 e2;rw[List.getElem?_set_self hi]at e1;rw[List.getElem?_set_self (by rw[<- j.jc.lc];exact hi)]at e2;cases e1;cases e2
    trivial
   ·dsimp only at e1 e2;rw[List.getElem?_set_ne (λz=>hk z.symm)]at e1 e2;exact(j.jc.ce k g c e1 e2).mv f δ δ
end
def lD{α:Type}:List (Option α)->Nat
 | []=>0
 | none::_=>0
 | some _::l=>lD l+1
def nM{α:Type}(l:List (Option α))(x:α):List (Option α):=if lD l<l.length then l.set (lD l) (some x)else l++[some x]
theorem Za0{α:Type}(l:List (Option α)):lD l<=l.length:=by
 induction l with
 | nil=>exact Nat.le_refl _
 | cons a l ih=>cases a with
  | none=>exact Nat.zero_le _
  | some a=>exact Nat.succ_le_succ ih
theorem Zt0{α:Type}{l:List (Option α)}(h:lD l<l.length):l[lD l]? =some none:=by
 induction l with
 | nil=>exact absurd h (Nat.lt_irrefl _)
 | cons a l ih=>cases a with
  | none=>rfl
  | some a=>exact ih (Nat.lt_of_succ_lt_succ h)
theorem Zdf{α:Type}{f:Option α->V}(hf:∀x,f x=V.non↔x=none)(l:List (Option α)):(l.map f).idxOf V.non=lD l/\(V.non∈l.map f↔lD l<l.length):=by
 induction l with
 | nil=>exact⟨rfl,⟨λz=>(nomatch z),λz=>absurd z (Nat.lt_irrefl _)⟩⟩
 | cons a l ih=>
  rw[List.map_cons,List.idxOf_cons];cases a with
  | none=>
   have e:f none=V.non:=(hf none).mpr rfl;rw[e];exact⟨rfl,⟨λ_=>Nat.zero_lt_succ _,λ_=>List.mem_cons_self⟩⟩
  | some a=>
   have e:f (some a)≠V.non:=λz=>by cases (hf (some a)).mp z
   have b:(f (some a) == V.non)=false:=beq_eq_false_iff_ne.mpr e;rw[b];refine⟨congrArg (· + 1) ih.1,?_⟩;show _↔lD l+1<l.length+1;rw[List.mem_cons,ih.2];constructor
   ·rintro(z | z)
    ·exact absurd z.symm e
    ·omega
   ·intro z;exact .inr δ
theorem Zmi{α:Type}{f:Option α->V}(hf:∀x,f x=V.non↔x=none)(l:List (Option α))(x:α):putN (l.map f) (f (some x))=(nM l x).map f:=by
 obtain⟨e1,e2⟩:=Zdf hf l;unfold putN nM
 by_cases z:lD l<l.length
 ·rw[if_pos z,if_pos (e2.mpr z),List.map_set];exact congrArg (λk=>(l.map f).set k (f (some x))) e1
 ·rw[if_neg z,if_neg (λw=>z (e2.mp w)),List.map_append];rfl
theorem Zn2(p:Option (AH×AH)):pV p=V.non↔p=none:=by cases p<;>simp[pV]
theorem O2{α:Type}(l:List (Option α))(x:α):(nM l x)[lD l]? =some (some x):=by
 unfold nM
 by_cases z:lD l<l.length
 ·rw[if_pos z,List.getElem?_set_self z]
 ·have e:lD l=l.length:=Nat.le_antisymm (Za0 l) δ;rw[if_neg z,e,List.getElem?_append_right Δ,Nat.sub_self];rfl
theorem Zid{α:Type}{l:List (Option α)}{x:α}{i:Nat}{y:Option α}(hi:i≠lD l)(h:(nM l x)[i]? =some y):l[i]? =some y:=by
 unfold nM at h
 by_cases z:lD l<l.length
 ·rw[if_pos z,List.getElem?_set_ne (λw=>hi w.symm)]at h;exact h
 ·rw[if_neg z]at h;have e:lD l=l.length:=Nat.le_antisymm (Za0 l) δ;have hl:=(fH h).1;rw[List.length_append,List.length_singleton]at hl;rw[List.getElem?_append_left δ]at h;exact h
theorem Zmj{α β:Type}{l:List (Option α)}{m:List (Option β)}{x:α}{y:β}(hl:l.length=m.length)(hf:lD l=lD m):(nM l x).length=(nM m y).length:=by
 unfold nM
 by_cases z:lD l<l.length
 ·rw[if_pos z,if_pos δ,List.length_set,List.length_set];exact hl
 ·rw[if_neg z,if_neg δ,List.length_append,List.length_append,hl];rfl
theorem Zqt{α:Type}(l:List (Option α))(x:α):(nM l x).length<=l.length+1:=by
 unfold nM
 by_cases z:lD l<l.length
 ·rw[if_pos z,List.length_set];omega
 ·rw[if_neg z,List.length_append];exact Nat.le_refl _
theorem Zsz{α β:Type}:∀(l:List (Option α)) (m:List (Option β)),l.length=m.length->(∀(i:Nat) x y,l[i]? =some x->m[i]? =some y->(x=none↔y=none))->lD l=lD m:=by
 intro l
 induction l with
 | nil=>
  intro m hl _;cases m with
  | nil=>rfl
  | cons b m=>simp at hl
 | cons a l ih=>
  intro m hl h;cases m with
  | nil=>simp at hl
  | cons b m=>
   have ih':=ih m (by simpa using hl) λi x y h1 h2=>h (i+1) x y (by simpa using h1) (by simpa using h2);have e:=h 0 a b rfl rfl;cases a with
   | none=>rw[e.mp rfl];rfl
   | some a=>cases b with
    | none=>exact absurd (e.mpr rfl) (λz=>by cases z)
    | some b=>exact congrArg (· + 1) ih'
section
variable {X:Cs}{H H':Hp}{T T':Tg}{s:Nat}{A:Wa}{M:Wm}
theorem WC.fst(j:WC X H T s A.cs M.cells):lD A.cs=lD M.cells:=Zsz _ _ j.lc λi p c e1 e2=>by
 have e:=j.ce i p c e1 e2;cases p with
 | none=>cases c with
  | none=>exact⟨λ_=>rfl,λ_=>rfl⟩
  | some c=>exact e.elim
 | some p=>cases c with
  | none=>exact e.elim
  | some c=>exact⟨λz=>(by cases z),λz=>(by cases z)⟩
theorem WJ.put(j:WJ X H T s A M)(w:WT H T)(h0:s≠0){dx:AH}{used':Int}{p fa:AH}{c:Ce}(kp:∀b o,H b=some o->b≠A.hp->b≠A.ca->H' b=some o)(a1:H' A.hp=some (.ins X.H dx (kY M.room A.ca used' (M.born+1))))(a2:H' A.ca=some (.lst (putN (A.cs.map pV) (.ref p))))
  (n1:H p=none) (n2:H fa=none) (m1:p≠fa) (o1:∃dx,H' p=some (.ins X.C dx (nQ c.birth c.bulk c.tone c.load fa))) (o2:H' fa=some (.lst (c.fl.map oV))):
  ∃T',d7 s H H' T T'/\WJ X H' T' s { A with cs:=nM A.cs (p,fa) } { M with used:=used',born:=M.born+1,cells:=nM M.cells c }:=by
 obtain⟨th,tc,⟨dd,oh⟩,oc⟩:=j.jh;have i1:=j.jc.fst
 let k:=lD A.cs
 let T':Tg:=dz (dz T p (s,100+2 * k)) fa (s,101+2 * k)
 have told:∀b o,H b=some o->T' b=T b:=λb o h=>by
  show dz _ _ _ b=_;rw[fc (aD h n2),fc (aD h n1)]
 have t1:T' p=(s,100+2 * k):=by show dz _ _ _ p=_;rw[fc m1,gU]
 have t2:T' fa=(s,101+2 * k):=by show dz _ _ _ fa=_;rw[gU]
 have al:∀b o,H b=some o->∃o',H' b=some o':=λb o h=>by
  by_cases z1:b=A.hp
  ·exact⟨_,by rw[z1];exact a1⟩
  ·by_cases z2:b=A.ca
   ·exact⟨_,by rw[z2];exact a2⟩
   ·exact⟨o,kp b o h z1 z2⟩
 have f:yx s (λk=>k=1\/k=2) H H' T T':=⟨λb o h e n=>kp b o h (λz=>n (.inl (by rw[z,th]))) (λz=>n (.inr (by rw[z,tc]))),told⟩;have f0:∀b o,H b=some o->T b=(0,0)->H' b=some o:=λb o h t=>kp b o h (Ag t th (λz=>h0 (congrArg Prod.fst z).symm)) (Ag t tc (λz=>h0 (congrArg Prod.fst z).symm));refine⟨T',⟨λb o h nn=>kp b o h (λz=>nn (by rw[z,th])) (λz=>nn (by rw[z,tc])),al,told,λb h=>?_⟩,?_⟩
 ·have b1:b≠p:=λe=>by obtain⟨d,z⟩:=o1;rw[e,z]at h;cases h
  have b2:b≠fa:=λe=>by rw[e,o2]at h;cases h
  have hb:H b=none:=by
   cases z:H b with
   | none=>rfl
   | some o=>obtain⟨o',z'⟩:=al b o z;rw[h]at z';cases z'
  show dz _ _ _ b=_;rw[fc b2,fc b1];exact w b hb
 ·refine⟨?_,⟨f.tag oh th,f.tag oc tc,⟨dx,a1⟩,?_⟩,?_,?_,j.jd.mv f λ_ _ _=>δ,⟨Zmj j.jc.lc i1,λi g cc e1 e2=>?_⟩⟩
  ·obtain⟨b1,b2,b3,b4,b5,b6,b7,b8⟩:=j.jb.mv f f0 δ δ;exact⟨b1,b2,b3,b4,b5,b6,b7,b8⟩
  ·show H' A.ca=some (.lst ((nM A.cs (p,fa)).map pV));rw[<- Zmi Zn2];exact a2
  ·obtain⟨b1,b2,b3⟩:=j.jn.mv f f0 δ;exact⟨b1,b2,b3⟩
  ·obtain⟨b1,b2,b3,b4⟩:=j.js.mv f δ δ;exact⟨b1,b2,b3,b4⟩
  ·dsimp only at e1 e2
   by_cases hk:i=lD A.cs
   ·subst hk;rw[O2]at e1;rw[i1,O2]at e2;cases e1;cases e2;exact⟨t1,t2,o1,o2⟩
   ·exact(j.jc.ce i g cc (Zid hk e1) (Zid (by rw[<- i1];exact hk) e2)).mv f δ δ
end
def cellAt(M:Wm)(x:Int):Option Ce:=if 0<=x then(M.cells[x.toNat]?).join else none
def Fg(M:Wm):AA->AA
 | none=>none
 | some x=>(cellAt M x).map (·.birth)
def aW(M:Wm)(h k:Nat):AA:=((M.hands[h]?).bind λm=>m.2[k]?).join
def setSlot(M:Wm)(h k:Nat)(x:AA):Wm:={ M with hands:=M.hands.modify h λm=>(m.1,m.2.set k x) }
def setCell(M:Wm)(i:Int)(c:Ce):Wm:={ M with cells:=M.cells.set i.toNat (some c) }
def bN(M:Wm):AA->AA×Wm
 | none=>(none,M)
 | some i=>match cellAt M i with
  | none=>(none,M)
  | some c=>if M.sw.phase="walk"/\c.tone≠M.sw.sense then(some c.birth,{ setCell M i { c with tone:=M.sw.sense }with sw:={ M.sw with grey:=M.sw.grey++[i] } })else(none,M)
def dI(M:Wm)(h:Nat):Bool:=decide (M.sw.looked / 2 ^ h % 2=1)
def tD(M:Wm)(place birth:Int):Bool:=match cellAt M place with
 | none=>true
 | some c=>if c.birth=birth then decide (M.sw.phase="give"/\c.tone≠M.sw.sense)else true
def wg(l:List (Str×(Int×Int)))(k:Str)(v:Int×Int):List (Str×(Int×Int)):=if (l.any λm=>decide (m.1=k))=true then l.map (λm=>if m.1=k then(m.1,v)else m)else l++[(k,v)]
def yK(l:List (Str×(Int×Int)))(k:Str):Option (Int×Int):=(l.find? λm=>decide (m.1=k)).map (·.2)
inductive Rf where
 | full | empty | sI | Rk
 deriving DecidableEq
structure Ev where
 word:Str
 thing:AA
 notes:AD
inductive oR where
 | make (h s:Nat) (many bulk:Int)
 | get (h s t f:Nat)
 | put (h t f s:Nat)
 | copy (h s t:Nat)
 | drop (h s:Nat)
 | give (h s g t:Nat)
 | write (h t:Nat) (load:Int)
 | read (h t:Nat)
 | name (h t:Nat) (word:Str)
 | seek (h s:Nat) (word:Str)
def old?(M:Wm):Bool:=decide (M.tells % 2=1)
def qT(M:Wm):Bool:=decide (M.tells / 2 % 2=1)
def Rc:AA->AD
 | none=>[]
 | some b=>[b]
def aR(M:Wm):Au->AD×Wm
 | []=>([],M)
 | x::l=>(Rc (bN M x).1++(aR (bN M x).2 l).1,(aR (bN M x).2 l).2)
def ug(M:Wm):oR->Except Rf (Ev×Wm)
 | .make h s many bulk=>
  if M.used+(1+many+bulk)<=M.room then
   .ok (⟨"made",some (M.born+1),[]⟩,setSlot { M with used:=M.used+(1+many+bulk),born:=M.born+1,cells:=nM M.cells ⟨M.born+1,bulk,M.sw.sense,0,List.replicate many.toNat none⟩ } h s (some (lD M.cells)))
  else .error .full
 | .get h s t f=>match aW M h t with
  | none=>.error .empty
  | some x=>match cellAt M x with
   | none=>.error .empty
   | some c=>match c.fl[f]? with
    | none=>.error .sI
    | some v=>.ok (⟨"got",Fg M v,[]⟩,setSlot M h s v)
 | .put h t f s=>match aW M h t with
  | none=>.error .empty
  | some x=>match cellAt M x with
   | none=>.error .empty
   | some c=>match c.fl[f]? with
    | none=>.error .sI
    | some v=>
     let M1:=setCell M x { c with fl:=c.fl.set f (aW M h s) }
     let r:=aR M1 ((if old? M=true then [v]else [])++if (qT M && !dI M h)=true then [aW M h s]else [])
     .ok (⟨"put",Fg M v,r.1⟩,r.2)
 | .copy h s t=>.ok (⟨"copied",Fg M (aW M h t),[]⟩,setSlot M h s (aW M h t))
 | .drop h s=>.ok (⟨"dropped",Fg M (aW M h s),[]⟩,setSlot M h s none)
 | .give h s g t=>
  let r:=aR (setSlot M g t (aW M h s)) (if (qT M && !dI M h)=true then [aW M h s]else [])
  .ok (⟨"given",Fg M (aW M h s),r.1⟩,r.2)
 | .write h t load=>match aW M h t with
  | none=>.error .empty
  | some x=>match cellAt M x with
   | none=>.error .empty
   | some c=>.ok (⟨"wrote",some c.load,[]⟩,setCell M x { c with load:=load })
 | .read h t=>match aW M h t with
  | none=>.error .empty
  | some x=>match cellAt M x with
   | none=>.error .empty
   | some c=>.ok (⟨"read",some c.load,[]⟩,M)
 | .name h t word=>match aW M h t with
  | none=>.error .empty
  | some x=>match cellAt M x with
   | none=>.error .empty
   | some c=>.ok (⟨"named",some c.birth,[]⟩,{ M with names:=wg M.names word (x,c.birth) })
 | .seek h s word=>match yK M.names word with
  | none=>.error .Rk
  | some (p,b)=>
   if tD M p b=true then .ok (⟨"sought",none,[]⟩,setSlot M h s none)
   else
    let r:=aR (setSlot M h s (some p)) [some p]
    .ok (⟨"sought",some b,r.1⟩,r.2)
def dV:oR->List V
 | .make h s many bulk=>[.str "make",.int h,.int s,.int many,.int bulk]
 | .get h s t f=>[.str "get",.int h,.int s,.int t,.int f]
 | .put h t f s=>[.str "put",.int h,.int t,.int f,.int s]
 | .copy h s t=>[.str "copy",.int h,.int s,.int t]
 | .drop h s=>[.str "drop",.int h,.int s]
 | .give h s g t=>[.str "give",.int h,.int s,.int g,.int t]
 | .write h t load=>[.str "write",.int h,.int t,.int load]
 | .read h t=>[.str "read",.int h,.int t]
 | .name h t word=>[.str "name",.int h,.int t,.str word]
 | .seek h s word=>[.str "seek",.int h,.int s,.str word]
def Bl(M:Wm)(h s:Nat):Prop:=∃m,M.hands[h]? =some m/\s<m.2.length
def okD(M:Wm):oR->Prop
 | .make h s many bulk=>Bl M h s/\0<=many/\many<=1000/\0<=bulk
 | .get h s t _=>Bl M h s/\Bl M h t
 | .put h t _ s=>Bl M h t/\Bl M h s
 | .copy h s t=>Bl M h s/\Bl M h t
 | .drop h s=>Bl M h s
 | .give h s g t=>Bl M h s/\Bl M g t
 | .write h t _=>Bl M h t
 | .read h t=>Bl M h t
 | .name h t _=>Bl M h t
 | .seek h s _=>Bl M h s
structure Ok(M:Wm):Prop where
 sl:∀m∈M.hands,∀x,some x∈m.2->∃c,cellAt M x=some c
 fl:∀c,some c∈M.cells->∀x,some x∈c.fl->∃d,cellAt M x=some d
 tn:∀c,some c∈M.cells->c.tone=0\/c.tone=1
def Bk(Zzq Zxg Zpx Ztl:AH):Rf->AH
 | .full=>Zzq
 | .empty=>Zxg
 | .sI=>Zpx
 | .Rk=>Ztl
def EvN(H0 H:Hp)(T:Tg)(s:Nat)(a:AH)(e:Ev):Prop:=∃l,(H0 l=none/\(T l).1≠s)/\H a=some (.tup [.str e.word,oV e.thing,.ref l])/\H l=some (.lst (e.notes.map V.int))
theorem Zem{H:Hp}{T:Tg}{s:Nat}{l:AH}(w:WT H T)(s0:s≠0)(n:H l=none):H l=none/\(T l).1≠s:=⟨n,by rw[w l n];exact λz=>s0 z.symm⟩
def cG(X:Cs)(rf:Rf->AH)(P:oR->Prop):Sp:=λvs H Q E=>∃wo dd,vs=[.ref wo,.ref dd]/\∃T s A M d,P d/\WT H T/\s≠0/\WJ X H T s A M/\A.wo=wo/\H dd=some (.tup (dV d))/\okD M d/\M.cells.length<=900/\(M.sw.phase="walk"->M.sw.grey.length<=10000)/\(0<=M.tells/\M.tells<4)/\M.names.length<=1000/\
 (∀r,ug M d=.error r->∀H',bz H H'->E (.ref (rf r)) none H')/\
 (∀e M',ug M d=.ok (e,M')->∀H' T' A' a,d7 s H H' T T'->WJ X H' T' s A' M'->A'.wo=wo->EvN H H' T' s a e->Q (.ref a) H')
abbrev ZIa(X:Cs)(rf:Rf->AH):Sp:=cG X rf λ_=>True
theorem Zjm{α:Type}{l:List (Option α)}{x a:α}{i:Nat}(h:l[i]? =some (some a)):(nM l x)[i]? =some (some a):=by
 have hl:=(fH h).1;unfold nM
 by_cases z:lD l<l.length
 ·have hi:i≠lD l:=λe=>by rw[e,Zt0 z]at h;cases h
  rw[if_pos z,List.getElem?_set_ne (λw=>hi w.symm)];exact h
 ·rw[if_neg z,List.getElem?_append_left hl];exact h
theorem cV{M:Wm}{x:Int}{c:Ce}:cellAt M x=some c↔0<=x/\M.cells[x.toNat]? =some (some c):=by
 unfold cellAt
 by_cases z:0<=x
 ·rw[if_pos z];cases e:M.cells[x.toNat]? with
  | none=>simp
  | some y=>cases y with
   | none=>simp
   | some d=>simp[z]
 ·rw[if_neg z];simp[z]
theorem vH{M:Wm}{x:Int}{c:Ce}(h:cellAt M x=some c):some c∈M.cells:=List.mem_of_getElem? (cV.mp h).2
theorem Sx{M:Wm}{x u b:Int}{c d:Ce}(h:cellAt M x=some d):cellAt { M with used:=u,born:=b,cells:=nM M.cells c } x=some d:=by
 obtain⟨h0,h1⟩:=cV.mp h;exact cV.mpr ⟨h0,Zjm h1⟩
theorem Zhq{M:Wm}{u b:Int}{c:Ce}:cellAt { M with used:=u,born:=b,cells:=nM M.cells c } (lD M.cells)=some c:=
 cV.mpr ⟨δ,by rw[Int.toNat_natCast];exact O2 _ _⟩
theorem Znk{α:Type}{l:List (Option α)}{x:α}{y:Option α}(h:y∈nM l x):y∈l\/y=some x:=by
 unfold nM at h
 by_cases z:lD l<l.length
 ·rw[if_pos z]at h;rcases List.mem_or_eq_of_mem_set h with h | h
  ·exact .inl h
  ·exact .inr h
 ·rw[if_neg z]at h;rcases List.mem_append.mp h with h | h
  ·exact .inl h
  ·exact .inr (List.mem_singleton.mp h)
theorem Zjf{M:Wm}{h k:Nat}{m:Str×Au}{x:AA}(hm:M.hands[h]? =some m)(hk:m.2[k]? =some x):aW M h k=x:=by
 unfold aW;rw[hm];show(m.2[k]?).join=x;rw[hk];rfl
theorem Zca{M:Wm}{h k:Nat}(o:Bl M h k):∃m,M.hands[h]? =some m/\m.2[k]? =some (aW M h k)/\k<m.2.length:=by
 obtain⟨m,hm,hk⟩:=o;refine⟨m,hm,?_,hk⟩;rw[Zjf hm (bM hk)];exact bM hk
theorem Tz{M:Wm}{h k:Nat}{x:AA}{m:Str×Au}(hm:M.hands[h]? =some m):(setSlot M h k x).hands=M.hands.set h (m.1,m.2.set k x):=by
 show M.hands.modify h _=_;refine List.ext_getElem? ?_;intro i;rw[List.getElem?_modify]
 by_cases e:h=i
 ·subst e;rw[List.getElem?_set_self (fH hm).1,hm];simp
 ·rw[List.getElem?_set_ne e];simp[e]
theorem p7{M:Wm}{h k:Nat}{x:AA}{y:AA}:Fg (setSlot M h k x) y=Fg M y:=by cases y<;>rfl
theorem Zga{M:Wm}(h:M.sw.phase≠"walk")(x:AA):bN M x=(none,M):=by
 cases x with
 | none=>rfl
 | some x=>
  unfold bN;dsimp only;cases cellAt M x with
  | none=>rfl
  | some c=>
   dsimp only;rw[if_neg (λz=>h z.1)]
theorem Zdq{M:Wm}{h s:Nat}{many bulk:Int}(hf:M.used+(1+many+bulk)<=M.room):ug M (.make h s many bulk)=.ok (⟨"made",some (M.born+1),[]⟩,setSlot { M with used:=M.used+(1+many+bulk),born:=M.born+1,cells:=nM M.cells ⟨M.born+1,bulk,M.sw.sense,0,List.replicate many.toNat none⟩ } h s (some (lD M.cells))):=by
 show(if _ then _ else _)=_;rw[if_pos hf]
structure rY(K:aC)(X:Cs):Prop where
 c:TxC K X.C X.H
 cW:Fl K X.W
 M6:bL K X.W "heap"
 nWk:bL K X.W "kind"
 nWd:bL K X.W "hands"
 nWn:bL K X.W "names"
 Ro:bL K X.W "sweeper"
 cD:Fl K X.D
 nDn:bL K X.D "name"
 nDs:bL K X.D "slots"
 cK:Fl K X.K
 nKl:bL K X.K "looking"
 nKt:bL K X.K "tells"
 cS:Fl K X.S
 n1:bL K X.S "sense"
 n2:bL K X.S "phase"
 n3:bL K X.S "grey"
 n4:bL K X.S "looked"
 n5:bL K X.S "turn"
 n6:bL K X.S "at"
 n7:bL K X.S "stop"
 n8:bL K X.S "walks"
 n9:bL K X.S "looks"
 n10:bL K X.S "passes"
 n11:bL K X.S "loss"
structure WJ0(X:Cs)(H:Hp)(T:Tg)(s:Nat)(A:Wa)(M:Wm):Prop where
 jb:WB X H T s A M.w M.tells
 jh:WH X H T s A M.room M.used M.born
 js:WS X H T s A M.sw
 jd:WD X H T s A.hs M.hands
 jc:WC X H T s A.cs M.cells
theorem WJ.w0{X:Cs}{H:Hp}{T:Tg}{s:Nat}{A:Wa}{M:Wm}(j:WJ X H T s A M):WJ0 X H T s A M:=⟨j.jb,j.jh,j.js,j.jd,j.jc⟩
theorem WJ.names{X:Cs}{H:Hp}{T:Tg}{s:Nat}{A:Wa}{M:Wm}{o:HO}(j:WJ X H T s A M)(h0:s≠0):WJ0 X (upd H A.nm o) T s A M:=by
 have f:yx s (·=6) H (upd H A.nm o) T T:=yx.CZ j.jn.tm;exact⟨j.jb.mv f (pR h0 j.jn.tm) δ δ,j.jh.mv f δ δ,j.js.mv f δ δ,j.jd.mv f λ_ _ _=>δ,j.jc.mv f λ_ _=>δ⟩
theorem WJ0.same{X:Cs}{H H':Hp}{T:Tg}{s:Nat}{A:Wa}{M:Wm}(j:WJ0 X H T s A M)(e:bz H H'):WJ0 X H' T s A M:=by
 have f:yx s (λ_=>False) H H' T T:=yx.of_same e;exact⟨j.jb.mv f (λb o h _=>e b o h) id id,j.jh.mv f id id,j.js.mv f id id,j.jd.mv f λ_ _ _=>id,j.jc.mv f λ_ _=>id⟩
def atO(cs:List V):V->V
 | .int i=>if 0<=i then(cs[i.toNat]?).getD .non else .non
 | _=>.non
def d8(CH:AH):Sp:=λvs H Q E=>∃hp pl,vs=[.ref hp,pl]/\(pl=.non\/∃i,pl=.int i)/\∃ca room used born cs,HpO CH H hp ca room used born cs/\Q (atO cs pl) H
def cO(M:Wm)(x:AA):Option Ce:=x.bind (cellAt M)
def cN(X:Cs):Sp:=λvs H Q E=>∃hp pl,vs=[.ref hp,pl]/\∃x,pl=oV x/\∃T s A M,WJ X H T s A M/\A.hp=hp/\Q (oV (Fg M x)) H
def wM(X:Cs):Sp:=λvs H Q E=>∃p f,vs=[.ref p,.int f]/\∃T s i q c,S8 X.C H T s i q c/\q.1=p/\Q (.bl (decide (0<=f) && decide (f<c.fl.length))) H
def cu(X:Cs):Sp:=λvs H Q E=>∃wo h,vs=[.ref wo,.int h]/\∃T s A M k p,WJ X H T s A M/\A.wo=wo/\h=((k:Nat):Int)/\A.hs[k]? =some p/\Q (.ref p.2) H
def di(X:Cs):Sp:=λvs H Q E=>∃wo p,vs=[.ref wo,.ref p]/\∃T s A M i q c,WJ0 X H T s A M/\A.wo=wo/\S8 X.C H T s i q c/\q.1=p/\Q (.bl (decide (c.tone=M.sw.sense))) H
def wL(X:Cs):Sp:=λvs H Q E=>∃wo h,vs=[.ref wo,.int h]/\∃T s A M k,WJ X H T s A M/\A.wo=wo/\h=((k:Nat):Int)/\Q (.bl (dI M k)) H
def Aq(X:Cs):Sp:=λvs H Q E=>∃wo v,vs=[.ref wo,v]/\∃T s A M,WJ X H T s A M/\A.wo=wo/\(0<=M.tells/\M.tells<4)/\∀l,H l=none->Q (.ref l) (upd H l (.lst (if old? M=true then [v]else [])))
def pW(X:Cs):Sp:=λvs H Q E=>∃wo h v,vs=[.ref wo,.int h,v]/\∃T s A M k,WJ X H T s A M/\A.wo=wo/\(0<=M.tells/\M.tells<4)/\h=((k:Nat):Int)/\∀l,H l=none->Q (.ref l) (upd H l (.lst (if (qT M && !dI M k)=true then [v]else [])))
def jW(X:Cs)(CE:AH):Sp:=λvs H Q E=>∃wo h t,vs=[.ref wo,.int h,.int t]/\∃T s A M hn tn,WJ X H T s A M/\A.wo=wo/\h=((hn:Nat):Int)/\t=((tn:Nat):Int)/\Bl M hn tn/\
 (cO M (aW M hn tn)=none->E (.ref CE) none H)/\
 (∀i c p,aW M hn tn=some i->0<=i->cellAt M i=some c->A.cs[i.toNat]? =some (some p)->S8 X.C H T s i.toNat p c->Q (.ref p.1) H)
def oE(X:Cs)(CE CF:AH):Sp:=λvs H Q E=>∃wo h t f,vs=[.ref wo,.int h,.int t,.int f]/\∃T s A M hn tn fn,WJ X H T s A M/\A.wo=wo/\h=((hn:Nat):Int)/\t=((tn:Nat):Int)/\f=((fn:Nat):Int)/\Bl M hn tn/\
 (cO M (aW M hn tn)=none->E (.ref CE) none H)/\
 (∀i c,aW M hn tn=some i->0<=i->cellAt M i=some c->c.fl[fn]? =none->E (.ref CF) none H)/\
 (∀i c p,aW M hn tn=some i->0<=i->cellAt M i=some c->A.cs[i.toNat]? =some (some p)->S8 X.C H T s i.toNat p c->fn<c.fl.length->Q (.ref p.2) H)
def Zax(X:Cs):Sp:=λvs H Q E=>∃wo pl,vs=[.ref wo,pl]/\∃x,pl=oV x/\∃T s A M,WT H T/\s≠0/\WJ X H T s A M/\A.wo=wo/\(M.sw.phase="walk"->M.sw.grey.length<=20000)/\
 ∀H',d7 s H H' T T->WJ X H' T s A (bN M x).2->Q (oV (bN M x).1) H'
def PlO(H:Hp)(T:Tg)(A:Wa)(M:Wm)(pl:AH)(xs:Au):Prop:=(H pl=some (.lst (xs.map oV))/\T pl=(0,0))\/(∃(k:Nat) (p:AH×AH) (m:Str×Au),A.hs[k]? =some p/\M.hands[k]? =some m/\pl=p.2/\xs=m.2)\/(∃(k:Nat) (p:AH×AH) (c:Ce),A.cs[k]? =some (some p)/\M.cells[k]? =some (some c)/\pl=p.2/\xs=c.fl)
theorem PlO.get{X:Cs}{H:Hp}{T:Tg}{s:Nat}{A:Wa}{M:Wm}{pl:AH}{xs:Au}(h:PlO H T A M pl xs)(j:WJ X H T s A M):H pl=some (.lst (xs.map oV)):=by
 rcases h with ⟨h,_⟩ | ⟨k,p,m,h1,h2,rfl,rfl⟩ | ⟨k,p,c,h1,h2,rfl,rfl⟩
 ·exact h
 ·exact(j.jd.hd k p m h1 h2).o2
 ·have e:=j.jc.ce k _ _ h1 h2;exact(show S8 X.C H T s k p c from e).o2
def fO(X:Cs):Sp:=λvs H Q E=>∃wo pl,vs=[.ref wo,.ref pl]/\∃xs T s A M,WT H T/\s≠0/\WJ X H T s A M/\A.wo=wo/\PlO H T A M pl xs/\xs.length<=100/\(M.sw.phase="walk"->M.sw.grey.length<=10000)/\
 ∀H' T' l,d7 s H H' T T'->WJ X H' T' s A (aR M xs).2->H' l=some (.lst ((aR M xs).1.map V.int))->(H l=none/\(T' l).1≠s)->Q (.ref l) H'
def Gv(X:Cs):Sp:=λvs H Q E=>∃wo p b,vs=[.ref wo,.int p,.int b]/\∃T s A M,WJ0 X H T s A M/\A.wo=wo/\Q (.bl (tD M p b)) H
def sX(X:Cs)(CN:AH):Sp:=λvs H Q E=>∃wo z,vs=[.ref wo,.str z]/\∃T s A M,WJ X H T s A M/\A.wo=wo/\(yK M.names z=none->E (.ref CN) none H)/\(∀p b,yK M.names z=some (p,b)->Q (if tD M p b=true then .non else .int p) H)
theorem yF(x:AA):oV x=.non\/∃i,oV x=.int i:=by cases x with
 | none=>exact .inl rfl
 | some i=>exact .inr ⟨i,rfl⟩
section
variable {X:Cs}{H H':Hp}{T T':Tg}{s:Nat}{A:Wa}{M:Wm}
theorem WJ0.hpO(j:WJ0 X H T s A M):HpO X.H H A.hp A.ca M.room M.used M.born (A.cs.map pV):=⟨j.jh.oh,j.jh.oc⟩
theorem WJ0.look(j:WJ0 X H T s A M)(x:AA):(cO M x=none/\atO (A.cs.map pV) (oV x)=.non)\/∃i c p,x=some i/\0<=i/\cellAt M i=some c/\M.cells[i.toNat]? =some (some c)/\A.cs[i.toNat]? =some (some p)/\atO (A.cs.map pV) (oV x)=.ref p.1/\S8 X.C H T s i.toNat p c:=by
 cases x with
 | none=>exact .inl ⟨rfl,rfl⟩
 | some i=>
  show(cellAt M i=none/\atO _ (.int i)=_)\/_
  by_cases h0:0<=i
  ·cases hc:M.cells[i.toNat]? with
   | none=>
    have hl:A.cs[i.toNat]? =none:=by
     rw[List.getElem?_eq_none_iff]at hc ⊢;rw[j.jc.lc];exact hc
    refine .inl ⟨by unfold cellAt;rw[if_pos h0,hc];rfl,?_⟩;show(if 0<=i then _ else _)=_;rw[if_pos h0,dj,hl];rfl
   | some y=>cases y with
    | none=>
     refine .inl ⟨by unfold cellAt;rw[if_pos h0,hc];rfl,?_⟩;show(if 0<=i then _ else _)=_;rw[if_pos h0,dj,j.jc.at0 hc];rfl
    | some c=>
     obtain⟨p,hp,e⟩:=j.jc.at hc;refine .inr ⟨i,c,p,rfl,h0,by unfold cellAt;rw[if_pos h0,hc];rfl,hc,hp,?_,e⟩;show(if 0<=i then _ else _)=_;rw[if_pos h0,dj,hp];rfl
  ·refine .inl ⟨by unfold cellAt;rw[if_neg h0],?_⟩;show(if 0<=i then _ else _)=_;rw[if_neg h0]
theorem WJ.hpO(j:WJ X H T s A M):HpO X.H H A.hp A.ca M.room M.used M.born (A.cs.map pV):=j.w0.hpO
theorem WJ.look(j:WJ X H T s A M)(x:AA):(cO M x=none/\atO (A.cs.map pV) (oV x)=.non)\/∃i c p,x=some i/\0<=i/\cellAt M i=some c/\M.cells[i.toNat]? =some (some c)/\A.cs[i.toNat]? =some (some p)/\atO (A.cs.map pV) (oV x)=.ref p.1/\S8 X.C H T s i.toNat p c:=j.w0.look x
theorem WJ.hand(j:WJ X H T s A M){k:Nat}{p:AH×AH}(hp:A.hs[k]? =some p):∃m,M.hands[k]? =some m/\HdO X.D H T s k p m:=by
 have hl:k<M.hands.length:=by rw[<- j.jd.lh];exact(fH hp).1
 exact⟨_,bM hl,j.jd.hd k p _ hp (bM hl)⟩
theorem WJ.handOf(j:WJ X H T s A M){h t:Nat}(o:Bl M h t):∃p m,A.hs[h]? =some p/\M.hands[h]? =some m/\m.2[t]? =some (aW M h t)/\t<m.2.length/\HdO X.D H T s h p m:=by
 obtain⟨m,hm,hk,hl⟩:=Zca o;have hh:h<A.hs.length:=by rw[j.jd.lh];exact(fH hm).1
 exact⟨_,m,bM hh,hm,hk,hl,j.jd.hd h _ m (bM hh) hm⟩
theorem WJ.fresh(j:WJ X H T s A M){l:AH}{o:HO}{v:Nat×Nat}(h:H l=none):WJ X (upd H l o) (dz T l v) s A M:=
 j.mv (H':=upd H l o) (T':=dz T l v) ⟨λb u e _ _=>by rw[aB (aD e h)];exact e,λb u e=>fc (aD e h)⟩ λb u e _=>by rw[aB (aD e h)];exact e
end
theorem Zzh{t:Int}(h:0<=t/\t<4):Builtin.bitAnd t 1=t % 2/\(Builtin.bitAnd t 2=0↔¬ t / 2 % 2=1):=by
 have:t=0\/t=1\/t=2\/t=3:=δ
 rcases this with rfl | rfl | rfl | rfl<;>decide
section
variable {K:aC}{X:Cs}{H:Hp}{Q:VK}{E:XK}{n:ν}{bk ct:ν}
theorem Zhp{hp:AH}{pl:V}(T:rY K X)(q:(pl=.non\/∃i,pl=.int i)/\∃ca room used born cs,HpO X.H H hp ca room used born cs/\Q (atO cs pl) H):Gd K ξ [↑hp,some pl] H:=by
 obtain⟨hpl,ca,room,used,born,cs,⟨⟨dx,h1⟩,h2⟩,q⟩:=q;unfold Gd;rcases hpl with rfl | ⟨i,rfl⟩
 ·apply q
 ·apply qM (λz=>?_) (λz=>?_)
  ·ext;rw[show atO cs (.int i)=.non from if_neg δ]at q;exact q
  ·rw[show atO cs (.int i)=(cs[i.toNat]?).getD .non from if_pos δ]at q;apply aH h1 T.c.cP T.c.bT cA ?_;apply fK (cC.of h2) ?_;apply qM (λy=>?_) (λy=>?_)
   ·ext;rw[List.getElem?_eq_none_iff.mpr δ]at q;exact q
   ·apply aH h1 T.c.cP T.c.bT cA ?_;ext;have hl:i.toNat<cs.length:=δ
    refine lX (cC.of h2) (uC δ (bM hl)) ?_;rw[bM hl]at q;exact q
theorem Zdy{hp:AH}{pl:V}(T:rY K X)(q:∃x,pl=oV x/\∃T s A M,WJ X H T s A M/\A.hp=hp/\Q (oV (Fg M x)) H):Cp K (d8 X.H) ξ [↑hp,some pl,none] H:=by
 obtain⟨x,rfl,Tg,s,A,M,j,rfl,q⟩:=q;unfold Cp;exists _,_,rfl,yF x,_,_,_,_,_,j.hpO;rcases j.look x with ⟨e1,e2⟩ | ⟨i,c,p,rfl,h0,ec,_,_,e2,⟨t1,t2,⟨dx,o1⟩,o2⟩⟩
 ·rw[e2];have:Fg M x=none:=by
   cases x with
   | none=>rfl
   | some i=>show(cellAt M i).map _=none;rw[show cellAt M i=none from e1];rfl
  rw[this]at q;apply q
 ·rw[e2];have:Fg M (some i)=some c.birth:=by show(cellAt M i).map _=_;rw[ec];rfl
  rw[this]at q;apply aH o1 T.c.dB T.c.dZ gR ?_;exact q
theorem JH{p:AH}{f:Int}(T:rY K X)(q:∃T s i q c,S8 X.C H T s i q c/\q.1=p/\Q (.bl (decide (0<=f) && decide (f<c.fl.length))) H):qt K ξ [↑p,some (.int f)] H:=by
 obtain⟨Tg,s,i,r,c,⟨t1,t2,⟨dx,o1⟩,o2⟩,rfl,q⟩:=q;unfold qt;apply qM (λz=>?_) (λz=>?_)
 ·rw[decide_eq_true z,Bool.true_and]at q;apply aH o1 T.c.dB T.c.fW nj ?_;apply fK (cC.of o2) ?_;ext;rw[bx];exact q
 ·rw[decide_eq_false z,Bool.false_and]at q;apply q
theorem Zbj{wo:AH}{h:Int}(T:rY K X)(q:∃T s A M k p,WJ X H T s A M/\A.wo=wo/\h=((k:Nat):Int)/\A.hs[k]? =some p/\Q (.ref p.2) H):Cg K ξ [↑wo,some (.int h)] H:=by
 obtain⟨Tg,s,A,M,k,p,j,rfl,rfl,hp,q⟩:=q;obtain⟨d1,ow⟩:=j.jb.ow;obtain⟨m,hm,⟨t1,t2,⟨dx,o1⟩,o2⟩⟩:=j.hand hp;unfold Cg;apply aH ow T.cW T.nWd eY ?_;apply lX (cC.of j.jb.on) (kW (v:=.ref p.1) (by rw[dj,hp];rfl)) ?_;refine aH o1 T.cD T.nDs vq ?_;exact q
theorem Z9{wo p:AH}(T:rY K X)(q:∃T s A M i q c,WJ0 X H T s A M/\A.wo=wo/\S8 X.C H T s i q c/\q.1=p/\Q (.bl (decide (c.tone=M.sw.sense))) H):zG K ξ [↑wo,↑p] H:=by
 obtain⟨Tg,s,A,M,i,r,c,j,rfl,⟨t1,t2,⟨dx,o1⟩,o2⟩,rfl,q⟩:=q;obtain⟨d1,ow⟩:=j.jb.ow;obtain⟨d2,os⟩:=j.js.os;unfold zG;apply aH o1 T.c.dB T.c.mz VF ?_;apply aH ow T.cW T.Ro bA ?_;apply aH os T.cS T.n1 pA ?_;apply q
end
theorem Zwz{y:Int}:Builtin.bitAnd y 1=y % 2:=by
 unfold Builtin.bitAnd
 by_cases h:0<=y
 ·rw[decide_eq_true h,decide_eq_true (show(0:Int)<=1 by decide)];show((y.toNat &&& 1:Nat):Int)=_;rw[Nat.and_one_is_mod];omega
 ·rw[decide_eq_false h,decide_eq_true (show(0:Int)<=1 by decide)];show(1:Int) - ((1 &&& (Builtin.bitNot y).toNat:Nat):Int)=_;rw[Nat.and_comm,Nat.and_one_is_mod];unfold Builtin.bitNot;omega
section
variable {K:aC}{X:Cs}{H:Hp}{Q:VK}{E:XK}{n:ν}{bk ct:ν}{CE CF CN:AH}
theorem Zt{wo:AH}{h:Int}(T:rY K X)(q:∃T s A M k,WJ X H T s A M/\A.wo=wo/\h=((k:Nat):Int)/\Q (.bl (dI M k)) H):zF K ξ [↑wo,some (.int h)] H:=by
 obtain⟨Tg,s,A,M,k,j,rfl,rfl,q⟩:=q;obtain⟨d1,ow⟩:=j.jb.ow;obtain⟨d2,os⟩:=j.js.os;unfold zF;apply aH ow T.cW T.Ro bA ?_;apply aH os T.cS T.n4 jT ?_;ext;rw[Zwz,Int.toNat_natCast];exact q
theorem Qa{wo:AH}{v:V}(T:rY K X)(q:∃T s A M,WJ X H T s A M/\A.wo=wo/\(0<=M.tells/\M.tells<4)/\∀l,H l=none->Q (.ref l) (upd H l (.lst (if old? M=true then [v]else [])))):
  uT K ξ [↑wo,some v] H:=by
 obtain⟨Tg,s,A,M,j,rfl,ht,q⟩:=q;obtain⟨d1,ow⟩:=j.jb.ow;obtain⟨d2,ok⟩:=j.jb.ok;obtain⟨b1,_⟩:=Zzh ht;unfold uT;apply aH ow T.cW T.nWk lU ?_;apply aH ok T.cK T.nKt Dj ?_;ext;rw[b1];refine qM (λz=>?_) (λz=>?_)
 ·apply⟨aU ζ,λl hl=>?_⟩;have:=q l hl;rw[if_neg (by unfold old?;rw[decide_eq_true_iff];omega)]at this;exact this
 ·apply⟨aU ζ,λl hl=>?_⟩;have:=q l hl;rw[if_pos (by unfold old?;rw[decide_eq_true_iff];omega)]at this;exact this
theorem Qc{wo:AH}{h:Int}{v:V}(T:rY K X)(q:∃T s A M k,WJ X H T s A M/\A.wo=wo/\(0<=M.tells/\M.tells<4)/\h=((k:Nat):Int)/\∀l,H l=none->Q (.ref l) (upd H l (.lst (if (qT M && !dI M k)=true then [v]else [])))):
  uU K (wL X) ξ [↑wo,some (.int h),some v] H:=by
 obtain⟨Tg,s,A,M,k,j,rfl,ht,rfl,q⟩:=q;obtain⟨d1,ow⟩:=j.jb.ow;obtain⟨d2,ok⟩:=j.jb.ok;obtain⟨_,b1⟩:=Zzh ht;unfold uU;apply aH ow T.cW T.nWk lU ?_;apply aH ok T.cK T.nKt Dj ?_;apply qM (λz=>?_) (λz=>?_)
 ·apply⟨aU ζ,λl hl=>?_⟩;have:=q l hl;have e:qT M=false:=by unfold qT;exact decide_eq_false (b1.mp z)
  rw[e,Bool.false_and,if_neg ε]at this;exact this
 ·have e:qT M=true:=by unfold qT;exact decide_eq_true (Decidable.not_not.mp λw=>z (b1.mpr w))
  rw[e,Bool.true_and]at q;exists _,_,rfl,Tg,s,A,M,k,j,rfl,rfl;cases hl:dI M k with
  | true=>
   rw[hl]at q;apply⟨aU ζ,λl hl=>?_⟩;exact q l hl
  | false=>
   rw[hl]at q;apply⟨aU ζ,λl hl=>?_⟩;exact q l hl
theorem Zho{wo:AH}{h t:Int}(T:rY K X)(q:∃T s A M hn tn,WJ X H T s A M/\A.wo=wo/\h=((hn:Nat):Int)/\t=((tn:Nat):Int)/\Bl M hn tn/\
 (cO M (aW M hn tn)=none->E (.ref CE) none H)/\
 (∀i c p,aW M hn tn=some i->0<=i->cellAt M i=some c->A.cs[i.toNat]? =some (some p)->S8 X.C H T s i.toNat p c->Q (.ref p.1) H)):
  Gb K CE (d8 X.H) (cu X) E ξ [↑wo,some (.int h),some (.int t),none] H:=by
 obtain⟨Tg,s,A,M,hn,tn,j,rfl,rfl,rfl,ok,hE,hQ⟩:=q;obtain⟨d1,ow⟩:=j.jb.ow;obtain⟨p,m,hp,hm,hs,hl,⟨t1,t2,o1,o2⟩⟩:=j.handOf ok;unfold Gb;apply aH ow T.cW T.M6 bF ?_;exists _,_,rfl,Tg,s,A,M,hn,p,j,rfl,rfl,hp;apply lX (cC.of o2) (kW (v:=oV (aW M hn tn)) (by rw[dj,hs];rfl)) ?_;exists _,_,rfl,yF _,_,_,_,_,_,j.hpO;rcases j.look (aW M hn tn)with ⟨e1,e2⟩ | ⟨i,c,p',e0,h0,ec,_,hp',e2,ce⟩
 ·rw[e2];apply⟨ε,hE e1⟩
 ·rw[e2];apply hQ i c p' e0 h0 ec hp' ce
theorem Za2{wo:AH}{h t f:Int}(T:rY K X)(q:∃T s A M hn tn fn,WJ X H T s A M/\A.wo=wo/\h=((hn:Nat):Int)/\t=((tn:Nat):Int)/\f=((fn:Nat):Int)/\Bl M hn tn/\
 (cO M (aW M hn tn)=none->E (.ref CE) none H)/\
 (∀i c,aW M hn tn=some i->0<=i->cellAt M i=some c->c.fl[fn]? =none->E (.ref CF) none H)/\
 (∀i c p,aW M hn tn=some i->0<=i->cellAt M i=some c->A.cs[i.toNat]? =some (some p)->S8 X.C H T s i.toNat p c->fn<c.fl.length->Q (.ref p.2) H)):
  zH K X.C CF (wM X) (jW X CE) E ξ [↑wo,some (.int h),some (.int t),some (.int f),none] H:=by
 obtain⟨Tg,s,A,M,hn,tn,fn,j,rfl,rfl,rfl,rfl,ok,hE,hF,hQ⟩:=q;unfold zH;apply⟨_,_,_,rfl,Tg,s,A,M,hn,tn,j,rfl,rfl,rfl,ok,hE,λi c p e0 h0 ec hp ce=>?_⟩;obtain⟨t1,t2,⟨dx,o1⟩,o2⟩:=id ce;exists p.1,dx,_,rfl,o1,Gr;exists _,_,rfl,Tg,s,_,p,c,ce,rfl
 by_cases z:fn<c.fl.length
 ·rw[show(decide ((0:Int)<=(fn:Int)) && decide ((fn:Int)<c.fl.length))=true from by simp;omega];apply aH o1 T.c.dB T.c.fW nj ?_;exact hQ i c p e0 h0 ec hp ce z
 ·rw[show(decide ((0:Int)<=(fn:Int)) && decide ((fn:Int)<c.fl.length))=false from by simp;omega];apply⟨ε,hF i c e0 h0 ec (List.getElem?_eq_none_iff.mpr δ)⟩
theorem Zsx{wo:AH}{pl b:Int}(T:rY K X)(q:∃T s A M,WJ0 X H T s A M/\A.wo=wo/\Q (.bl (tD M pl b)) H):YF K (d8 X.H) (di X) ξ [↑wo,some (.int pl),some (.int b),none] H:=by
 obtain⟨Tg,s,A,M,j,rfl,q⟩:=q;obtain⟨d1,ow⟩:=j.jb.ow;obtain⟨d2,os⟩:=j.js.os;unfold YF;apply aH ow T.cW T.M6 bF ?_;exists _,_,rfl,yF (some pl),_,_,_,_,_,j.hpO;unfold tD at q;rcases j.look (some pl)with ⟨e1,e2⟩ | ⟨i,c,p,ei,h0,ec,_,hp,e2,ce⟩
 ·rw[show atO (A.cs.map pV) (.int pl)=.non from e2];rw[show cellAt M pl=none from e1]at q;apply q
 ·cases ei;rw[show atO (A.cs.map pV) (.int pl)=.ref p.1 from e2];rw[ec]at q;dsimp only at q;obtain⟨t1,t2,⟨dx,o1⟩,o2⟩:=id ce;apply aH o1 T.c.dB T.c.dZ gR ?_;apply Gn (λz=>?_) (λz=>?_)
  ·rw[if_neg z]at q;apply q
  ·rw[if_pos z]at q;apply aH ow T.cW T.Ro bA ?_;apply aH os T.cS T.n2 jA ?_;apply qM (λy=>?_) (λy=>?_)
   ·exists _,_,rfl,Tg,s,A,M,_,p,c,j,rfl,ce,rfl;ext;have:decide (M.sw.phase="give"/\c.tone≠M.sw.sense)=!decide (c.tone=M.sw.sense):=by simp[y]
    rw[this]at q;exact q
   ·have:decide (M.sw.phase="give"/\c.tone≠M.sw.sense)=false:=decide_eq_false λw=>y w.1;rw[this]at q;exact q
theorem Zrt{wo:AH}{pl:V}(T:rY K X)(q:∃x,pl=oV x/\∃T s A M,WT H T/\s≠0/\WJ X H T s A M/\A.wo=wo/\(M.sw.phase="walk"->M.sw.grey.length<=20000)/\
 ∀H',d7 s H H' T T->WJ X H' T s A (bN M x).2->Q (oV (bN M x).1) H'):YC K (d8 X.H) (di X) ξ [↑wo,some pl,none,none] H:=by
 obtain⟨x,rfl,Tg,s,A,M,w,s0,j,rfl,hg,q⟩:=q;obtain⟨d1,ow⟩:=j.jb.ow;obtain⟨d2,os⟩:=j.js.os;unfold YC;apply aH ow T.cW T.Ro bA ?_;apply aH ow T.cW T.M6 bF ?_;exists _,_,rfl,yF x,_,_,_,_,_,j.hpO;apply aH os T.cS T.n2 jA ?_;ext;have stay:bN M x=(none,M)->Q .non H:=λe=>by
  have:=q H (d7.refl w);rw[e]at this;exact this j
 refine Gn (λz=>?_) (λz=>?_)
 ·apply stay (Zga z x)
 ·rcases j.look x with ⟨e1,e2⟩ | ⟨i,c,p,rfl,h0,ec,hc,hp,e2,ce⟩
  ·rw[e2];apply stay ?_;cases x with
   | none=>rfl
   | some i=>unfold bN;dsimp only;rw[show cellAt M i=none from e1]
  ·rw[e2];obtain⟨t1,t2,⟨dx,o1⟩,o2⟩:=id ce;exists _,_,rfl,Tg,s,A,M,_,p,c,j.w0,rfl,ce,rfl
   by_cases y:c.tone=M.sw.sense
   ·rw[decide_eq_true y];apply stay ?_;unfold bN;dsimp only;rw[ec];dsimp only;rw[if_neg λw=>w.2 y]
   ·rw[decide_eq_false y];have en:bN M (some i)=(some c.birth,{ setCell M i { c with tone:=M.sw.sense }with sw:={ M.sw with grey:=M.sw.grey++[i] } }):=by
     unfold bN;dsimp only;rw[ec];dsimp only;rw[if_pos ⟨z,y⟩]
    rw[en]at q;apply aH os T.cS T.n1 pA ?_;apply⟨p.1,X.C,dx,_,rfl,o1,T.c.dB,T.c.mz,by show 5<1000;decide,?_⟩;rw[Ss];obtain⟨st1,j1⟩:=j.cell w s0 (dx:=dx) (tone:=M.sw.sense) (load:=c.load) hp ce;generalize upd H p.1 (.ins X.C dx (nQ c.birth c.bulk M.sw.sense c.load p.2))=H1 at st1 j1 ⊢;obtain⟨d3,os1⟩:=j1.js.os;obtain⟨p1,hp1,ce1⟩:=j1.jc.at (i:=i.toNat) (c:={ c with tone:=M.sw.sense,load:=c.load }) (by rw[List.getElem?_set_self (fH hc).1]);rw[hp]at hp1;cases hp1;apply aH os1 T.cS T.n3 uM ?_;ext;have hgl:=hg z;refine⟨.inl ⟨rfl,_,cC.of j1.js.og⟩,?_⟩;exists _,_,_,rfl,rfl,j1.js.og,?_
    ·rw[bx];exact Nat.lt_of_le_of_lt hgl ε
    obtain⟨st2,j2⟩:=j1.Zu1 st1.wt s0 (g:=M.sw.grey++[i]);have eg:(M.sw.grey.map V.int++[V.int i])=(M.sw.grey++[i]).map V.int:=by rw[List.map_append];rfl
    show bH _ _ _ (upd H1 A.gr (.lst (M.sw.grey.map V.int++[oV (some i)])));rw[show(M.sw.grey.map V.int++[oV (some i)])=(M.sw.grey++[i]).map V.int from eg];generalize upd H1 A.gr (.lst ((M.sw.grey++[i]).map V.int))=H2 at st2 j2 ⊢;obtain⟨p2,hp2,ce2⟩:=j2.jc.at (i:=i.toNat) (c:={ c with tone:=M.sw.sense,load:=c.load }) (by show(M.cells.set _ _)[_]? =_;rw[List.getElem?_set_self (fH hc).1]);rw[hp]at hp2;cases hp2;obtain⟨_,_,⟨dx2,o3⟩,_⟩:=ce2;apply aH o3 T.c.dB T.c.dZ gR ?_;exact q H2 (st1.trans st2) j2
theorem Zve{Tg:Tg}{z:Str}:∀{ns:AE}{names:List (Str×(Int×Int))},Al (NmO H Tg) ns names->(yK names z=none/\tL (Bj names ns) (Sum.inr z)=none)\/∃p b t,yK names z=some (p,b)/\tL (Bj names ns) (Sum.inr z)=↑t/\H t=some (.tup [.int p,.int b])/\Tg t=(0,0):=by
 intro ns names h
 induction h with
 | nil=>exact .inl ⟨rfl,rfl⟩
 | @cons t m ns names h1 _ ih=>
  by_cases e:m.1=z
  ·refine .inr ⟨m.2.1,m.2.2,t,?_,?_,h1.2,h1.1⟩
   ·unfold yK;rw[List.find?_cons_of_pos (by simpa using e)];rfl
   ·show(List.find? _ ((Sum.inr m.1,V.ref t)::Bj names ns)).map _=_;rw[List.find?_cons_of_pos (by simpa using e)];rfl
  ·have g:yK (m::names) z=yK names z:=by unfold yK;rw[List.find?_cons_of_neg (by simpa using e)]
   have v:tL (Bj (m::names) (t::ns)) (Sum.inr z)=tL (Bj names ns) (Sum.inr z):=by
    show(List.find? _ ((Sum.inr m.1,V.ref t)::Bj names ns)).map _=_;rw[List.find?_cons_of_neg (by simpa using e)];rfl
   rw[g,v];exact ih
theorem QL{wo:AH}{z:Str}(T:rY K X)(q:∃T s A M,WJ X H T s A M/\A.wo=wo/\(yK M.names z=none->E (.ref CN) none H)/\(∀p b,yK M.names z=some (p,b)->Q (if tD M p b=true then .non else .int p) H)):
  uV K CN (Gv X) E ξ [↑wo,some (.str z),none,none] H:=by
 obtain⟨Tg,s,A,M,j,rfl,hE,hQ⟩:=q;obtain⟨d1,ow⟩:=j.jb.ow;obtain⟨tm,om,nms⟩:=j.jn;unfold uV;apply aH ow T.cW T.nWn m6 ?_;refine⟨_,_,rfl,Zpl om,?_⟩;rcases Zve (z:=z) nms with ⟨e1,e2⟩ | ⟨p,b,t,e1,e2,ot,_⟩
 ·rw[e2];apply⟨ε,hE e1⟩
 ·rw[e2,show(!(some (V.ref t)).isSome)=false from rfl];apply aH ow T.cW T.nWn m6 ?_;apply⟨_,_,rfl,by have:=Zpl (z:=z) om;rw[e2]at this;exact this,?_⟩;exists t,_,0,_,rfl,rfl,fM.of ot,rfl;apply aH ow T.cW T.nWn m6 ?_;apply⟨_,_,rfl,by have:=Zpl (z:=z) om;rw[e2]at this;exact this,?_⟩;exists t,_,1,_,rfl,rfl,fM.of ot,rfl;exists _,_,_,rfl,Tg,s,A,M,j.w0,rfl;have:=hQ p b e1;cases hg:tD M p b with
  | true=>
   rw[hg]at this;apply this
  | false=>
   rw[hg]at this;apply this
theorem d7.new{s:Nat}{H Hx:Hp}{T Tx:Tg}{l:AH}{o o0:HO}(e:d7 s H Hx T Tx)(hl:H l=none)(hx:Hx l=some o0):d7 s H (upd Hx l o) T Tx where
 kp:=λb u h z=>by rw[aB (aD h hl)];exact e.kp b u h z
 al:=λb u h=>by rw[aB (aD h hl)];exact e.al b u h
 tg:=e.tg
 wt:=λb h=>e.wt b (by
  by_cases z:b=l
  ·rw[z,aq]at h;cases h
  ·rw[aB z]at h;exact h)
theorem d7.fresh{s:Nat}{H:Hp}{T:Tg}{l:AH}{o:HO}{v:Nat×Nat}(w:WT H T)(hl:H l=none):d7 s H (upd H l o) T (dz T l v) where
 kp:=λb u h z=>by rw[aB (aD h hl)];exact h
 al:=λb u h=>⟨u,by rw[aB (aD h hl)];exact h⟩
 tg:=λb u h=>fc (aD h hl)
 wt:=λb h=>by
  by_cases z:b=l
  ·rw[z,aq]at h;cases h
  ·rw[aB z]at h;rw[fc z];exact w b h
theorem Zgb{M:Wm}{x:AA}:(bN M x).2.sw.phase=M.sw.phase/\(bN M x).2.sw.grey.length<=M.sw.grey.length+1/\(bN M x).2.tells=M.tells/\(bN M x).2.names=M.names:=by
 cases x with
 | none=>exact⟨rfl,Nat.le_succ _,rfl,rfl⟩
 | some i=>
  unfold bN;dsimp only;cases cellAt M i with
  | none=>exact⟨rfl,Nat.le_succ _,rfl,rfl⟩
  | some c=>
   dsimp only
   by_cases z:M.sw.phase="walk"/\c.tone≠M.sw.sense
   ·rw[if_pos z];exact⟨rfl,by show(M.sw.grey++[i]).length<=_;rw[List.length_append];exact Nat.le_refl _,rfl,rfl⟩
   ·rw[if_neg z];exact⟨rfl,Nat.le_succ _,rfl,rfl⟩
theorem MT{M:Wm}{x:AA}:(bN M x).2.hands=M.hands:=by
 cases x with
 | none=>rfl
 | some i=>
  unfold bN;dsimp only;cases cellAt M i with
  | none=>rfl
  | some c=>
   dsimp only;split<;>rfl
theorem Zgc{M:Wm}{x:AA}{k:Nat}{c:Ce}(h:M.cells[k]? =some (some c)):∃c',(bN M x).2.cells[k]? =some (some c')/\c'.fl=c.fl/\c'.birth=c.birth/\c'.bulk=c.bulk/\c'.load=c.load:=by
 cases x with
 | none=>exact⟨c,h,rfl,rfl,rfl,rfl⟩
 | some i=>
  unfold bN;dsimp only;cases hc:cellAt M i with
  | none=>exact⟨c,h,rfl,rfl,rfl,rfl⟩
  | some d=>
   dsimp only;split
   ·show ∃c',(M.cells.set i.toNat _)[k]? =_/\_
    by_cases z:i.toNat=k
    ·subst z;obtain⟨_,hd⟩:=cV.mp hc;rw[h]at hd;cases hd;exact⟨_,List.getElem?_set_self (fH h).1,rfl,rfl,rfl,rfl⟩
    ·rw[List.getElem?_set_ne z];exact⟨c,h,rfl,rfl,rfl,rfl⟩
   ·exact⟨c,h,rfl,rfl,rfl,rfl⟩
theorem lN:∀{l:Au}{M:Wm}{x:AA},aR M (l++[x])=((aR M l).1++Rc (bN (aR M l).2 x).1,(bN (aR M l).2 x).2)
 | [],M,x=>by
  show(Rc (bN M x).1++[],(bN M x).2)=([]++Rc (bN M x).1,(bN M x).2);rw[List.append_nil,List.nil_append]
 | y::l,M,x=>by
  show(Rc (bN M y).1++(aR (bN M y).2 (l++[x])).1,(aR (bN M y).2 (l++[x])).2)=_;rw[lN];show _=((Rc (bN M y).1++(aR (bN M y).2 l).1)++_,_);rw[List.append_assoc];rfl
theorem wC:∀{l:Au}{M:Wm},(aR M l).2.sw.phase=M.sw.phase/\(aR M l).2.sw.grey.length<=M.sw.grey.length+l.length
 | [],M=>⟨rfl,Nat.le_refl _⟩
 | y::l,M=>by
  obtain⟨a,b,_⟩:=Zgb (M:=M) (x:=y);obtain⟨c,d⟩:=wC (l:=l) (M:=(bN M y).2);refine⟨c.trans a,?_⟩;show(aR (bN M y).2 l).2.sw.grey.length<=_;rw[List.length_cons];omega
theorem Ae:∀{l:Au}{M:Wm},(aR M l).1.length<=l.length
 | [],M=>Nat.le_refl _
 | y::l,M=>by
  have:=Ae (l:=l) (M:=(bN M y).2);show(Rc (bN M y).1++(aR (bN M y).2 l).1).length<=_;rw[List.length_append,List.length_cons];have:(Rc (bN M y).1).length<=1:=by cases (bN M y).1<;>simp[Rc]
  omega
theorem Zcb{wo pl:AH}(T:rY K X)(q:∃xs T s A M,WT H T/\s≠0/\WJ X H T s A M/\A.wo=wo/\PlO H T A M pl xs/\xs.length<=100/\(M.sw.phase="walk"->M.sw.grey.length<=10000)/\
 ∀H' T' l,d7 s H H' T T'->WJ X H' T' s A (aR M xs).2->H' l=some (.lst ((aR M xs).1.map V.int))->(H l=none/\(T' l).1≠s)->Q (.ref l) H'):Cj K (Zax X) ξ [↑wo,↑pl,none,none,none] H:=by
 obtain⟨xs,Tg,s,A,M,w,s0,j,rfl,plo,hx,hg,q⟩:=q;have opl:=plo.get j;unfold Cj;apply⟨aU ζ,λl hl=>?_⟩;have npl:pl≠l:=aD opl hl;have st1:d7 s H (upd H l (.lst [])) Tg (dz Tg l (s+1,0)):=d7.fresh w hl;have j1:WJ X (upd H l (.lst [])) (dz Tg l (s+1,0)) s A M:=j.fresh hl;have g1:upd H l (.lst []) l=some (.lst []):=aq;have tl:dz Tg l (s+1,0) l=(s+1,0):=gU;have po1:PlO (upd H l (.lst [])) (dz Tg l (s+1,0)) A M pl xs:=by
  rcases plo with ⟨h1,h2⟩ | h
  ·exact .inl ⟨(aB npl).trans h1,(fc npl).trans h2⟩
  ·exact .inr h
 have op1:upd H l (.lst []) pl=some (.lst (xs.map oV)):=(aB npl).trans opl;generalize upd H l (.lst [])=H1 at st1 j1 g1 op1 po1 ⊢;generalize dz Tg l (s+1,0)=T1 at st1 j1 tl po1;apply⟨pl,rfl,⟨_,cC.of op1⟩,forL (xs.map oV) (λi σ Hx=>∃v3 v4,σ=[↑A.wo,↑pl,↑l,v3,v4]/\d7 s H Hx Tg T1/\WJ X Hx T1 s A (aR M (xs.take i)).2/\Hx l=some (.lst ((aR M (xs.take i)).1.map V.int))/\PlO Hx T1 A (aR M (xs.take i)).2 pl xs) ⟨_,_,rfl,st1,j1,g1,po1⟩ (λ_ _ _ _ ⟨_,_,_,_,j,_,e⟩=>cC.of (e.get j)) ?_ ?_⟩
 ·rintro i x σ Hx hi ⟨v3,v4,rfl,st2,j2,g2,op2⟩;obtain⟨y,hy,rfl⟩:∃y,xs[i]? =some y/\oV y=x:=by
   rw[dj]at hi;obtain⟨y,a,b⟩:=Option.map_eq_some_iff.mp hi;exact⟨y,a,b⟩
  have il:=(fH hy).1;have et:xs.take (i+1)=xs.take i++[y]:=by
   rw[List.take_add_one,hy];rfl
  obtain⟨gp,gl⟩:=wC (l:=xs.take i) (M:=M);have nl:=Ae (l:=xs.take i) (M:=M);have tk:(xs.take i).length<=100:=by rw[List.length_take];omega
  apply⟨_,_,rfl,y,rfl,T1,s,A,_,st2.wt,s0,j2,rfl,λz=>?_,λHy sty jy=>?_⟩
  ·have:=hg (gp.symm.trans z);omega
  have gy:Hy l=some (.lst ((aR M (xs.take i)).1.map V.int)):=sty.kp _ _ g2 (by rw[tl];show s+1≠s;omega);have oy:PlO Hy T1 A (bN (aR M (xs.take i)).2 y).2 pl xs:=by
   rcases op2 with ⟨h1,h2⟩ | ⟨k,p,m,h1,h2,h3,h4⟩ | ⟨k,p,c,h1,h2,h3,h4⟩
   ·exact .inl ⟨sty.kp _ _ h1 (by rw[h2];exact λz=>s0 z.symm),h2⟩
   ·exact .inr (.inl ⟨k,p,m,h1,by rw[MT];exact h2,h3,h4⟩)
   ·obtain⟨c',e1,e2,_⟩:=Zgc (x:=y) h2;exact .inr (.inr ⟨k,p,c',h1,e1,h3,by rw[e2];exact h4⟩)
  have stt:=st2.trans sty;ext;cases hn:(bN (aR M (xs.take i)).2 y).1 with
  | none=>
   dsimp only[oV];apply⟨_,_,rfl,stt,?_,?_,by rw[et,lN];exact oy⟩
   ·rw[et,lN];exact jy
   ·rw[et,lN];show Hy l=some (.lst (((aR M (xs.take i)).1++Rc (bN (aR M (xs.take i)).2 y).1).map V.int));rw[hn];show Hy l=some (.lst (((aR M (xs.take i)).1++[]).map V.int));rw[List.append_nil];exact gy
  | some b=>
   dsimp only[oV];exists .inl ⟨rfl,_,cC.of gy⟩;exists _,_,_,rfl,rfl,gy,?_
   ·rw[bx];exact Nat.lt_of_le_of_lt (show _<=100 by omega) ε
   exists _,_,rfl,d7.new stt hl gy,?_,?_
   ·rw[et,lN];exact jy.other (s':=s+1) (d7.upd sty.wt gy (by rw[tl])) δ δ
   ·rw[et,lN,aq];show some (HO.lst _)=some (HO.lst (((aR M (xs.take i)).1++Rc (bN (aR M (xs.take i)).2 y).1).map V.int));rw[hn,List.map_append];rfl
   ·rw[et,lN];rcases oy with ⟨h1,h2⟩ | h
    ·exact .inl ⟨by rw[aB npl];exact h1,h2⟩
    ·exact .inr h
 ·rintro σ Hx ⟨v3,v4,rfl,st2,j2,g2,op2⟩;ext;rw[show(xs.map oV).length=xs.length from bx _,List.take_length]at j2 g2;exact q Hx T1 l st2 j2 g2 ⟨hl,by rw[tl];show s+1≠s;omega⟩
end
theorem qY{M:Wm}{h k:Nat}{x:AA}{m:Str×Au}(hm:M.hands[h]? =some m):{ M with hands:=M.hands.set h (m.1,m.2.set k x) }=setSlot M h k x:=by
 have e:=Tz (k:=k) (x:=x) hm;show _={ M with hands:=_ };rw[show(M.hands.modify h λm=>(m.1,m.2.set k x))=M.hands.set h (m.1,m.2.set k x)from e]
def Ln(d:oR):Prop:=∃h s many bulk,d=.make h s many bulk
def WY(d:oR):Prop:=∃h s t f,d=.get h s t f
def WX(d:oR):Prop:=∃h t f s,d=.put h t f s
def Lw(d:oR):Prop:=∃h s t,d=.copy h s t
def Ls(d:oR):Prop:=∃h s,d=.drop h s
def Lr(d:oR):Prop:=∃h s g t,d=.give h s g t
def DQ(d:oR):Prop:=∃h t load,d=.write h t load
def Lj(d:oR):Prop:=∃h t,d=.read h t
def isName(d:oR):Prop:=∃h t word,d=.name h t word
def Li(d:oR):Prop:=∃h s word,d=.seek h s word
abbrev Dw(X:Cs)(rf:Rf->AH)(P:oR->Prop)(wo dd:AH)(H:Hp)(Q:VK)(E:XK):Prop:=∃T s A M d,P d/\WT H T/\s≠0/\WJ X H T s A M/\A.wo=wo/\H dd=some (.tup (dV d))/\okD M d/\M.cells.length<=900/\(M.sw.phase="walk"->M.sw.grey.length<=10000)/\(0<=M.tells/\M.tells<4)/\M.names.length<=1000/\
 (∀r,ug M d=.error r->∀H',bz H H'->E (.ref (rf r)) none H')/\
 (∀e M',ug M d=.ok (e,M')->∀H' T' A' a,d7 s H H' T T'->WJ X H' T' s A' M'->A'.wo=wo->EvN H H' T' s a e->Q (.ref a) H')
section
variable {X:Cs}{H Hx:Hp}{T Tx:Tg}{s:Nat}{A Ax:Wa}{M M':Wm}{d:oR}{e:Ev}{wo:AH}{Q:VK}
theorem d7.free{s:Nat}{H Hx:Hp}{T Tx:Tg}{l:AH}(e:d7 s H Hx T Tx)(h:Hx l=none):H l=none:=by
 cases z:H l with
 | none=>rfl
 | some o=>obtain⟨o',z'⟩:=e.al l o z;rw[h]at z';cases z'
theorem ev0(s0:s≠0)(hQ:∀e M',ug M d=.ok (e,M')->∀H' T' A' a,d7 s H H' T T'->WJ X H' T' s A' M'->A'.wo=wo->EvN H H' T' s a e->Q (.ref a) H')(he:ug M d=.ok (e,M'))(hn:e.notes=[])(st:d7 s H Hx T Tx)(j:WJ X Hx Tx s Ax M')(aw:Ax.wo=wo){l a:AH}(hl:Hx l=none)(ha:upd Hx l (.lst []) a=none):
  Q (.ref a) (upd (upd Hx l (.lst [])) a (.tup [.str e.word,oV e.thing,.ref l])):=by
 have s1:=aL hl (.lst []);have s2:=aL ha (.tup [.str e.word,oV e.thing,.ref l]);have s3:=s1.trans s2;refine hQ e M' he _ Tx Ax a (st.trans (d7.same st.wt s3)) (j.same s3) aw ⟨l,⟨d7.free st hl,(Zem st.wt s0 hl).2⟩,aq,?_⟩;rw[hn];exact s2 _ _ aq
theorem ev1{l a:AH}(hl0:H l=none/\(Tx l).1≠s)(hQ:∀e M',ug M d=.ok (e,M')->∀H' T' A' a,d7 s H H' T T'->WJ X H' T' s A' M'->A'.wo=wo->EvN H H' T' s a e->Q (.ref a) H')(he:ug M d=.ok (e,M'))(st:d7 s H Hx T Tx)(j:WJ X Hx Tx s Ax M')(aw:Ax.wo=wo)(hl:Hx l=some (.lst (e.notes.map V.int)))(ha:Hx a=none):
  Q (.ref a) (upd Hx a (.tup [.str e.word,oV e.thing,.ref l])):=by
 have s2:=aL ha (.tup [.str e.word,oV e.thing,.ref l]);exact hQ e M' he _ Tx Ax a (st.trans (d7.same st.wt s2)) (j.same s2) aw ⟨l,hl0,aq,s2 _ _ hl⟩
end
theorem MP{M:Wm}{i:Int}{c c':Ce}(h:cellAt M i=some c)(hb:c'.birth=c.birth)(x:AA):Fg (setCell M i c') x=Fg M x:=by
 cases x with
 | none=>rfl
 | some y=>
  obtain⟨h0,h1⟩:=cV.mp h;show(cellAt (setCell M i c') y).map _=(cellAt M y).map _
  by_cases e:y=i
  ·subst e;rw[h,show cellAt (setCell M y c') y=some c' from cV.mpr ⟨h0,by show(M.cells.set _ _)[_]? =_;rw[List.getElem?_set_self (fH h1).1]⟩];show some c'.birth=some c.birth;rw[hb]
  ·have:cellAt (setCell M i c') y=cellAt M y:=by
    unfold cellAt setCell
    by_cases z:0<=y
    ·rw[if_pos z,if_pos z];show((M.cells.set _ _)[_]?).join=_;rw[List.getElem?_set_ne δ]
    ·rw[if_neg z,if_neg z]
   rw[this]
theorem Zk1{M:Wm}{y:AA}(x:AA):Fg (bN M y).2 x=Fg M x:=by
 cases y with
 | none=>rfl
 | some i=>
  unfold bN;dsimp only;cases hc:cellAt M i with
  | none=>rfl
  | some c=>
   dsimp only
   by_cases z:M.sw.phase="walk"/\c.tone≠M.sw.sense
   ·rw[if_pos z];have e:=MP (M:=M) (i:=i) (c:=c) (c':={ c with tone:=M.sw.sense }) hc rfl x;cases x with
    | none=>rfl
    | some y=>exact e
   ·rw[if_neg z]
theorem Af:∀{l:Au}{M:Wm} (x:AA),Fg (aR M l).2 x=Fg M x
 | [],_,_=>rfl
 | y::l,M,x=>(Af (l:=l) (M:=(bN M y).2) x).trans (Zk1 x)
theorem Zof{b:Bool}{x:AA}:(if b=true then [oV x]else [])=(if b=true then [x]else []).map oV:=by cases b<;>rfl
section
variable {K:aC}{X:Cs}{H:Hp}{Q:VK}{E:XK}{n:ν}{bk ct:ν}{rf:Rf->AH}
theorem Zhk{wo dd:AH}(T:rY K X)(q:Dw X rf Lw wo dd H Q E):Ga K (cN X) (cu X) ξ [↑wo,↑dd,none,none] H:=by
 obtain⟨Tg,s,A,M,_,⟨h,sl,t,rfl⟩,w,s0,j,rfl,od,⟨o1,o2⟩,hc,hg,ht,hn,hE,hQ⟩:=q;obtain⟨p,m,hp,hm,hs,hl,hd⟩:=j.handOf o2;obtain⟨m',hm',_,hl'⟩:=Zca o1;rw[hm]at hm';cases hm';unfold Ga;exists dd,_,1,_,rfl,rfl,fM.of od,rfl;exists _,_,rfl,Tg,s,A,M,h,p,j,rfl,rfl,hp;exists dd,_,3,_,rfl,rfl,fM.of od,rfl;refine lX (cC.of hd.o2) (kW (v:=oV (aW M h t)) (by rw[dj,hs];rfl)) ?_;exists dd,_,2,_,rfl,rfl,fM.of od,rfl;refine⟨p.2,_,_,sl,rfl,rfl,hd.o2,uB (by rw[bx];exact hl'),?_⟩;obtain⟨st1,j1⟩:=j.slot w s0 (k:=sl) (x:=aW M h t) hp hm;rw[qY hm]at j1;generalize upd H p.2 (.lst ((m.2.map oV).set sl (oV (aW M h t))))=H1 at st1 j1 ⊢;obtain⟨d1,ow⟩:=j1.jb.ow;apply aH ow T.cW T.M6 bF ?_;exists _,_,rfl,aW M h t,rfl,Tg,s,A,_,j1,rfl;rw[p7];apply⟨aU ζ,λl hl=>⟨aU ζ,λa ha=>?_⟩⟩;exact ev0 s0 hQ (d:=.copy h sl t) rfl rfl st1 j1 rfl hl ha
theorem Zhj{wo dd:AH}(T:rY K X)(q:Dw X rf Ls wo dd H Q E):FZ K (cN X) (cu X) ξ [↑wo,↑dd,none,none] H:=by
 obtain⟨Tg,s,A,M,_,⟨h,sl,rfl⟩,w,s0,j,rfl,od,o1,hc,hg,ht,hn,hE,hQ⟩:=q;obtain⟨p,m,hp,hm,hs,hl,hd⟩:=j.handOf o1;unfold FZ;exists dd,_,1,_,rfl,rfl,fM.of od,rfl;exists _,_,rfl,Tg,s,A,M,h,p,j,rfl,rfl,hp;exists dd,_,2,_,rfl,rfl,fM.of od,rfl;refine lX (cC.of hd.o2) (kW (v:=oV (aW M h sl)) (by rw[dj,hs];rfl)) ?_;exists dd,_,2,_,rfl,rfl,fM.of od,rfl;refine⟨p.2,_,_,sl,rfl,rfl,hd.o2,uB (by rw[bx];exact hl),?_⟩;obtain⟨st1,j1⟩:=j.slot w s0 (k:=sl) (x:=none) hp hm;rw[qY hm]at j1;show bH _ _ _ (upd H p.2 (.lst ((m.2.map oV).set sl (oV none))));generalize upd H p.2 (.lst ((m.2.map oV).set sl (oV none)))=H1 at st1 j1 ⊢;obtain⟨d1,ow⟩:=j1.jb.ow;apply aH ow T.cW T.M6 bF ?_;exists _,_,rfl,aW M h sl,rfl,Tg,s,A,_,j1,rfl;rw[p7];apply⟨aU ζ,λl hl=>⟨aU ζ,λa ha=>?_⟩⟩;exact ev0 s0 hQ (d:=.drop h sl) rfl rfl st1 j1 rfl hl ha
theorem Zhi{wo dd:AH}(T:rY K X)(q:Dw X rf Lr wo dd H Q E):FW K (cN X) (fO X) (cu X) (pW X) ξ [↑wo,↑dd,none,none,none,none] H:=by
 obtain⟨Tg,s,A,M,_,⟨h,sl,g,t,rfl⟩,w,s0,j,rfl,od,⟨o1,o2⟩,hc,hg,ht,hn,hE,hQ⟩:=q;obtain⟨p,m,hp,hm,hs,hl,hd⟩:=j.handOf o1;obtain⟨p',m',hp',hm',hs',hl',hd'⟩:=j.handOf o2;unfold FW;exists dd,_,1,_,rfl,rfl,fM.of od,rfl;exists dd,_,3,_,rfl,rfl,fM.of od,rfl;exists _,_,rfl,Tg,s,A,M,h,p,j,rfl,rfl,hp;exists dd,_,2,_,rfl,rfl,fM.of od,rfl;refine lX (cC.of hd.o2) (kW (v:=oV (aW M h sl)) (by rw[dj,hs];rfl)) ?_;exists _,_,rfl,Tg,s,A,M,g,p',j,rfl,rfl,hp';exists dd,_,4,_,rfl,rfl,fM.of od,rfl;refine⟨p'.2,_,_,t,rfl,rfl,hd'.o2,uB (by rw[bx];exact hl'),?_⟩;obtain⟨st1,j1⟩:=j.slot w s0 (k:=t) (x:=aW M h sl) hp' hm';rw[qY hm']at j1;generalize upd H p'.2 (.lst ((m'.2.map oV).set t (oV (aW M h sl))))=H1 at st1 j1 ⊢;apply⟨_,_,_,rfl,Tg,s,A,_,h,j1,rfl,ht,rfl,λl1 hl1=>?_⟩;rw[show(qT (setSlot M g t (aW M h sl)) && !dI (setSlot M g t (aW M h sl)) h)=(qT M && !dI M h)from rfl,Zof];generalize zz:upd H1 l1 _=H2;obtain⟨s1,g1⟩:=nwO hl1 zz;apply⟨_,_,rfl,_,Tg,s,A,_,st1.wt.same s1,s0,j1.same s1,rfl,.inl ⟨g1,st1.wt _ hl1⟩,by cases (qT M && !dI M h)<;>simp,hg,λH3 T3 l3 st3 j3 g3 nl3=>?_⟩;obtain⟨d1,ow⟩:=j3.jb.ow;apply aH ow T.cW T.M6 bF ?_;exists _,_,rfl,aW M h sl,rfl,T3,s,A,_,j3,rfl;rw[Af,p7];apply⟨aU ζ,λa ha=>?_⟩;exact ev1 ⟨d7.free st1 (s1.free nl3.1),nl3.2⟩ hQ (d:=.give h sl g t) rfl (st1.trans ((d7.same st1.wt s1).trans st3)) j3 rfl g3 ha
theorem Zhh{wo dd CF:AH}(T:rY K X)(hF:rf .full=CF)(q:Dw X rf Ln wo dd H Q E):FT K X.H (wO K X.C X.H CF) (cN X) (cu X) E ξ [↑wo,↑dd,none,none,none,none] H:=by
 obtain⟨Tg,s,A,M,_,⟨h,sl,many,bulk,rfl⟩,w,s0,j,rfl,od,⟨o1,m0,m1,b0⟩,hc,hg,ht,hn,hE,hQ⟩:=q;obtain⟨p,m,hp,hm,hs,hl,hd⟩:=j.handOf o1;obtain⟨d1,ow⟩:=j.jb.ow;obtain⟨d2,os⟩:=j.js.os;obtain⟨th,tc,⟨d3,oh⟩,oc⟩:=j.jh;have hcs:A.cs.length<=900:=by rw[j.jc.lc];exact hc
 unfold FT;exists dd,_,1,_,rfl,rfl,fM.of od,rfl;exists _,_,rfl,Tg,s,A,M,h,p,j,rfl,rfl,hp;exists dd,_,3,_,rfl,rfl,fM.of od,rfl;exists dd,_,4,_,rfl,rfl,fM.of od,rfl;apply aH ow T.cW T.M6 bF ?_;refine⟨A.hp,d3,_,rfl,oh,Vk,?_⟩;apply aH ow T.cW T.Ro bA ?_;apply aH os T.cS T.n1 pA ?_;apply⟨_,_,_,_,rfl,A.ca,d3,_,_,_,_,oh,oc,?_,by rw[bx];omega,m0,m1,λhf H' sm=>?_,λhf pc fa H1 npc nfa fm a1 a2 co=>?_⟩
 ·intro y hy;obtain⟨o,ho,rfl⟩:=List.mem_map.mp hy;cases o with
  | none=>exact .inl rfl
  | some g=>
   obtain⟨i,hi,ei⟩:=List.getElem_of_mem ho;have e:=j.jc.ce i _ _ (bM hi) (bM (by rw[<- j.jc.lc];exact hi));rw[ei]at e;cases hcc:M.cells[i]'(by rw[<- j.jc.lc];exact hi)with
   | none=>rw[hcc]at e;exact e.elim
   | some c=>
    rw[hcc]at e;obtain⟨_,_,⟨dx,o1⟩,_⟩:=(show S8 X.C H Tg s i g c from e);exact .inr ⟨g.1,X.C,dx,_,rfl,o1,T.c.dB,T.c.Ph⟩
 ·rw[<- hF];refine hE .full ?_ H' sm;show(if _ then _ else _)=_;rw[if_neg δ]
 ·obtain⟨⟨dp,c1⟩,c2⟩:=co;have npf:pc≠fa:=qG c1 c2 (λz=>by cases z);obtain⟨T1,st1,j1⟩:=j.put w s0 (H':=H1) (dx:=d3) (used':=M.used+(1+many+bulk)) (p:=pc) (fa:=fa) (c:=⟨M.born+1,bulk,M.sw.sense,0,List.replicate many.toNat none⟩)
   (λb o hb n1 n2=>fm b o hb (by simp[n1,n2])) a1 a2 npc nfa npf ⟨dp,c1⟩ (by rw[c2,List.map_replicate];rfl)
  have ei:((A.cs.map pV).idxOf V.non:Int)=(lD M.cells:Nat):=by rw[(Zdf Zn2 A.cs).1,j.jc.fst]
  ext;rw[ei];refine⟨dd,_,2,_,rfl,rfl,fM.of (fm _ _ od ?_),rfl,?_⟩
  ·intro z;rcases List.mem_cons.mp z with z | z
   ·rw[z,oh]at od;cases od
   ·rw[List.mem_singleton.mp z,oc]at od;cases od
  have hd1:=j1.jd.hd h p m hp hm;refine⟨p.2,_,_,sl,rfl,rfl,hd1.o2,uB (by rw[bx];exact hl),?_⟩;obtain⟨st2,j2⟩:=j1.slot st1.wt s0 (k:=sl) (x:=some (lD M.cells:Nat)) hp hm;rw[qY (M:={ M with used:=M.used+(1+many+bulk),born:=M.born+1,cells:=nM M.cells ⟨M.born+1,bulk,M.sw.sense,0,List.replicate many.toNat none⟩ }) hm]at j2;show bH _ _ _ (upd H1 p.2 (.lst ((m.2.map oV).set sl (oV (some (lD M.cells:Nat))))));generalize upd H1 p.2 (.lst ((m.2.map oV).set sl (oV (some (lD M.cells:Nat)))))=H2 at st2 j2 ⊢;obtain⟨d5,ow2⟩:=j2.jb.ow;apply aH ow2 T.cW T.M6 bF ?_;exists _,_,rfl,some (lD M.cells:Nat),rfl,T1,s,_,_,j2,rfl;rw[p7];rw[show Fg { M with used:=M.used+(1+many+bulk),born:=M.born+1,cells:=nM M.cells ⟨M.born+1,bulk,M.sw.sense,0,List.replicate many.toNat none⟩ } (some (lD M.cells:Nat))=some (M.born+1)from by
   show(cellAt _ _).map _=_;rw[Zhq];rfl]
  apply⟨aU ζ,λl hl=>⟨aU ζ,λa ha=>?_⟩⟩;exact ev0 s0 hQ (d:=.make h sl many bulk) (Zdq δ) rfl (st1.trans st2) j2 rfl hl ha
end
theorem Zlc{M:Wm}{h s t f:Nat}(e:cO M (aW M h t)=none):ug M (.get h s t f)=.error .empty:=by
 show(match aW M h t with | none=>_ | some x=>_)=_;cases hs:aW M h t with
 | none=>rfl
 | some x=>
  rw[hs]at e;show(match cellAt M x with | none=>_ | some c=>_)=_;rw[show cellAt M x=none from e]
theorem Zla{M:Wm}{h s t f:Nat}(e:cO M (aW M h t)=none):ug M (.put h t f s)=.error .empty:=by
 show(match aW M h t with | none=>_ | some x=>_)=_;cases hs:aW M h t with
 | none=>rfl
 | some x=>
  rw[hs]at e;show(match cellAt M x with | none=>_ | some c=>_)=_;rw[show cellAt M x=none from e]
theorem Zdr{M:Wm}{h t:Nat}{l:Int}(e:cO M (aW M h t)=none):ug M (.write h t l)=.error .empty:=by
 show(match aW M h t with | none=>_ | some x=>_)=_;cases hs:aW M h t with
 | none=>rfl
 | some x=>
  rw[hs]at e;show(match cellAt M x with | none=>_ | some c=>_)=_;rw[show cellAt M x=none from e]
theorem Zhm{M:Wm}{h t:Nat}(e:cO M (aW M h t)=none):ug M (.read h t)=.error .empty:=by
 show(match aW M h t with | none=>_ | some x=>_)=_;cases hs:aW M h t with
 | none=>rfl
 | some x=>
  rw[hs]at e;show(match cellAt M x with | none=>_ | some c=>_)=_;rw[show cellAt M x=none from e]
theorem Zhn{M:Wm}{h t:Nat}{z:Str}(e:cO M (aW M h t)=none):ug M (.name h t z)=.error .empty:=by
 show(match aW M h t with | none=>_ | some x=>_)=_;cases hs:aW M h t with
 | none=>rfl
 | some x=>
  rw[hs]at e;show(match cellAt M x with | none=>_ | some c=>_)=_;rw[show cellAt M x=none from e]
theorem Zpi{M:Wm}{h s t f:Nat}{i:Int}{c:Ce}(e0:aW M h t=some i)(ec:cellAt M i=some c)(hf:c.fl[f]? =none):ug M (.get h s t f)=.error .sI:=by
 show(match aW M h t with | none=>_ | some x=>_)=_;rw[e0];show(match cellAt M i with | none=>_ | some c=>_)=_;rw[ec];show(match c.fl[f]? with | none=>_ | some v=>_)=_;rw[hf]
theorem Zpg{M:Wm}{h s t f:Nat}{i:Int}{c:Ce}(e0:aW M h t=some i)(ec:cellAt M i=some c)(hf:c.fl[f]? =none):ug M (.put h t f s)=.error .sI:=by
 show(match aW M h t with | none=>_ | some x=>_)=_;rw[e0];show(match cellAt M i with | none=>_ | some c=>_)=_;rw[ec];show(match c.fl[f]? with | none=>_ | some v=>_)=_;rw[hf]
theorem Zph{M:Wm}{h s t f:Nat}{i:Int}{c:Ce}{v:AA}(e0:aW M h t=some i)(ec:cellAt M i=some c)(hf:c.fl[f]? =some v):ug M (.get h s t f)=.ok (⟨"got",Fg M v,[]⟩,setSlot M h s v):=by
 show(match aW M h t with | none=>_ | some x=>_)=_;rw[e0];show(match cellAt M i with | none=>_ | some c=>_)=_;rw[ec];show(match c.fl[f]? with | none=>_ | some v=>_)=_;rw[hf]
def putL(M:Wm)(h s:Nat)(v:AA):Au:=(if old? M=true then [v]else [])++if (qT M && !dI M h)=true then [aW M h s]else []
theorem Zpf{M:Wm}{h s t f:Nat}{i:Int}{c:Ce}{v:AA}(e0:aW M h t=some i)(ec:cellAt M i=some c)(hf:c.fl[f]? =some v):ug M (.put h t f s)=.ok (⟨"put",Fg M v,(aR (setCell M i { c with fl:=c.fl.set f (aW M h s) }) (putL M h s v)).1⟩,(aR (setCell M i { c with fl:=c.fl.set f (aW M h s) }) (putL M h s v)).2):=by
 show(match aW M h t with | none=>_ | some x=>_)=_;rw[e0];show(match cellAt M i with | none=>_ | some c=>_)=_;rw[ec];show(match c.fl[f]? with | none=>_ | some v=>_)=_;rw[hf];rfl
theorem Zhl{M:Wm}{h t:Nat}{l i:Int}{c:Ce}(e0:aW M h t=some i)(ec:cellAt M i=some c):ug M (.write h t l)=.ok (⟨"wrote",some c.load,[]⟩,setCell M i { c with load:=l }):=by
 show(match aW M h t with | none=>_ | some x=>_)=_;rw[e0];show(match cellAt M i with | none=>_ | some c=>_)=_;rw[ec]
theorem Zl9{M:Wm}{h t:Nat}{i:Int}{c:Ce}(e0:aW M h t=some i)(ec:cellAt M i=some c):ug M (.read h t)=.ok (⟨"read",some c.load,[]⟩,M):=by
 show(match aW M h t with | none=>_ | some x=>_)=_;rw[e0];show(match cellAt M i with | none=>_ | some c=>_)=_;rw[ec]
theorem Zlb{M:Wm}{h t:Nat}{z:Str}{i:Int}{c:Ce}(e0:aW M h t=some i)(ec:cellAt M i=some c):ug M (.name h t z)=.ok (⟨"named",some c.birth,[]⟩,{ M with names:=wg M.names z (i,c.birth) }):=by
 show(match aW M h t with | none=>_ | some x=>_)=_;rw[e0];show(match cellAt M i with | none=>_ | some c=>_)=_;rw[ec]
section
variable {X:Cs}{H H':Hp}{T T':Tg}{s:Nat}{A:Wa}{M:Wm}
theorem Zvd{z:Str}{v:Int×Int}{t:AH}(ht:NmO H T t (z,v)):∀{ns:AE}{names:List (Str×(Int×Int))},Al (NmO H T) ns names->(∃ns',(Bj names ns).map (λkv=>if kv.1=Sum.inr z then(kv.1,V.ref t)else kv)=Bj (names.map λm=>if m.1=z then(m.1,v)else m) ns'/\Al (NmO H T) ns' (names.map λm=>if m.1=z then(m.1,v)else m))/\
  ((Bj names ns).any λkv=>decide (kv.1=Sum.inr z))=(names.any λm=>decide (m.1=z))/\Bj names ns++[(Sum.inr z,V.ref t)]=Bj (names++[(z,v)]) (ns++[t])/\Al (NmO H T) (ns++[t]) (names++[(z,v)]):=by
 intro ns names h
 induction h with
 | nil=>exact⟨⟨[],rfl,.nil⟩,rfl,rfl,.cons ht .nil⟩
 | @cons a m ns names h1 _ ih=>
  obtain⟨⟨ns',e1,e2⟩,e3,e4,e5⟩:=ih;refine⟨?_,?_,?_,.cons h1 e5⟩
  ·by_cases e:m.1=z
   ·refine⟨t::ns',?_,?_⟩
    ·show(if (Sum.inr m.1:Int ⊕ Str)=Sum.inr z then _ else _)::_=_;rw[if_pos (by rw[e]),List.map_cons,if_pos e];show _::_=(Sum.inr m.1,V.ref t)::Bj _ ns';rw[<- e1];rfl
    ·rw[List.map_cons,if_pos e];exact .cons (by rw[e];exact ht) e2
   ·refine⟨a::ns',?_,?_⟩
    ·show(if (Sum.inr m.1:Int ⊕ Str)=Sum.inr z then _ else _)::_=_;rw[if_neg (λw=>e (Sum.inr.inj w)),List.map_cons,if_neg e];show _::_=(Sum.inr m.1,V.ref a)::Bj _ ns';rw[<- e1];rfl
    ·rw[List.map_cons,if_neg e];exact .cons h1 e2
  ·show(decide ((Sum.inr m.1:Int ⊕ Str)=Sum.inr z) || (Bj names ns).any _)=(decide (m.1=z) || names.any _);rw[e3];congr 1
   by_cases e:m.1=z<;>simp[e]
  ·show(Sum.inr m.1,V.ref a)::(Bj names ns++_)=(Sum.inr m.1,V.ref a)::Bj (names++_) (ns++_);rw[e4]
theorem Zne{ns:AE}{names:List (Str×(Int×Int))}(h:Al (NmO H T) ns names):(Bj names ns).length=names.length:=by
 induction h with
 | nil=>rfl
 | @cons a m ns names h1 _ ih=>show(_::Bj names ns).length=_;rw[List.length_cons,List.length_cons,ih]
theorem WJ.named(j:WJ X H T s A M)(w:WT H T)(h0:s≠0){z:Str}{v:Int×Int}{t:AH}(ht:NmO H T t (z,v)):∃ns',d7 s H (upd H A.nm (.dK (putK (Bj M.names A.ns) (Sum.inr z) (.ref t)))) T T/\
  WJ X (upd H A.nm (.dK (putK (Bj M.names A.ns) (Sum.inr z) (.ref t)))) T s { A with ns:=ns' } { M with names:=wg M.names z v }:=by
 obtain⟨tm,om,nms⟩:=j.jn;obtain⟨⟨n1,e1,e2⟩,e3,e4,e5⟩:=Zvd ht nms;have f:yx s (·=6) H (upd H A.nm (.dK (putK (Bj M.names A.ns) (Sum.inr z) (.ref t)))) T T:=yx.CZ tm;have mvn:∀{ns:AE}{names:List (Str×(Int×Int))},Al (NmO H T) ns names->Al (NmO (upd H A.nm (.dK (putK (Bj M.names A.ns) (Sum.inr z) (.ref t)))) T) ns names:=λh=>h.mono λt m ⟨z1,z2⟩=>⟨z1,pR h0 tm _ _ z2 z1⟩;have go:∀ns',putK (Bj M.names A.ns) (Sum.inr z) (.ref t)=Bj (wg M.names z v) ns'->Al (NmO H T) ns' (wg M.names z v)->WJ X (upd H A.nm (.dK (putK (Bj M.names A.ns) (Sum.inr z) (.ref t)))) T s { A with ns:=ns' } { M with names:=wg M.names z v }:=λns' g1 g2=>by
  refine⟨?_,?_,⟨tm,by show upd _ A.nm _ A.nm=_;rw[aq,g1],mvn g2⟩,?_,j.jd.mv f λ_ _ _=>δ,j.jc.mv f λ_ _=>δ⟩
  ·obtain⟨b1,b2,b3,b4,b5,b6,b7,b8⟩:=j.jb.mv f (pR h0 tm) δ δ;exact⟨b1,b2,b3,b4,b5,b6,b7,b8⟩
  ·obtain⟨b1,b2,b3,b4⟩:=j.jh.mv f δ δ;exact⟨b1,b2,b3,b4⟩
  ·obtain⟨b1,b2,b3,b4⟩:=j.js.mv f δ δ;exact⟨b1,b2,b3,b4⟩
 by_cases ha:(M.names.any λm=>decide (m.1=z))=true
 ·refine⟨n1,d7.upd w om (by rw[tm]),go n1 ?_ ?_⟩
  ·unfold putK wg;rw[if_pos (e3.trans ha),if_pos ha,e1]
  ·unfold wg;rw[if_pos ha];exact e2
 ·refine⟨A.ns++[t],d7.upd w om (by rw[tm]),go _ ?_ ?_⟩
  ·unfold putK wg;rw[if_neg (λy=>ha (e3.symm.trans y)),if_neg ha,e4]
  ·unfold wg;rw[if_neg ha];exact e5
end
section
variable {K:aC}{X:Cs}{H:Hp}{Q:VK}{E:XK}{n:ν}{bk ct:ν}{rf:Rf->AH}{CE CF CN:AH}
theorem Zl8{wo dd:AH}(T:rY K X)(hE':rf .empty=CE)(hF':rf .sI=CF)(q:Dw X rf WY wo dd H Q E):Kl K (cN X) (oE X CE CF) (cu X) E ξ [↑wo,↑dd,none,none,none,none] H:=by
 obtain⟨Tg,s,A,M,_,⟨h,sl,t,f,rfl⟩,w,s0,j,rfl,od,⟨o1,o2⟩,hc,hg,ht,hn,hE,hQ⟩:=q;obtain⟨p,m,hp,hm,hs,hl,hd⟩:=j.handOf o1;unfold Kl;exists dd,_,1,_,rfl,rfl,fM.of od,rfl;exists dd,_,3,_,rfl,rfl,fM.of od,rfl;exists dd,_,4,_,rfl,rfl,fM.of od,rfl;apply⟨_,_,_,_,rfl,Tg,s,A,M,h,t,f,j,rfl,rfl,rfl,rfl,o2,λe=>?_,λi c e0 h0 ec hf=>?_,λi c pc e0 h0 ec hpc ce hf=>?_⟩
 ·rw[<- hE'];exact hE .empty (Zlc e) H (bz.refl _)
 ·rw[<- hF'];exact hE .sI (Zpi e0 ec hf) H (bz.refl _)
 ·have hv:=bM hf;apply lX (cC.of ce.o2) (kW (v:=oV (c.fl[f])) (by rw[dj,hv];rfl)) ?_;exists _,_,rfl,Tg,s,A,M,h,p,j,rfl,rfl,hp;exists dd,_,2,_,rfl,rfl,fM.of od,rfl;refine⟨p.2,_,_,sl,rfl,rfl,hd.o2,uB (by rw[bx];exact hl),?_⟩;obtain⟨st1,j1⟩:=j.slot w s0 (k:=sl) (x:=c.fl[f]) hp hm;rw[qY hm]at j1;generalize upd H p.2 (.lst ((m.2.map oV).set sl (oV c.fl[f])))=H1 at st1 j1 ⊢;obtain⟨d1,ow⟩:=j1.jb.ow;apply aH ow T.cW T.M6 bF ?_;exists _,_,rfl,c.fl[f],rfl,Tg,s,A,_,j1,rfl;rw[p7];apply⟨aU ζ,λl hl=>⟨aU ζ,λa ha=>?_⟩⟩;exact ev0 s0 hQ (d:=.get h sl t f) (Zph e0 ec hv) rfl st1 j1 rfl hl ha
theorem Zl7{wo dd:AH}(T:rY K X)(hE':rf .empty=CE)(hF':rf .sI=CF)(q:Dw X rf WX wo dd H Q E):Kh K (cN X) (oE X CE CF) (fO X) (cu X) (pW X) (Aq X) E ξ [↑wo,↑dd,none,none,none,none,none,none] H:=by
 obtain⟨Tg,s,A,M,_,⟨h,t,f,sl,rfl⟩,w,s0,j,rfl,od,⟨o2,o1⟩,hc,hg,ht,hn,hE,hQ⟩:=q;obtain⟨p,m,hp,hm,hs,hl,hd⟩:=j.handOf o1;unfold Kh;exists dd,_,1,_,rfl,rfl,fM.of od,rfl;exists dd,_,3,_,rfl,rfl,fM.of od,rfl;exists dd,_,2,_,rfl,rfl,fM.of od,rfl;apply⟨_,_,_,_,rfl,Tg,s,A,M,h,t,f,j,rfl,rfl,rfl,rfl,o2,λe=>?_,λi c e0 h0 ec hf=>?_,λi c pc e0 h0 ec hpc ce hf=>?_⟩
 ·rw[<- hE'];exact hE .empty (Zla e) H (bz.refl _)
 ·rw[<- hF'];exact hE .sI (Zpg e0 ec hf) H (bz.refl _)
 ·have hv:=bM hf;apply lX (cC.of ce.o2) (kW (v:=oV (c.fl[f])) (by rw[dj,hv];rfl)) ?_;exists _,_,rfl,Tg,s,A,M,h,p,j,rfl,rfl,hp;exists dd,_,4,_,rfl,rfl,fM.of od,rfl;refine lX (cC.of hd.o2) (kW (v:=oV (aW M h sl)) (by rw[dj,hs];rfl)) ?_;exists pc.2,_,_,f,rfl,rfl,ce.o2,uB (by rw[bx];exact hf);obtain⟨st1,j1⟩:=j.field w s0 (k:=f) (x:=aW M h sl) hpc ce;have j1:WJ X _ Tg s A (setCell M i { c with fl:=c.fl.set f (aW M h sl) }):=j1;generalize upd H pc.2 (.lst ((c.fl.map oV).set f (oV (aW M h sl))))=H1 at st1 j1 ⊢;apply⟨_,_,rfl,Tg,s,A,_,j1,rfl,ht,λl1 hl1=>?_⟩;rw[show old? (setCell M i { c with fl:=c.fl.set f (aW M h sl) })=old? M from rfl,Zof];generalize zz:upd H1 l1 _=H2;obtain⟨s1,g1⟩:=nwO hl1 zz;apply⟨_,_,_,rfl,Tg,s,A,_,h,j1.same s1,rfl,ht,rfl,λl2 hl2=>?_⟩;rw[show(qT (setCell M i { c with fl:=c.fl.set f (aW M h sl) }) && !dI (setCell M i { c with fl:=c.fl.set f (aW M h sl) }) h)=(qT M && !dI M h)from rfl,Zof];generalize zz:upd H2 l2 _=H3;obtain⟨s2,g2⟩:=nwO hl2 zz;apply⟨l1,l2,_,_,rfl,rfl,s2 _ _ g1,g2,?_,λl3 hl3=>?_⟩
  ·refine aU ?_;cases old? M<;>cases (qT M && !dI M h)<;>simp
  rw[<- List.map_append];generalize zz:upd H3 l3 _=H4;obtain⟨s3,g3⟩:=nwO hl3 zz;have g3:H4 l3=some (.lst ((putL M h sl c.fl[f]).map oV)):=g3;have s14:=s1.trans (s2.trans s3);apply⟨_,_,rfl,putL M h sl c.fl[f],Tg,s,A,_,st1.wt.same s14,s0,j1.same s14,rfl,.inl ⟨g3,(st1.wt.same (s1.trans s2)) _ hl3⟩,?_,hg,λH5 T5 l5 JR j5 g5 nl5=>?_⟩
  ·unfold putL;cases old? M<;>cases (qT M && !dI M h)<;>simp
  obtain⟨d1,ow⟩:=j5.jb.ow;apply aH ow T.cW T.M6 bF ?_;exists _,_,rfl,c.fl[f],rfl,T5,s,A,_,j5,rfl;rw[Af,MP (c':={ c with fl:=c.fl.set f (aW M h sl) }) ec rfl];apply⟨aU ζ,λa ha=>?_⟩;exact ev1 ⟨d7.free st1 (s14.free nl5.1),nl5.2⟩ hQ (d:=.put h t f sl) (Zpf e0 ec hv) (st1.trans ((d7.same st1.wt s14).trans JR)) j5 rfl g5 ha
theorem Zdp{wo dd:AH}(T:rY K X)(hE':rf .empty=CE)(q:Dw X rf DQ wo dd H Q E):Cm K (jW X CE) E ξ [↑wo,↑dd,none,none] H:=by
 obtain⟨Tg,s,A,M,_,⟨h,t,load,rfl⟩,w,s0,j,rfl,od,o1,hc,hg,ht,hn,hE,hQ⟩:=q;unfold Cm;exists dd,_,1,_,rfl,rfl,fM.of od,rfl;exists dd,_,2,_,rfl,rfl,fM.of od,rfl;apply⟨_,_,_,rfl,Tg,s,A,M,h,t,j,rfl,rfl,rfl,o1,λe=>?_,λi c pc e0 h0 ec hpc ce=>?_⟩
 ·rw[<- hE'];exact hE .empty (Zdr e) H (bz.refl _)
 ·obtain⟨t1,t2,⟨dx,oo1⟩,oo2⟩:=id ce;apply aH oo1 T.c.dB T.c.lC Ff ?_;exists dd,_,3,_,rfl,rfl,fM.of od,rfl;apply⟨pc.1,X.C,dx,_,rfl,oo1,T.c.dB,T.c.lC,by show 5<1000;decide,?_⟩;rw[Su];obtain⟨st1,j1⟩:=j.cell w s0 (dx:=dx) (tone:=c.tone) (load:=load) hpc ce;generalize upd H pc.1 (.ins X.C dx (nQ c.birth c.bulk c.tone load pc.2))=H1 at st1 j1 ⊢;apply⟨aU ζ,λl hl=>⟨aU ζ,λa ha=>?_⟩⟩;exact ev0 s0 hQ (d:=.write h t load) (Zhl e0 ec) rfl st1 j1 rfl hl ha
theorem Zhf{wo dd:AH}(T:rY K X)(hE':rf .empty=CE)(q:Dw X rf Lj wo dd H Q E):FP K (jW X CE) E ξ [↑wo,↑dd,none] H:=by
 obtain⟨Tg,s,A,M,_,⟨h,t,rfl⟩,w,s0,j,rfl,od,o1,hc,hg,ht,hn,hE,hQ⟩:=q;unfold FP;exists dd,_,1,_,rfl,rfl,fM.of od,rfl;exists dd,_,2,_,rfl,rfl,fM.of od,rfl;apply⟨_,_,_,rfl,Tg,s,A,M,h,t,j,rfl,rfl,rfl,o1,λe=>?_,λi c pc e0 h0 ec hpc ce=>?_⟩
 ·rw[<- hE'];exact hE .empty (Zhm e) H (bz.refl _)
 ·obtain⟨t1,t2,⟨dx,oo1⟩,oo2⟩:=id ce;apply aH oo1 T.c.dB T.c.lC Ff ?_;apply⟨aU ζ,λl hl=>⟨aU ζ,λa ha=>?_⟩⟩;exact ev0 s0 hQ (d:=.read h t) (Zl9 e0 ec) rfl (d7.refl w) j rfl hl ha
theorem Zhg{wo dd:AH}(T:rY K X)(hE':rf .empty=CE)(q:Dw X rf isName wo dd H Q E):FQ K (jW X CE) (cu X) E ξ [↑wo,↑dd,none,none,none] H:=by
 obtain⟨Tg,s,A,M,_,⟨h,t,z,rfl⟩,w,s0,j,rfl,od,o1,hc,hg,ht,hn,hE,hQ⟩:=q;obtain⟨p,m,hp,hm,hs,hl,hd⟩:=j.handOf o1;unfold FQ;exists dd,_,1,_,rfl,rfl,fM.of od,rfl;exists dd,_,2,_,rfl,rfl,fM.of od,rfl;apply⟨_,_,_,rfl,Tg,s,A,M,h,t,j,rfl,rfl,rfl,o1,λe=>?_,λi c pc e0 h0 ec hpc ce=>?_⟩
 ·rw[<- hE'];exact hE .empty (Zhn e) H (bz.refl _)
 ·obtain⟨t1,t2,⟨dx,oo1⟩,oo2⟩:=id ce;apply aH oo1 T.c.dB T.c.dZ gR ?_;exists _,_,rfl,Tg,s,A,M,h,p,j,rfl,rfl,hp;apply lX (cC.of hd.o2) (kW (v:=oV (aW M h t)) (by rw[dj,hs];rfl)) ?_;rw[e0];apply⟨aU ζ,λtp htp=>?_⟩;generalize zz:upd H tp _=H1;obtain⟨s1,g1⟩:=nwO htp zz;have g1:H1 tp=some (.tup [.int i,.int c.birth]):=g1;have j1:=j.same s1;have w1:=w.same s1;obtain⟨d1,ow⟩:=j1.jb.ow;apply aH ow T.cW T.nWn m6 ?_;exists dd,_,3,_,rfl,rfl,fM.of (s1 _ _ od),rfl;refine⟨_,_,rfl,Zz9 j1.jn.om (by rw[Zne j1.jn.nms];exact Nat.lt_of_le_of_lt hn ε),?_⟩;obtain⟨ns',st2,j2⟩:=j1.named w1 s0 (z:=z) (v:=(i,c.birth)) (t:=tp) ⟨w _ htp,g1⟩;generalize upd H1 A.nm (.dK (putK (Bj M.names A.ns) (Sum.inr z) (.ref tp)))=H2 at st2 j2 ⊢;apply⟨aU ζ,λl hl=>⟨aU ζ,λa ha=>?_⟩⟩;exact ev0 s0 hQ (d:=.name h t z) (Zlb e0 ec) rfl ((d7.same w s1).trans st2) j2 rfl hl ha
theorem Zhe{wo dd:AH}(T:rY K X)(hN':rf .Rk=CN)(q:Dw X rf Li wo dd H Q E):FN K (cN X) (fO X) (sX X CN) (cu X) E ξ [↑wo,↑dd,none,none] H:=by
 obtain⟨Tg,s,A,M,_,⟨h,sl,z,rfl⟩,w,s0,j,rfl,od,o1,hc,hg,ht,hn,hE,hQ⟩:=q;obtain⟨p,m,hp,hm,hs,hl,hd⟩:=j.handOf o1;unfold FN;exists dd,_,3,_,rfl,rfl,fM.of od,rfl;apply⟨_,_,rfl,Tg,s,A,M,j,rfl,λe=>?_,λpl b e=>?_⟩
 ·rw[<- hN'];refine hE .Rk ?_ H (bz.refl _);show(match yK M.names z with | none=>_ | some (p,b)=>_)=_;rw[e]
 ·let x:AA:=if tD M pl b=true then none else some pl
  have ex:(if tD M pl b=true then V.non else .int pl)=oV x:=by
   show _=oV (if _ then _ else _);cases tD M pl b<;>rfl
  rw[ex];have he:ug M (.seek h sl z)=.ok (⟨"sought",Fg M x,(aR (setSlot M h sl x) [x]).1⟩,(aR (setSlot M h sl x) [x]).2):=by
   show(match yK M.names z with | none=>_ | some (p,b)=>_)=_;rw[e];dsimp only;cases hgn:tD M pl b with
   | true=>
    have:x=none:=by show(if _ then _ else _)=_;rw[hgn];rfl
    rw[this];rfl
   | false=>
    have hx:x=some pl:=by show(if _ then _ else _)=_;rw[hgn];rfl
    have:Fg M (some pl)=some b:=by
     unfold tD at hgn;show(cellAt M pl).map _=_;cases hcc:cellAt M pl with
     | none=>rw[hcc]at hgn;cases hgn
     | some c=>
      rw[hcc]at hgn;dsimp only at hgn
      by_cases y:c.birth=b
      ·rw[<- y];rfl
      ·rw[if_neg y]at hgn;cases hgn
    rw[hx,this];rfl
  clear_value x;exists dd,_,1,_,rfl,rfl,fM.of od,rfl;exists _,_,rfl,Tg,s,A,M,h,p,j,rfl,rfl,hp;exists dd,_,2,_,rfl,rfl,fM.of od,rfl;refine⟨p.2,_,_,sl,rfl,rfl,hd.o2,uB (by rw[bx];exact hl),?_⟩;obtain⟨st1,j1⟩:=j.slot w s0 (k:=sl) (x:=x) hp hm;rw[qY hm]at j1;generalize upd H p.2 (.lst ((m.2.map oV).set sl (oV x)))=H1 at st1 j1 ⊢;apply⟨aU ζ,λl1 hl1=>?_⟩;generalize zz:upd H1 l1 _=H2;obtain⟨s1,g1⟩:=nwO hl1 zz;have g1:H2 l1=some (.lst ([x].map oV)):=g1;apply⟨_,_,rfl,[x],Tg,s,A,_,st1.wt.same s1,s0,j1.same s1,rfl,.inl ⟨g1,st1.wt _ hl1⟩,ζ,hg,λH3 T3 l3 st3 j3 g3 nl3=>?_⟩;obtain⟨d1,ow⟩:=j3.jb.ow;apply aH ow T.cW T.M6 bF ?_;exists _,_,rfl,x,rfl,T3,s,A,_,j3,rfl;rw[Af,p7];apply⟨aU ζ,λa ha=>?_⟩;exact ev1 ⟨d7.free st1 (s1.free nl3.1),nl3.2⟩ hQ (d:=.seek h sl z) he (st1.trans ((d7.same st1.wt s1).trans st3)) j3 rfl g3 ha
end
section
variable {K:aC}{X:Cs}{H:Hp}{Q:VK}{E:XK}{n:ν}{bk ct:ν}{rf:Rf->AH}{f1 f2 f3 f4 f5 f6 f7 f8 f9 f10:AH}
theorem Zza{wo dd:AH}(T:rY K X)(q:Dw X rf (λ_=>True) wo dd H Q E):
  Zmc K f1 f2 f3 f4 f5 f6 f7 f8 f9 f10 (cG X rf Lw) (cG X rf Ls) (cG X rf WY) (cG X rf Lr) (cG X rf Ln) (cG X rf isName) (cG X rf WX) (cG X rf Lj) (cG X rf Li) (cG X rf DQ) E ξ [↑wo,↑dd,none] H:=by
 obtain⟨Tg,s,A,M,d,_,w,s0,j,rfl,od,r⟩:=q;unfold Zmc;cases d with
 | make h s' many bulk=>
  exists dd,_,0,_,rfl,rfl,fM.of od,rfl;refine⟨_,f5,rfl,rfl,?_⟩;apply nO (cG X rf Ln) rfl ζ ?_;apply⟨_,_,rfl,Tg,s,A,M,_,⟨_,_,_,_,rfl⟩,w,s0,j,rfl,od,r⟩
 | get h s' t f=>
  exists dd,_,0,_,rfl,rfl,fM.of od,rfl;refine⟨_,f3,rfl,rfl,?_⟩;apply nO (cG X rf WY) rfl ζ ?_;apply⟨_,_,rfl,Tg,s,A,M,_,⟨_,_,_,_,rfl⟩,w,s0,j,rfl,od,r⟩
 | put h t f s'=>
  exists dd,_,0,_,rfl,rfl,fM.of od,rfl;refine⟨_,f7,rfl,rfl,?_⟩;apply nO (cG X rf WX) rfl ζ ?_;apply⟨_,_,rfl,Tg,s,A,M,_,⟨_,_,_,_,rfl⟩,w,s0,j,rfl,od,r⟩
 | copy h s' t=>
  exists dd,_,0,_,rfl,rfl,fM.of od,rfl;refine⟨_,f1,rfl,rfl,?_⟩;apply nO (cG X rf Lw) rfl ζ ?_;apply⟨_,_,rfl,Tg,s,A,M,_,⟨_,_,_,rfl⟩,w,s0,j,rfl,od,r⟩
 | drop h s'=>
  exists dd,_,0,_,rfl,rfl,fM.of od,rfl;refine⟨_,f2,rfl,rfl,?_⟩;apply nO (cG X rf Ls) rfl ζ ?_;apply⟨_,_,rfl,Tg,s,A,M,_,⟨_,_,rfl⟩,w,s0,j,rfl,od,r⟩
 | give h s' g t=>
  exists dd,_,0,_,rfl,rfl,fM.of od,rfl;refine⟨_,f4,rfl,rfl,?_⟩;apply nO (cG X rf Lr) rfl ζ ?_;apply⟨_,_,rfl,Tg,s,A,M,_,⟨_,_,_,_,rfl⟩,w,s0,j,rfl,od,r⟩
 | write h t load=>
  exists dd,_,0,_,rfl,rfl,fM.of od,rfl;refine⟨_,f10,rfl,rfl,?_⟩;apply nO (cG X rf DQ) rfl ζ ?_;apply⟨_,_,rfl,Tg,s,A,M,_,⟨_,_,_,rfl⟩,w,s0,j,rfl,od,r⟩
 | read h t=>
  exists dd,_,0,_,rfl,rfl,fM.of od,rfl;refine⟨_,f8,rfl,rfl,?_⟩;apply nO (cG X rf Lj) rfl ζ ?_;apply⟨_,_,rfl,Tg,s,A,M,_,⟨_,_,rfl⟩,w,s0,j,rfl,od,r⟩
 | name h t z=>
  exists dd,_,0,_,rfl,rfl,fM.of od,rfl;refine⟨_,f6,rfl,rfl,?_⟩;apply nO (cG X rf isName) rfl ζ ?_;apply⟨_,_,rfl,Tg,s,A,M,_,⟨_,_,_,rfl⟩,w,s0,j,rfl,od,r⟩
 | seek h s' z=>
  exists dd,_,0,_,rfl,rfl,fM.of od,rfl;refine⟨_,f9,rfl,rfl,?_⟩;apply nO (cG X rf Li) rfl ζ ?_;apply⟨_,_,rfl,Tg,s,A,M,_,⟨_,_,_,rfl⟩,w,s0,j,rfl,od,r⟩
end
def wN(X:Cs):Sp:=λvs H Q E=>∃hp sl,vs=[.ref hp,.ref sl]/\∃T s A M,∃xs:Au,WJ X H T s A M/\A.hp=hp/\H sl=some (.lst (xs.map oV))/\xs.length<=1000/\∀l,H l=none->Q (.ref l) (upd H l (.lst ((xs.map (Fg M)).map oV)))
section
variable {K:aC}{X:Cs}{H:Hp}{Q:VK}{E:XK}{n:ν}{bk ct:ν}
theorem Zaj{hp sl:AH}(T:rY K X)(q:∃T s A M,∃xs:Au,WJ X H T s A M/\A.hp=hp/\H sl=some (.lst (xs.map oV))/\xs.length<=1000/\∀l,H l=none->Q (.ref l) (upd H l (.lst ((xs.map (Fg M)).map oV)))):
  zJ K (cN X) ξ [↑hp,↑sl] H:=by
 obtain⟨Tg,s,A,M,xs,j,rfl,o,hx,q⟩:=q;unfold zJ;apply W2 ?_;exists _,rfl,⟨_,cC.of o⟩;refine Zu (cC.of o) (λi=>(xs[i]?).map λx=>oV (Fg M x)) (by rw[bx];omega) (λi x hx=>?_) ?_
 ·rw[dj]at hx;obtain⟨y,hy,rfl⟩:=Option.map_eq_some_iff.mp hx;refine⟨λq hq=>?_,λz q hz hq=>?_⟩
  ·rw[hy]at hq;exact Gp hq
  ·rw[hy]at hz;cases hz;walk_at"c";apply⟨_,_,rfl,y,rfl,Tg,s,A,M,j,rfl,hq⟩
 ·intro p hp;have:(List.range (xs.map oV).length).filterMap (λi=>(xs[i]?).map λx=>oV (Fg M x))=(xs.map (Fg M)).map oV:=by
   rw[bx,List.map_map];clear q o hx
   induction xs with
   | nil=>rfl
   | cons a l ih=>
    rw[List.length_cons,List.range_succ_eq_map,List.filterMap_cons];simp only[List.getElem?_cons_zero,Option.map_some,List.map_cons,List.filterMap_map];congr 1
  rw[this];exact q p hp
end
def wU(CD:AH):Sp:=λvs H Q E=>∃p nm many,vs=[.ref p,.str nm,.int many]/\∃dx,H p=some (.ins CD dx [])/\0<=many/\many<=1000/\
 ∀sa H',H sa=none->H' p=some (.ins CD dx (Zdd nm sa))->H' sa=some (.lst (List.replicate many.toNat V.non))->(∀b o,H b=some o->b≠p->H' b=some o)->Q .non H'
def qR(CS:AH):Sp:=λvs H Q E=>∃p,vs=[.ref p]/\∃dx,H p=some (.ins CS dx [])/\
 ∀gr H',H gr=none->H' p=some (.ins CS dx (cH 0 "rest" gr 0 0 0 0 0 0 0 .non))->H' gr=some (.lst [])->(∀b o,H b=some o->b≠p->H' b=some o)->Q .non H'
section
variable {K:aC}{X:Cs}{H:Hp}{Q:VK}{E:XK}{n:ν}{bk ct:ν}
theorem Mr{p:AH}{nm:Str}{many:Int}(T:rY K X)(q:∃dx,H p=some (.ins X.D dx [])/\0<=many/\many<=1000/\
 ∀sa H',H sa=none->H' p=some (.ins X.D dx (Zdd nm sa))->H' sa=some (.lst (List.replicate many.toNat V.non))->(∀b o,H b=some o->b≠p->H' b=some o)->Q .non H'):
  rG K ⟨λ_ H'=>Q .non H',Q,bk,ct⟩ [↑p,some (.str nm),some (.int many)] H:=by
 obtain⟨dx,hp,h0,h1,h⟩:=q;unfold rG;exists p,X.D,dx,[],rfl,hp,T.cD,T.nDn,ε;apply⟨ε,λl0 hl0=>?_⟩;apply⟨l0,many,_,rfl,rfl,aq,δ,δ,?_,λfa hfa=>?_⟩
 ·show 1 * many.toNat<=sizeLine;exact aU δ
 have npl:p≠l0:=aD aq hl0;have npf:p≠fa:=aD (by rw[aB npl];exact aq) hfa;have Zz1:H fa=none:=by
  by_cases z:fa=l0
  ·rw[z,aq]at hfa;cases hfa
  ·rw[aB z,aB (λe=>npf e.symm)]at hfa;exact hfa
 have ZB1:H l0=none:=by rw[aB (λe=>npl e.symm)]at hl0;exact hl0
 apply⟨p,X.D,dx,_,rfl,by rw[aB npf,aB npl];exact aq,T.cD,T.nDs,by show 1<1000;decide,?_⟩;refine h fa _ Zz1 ?_ ?_ λb o hb nb=>?_
 ·rw[aq,Zow]
 ·rw[aB npf.symm,aq];congr 2;generalize many.toNat=k
  induction k with
  | zero=>rfl
  | succ k ih=>rw[List.replicate_succ,List.replicate_succ,List.flatten_cons,ih];rfl
 ·rw[aB nb,aB (aD hb Zz1),aB (aD hb ZB1),aB nb];exact hb
theorem Ek{p:AH}(T:rY K X)(q:∃dx,H p=some (.ins X.S dx [])/\
 ∀gr H',H gr=none->H' p=some (.ins X.S dx (cH 0 "rest" gr 0 0 0 0 0 0 0 .non))->H' gr=some (.lst [])->(∀b o,H b=some o->b≠p->H' b=some o)->Q .non H'):
  oX K ⟨λ_ H'=>Q .non H',Q,bk,ct⟩ [↑p] H:=by
 obtain⟨dx,hp,h⟩:=q;unfold oX;exists p,X.S,dx,[],rfl,hp,T.cS,T.n1,ε;apply⟨p,X.S,dx,_,rfl,aq,T.cS,T.n2,by show 1<1000;decide,?_⟩;rw[eZ];apply⟨ε,λgr hgr=>?_⟩;have npg:p≠gr:=aD aq hgr;have Zos:H gr=none:=by rw[aB npg.symm]at hgr;exact hgr
 apply⟨p,X.S,dx,_,rfl,by rw[aB npg];exact aq,T.cS,T.n3,by show 2<1000;decide,?_⟩;apply⟨p,X.S,dx,_,rfl,aq,T.cS,T.n4,by show 3<1000;decide,?_⟩;rw[eZ];apply⟨p,X.S,dx,_,rfl,aq,T.cS,T.n5,by show 4<1000;decide,?_⟩;rw[eZ];apply⟨p,X.S,dx,_,rfl,aq,T.cS,T.n6,by show 5<1000;decide,?_⟩;rw[eZ];apply⟨p,X.S,dx,_,rfl,aq,T.cS,T.n7,by show 6<1000;decide,?_⟩;rw[eZ];apply⟨p,X.S,dx,_,rfl,aq,T.cS,T.n8,by show 7<1000;decide,?_⟩;rw[eZ];apply⟨p,X.S,dx,_,rfl,aq,T.cS,T.n9,by show 8<1000;decide,?_⟩;rw[eZ];apply⟨p,X.S,dx,_,rfl,aq,T.cS,T.n10,by show 9<1000;decide,?_⟩;rw[eZ];apply⟨p,X.S,dx,_,rfl,aq,T.cS,T.n11,by show 10<1000;decide,?_⟩;rw[eZ];refine h gr _ Zos ?_ ?_ λb o hb nb=>?_
 ·rw[aq,Zjb]
 ·rw[aB npg.symm,aq]
 ·rw[aB nb,aB (aD hb Zos),aB nb];exact hb
end
def wd(w:Int):Str:=if w=0 then "first" else if w=1 then "each" else "last"
def tlS(t:Int):Str:=if t=0 then "" else if t=1 then " old" else if t=2 then " new" else " old new"
def words(w t:Int):Str:=wd w++tlS t
structure KdO(X:Cs)(H:Hp)(ki lk:AH)(w t:Int):Prop where
 ok:∃dx,H ki=some (.ins X.K dx (RC lk t))
 ol:∃dx,(w=0/\H lk=some (.ins X.F dx []))\/(w=1/\H lk=some (.ins X.E dx []))\/(w=2/\H lk=some (.ins X.L dx []))
theorem KdO.same{X:Cs}{H H':Hp}{ki lk:AH}{w t:Int}(k:KdO X H ki lk w t)(s:bz H H'):KdO X H' ki lk w t:=by
 obtain⟨⟨d1,a⟩,⟨d2,b⟩⟩:=k;refine⟨⟨d1,s _ _ a⟩,⟨d2,?_⟩⟩;rcases b with ⟨z,e⟩ | ⟨z,e⟩ | ⟨z,e⟩
 ·exact .inl ⟨z,s _ _ e⟩
 ·exact .inr (.inl ⟨z,s _ _ e⟩)
 ·exact .inr (.inr ⟨z,s _ _ e⟩)
def UJ(room:Int)(hands:List (Str×Int))(w t:Int):Wm:=⟨room,0,0,[],hands.map λm=>(m.1,List.replicate m.2.toNat none),[],w,t,⟨0,"rest",[],0,0,0,0,0,0,0,.non⟩⟩
def uF(X:Cs):Sp:=λvs H Q E=>∃p room ki hl0,vs=[.ref p,.int room,.ref ki,.ref hl0]/\∃dx T s lk w t ts hands,H p=some (.ins X.W dx [])/\WT H T/\s≠0/\KdO X H ki lk w t/\T ki=(0,0)/\T lk=(0,0)/\ki≠p/\lk≠p/\H hl0=some (.lst (ts.map V.ref))/\
 Al (λ(t:AH) (m:Str×Int)=>H t=some (.tup [.str m.1,.int m.2])/\0<=m.2/\m.2<=1000) ts hands/\hands.length<=30/\
 ∀H' T' A,(∀b o,H b=some o->b≠p->H' b=some o)->(∀b o,H b=some o->b≠p->T' b=T b)->WT H' T'->A.wo=p->WJ X H' T' s A (UJ room hands w t)->Q .non H'
def tE(CK:AH):Sp:=λvs H Q E=>∃p l t,vs=[.ref p,.ref l,.int t]/\∃dx,H p=some (.ins CK dx [])/\∀H',H' p=some (.ins CK dx (RC l t))->(∀b o,H b=some o->b≠p->H' b=some o)->Q .non H'
def rZ(v:V):Sp:=λvs H Q E=>∃a,vs=[.ref a]/\Q v H
section
variable {K:aC}{X:Cs}{H:Hp}{Q:VK}{E:XK}{n:ν}{bk ct:ν}
theorem Mp{p l:AH}{t:Int}(T:rY K X)(q:∃dx,H p=some (.ins X.K dx [])/\∀H',H' p=some (.ins X.K dx (RC l t))->(∀b o,H b=some o->b≠p->H' b=some o)->Q .non H'):
  rE K ⟨λ_ H'=>Q .non H',Q,bk,ct⟩ [↑p,↑l,some (.int t)] H:=by
 obtain⟨dx,hp,h⟩:=q;unfold rE;exists p,X.K,dx,[],rfl,hp,T.cK,T.nKl,ε;apply⟨p,X.K,dx,_,rfl,aq,T.cK,T.nKt,by show 1<1000;decide,?_⟩;rw[eZ];refine h _ ?_ λb o hb nb=>?_
 ·rw[aq,Zo9]
 ·rw[aB nb];exact hb
theorem w0{w:Int}(hw:w=0\/w=1\/w=2):words w 0=wd w:=by rcases hw with rfl | rfl | rfl<;>decide +kernel
theorem w3{w:Int}(hw:w=0\/w=1\/w=2):words w 3=(wd w++" old")++" new":=by rcases hw with rfl | rfl | rfl<;>decide +kernel
end
structure Ex(p:AH)(H H':Hp)(T T':Tg):Prop where
 kp:∀b o,H b=some o->b≠p->H' b=some o
 al:∀b o,H b=some o->∃o',H' b=some o'
 tg:∀b o,H b=some o->T' b=T b
 wt:WT H' T'
section
variable {p:AH}{H H1 H2 H':Hp}{T T1 T2 T':Tg}
theorem Ex.trans(a:Ex p H H1 T T1)(b:Ex p H1 H2 T1 T2):Ex p H H2 T T2 where
 kp:=λx o h n=>b.kp x o (a.kp x o h n) n
 al:=λx o h=>by obtain⟨o1,h1⟩:=a.al x o h;exact b.al x o1 h1
 tg:=λx o h=>by obtain⟨o1,h1⟩:=a.al x o h;rw[b.tg x o1 h1,a.tg x o h]
 wt:=b.wt
theorem Zxi(w:WT H T)(al:∀b o,H b=some o->∃o',H' b=some o'):WT H' T:=λb h=>w b (by
 cases z:H b with
 | none=>rfl
 | some o=>obtain⟨o',e⟩:=al b o z;rw[h]at e;cases e)
theorem Zeh{a:AH}{o:HO}{v:Nat×Nat}(w:WT H T)(h:H a=some o):WT H (dz T a v):=λb hb=>by
 rw[fc (λe=>by rw[e,h]at hb;cases hb)];exact w b hb
theorem Ex.Zlp{o o0:HO}(w:WT H T)(h:H p=some o0):Ex p H (upd H p o) T T where
 kp:=λx u hx n=>by rw[aB n];exact hx
 al:=λx u hx=>by
  by_cases e:x=p
  ·exact⟨o,by rw[e,aq]⟩
  ·exact⟨u,by rw[aB e];exact hx⟩
 tg:=λ_ _ _=>rfl
 wt:=Zxi w λx u hx=>by
  by_cases e:x=p
  ·exact⟨o,by rw[e,aq]⟩
  ·exact⟨u,by rw[aB e];exact hx⟩
theorem Ex.news{vs:List (AH×(Nat×Nat))}(w:WT H T)(s:bz H H')(hn:∀v∈vs,H v.1=none/\∃o,H' v.1=some o):Ex p H H' T (vs.foldr (λv t=>dz t v.1 v.2) T):=by
 have tg:∀b o,H b=some o->(vs.foldr (λv t=>dz t v.1 v.2) T) b=T b:=by
  intro b o hb
  induction vs with
  | nil=>rfl
  | cons v vs ih=>
   show dz _ v.1 v.2 b=_;rw[fc (aD hb (hn v List.mem_cons_self).1)];exact ih λu hu=>hn u (List.mem_cons_of_mem _ hu)
 refine⟨λb o hb _=>s _ _ hb,λb o hb=>⟨o,s _ _ hb⟩,tg,?_⟩;clear tg
 induction vs with
 | nil=>exact w.same s
 | cons v vs ih=>
  obtain⟨o,ho⟩:=(hn v List.mem_cons_self).2;exact Zeh (ih λu hu=>hn u (List.mem_cons_of_mem _ hu)) ho
end
section
variable {K:aC}{X:Cs}{H:Hp}{Q:VK}{E:XK}{n:ν}{bk ct:ν}
theorem Ju{p ki hl0:AH}{room:Int}(T:rY K X)(q:∃dx T s lk w t,∃ts:AE,∃hands,H p=some (.ins X.W dx [])/\WT H T/\s≠0/\KdO X H ki lk w t/\T ki=(0,0)/\T lk=(0,0)/\ki≠p/\lk≠p/\H hl0=some (.lst (ts.map V.ref))/\
 Al (λ(t:AH) (m:Str×Int)=>H t=some (.tup [.str m.1,.int m.2])/\0<=m.2/\m.2<=1000) ts hands/\hands.length<=30/\
 ∀H' T' A,(∀b o,H b=some o->b≠p->H' b=some o)->(∀b o,H b=some o->b≠p->T' b=T b)->WT H' T'->A.wo=p->WJ X H' T' s A (UJ room hands w t)->Q .non H'):
  qi K X.D X.H X.S (wU X.D) (wQ X.H) (qR X.S) ⟨λ_ H'=>Q .non H',Q,bk,ct⟩ [↑p,some (.int room),↑ki,↑hl0] H:=by
 obtain⟨dx,T0,s,lk,w,t,ts,hands,hp,wt0,s0,kd,tki,tlk,nki,nlk,oh0,al,hn,hQ⟩:=q;have x0:WT H (dz T0 p (s,0)):=Zeh wt0 hp;have tp:dz T0 p (s,0) p=(s,0):=gU;have to0:∀b o,H b=some o->b≠p->dz T0 p (s,0) b=T0 b:=λb _ _ hb=>fc hb;generalize hT:dz T0 p (s,0)=Ta at x0 tp to0;unfold qi;ext;intro hq dh nh ndh neh;refine⟨hq,room,rfl,dh,aq,λca H1 nca a1 a2 k1=>⟨rfl,?_⟩⟩;have Zvi:H ca=none:=by
  by_cases z:ca=hq
  ·rw[z,aq]at nca;cases nca
  ·rw[aB z]at nca
   by_cases y:ca=dh
   ·rw[y,aq]at nca;cases nca
   ·rw[aB y]at nca;exact nca
 have sm1:bz H H1:=λb o hb=>k1 b o (by rw[aB (aD hb nh),aB (aD hb ndh)];exact hb) (aD hb nh);have e1:Ex p H H1 Ta _:=Ex.news (vs:=[(hq,(s,1)),(ca,(s,2))]) x0 sm1 (by
  intro v hv;simp only[List.mem_cons,List.not_mem_nil,or_false]at hv;rcases hv with rfl | rfl
  ·exact⟨nh,_,a1⟩
  ·exact⟨Zvi,_,a2⟩)
 have nhc:hq≠ca:=qG a1 a2 (λz=>by cases z);have th1:([(hq,(s,1)),(ca,(s,2))].foldr (λv t=>dz t v.1 v.2) Ta) hq=(s,1):=gU;have tc1:([(hq,(s,1)),(ca,(s,2))].foldr (λv t=>dz t v.1 v.2) Ta) ca=(s,2):=(fc nhc.symm).trans gU;generalize ([(hq,(s,1)),(ca,(s,2))]:List (AH×(Nat×Nat))).foldr (λv t=>dz t v.1 v.2) Ta=Tb at e1 th1 tc1;have hp1:=sm1 _ _ hp;have nph:hq≠p:=λz=>by rw[z,hp]at nh;cases nh
 have npc:ca≠p:=λz=>by rw[z,hp]at Zvi;cases Zvi
 clear k1 nca;exists p,X.W,dx,[],rfl,hp1,T.cW,T.M6,ε;have e2:=e1.trans (Ex.Zlp (o:=.ins X.W dx (cI "heap" (.ref hq) [])) e1.wt hp1);have g2:upd H1 p (.ins X.W dx (cI "heap" (.ref hq) [])) p=some (.ins X.W dx (cI "heap" (.ref hq) [])):=aq;have a1:=(aB (o:=.ins X.W dx (cI "heap" (.ref hq) [])) nph).trans a1;have a2:=(aB (o:=.ins X.W dx (cI "heap" (.ref hq) [])) npc).trans a2;generalize upd H1 p (.ins X.W dx (cI "heap" (.ref hq) []))=H2 at e2 g2 a1 a2 ⊢;apply⟨p,X.W,dx,_,rfl,g2,T.cW,T.nWk,by show 1<1000;decide,?_⟩;have e3:=e2.trans (Ex.Zlp (o:=.ins X.W dx (cI "kind" (.ref ki) (cI "heap" (.ref hq) []))) e2.wt g2);have g3:upd H2 p (.ins X.W dx (cI "kind" (.ref ki) (cI "heap" (.ref hq) []))) p=some (.ins X.W dx (cI "kind" (.ref ki) (cI "heap" (.ref hq) []))):=aq;have a1:=(aB (o:=.ins X.W dx (cI "kind" (.ref ki) (cI "heap" (.ref hq) []))) nph).trans a1;have a2:=(aB (o:=.ins X.W dx (cI "kind" (.ref ki) (cI "heap" (.ref hq) []))) npc).trans a2;generalize upd H2 p (.ins X.W dx (cI "kind" (.ref ki) (cI "heap" (.ref hq) [])))=H3 at e3 g3 a1 a2 ⊢;generalize hF3:(cI "kind" (.ref ki) (cI "heap" (.ref hq) []))=F3 at g3 ⊢;have lF3:F3.length=2:=by rw[<- hF3];rfl
 have oh3:H3 hl0=some (.lst (ts.map V.ref)):=e3.kp _ _ oh0 (λz=>by rw[z,hp]at oh0;cases oh0);have ltl:ts.length=hands.length:=al.length;have Zzr:∀(i:Nat) a,ts[i]? =some a->∃m,hands[i]? =some m/\H3 a=some (.tup [.str m.1,.int m.2])/\0<=m.2/\m.2<=1000:=λi a ha=>by
  have hl:i<hands.length:=by rw[<- ltl];exact(fH ha).1
  obtain⟨a',ha',z1,z2,z3⟩:=al.get (bM hl);rw[ha]at ha';cases ha';exact⟨_,bM hl,e3.kp _ _ z1 (λz=>by rw[z,hp]at z1;cases z1),z2,z3⟩
 have lo:=e3.wt;apply⟨_,rfl,⟨_,cC.of oh3⟩,Zik ?_⟩;refine⟨λi m ys Hx=>i<=ts.length/\m=ts.length - i/\∃(hs:List (AH×AH)) (Tx:Tg),ys=hs.map (λq=>V.ref q.1)/\hs.length=i/\bz H3 Hx/\Ex p H3 Hx Tb Tx/\∀(j:Nat) q m,hs[j]? =some q->hands[j]? =some m->HdO X.D Hx Tx s j q (m.1,List.replicate m.2.toNat none)/\q.1≠p/\q.2≠p,
  ⟨ts.length,Nat.zero_le _,rfl,[],Tb,rfl,rfl,bz.refl _,⟨λ_ _ h _=>h,λ_ o h=>⟨o,h⟩,λ_ _ _=>rfl,lo⟩,λj q m e=>by simp at e⟩,?_⟩
 rintro i m ys Hx ⟨hi,rfl,hs,Tx,rfl,hl,sx,ex,hds⟩
 by_cases hk:i=ts.length
 ·refine .inl ⟨⟨_,cC.of (sx _ _ oh3),by rw[bx];omega⟩,λhla nhl=>?_⟩;have ZIl:H3 hla=none:=sx.free nhl;have s4:=aL nhl (.lst (hs.map λq=>V.ref q.1));have e4:Ex p Hx _ Tx _:=Ex.news (p:=p) (vs:=[(hla,(s,5))]) ex.wt s4 (by
   intro v hv;rw[List.mem_singleton.mp hv];exact⟨nhl,_,aq⟩)
  have t4:([(hla,(s,5))].foldr (λv t=>dz t v.1 v.2) Tx) hla=(s,5):=gU;have o4:upd Hx hla (.lst (hs.map λq=>V.ref q.1)) hla=some (.lst (hs.map λq=>V.ref q.1)):=aq;have hpx:=sx _ _ g3;have nhp:hla≠p:=λz=>by rw[z,hpx]at nhl;cases nhl
  have hp4:=s4 _ _ hpx;generalize upd Hx hla (.lst (hs.map λq=>V.ref q.1))=H4 at s4 e4 o4 hp4 ⊢;generalize ([(hla,(s,5))]:List (AH×(Nat×Nat))).foldr (λv t=>dz t v.1 v.2) Tx=T4 at e4 t4;apply⟨p,X.W,dx,_,rfl,hp4,T.cW,T.nWd,by rw[lF3];decide,?_⟩;have e5:=Ex.Zlp (p:=p) (o:=.ins X.W dx (cI "hands" (.ref hla) F3)) e4.wt hp4;have hp5:upd H4 p (.ins X.W dx (cI "hands" (.ref hla) F3)) p=some (.ins X.W dx (cI "hands" (.ref hla) F3)):=aq;generalize upd H4 p (.ins X.W dx (cI "hands" (.ref hla) F3))=H5 at e5 hp5 ⊢;ext;intro nm hnm;have nnp:nm≠p:=λz=>by rw[z,hp5]at hnm;cases hnm
  have s6:=aL hnm (.dK []);have e6:Ex p H5 _ T4 _:=Ex.news (p:=p) (vs:=[(nm,(s,6))]) e5.wt s6 (by
   intro v hv;rw[List.mem_singleton.mp hv];exact⟨hnm,_,aq⟩)
  have t6:([(nm,(s,6))].foldr (λv t=>dz t v.1 v.2) T4) nm=(s,6):=gU;have o6:upd H5 nm (.dK []) nm=some (.dK []):=aq;have hp6:=s6 _ _ hp5;generalize upd H5 nm (.dK [])=H6 at s6 e6 o6 hp6 ⊢;generalize ([(nm,(s,6))]:List (AH×(Nat×Nat))).foldr (λv t=>dz t v.1 v.2) T4=T6 at e6 t6;apply⟨p,X.W,dx,_,rfl,hp6,T.cW,T.nWn,by rw[<- hF3];show 3<1000;decide,?_⟩;have e7:=Ex.Zlp (p:=p) (o:=.ins X.W dx (cI "names" (.ref nm) (cI "hands" (.ref hla) F3))) e6.wt hp6;have hp7:upd H6 p (.ins X.W dx (cI "names" (.ref nm) (cI "hands" (.ref hla) F3))) p=some (.ins X.W dx (cI "names" (.ref nm) (cI "hands" (.ref hla) F3))):=aq;generalize upd H6 p (.ins X.W dx (cI "names" (.ref nm) (cI "hands" (.ref hla) F3)))=H7 at e7 hp7 ⊢;ext;intro sw ds nsw nds nes;refine⟨sw,rfl,ds,aq,λgr H8 ngr b1 b2 k8=>⟨rfl,?_⟩⟩;have Zvg:H7 gr=none:=by
   by_cases z:gr=sw
   ·rw[z,aq]at ngr;cases ngr
   ·rw[aB z]at ngr
    by_cases y:gr=ds
    ·rw[y,aq]at ngr;cases ngr
    ·rw[aB y]at ngr;exact ngr
  have s8:bz H7 H8:=λb o hb=>k8 b o (by rw[aB (aD hb nsw),aB (aD hb nds)];exact hb) (aD hb nsw);have e8:Ex p H7 H8 T6 _:=Ex.news (p:=p) (vs:=[(sw,(s,7)),(gr,(s,8))]) e7.wt s8 (by
   intro v hv;simp only[List.mem_cons,List.not_mem_nil,or_false]at hv;rcases hv with rfl | rfl
   ·exact⟨nsw,_,b1⟩
   ·exact⟨Zvg,_,b2⟩)
  have nsg:sw≠gr:=qG b1 b2 (λz=>by cases z);have ts8:([(sw,(s,7)),(gr,(s,8))].foldr (λv t=>dz t v.1 v.2) T6) sw=(s,7):=gU;have tg8:([(sw,(s,7)),(gr,(s,8))].foldr (λv t=>dz t v.1 v.2) T6) gr=(s,8):=(fc nsg.symm).trans gU;generalize ([(sw,(s,7)),(gr,(s,8))]:List (AH×(Nat×Nat))).foldr (λv t=>dz t v.1 v.2) T6=T8 at e8 ts8 tg8;have hp8:=s8 _ _ hp7;have nsp:sw≠p:=λz=>by rw[z,hp7]at nsw;cases nsw
  have ngp:gr≠p:=λz=>by rw[z,hp7]at Zvg;cases Zvg
  clear k8 ngr;apply⟨p,X.W,dx,_,rfl,hp8,T.cW,T.Ro,by rw[<- hF3];show 4<1000;decide,?_⟩;have e9:=Ex.Zlp (p:=p) (o:=.ins X.W dx (cI "sweeper" (.ref sw) (cI "names" (.ref nm) (cI "hands" (.ref hla) F3)))) e8.wt hp8;have hp9:upd H8 p (.ins X.W dx (cI "sweeper" (.ref sw) (cI "names" (.ref nm) (cI "hands" (.ref hla) F3)))) p=some (.ins X.W dx (Bo hq ki hla nm sw)):=by
   rw[aq,<- hF3,Zj6]
  generalize upd H8 p (.ins X.W dx (cI "sweeper" (.ref sw) (cI "names" (.ref nm) (cI "hands" (.ref hla) F3))))=H9 at e9 hp9 ⊢;have f89:=e9;have f69:=e7.trans (e8.trans e9);have f49:=e5.trans (e6.trans f69);have fx9:=e4.trans f49;have f39:=ex.trans fx9;have f09:=e3.trans f39;obtain⟨⟨dk,ok⟩,⟨dl,ol⟩⟩:=kd;have hlk:∃o,H lk=some o:=by
   rcases ol with ⟨_,z⟩ | ⟨_,z⟩ | ⟨_,z⟩
   ·exact⟨_,z⟩
   ·exact⟨_,z⟩
   ·exact⟨_,z⟩
  obtain⟨olk,elk⟩:=hlk;refine hQ H9 T8 ⟨p,hq,ca,ki,lk,hla,nm,sw,gr,hs,[],[]⟩ f09.kp (λb o hb nb=>(f09.tg b o hb).trans (to0 b o hb nb)) f09.wt rfl ⟨⟨(f09.tg _ _ hp).trans tp,(f09.tg _ _ ok).trans ((to0 _ _ ok nki).trans tki),(f09.tg _ _ elk).trans ((to0 _ _ elk nlk).trans tlk),(f49.tg _ _ o4).trans t4,⟨dx,hp9⟩,⟨dk,f09.kp _ _ ok nki⟩,⟨dl,?_⟩,f49.kp _ _ o4 nhp⟩,
   ⟨(f39.tg _ _ a1).trans th1,(f39.tg _ _ a2).trans tc1,⟨dh,f39.kp _ _ a1 nph⟩,f39.kp _ _ a2 npc⟩,⟨(f69.tg _ _ o6).trans t6,f69.kp _ _ o6 nnp,.nil⟩,
   ⟨(f89.tg _ _ b1).trans ts8,(f89.tg _ _ b2).trans tg8,⟨ds,f89.kp _ _ b1 nsp⟩,f89.kp _ _ b2 ngp⟩,⟨?_,by show hs.length<=30;rw[hl,hk,ltl];exact hn,?_⟩,⟨rfl,λi q c z=>by simp at z⟩⟩
  ·rcases ol with ⟨z,y⟩ | ⟨z,y⟩ | ⟨z,y⟩
   ·exact .inl ⟨z,f09.kp _ _ y nlk⟩
   ·exact .inr (.inl ⟨z,f09.kp _ _ y nlk⟩)
   ·exact .inr (.inr ⟨z,f09.kp _ _ y nlk⟩)
  ·show hs.length=(hands.map _).length;rw[bx,hl,hk,ltl]
  ·intro j q m z1 z2;have z2:(hands.map λm=>(m.1,List.replicate m.2.toNat none))[j]? =some m:=z2;rw[dj]at z2;obtain⟨m0,y1,rfl⟩:=Option.map_eq_some_iff.mp z2;obtain⟨⟨u1,u2,⟨du,u3⟩,u4⟩,v1,v2⟩:=hds j q m0 z1 y1;exact⟨(fx9.tg _ _ u3).trans u1,(fx9.tg _ _ u4).trans u2,⟨du,fx9.kp _ _ u3 v1⟩,fx9.kp _ _ u4 v2⟩
 ·have hlt:i<ts.length:=δ
  refine .inr ⟨⟨_,_,cC.of (sx _ _ oh3),by rw[dj,bM hlt];rfl⟩,?_,λx H' y=>?_⟩
  ·rw[bx,hl];exact Nat.lt_of_lt_of_le hlt (aU δ)
  obtain⟨y1,y2⟩:=y;subst y1;have ey:=y2 _ (cC.of (sx _ _ oh3));rw[dj,bM hlt]at ey;have ey:x=.ref ts[i]:=(Option.some.inj ey).symm;subst ey;obtain⟨m,hm,ot,m0,m1⟩:=Zzr i _ (bM hlt);refine Gp (Zgo ⟨ts[i],.str m.1,.int m.2,_,rfl,fM.of (sx _ _ ot),?_⟩);walk_at"c";ext;intro q1 dq nq ndq neq;refine⟨q1,m.1,m.2,rfl,dq,aq,m0,m1,λsa Hy nsa b1 b2 k=>⟨rfl,?_⟩⟩;have Zvb:H' sa=none:=by
   by_cases z:sa=q1
   ·rw[z,aq]at nsa;cases nsa
   ·rw[aB z]at nsa
    by_cases y:sa=dq
    ·rw[y,aq]at nsa;cases nsa
    ·rw[aB y]at nsa;exact nsa
  have sy:bz H' Hy:=λb o hb=>k b o (by rw[aB (aD hb nq),aB (aD hb ndq)];exact hb) (aD hb nq);have ey:Ex p H' Hy Tx _:=Ex.news (p:=p) (vs:=[(q1,(s,20+2 * i)),(sa,(s,21+2 * i))]) ex.wt sy (by
   intro v hv;simp only[List.mem_cons,List.not_mem_nil,or_false]at hv;rcases hv with rfl | rfl
   ·exact⟨nq,_,b1⟩
   ·exact⟨Zvb,_,b2⟩)
  have nqs:q1≠sa:=qG b1 b2 (λz=>by cases z);have hpx:=sx _ _ g3;refine⟨ts.length - (i+1),δ,δ,rfl,hs++[(q1,sa)],_,by rw[List.map_append];rfl,by rw[List.length_append,hl];rfl,sx.trans sy,ex.trans ey,λj q m' z1 z2=>?_⟩
  by_cases hj:j<hs.length
  ·rw[List.getElem?_append_left hj]at z1;obtain⟨⟨u1,u2,⟨du,u3⟩,u4⟩,v1,v2⟩:=hds j q m' z1 z2;exact⟨⟨(ey.tg _ _ u3).trans u1,(ey.tg _ _ u4).trans u2,⟨du,sy _ _ u3⟩,sy _ _ u4⟩,v1,v2⟩
  ·have hj':=(fH z1).1;rw[List.length_append,List.length_singleton]at hj';have ej:j=hs.length:=δ
   subst ej;rw[List.getElem?_append_right Δ,Nat.sub_self]at z1;cases z1;rw[hl]at z2 ⊢;rw[hm]at z2;cases z2;exact⟨⟨gU,(fc nqs.symm).trans gU,⟨dq,b1⟩,by rw[b2,List.map_replicate];rfl⟩,(λz=>by rw[show q1=p from z,hpx]at nq;cases nq),(λz=>by rw[show sa=p from z,hpx]at Zvb;cases Zvb)⟩
end
section
variable {K:aC}{X:Cs}{H:Hp}{Q:VK}{E:XK}{n:ν}{bk ct:ν}
end
section
variable {K:aC}{X:Cs}{H:Hp}{Q:VK}{E:XK}{T:Tg}{s:Nat}{A:Wa}{M:Wm}
theorem Zkz{i:Nat}{c:Ce}(j:WJ X H T s A M)(w:WT H T)(h0:s≠0)(hc:M.cells[i]? =some (some c))
  (k:∀H' A',d7 s H H' T T->WJ X H' T s A' { M with used:=M.used - (1+c.fl.length+c.bulk),cells:=M.cells.set i none }->A'.wo=A.wo/\A'.sw=A.sw->Q (.int c.birth) H'):
  tG X.C X.H [.ref A.hp,.int i] H Q E:=by
 obtain⟨th,tc,⟨dh,oh⟩,oc⟩:=j.jh;obtain⟨pc,hpc,ce⟩:=j.jc.at hc;obtain⟨_,_,⟨dc,o1⟩,ofl⟩:=id ce;have hl:=(fH hc).1;refine⟨A.hp,i,rfl,A.ca,dh,M.room,M.used,M.born,A.cs.map pV,pc.1,pc.2,c.birth,c.bulk,c.tone,c.load,c.fl.map oV,δ,oh,oc,by rw[Int.toNat_natCast,dj,hpc];rfl,⟨⟨dc,o1⟩,ofl⟩,?_⟩;rw[Int.toNat_natCast,bx];have nhc:A.hp≠A.ca:=qG oh oc (λz=>by cases z);obtain⟨JR,j5⟩:=j.back w h0 (i:=i) (used':=M.used - (1+c.fl.length+c.bulk)) (by rw[j.jc.lc];exact hl) (upd (upd H A.hp (.ins X.H dh (kY M.room A.ca (M.used - (1+c.fl.length+c.bulk)) M.born))) A.ca (.lst ((A.cs.map pV).set i V.non)))
  (λb o hb n1 n2=>by rw[aB n2,aB n1];exact hb) (by rw[aB nhc];exact aq) aq
 exact k _ _ JR j5 ⟨rfl,rfl⟩
end
def heldOf(M:Wm):List Au:=M.hands.map (·.2)
def Zay(X:Cs):Sp:=λvs H Q E=>∃wo,vs=[.ref wo]/\∃T s A M,WJ X H T s A M/\A.wo=wo/\M.hands.length<=1000/\∀(l:AH) (ls:AE) H',bz H H'->H l=none->H' l=some (.lst (ls.map V.ref))->ls.length=(heldOf M).length->ls.Nodup->(∀r∈ls,H r=none)->l∉ls->(∀(j:Nat) r x,ls[j]? =some r->(heldOf M)[j]? =some x->H' r=some (.lst (x.map oV)))->Q (.ref l) H'
section
variable {K:aC}{X:Cs}{H:Hp}{Q:VK}{E:XK}{n:ν}{bk ct:ν}
theorem Zso{wo:AH}(T:rY K X)(q:∃T s A M,WJ X H T s A M/\A.wo=wo/\M.hands.length<=1000/\∀(l:AH) (ls:AE) H',bz H H'->H l=none->H' l=some (.lst (ls.map V.ref))->ls.length=(heldOf M).length->ls.Nodup->(∀r∈ls,H r=none)->l∉ls->(∀(j:Nat) r x,ls[j]? =some r->(heldOf M)[j]? =some x->H' r=some (.lst (x.map oV)))->Q (.ref l) H'):
  YD K ξ [↑wo] H:=by
 obtain⟨Tg,s,A,M,j,rfl,hl,q⟩:=q;obtain⟨dx,ow⟩:=j.jb.ow;unfold YD;apply W2 ?_;apply aH ow T.cW T.nWd eY ?_;have l5:=j.jd.l5;refine⟨_,rfl,⟨_,cC.of j.jb.on⟩,?_⟩;refine Zo6 (cC.of j.jb.on) (by rw[bx];omega) (λi r Hx=>∃x,(heldOf M)[i]? =some x/\Hx r=some (.lst (x.map oV))) (λ_ _ _ _ ⟨x,e,z⟩ s=>⟨x,e,s _ _ z⟩) (λ_ _ _ ⟨_,_,z⟩=>⟨_,z⟩) (λx H1 q hq=>Gp hq) (λi x H1 hi s1 q' hq=>?_) ?_
 ·rw[dj]at hi;obtain⟨p,hp,rfl⟩:=Option.map_eq_some_iff.mp hi;have j1:=j.same s1;obtain⟨m,hm,hd⟩:=j1.hand hp;obtain⟨dx,o1⟩:=hd.o1;walk_at"c";apply aH o1 T.cD T.nDs vq ?_;apply Jh (cC.of hd.o2) λl hl=>?_;exact hq l _ (aL hl _) hl ⟨_,by unfold heldOf;rw[dj,hm];rfl,aq⟩
 ·intro rs H' s1 hl nd nn hr p hp;have s2:=aL hp (.lst (rs.map V.ref));refine q p rs _ (s1.trans s2) (s1.free hp) aq ?_ nd nn (λz=>?_) λj' r x e1 e2=>?_
  ·rw[hl,bx];unfold heldOf;rw[bx,j.jd.lh]
  ·obtain⟨k,hk,e⟩:=List.getElem_of_mem z;obtain⟨_,_,e4⟩:=hr k p (by rw[bM hk,e]);rw[hp]at e4;cases e4
  ·obtain⟨y,e3,z⟩:=hr j' r e1;rw[e2]at e3;cases e3;exact s2 _ _ z
end
def jz(w:Int)(h:Nat):Int:=if w=0 then 2 ^ h - 1 else 0
def pU(M:Wm):Wm:={ M with sw:={ M.sw with sense:=1 - M.sw.sense,phase:="walk",grey:=[],looked:=jz M.w M.hands.length,turn:=M.sw.turn+1,walks:=0,looks:=0,passes:=0 } }
def vK:Sp:=λvs H Q E=>∃h,vs=[.int h]/\0<=h/\h<=30/\Q (.int (2 ^ h.toNat - 1)) H
def oF(k:Nat):Sp:=λvs H Q E=>∃a h,vs=[.ref a,.int h]/\0<=h/\h<=30/\Q (.int (if k=0 then 2 ^ h.toNat - 1 else 0)) H
def PN(X:Cs):Sp:=λvs H Q E=>∃wo,vs=[.ref wo]/\∃T s A M,WT H T/\s≠0/\WJ X H T s A M/\A.wo=wo/\∀H' T' A',d7 s H H' T T'->WJ X H' T' s A' (pU M)->A'.wo=wo/\A'.sw=A.sw->Q .non H'
section
variable {X:Cs}{H H':Hp}{T T':Tg}{s:Nat}{A:Wa}{M:Wm}
theorem WJ.Zrv(j:WJ X H T s A M)(w:WT H T)(h0:s≠0){dx l:AH}(S:Sw)(hl:H l=none)(e9:S.grey=[]):
  d7 s H (upd (upd H l (.lst [])) A.sw (.ins X.S dx (cH S.sense S.phase l S.looked S.turn S.at' S.stop S.walks S.looks S.passes S.loss))) T (dz T l (s,8))/\
  WJ X (upd (upd H l (.lst [])) A.sw (.ins X.S dx (cH S.sense S.phase l S.looked S.turn S.at' S.stop S.walks S.looks S.passes S.loss))) (dz T l (s,8)) s { A with gr:=l } { M with sw:=S }:=by
 obtain⟨ts,tg,⟨dd,os⟩,og⟩:=id j.js;have nls:l≠A.sw:=(aD os hl).symm;have w1:WT (upd H l (.lst [])) (dz T l (s,8)):=Zeh (w.same (aL hl _)) aq;have st1:d7 s H (upd H l (.lst [])) T (dz T l (s,8)):=⟨λb o h _=>(aL hl _) _ _ h,λb o h=>⟨o,(aL hl _) _ _ h⟩,λb o h=>fc (aD h hl),w1⟩;have j1:WJ X (upd H l (.lst [])) (dz T l (s,8)) s A M:=j.fresh hl;obtain⟨ts1,tg1,⟨dd1,os1⟩,og1⟩:=id j1.js;refine⟨st1.trans (d7.upd w1 os1 (by rw[ts1])),?_⟩;have f:yx s (·=7) (upd H l (.lst [])) (upd (upd H l (.lst [])) A.sw (.ins X.S dx (cH S.sense S.phase l S.looked S.turn S.at' S.stop S.walks S.looks S.passes S.loss))) (dz T l (s,8)) (dz T l (s,8)):=yx.CZ ts1;have b1:=j1.jb.mv f (pR h0 ts1) δ δ;have b2:=j1.jh.mv f δ δ;have b3:=j1.jn.mv f (pR h0 ts1) δ;have b5:=j1.jd.mv f λ_ _ _=>δ
 have b6:=j1.jc.mv f λ_ _=>δ
 obtain⟨x1,x2,x3,x4,x5,x6,x7,x8⟩:=b1;obtain⟨y1,y2,y3,y4⟩:=b2;obtain⟨z1,z2,z3⟩:=b3;exact⟨⟨x1,x2,x3,x4,x5,x6,x7,x8⟩,⟨y1,y2,y3,y4⟩,⟨z1,z2,z3⟩,⟨ts1,gU,⟨dx,aq⟩,by rw[aB nls,aq,e9];rfl⟩,b5,b6⟩
end
section
variable {K:aC}{X:Cs}{H:Hp}{Q:VK}{E:XK}{n:ν}{bk ct:ν}
theorem Zu6{j:Int}(h0:0<=j)(h1:j<=1000):Zbd 1 j:=⟨h0,δ,ε⟩
theorem Zli{h:Int}(q:0<=h/\h<=30/\Q (.int (2 ^ h.toNat - 1)) H):Km ξ [some (.int h)] H:=by
 obtain⟨h0,h1,q⟩:=q;unfold Km;exists _,_,rfl,rfl,Zu6 h0 δ;ext;rw[Int.one_mul];exact q
theorem Em{a:AH}{h:Int}(q:0<=h/\h<=30/\Q (.int (if (1:Nat)=0 then 2 ^ h.toNat - 1 else 0)) H):oY ξ [↑a,some (.int h)] H:=by
 unfold oY;apply q.2.2
theorem JF{a:AH}{h:Int}(q:0<=h/\h<=30/\Q (.int (if (0:Nat)=0 then 2 ^ h.toNat - 1 else 0)) H):qm vK ξ [↑a,some (.int h)] H:=by
 obtain⟨h0,h1,q⟩:=q;unfold qm;apply⟨h,rfl,h0,h1,q⟩
theorem Zpr{wo:AH}(Tx:rY K X)(q:∃T s A M,WT H T/\s≠0/\WJ X H T s A M/\A.wo=wo/\∀H' T' A',d7 s H H' T T'->WJ X H' T' s A' (pU M)->A'.wo=wo/\A'.sw=A.sw->Q .non H'):
  QJ K X.E X.F X.L (oF 0) (oF 1) ⟨λ_ H'=>Q .non H',Q,bk,ct⟩ [↑wo,none] H:=by
 obtain⟨T,s,A,M,w,h0,j,rfl,q⟩:=q;obtain⟨dw,ow⟩:=j.jb.ow;obtain⟨ds,os⟩:=j.js.os;obtain⟨dk,ok⟩:=j.jb.ok;obtain⟨dl,ol⟩:=j.jb.ol;have on:=j.jb.on;have lh:=j.jd.lh;have l5:=j.jd.l5;unfold QJ;apply aH ow Tx.cW Tx.Ro bA ?_;apply aH os Tx.cS Tx.n1 pA ?_;apply⟨A.sw,X.S,ds,_,rfl,os,Tx.cS,Tx.n1,by show 11<1000;decide,?_⟩;rw[JP];apply aH aq Tx.cS Tx.n5 uL ?_;apply⟨A.sw,X.S,ds,_,rfl,aq,Tx.cS,Tx.n5,by show 11<1000;decide,?_⟩;rw[NZ,eZ];apply⟨A.sw,X.S,ds,_,rfl,aq,Tx.cS,Tx.n2,by show 11<1000;decide,?_⟩;rw[oH,eZ];apply⟨ε,λgr hgr=>?_⟩;have nsg:A.sw≠gr:=aD aq hgr;have Zos:H gr=none:=by rw[aB nsg.symm]at hgr;exact hgr
 apply⟨A.sw,X.S,ds,_,rfl,by rw[aB nsg];exact aq,Tx.cS,Tx.n3,by show 11<1000;decide,?_⟩;rw[N7];have sw2:∀(a b:HO) (o:HO),upd (upd (upd H A.sw a) gr o) A.sw b=upd (upd H gr o) A.sw b:=λa b o=>by
  funext x
  by_cases z:x=A.sw
  ·rw[z,aq,aq]
  ·rw[aB z,aB z]
   by_cases y:x=gr
   ·rw[y,aq,aq]
   ·rw[aB y,aB y,aB z]
 rw[sw2];have fin:∀{lo:Int}{σ:St},σ=[↑A.wo,↑A.sw]->lo=jz M.w M.hands.length->∀(H3:Hp),H3=upd (upd H gr (.lst [])) A.sw (.ins X.S ds (cH (1 - M.sw.sense) "walk" gr M.sw.looked (M.sw.turn+1) M.sw.at' M.sw.stop M.sw.walks M.sw.looks M.sw.passes M.sw.loss))->
   (∃a C dx fs,V.ref A.sw=.ref a/\H3 a=some (.ins C dx fs)/\Fl K C/\bL K C "looked"/\fs.length<1000/\(aN (iw K ω τ "walks") (aN (iw K ω τ "looks") (iw K ω τ "passes"))) ⟨λ_ H'=>Q .non H',Q,bk,ct⟩ σ (upd H3 a (.ins C dx (cI "looked" (.int lo) fs)))):=by
  rintro lo σ rfl elo H3 rfl;refine⟨A.sw,X.S,ds,_,rfl,aq,Tx.cS,Tx.n4,by show 11<1000;decide,?_⟩;rw[vY,eZ];apply⟨A.sw,X.S,ds,_,rfl,aq,Tx.cS,Tx.n8,by show 11<1000;decide,?_⟩;rw[yz,eZ];apply⟨A.sw,X.S,ds,_,rfl,aq,Tx.cS,Tx.n9,by show 11<1000;decide,?_⟩;rw[qW,eZ];apply⟨A.sw,X.S,ds,_,rfl,aq,Tx.cS,Tx.n10,by show 11<1000;decide,?_⟩;rw[vX,eZ];obtain⟨st,j'⟩:=j.Zrv w h0 (dx:=ds) (l:=gr) { M.sw with sense:=1 - M.sw.sense,phase:="walk",grey:=[],looked:=jz M.w M.hands.length,turn:=M.sw.turn+1,walks:=0,looks:=0,passes:=0 } Zos rfl;subst elo;exact q _ _ _ st j' ⟨rfl,rfl⟩
 have kp:∀b o,H b=some o->b≠A.sw->upd (upd H gr (.lst [])) A.sw (.ins X.S ds (cH (1 - M.sw.sense) "walk" gr M.sw.looked (M.sw.turn+1) M.sw.at' M.sw.stop M.sw.walks M.sw.looks M.sw.passes M.sw.loss)) b=some o:=λb o hb nb=>by
  rw[aB nb,aB (aD hb Zos)];exact hb
 have dS:∀{a:AH}{C d:AH}{fs:List (Str×V)},H a=some (.ins C d fs)->fs.length<11->a≠A.sw:=λe hl z=>by
  rw[z,os]at e;have:=Option.some.inj e
  injection this with _ _ e3
  rw[<- e3]at hl;exact absurd hl (by show ¬ 11<11;decide)
 have ow3:=kp _ _ ow (dS ow (by show 5<11;decide));have ok3:=kp _ _ ok (dS ok (by show 2<11;decide));have on3:=kp _ _ on (qG on os (λz=>by cases z));generalize hH3:upd (upd H gr (.lst [])) A.sw (.ins X.S ds (cH (1 - M.sw.sense) "walk" gr M.sw.looked (M.sw.turn+1) M.sw.at' M.sw.stop M.sw.walks M.sw.looks M.sw.passes M.sw.loss))=H3 at kp ow3 ok3 on3 ⊢;have Zcs:((A.hs.map λp=>V.ref p.1).length:Int)=(M.hands.length:Int):=by rw[bx,lh]
 refine vo ?_;left;rcases ol with ⟨ew,o⟩ | ⟨ew,o⟩ | ⟨ew,o⟩
 ·have o3:=kp _ _ o (dS o (by show 0<11;decide));refine W0 ?_;left;refine aH ow3 Tx.cW Tx.nWk lU ?_;refine aH ok3 Tx.cK Tx.nKl oN ?_;left;refine⟨A.lk,dl,_,rfl,o3,rfl,?_⟩;left;refine aH ow3 Tx.cW Tx.nWd eY ?_;left;refine fK (cC.of on3) ?_;rw[Zcs];left;refine⟨A.lk,_,rfl,δ,δ,?_⟩;left;exact fin rfl (by unfold jz;rw[if_pos ew,if_pos rfl,Int.toNat_natCast]) _ hH3.symm
 ·have o3:=kp _ _ o (dS o (by show 0<11;decide));refine Jg (W0 ?_);left;refine aH ow3 Tx.cW Tx.nWk lU ?_;refine aH ok3 Tx.cK Tx.nKl oN ?_;left;refine⟨A.lk,dl,_,rfl,o3,rfl,?_⟩;left;refine aH ow3 Tx.cW Tx.nWd eY ?_;left;refine fK (cC.of on3) ?_;rw[Zcs];left;refine⟨A.lk,_,rfl,δ,δ,?_⟩;left;exact fin rfl (by unfold jz;rw[if_neg (show ¬ (1:Nat)=0 by decide),if_neg δ]) _ hH3.symm
 ·have o3:=kp _ _ o (dS o (by show 0<11;decide));refine Jg (Jg ?_);left;refine aH ow3 Tx.cW Tx.nWk lU ?_;refine aH ok3 Tx.cK Tx.nKl oN ?_;left;refine⟨A.lk,dl,_,rfl,o3,rfl,?_⟩;left;refine aH ow3 Tx.cW Tx.nWd eY ?_;left;refine fK (cC.of on3) ?_;rw[Zcs];left;refine⟨A.lk,_,rfl,δ,δ,?_⟩;left;exact fin rfl (by unfold jz;rw[if_neg (show ¬ (1:Nat)=0 by decide),if_neg δ]) _ hH3.symm
end
def PX(M:Wm):Bool:=decide (M.sw.phase="walk"\/M.sw.phase="lost")
def QD(M:Wm)(p b:Int):AA:=if tD M p b=true then none else match cellAt M p with
 | none=>none
 | some c=>if PX M=true/\¬ c.tone=M.sw.sense then none else some p
def uD(X:Cs):Sp:=λvs H Q E=>∃wo,vs=[.ref wo]/\∃T s A M,WJ0 X H T s A M/\A.wo=wo/\∀H',bz H H'->Q (.bl (PX M)) H'
def DW(X:Cs):Sp:=λvs H Q E=>∃wo p b,vs=[.ref wo,.int p,.int b]/\∃T s A M,WJ0 X H T s A M/\A.wo=wo/\∀H',bz H H'->Q (oV (QD M p b)) H'
section
variable {K:aC}{X:Cs}{H:Hp}{Q:VK}{E:XK}{n:ν}{bk ct:ν}
theorem U6{wo:AH}(T:rY K X)(q:∃T s A M,WJ0 X H T s A M/\A.wo=wo/\∀H',bz H H'->Q (.bl (PX M)) H'):xF K ξ [↑wo] H:=by
 obtain⟨Tg,s,A,M,j,rfl,q⟩:=q;obtain⟨d1,ow⟩:=j.jb.ow;obtain⟨d2,os⟩:=j.js.os;unfold xF;apply aH ow T.cW T.Ro bA ?_;apply aH os T.cS T.n2 jA ?_;apply⟨aU ζ,λtp Te=>?_⟩;generalize zz:upd H tp _=H1;obtain⟨s1,g1⟩:=nwO Te zz;refine⟨tp,_,rfl,.inr (fM.of g1),rfl,rfl,?_⟩;have q:=q H1 s1;rw[show PX M=(if false=true then !inV (V.str M.sw.phase) [V.str "walk",.str "lost"]else inV (V.str M.sw.phase) [V.str "walk",.str "lost"])from by
  rw[if_neg Bool.false_ne_true];unfold PX inV
  by_cases h1:M.sw.phase="walk"
  ·simp[h1,eqV]
  ·by_cases h2:M.sw.phase="lost"
   ·simp[h2,eqV]
   ·have e1:¬ ("walk":Str)=M.sw.phase:=λz=>h1 z.symm;have e2:¬ ("lost":Str)=M.sw.phase:=λz=>h2 z.symm;simp[h1,h2,e1,e2,eqV]]at q
 exact q
theorem Zfl{wo:AH}{p b:Int}(T:rY K X)(q:∃T s A M,WJ0 X H T s A M/\A.wo=wo/\∀H',bz H H'->Q (oV (QD M p b)) H'):FJ K (Gv X) (di X) (uD X) ξ [↑wo,some (.int p),some (.int b)] H:=by
 obtain⟨Tg,s,A,M,j,rfl,q⟩:=q;unfold FJ;exists _,_,_,rfl,Tg,s,A,M,j,rfl;have hgo:∀c,cellAt M p=some c->tD M p b=false->QD M p b=if PX M=true/\¬ c.tone=M.sw.sense then none else some p:=λc hc hg=>by
  unfold QD;rw[hg,if_neg Bool.false_ne_true,hc]
 cases hg:tD M p b with
 | true=>
  ext;have:=q H (bz.refl _);rw[show QD M p b=none from if_pos hg]at this;exact this
 | false=>
  apply⟨_,rfl,Tg,s,A,M,j,rfl,λH1 s1=>?_⟩;obtain⟨c,hc⟩:∃c,cellAt M p=some c:=by
   cases e:cellAt M p with
   | none=>
    have:tD M p b=true:=by unfold tD;rw[e]
    rw[this]at hg;cases hg
   | some c=>exact⟨c,rfl⟩
  have q:=q H1 s1;rw[hgo c hc hg]at q;have j1:=j.same s1;cases hw:PX M with
  | false=>
   ext;rw[if_neg (λz=>by rw[hw]at z;cases z.1)]at q;exact q
  | true=>
   ext;obtain⟨d1,ow⟩:=j1.jb.ow;obtain⟨dh,oh⟩:=j1.jh.oh;rcases j1.look (some p)with ⟨e1,_⟩ | ⟨i,c',pp,ei,h0,ec,hci,hp,_,ce⟩
   ·have e1:cellAt M p=none:=e1;rw[hc]at e1;cases e1
   cases ei;rw[hc]at ec;cases ec;refine aH ow T.cW T.M6 bF ?_;apply aH oh T.c.cP T.c.bT cA ?_;apply lX (cC.of j1.jh.oc) (uC (v:=.ref pp.1) h0 (by rw[dj,hp];rfl)) ?_;exists _,_,rfl,Tg,s,A,M,_,pp,c,j1,rfl,ce,rfl;ext
   by_cases ht:c.tone=M.sw.sense
   ·rw[if_neg (λz=>z.2 ht)]at q;refine Gn (λz=>absurd ht z) (λ_=>?_);apply q
   ·rw[if_pos ⟨hw,ht⟩]at q;refine Gn (λ_=>?_) (λz=>absurd z ht);apply q
end
def uR(M:Wm):Au:=M.names.map λm=>QD M m.2.1 m.2.2
def jx(M:Wm):List Au:=heldOf M++[uR M]
def Pu(X:Cs):Sp:=λvs H Q E=>∃wo,vs=[.ref wo]/\∃T s A M,s≠0/\WJ X H T s A M/\A.wo=wo/\M.hands.length<=1000/\M.names.length<=1000/\∀(l:AH) (ls:AE) H',bz H H'->H l=none->H' l=some (.lst (ls.map V.ref))->ls.length=(jx M).length->(∀r∈ls,H r=none)->l∉ls->(∀(j:Nat) r x,ls[j]? =some r->(jx M)[j]? =some x->H' r=some (.lst (x.map oV)))->Q (.ref l) H'
section
variable {K:aC}{X:Cs}{H:Hp}{Q:VK}{E:XK}{n:ν}{bk ct:ν}
theorem Zy6{T:Tg}{ns:AE}{names:List (Str×(Int×Int))}(h:Al (NmO H T) ns names):∀{i:Nat}{kv:L2.Key×V},(Bj names ns)[i]? =some kv->∃t m,names[i]? =some m/\kv.2=.ref t/\H t=some (.tup [.int m.2.1,.int m.2.2])/\T t=(0,0):=by
 induction h with
 | nil=>intro i kv e;simp[Bj]at e
 | cons h0 h ih=>
  intro i kv e;cases i with
  | zero=>cases e;exact⟨_,_,rfl,rfl,h0.2,h0.1⟩
  | succ i=>exact ih (i:=i) (kv:=kv) (by simpa[Bj]using e)
theorem Zmb{wo:AH}(T:rY K X)(q:∃T s A M,s≠0/\WJ X H T s A M/\A.wo=wo/\M.hands.length<=1000/\M.names.length<=1000/\∀(l:AH) (ls:AE) H',bz H H'->H l=none->H' l=some (.lst (ls.map V.ref))->ls.length=(jx M).length->(∀r∈ls,H r=none)->l∉ls->(∀(j:Nat) r x,ls[j]? =some r->(jx M)[j]? =some x->H' r=some (.lst (x.map oV)))->Q (.ref l) H'):
  QH K (Zay X) (DW X) H ξ [↑wo] H:=by
 obtain⟨Tg,s,A,M,h0,j,rfl,hh,hn,q⟩:=q;unfold QH;apply⟨_,rfl,Tg,s,A,M,j,rfl,hh,λl1 ls1 H1 s1 nl1 ol1 hl1 nd1 nn1 ZIk g1=>?_⟩;have j1:=j.same s1;obtain⟨dw,ow⟩:=j1.jb.ow;have om:=j1.jn.om;apply aH ow T.cW T.nWn m6 ?_;refine⟨_,_,rfl,.inl om,λvv nvv=>?_⟩;generalize zz:upd H1 vv _=H2;obtain⟨s2,g2⟩:=nwO nvv zz;have j2:=j1.same s2;have om2:=j2.jn.om;refine⟨_,_,_,rfl,g2,om2,λo=>?_⟩;have lnm:(Bj M.names A.ns).length=M.names.length:=Zne j2.jn.nms;have w3:=j2.names (o:=.yU o (.dK (Bj M.names A.ns))) h0;have Zru:∀b u,H2 b=some u->b≠A.nm->upd H2 A.nm (.yU o (.dK (Bj M.names A.ns))) b=some u:=λb u hb nb=>by rw[aB nb];exact hb
 have g3:upd H2 A.nm (.yU o (.dK (Bj M.names A.ns))) A.nm=some (.yU o (.dK (Bj M.names A.ns))):=aq;generalize upd H2 A.nm (.yU o (.dK (Bj M.names A.ns)))=H3 at w3 Zru g3 ⊢;have nmn:∀t xs,H2 t=some (.tup xs)->t≠A.nm:=λt xs z=>qG z om2 (λy=>by cases y);refine Zik ?_;refine Zo7 M.names.length δ (λi y _=>∃m,M.names[i]? =some m/\y=oV (QD M m.2.1 m.2.2)) (λ_ _ _ _ h _=>h) (λH' s=>⟨s _ _ g3,δ⟩) (λi H' hi s=>⟨s _ _ g3,δ⟩) (λi x H4 H5 hi s4 y=>?_) ?_
 ·obtain⟨rfl,kv,ekv,rfl⟩:=y;obtain⟨t,m,em,et,ot,tt⟩:=Zy6 j2.jn.nms ekv;refine⟨rfl,λq hq=>Gp hq,λq hq=>?_⟩;have ot4:=s4 _ _ (Zru _ _ ot (nmn _ _ ot));refine⟨t,_,_,_,by rw[et],fM.of ot4,?_⟩;walk_at"c";apply⟨_,_,_,rfl,Tg,s,A,M,w3.same s4,rfl,λH6 s6=>hq _ _ s6 ⟨m,em,rfl⟩⟩
 ·intro ys H4 s4 ly hy p np;have ey:ys=(uR M).map oV:=by
   refine List.ext_getElem? λi=>?_
   by_cases hi:i<ys.length
   ·obtain⟨m,e1,e2⟩:=hy i ys[i] (bM hi);rw[bM hi,e2];unfold uR;rw[dj,dj,e1];rfl
   ·rw[List.getElem?_eq_none δ,List.getElem?_eq_none];unfold uR;rw[bx,bx];omega
  subst ey;have g5:=s4 _ _ g3;have npn:p≠A.nm:=λz=>by rw[z,g5]at np;cases np
  refine⟨A.nm,o,_,by rw[aB npn.symm];exact g5,(λo' u z=>by rw[j.jn.om]at z;cases z),?_⟩;generalize hH5:upd (upd H4 p (.lst ((uR M).map oV))) A.nm (.dK (Bj M.names A.ns))=H5;have s25:bz H2 H5:=λb u hb=>by
   rw[<- hH5]
   by_cases z:b=A.nm
   ·subst z;rw[aq];rw[om2]at hb;exact hb
   ·have h3:=Zru b u hb z;rw[aB z,aB (aD (s4 _ _ h3) np)];exact s4 _ _ h3
  have np2:H2 p=none:=by
   cases z:H2 p with
   | none=>rfl
   | some u=>
    have:=s4 _ _ (Zru p u z npn);rw[np]at this;cases this
  have op5:H5 p=some (.lst ((uR M).map oV)):=by rw[<- hH5,aB npn];exact aq
  clear hH5;have s05:=s1.trans (s2.trans s25);have s15:=s2.trans s25;apply⟨aU ζ,λl2 UG=>?_⟩;generalize zz:upd H5 l2 _=H6;obtain⟨s6,g6⟩:=nwO UG zz;refine⟨l1,l2,_,_,rfl,rfl,s6 _ _ (s15 _ _ ol1),g6,?_,λl3 nl3=>?_⟩
  ·rw[bx];have:(heldOf M).length=M.hands.length:=by unfold heldOf;rw[bx]
   exact aU (by simp;omega)
  have s7:=aL nl3 (.lst (ls1.map V.ref++[.ref p]));have s07:=s05.trans (s6.trans s7);have e7:ls1.map V.ref++[V.ref p]=(ls1++[p]).map V.ref:=by rw[List.map_append];rfl
  rw[e7]at s7 s07 ⊢;have fp:H p=none:=s1.free (s2.free np2);refine q l3 (ls1++[p]) _ s07 (s05.free (s6.free nl3)) aq ?_ (λr hr=>?_) (λhr=>?_) λk r x e1 e2=>?_
  ·unfold jx;rw[List.length_append,List.length_append,hl1];rfl
  ·rcases List.mem_append.mp hr with hr | hr
   ·exact nn1 r hr
   ·rw[List.mem_singleton.mp hr];exact fp
  ·rcases List.mem_append.mp hr with hr | hr
   ·obtain⟨k,hk,e⟩:=List.getElem_of_mem hr;have:=g1 k l3 (heldOf M)[k] (by rw[bM hk,e]) (bM δ);rw[s6 _ _ (s15 _ _ this)]at nl3;cases nl3
   ·rw[List.mem_singleton.mp hr,s6 _ _ op5]at nl3;cases nl3
  ·unfold jx at e2
   by_cases hk:k<ls1.length
   ·rw[List.getElem?_append_left hk]at e1;rw[List.getElem?_append_left δ]at e2;exact s7 _ _ (s6 _ _ (s15 _ _ (g1 k r x e1 e2)))
   ·have hk2:=(fH e1).1;rw[List.length_append,List.length_singleton]at hk2;have ek:k=ls1.length:=δ
    rw[List.getElem?_append_right δ]at e1 e2;rw[ek,Nat.sub_self]at e1;rw[ek,hl1,Nat.sub_self]at e2;cases e1;cases e2;exact s7 _ _ (s6 _ _ op5)
end
namespace KB
abbrev Fd:=List (Option Au)
def fat(F:Fd)(p:Int):Option Au:=if 0<=p then(F[p.toNat]?).join else none
def nxt(F:Fd)(pl:AA)(f:Int):AA:=match pl with
 | none=>none
 | some p=>match fat F p with
  | none=>none
  | some fl=>if 0<=f then(fl[f.toNat]?).join else none
abbrev Rw:=List Au
def slt(R:Rw)(r s:Int):AA:=((R[r.toNat]?).bind λx=>x[s.toNat]?).join
def Zc3(F:Fd)(w:AD)(x:AA×Nat):Option (Int×AD):=match x.1 with
 | none=>none
 | some q=>if (fat F q).isSome then some (q,w++[(x.2:Int)])else none
def onw(F:Fd)(w:AD)(n:Nat)(ps:Au):List (Int×AD):=(ps.zipIdx n).filterMap (Zc3 F w)
def q0(F:Fd)(n:Nat)(R:Rw):List (Int×AD):=(R.zipIdx n).flatMap λx=>onw F [(x.2:Int)] 0 x.1
structure Good(F:Fd)(R:Rw)(p:Int)(w:AD):Prop where
 ex:∃r s fs row,w=r::s::fs/\0<=r/\0<=s/\R[r.toNat]? =some row/\s.toNat<row.length/\(∀f∈fs,0<=f)/\fs.foldl (nxt F) (slt R r s)=some p
 there:(fat F p).isSome=true
theorem Pa{F:Fd}{w:AD}{n:Nat}{ps:Au}{q:Int}{v:AD}(h:(q,v)∈onw F w n ps):∃k,ps[k]? =some (some q)/\v=w++[((n+k:Nat):Int)]/\(fat F q).isSome=true:=by
 obtain⟨⟨x,m⟩,hm,e⟩:=List.mem_filterMap.mp h;obtain⟨hk1,hk2⟩:=List.mem_zipIdx_iff_le_and_getElem?_sub.mp hm;unfold Zc3 at e;cases x with
 | none=>cases e
 | some q'=>
  simp only at e;split at e
  ·rename_i hs
   cases e;refine⟨m - n,hk2,?_,hs⟩;have:n+(m - n)=m:=by have:=hk1;simp only at this;omega
   rw[this]
  ·cases e
theorem Zox{F:Fd}{R:Rw}{p q:Int}{w v:AD}{fl:Au}(g:Good F R p w)(hf:fat F p=some fl)(h:(q,v)∈onw F w 0 fl):Good F R q v:=by
 obtain⟨k,hk,rfl,hs⟩:=Pa h;obtain⟨⟨r,s,fs,row,rfl,h1,h2,h3,h4,h5,h6⟩,_⟩:=g;refine⟨⟨r,s,fs++[((0+k:Nat):Int)],row,rfl,h1,h2,h3,h4,λf hf=>?_,?_⟩,hs⟩
 ·rcases List.mem_append.mp hf with z | z
  ·exact h5 f z
  ·have:f=((0+k:Nat):Int):=by simpa using z
   omega
 ·rw[List.foldl_append,h6];show nxt F (some p) _=some q;unfold nxt;simp only[hf];rw[if_pos δ];have:(((0+k:Nat):Int)).toNat=k:=δ
  rw[this,hk];rfl
theorem Zsw{F:Fd}{R:Rw}{q:Int}{v:AD}(h:(q,v)∈q0 F 0 R):Good F R q v:=by
 obtain⟨⟨row,n⟩,hm,h⟩:=List.mem_flatMap.mp h;have hr:R[n]? =some row:=List.mem_zipIdx_iff_getElem?.mp hm;obtain⟨k,hk,rfl,hs⟩:=Pa h;refine⟨⟨(n:Int),((0+k:Nat):Int),[],row,rfl,δ,δ,by simpa using hr,?_,(λf hf=>by cases hf),?_⟩,hs⟩
 ·have:k<row.length:=(fH hk).1;omega
 ·show slt R _ _=some q;unfold slt;have e1:((n:Int)).toNat=n:=δ
  have e2:(((0+k:Nat):Int)).toNat=k:=δ
  rw[e1,e2,hr];simp only[Option.bind_some,hk,Option.join_some]
inductive Td(F:Fd)(R:Rw):List (Int×AD)->Nat->List (Int×AD)->Prop
 | start:Td F R (q0 F 0 R) 0 []
 | old {q k l p w}:Td F R q k l->q[k]? =some (p,w)->p∈l.map (·.1)->Td F R q (k+1) l
 | new {q k l p w fl}:Td F R q k l->q[k]? =some (p,w)->p∉l.map (·.1)->fat F p=some fl->Td F R (q++onw F w 0 fl) (k+1) (l++[(p,w)])
theorem Td.good{F:Fd}{R:Rw}{q l:List (Int×AD)}{k:Nat}(b:Td F R q k l):(∀x∈q,Good F R x.1 x.2)/\∀x∈l,Good F R x.1 x.2:=by
 induction b with
 | start=>exact⟨λx hx=>Zsw hx,λx hx=>nomatch hx⟩
 | old _ _ _ ih=>exact ih
 | new b hq hn hf ih=>
  have g:=ih.1 _ (List.mem_of_getElem? hq);refine⟨λx hx=>?_,λx hx=>?_⟩
  ·rcases List.mem_append.mp hx with z | z
   ·exact ih.1 x z
   ·exact Zox g hf z
  ·rcases List.mem_append.mp hx with z | z
   ·exact ih.2 x z
   ·have z':=List.mem_singleton.mp z;rw[z'];exact g
def wgt:Option Au->Nat
 | none=>0
 | some fl=>fl.length
def Zel(F:Fd)(l:List (Int×AD)):Nat:=((F.zipIdx).map λx=>if (x.2:Int)∈l.map (·.1)then 0 else wgt x.1).sum
theorem Zm1{α:Type}(f g:α->Nat):∀(xs:List α),(∀x∈xs,g x<=f x)->(xs.map g).sum<=(xs.map f).sum
 | [],_=>Nat.le_refl _
 | x::xs,h=>by
  have h1:=h x ζ;have h2:=Zm1 f g xs λy hy=>h y (by simp[hy]);simp only[List.map_cons,List.sum_cons];omega
theorem Zbf{α:Type}(f g:α->Nat)(d:Nat):∀(xs:List α) (a:α),a∈xs->(∀x∈xs,g x<=f x)->g a+d<=f a->(xs.map g).sum+d<=(xs.map f).sum
 | [],_,h,_,_=>nomatch h
 | x::xs,a,ha,h,hd=>by
  have h1:=h x ζ;have h2:=Zm1 f g xs λy hy=>h y (by simp[hy]);simp only[List.map_cons,List.sum_cons];rcases List.mem_cons.mp ha with z | z
  ·subst z;omega
  ·have h3:=Zbf f g d xs a z (λy hy=>h y (by simp[hy])) hd;omega
theorem O6{F:Fd}{w:AD}{n:Nat}{ps:Au}:(onw F w n ps).length<=ps.length:=by
 unfold onw;have:=List.length_filterMap_le (Zc3 F w) (ps.zipIdx n);rw[List.length_zipIdx]at this;exact this
theorem Zls{F:Fd}{l:List (Int×AD)}{p:Int}{w:AD}{fl:Au}(hn:p∉l.map (·.1))(hf:fat F p=some fl):Zel F (l++[(p,w)])+fl.length<=Zel F l:=by
 unfold fat at hf;split at hf
 ·rename_i h0
  have hp:F[p.toNat]? =some (some fl):=by
   cases e:F[p.toNat]? with
   | none=>rw[e]at hf;cases hf
   | some x=>rw[e]at hf;simp only[Option.join_some]at hf;rw[hf]
  unfold Zel;refine Zbf _ _ fl.length _ (some fl,p.toNat) (List.mem_zipIdx_iff_getElem?.mpr hp) (λx _=>?_) ?_
  ·simp only[List.map_append,List.map_cons,List.map_nil,List.mem_append]
   by_cases h1:(x.2:Int)∈l.map (·.1)
   ·simp only[h1,true_or,↓reduceIte,Nat.le_refl]
   ·simp only[h1,false_or];split
    ·exact Nat.zero_le _
    ·exact Nat.le_refl _
  ·have e:((p.toNat:Nat):Int)=p:=δ
   simp only[List.map_append,List.map_cons,List.map_nil,List.mem_append,e];rw[if_pos (.inr ζ),if_neg hn];show 0+fl.length<=wgt (some fl);show 0+fl.length<=fl.length;omega
 ·cases hf
def total(F:Fd)(R:Rw):Nat:=(q0 F 0 R).length+Zel F []
theorem Td.bound{F:Fd}{R:Rw}{q l:List (Int×AD)}{k:Nat}(b:Td F R q k l):q.length+Zel F l<=total F R:=by
 induction b with
 | start=>exact Nat.le_refl _
 | old _ _ _ ih=>exact ih
 | new b hq hn hf ih=>
  have h2:=@O6 F;rw[List.length_append];refine Nat.le_trans ?_ ih
  rename_i w fl
  have h3:=h2 (w:=w) (n:=0) (ps:=fl);have h4:=Zls (w:=w) hn hf;omega
end KB
def Ztd(cs:List V)(i:Int):V:=if 0<=i then(cs[i.toNat]?).getD .non else .non
def CO(CC:AH)(H:Hp)(cs:List V)(i:Nat):Option Au->Prop
 | none=>cs[i]? =some .non
 | some fl=>∃p fa b u t l,cs[i]? =↑p/\yS CC H p fa b u t l (fl.map oV)
structure HV(CC CH:AH)(H:Hp)(hp:AH)(F:KB.Fd):Prop where
 ex:∃ca room used born cs,HpO CH H hp ca room used born cs/\cs.length=F.length/\∀(i:Nat) x,F[i]? =some x->CO CC H cs i x
theorem HpO.same{CH:AH}{H H':Hp}{hp ca:AH}{room used born:Int}{cs:List V}(h:HpO CH H hp ca room used born cs)(s:bz H H'):HpO CH H' hp ca room used born cs:=by
 obtain⟨⟨dx,h1⟩,h2⟩:=h;exact⟨⟨dx,s _ _ h1⟩,s _ _ h2⟩
theorem CO.same{CC:AH}{H H':Hp}{cs:List V}{i:Nat}{x:Option Au}(h:CO CC H cs i x)(s:bz H H'):CO CC H' cs i x:=by
 cases x with
 | none=>exact h
 | some fl=>
  obtain⟨p,fa,b,u,t,l,e,c⟩:=h;exact⟨p,fa,b,u,t,l,e,c.same s⟩
theorem HV.same{CC CH:AH}{H H':Hp}{hp:AH}{F:KB.Fd}(h:HV CC CH H hp F)(s:bz H H'):HV CC CH H' hp F:=by
 obtain⟨ca,room,used,born,cs,o,l,e⟩:=h;exact⟨ca,room,used,born,cs,o.same s,l,λi x hx=>(e i x hx).same s⟩
theorem Zpa{CC:AH}{H:Hp}{cs:List V}{F:KB.Fd}(hl:cs.length=F.length)(e:∀(i:Nat) x,F[i]? =some x->CO CC H cs i x)(i:Int):
  (KB.fat F i=none/\Ztd cs i=.non)\/∃fl p fa b u t l,KB.fat F i=some fl/\Ztd cs i=.ref p/\cs[i.toNat]? =↑p/\0<=i/\yS CC H p fa b u t l (fl.map oV):=by
 unfold KB.fat Ztd
 by_cases h0:0<=i
 ·simp only[h0,↓reduceIte];cases hf:F[i.toNat]? with
  | none=>
   have:cs[i.toNat]? =none:=by rw[List.getElem?_eq_none_iff]at hf ⊢;omega
   exact .inl ⟨rfl,by rw[this];rfl⟩
  | some x=>
   have c:=e _ _ hf;cases x with
   | none=>exact .inl ⟨rfl,by rw[show cs[i.toNat]? =some V.non from c];rfl⟩
   | some fl=>
    obtain⟨p,fa,b,u,t,l,e1,c1⟩:=c;exact .inr ⟨fl,p,fa,b,u,t,l,rfl,by rw[e1];rfl,e1,trivial,c1⟩
 ·simp only[h0,↓reduceIte];exact .inl ⟨trivial,trivial⟩
def GD(H:Hp):AE->List (Int×AD)->Prop
 | [],[]=>True
 | t::ts,x::qs=>(∃a,H t=some (.tup [.int x.1,.ref a])/\H a=some (.tup (x.2.map V.int)))/\GD H ts qs
 | _,_=>False
theorem GD.same{H H':Hp}(s:bz H H'):∀{ts:AE}{qs:List (Int×AD)},GD H ts qs->GD H' ts qs
 | [],[],_=>trivial
 | [],_::_,h=>h.elim
 | _::_,[],h=>h.elim
 | _::_,_::_,⟨⟨a,h1,h2⟩,h3⟩=>⟨⟨a,s _ _ h1,s _ _ h2⟩,GD.same s h3⟩
theorem GD.app{H:Hp}:∀{ts us:AE}{qs rs:List (Int×AD)},GD H ts qs->GD H us rs->GD H (ts++us) (qs++rs)
 | [],_,[],_,_,h=>h
 | [],_,_::_,_,h,_=>h.elim
 | _::_,_,[],_,h,_=>h.elim
 | _::_,_,_::_,_,⟨h1,h3⟩,h=>⟨h1,GD.app h3 h⟩
theorem GD.len{H:Hp}:∀{ts:AE}{qs:List (Int×AD)},GD H ts qs->ts.length=qs.length
 | [],[],_=>rfl
 | [],_::_,h=>h.elim
 | _::_,[],h=>h.elim
 | _::_,_::_,⟨_,h3⟩=>by rw[List.length_cons,List.length_cons,GD.len h3]
theorem GD.at{H:Hp}:∀{ts:AE}{qs:List (Int×AD)}{i:Nat}{x:Int×AD},GD H ts qs->qs[i]? =some x->∃t a,ts[i]? =some t/\H t=some (.tup [.int x.1,.ref a])/\H a=some (.tup (x.2.map V.int))
 | [],[],_,_,_,e=>by simp at e
 | [],_::_,_,_,h,_=>h.elim
 | _::_,[],_,_,h,_=>h.elim
 | t::_,_::_,0,_,⟨⟨a,h1,h2⟩,_⟩,e=>by cases e;exact⟨t,a,rfl,h1,h2⟩
 | _::_,_::_,i+1,_,⟨_,h3⟩,e=>GD.at (i:=i) h3 e
def Ds(K:aC)(CC CH:AH):Sp:=λvs H Q E=>∃hp a wt F ps w,vs=[.ref hp,.ref a,.ref wt]/\HV CC CH H hp F/\cC K H a (ps.map oV)/\fM K H wt (w.map V.int)/\w≠[]/\w.length<=100000/\ps.length<=1000/\
 ∀l ts H',H l=none->bz H H'->H' l=some (.lst (ts.map V.ref))->GD H' ts (KB.onw F w 0 ps)->Q (.ref l) H'
def Gw(K:aC)(H:Hp):AE->KB.Rw->Prop
 | [],[]=>True
 | a::as,r::R=>cC K H a (r.map oV)/\Gw K H as R
 | _,_=>False
theorem Gw.same{K:aC}{H H':Hp}(s:bz H H'):∀{as:AE}{R:KB.Rw},Gw K H as R->Gw K H' as R
 | [],[],_=>trivial
 | [],_::_,h=>h.elim
 | _::_,[],h=>h.elim
 | _::_,_::_,⟨h1,h3⟩=>⟨s.seq h1,Gw.same s h3⟩
theorem Gw.len{K:aC}{H:Hp}:∀{as:AE}{R:KB.Rw},Gw K H as R->as.length=R.length
 | [],[],_=>rfl
 | [],_::_,h=>h.elim
 | _::_,[],h=>h.elim
 | _::_,_::_,⟨_,h3⟩=>by rw[List.length_cons,List.length_cons,Gw.len h3]
theorem Gw.at{K:aC}{H:Hp}:∀{as:AE}{R:KB.Rw}{i:Nat}{a:AH},Gw K H as R->as[i]? =some a->∃r,R[i]? =some r/\cC K H a (r.map oV)
 | [],[],_,_,_,e=>by simp at e
 | [],_::_,_,_,h,_=>h.elim
 | _::_,[],_,_,h,_=>h.elim
 | _::_,r::_,0,_,⟨h1,_⟩,e=>by cases e;exact⟨r,rfl,h1⟩
 | _::_,_::_,i+1,_,⟨_,h3⟩,e=>Gw.at (i:=i) h3 e
structure Few(F:KB.Fd)(R:KB.Rw):Prop where
 f:F.length<=1000
 g:∀p fl,KB.fat F p=some fl->fl.length<=1000
 r:R.length<=1000
 s:∀x∈R,x.length<=1000
 t:KB.total F R<=90000
def DX(K:aC)(CC CH:AH):Sp:=λvs H Q E=>∃hp ra F rs R,vs=[.ref hp,.ref ra]/\HV CC CH H hp F/\cC K H ra (rs.map V.ref)/\Gw K H rs R/\Few F R/\
 ∀l ts q qs H',KB.Td F R q q.length qs->H l=none->bz H H'->H' l=some (.lst (ts.map V.ref))->GD H' ts qs->Q (.ref l) H'
theorem Zzf{CC CH hp:AH}{H:Hp}{Q:VK}{E:XK}{pl:AA}{F:KB.Fd}(v:HV CC CH H hp F)(q1:pl.bind (KB.fat F)=none->Q .non H)(q2:∀fl p fa b u t l,pl.bind (KB.fat F)=some fl->yS CC H p fa b u t l (fl.map oV)->Q (.ref p) H):d8 CH [.ref hp,oV pl] H Q E:=by
 obtain⟨ca,room,used,born,cs,o,hl,he⟩:=v;refine⟨hp,oV pl,rfl,yF pl,ca,room,used,born,cs,o,?_⟩;cases pl with
 | none=>exact q1 rfl
 | some i=>
  show Q (Ztd cs i) H;rcases Zpa hl he i with ⟨e1,e2⟩ | ⟨fl,p,fa,b,u,t,l,e1,e2,_,_,c⟩
  ·rw[e2];exact q1 e1
  ·rw[e2];exact q2 fl p fa b u t l e1 c
theorem Zc2(F:KB.Fd)(w:AD)(n:Nat)(ps:Au)(x:AA):KB.onw F w n (ps++[x])=KB.onw F w n ps++(KB.Zc3 F w (x,n+ps.length)).toList:=by
 unfold KB.onw;rw[List.zipIdx_append,List.filterMap_append];congr 1
theorem take_snoc{α:Type}{xs:List α}{i:Nat}{x:α}(h:xs[i]? =some x):xs.take (i+1)=xs.take i++[x]:=by
 rw[List.take_add_one,h];rfl
theorem lV{H:Hp}{a:AH}{o:HO}(h:H a=none):bz H (upd H a o):=λb u q=>by rw[aB (aD q h)];exact q
section
variable {K:aC}{bB aY bU:AH}{H:Hp}{Q:VK}{E:XK}{n:ν}{bk ct:ν}
theorem Zfy{hp a wt:AH}{F:KB.Fd}{ps:Au}{w:AD}(v:HV bB aY H hp F)(ha:cC K H a (ps.map oV))(hw:fM K H wt (w.map V.int))(hne:w≠[])(hwl:w.length<=100000)(hpl:ps.length<=1000)
  (Zup:∀{H':Hp},bz H H'->fM K H' wt (w.map V.int))
  (q:∀l ts H',H l=none->bz H H'->H' l=some (.lst (ts.map V.ref))->GD H' ts (KB.onw F w 0 ps)->Q (.ref l) H'):
  Dz K (d8 aY) ξ [↑hp,↑a,↑wt] H:=by
 unfold Dz;apply⟨a,rfl,⟨_,ha⟩,Zs2 ha (by rw[bx];omega) (λi ys H1=>bz H H1/\i<=ps.length/\∃ts,ys=ts.map V.ref/\GD H1 ts (KB.onw F w 0 (ps.take i))) ⟨bz.refl _,Nat.zero_le _,[],rfl,trivial⟩ ?_ ?_ ?_⟩
 ·rintro i ys H1 ⟨sm,hi,ts,rfl,qa⟩;refine⟨sm,?_⟩;rw[bx,qa.len];refine Nat.le_trans KB.O6 ?_;rw[List.length_take];omega
 ·rintro i x ys H1 t C hC hx ⟨sm,hi,ts,rfl,qa⟩ ht;walk_at"c";rw[dj]at hx;obtain⟨y,hy,rfl⟩:=Option.map_eq_some_iff.mp hx;have hil:i<ps.length:=(fH hy).1;have hn0:0+(ps.take i).length=i:=by rw[List.length_take];omega
  have s1:bz H1 (upd H1 t (.tup [.int i,oV y])):=lV ht;have sm1:=sm.trans s1;apply Zzf (v.same sm1) (λe=>?_) (λfl p fa b u t' l e c=>?_)
  ·refine Zgt ?_;apply Zsa (hC _ _ ⟨sm1,hil,ts,rfl,?_⟩);rw[take_snoc hy,Zc2,hn0];have e1:KB.Zc3 F w (y,i)=none:=by
    unfold KB.Zc3;cases y with
    | none=>rfl
    | some q'=>simp only;rw[show KB.fat F q'=none from e];rfl
   rw[e1];simp only[Option.toList_none,List.append_nil];exact qa.same s1
  ·refine Zgt ?_;apply Zgo ?_;obtain⟨q',rfl⟩:∃q',y=some q':=by
    cases y with
    | none=>cases e
    | some q'=>exact⟨q',rfl⟩
   have e':KB.fat F q'=some fl:=e;apply⟨(by show 1<=sizeLine;decide),λt2 ht2=>?_⟩;have s2:=s1.trans (lV (o:=.tup [.int i]) ht2);refine⟨wt,t2,w.map V.int,[.int i],rfl,rfl,Zup (sm.trans s2),fM.of aq,by simpa using hne,by rw[bx];exact aU (by simp only[List.length_cons,List.length_nil];omega),(λz=>nomatch z),(λ_ t3 ht3=>?_)⟩;have s3:=s2.trans (lV (o:=.tup (w.map V.int++[.int i])) ht3);apply⟨(by show 2<=sizeLine;decide),λt4 ht4=>?_⟩;have s4:=s3.trans (lV (o:=.tup [oV (some q'),.ref t3]) ht4);have n34:t3≠t4:=aD aq ht4;have h3:upd (upd (upd (upd H1 t (.tup [.int i,oV (some q')])) t2 (.tup [.int i])) t3 (.tup (w.map V.int++[.int i]))) t4 (.tup [oV (some q'),.ref t3]) t3=some (.tup (w.map V.int++[.int i])):=by
    rw[aB n34,aq]
   apply hC _ _ ⟨sm.trans s4,hil,ts++[t4],ζ,?_⟩;rw[take_snoc hy,Zc2,hn0];have e1:KB.Zc3 F w (some q',i)=some (q',w++[(i:Int)]):=by
    unfold KB.Zc3;simp only[e',Option.isSome_some,↓reduceIte]
   rw[e1];refine(qa.same s4).app ⟨⟨t3,aq,?_⟩,trivial⟩;rw[h3,List.map_append];rfl
 ·rintro ys H1 ⟨sm,_,ts,rfl,qa⟩ l hl;ext;rw[bx,List.take_length]at qa;exact q l ts _ (sm.free hl) (sm.trans (lV hl)) aq (qa.same (lV hl))
end
theorem Zup{K:aC}{H H':Hp}{a:AH}{xs:List V}(e:bz H H')(h:fM K H a xs):fM K H' a xs:=by
 rcases h with (h | ⟨o,h⟩) | h
 ·exact .inl (.inl (e _ _ h))
 ·exact .inl (.inr ⟨o,e _ _ h⟩)
 ·exact .inr h
def TK(H H':Hp):Prop:=∀b xs,H b=some (.tup xs)->H' b=some (.tup xs)
theorem TK.same{H H':Hp}(s:bz H H'):TK H H':=λb _ h=>s b _ h
theorem TK.upd{H:Hp}{a:AH}{o:HO}(h:∀xs,H a≠some (.tup xs)):TK H (L2.upd H a o):=λb xs q=>by
 have n:b≠a:=λz=>h xs (by rw[<- z];exact q);rw[aB n];exact q
theorem TK.trans{H H1 H2:Hp}(a:TK H H1)(b:TK H1 H2):TK H H2:=λc xs h=>b c xs (a c xs h)
theorem GD.tk{H H':Hp}(s:TK H H'):∀{ts:AE}{qs:List (Int×AD)},GD H ts qs->GD H' ts qs
 | [],[],_=>trivial
 | [],_::_,h=>h.elim
 | _::_,[],h=>h.elim
 | _::_,_::_,⟨⟨a,h1,h2⟩,h3⟩=>⟨⟨a,s _ _ h1,s _ _ h2⟩,GD.tk s h3⟩
def Xq(H:Hp):List (Key×V)->List (Int×AD)->Prop
 | [],[]=>True
 | kv::kvs,x::qs=>(kv.1=Sum.inl x.1/\∃a,kv.2=.ref a/\H a=some (.tup (x.2.map V.int)))/\Xq H kvs qs
 | _,_=>False
theorem Xq.tk{H H':Hp}(s:TK H H'):∀{kvs:List (Key×V)}{qs:List (Int×AD)},Xq H kvs qs->Xq H' kvs qs
 | [],[],_=>trivial
 | [],_::_,h=>h.elim
 | _::_,[],h=>h.elim
 | _::_,_::_,⟨⟨h0,a,h1,h2⟩,h3⟩=>⟨⟨h0,a,h1,s _ _ h2⟩,Xq.tk s h3⟩
theorem Xq.app{H:Hp}:∀{ks ls:List (Key×V)}{qs rs:List (Int×AD)},Xq H ks qs->Xq H ls rs->Xq H (ks++ls) (qs++rs)
 | [],_,[],_,_,h=>h
 | [],_,_::_,_,h,_=>h.elim
 | _::_,_,[],_,h,_=>h.elim
 | _::_,_,_::_,_,⟨h1,h3⟩,h=>⟨h1,Xq.app h3 h⟩
theorem Xq.len{H:Hp}:∀{ts:List (Key×V)}{qs:List (Int×AD)},Xq H ts qs->ts.length=qs.length
 | [],[],_=>rfl
 | [],_::_,h=>h.elim
 | _::_,[],h=>h.elim
 | _::_,_::_,⟨_,h3⟩=>by rw[List.length_cons,List.length_cons,Xq.len h3]
theorem Xq.val{H:Hp}(p:Int):∀{kvs:List (Key×V)}{qs:List (Int×AD)},Xq H kvs qs->(tL kvs (Sum.inl p)).isSome=decide (p∈qs.map (·.1))
 | [],[],_=>by simp[tL]
 | [],_::_,h=>h.elim
 | _::_,[],h=>h.elim
 | kv::kvs,x::qs,⟨⟨h0,_⟩,h3⟩=>by
  by_cases e:x.1=p
  ·rw[GJ (by rw[h0,e])];simp[e]
  ·rw[GK (by rw[h0];exact λz=>e (Sum.inl.inj z)),Xq.val p h3];simp only[List.map_cons,List.mem_cons];have e':¬ p=x.1:=λz=>e z.symm;simp only[e',false_or]
theorem Xq.prs{H:Hp}:∀{ts:AE}{kvs:List (Key×V)}{qs:List (Int×AD)},Xq H kvs qs->Ze3 H ts kvs->GD H ts qs
 | [],[],[],_,_=>trivial
 | _,[],_::_,h,_=>h.elim
 | _,_::_,[],h,_=>h.elim
 | [],_::_,_::_,_,h=>h.elim
 | _::_,[],[],_,h=>h.elim
 | t::ts,kv::kvs,x::qs,⟨⟨h0,a,h1,h2⟩,h3⟩,⟨p1,p2⟩=>⟨⟨a,by rw[p1,h0,h1];rfl,h2⟩,Xq.prs h3 p2⟩
theorem Zqr(F:KB.Fd)(R:KB.Rw)(i:Nat)(r:Au)(h:R[i]? =some r):KB.q0 F 0 (R.take (i+1))=KB.q0 F 0 (R.take i)++KB.onw F [(i:Int)] 0 r:=by
 unfold KB.q0;rw[take_snoc h,List.zipIdx_append,List.flatMap_append];have hl:(R.take i).length=i:=by
  have:=(fH h).1;rw[List.length_take];omega
 rw[hl];simp only[List.zipIdx_cons,List.zipIdx_nil,List.flatMap_cons,List.flatMap_nil,List.append_nil,Nat.zero_add]
structure RS(K:aC)(CC CH:AH)(H0 H:Hp)(ql d:AH)(F:KB.Fd)(R:KB.Rw)(q qs:List (Int×AD))(k:Nat):Prop where
 sm:bz H0 H
 nq:H0 ql=none
 b:KB.Td F R q k qs
 hk:k<=q.length
 oq:∃ts,H ql=some (.lst (ts.map V.ref))/\GD H ts q
 od:∃kvs,H d=some (.dK kvs)/\Xq H kvs qs
 nd:H0 d=none
theorem Zny{H:Hp}{a:AH}{xs:List V}{o:HO}(h:H a=some (.lst xs)):TK H (upd H a o):=TK.upd λys z=>by rw[h]at z;cases z
theorem Zzb{H:Hp}{a:AH}{xs:List (Key×V)}{o:HO}(h:H a=some (.dK xs)):TK H (upd H a o):=TK.upd λys z=>by rw[h]at z;cases z
theorem Qv{H0 H:Hp}{a:AH}{o:HO}(s:bz H0 H)(h:H0 a=none):bz H0 (upd H a o):=λb u q=>by rw[aB (aD q h)];exact s b u q
theorem Ztn{F:KB.Fd}{R:KB.Rw}{q l:List (Int×AD)}{k:Nat}(b:KB.Td F R q k l):l.length<=k:=by
 induction b with
 | start=>exact Nat.le_refl _
 | old _ _ _ ih=>omega
 | new _ _ _ _ ih=>rw[List.length_append];simp only[List.length_cons,List.length_nil];omega
theorem Zeg{F:KB.Fd}{R:KB.Rw}{q l:List (Int×AD)}{k:Nat}(b:KB.Td F R q k l):∀x∈q,x.2.length<=k+2:=by
 induction b with
 | start=>
  intro x hx;obtain⟨⟨row,n⟩,hm,h⟩:=List.mem_flatMap.mp hx;obtain⟨j,_,e,_⟩:=KB.Pa (q:=x.1) (v:=x.2) h;rw[e];simp
 | old _ _ _ ih=>intro x hx;have:=ih x hx;omega
 | new b hq _ _ ih=>
  intro x hx;rcases List.mem_append.mp hx with z | z
  ·have:=ih x z;omega
  ·obtain⟨j,_,e,_⟩:=KB.Pa (q:=x.1) (v:=x.2) z;have:=ih _ (List.mem_of_getElem? hq);rw[e,List.length_append];simp only[List.length_cons,List.length_nil];simp only at this;omega
theorem Zuw(F:KB.Fd):∀(R S:KB.Rw) (n:Nat),(KB.q0 F n R).length<=(KB.q0 F n (R++S)).length:=λR S n=>by
 unfold KB.q0;rw[List.zipIdx_append,List.flatMap_append,List.length_append];omega
theorem Zqq(F:KB.Fd)(R:KB.Rw)(i:Nat):(KB.q0 F 0 (R.take i)).length<=KB.total F R:=by
 have:=Zuw F (R.take i) (R.drop i) 0;rw[List.take_append_drop]at this;unfold KB.total;omega
section
variable {K:aC}{bB aY bU:AH}{H:Hp}{Q:VK}{E:XK}{n:ν}{bk ct:ν}
theorem Zbr{hp ra:AH}{F:KB.Fd}{rs:AE}{R:KB.Rw}{v2 v3 v4 v5 v6 v7 v8:Option V}(T:TxC K bB aY)(v:HV bB aY H hp F)(hr:cC K H ra (rs.map V.ref))(rw':Gw K H rs R)(fw:Few F R)
  (q:∀l ts q qs H',KB.Td F R q q.length qs->H l=none->bz H H'->H' l=some (.lst (ts.map V.ref))->GD H' ts qs->Q (.ref l) H'):
  zE K (Ds K bB aY) ξ [↑hp,↑ra,v2,v3,v4,v5,v6,v7,v8] H:=by
 have hrl:=rw'.len;have f1:=fw.r;unfold zE;apply⟨(by show 0<=sizeLine;decide),λql hql=>?_⟩;apply⟨ra,rfl,⟨_,(lV hql).seq hr⟩,Zz4 (rs.map V.ref) (λi σ Hx=>i<=rs.length/\bz H Hx/\(∃ts,Hx ql=some (.lst (ts.map V.ref))/\GD Hx ts (KB.q0 F 0 (R.take i)))/\∃x y,σ=[↑hp,↑ra,↑ql,x,y,v5,v6,v7,v8])
  ⟨Nat.zero_le _,lV hql,⟨[],aq,trivial⟩,_,_,rfl⟩ (λi σ Hx _ ⟨_,sm,_⟩=>sm.seq hr) ?_ ?_⟩
 ·rintro i x t σ Hx hx ⟨hi,sm,⟨ts,hts,qa⟩,y,z,rfl⟩ ht;rw[dj]at hx;obtain⟨r,er,rfl⟩:=Option.map_eq_some_iff.mp hx;obtain⟨row,eR,hrow⟩:=rw'.at er;have hil:i<rs.length:=(fH er).1;have s1:=lV (o:=.tup [.int i,.ref r]) ht;refine⟨t,_,rfl,fM.of aq,rfl,.int i,_,rfl,?_⟩;exists .ref r,_,rfl;exists rfl;exists .inl ⟨rfl,_,cC.of (s1 _ _ hts)⟩;apply⟨(by show 1<=sizeLine;decide),λt2 ht2=>?_⟩;have s2:=s1.trans (lV (o:=.tup [.int i]) ht2);apply⟨hp,r,t2,F,row,[(i:Int)],rfl,v.same (sm.trans s2),(sm.trans s2).seq hrow,fM.of aq,(λz=>nomatch z),(by show 1<=100000;decide),fw.s _ (List.mem_of_getElem? eR),λl us H' hl s3 hl' qa'=>?_⟩;have s4:=s2.trans s3;have hq':H' ql=some (.lst (ts.map V.ref)):=s4 _ _ hts;ext;have hlen:ts.length<=100000:=by
   rw[qa.len];exact Nat.le_trans (Nat.le_trans (Zqq F R i) fw.t) ε
  have hlen2:us.length<=1000:=by
   rw[qa'.len];exact Nat.le_trans KB.O6 (fw.s _ (List.mem_of_getElem? eR))
  refine⟨ql,l,_,_,rfl,rfl,hq',hl',by rw[bx,bx];exact aU δ,?_⟩;apply⟨hil,Qv (sm.trans s4) hql,⟨ts++us,by rw[aq,List.map_append],?_⟩,_,_,rfl⟩;rw[Zqr F R i row eR];exact((qa.same s4).app qa').tk (Zny hq')
 ·rintro σ Hx ⟨hi,sm,⟨ts,hts,qa⟩,y,z,rfl⟩;rw[bx,hrl,List.take_length]at qa;ext;intro d hd;ext;have ndq:d≠ql:=λe=>by rw[e,hts]at hd;cases hd
  refine⟨λm σ Hx=>∃q qs k x y v7 v8,m=KB.total F R - k/\σ=[↑hp,↑ra,↑ql,x,y,↑d,some (.int (k:Nat)),v7,v8]/\RS K bB aY H Hx ql d F R q qs k,⟨_,KB.q0 F 0 R,[],0,_,_,_,_,rfl,rfl,?_⟩,?_⟩
  ·exact⟨sm.trans (lV hd),hql,.start,Nat.zero_le _,⟨ts,by rw[aB ndq.symm];exact hts,qa.same (lV hd)⟩,⟨[],aq,trivial⟩,sm.free hd⟩
  ·rintro m σ Hy ⟨q',qs,k,x,y,v7,v8,rfl,rfl,rs'⟩;obtain⟨sm',nq,b,hk,⟨ts,hts,qa⟩,⟨kvs,hkv,la⟩,nd⟩:=rs';have hlq:=qa.len;apply fK (cC.of hts) ?_;ext;have hb:=b.bound;refine qM (λz=>?_) (λz=>?_)
   ·rw[bx]at z;have hkq:k<q'.length:=δ
    have hq:q'[k]? =some q'[k]:=bM hkq;obtain⟨t,a,et,ht,hat⟩:=qa.at hq;generalize hx:q'[k]=pw at hq ht hat;obtain⟨p,w⟩:=pw;refine⟨λσ' H'=>∃q2 qs2 x y v7 v8,σ'=[↑hp,↑ra,↑ql,x,y,↑d,some (.int ((k:Int)+1)),v7,v8]/\RS K bB aY H H' ql d F R q2 qs2 (k+1),?_,?_⟩
    ·rintro σ' H' ⟨q2,qs2,x,y,v7,v8,rfl,r2⟩;exact⟨KB.total F R - (k+1),δ,q2,qs2,k+1,x,y,v7,v8,rfl,by rw[show((k+1:Nat):Int)=(k:Int)+1 from δ],r2⟩
    have hix:atI (ts.map V.ref) ((k:Nat):Int)=↑t:=kW (by rw[dj,et];rfl);apply lX (cC.of hts) hix ?_;exists t,_,0,.int p,rfl,rfl,fM.of ht,uC ε rfl;apply lX (cC.of hts) hix ?_;exists t,_,1,.ref a,rfl,rfl,fM.of ht,uC ε rfl;exists d,kvs,_,rfl,.inl hkv,rfl;ext;have gd:=b.good.1 _ (List.mem_of_getElem? hq);refine Zvu (λy=>?_) (λy=>?_)
    ·have hno:tL kvs (Sum.inl p)=none:=by
      cases e:tL kvs (Sum.inl p)with
      | none=>rfl
      | some _=>rw[e]at y;simp at y
     have hnp:p∉qs.map (·.1):=by
      have:=la.val p;rw[hno]at this;simpa using this
     obtain⟨fl,hfl⟩:∃fl,KB.fat F p=some fl:=Option.isSome_iff_exists.mp gd.there;exists d,_,rfl,V5.k (k:=Sum.inl p) hkv ?_
     ·have h2:=la.len;have h3:=Ztn b;have h4:=fw.t;exact Nat.lt_of_le_of_lt (show kvs.length<=1000000 by omega) (show 1000000<sizeLine by decide)
     rw[Zmk _ hno];have nd':ql≠d:=qG hts hkv (λz=>by cases z);have s1:bz H (upd Hy d (.dK (kvs++[(Sum.inl p,.ref a)]))):=Qv sm' nd;have k1:TK Hy (upd Hy d (.dK (kvs++[(Sum.inl p,.ref a)]))):=Zzb hkv;have q1:upd Hy d (.dK (kvs++[(Sum.inl p,.ref a)])) ql=some (.lst (ts.map V.ref)):=(aB nd').trans hts;exists .inl ⟨rfl,_,cC.of q1⟩;ext;obtain⟨ca,room,used,born,cs,ho,hl,he⟩:=(v.same s1).ex;have ho':=ho;obtain⟨⟨dx,o1⟩,o2⟩:=ho';refine aH o1 T.cP T.bT cA ?_;ext;rcases Zpa hl he p with ⟨e1,_⟩ | ⟨fl',p',fa,b',u,t',l,e1,_,e3,e4,c⟩
     ·rw[hfl]at e1;cases e1
     rw[hfl]at e1;cases e1;refine lX (cC.of o2) (uC e4 e3) ?_;obtain⟨⟨dc,c1⟩,c2⟩:=c;refine aH c1 T.dB T.fW nj ?_;ext;have hw:=Zeg b _ (List.mem_of_getElem? hq);have hgt:=fw.t;refine⟨hp,fa,a,F,fl,w,rfl,v.same s1,cC.of c2,fM.of (k1 _ _ hat),?_,?_,fw.g p fl hfl,λl2 us H2 hl2 s2 hl2' qa2=>?_⟩
     ·obtain⟨r0,s0,fs0,_,e0,_⟩:=gd.ex;intro z;rw[show w=(p,w).2 from rfl,e0]at z;cases z
     ·simp only at hw;omega
     have hq2:H2 ql=some (.lst (ts.map V.ref)):=s2 _ _ q1;have hd2:H2 d=some (.dK (kvs++[(Sum.inl p,.ref a)])):=s2 _ _ aq;have k2:=k1.trans (TK.same s2);have k3:TK H2 (upd H2 ql (.lst (ts.map V.ref++us.map V.ref))):=Zny hq2;have b2:=KB.Td.new b hq hnp hfl;have hb2:=b2.bound;rw[List.length_append,<- qa2.len,<- hlq]at hb2;apply⟨ql,l2,_,_,rfl,rfl,hq2,hl2',by rw[bx,bx];exact aU δ,?_⟩;apply⟨_,_,_,_,_,_,rfl,⟨Qv (s1.trans s2) nq,nq,b2,by rw[List.length_append];omega,⟨ts++us,by rw[aq,List.map_append],(((qa.tk k2).app qa2).tk k3)⟩,⟨_,by rw[aB nd'.symm];exact hd2,((la.tk k2).app ?_).tk k3⟩,nd⟩⟩;exact⟨⟨rfl,a,rfl,k2 _ _ hat⟩,trivial⟩
    ·have hin:p∈qs.map (·.1):=by
      have:=la.val p;cases e:tL kvs (Sum.inl p)with
      | none=>rw[e]at y;simp at y
      | some _=>rw[e]at this;simpa using this.symm
     apply⟨_,_,_,_,_,_,rfl,⟨sm',nq,.old b hq hin,δ,⟨ts,hts,qa⟩,⟨kvs,hkv,la⟩,nd⟩⟩
   ·rw[bx]at z;have hkq:k=q'.length:=δ
    subst hkq;apply⟨d,kvs,rfl,.inl hkv,λvw hvw=>?_⟩;ext;have s1:=lV (o:=Lg vw d) hvw;refine Zsh aq (.inl (s1 _ _ hkv)) λl us H2 hl s2 hl2 pa=>?_;apply q l us q' qs H2 b ((sm'.trans s1).free hl) ((sm'.trans s1).trans s2) hl2 ((la.tk (TK.same (s1.trans s2))).prs pa)
end
def fdOf(M:Wm):KB.Fd:=M.cells.map λo=>o.map (·.fl)
theorem WJ0.hv{X:Cs}{H:Hp}{T:Tg}{s:Nat}{A:Wa}{M:Wm}(j:WJ0 X H T s A M):HV X.C X.H H A.hp (fdOf M):=by
 have hl:=j.jc.lc;refine⟨A.ca,M.room,M.used,M.born,A.cs.map pV,j.hpO,by unfold fdOf;rw[bx,bx];exact hl,λi x hx=>?_⟩;unfold fdOf at hx;rw[dj]at hx;obtain⟨o,ho,rfl⟩:=Option.map_eq_some_iff.mp hx;cases o with
 | none=>
  show(A.cs.map pV)[i]? =some .non;rw[dj,j.jc.at0 ho];rfl
 | some c=>
  obtain⟨p,hp,ce⟩:=j.jc.at ho;obtain⟨_,_,o1,o2⟩:=ce;exact⟨p.1,p.2,c.birth,c.bulk,c.tone,c.load,by rw[dj,hp];rfl,⟨o1,o2⟩⟩
theorem Zp9{M:Wm}(x:Int):KB.fat (fdOf M) x=(cellAt M x).map (·.fl):=by
 unfold KB.fat fdOf cellAt
 by_cases h:0<=x
 ·rw[if_pos h,if_pos h,dj];cases M.cells[x.toNat]? with
  | none=>rfl
  | some o=>cases o<;>rfl
 ·rw[if_neg h,if_neg h];rfl
section
variable {K:aC}{X:Cs}{H:Hp}{Q:VK}{E:XK}{n:ν}{bk ct:ν}
theorem Zjv{hp a wt:AH}{F:KB.Fd}{ps:Au}{w:AD}(q:HV X.C X.H H hp F/\cC K H a (ps.map oV)/\fM K H wt (w.map V.int)/\w≠[]/\w.length<=100000/\ps.length<=1000/\∀l ts H',H l=none->bz H H'->H' l=some (.lst (ts.map V.ref))->GD H' ts (KB.onw F w 0 ps)->Q (.ref l) H'):
  Dz K (d8 X.H) ξ [↑hp,↑a,↑wt] H:=by
 obtain⟨v,h1,h2,h3,h4,h5,q⟩:=q;exact Zfy v h1 h2 h3 h4 h5 (λe=>Zup e h2) q
theorem Zfm{hp ra:AH}{F:KB.Fd}{rs:AE}{R:KB.Rw}(T:rY K X)(q:HV X.C X.H H hp F/\cC K H ra (rs.map V.ref)/\Gw K H rs R/\Few F R/\∀l ts q qs H',KB.Td F R q q.length qs->H l=none->bz H H'->H' l=some (.lst (ts.map V.ref))->GD H' ts qs->Q (.ref l) H'):
  zE K (Ds K X.C X.H) ξ [↑hp,↑ra,none,none,none,none,none,none,none] H:=by
 obtain⟨v,h1,h2,h3,q⟩:=q;exact Zbr T.c v h1 h2 h3 q
end
theorem toN{x:Int}(h:0<=x):∃k:Nat,x=k:=⟨x.toNat,δ⟩
theorem Wt(c:Nat):(⟨#[c]⟩:Str).length=1:=rfl
theorem Zxt(a b:Str):(a++b).length=a.length+b.length:=by
 show(a.cps++b.cps).size=_;rw[Array.size_append];rfl
theorem Zps{α β:Type}{P:α->β->Prop}:∀{xs:List α}{ys:List β},xs.length=ys.length->(∀(i:Nat) x y,xs[i]? =some x->ys[i]? =some y->P x y)->Al P xs ys
 | [],[],_,_=>.nil
 | [],_::_,h,_=>by simp at h
 | _::_,[],h,_=>by simp at h
 | x::xs,y::ys,h,p=>.cons (p 0 x y rfl rfl) (Zps (by simpa using h) λi a b h1 h2=>p (i+1) a b (by simpa using h1) (by simpa using h2))
def iJ(bits:Int):List (Str×Au)->Nat->Wm->AD×Wm
 | [],_,M=>([],M)
 | m::l,k,M=>if bits / 2 ^ k % 2=1 then((aR M m.2).1++(iJ bits l (k+1) (aR M m.2).2).1,(iJ bits l (k+1) (aR M m.2).2).2)else iJ bits l (k+1) M
def lsE(x:Int):Nat->Nat->Int
 | _,0=>0
 | i,n+1=>if x / 2 ^ i % 2=0 then 2 ^ i else lsE x (i+1) n
def Bc(k:Nat)(lo:Int)(n:Nat):Int:=if k=0 then 0 else if k=1 then lsE lo 0 n else 2 ^ n - 1
theorem Rm(bits:Int)(m:Str×Au):∀(l:List (Str×Au)) (k:Nat) (M:Wm),iJ bits (l++[m]) k M=if bits / 2 ^ (k+l.length) % 2=1 then((iJ bits l k M).1++(aR (iJ bits l k M).2 m.2).1,(aR (iJ bits l k M).2 m.2).2)else iJ bits l k M
 | [],k,M=>by
  show(if bits / 2 ^ k % 2=1 then((aR M m.2).1++[],(aR M m.2).2)else([],M))=_;rw[List.append_nil];rfl
 | a::l,k,M=>by
  have e:k+(a::l).length=k+1+l.length:=by rw[List.length_cons];omega
  rw[e,List.cons_append];show(if bits / 2 ^ k % 2=1 then((aR M a.2).1++(iJ bits (l++[m]) (k+1) (aR M a.2).2).1,(iJ bits (l++[m]) (k+1) (aR M a.2).2).2)else iJ bits (l++[m]) (k+1) M)=_;show _=if bits / 2 ^ (k+1+l.length) % 2=1 then(((if bits / 2 ^ k % 2=1 then((aR M a.2).1++(iJ bits l (k+1) (aR M a.2).2).1,(iJ bits l (k+1) (aR M a.2).2).2)else iJ bits l (k+1) M)).1++(aR (if bits / 2 ^ k % 2=1 then((aR M a.2).1++(iJ bits l (k+1) (aR M a.2).2).1,(iJ bits l (k+1) (aR M a.2).2).2)else iJ bits l (k+1) M).2 m.2).1,(aR (if bits / 2 ^ k % 2=1 then((aR M a.2).1++(iJ bits l (k+1) (aR M a.2).2).1,(iJ bits l (k+1) (aR M a.2).2).2)else iJ bits l (k+1) M).2 m.2).2)else(if bits / 2 ^ k % 2=1 then((aR M a.2).1++(iJ bits l (k+1) (aR M a.2).2).1,(iJ bits l (k+1) (aR M a.2).2).2)else iJ bits l (k+1) M)
  by_cases h:bits / 2 ^ k % 2=1
  ·simp only[if_pos h];rw[Rm bits m l (k+1)]
   by_cases h2:bits / 2 ^ (k+1+l.length) % 2=1
   ·simp only[if_pos h2,List.append_assoc]
   ·simp only[if_neg h2]
  ·simp only[if_neg h];rw[Rm bits m l (k+1)]
theorem Ig:∀{l:Au}{M:Wm},(aR M l).2.hands=M.hands
 | [],_=>rfl
 | x::l,M=>by
  show(aR (bN M x).2 l).2.hands=_;rw[Ig,MT]
theorem Dd(bits:Int)(B:Nat):∀(l:List (Str×Au)) (k:Nat) (M:Wm),(∀m∈l,m.2.length<=B)->(iJ bits l k M).2.sw.phase=M.sw.phase/\(iJ bits l k M).2.sw.grey.length<=M.sw.grey.length+l.length * B/\(iJ bits l k M).1.length<=l.length * B/\(iJ bits l k M).2.hands=M.hands
 | [],_,_,_=>by simp[iJ]
 | m::l,k,M,h=>by
  have hm:=h m ζ;have e:(m::l).length * B=l.length * B+B:=by rw[List.length_cons,Nat.succ_mul]
  unfold iJ
  by_cases z:bits / 2 ^ k % 2=1
  ·rw[if_pos z];obtain⟨a1,a2,a3,a4⟩:=Dd bits B l (k+1) (aR M m.2).2 λx hx=>h x (by simp[hx]);obtain⟨b1,b2⟩:=wC (l:=m.2) (M:=M);have b3:=Ae (l:=m.2) (M:=M);exact⟨a1.trans b1,by show(iJ bits l (k+1) (aR M m.2).2).2.sw.grey.length<=_;omega,by show((aR M m.2).1++_).length<=_;rw[List.length_append];omega,a4.trans Ig⟩
  ·rw[if_neg z];obtain⟨a1,a2,a3,a4⟩:=Dd bits B l (k+1) M λx hx=>h x (by simp[hx]);exact⟨a1,δ,δ,a4⟩
structure NtR(M M':Wm):Prop where
 rm:M'.room=M.room
 us:M'.used=M.used
 bn:M'.born=M.born
 hd:M'.hands=M.hands
 nm:M'.names=M.names
 ww:M'.w=M.w
 tl:M'.tells=M.tells
 sw:∃g,M'.sw={ M.sw with grey:=g }
 ce:M'.cells.map (λo=>o.map λc=>{ c with tone:=0 })=M.cells.map (λo=>o.map λc=>{ c with tone:=0 })
theorem NtR.refl(M:Wm):NtR M M:=⟨rfl,rfl,rfl,rfl,rfl,rfl,rfl,⟨_,rfl⟩,rfl⟩
theorem NtR.trans{M M1 M2:Wm}(a:NtR M M1)(b:NtR M1 M2):NtR M M2:=by
 obtain⟨a1,a2,a3,a4,a5,a6,a7,⟨g,a8⟩,a9⟩:=a;obtain⟨b1,b2,b3,b4,b5,b6,b7,⟨g',b8⟩,b9⟩:=b;exact⟨b1.trans a1,b2.trans a2,b3.trans a3,b4.trans a4,b5.trans a5,b6.trans a6,b7.trans a7,⟨g',by rw[b8,a8]⟩,b9.trans a9⟩
theorem Zn9(M:Wm)(x:AA):NtR M (bN M x).2:=by
 cases x with
 | none=>exact NtR.refl M
 | some i=>
  unfold bN;dsimp only;cases hc:cellAt M i with
  | none=>exact NtR.refl M
  | some c=>
   dsimp only;split
   ·obtain⟨h0,h1⟩:=cV.mp hc;refine⟨rfl,rfl,rfl,rfl,rfl,rfl,rfl,⟨_,rfl⟩,?_⟩;show(M.cells.set i.toNat _).map _=_;rw[List.map_set];refine List.ext_getElem? λk=>?_
    by_cases z:i.toNat=k
    ·subst z;rw[List.getElem?_set_self (by rw[bx];exact(fH h1).1),dj,h1];rfl
    ·rw[List.getElem?_set_ne z]
   ·exact NtR.refl M
theorem rQ:∀(l:Au) (M:Wm),NtR M (aR M l).2
 | [],M=>NtR.refl M
 | x::l,M=>(Zn9 M x).trans (rQ l _)
theorem Rn(bits:Int):∀(l:List (Str×Au)) (k:Nat) (M:Wm),NtR M (iJ bits l k M).2
 | [],_,M=>NtR.refl M
 | m::l,k,M=>by
  unfold iJ;split
  ·exact(rQ m.2 M).trans (Rn bits l (k+1) _)
  ·exact Rn bits l (k+1) M
theorem Znf(bits:Int)(l:List (Str×Au))(k:Nat)(M:Wm):(iJ bits l k M).2.sw.turn=M.sw.turn/\(iJ bits l k M).2.sw.looked=M.sw.looked/\(iJ bits l k M).2.sw.looks=M.sw.looks:=by
 obtain⟨g,e⟩:=(Rn bits l k M).sw;rw[e];exact⟨rfl,rfl,rfl⟩
theorem Zk0{M:Wm}{x:AA}(h:(bN M x).1=none):(bN M x).2=M:=by
 cases x with
 | none=>rfl
 | some i=>
  unfold bN at h ⊢;dsimp only at h ⊢;cases hc:cellAt M i with
  | none=>rfl
  | some c=>
   rw[hc]at h;dsimp only at h ⊢;split
   ·rename_i z
    rw[if_pos z]at h;cases h
   ·rfl
theorem Rh:∀{l:Au}{M:Wm},(aR M l).1=[]->(aR M l).2=M
 | [],_,_=>rfl
 | x::l,M,h=>by
  have h:Rc (bN M x).1++(aR (bN M x).2 l).1=[]:=h;obtain⟨h1,h2⟩:=List.append_eq_nil_iff.mp h;have h3:(bN M x).1=none:=by
   cases e:(bN M x).1 with
   | none=>rfl
   | some b=>rw[e]at h1;cases h1
  show(aR (bN M x).2 l).2=M;rw[Rh h2,Zk0 h3]
theorem Zo(bits:Int):∀{l:List (Str×Au)}{k:Nat}{M:Wm},(iJ bits l k M).1=[]->(iJ bits l k M).2=M
 | [],_,_,_=>rfl
 | m::l,k,M,h=>by
  unfold iJ at h ⊢;split
  ·rename_i z
   rw[if_pos z]at h;obtain⟨h1,h2⟩:=List.append_eq_nil_iff.mp h;show(iJ bits l (k+1) (aR M m.2).2).2=M;rw[Zo bits h2,Rh h1]
  ·rename_i z
   rw[if_neg z]at h;exact Zo bits h
theorem Zck:∀(l:List (Str×Au)) (k:Nat) (M:Wm),iJ 0 l k M=([],M)
 | [],_,_=>rfl
 | m::l,k,M=>by
  unfold iJ;rw[if_neg ζ,Zck l (k+1) M]
def lF(X:Cs):Sp:=λvs H Q E=>∃wo bits,vs=[.ref wo,.int bits]/\∃T s A M,WT H T/\s≠0/\WJ X H T s A M/\A.wo=wo/\(∀m∈M.hands,m.2.length<=100)/\(M.sw.phase="walk"->M.sw.grey.length<=5000)/\
 ∀H' T' l,d7 s H H' T T'->WJ X H' T' s A (iJ bits M.hands 0 M).2->H' l=some (.lst ((iJ bits M.hands 0 M).1.map V.int))->(H l=none/\(T' l).1≠s)->Q (.ref l) H'
def iD(k:Nat):Sp:=λvs H Q E=>∃a lo h,vs=[.ref a,.int lo,.int h]/\0<=h/\h<=30/\Q (.int (Bc k lo h.toNat)) H
section
variable {K:aC}{X:Cs}{H:Hp}{Q:VK}{E:XK}{n:ν}{bk ct:ν}
theorem Mm{a:AH}(q:Q (.bl true) H):rD ξ [↑a] H:=by
 unfold rD;apply q
theorem VR{a:AH}(q:Q (.bl false) H):xP ξ [↑a] H:=by
 unfold xP;apply q
theorem Du{a:AH}{lo h:Int}(q:0<=h/\h<=30/\Q (.int (Bc 0 lo h.toNat)) H):nT ξ [↑a,some (.int lo),some (.int h)] H:=by
 unfold nT;apply q.2.2
theorem JB{a:AH}{lo h:Int}(q:0<=h/\h<=30/\Q (.int (Bc 2 lo h.toNat)) H):qj vK ξ [↑a,some (.int lo),some (.int h)] H:=by
 obtain⟨h0,h1,q⟩:=q;unfold qj;apply⟨h,rfl,h0,h1,q⟩
theorem JG{a:AH}{lo h:Int}(q:0<=h/\h<=30/\Q (.int (Bc 1 lo h.toNat)) H):qp ξ [↑a,some (.int lo),some (.int h),none] H:=by
 obtain⟨h0,h1,q⟩:=q;have q:Q (.int (lsE lo 0 h.toNat)) H:=q;unfold qp;exists h,rfl,δ,δ;refine forR (λi σ Hx=>∃v,σ=[↑a,some (.int lo),some (.int h),v]/\Hx=H/\(i<=h.toNat->lsE lo 0 h.toNat=lsE lo i (h.toNat - i))) ⟨none,rfl,rfl,λ_=>rfl⟩ ?_ ?_
 ·rintro i σ Hx hi ⟨v,rfl,rfl,el⟩;have el:=el δ;have es:h.toNat - i=(h.toNat - (i+1))+1:=δ
  rw[es]at el;have ei:lsE lo i (h.toNat - (i+1)+1)=if lo / 2 ^ i % 2=0 then 2 ^ i else lsE lo (i+1) (h.toNat - (i+1)):=rfl
  rw[ei]at el;have en:((0:Int)+(i:Int)).toNat=i:=δ
  ext;rw[en,Zwz];refine qM (λz=>?_) (λz=>?_)
  ·rw[if_pos z]at el;apply i_I (Zu6 δ δ) ?_;rw[en,Int.one_mul,<- el];exact q
  ·rw[if_neg z]at el;apply⟨_,rfl,rfl,λ_=>el⟩
 ·rintro σ Hx ⟨v,rfl,rfl,el⟩;have el:=el Δ;rw[Nat.sub_self]at el;have el:lsE lo 0 h.toNat=0:=el;ext;rw[el]at q;exact q
theorem Uz{wo:AH}{bits:Int}(Tx:rY K X)(q:∃T s A M,WT H T/\s≠0/\WJ X H T s A M/\A.wo=wo/\(∀m∈M.hands,m.2.length<=100)/\(M.sw.phase="walk"->M.sw.grey.length<=5000)/\
 ∀H' T' l,d7 s H H' T T'->WJ X H' T' s A (iJ bits M.hands 0 M).2->H' l=some (.lst ((iJ bits M.hands 0 M).1.map V.int))->(H l=none/\(T' l).1≠s)->Q (.ref l) H'):
  xx K (fO X) ξ [↑wo,some (.int bits),none,none,none] H:=by
 obtain⟨T,s,A,M,w,s0,j,rfl,hs,hg,q⟩:=q;have lh:=j.jd.lh;have l5:=j.jd.l5;unfold xx;apply⟨aU ζ,λl hl=>?_⟩;have st1:d7 s H (upd H l (.lst [])) T (dz T l (s+1,1)):=d7.fresh w hl;have j1:WJ X (upd H l (.lst [])) (dz T l (s+1,1)) s A M:=j.fresh hl;have g1:upd H l (.lst []) l=some (.lst []):=aq;have tl:dz T l (s+1,1) l=(s+1,1):=gU;generalize upd H l (.lst [])=H1 at st1 j1 g1 ⊢;generalize dz T l (s+1,1)=T1 at st1 j1 tl;obtain⟨dw,ow⟩:=j1.jb.ow;apply aH ow Tx.cW Tx.nWd eY ?_;apply⟨A.hl,rfl,⟨_,cC.of j1.jb.on⟩,Zz4 (A.hs.map λp=>V.ref p.1) (λi σ Hx=>∃T' v3 v4,σ=[↑A.wo,some (.int bits),↑l,v3,v4]/\d7 s H Hx T T'/\T' l=(s+1,1)/\WJ X Hx T' s A (iJ bits (M.hands.take i) 0 M).2/\Hx l=some (.lst ((iJ bits (M.hands.take i) 0 M).1.map V.int))) ⟨T1,_,_,rfl,st1,tl,j1,g1⟩ (λ_ _ _ _ ⟨_,_,_,_,_,_,z,_⟩=>cC.of z.jb.on) ?_ ?_⟩
 ·rintro i x t σ Hx hx ⟨T2,v3,v4,rfl,st2,tl2,j2,g2⟩ ht;rw[dj]at hx;obtain⟨p,hp,rfl⟩:=Option.map_eq_some_iff.mp hx;have hil:i<A.hs.length:=(fH hp).1;obtain⟨m,hm⟩:∃m,M.hands[i]? =some m:=⟨_,bM δ⟩;have etk:M.hands.take (i+1)=M.hands.take i++[m]:=by rw[List.take_add_one,hm];rfl
  have ltk:(M.hands.take i).length=i:=by rw[List.length_take];omega
  obtain⟨n1,n2,n3,n4⟩:=Dd bits 100 (M.hands.take i) 0 M λx hx=>hs x (List.mem_of_mem_take hx);have sn:=Rm bits m (M.hands.take i) 0 M;rw[<- etk,Nat.zero_add,ltk]at sn;generalize zz:upd Hx t _=H3;obtain⟨s1,g1'⟩:=nwO ht zz;have j3:=j2.same s1;have st3:=st2.trans (d7.same (s:=s) st2.wt s1);have g3:=s1 _ _ g2;refine⟨t,_,rfl,fM.of g1',rfl,.int i,_,rfl,?_⟩;exists .ref p.1,_,rfl;exists rfl;ext;rw[Zwz,Int.toNat_natCast];refine qM (λz=>?_) (λz=>?_)
  ·rw[if_pos z]at sn;exists .inl ⟨rfl,_,cC.of g3⟩;have hm3:(iJ bits (M.hands.take i) 0 M).2.hands[i]? =some m:=by rw[n4];exact hm
   have hd:=j3.jd.hd i p m hp hm3;obtain⟨dx,o1⟩:=hd.o1;have Zz0:=hs m (List.mem_of_getElem? hm);have hB:(M.hands.take i).length * 100<=3000:=by rw[ltk];omega
   apply aH o1 Tx.cD Tx.nDs vq ?_;apply⟨_,_,rfl,m.2,T2,s,A,_,st3.wt,s0,j3,rfl,.inr (.inl ⟨i,p,m,hp,hm3,rfl,rfl⟩),Zz0,λy=>?_,λH4 T4 l4 st4 j4 g4 nl4=>?_⟩
   ·have:=hg (n1.symm.trans y);omega
   have g5:H4 l=some (.lst ((iJ bits (M.hands.take i) 0 M).1.map V.int)):=st4.kp _ _ g3 (by rw[tl2];show s+1≠s;omega);have nl:=Ae (l:=m.2) (M:=(iJ bits (M.hands.take i) 0 M).2);apply⟨l,l4,_,_,rfl,rfl,g5,g4,by rw[bx,bx];exact aU δ,?_⟩;ext;have tl4:T4 l=(s+1,1):=(st4.tg _ _ g3).trans tl2;refine⟨T4,_,_,rfl,d7.new (st3.trans st4) hl g5,tl4,?_,?_⟩
   ·rw[sn];exact j4.other (s':=s+1) (d7.upd st4.wt g5 (by rw[tl4])) δ δ
   ·rw[sn,aq,List.map_append]
  ·rw[if_neg z]at sn;apply⟨T2,_,_,rfl,st3,tl2,by rw[sn];exact j3,by rw[sn];exact g3⟩
 ·rintro σ Hx ⟨T2,v3,v4,rfl,st2,tl2,j2,g2⟩;ext;rw[bx,lh,List.take_length]at j2 g2;exact q Hx T2 l st2 j2 g2 ⟨hl,by rw[tl2];show s+1≠s;omega⟩
end
structure Zhv(M:Wm):Prop where
 cl:M.cells.length<=900
 hl:∀m∈M.hands,m.2.length<=100
 fl:∀c,some c∈M.cells->c.fl.length<=50
 nl:M.names.length<=900
 gl:M.sw.phase="walk"->M.sw.grey.length<=900
 gc:M.sw.phase="walk"->∀x∈M.sw.grey,∃c,cellAt M x=some c
 ph:M.sw.phase="rest"\/M.sw.phase="walk"\/M.sw.phase="give"\/M.sw.phase="lost"
 a0:0<=M.sw.at'
def Zpv(H:Hp)(T:Tg)(M:Wm)(b:Int)(w:AD):Prop:=∃a wl,M.sw.loss=.ref a/\T a=(0,0)/\H a=some (.tup [.str "lost",.int b,.ref wl])/\T wl=(0,0)/\H wl=some (.lst (w.map V.int))
def u9(M:Wm)(i:Nat):Option Ce:=((M.cells[i]?).join).bind λc=>if c.tone=M.sw.sense then none else some c
def t7(M:Wm):AD:=(List.range M.cells.length).filterMap λi=>(u9 M i).map λ_=>(i:Int)
def fJ(M:Wm):AD:=(List.range M.cells.length).filterMap λi=>(u9 M i).map (·.birth)
def jk(M:Wm):Wm:={ M with sw:={ M.sw with stop:=M.cells.length,at':=0 } }
def bR(M:Wm):Int:=Bc M.w.toNat M.sw.looked M.hands.length
def vD(M:Wm):Prop:=bR M=0\/(M.w=2/\(iJ (bR M) M.hands 0 M).1=[])
inductive vJ(lb:Int)(lw:AD)(M:Wm):Ev->Wm->Prop
 | begin:M.sw.phase="rest"->vJ lb lw M ⟨"begin",some (M.sw.turn+1),(iJ (jz M.w M.hands.length) M.hands 0 (pU M)).1⟩ (iJ (jz M.w M.hands.length) M.hands 0 (pU M)).2
 | walk (x:Int) (g:AD) (c:Ce):M.sw.phase="walk"->M.sw.grey=x::g->cellAt M x=some c->vJ lb lw M ⟨"walk",some c.birth,(aR { M with sw:={ M.sw with grey:=g,walks:=M.sw.walks+1 } } c.fl).1⟩ (aR { M with sw:={ M.sw with grey:=g,walks:=M.sw.walks+1 } } c.fl).2
 | look (N:Wm):M.sw.phase="walk"->M.sw.grey=[]->¬ vD M->N=(iJ (bR M) M.hands 0 M).2->vJ lb lw M ⟨"look",some (bR M),(iJ (bR M) M.hands 0 M).1⟩ { N with sw:={ N.sw with looks:=N.sw.looks+1,looked:=if M.w=2 then N.sw.looked else Builtin.bitOr N.sw.looked (bR M) } }
 | cut (q qs:List (Int×AD)):M.sw.phase="walk"->M.sw.grey=[]->vD M->KB.Td (fdOf M) (jx M) q q.length qs->(∀x∈qs,∀c,cellAt M x.1=some c->c.tone=M.sw.sense)->vJ lb lw M ⟨"cut",some (fJ M).length,fJ M⟩ { jk M with sw:={ (jk M).sw with phase:="give" } }
 | lost (q qs:List (Int×AD)) (i:Nat) (x:Int×AD) (c:Ce) (v:V):M.sw.phase="walk"->M.sw.grey=[]->vD M->KB.Td (fdOf M) (jx M) q q.length qs->qs[i]? =some x->(∀(k:Nat) y d,k<i->qs[k]? =some y->cellAt M y.1=some d->d.tone=M.sw.sense)->cellAt M x.1=some c->c.tone≠M.sw.sense->vJ lb lw M ⟨"lost",some c.birth,x.2⟩ { jk M with sw:={ (jk M).sw with phase:="lost",loss:=v } }
 | pass:M.sw.phase="give"->M.sw.at'<M.sw.stop->(∀c,cellAt M M.sw.at'=some c->c.tone=M.sw.sense)->vJ lb lw M ⟨"pass",some M.sw.at',[]⟩ { M with sw:={ M.sw with at':=M.sw.at'+1,passes:=M.sw.passes+1 } }
 | back (c:Ce):M.sw.phase="give"->M.sw.at'<M.sw.stop->cellAt M M.sw.at'=some c->c.tone≠M.sw.sense->vJ lb lw M ⟨"back",some c.birth,[M.sw.at']⟩ { M with used:=M.used - (1+c.fl.length+c.bulk),cells:=M.cells.set M.sw.at'.toNat none,sw:={ M.sw with at':=M.sw.at'+1,passes:=M.sw.passes+1 } }
 | fin:M.sw.phase="give"->¬ M.sw.at'<M.sw.stop->vJ lb lw M ⟨"end",some M.sw.turn,[M.sw.walks,M.sw.looks,M.sw.passes]⟩ { M with sw:={ M.sw with phase:="rest" } }
 | again:M.sw.phase="lost"->vJ lb lw M ⟨"lost",some lb,lw⟩ M
def Dr(X:Cs)(P:Wm->Prop)(wo:AH)(H:Hp)(Q:VK):Prop:=∃T s A M lb lw,WT H T/\s≠0/\WJ X H T s A M/\A.wo=wo/\Zhv M/\P M/\(M.sw.phase="lost"->Zpv H T M lb lw)/\
 ∀e M',vJ lb lw M e M'->∀H' T' A' a,d7 s H H' T T'->WJ X H' T' s A' M'->A'.wo=wo/\A'.sw=A.sw->EvN H H' T' s a e->(M'.sw.phase="lost"->∃b,e.thing=some b/\Zpv H' T' M' b e.notes)->Q (.ref a) H'
def bZ(X:Cs)(P:Wm->Prop):Sp:=λvs H Q E=>∃wo,vs=[.ref wo]/\Dr X P wo H Q
def Zby(M:Wm):Prop:=M.sw.phase="walk"/\M.sw.grey≠[]
def Zc0(M:Wm):Prop:=M.sw.phase="walk"/\M.sw.grey=[]
def Zfw(M:Wm):Prop:=M.sw.phase="walk"/\M.sw.grey=[]/\vD M
def Zbz(M:Wm):Prop:=M.sw.phase="give"/\M.sw.at'<M.sw.stop
def pEnd(M:Wm):Prop:=M.sw.phase="give"/\¬ M.sw.at'<M.sw.stop
def O5(z:Str)(M:Wm):Prop:=M.sw.phase=z
def Zn3(_:Wm):Prop:=True
def mV(K:aC):Sp:=λvs H Q E=>∃ev,vs=[.ref ev]/\∃z b l,∃ns:AD,H ev=some (.tup [.str z,.int b,.ref l])/\H l=some (.lst (ns.map V.int))/\∀a l' H',bz H H'->H l'=none->H' a=some (.tup [.str z,.int b,.ref l'])->H' l'=some (.lst (ns.map V.int))->Q (.ref a) H'
def Ar(X:Cs):Sp:=λvs H Q E=>∃wo,vs=[.ref wo]/\∃T s A M,WJ X H T s A M/\A.wo=wo/\M.cells.length<=900/\∀l H',bz H H'->H l=none->H' l=some (.lst ((t7 M).map V.int))->Q (.ref l) H'
section
variable {K:aC}{X:Cs}{H:Hp}{Q:VK}{E:XK}{n:ν}{bk ct:ν}
theorem Ti{ev:AH}(q:∃z b l,∃ns:AD,H ev=some (.tup [.str z,.int b,.ref l])/\H l=some (.lst (ns.map V.int))/\∀a l' H',bz H H'->H l'=none->H' a=some (.tup [.str z,.int b,.ref l'])->H' l'=some (.lst (ns.map V.int))->Q (.ref a) H'):
  xr K ξ [↑ev] H:=by
 obtain⟨z,b,l,ns,o1,o2,q⟩:=q;unfold xr;exists ev,_,0,_,rfl,rfl,fM.of o1,rfl;exists ev,_,1,_,rfl,rfl,fM.of o1,rfl;exists ev,_,2,_,rfl,rfl,fM.of o1,rfl;apply Jh (cC.of o2) λl' nl'=>?_;generalize zz:upd H l' _=H1;obtain⟨s1,g1⟩:=nwO nl' zz;apply⟨aU ζ,λa na=>?_⟩;have s2:=aL na (.tup [.str z,.int b,.ref l']);exact q a l' _ (s1.trans s2) nl' aq (s2 _ _ g1)
theorem vA{α β:Type}{f g:α->Option β}:∀{l:List α},(∀x∈l,f x=g x)->l.filterMap f=l.filterMap g
 | [],_=>rfl
 | x::l,h=>by
  rw[List.filterMap_cons,List.filterMap_cons,h x ζ,vA λy hy=>h y (by simp[hy])]
theorem QK{α β:Type}(f:α->Option β):∀(xs:List α),(List.range xs.length).filterMap (λi=>(xs[i]?).bind f)=xs.filterMap f
 | []=>rfl
 | x::xs=>by
  rw[List.length_cons,List.range_succ_eq_map,List.filterMap_cons];simp only[List.getElem?_cons_zero,Option.bind_some,List.filterMap_map,List.filterMap_cons];have e:((λi=>((x::xs)[i]?).bind f) ∘ Nat.succ)=λi=>(xs[i]?).bind f:=by
   funext i
   simp
  rw[e,QK f xs]
theorem Zjq{A:Wa}{M:Wm}{T:Tg}{s:Nat}(j:WJ X H T s A M)(f:V->Option V)(hf:∀(i:Nat) (c:Ce),M.cells[i]? =some (some c)->f (.int i)=(u9 M i).map λ_=>V.int i):((DG (A.cs.map pV)).map V.int).filterMap f=(t7 M).map V.int:=by
 unfold DG t7;rw[List.filterMap_map,List.filterMap_map,List.filterMap_filter,List.map_filterMap,bx,j.jc.lc];refine vA λi hi=>?_;have hil:=List.mem_range.mp hi;have e:(A.cs.map pV)[i]? =some V.non↔M.cells[i]? =some none:=by
  constructor
  ·intro z;cases hc:M.cells[i]with
   | none=>rw[bM hil,hc]
   | some c=>
    obtain⟨p,hp,_⟩:=j.jc.at (i:=i) (c:=c) (by rw[bM hil,hc]);rw[dj,hp]at z;cases z
  ·intro z;rw[dj,j.jc.at0 z];rfl
 by_cases z:M.cells[i]? =some none
 ·rw[if_neg (by simp[e.mpr z])];unfold u9;rw[z];rfl
 ·have hne:¬ (A.cs.map pV)[i]? =some V.non:=λy=>z (e.mp y);rw[if_pos (by simp only[hne,decide_false,Bool.not_false])];cases hc:M.cells[i]with
  | none=>exact absurd (by rw[bM hil,hc]) z
  | some c=>
   show f (.int (i:Int))=_;rw[hf i c (by rw[bM hil,hc]),Option.map_map];rfl
theorem Zde{wo:AH}(Tx:rY K X)(q:∃T s A M,WJ X H T s A M/\A.wo=wo/\M.cells.length<=900/\∀l H',bz H H'->H l=none->H' l=some (.lst ((t7 M).map V.int))->Q (.ref l) H'):
  Ck K X.H (jl X.H) (di X) ξ [↑wo,none] H:=by
 obtain⟨T,s,A,M,j,rfl,hc,q⟩:=q;obtain⟨dw,ow⟩:=j.jb.ow;obtain⟨dh,oh⟩:=j.jh.oh;unfold Ck;apply aH ow Tx.cW Tx.M6 bF ?_;apply W2 ?_;exists A.hp,dh,_,rfl,oh,nZ;apply⟨_,rfl,A.ca,M.room,M.used,M.born,_,j.hpO,by rw[bx,j.jc.lc];omega,λlt nlt=>?_⟩;generalize zz:upd H lt _=H1;obtain⟨s1,g1⟩:=nwO nlt zz;have j1:=j.same s1;have lp:(DG (A.cs.map pV)).length<=900:=by
  unfold DG;rw[bx];refine Nat.le_trans (List.length_filter_le _ _) ?_;rw[List.length_range,bx,j.jc.lc];exact hc
 refine⟨lt,rfl,⟨_,cC.of g1⟩,?_⟩
 let f:V->Option V:=λv=>match v with
  | .int p=>(u9 M p.toNat).map λ_=>V.int p
  | _=>none
 refine Zu (cC.of g1) (λi=>(((DG (A.cs.map pV)).map V.int)[i]?).bind f) (by rw[bx];omega) (λi x hi=>?_) ?_
 ·rw[dj]at hi;obtain⟨p,hp,rfl⟩:=Option.map_eq_some_iff.mp hi;have hm:=List.mem_of_getElem? hp;unfold DG at hm;obtain⟨k,hk,rfl⟩:=List.mem_map.mp hm;obtain⟨hk1,hk2⟩:=List.mem_filter.mp hk;have hkl:k<M.cells.length:=by
   have:=List.mem_range.mp hk1;rw[bx,j.jc.lc]at this;exact this
  obtain⟨c,hcc⟩:∃c,M.cells[k]? =some (some c):=by
   cases h3:M.cells[k]with
   | none=>
    exfalso
    have:(A.cs.map pV)[k]? =some V.non:=by rw[dj,j.jc.at0 (i:=k) (by rw[bM hkl,h3])];rfl
    simp[this]at hk2
   | some c=>exact⟨c,by rw[bM hkl,h3]⟩
  obtain⟨pp,hpp,ce⟩:=j1.jc.at hcc;have ef:(((DG (A.cs.map pV)).map V.int)[i]?).bind f=(u9 M k).map λ_=>V.int (k:Int):=by
   rw[dj,hp];show(u9 M (Int.toNat k)).map _=_;rw[Int.toNat_natCast]
  have ep:(u9 M k)=if c.tone=M.sw.sense then none else some c:=by unfold u9;rw[hcc];rfl
  obtain⟨dh1,oh1⟩:=j1.jh.oh;refine⟨λq hq=>?_,λy q hy hq=>?_⟩
  ·rw[ef,ep]at hq;walk_at"c";apply aH oh1 Tx.c.cP Tx.c.bT cA ?_;apply lX (cC.of j1.jh.oc) (kW (v:=.ref pp.1) (by rw[dj,hpp];rfl)) ?_;exists _,_,rfl,T,s,A,M,_,pp,c,j1.w0,rfl,ce,rfl;ext
   by_cases z:c.tone=M.sw.sense
   ·rw[if_pos z]at hq;rw[decide_eq_true z];exact hq
   ·rw[if_neg z]at hq;rw[decide_eq_false z];exact hq
  ·rw[ef]at hy;obtain⟨_,_,rfl⟩:=Option.map_eq_some_iff.mp hy;walk_at"c";apply hq
 ·intro p np;rw[QK f,Zjq j f (λi c hc=>by show(u9 M (Int.toNat i)).map _=_;rw[Int.toNat_natCast])];exact q p _ (s1.trans (aL np _)) (s1.free np) aq
theorem Ob{wo:AH}(Tx:rY K X)(q:Dr X (O5 "rest") wo H Q):tY K (PN X) (lF X) ξ [↑wo,none] H:=by
 obtain⟨T,s,A,M,lb,lw,w,s0,j,rfl,ok,ph,lo,q⟩:=q;unfold tY;apply⟨_,rfl,T,s,A,M,w,s0,j,rfl,λH1 T1 A1 st1 j1 aw1=>?_⟩;obtain⟨dw,ow⟩:=j1.jb.ow;obtain⟨ds,os⟩:=j1.js.os;rw[aw1.1]at ow;apply aH ow Tx.cW Tx.Ro bA ?_;apply aH os Tx.cS Tx.n4 jT ?_;apply⟨_,_,rfl,T1,s,A1,_,st1.wt,s0,j1,aw1.1,ok.hl,λ_=>Nat.zero_le _,λH2 T2 l st2 j2 g2 UG=>?_⟩;have j2:WJ X H2 T2 s A1 (iJ (jz M.w M.hands.length) M.hands 0 (pU M)).2:=j2;have g2:H2 l=some (.lst ((iJ (jz M.w M.hands.length) M.hands 0 (pU M)).1.map V.int)):=g2;obtain⟨dw2,ow2⟩:=j2.jb.ow;obtain⟨ds2,os2⟩:=j2.js.os;rw[aw1.1]at ow2;have hnt:=Znf (jz M.w M.hands.length) M.hands 0 (pU M);apply aH ow2 Tx.cW Tx.Ro bA ?_;apply aH os2 Tx.cS Tx.n5 uL ?_;apply⟨aU ζ,λa na=>?_⟩;rw[hnt.1];have s3:=aL na (.tup [.str "begin",.int (M.sw.turn+1),.ref l]);refine q _ _ (.begin ph) _ T2 A1 a (st1.trans (st2.trans (d7.same st2.wt s3))) (j2.same s3) aw1 ⟨l,⟨d7.free st1 UG.1,UG.2⟩,aq,s3 _ _ g2⟩ λz=>?_;have:=(Dd (jz M.w M.hands.length) 100 M.hands 0 (pU M) ok.hl).1;rw[this]at z;exact absurd z (show ¬ ("walk":Str)="lost" by decide)
end
def uE(X:Cs):Sp:=λvs H Q E=>∃wo,vs=[.ref wo]/\∃T s A M,WT H T/\s≠0/\WJ X H T s A M/\A.wo=wo/\Zhv M/\
 (∀q qs H',KB.Td (fdOf M) (jx M) q q.length qs->(∀x∈qs,∀c,cellAt M x.1=some c->c.tone=M.sw.sense)->bz H H'->Q .non H')/\
 (∀q qs (i:Nat) x c a wl H',KB.Td (fdOf M) (jx M) q q.length qs->qs[i]? =some x->(∀(k:Nat) y d,k<i->qs[k]? =some y->cellAt M y.1=some d->d.tone=M.sw.sense)->cellAt M x.1=some c->c.tone≠M.sw.sense->bz H H'->H a=none->H wl=none->H' a=some (.tup [.str "lost",.int c.birth,.ref wl])->H' wl=some (.lst (x.2.map V.int))->Q (.ref a) H')
section
variable {K:aC}{X:Cs}{H:Hp}{Q:VK}{E:XK}{n:ν}{bk ct:ν}
theorem Zm2{α:Type}(f:α->Nat)(B:Nat):∀(xs:List α),(∀x∈xs,f x<=B)->(xs.map f).sum<=xs.length * B
 | [],_=>ζ
 | x::xs,h=>by
  have h1:=h x ζ;have h2:=Zm2 f B xs λy hy=>h y (by simp[hy]);rw[List.map_cons,List.sum_cons,List.length_cons,Nat.succ_mul];omega
theorem Zu5{α β:Type}(f:α->List β)(B:Nat):∀(xs:List α),(∀x∈xs,(f x).length<=B)->(xs.flatMap f).length<=xs.length * B
 | [],_=>ζ
 | x::xs,h=>by
  have h1:=h x ζ;have h2:=Zu5 f B xs λy hy=>h y (by simp[hy]);rw[List.flatMap_cons,List.length_append,List.length_cons,Nat.succ_mul];omega
theorem Zp6{M:Wm}{T:Tg}{s:Nat}{A:Wa}(j:WJ X H T s A M)(ok:Zhv M):Few (fdOf M) (jx M):=by
 have l5:=j.jd.l5;have lh:=j.jd.lh;have hl:(heldOf M).length=M.hands.length:=by unfold heldOf;rw[bx]
 have hr:(jx M).length<=31:=by unfold jx;rw[List.length_append,hl,<- lh];simp;omega
 have hrow:∀x∈jx M,x.length<=900:=λx hx=>by
  unfold jx at hx;rcases List.mem_append.mp hx with hx | hx
  ·obtain⟨m,hm,rfl⟩:=List.mem_map.mp hx;exact Nat.le_trans (ok.hl m hm) ε
  ·rw[List.mem_singleton.mp hx];unfold uR;rw[bx];exact ok.nl
 have hf:(fdOf M).length=M.cells.length:=by unfold fdOf;rw[bx]
 have hcl:=ok.cl;have hfl:∀(i:Nat) x,(fdOf M)[i]? =some x->KB.wgt x<=50:=λi x hx=>by
  unfold fdOf at hx;rw[dj]at hx;obtain⟨o,ho,rfl⟩:=Option.map_eq_some_iff.mp hx;cases o with
  | none=>exact Nat.zero_le _
  | some c=>exact ok.fl c (List.mem_of_getElem? ho)
 refine⟨δ,λp fl hp=>?_,δ,λx hx=>by have:=hrow x hx;omega,?_⟩
 ·rw[Zp9]at hp;obtain⟨c,hc,rfl⟩:=Option.map_eq_some_iff.mp hp;have:=ok.fl c (vH hc);omega
 ·unfold KB.total;have h1:(KB.q0 (fdOf M) 0 (jx M)).length<=31 * 900:=by
   unfold KB.q0;refine Nat.le_trans (Zu5 _ 900 _ λx hx=>?_) (by rw[List.length_zipIdx];exact Nat.mul_le_mul_right _ hr);refine Nat.le_trans KB.O6 (hrow x.1 ?_);obtain⟨_,h2⟩:=List.mem_zipIdx_iff_le_and_getElem?_sub.mp hx;exact List.mem_of_getElem? h2
  have h2:KB.Zel (fdOf M) []<=900 * 50:=by
   unfold KB.Zel;refine Nat.le_trans (Zm2 _ 50 _ λx hx=>?_) (by rw[List.length_zipIdx,hf];exact Nat.mul_le_mul_right _ hcl);obtain⟨_,h2⟩:=List.mem_zipIdx_iff_le_and_getElem?_sub.mp hx;simp only[List.map_nil,List.not_mem_nil,↓reduceIte];exact hfl _ _ h2
  omega
theorem Zi9{M:Wm}:∀{rows:List Au}{ls:AE},ls.length=rows.length->(∀(j:Nat) r x,ls[j]? =some r->rows[j]? =some x->H r=some (.lst (x.map oV)))->Gw K H ls rows
 | [],[],_,_=>trivial
 | [],_::_,h,_=>by simp at h
 | _::_,[],h,_=>by simp at h
 | x::rows,r::ls,h,g=>⟨cC.of (g 0 r x rfl rfl),Zi9 (M:=M) (by simpa using h) λj r x e1 e2=>g (j+1) r x (by simpa using e1) (by simpa using e2)⟩
theorem Vp{wo:AH}(Tx:rY K X)(q:∃T s A M,WT H T/\s≠0/\WJ X H T s A M/\A.wo=wo/\Zhv M/\
 (∀q qs H',KB.Td (fdOf M) (jx M) q q.length qs->(∀x∈qs,∀c,cellAt M x.1=some c->c.tone=M.sw.sense)->bz H H'->Q .non H')/\
 (∀q qs (i:Nat) x c a wl H',KB.Td (fdOf M) (jx M) q q.length qs->qs[i]? =some x->(∀(k:Nat) y d,k<i->qs[k]? =some y->cellAt M y.1=some d->d.tone=M.sw.sense)->cellAt M x.1=some c->c.tone≠M.sw.sense->bz H H'->H a=none->H wl=none->H' a=some (.tup [.str "lost",.int c.birth,.ref wl])->H' wl=some (.lst (x.2.map V.int))->Q (.ref a) H')):
  xG K (di X) (DX K X.C X.H) (Pu X) ξ [↑wo,none,none,none] H:=by
 obtain⟨T,s,A,M,w,s0,j,rfl,ok,q1,q2⟩:=q;obtain⟨dw,ow⟩:=j.jb.ow;have l5:=j.jd.l5;have lh:=j.jd.lh;have nl:=ok.nl;unfold xG;apply aH ow Tx.cW Tx.M6 bF ?_;apply⟨_,rfl,T,s,A,M,s0,j,rfl,δ,δ,λra rs H1 s1 nra ora lrs nrs nrl g1=>?_⟩;apply⟨A.hp,ra,fdOf M,rs,jx M,rfl,(j.same s1).w0.hv,cC.of ora,Zi9 (M:=M) lrs g1,Zp6 j ok,λl ts q qs H2 bf UG s2 ol qa=>?_⟩;have s02:=s1.trans s2;have j2:=j.same s02;have good:=bf.good.2;have hlq:=qa.len;obtain⟨dw2,ow2⟩:=j2.jb.ow;obtain⟨dh2,oh2⟩:=j2.jh.oh;refine⟨l,rfl,⟨_,cC.of ol⟩,forL (ts.map V.ref) (λi σ Hx=>∃v1 v2 v3,σ=[↑A.wo,v1,v2,v3]/\Hx=H2/\∀(k:Nat) y d,k<i->qs[k]? =some y->cellAt M y.1=some d->d.tone=M.sw.sense) ⟨_,_,_,rfl,rfl,λk y d hk=>absurd hk (Nat.not_lt_zero _)⟩ (λ_ _ _ _ ⟨_,_,_,_,z,_⟩=>by rw[z];exact cC.of ol) ?_ ?_⟩
 ·rintro i x σ Hx hi ⟨v1,v2,v3,rfl,rfl,hno⟩;rw[dj]at hi;obtain⟨t,ht,rfl⟩:=Option.map_eq_some_iff.mp hi;have hil:i<qs.length:=by rw[<- hlq];exact(fH ht).1
  obtain⟨t',wa,et,ot,owa⟩:=qa.at (bM hil);rw[ht]at et;cases et;have hx:qs[i]? =some qs[i]:=bM hil;generalize qs[i]=x at hx ot owa;obtain⟨fl,hfl⟩:=Option.isSome_iff_exists.mp (good x (List.mem_of_getElem? hx)).there;rw[Zp9]at hfl;obtain⟨c,hc,_⟩:=Option.map_eq_some_iff.mp hfl;obtain⟨x0,hcc⟩:=cV.mp hc;obtain⟨pp,hpp,ce⟩:=j2.jc.at hcc;obtain⟨_,_,⟨dc,oc⟩,_⟩:=id ce;refine⟨t,_,rfl,fM.of ot,rfl,?_⟩;refine⟨_,_,rfl,?_⟩;exists _,_,rfl;exists rfl;apply aH ow2 Tx.cW Tx.M6 bF ?_;refine aH oh2 Tx.c.cP Tx.c.bT cA ?_;apply lX (cC.of j2.jh.oc) (uC (v:=.ref pp.1) x0 (by rw[dj,hpp];rfl)) ?_;exists _,_,rfl,T,s,A,M,_,pp,c,j2.w0,rfl,ce,rfl;apply Gn (λz=>?_) (λz=>?_)
  ·apply aH oc Tx.c.dB Tx.c.dZ gR ?_;apply Zsg (fM.of owa) λwl nwl=>?_;generalize zz:upd Hx wl _=H3;obtain⟨s3,g3⟩:=nwO nwl zz;apply⟨aU ζ,λa na=>?_⟩;have s4:=aL na (.tup [.str "lost",.int c.birth,.ref wl]);exact q2 q qs i x c a wl _ bf hx hno hc z (s02.trans (s3.trans s4)) (s02.free (s3.free na)) (s02.free nwl) aq (s4 _ _ g3)
  ·apply⟨_,_,_,rfl,rfl,λk y d hk e1 e2=>?_⟩
   by_cases h:k<i
   ·exact hno k y d h e1 e2
   ·have:k=i:=δ
    subst this;rw[hx]at e1;cases e1;rw[hc]at e2;cases e2;exact z
 ·rintro σ Hx ⟨v1,v2,v3,rfl,rfl,hno⟩;rw[bx,hlq]at hno;apply q1 q qs Hx bf (λx hx c hc=>?_) s02;obtain⟨k,hk,e⟩:=List.getElem_of_mem hx;exact hno k x c hk (by rw[bM hk,e]) hc
theorem YQ{M:Wm}:((t7 M).map some).map (Fg M)=(fJ M).map some:=by
 unfold t7 fJ;rw[List.map_map,List.map_filterMap,List.map_filterMap];refine vA λi hi=>?_;rw[Option.map_map,Option.map_map];cases hp:u9 M i with
 | none=>rfl
 | some c=>
  unfold u9 at hp;obtain⟨d,hd,e⟩:=Option.bind_eq_some_iff.mp hp;have hdc:d=c:=by
   split at e
   ·cases e
   ·exact Option.some.inj e
  subst hdc;show some (Fg M (some (i:Int)))=some (some d.birth);have:cellAt M (i:Int)=some d:=by
   unfold cellAt;rw[if_pos δ,Int.toNat_natCast,hd]
  show some ((cellAt M (i:Int)).map _)=_;rw[this];rfl
theorem QM{M:Wm}(h:M.cells.length<=900):(fJ M).length<=900/\(t7 M).length<=900:=by
 unfold fJ t7;have h1:=List.length_filterMap_le (λi=>(u9 M i).map (·.birth)) (List.range M.cells.length);have h2:=List.length_filterMap_le (λ(i:Nat)=>(u9 M i).map λ_=>(i:Int)) (List.range M.cells.length);rw[List.length_range]at h1 h2;exact⟨δ,δ⟩
theorem Zww{wo:AH}(Tx:rY K X)(q:Dr X Zfw wo H Q):Zfp K (wN X) (uE X) (Ar X) (mV K) ξ [↑wo,none,none,none] H:=by
 obtain⟨T,s,A,M,lb,lw,w,s0,j,rfl,ok,⟨ph,gr,cd⟩,lo,q⟩:=q;obtain⟨dw,ow⟩:=j.jb.ow;obtain⟨ds,os⟩:=j.js.os;obtain⟨dh,oh⟩:=j.jh.oh;have hcl:=ok.cl;unfold Zfp;apply aH ow Tx.cW Tx.Ro bA ?_;apply aH ow Tx.cW Tx.M6 bF ?_;refine aH oh Tx.c.cP Tx.c.bT cA ?_;apply fK (cC.of j.jh.oc) ?_;rw[bx,j.jc.lc];apply⟨A.sw,X.S,ds,_,rfl,os,Tx.cS,Tx.n7,by show 11<1000;decide,?_⟩;rw[N5];apply⟨A.sw,X.S,ds,_,rfl,aq,Tx.cS,Tx.n6,by show 11<1000;decide,?_⟩;rw[En,eZ];obtain⟨st1,j1⟩:=j.sweep w s0 (dx:=ds) { M.sw with stop:=M.cells.length,at':=0 } rfl;have j1:WJ X _ T s A (jk M):=j1;generalize upd H A.sw (.ins X.S ds (cH M.sw.sense M.sw.phase A.gr M.sw.looked M.sw.turn 0 M.cells.length M.sw.walks M.sw.looks M.sw.passes M.sw.loss))=H1 at st1 j1 ⊢;have ok1:Zhv (jk M):=⟨ok.cl,ok.hl,ok.fl,ok.nl,ok.gl,ok.gc,ok.ph,Int.le_refl _⟩;apply⟨_,rfl,T,s,A,jk M,st1.wt,s0,j1,rfl,ok1,λq' qs H2 bf hno s2=>?_,λq' qs i x c a wl H2 bf hx hno hc ht s2 na nwl oa owl=>?_⟩
 ·have j2:=j1.same s2;obtain⟨dw2,ow2⟩:=j2.jb.ow;obtain⟨ds2,os2⟩:=j2.js.os;apply⟨A.sw,X.S,ds2,_,rfl,os2,Tx.cS,Tx.n2,by show 11<1000;decide,?_⟩;rw[oH];obtain⟨st3,j3⟩:=j2.sweep (st1.wt.same s2) s0 (dx:=ds2) { (jk M).sw with phase:="give" } rfl;have j3:WJ X _ T s A { jk M with sw:={ (jk M).sw with phase:="give" } }:=j3;generalize upd H2 A.sw (.ins X.S ds2 (cH (jk M).sw.sense "give" A.gr (jk M).sw.looked (jk M).sw.turn (jk M).sw.at' (jk M).sw.stop (jk M).sw.walks (jk M).sw.looks (jk M).sw.passes (jk M).sw.loss))=H3 at st3 j3 ⊢;obtain⟨dw3,ow3⟩:=j3.jb.ow;obtain⟨ob,ol⟩:=QM hcl;apply aH ow3 Tx.cW Tx.M6 bF ?_;apply⟨_,rfl,T,s,A,_,j3,rfl,hcl,λl4 H4 s4 nl4 g4=>?_⟩;have e4:(t7 { jk M with sw:={ (jk M).sw with phase:="give" } }).map V.int=((t7 M).map some).map oV:=by
   rw[List.map_map];rfl
  rw[e4]at g4;apply⟨A.hp,l4,rfl,T,s,A,_,(t7 M).map some,j3.same s4,rfl,g4,by rw[bx];omega,λl5 nl5=>?_⟩;have e5:(((t7 M).map some).map (Fg { jk M with sw:={ (jk M).sw with phase:="give" } })).map oV=(fJ M).map V.int:=by
   have:Fg { jk M with sw:={ (jk M).sw with phase:="give" } }=Fg M:=by funext x;cases x<;>rfl
   rw[this,YQ,List.map_map];rfl
  rw[e5];generalize zz:upd H4 l5 _=H5;obtain⟨s5,g5⟩:=nwO nl5 zz;apply fK (cC.of g5) ?_;rw[bx];apply⟨aU ζ,λa na=>?_⟩;have s6:=aL na (.tup [.str "cut",.int (fJ M).length,.ref l5]);have s35:=s4.trans (s5.trans s6);have fr:H l5=none:=d7.free st1 (s2.free (d7.free st3 (s4.free nl5)));exact q _ _ (.cut q' qs ph gr cd bf hno) _ T A a (st1.trans ((d7.same st1.wt s2).trans (st3.trans (d7.same st3.wt s35)))) (j3.same s35) ⟨rfl,rfl⟩ ⟨l5,Zem w s0 fr,aq,s6 _ _ g5⟩ λz=>absurd z (show ¬ ("give":Str)="lost" by decide)
 ·have j2:=j1.same s2;have w2:=st1.wt.same s2;obtain⟨ds2,os2⟩:=j2.js.os;apply⟨A.sw,X.S,ds2,_,rfl,os2,Tx.cS,Tx.n2,by show 11<1000;decide,?_⟩;rw[oH];apply⟨A.sw,X.S,ds2,_,rfl,aq,Tx.cS,Tx.n11,by show 11<1000;decide,?_⟩;rw[N6,eZ];obtain⟨st3,j3⟩:=j2.sweep w2 s0 (dx:=ds2) { (jk M).sw with phase:="lost",loss:=.ref a } rfl;have j3:WJ X _ T s A { jk M with sw:={ (jk M).sw with phase:="lost",loss:=.ref a } }:=j3;have ta:T a=(0,0):=st1.wt _ na;have tw:T wl=(0,0):=st1.wt _ nwl;have oa3:upd H2 A.sw (.ins X.S ds2 (cH (jk M).sw.sense "lost" A.gr (jk M).sw.looked (jk M).sw.turn (jk M).sw.at' (jk M).sw.stop (jk M).sw.walks (jk M).sw.looks (jk M).sw.passes (.ref a))) a=some (.tup [.str "lost",.int c.birth,.ref wl]):=(aB (qG oa os2 (λz=>by cases z))).trans oa;have Zv0:upd H2 A.sw (.ins X.S ds2 (cH (jk M).sw.sense "lost" A.gr (jk M).sw.looked (jk M).sw.turn (jk M).sw.at' (jk M).sw.stop (jk M).sw.walks (jk M).sw.looks (jk M).sw.passes (.ref a))) wl=some (.lst (x.2.map V.int)):=(aB (qG owl os2 (λz=>by cases z))).trans owl;generalize upd H2 A.sw (.ins X.S ds2 (cH (jk M).sw.sense "lost" A.gr (jk M).sw.looked (jk M).sw.turn (jk M).sw.at' (jk M).sw.stop (jk M).sw.walks (jk M).sw.looks (jk M).sw.passes (.ref a)))=H3 at st3 j3 oa3 Zv0 ⊢;apply⟨a,rfl,"lost",c.birth,wl,x.2,oa3,Zv0,λa' l' H4 s4 nl' oa' ol'=>?_⟩;have fr:H l'=none:=d7.free st1 (s2.free (d7.free st3 nl'));exact q _ _ (.lost q' qs i x c (.ref a) ph gr cd bf hx hno hc ht) _ T A a' (st1.trans ((d7.same st1.wt s2).trans (st3.trans (d7.same st3.wt s4)))) (j3.same s4) ⟨rfl,rfl⟩ ⟨l',Zem w s0 fr,oa',ol'⟩ λ_=>⟨c.birth,rfl,a,wl,rfl,ta,s4 _ _ oa3,tw,s4 _ _ Zv0⟩
end
section
variable {K:aC}{X:Cs}{H:Hp}{Q:VK}{E:XK}{n:ν}{bk ct:ν}
theorem Zpy{wo:AH}(Tx:rY K X)(q:Dr X Zby wo H Q):Yz K (fO X) ξ [↑wo,none,none] H:=by
 obtain⟨T,s,A,M,lb,lw,w,s0,j,rfl,ok,⟨ph,gr⟩,lo,q⟩:=q;obtain⟨dw,ow⟩:=j.jb.ow;obtain⟨ds,os⟩:=j.js.os;obtain⟨dh,oh⟩:=j.jh.oh;have og:=j.js.og;cases hg:M.sw.grey with
 | nil=>exact absurd hg gr
 | cons x g=>
  obtain⟨c,hc⟩:=ok.gc ph x (by rw[hg];simp);obtain⟨x0,hcc⟩:=cV.mp hc;have hgl:=ok.gl ph;have hfl:=ok.fl c (vH hc);rw[hg]at og;unfold Yz;apply aH ow Tx.cW Tx.Ro bA ?_;apply aH ow Tx.cW Tx.M6 bF ?_;refine aH oh Tx.c.cP Tx.c.bT cA ?_;apply aH os Tx.cS Tx.n3 uM ?_;exists .inl ⟨rfl,_,cC.of og⟩;exists A.gr,_,0,0,.int x,rfl,rfl,og,ε,ε,by simp[seqIndex?],rfl;obtain⟨st1,j1⟩:=j.Zu1 w s0 (g:=g);show qb K _ _ (upd H A.gr (.lst (g.map V.int))) _;generalize upd H A.gr (.lst (g.map V.int))=H1 at st1 j1 ⊢;obtain⟨pp,hpp,ce⟩:=j1.jc.at (i:=x.toNat) (c:=c) hcc;refine lX (cC.of j1.jh.oc) (uC (v:=.ref pp.1) x0 (by rw[dj,hpp];rfl)) ?_;obtain⟨ds1,os1⟩:=j1.js.os;apply aH os1 Tx.cS Tx.n8 Bb ?_;apply⟨A.sw,X.S,ds1,_,rfl,os1,Tx.cS,Tx.n8,by show 11<1000;decide,?_⟩;rw[yz];obtain⟨st2,j2⟩:=j1.sweep st1.wt s0 (dx:=ds1) { M.sw with grey:=g,walks:=M.sw.walks+1 } rfl;have j2:WJ X _ T s A { M with sw:={ M.sw with grey:=g,walks:=M.sw.walks+1 } }:=j2;generalize upd H1 A.sw _=H2 at st2 j2 ⊢;obtain⟨pp2,Zyz,ce2⟩:=j2.jc.at (i:=x.toNat) (c:=c) hcc;rw[hpp]at Zyz;cases Zyz;obtain⟨_,_,⟨dc,oc⟩,of'⟩:=id ce2;apply aH oc Tx.c.dB Tx.c.dZ gR ?_;apply aH oc Tx.c.dB Tx.c.fW nj ?_;apply⟨_,_,rfl,c.fl,T,s,A,_,st2.wt,s0,j2,rfl,.inr (.inr ⟨x.toNat,pp,c,hpp,hcc,rfl,rfl⟩),δ,λ_=>?_,λH3 T3 l st3 j3 g3 nl3=>?_⟩
  ·show g.length<=10000;rw[hg,List.length_cons]at hgl;omega
  apply⟨aU ζ,λa na=>?_⟩;have s4:=aL na (.tup [.str "walk",.int c.birth,.ref l]);refine q _ _ (.walk x g c ph hg hc) _ T3 A a (st1.trans (st2.trans (st3.trans (d7.same st3.wt s4)))) (j3.same s4) ⟨rfl,rfl⟩ ⟨l,⟨d7.free st1 (d7.free st2 nl3.1),nl3.2⟩,aq,s4 _ _ g3⟩ λz=>?_;rw[(wC (l:=c.fl) (M:={ M with sw:={ M.sw with grey:=g,walks:=M.sw.walks+1 } })).1]at z;exact absurd (ph.symm.trans z) (show ¬ ("walk":Str)="lost" by decide)
theorem Uj{wo:AH}(Tx:rY K X)(q:Dr X Zbz wo H Q):xu K X.H (tG X.C X.H) (d8 X.H) (di X) ξ [↑wo,none,none,none] H:=by
 obtain⟨T,s,A,M,lb,lw,w,s0,j,rfl,ok,⟨ph,lt⟩,lo,q⟩:=q;obtain⟨dw,ow⟩:=j.jb.ow;obtain⟨ds,os⟩:=j.js.os;unfold xu;apply aH ow Tx.cW Tx.Ro bA ?_;apply aH os Tx.cS Tx.n6 GR ?_;apply⟨A.sw,X.S,ds,_,rfl,os,Tx.cS,Tx.n6,by show 11<1000;decide,?_⟩;rw[En];apply aH aq Tx.cS Tx.n10 yC ?_;apply⟨A.sw,X.S,ds,_,rfl,aq,Tx.cS,Tx.n10,by show 11<1000;decide,?_⟩;rw[vX,eZ];obtain⟨st1,j1⟩:=j.sweep w s0 (dx:=ds) { M.sw with at':=M.sw.at'+1,passes:=M.sw.passes+1 } rfl;generalize upd H A.sw _=H1 at st1 j1 ⊢;obtain⟨dw1,ow1⟩:=j1.jb.ow;obtain⟨dh1,oh1⟩:=j1.jh.oh;apply aH ow1 Tx.cW Tx.M6 bF ?_;exists _,_,rfl,yF (some M.sw.at'),_,_,_,_,_,j1.hpO;have pas:(∀c,cellAt M M.sw.at'=some c->c.tone=M.sw.sense)->∀l a H2,H1 l=none->bz H1 H2->H2 a=some (.tup [.str "pass",.int M.sw.at',.ref l])->H2 l=some (.lst [])->Q (.ref a) H2:=λhp l a H2 nl s2 oa ol=>
  q _ _ (.pass ph lt hp) _ T A a (st1.trans (d7.same st1.wt s2)) (j1.same s2) ⟨rfl,rfl⟩ ⟨l,Zem w s0 (d7.free st1 nl),oa,ol⟩ λz=>absurd (ph.symm.trans z) (show ¬ ("give":Str)="lost" by decide)
 rcases j1.look (some M.sw.at')with ⟨e1,e2⟩ | ⟨i,c,pp,ei,h0,ec,hcc,hpp,e2,ce⟩
 ·have e1:cellAt M M.sw.at'=none:=e1;rw[show atO (A.cs.map pV) (.int M.sw.at')=.non from e2];apply⟨aU ζ,λl nl=>⟨aU ζ,λa na=>?_⟩⟩;have s2:=aL nl (.lst []);have s3:=aL na (.tup [.str "pass",.int M.sw.at',.ref l]);exact pas (λc hc=>by rw[e1]at hc;cases hc) l a _ nl (s2.trans s3) aq (s3 _ _ aq)
 ·cases ei;have ec:cellAt M M.sw.at'=some c:=ec;rw[show atO (A.cs.map pV) (.int M.sw.at')=.ref pp.1 from e2];exists _,_,rfl,T,s,A,_,_,pp,c,j1.w0,rfl,ce,rfl
  by_cases z:c.tone=M.sw.sense
  ·rw[decide_eq_true (show c.tone=({ M.sw with at':=M.sw.at'+1,passes:=M.sw.passes+1 }:Sw).sense from z)];apply⟨aU ζ,λl nl=>⟨aU ζ,λa na=>?_⟩⟩;have s2:=aL nl (.lst []);have s3:=aL na (.tup [.str "pass",.int M.sw.at',.ref l]);exact pas (λd hd=>by rw[ec]at hd;cases hd;exact z) l a _ nl (s2.trans s3) aq (s3 _ _ aq)
  ·rw[decide_eq_false (show ¬ c.tone=({ M.sw with at':=M.sw.at'+1,passes:=M.sw.passes+1 }:Sw).sense from z)];obtain⟨k,ek⟩:=toN h0;have hk:M.cells[k]? =some (some c):=by rw[ek,Int.toNat_natCast]at hcc;exact hcc
   apply aH ow1 Tx.cW Tx.M6 bF ?_;exists A.hp,dh1,_,rfl,oh1,Vm;ext;rw[ek];refine Zkz j1 st1.wt s0 hk λH2 A2 st2 j2 aw2=>?_;apply⟨aU ζ,λl nl=>⟨aU ζ,λa na=>?_⟩⟩;have s3:=aL nl (.lst [.int (k:Int)]);have s4:=aL na (.tup [.str "back",.int c.birth,.ref l]);have s34:=s3.trans s4;have rr:=vJ.back (lb:=lb) (lw:=lw) (M:=M) c ph lt ec z;rw[ek,Int.toNat_natCast]at rr;rw[ek]at j2;exact q _ _ rr _ T A2 a (st1.trans (st2.trans (d7.same st2.wt s34))) (j2.same s34) aw2 ⟨l,Zem w s0 (d7.free st1 (d7.free st2 nl)),aq,s4 _ _ aq⟩ λy=>absurd (ph.symm.trans y) (show ¬ ("give":Str)="lost" by decide)
theorem Zwt{wo:AH}(Tx:rY K X)(q:Dr X pEnd wo H Q):Zfo K ξ [↑wo,none] H:=by
 obtain⟨T,s,A,M,lb,lw,w,s0,j,rfl,ok,⟨ph,lt⟩,lo,q⟩:=q;obtain⟨dw,ow⟩:=j.jb.ow;obtain⟨ds,os⟩:=j.js.os;unfold Zfo;apply aH ow Tx.cW Tx.Ro bA ?_;apply⟨A.sw,X.S,ds,_,rfl,os,Tx.cS,Tx.n2,by show 11<1000;decide,?_⟩;rw[oH];obtain⟨st1,j1⟩:=j.sweep w s0 (dx:=ds) { M.sw with phase:="rest" } rfl;generalize upd H A.sw _=H1 at st1 j1 ⊢;obtain⟨ds1,os1⟩:=j1.js.os;apply aH os1 Tx.cS Tx.n5 uL ?_;apply aH os1 Tx.cS Tx.n8 Bb ?_;apply aH os1 Tx.cS Tx.n9 tM ?_;apply aH os1 Tx.cS Tx.n10 yC ?_;apply⟨aU ζ,λl nl=>⟨aU ζ,λa na=>?_⟩⟩;have s2:=aL nl (.lst [.int M.sw.walks,.int M.sw.looks,.int M.sw.passes]);have s3:=aL na (.tup [.str "end",.int M.sw.turn,.ref l]);have s23:=s2.trans s3;exact q _ _ (.fin ph lt) _ T A a (st1.trans (d7.same st1.wt s23)) (j1.same s23) ⟨rfl,rfl⟩ ⟨l,Zem w s0 (d7.free st1 nl),aq,s3 _ _ aq⟩ λz=>absurd z (show ¬ ("rest":Str)="lost" by decide)
theorem Oa{wo:AH}(Tx:rY K X)(q:Dr X (O5 "give") wo H Q):tX K (bZ X pEnd) (bZ X Zbz) ξ [↑wo] H:=by
 obtain⟨T,s,A,M,lb,lw,w,s0,j,rfl,ok,ph,lo,q⟩:=q;obtain⟨dw,ow⟩:=j.jb.ow;obtain⟨ds,os⟩:=j.js.os;unfold tX;apply aH ow Tx.cW Tx.Ro bA ?_;apply aH os Tx.cS Tx.n6 GR ?_;apply aH ow Tx.cW Tx.Ro bA ?_;apply aH os Tx.cS Tx.n7 Qf ?_;apply qM (λz=>?_) (λz=>?_)
 ·apply⟨_,rfl,T,s,A,M,lb,lw,w,s0,j,rfl,ok,⟨ph,z⟩,lo,q⟩
 ·apply⟨_,rfl,T,s,A,M,lb,lw,w,s0,j,rfl,ok,⟨ph,z⟩,lo,q⟩
theorem N8{wo:AH}(Tx:rY K X)(q:Dr X (O5 "walk") wo H Q):tW K (bZ X Zc0) (bZ X Zby) ξ [↑wo] H:=by
 obtain⟨T,s,A,M,lb,lw,w,s0,j,rfl,ok,ph,lo,q⟩:=q;obtain⟨dw,ow⟩:=j.jb.ow;obtain⟨ds,os⟩:=j.js.os;unfold tW;apply aH ow Tx.cW Tx.Ro bA ?_;apply aH os Tx.cS Tx.n3 uM ?_;refine Zxj (cC.of j.js.og) ?_;cases hg:M.sw.grey with
 | nil=>
  refine Z5 ?_;apply⟨_,rfl,T,s,A,M,lb,lw,w,s0,j,rfl,ok,⟨ph,hg⟩,lo,q⟩
 | cons x g=>
  refine Zgu ?_;apply⟨_,rfl,T,s,A,M,lb,lw,w,s0,j,rfl,ok,⟨ph,by rw[hg];simp⟩,lo,q⟩
theorem GZ{wo:AH}(Tx:rY K X)(q:Dr X (O5 "lost") wo H Q):qe K (mV K) ξ [↑wo] H:=by
 obtain⟨T,s,A,M,lb,lw,w,s0,j,rfl,ok,ph,lo,q⟩:=q;obtain⟨dw,ow⟩:=j.jb.ow;obtain⟨ds,os⟩:=j.js.os;obtain⟨la,wl,e1,t1,o1,t2,o2⟩:=lo ph;rw[e1]at os;unfold qe;apply aH ow Tx.cW Tx.Ro bA ?_;apply aH os Tx.cS Tx.n11 Qg ?_;apply⟨la,rfl,"lost",lb,wl,lw,o1,o2,λa l H1 s1 nl oa ol=>?_⟩;exact q _ _ (.again ph) _ T A a (d7.same w s1) (j.same s1) ⟨rfl,rfl⟩ ⟨l,Zem w s0 nl,oa,ol⟩ λ_=>⟨lb,rfl,la,wl,e1,t1,s1 _ _ o1,t2,s1 _ _ o2⟩
theorem Zq5{wo f1 f2 f3 f4:AH}(Tx:rY K X)(q:Dr X Zn3 wo H Q):YB K f1 f2 f3 f4 (bZ X (O5 "rest")) (bZ X (O5 "give")) (bZ X (O5 "walk")) (bZ X (O5 "lost")) ξ [↑wo,none] H:=by
 obtain⟨T,s,A,M,lb,lw,w,s0,j,rfl,ok,_,lo,q⟩:=q;obtain⟨dw,ow⟩:=j.jb.ow;obtain⟨ds,os⟩:=j.js.os;unfold YB;apply aH ow Tx.cW Tx.Ro bA ?_;apply aH os Tx.cS Tx.n2 jA ?_;rcases ok.ph with ph | ph | ph | ph
 ·rw[ph];refine⟨_,f1,rfl,rfl,?_⟩;apply nO (bZ X (O5 "rest")) rfl ζ ?_;apply⟨_,rfl,T,s,A,M,lb,lw,w,s0,j,rfl,ok,ph,lo,q⟩
 ·rw[ph];refine⟨_,f3,rfl,rfl,?_⟩;apply nO (bZ X (O5 "walk")) rfl ζ ?_;apply⟨_,rfl,T,s,A,M,lb,lw,w,s0,j,rfl,ok,ph,lo,q⟩
 ·rw[ph];refine⟨_,f2,rfl,rfl,?_⟩;apply nO (bZ X (O5 "give")) rfl ζ ?_;apply⟨_,rfl,T,s,A,M,lb,lw,w,s0,j,rfl,ok,ph,lo,q⟩
 ·rw[ph];refine⟨_,f4,rfl,rfl,?_⟩;apply nO (bZ X (O5 "lost")) rfl ζ ?_;apply⟨_,rfl,T,s,A,M,lb,lw,w,s0,j,rfl,ok,ph,lo,q⟩
end
section
variable {K:aC}{X:Cs}{H:Hp}{Q:VK}{E:XK}{n:ν}{bk ct:ν}
theorem Qh{A:Wa}{w:Int}{σ:St}{te:TE}{q:Bool->Hp->Prop}(ol:∃dx,(w=0/\H A.lk=some (.ins X.F dx []))\/(w=1/\H A.lk=some (.ins X.E dx []))\/(w=2/\H A.lk=some (.ins X.L dx [])))(hte:∀Q':VK,Q' (.ref A.lk) H->te σ H Q')(h:q (decide (w≠2)) H):
  tB (G.JM (lq X.F "stays" (rZ (.bl true)) [] E0 te aF) (G.JM (lq X.E "stays" (rZ (.bl true)) [] E0 te aF) (lq X.L "stays" (rZ (.bl false)) [] E0 te aF))) σ H q:=by
 refine Zyi ?_;obtain⟨dl,⟨ew,o⟩ | ⟨ew,o⟩ | ⟨ew,o⟩⟩:=ol
 ·rw[show decide (w≠2)=true from decide_eq_true δ]at h;refine W0 ?_;left;refine hte _ ?_;refine⟨A.lk,dl,_,rfl,o,rfl,?_⟩;left;exact⟨_,rfl,i_B h⟩
 ·rw[show decide (w≠2)=true from decide_eq_true δ]at h;refine Jg (W0 ?_);left;refine hte _ ?_;refine⟨A.lk,dl,_,rfl,o,rfl,?_⟩;left;exact⟨_,rfl,i_B h⟩
 ·rw[show decide (w≠2)=false from decide_eq_false δ]at h;refine Jg (Jg ?_);left;refine hte _ ?_;refine⟨A.lk,dl,_,rfl,o,rfl,?_⟩;left;exact⟨_,rfl,i_B h⟩
theorem Zkc{T:Tg}{s:Nat}{A:Wa}{M:Wm}{lb:Int}{lw:AD}(Tx:rY K X)(w:WT H T)(s0:s≠0)(j:WJ X H T s A M)(ok:Zhv M)(ph:M.sw.phase="walk")(gr:M.sw.grey=[])
  (q:∀e M',vJ lb lw M e M'->∀H' T' A' a,d7 s H H' T T'->WJ X H' T' s A' M'->A'.wo=A.wo/\A'.sw=A.sw->EvN H H' T' s a e->(M'.sw.phase="lost"->∃b,e.thing=some b/\Zpv H' T' M' b e.notes)->Q (.ref a) H'):
  oW K X.E X.F X.L (rZ (.bl false)) (rZ (.bl true)) (bZ X Zfw) (lF X) ξ [↑A.wo,↑A.sw,↑A.lk,some (.int (bR M)),none] H:=by
 unfold oW;apply⟨_,_,rfl,T,s,A,M,w,s0,j,rfl,ok.hl,λ_=>by rw[gr];exact Nat.zero_le _,λH1 T1 l st1 j1 g1 nl=>?_⟩;have nt:=Rn (bR M) M.hands 0 M;have ww:=nt.ww;have ol:=j1.jb.ol;rw[ww]at ol;have Zzd:vD M->bZ X Zfw [.ref A.wo] H1 Q E0:=λcd=>by
  have e:(iJ (bR M) M.hands 0 M).2=M:=by
   rcases cd with z | ⟨_,z⟩
   ·rw[z,Zck]
   ·exact Zo _ z
  rw[e]at j1;refine⟨_,rfl,T1,s,A,M,lb,lw,st1.wt,s0,j1,rfl,ok,⟨ph,gr,cd⟩,λz=>absurd (ph.symm.trans z) ε,λe' M' r H' T' A' a st' j' aw' ev' lo'=>?_⟩;obtain⟨l',nl',o1,o2⟩:=ev';exact q e' M' r H' T' A' a (st1.trans st') j' aw' ⟨l',⟨d7.free st1 nl'.1,nl'.2⟩,o1,o2⟩ lo'
 have Nt:¬ vD M->∀(lo:Int),lo=(if M.w=2 then(iJ (bR M) M.hands 0 M).2.sw.looked else Builtin.bitOr (iJ (bR M) M.hands 0 M).2.sw.looked (bR M))->∀H2,d7 s H1 H2 T1 T1->WJ X H2 T1 s A { (iJ (bR M) M.hands 0 M).2 with sw:={ (iJ (bR M) M.hands 0 M).2.sw with looks:=(iJ (bR M) M.hands 0 M).2.sw.looks+1,looked:=lo } }->H2 l=some (.lst ((iJ (bR M) M.hands 0 M).1.map V.int))->∀a,H2 a=none->Q (.ref a) (upd H2 a (.tup [.str "look",.int (bR M),.ref l])):=λnc lo elo H2 st2 j2 g2 a na=>by
  have s3:=aL na (.tup [.str "look",.int (bR M),.ref l]);subst elo;refine q _ _ (.look _ ph gr nc rfl) _ T1 A a (st1.trans (st2.trans (d7.same st2.wt s3))) (j2.same s3) ⟨rfl,rfl⟩ ⟨l,nl,aq,s3 _ _ g2⟩ λz=>?_;have:=(Dd (bR M) 100 M.hands 0 M ok.hl).1;have z:(iJ (bR M) M.hands 0 M).2.sw.phase="lost":=z;rw[this]at z;exact absurd (ph.symm.trans z) ε
 apply qM (λhz=>?_) (λhz=>?_)
 ·apply Zzd (.inl hz)
 ·refine Ztz ?_;refine Zyk ?_;refine Qh ol (λQ' h=>by left;exact h) ?_
  by_cases w2:M.w=2
  ·rw[show decide (M.w≠2)=false from decide_eq_false δ];refine Z5 ?_;refine Zty ?_;left;refine Zxj (cC.of g1) ?_;cases hn:(iJ (bR M) M.hands 0 M).1 with
   | nil=>
    refine Zgu ?_;apply Zzd (.inr ⟨w2,hn⟩)
   | cons b bs=>
    have nc:¬ vD M:=λz=>by
     rcases z with z | ⟨_,z⟩
     ·exact hz z
     ·rw[hn]at z;cases z
    have Nt:=Nt nc _ rfl;rw[if_pos w2]at Nt;obtain⟨ds1,os1⟩:=j1.js.os;refine Z5 ?_;apply aH os1 Tx.cS Tx.n9 tM ?_;apply⟨A.sw,X.S,ds1,_,rfl,os1,Tx.cS,Tx.n9,by show 11<1000;decide,?_⟩;rw[qW];obtain⟨st2,j2⟩:=j1.sweep st1.wt s0 (dx:=ds1) { (iJ (bR M) M.hands 0 M).2.sw with looks:=(iJ (bR M) M.hands 0 M).2.sw.looks+1 } rfl;have g2:upd H1 A.sw (.ins X.S ds1 (cH (iJ (bR M) M.hands 0 M).2.sw.sense (iJ (bR M) M.hands 0 M).2.sw.phase A.gr (iJ (bR M) M.hands 0 M).2.sw.looked (iJ (bR M) M.hands 0 M).2.sw.turn (iJ (bR M) M.hands 0 M).2.sw.at' (iJ (bR M) M.hands 0 M).2.sw.stop (iJ (bR M) M.hands 0 M).2.sw.walks ((iJ (bR M) M.hands 0 M).2.sw.looks+1) (iJ (bR M) M.hands 0 M).2.sw.passes (iJ (bR M) M.hands 0 M).2.sw.loss)) l=some (.lst ((iJ (bR M) M.hands 0 M).1.map V.int)):=(aB (qG g1 os1 (λz=>by cases z))).trans g1;generalize upd H1 A.sw _=H2 at st2 j2 g2 ⊢;have ol2:=j2.jb.ol;have ww2:({ (iJ (bR M) M.hands 0 M).2 with sw:={ (iJ (bR M) M.hands 0 M).2.sw with looks:=(iJ (bR M) M.hands 0 M).2.sw.looks+1 } }:Wm).w=M.w:=ww;rw[ww2]at ol2;refine vo ?_;refine Zw8 ?_;refine Qh ol2 (λQ' h=>by left;exact h) ?_;rw[show decide (M.w≠2)=false from decide_eq_false δ];apply⟨aU ζ,λa na=>Nt H2 st2 j2 g2 a na⟩
  ·rw[show decide (M.w≠2)=true from decide_eq_true δ];have nc:¬ vD M:=λz=>by
    rcases z with z | ⟨z,_⟩
    ·exact hz z
    ·exact w2 z
   have Nt:=Nt nc _ rfl;rw[if_neg w2]at Nt;obtain⟨ds1,os1⟩:=j1.js.os;apply aH os1 Tx.cS Tx.n9 tM ?_;apply⟨A.sw,X.S,ds1,_,rfl,os1,Tx.cS,Tx.n9,by show 11<1000;decide,?_⟩;rw[qW];obtain⟨ZIj,j1b⟩:=j1.sweep st1.wt s0 (dx:=ds1) { (iJ (bR M) M.hands 0 M).2.sw with looks:=(iJ (bR M) M.hands 0 M).2.sw.looks+1 } rfl;have ol2:=j1b.jb.ol;have ww2:({ (iJ (bR M) M.hands 0 M).2 with sw:={ (iJ (bR M) M.hands 0 M).2.sw with looks:=(iJ (bR M) M.hands 0 M).2.sw.looks+1 } }:Wm).w=M.w:=ww;rw[ww2]at ol2;refine vo ?_;refine Zw8 ?_;refine Qh ol2 (λQ' h=>by left;exact h) ?_;rw[show decide (M.w≠2)=true from decide_eq_true δ];apply aH aq Tx.cS Tx.n4 jT ?_;apply⟨A.sw,X.S,ds1,_,rfl,aq,Tx.cS,Tx.n4,by show 11<1000;decide,?_⟩;rw[vY,eZ];obtain⟨st2,j2⟩:=j1.sweep st1.wt s0 (dx:=ds1) { (iJ (bR M) M.hands 0 M).2.sw with looks:=(iJ (bR M) M.hands 0 M).2.sw.looks+1,looked:=Builtin.bitOr (iJ (bR M) M.hands 0 M).2.sw.looked (bR M) } rfl;have g2:upd H1 A.sw (.ins X.S ds1 (cH (iJ (bR M) M.hands 0 M).2.sw.sense (iJ (bR M) M.hands 0 M).2.sw.phase A.gr (Builtin.bitOr (iJ (bR M) M.hands 0 M).2.sw.looked (bR M)) (iJ (bR M) M.hands 0 M).2.sw.turn (iJ (bR M) M.hands 0 M).2.sw.at' (iJ (bR M) M.hands 0 M).2.sw.stop (iJ (bR M) M.hands 0 M).2.sw.walks ((iJ (bR M) M.hands 0 M).2.sw.looks+1) (iJ (bR M) M.hands 0 M).2.sw.passes (iJ (bR M) M.hands 0 M).2.sw.loss)) l=some (.lst ((iJ (bR M) M.hands 0 M).1.map V.int)):=(aB (qG g1 os1 (λz=>by cases z))).trans g1;generalize upd H1 A.sw _=H2 at st2 j2 g2 ⊢;apply⟨aU ζ,λa na=>Nt H2 st2 j2 g2 a na⟩
theorem Ry{wo:AH}(Tx:rY K X)(q:Dr X Zc0 wo H Q):uW K X.E X.F X.L (iD 1) (iD 2) (rZ (.bl false)) (iD 0) (rZ (.bl true)) (bZ X Zfw) (lF X) ξ [↑wo,none,none,none,none] H:=by
 obtain⟨T,s,A,M,lb,lw,w,s0,j,rfl,ok,⟨ph,gr⟩,lo,q⟩:=q;obtain⟨dw,ow⟩:=j.jb.ow;obtain⟨ds,os⟩:=j.js.os;obtain⟨dk,ok'⟩:=j.jb.ok;have on:=j.jb.on;have lh:=j.jd.lh;have l5:=j.jd.l5;have Zcs:((A.hs.map λp=>V.ref p.1).length:Int)=(M.hands.length:Int):=by rw[bx,lh]
 have tail:=Zkc (n:=n) (bk:=bk) (ct:=ct) Tx w s0 j ok ph gr q;obtain⟨dl,ol⟩:=j.jb.ol;unfold uW;apply aH ow Tx.cW Tx.Ro bA ?_;apply aH ow Tx.cW Tx.nWk lU ?_;refine aH ok' Tx.cK Tx.nKl oN ?_;refine Zwa ?_;refine vo ?_;left;rcases ol with ⟨ew,o⟩ | ⟨ew,o⟩ | ⟨ew,o⟩
 ·have eb:bR M=Bc 0 M.sw.looked M.hands.length:=by unfold bR;rw[ew];rfl
  refine W0 ?_;left;refine⟨A.lk,dl,_,rfl,o,rfl,?_⟩;left;refine aH os Tx.cS Tx.n4 jT ?_;left;refine aH ow Tx.cW Tx.nWd eY ?_;left;refine fK (cC.of on) ?_;rw[Zcs];left;refine⟨A.lk,_,_,rfl,δ,δ,?_⟩;rw[Int.toNat_natCast,<- eb];left;exact tail
 ·have eb:bR M=Bc 1 M.sw.looked M.hands.length:=by unfold bR;rw[ew];rfl
  refine Jg (W0 ?_);left;refine⟨A.lk,dl,_,rfl,o,rfl,?_⟩;left;refine aH os Tx.cS Tx.n4 jT ?_;left;refine aH ow Tx.cW Tx.nWd eY ?_;left;refine fK (cC.of on) ?_;rw[Zcs];left;refine⟨A.lk,_,_,rfl,δ,δ,?_⟩;rw[Int.toNat_natCast,<- eb];left;exact tail
 ·have eb:bR M=Bc 2 M.sw.looked M.hands.length:=by unfold bR;rw[ew];rfl
  refine Jg (Jg ?_);left;refine⟨A.lk,dl,_,rfl,o,rfl,?_⟩;left;refine aH os Tx.cS Tx.n4 jT ?_;left;refine aH ow Tx.cW Tx.nWd eY ?_;left;refine fK (cC.of on) ?_;rw[Zcs];left;refine⟨A.lk,_,_,rfl,δ,δ,?_⟩;rw[Int.toNat_natCast,<- eb];left;exact tail
end
abbrev NB:=List (Str×Int)
def HsO(H:Hp)(l:AH)(hs:NB):Prop:=∃ts:AE,H l=some (.lst (ts.map V.ref))/\Al (λ(a:AH) (m:Str×Int)=>H a=some (.tup [.str m.1,.int m.2])) ts hs
theorem HsO.same{H H':Hp}{l:AH}{hs:NB}(h:HsO H l hs)(s:bz H H'):HsO H' l hs:=by
 obtain⟨ts,h1,h2⟩:=h;exact⟨ts,s _ _ h1,h2.mono λa m z=>s _ _ z⟩
structure HsB(hs:NB):Prop where
 n1:1<=hs.length
 n5:hs.length<=5
 sb:∀m∈hs,3<=m.2/\m.2<=9
def Ra(hs:NB)(h s:Nat):Prop:=∃m,hs[h]? =some m/\(s:Int)<m.2
def okR(hs:NB):oR->Prop
 | .make h s many bulk=>Ra hs h s/\0<=many/\many<=8/\0<=bulk
 | .get h s t _=>Ra hs h s/\Ra hs h t
 | .put h t _ s=>Ra hs h t/\Ra hs h s
 | .copy h s t=>Ra hs h s/\Ra hs h t
 | .drop h s=>Ra hs h s
 | .give h s g t=>Ra hs h s/\Ra hs g t
 | .write h t _=>Ra hs h t
 | .read h t=>Ra hs h t
 | .name h t _=>Ra hs h t
 | .seek h s _=>Ra hs h s
theorem HsB.ok{hs:NB}(b:HsB hs){h s:Nat}(hh:h<hs.length)(h3:s<3):Ra hs h s:=by
 have:=b.sb _ (List.getElem_mem hh);exact⟨_,bM hh,δ⟩
def Zb1(H0 H:Hp)(hs:NB)(vs:List V):Prop:=∀v∈vs,v=.non\/∃t d,v=.ref t/\H0 t=none/\H t=some (.tup (dV d))/\okR hs d
structure RL(H0 H:Hp)(hs:NB)(l:AH)(N:Nat):Prop where
 s:bz H0 H
 n:H0 l=none
 ex:∃vs,H l=some (.lst vs)/\vs.length<=N/\Zb1 H0 H hs vs
theorem Zb1.same{H0 H H':Hp}{hs:NB}{vs:List V}(h:Zb1 H0 H hs vs)(s:bz H H'):Zb1 H0 H' hs vs:=λv hv=>by
 rcases h v hv with z | ⟨t,d,e,f,o,k⟩
 ·exact .inl z
 ·exact .inr ⟨t,d,e,f,s _ _ o,k⟩
theorem RL.same{H0 H H':Hp}{hs:NB}{l:AH}{N:Nat}(h:RL H0 H hs l N)(s:bz H H'):RL H0 H' hs l N:=by
 obtain⟨s0,n,vs,h1,h2,h3⟩:=h;exact⟨s0.trans s,n,vs,s _ _ h1,h2,h3.same s⟩
theorem RL.base{H0 H1 H:Hp}{hs:NB}{l:AH}{N:Nat}(h:RL H1 H hs l N)(s:bz H0 H1):RL H0 H hs l N:=by
 obtain⟨s0,n,vs,h1,h2,h3⟩:=h;refine⟨s.trans s0,s.free n,vs,h1,h2,λv hv=>?_⟩;rcases h3 v hv with z | ⟨t,d,e,f,o,k⟩
 ·exact .inl z
 ·exact .inr ⟨t,d,e,s.free f,o,k⟩
theorem RL.mono{H0 H:Hp}{hs:NB}{l:AH}{N N':Nat}(h:RL H0 H hs l N)(n:N<=N'):RL H0 H hs l N':=by
 obtain⟨s0,nn,vs,h1,h2,h3⟩:=h;exact⟨s0,nn,vs,h1,δ,h3⟩
theorem yt{H0 H:Hp}{hs:NB}{l1 l2:AH}{N1 N2:Nat}{Q:VK}(h1:RL H0 H hs l1 N1)(h2:RL H0 H hs l2 N2)(hb:N1+N2<=100000)(k:∀l H',bz H H'->H l=none->RL H0 H' hs l (N1+N2)->Q (.ref l) H'):u5 (.ref l1) (.ref l2) H Q:=by
 obtain⟨s0,_,vs,a1,a2,a3⟩:=h1;obtain⟨_,_,ws,b1,b2,b3⟩:=h2;refine⟨l1,l2,_,_,rfl,rfl,a1,b1,aU δ,λl nl=>?_⟩;have s:=aL nl (.lst (vs++ws));refine k l _ s nl ⟨s0.trans s,s0.free nl,vs++ws,aq,by rw[List.length_append];omega,λv hv=>?_⟩;rcases List.mem_append.mp hv with hv | hv
 ·exact(a3.same s) v hv
 ·exact(b3.same s) v hv
theorem Zqo(m:Nat):(List.replicate m [V.non]).flatten=(List.replicate m (none:AA)).map oV:=by
 induction m with
 | zero=>rfl
 | succ m ih=>rw[List.replicate_succ,List.flatten_cons,ih];rfl
theorem Rj{H0 H:Hp}{hs:NB}{Q:VK}{l0:AH}{k:Int}(s0:bz H0 H)(h0:H l0=some (.lst [V.non]))(k0:0<=k)(k1:k<=1000)(q:∀l H',bz H H'->H l=none->RL H0 H' hs l k.toNat->Q (.ref l) H'):Zbs (.ref l0) (.int k) H Q:=by
 refine⟨l0,k,_,rfl,rfl,h0,δ,δ,by show 1 * k.toNat<=sizeLine;exact aU δ,λl nl=>?_⟩;rw[Zqo];refine q l _ (aL nl _) nl ⟨s0.trans (aL nl _),s0.free nl,_,aq,by rw[bx,List.length_replicate];exact Nat.le_refl _,λv hv=>?_⟩;rw[List.map_replicate]at hv;rw[List.eq_of_mem_replicate hv];exact .inl rfl
theorem rl1{H0 H:Hp}{hs:NB}{l t:AH}{d:oR}(s:bz H0 H)(nl:H0 l=none)(nt:H0 t=none)(h:H l=some (.lst [.ref t]))(o:H t=some (.tup (dV d)))(k:okR hs d):RL H0 H hs l 1:=⟨s,nl,_,h,Nat.le_refl _,λv hv=>by
 rw[List.mem_singleton.mp hv];exact .inr ⟨t,d,rfl,nt,o,k⟩⟩
theorem rl2{H0 H:Hp}{hs:NB}{l t u:AH}{d e:oR}(s:bz H0 H)(nl:H0 l=none)(nt:H0 t=none)(nu:H0 u=none)(h:H l=some (.lst [.ref t,.ref u]))(o:H t=some (.tup (dV d)))(k:okR hs d)(o':H u=some (.tup (dV e)))(k':okR hs e):RL H0 H hs l 2:=⟨s,nl,_,h,Nat.le_refl _,λv hv=>by
 rcases List.mem_cons.mp hv with rfl | hv
 ·exact .inr ⟨t,d,rfl,nt,o,k⟩
 ·rw[List.mem_singleton.mp hv];exact .inr ⟨u,e,rfl,nu,o',k'⟩⟩
theorem rl3{H0 H:Hp}{hs:NB}{l t u w:AH}{d e f:oR}(s:bz H0 H)(nl:H0 l=none)(nt:H0 t=none)(nu:H0 u=none)(nw:H0 w=none)(h:H l=some (.lst [.ref t,.ref u,.ref w]))(o:H t=some (.tup (dV d)))(k:okR hs d)(o':H u=some (.tup (dV e)))(k':okR hs e)(o2:H w=some (.tup (dV f)))(k2:okR hs f):RL H0 H hs l 3:=⟨s,nl,_,h,Nat.le_refl _,λv hv=>by
 rcases List.mem_cons.mp hv with rfl | hv
 ·exact .inr ⟨t,d,rfl,nt,o,k⟩
 ·rcases List.mem_cons.mp hv with rfl | hv
  ·exact .inr ⟨u,e,rfl,nu,o',k'⟩
  ·rw[List.mem_singleton.mp hv];exact .inr ⟨w,f,rfl,nw,o2,k2⟩⟩
def qQ(K:aC):Sp:=λvs H Q E=>∃a k,vs=[.ref a,.int k]/\∃ns:AD,cC K H a (ns.map V.int)/\0<=k/\∀z:Int,Q (.int z) H
def jB:Sp:=λvs H Q E=>∃c p m,vs=[.int c,.int p,.int m]/\0<p/\p<2 ^ 32/\0<m/\∀z:Int,0<=z->z<m->Q (.int z) H
def qP:Sp:=λvs H Q E=>∃c w,vs=[.int c,.int w]/\0<=w/\w<=1000/\∀z:Str,Q (.str z) H
def PB(K:aC):Sp:=λvs H Q E=>∃a,vs=[.ref a]/\∃ns:AD,cC K H a (ns.map V.int)/\∀l hs H',bz H H'->H l=none->HsO H' l hs->HsB hs->Q (.ref l) H'
def Zaw(K:aC):Sp:=λvs H Q E=>∃a,vs=[.ref a]/\∃ns:AD,cC K H a (ns.map V.int)/\∀z:Int,Q (.int z) H
def Pz(X:Cs):Sp:=λvs H Q E=>∃c,vs=[.int c]/\∀ki lk w t H',0<=t->t<4->w=c % 3->bz H H'->H ki=none->H lk=none->KdO X H' ki lk w t->Q (.ref ki) H'
def Px:Sp:=λvs H Q E=>∃c h s,vs=[.int c,.int h,.int s]/\∃(hn sn:Nat),h=(hn:Int)/\s=(sn:Int)/\∀t many bulk H',bz H H'->H t=none->0<=many->many<=8->0<=bulk->H' t=some (.tup (dV (.make hn sn many bulk)))->Q (.ref t) H'
def Py:Sp:=λvs H Q E=>∃c,vs=[.int c]/\∀z:Int,Q (.int z) H
def Jx:Sp:=λvs H Q E=>∃i,vs=[.int i]/\Q (.bl true) H
def PK(K:aC):Sp:=λvs H Q E=>∃a b,vs=[.ref a,.ref b]/\∃(z:Str) (i:Int) (l l':AH) (ns:AD),H a=some (.tup [.str z,.int i,.ref l])/\H b=some (.tup [.str z,.int i,.ref l'])/\H l=some (.lst (ns.map V.int))/\H l'=some (.lst (ns.map V.int))/\Q (.bl true) H
variable {K:aC}{X:Cs}{rf:Rf->AH}{H:Hp}{Q:VK}{E:XK}{n:ν}{bk ct:ν}
section
theorem Zav{a:AH}{k:Int}(q:∃ns:AD,cC K H a (ns.map V.int)/\0<=k/\∀z:Int,Q (.int z) H):zV K ξ [↑a,some (.int k)] H:=by
 obtain⟨ns,hS,h0,h⟩:=q;unfold zV;apply fK hS ?_;apply qM (λh1=>?_) (λh1=>?_)
 ·ext;rw[bx]at h1;have hk:k.toNat<ns.length:=δ
  exact lX hS (uC h0 (by rw[dj,bM hk]<;>rfl)) (h _)
 ·apply h _
theorem Zat{c p m:Int}(q:0<p/\p<2 ^ 32/\0<m/\∀z:Int,0<=z->z<m->Q (.int z) H):zT ξ [some (.int c),some (.int p),some (.int m)] H:=by
 obtain⟨p0,p1,m0,q⟩:=q;have h1:=Int.emod_nonneg c (show p≠0 by omega);have h2:=Int.emod_lt_of_pos c p0;unfold zT;apply q _ (Int.emod_nonneg _ δ) (Int.emod_lt_of_pos _ m0)
theorem Zal{c w:Int}(q:0<=w/\w<=1000/\∀z:Str,Q (.str z) H):zK ξ [some (.int c),some (.int w),none,none,none,none,none] H:=by
 obtain⟨w0,w1,q⟩:=q;have c1:=Int.emod_nonneg c (show(12:Int)≠0 by decide);have c2:=Int.emod_lt_of_pos c (show(0:Int)<12 by decide);obtain⟨sz,es⟩:=toN (x:=1+c % 12) δ;have hs:1<=sz/\sz<=12:=δ
 have a0:=Int.emod_nonneg (c / 12) (show(1+c % 12)≠0 by omega);have a1:=Int.emod_lt_of_pos (c / 12) (show 0<1+c % 12 by omega);unfold zK;ext;have d1:=Int.emod_nonneg (c / 5) (show(26:Int)≠0 by decide);have d2:=Int.emod_lt_of_pos (c / 5) (show(0:Int)<26 by decide);refine Zol ε d1 (by show c / 5 % 26<26;exact d2) λch=>?_;ext;have e1:=Int.emod_nonneg (c / 7+5 * w) (show(26:Int)≠0 by decide);have e2:=Int.emod_lt_of_pos (c / 7+5 * w) (show(0:Int)<26 by decide);refine Zol ε e1 (by show(c / 7+5 * w) % 26<26;exact e2) λch2=>?_;apply Zog a0 δ (by rw[Wt];decide) λt1 l1 et1=>?_;have lt1:t1.length<=12:=by rw[et1,QF,Wt];omega
 apply Zon (by rw[Wt];exact aU δ) ?_;apply Zog δ δ (by rw[Wt];decide) λt2 l2 et2=>?_;have lt2:t2.length<=12:=by rw[et2,QF,Wt];omega
 apply Zon (by rw[Zxt,Wt];exact aU δ) ?_;exact q _
theorem VL{a:AH}(q:∃ns:AD,cC K H a (ns.map V.int)/\∀l hs H',bz H H'->H l=none->HsO H' l hs->HsB hs->Q (.ref l) H'):xK K (qQ K) jB qP ξ [↑a,none,none,none,none] H:=by
 obtain⟨ns,hS,q⟩:=q;unfold xK;apply⟨a,1,rfl,ns,hS,ε,λc=>?_⟩;apply⟨ε,λl nl=>?_⟩;generalize zz:upd H l _=H1;obtain⟨s1,g1⟩:=nwO nl zz;have g1:H1 l=some (.lst (([]:AE).map V.ref)):=g1;apply⟨_,_,_,rfl,ε,ε,ε,λz z0 z1=>?_⟩;exists _,rfl,δ,δ;refine forR (λk σ Hx=>∃(ts:AE) (hs:NB) (v3 v4:Option V),σ=[↑a,some (.int c),↑l,v3,v4]/\bz H Hx/\Hx l=some (.lst (ts.map V.ref))/\Al (λ(a:AH) (m:Str×Int)=>Hx a=some (.tup [.str m.1,.int m.2])) ts hs/\hs.length=k/\∀m∈hs,3<=m.2/\m.2<=9) ⟨[],[],_,_,rfl,s1,g1,.nil,rfl,λm hm=>(nomatch hm)⟩ ?_ ?_
 ·rintro k σ Hx hk ⟨ts,hs,v3,v4,rfl,s2,g2,al,hl,hb⟩;have hk5:k<5:=δ
  have lts:=al.length;have fin:∀{many:Int},3<=many->many<=9->∀(nn:ν) (rr:VK) (bb cc:ν),(∀ σ H',(∃(ts:AE) (hs:NB) (v3 v4:Option V),σ=[↑a,some (.int c),↑l,v3,v4]/\bz H H'/\H' l=some (.lst (ts.map V.ref))/\Al (λ(a:AH) (m:Str×Int)=>H' a=some (.tup [.str m.1,.int m.2])) ts hs/\hs.length=k+1/\∀m∈hs,3<=m.2/\m.2<=9)->nn σ H')->
    uh (tBM K "list" qu ae (aj (fU (aj (aX qP [] E0 (aj ω (aj ac aF))) (aj (ak 4) aF))) aF)) ⟨nn,rr,bb,cc⟩ [↑a,some (.int c),↑l,some (.int ((0:Int)+k)),some (.int many)] Hx:=by
   intro many m3 m9 nn rr bb cc hD;exists .inl ⟨rfl,_,cC.of g2⟩;apply⟨_,_,rfl,δ,δ,λwd=>?_⟩;apply⟨aU ζ,λt nt=>?_⟩;generalize zz:upd Hx t _=H3;obtain⟨s3,g3⟩:=nwO nt zz;have g4:=s3 _ _ g2;exists l,_,_,rfl,rfl,g4,?_
   ·rw[bx];exact Nat.lt_of_le_of_lt (show _<=1000 by omega) ε
   rw[show ts.map V.ref++[V.ref t]=(ts++[t]).map V.ref from by rw[List.map_append];rfl];have kt:∀b xs,H3 b=some (.tup xs)->upd H3 l (.lst ((ts++[t]).map V.ref)) b=some (.tup xs):=λb xs hb=>by
    rw[aB (qG hb g4 (λz=>by cases z))];exact hb
   apply hD _ _ ⟨ts++[t],hs++[(wd,many)],_,_,rfl,λb o hb=>by rw[aB (aD hb nl)];exact s3 _ _ (s2 _ _ hb),aq,?_,by rw[List.length_append,hl];rfl,λm hm=>?_⟩
   ·refine Zps (by rw[List.length_append,List.length_append,lts];rfl) λi x y e1 e2=>?_
    by_cases hi:i<ts.length
    ·rw[List.getElem?_append_left hi]at e1;rw[List.getElem?_append_left δ]at e2;obtain⟨x',e3,z⟩:=al.get e2;rw[e1]at e3;cases e3;exact kt _ _ (s3 _ _ z)
    ·have h1:=(fH e1).1;rw[List.length_append,List.length_singleton]at h1;rw[List.getElem?_append_right δ]at e1 e2;rw[show i - ts.length=0 by omega]at e1;rw[show i - hs.length=0 by omega]at e2;cases e1;cases e2;exact kt _ _ g3
   ·rcases List.mem_append.mp hm with hm | hm
    ·exact hb m hm
    ·rw[List.mem_singleton.mp hm];exact⟨m3,m9⟩
  apply qM (λ_=>?_) (λ_=>?_)
  ·apply⟨_,_,_,rfl,ε,ε,ε,λy y0 y1=>?_⟩;refine Zyx ?_;refine Zsl ?_;exact fin (many:=3+y) δ δ _ _ _ _ λσ H' h=>h
  ·refine vp ?_;exact fin (many:=3) δ δ _ _ _ _ λσ H' h=>h
 ·rintro σ Hx ⟨ts,hs,v3,v4,rfl,s2,g2,al,hl,hb⟩;apply q l hs Hx s2 nl ⟨ts,g2,al⟩ ⟨δ,δ,hb⟩
theorem Zao{a:AH}(q:∃ns:AD,cC K H a (ns.map V.int)/\∀z:Int,Q (.int z) H):zN (qQ K) jB ξ [↑a,none] H:=by
 obtain⟨ns,hS,q⟩:=q;unfold zN;apply⟨a,2,rfl,ns,hS,ε,λc=>?_⟩;apply⟨_,_,_,rfl,ε,ε,ε,λz z0 z1=>?_⟩;apply qM (λ_=>?_) (λ_=>?_)
 ·apply q _
 ·apply q _
theorem RB{C:AH}{w t:Int}{σ:St}{tt:TE}(ht:∀(H1:Hp) (Q':VK),Q' (.int t) H1->tt σ H1 Q')(hw:∀{H1:Hp}{lk dl:AH},H1 lk=some (.ins C dl [])->(w=0/\H1 lk=some (.ins X.F dl []))\/(w=1/\H1 lk=some (.ins X.E dl []))\/(w=2/\H1 lk=some (.ins X.L dl [])))
  (q:∀ki lk H',bz H H'->H ki=none->H lk=none->KdO X H' ki lk w t->Q (.ref ki) H'):Ba X.K (tE X.K) [] E0 (aj (G.JN C) (aj tt aF)) σ H Q:=by
 ext;intro lk dl nlk ndl nel;have s1:bz H (upd (upd H dl (.own lk)) lk (.ins C dl [])):=λb o hb=>by rw[aB (aD hb nlk),aB (aD hb ndl)];exact hb
 have g1:upd (upd H dl (.own lk)) lk (.ins C dl []) lk=some (.ins C dl []):=aq;generalize upd (upd H dl (.own lk)) lk (.ins C dl [])=H1 at s1 g1 ⊢;left;refine ht H1 _ ?_;left;intro ki dk nki ndk nek;have s2:bz H1 (upd (upd H1 dk (.own ki)) ki (.ins X.K dk [])):=λb o hb=>by rw[aB (aD hb nki),aB (aD hb ndk)];exact hb
 have g2:upd (upd H1 dk (.own ki)) ki (.ins X.K dk []) ki=some (.ins X.K dk []):=aq;generalize upd (upd H1 dk (.own ki)) ki (.ins X.K dk [])=H2 at s2 g2 ⊢;refine⟨ki,lk,t,rfl,dk,g2,λH3 o3 k3=>⟨rfl,?_⟩⟩;have s3:bz H H3:=λb o hb=>k3 b o (s2 _ _ (s1 _ _ hb)) (aD (s1 _ _ hb) nki);have ZA5:lk≠ki:=aD g1 nki;exact q ki lk H3 s3 (s1.free nki) nlk ⟨⟨dk,o3⟩,⟨dl,hw (k3 _ _ (s2 _ _ g1) ZA5)⟩⟩
theorem Zar{c:Int}(q:∀ki lk w t H',0<=t->t<4->w=c % 3->bz H H'->H ki=none->H lk=none->KdO X H' ki lk w t->Q (.ref ki) H'):zQ X.E X.F X.K X.L (tE X.K) ξ [some (.int c)] H:=by
 have t0:=Int.emod_nonneg (c / 3) (show(4:Int)≠0 by decide);have t1:=Int.emod_lt_of_pos (c / 3) (show(0:Int)<4 by decide);have w0:=Int.emod_nonneg c (show(3:Int)≠0 by decide);have w1:=Int.emod_lt_of_pos c (show(0:Int)<3 by decide);unfold zQ;apply qM (λz=>?_) (λz=>?_)
 ·refine Zio ?_;exact RB (λH1 Q' h=>by apply h) (λe=>.inl ⟨rfl,e⟩) λki lk H' s n1 n2 kd=>q ki lk 0 (c / 3 % 4) H' t0 t1 z.symm s n1 n2 kd
 ·refine vp ?_;refine vo ?_;left;refine qM (λy=>?_) (λy=>?_)
  ·refine Zio ?_;exact RB (λH1 Q' h=>by apply h) (λe=>.inr (.inl ⟨rfl,e⟩)) λki lk H' s n1 n2 kd=>q ki lk 1 (c / 3 % 4) H' t0 t1 y.symm s n1 n2 kd
  ·refine vp ?_;refine Zio ?_;exact RB (λH1 Q' h=>by apply h) (λe=>.inr (.inr ⟨rfl,e⟩)) λki lk H' s n1 n2 kd=>q ki lk 2 (c / 3 % 4) H' t0 t1 δ s n1 n2 kd
theorem Zy7{z:Int}(h0:0<=z)(h1:z<6):∃m:Int,atI [V.int 1,.int 2,.int 2,.int 3,.int 0,.int 8] z=some (.int m)/\0<=m/\m<=8:=by
 have:z=0\/z=1\/z=2\/z=3\/z=4\/z=5:=δ
 rcases this with rfl | rfl | rfl | rfl | rfl | rfl
 ·exact⟨1,rfl,ε,ε⟩
 ·exact⟨2,rfl,ε,ε⟩
 ·exact⟨2,rfl,ε,ε⟩
 ·exact⟨3,rfl,ε,ε⟩
 ·exact⟨0,rfl,ε,ε⟩
 ·exact⟨8,rfl,ε,ε⟩
theorem Zap{c h s:Int}(q:∃(hn sn:Nat),h=(hn:Int)/\s=(sn:Int)/\∀t many bulk H',bz H H'->H t=none->0<=many->many<=8->0<=bulk->H' t=some (.tup (dV (.make hn sn many bulk)))->Q (.ref t) H'):
  zO K jB ξ [some (.int c),some (.int h),some (.int s),none,none] H:=by
 obtain⟨hn,sn,rfl,rfl,q⟩:=q;have b1:=Int.emod_nonneg c (show(7:Int)≠0 by decide);have b2:(0:Int)<10 ^ Int.toNat 12+1:=ε
 have b3:=Int.emod_nonneg c (show(10:Int) ^ Int.toNat 12+1≠0 by decide);unfold zO;apply⟨aU ζ,λl nl=>?_⟩;generalize zz:upd H l _=H1;obtain⟨s1,g1⟩:=nwO nl zz;apply⟨_,_,_,rfl,ε,ε,ε,λz z0 z1=>?_⟩;obtain⟨m,em,m0,m8⟩:=Zy7 z0 z1;apply lX (cC.of g1) em ?_;have fin:∀{b:Int},0<=b->∀{v:Option V},(bH (fU (aj (tC (.str "make")) (aj ω (aj ae (aj ac (aj (ak 4) aF))))))) ξ [some (.int c),some (.int hn),some (.int sn),some (.int m),some (.int b)] H1:=by
  intro b hb v;apply⟨aU ζ,λt nt=>?_⟩;exact q t m b _ (s1.trans (aL nt _)) (s1.free nt) m0 m8 hb aq
 apply qM (λy=>?_) (λy=>?_)
 ·apply qM (λx=>absurd (y.symm.trans x) ε) (λx=>?_);refine vp ?_;exact fin b1 (v:=none)
 ·apply qM (λx=>?_) (λx=>?_)
  ·left;exact⟨aU ζ,λt nt=>q t m _ _ (s1.trans (aL nt _)) (s1.free nt) m0 m8 b3 aq⟩
  ·refine vp ?_;exact fin (Int.le_refl _) (v:=none)
theorem Zaq{c:Int}(q:∀z:Int,Q (.int z) H):zP ξ [some (.int c),none] H:=by
 have b2:(0:Int)<10 ^ Int.toNat 60:=ε
 unfold zP;apply qM (λ_=>?_) (λ_=>?_)
 ·apply q _
 ·apply q _
theorem SM{i:Int}(q:Q (.bl true) H):uX ξ [some (.int i)] H:=by
 unfold uX;apply q
theorem VN{a b:AH}(q:∃(z:Str) (i:Int) (l l':AH) (ns:AD),H a=some (.tup [.str z,.int i,.ref l])/\H b=some (.tup [.str z,.int i,.ref l'])/\H l=some (.lst (ns.map V.int))/\H l'=some (.lst (ns.map V.int))/\Q (.bl true) H):
  xN K Jx ξ [↑a,↑b,none] H:=by
 obtain⟨z,i,l,l',ns,oa,ob,ol,ol',q⟩:=q;unfold xN;apply Z6 oa ?_;exists a,_,rfl,.inr (fM.of oa);apply Gn (λz=>absurd rfl z) (λ_=>?_);exists a,_,0,_,rfl,rfl,fM.of oa,rfl;exists a,_,1,_,rfl,rfl,fM.of oa,rfl;exists _,rfl;exists a,_,2,_,rfl,rfl,fM.of oa,rfl;apply Zd9 ol ?_;exists a,_,2,_,rfl,rfl,fM.of oa,rfl;refine⟨l,rfl,⟨_,cC.of ol⟩,forL (ns.map V.int) (λ_ σ Hx=>∃v,σ=[↑a,↑b,v]/\Hx=H) ⟨_,rfl,rfl⟩ (λ_ _ _ _ ⟨_,_,e⟩=>by rw[e];exact cC.of ol) ?_ ?_⟩
 ·rintro k x σ Hx hk ⟨v,rfl,rfl⟩;obtain⟨y,_,rfl⟩:=List.mem_map.mp (List.mem_of_getElem? hk);exists _,rfl;apply⟨_,rfl,rfl⟩
 ·rintro σ Hx ⟨v,rfl,rfl⟩;apply Zu0 (.inr ⟨fM.of oa,fM.of ob⟩) (.cons (.inl ⟨rfl,rfl⟩) (.cons (.inl ⟨rfl,rfl⟩) (.cons (.inr ⟨l,l',rfl,rfl,.inr ⟨_,_,.inl ⟨cC.of ol,cC.of ol'⟩,R8 (rW _)⟩⟩) .nil))) ?_;exact q
end
def PL(K:aC):Sp:=λvs H Q E=>∃c l sd,vs=[.int c,.ref l,.int sd]/\∃hs,HsO H l hs/\HsB hs/\∀t d H',bz H H'->H t=none->H' t=some (.tup (dV d))->okR hs d->Q (.ref t) H'
def Dt(K:aC):Sp:=λvs H Q E=>∃c l sd,vs=[.int c,.ref l,.int sd]/\∃hs,HsO H l hs/\HsB hs/\∀r H',bz H H'->H r=none->RL H H' hs r 2->Q (.ref r) H'
def Jw(K:aC):Sp:=λvs H Q E=>∃l c sd,vs=[.ref l,.int c,.int sd]/\∃hs,HsO H l hs/\HsB hs/\∀r H',bz H H'->RL H H' hs r 200->Q (.ref r) H'
def Pr(K:aC):Sp:=λvs H Q E=>∃a l,vs=[.ref a,.ref l]/\∃ns:AD,∃hs,cC K H a (ns.map V.int)/\ns.length<=63/\HsO H l hs/\HsB hs/\∀r H',bz H H'->RL H H' hs r 700->Q (.ref r) H'
section
theorem f38{x:Int}(h0:0<=x)(h1:x<2):∃m:Int,atI [V.int 3,.int 8] x=some (.int m)/\0<m:=by
 have:x=0\/x=1:=δ
 rcases this with rfl | rfl
 ·exact⟨3,rfl,ε⟩
 ·exact⟨8,rfl,ε⟩
theorem Zau{c sd:Int}{l:AH}(q:∃hs,HsO H l hs/\HsB hs/\∀t d H',bz H H'->H t=none->H' t=some (.tup (dV d))->okR hs d->Q (.ref t) H'):
  zU K jB Py Px qP ξ [some (.int c),↑l,some (.int sd),none,none,none,none,none,none,none] H:=by
 obtain⟨hs,ho,hb,q⟩:=q;have n1:=hb.n1;have Zcs:∀{H':Hp}{ts:AE},HsO H' l hs->H' l=some (.lst (ts.map V.ref))->ts.length=hs.length:=λ{H' ts} h e=>by
  obtain⟨ts',h1,h2⟩:=h;rw[h1]at e;have:=congrArg (λo=>match o with | some (HO.lst xs)=>xs.length | _=>0) e;simp only[bx]at this;rw[<- this];exact h2.length
 obtain⟨ts,ol,al⟩:=id ho;have lts:=al.length;unfold zU;apply fK (cC.of ol) ?_;rw[bx,lts];apply⟨_,_,_,rfl,ε,ε,δ,λzh h0 h1=>?_⟩;obtain⟨h,rfl⟩:=toN h0;have hh:h<hs.length:=δ
 obtain⟨m,hm⟩:∃m,hs[h]? =some m:=⟨_,bM hh⟩;have mb:=hb.sb m (List.mem_of_getElem? hm);obtain⟨tt,ett,ott⟩:=al.get hm;have hix:atI (ts.map V.ref) (h:Int)=↑tt:=kW (by rw[dj,ett];rfl);apply lX (cC.of ol) hix ?_;refine⟨tt,_,1,_,rfl,rfl,fM.of ott,rfl,?_⟩;apply⟨_,_,_,rfl,ε,ε,δ,λzs s0 s1=>?_⟩;obtain⟨s,rfl⟩:=toN s0;apply lX (cC.of ol) hix ?_;refine⟨tt,_,1,_,rfl,rfl,fM.of ott,rfl,?_⟩;apply⟨_,_,_,rfl,ε,ε,δ,λzt t0 t1=>?_⟩;obtain⟨t,rfl⟩:=toN t0;apply⟨aU ζ,λl2 UG=>?_⟩;generalize zz:upd H l2 _=H2;obtain⟨s2,g2⟩:=nwO UG zz;ext;obtain⟨mf,emf,mf0⟩:=f38 (x:=c % 5 / 4) δ δ;refine lX (cC.of g2) emf ?_;apply⟨_,_,_,rfl,ε,ε,mf0,λzf f0 _=>?_⟩;obtain⟨f,rfl⟩:=toN f0;apply⟨_,_,_,rfl,ε,ε,ε,λw w0 w1=>?_⟩;have os:Ra hs h s:=⟨m,hm,s1⟩;have ot:Ra hs h t:=⟨m,hm,t1⟩;have tup:∀(d:oR),okR hs d->∀tp,H2 tp=none->Q (.ref tp) (upd H2 tp (.tup (dV d))):=λd ok tp Te=>q tp d _ (s2.trans (aL Te _)) (s2.free Te) aq ok;apply qM (λ_=>?_) (λw5=>?_)
 ·apply⟨_,_,_,rfl,h,s,rfl,rfl,λtp many bulk H' sm Te m0 m8 b0 o=>q tp _ H' (s2.trans sm) (s2.free Te) o ⟨os,m0,m8,b0⟩⟩
 apply qM (λ_=>?_) (λw8=>?_)
 ·apply⟨aU ζ,λtp Te=>tup (.get h s t f) ⟨os,ot⟩ tp Te⟩
 apply qM (λ_=>?_) (λw11=>?_)
 ·apply⟨aU ζ,λtp Te=>tup (.put h t f s) ⟨ot,os⟩ tp Te⟩
 apply qM (λ_=>?_) (λZIi=>?_)
 ·apply⟨aU ζ,λtp Te=>tup (.copy h s t) ⟨os,ot⟩ tp Te⟩
 apply qM (λ_=>?_) (λw12=>?_)
 ·apply⟨aU ζ,λtp Te=>tup (.drop h s) os tp Te⟩
 apply qM (λ_=>?_) (λw15=>?_)
 ·have ol2:=s2 _ _ ol;apply fK (cC.of ol2) ?_;rw[bx,lts];apply⟨_,_,_,rfl,ε,ε,δ,λzg g0 g1=>?_⟩;obtain⟨g,rfl⟩:=toN g0;have hg:g<hs.length:=δ
  obtain⟨mg,hmg⟩:∃m,hs[g]? =some m:=⟨_,bM hg⟩;have mgb:=hb.sb mg (List.mem_of_getElem? hmg);obtain⟨tg,etg,otg⟩:=al.get hmg;apply lX (cC.of ol2) (kW (v:=.ref tg) (by rw[dj,etg];rfl)) ?_;refine⟨tg,_,1,_,rfl,rfl,fM.of (s2 _ _ otg),rfl,?_⟩;apply⟨_,_,_,rfl,ε,ε,δ,λzu u0 u1=>?_⟩;obtain⟨u,rfl⟩:=toN u0;apply⟨aU ζ,λtp Te=>tup (.give h s g u) ⟨os,mg,hmg,u1⟩ tp Te⟩
 apply qM (λ_=>?_) (λZIh=>?_)
 ·apply⟨_,rfl,λld=>?_⟩;apply⟨aU ζ,λtp Te=>tup (.write h t ld) ot tp Te⟩
 apply⟨_,_,_,rfl,ε,ε,ε,λzw a0 a1=>?_⟩;apply⟨_,_,rfl,a0,δ,λwd=>?_⟩;apply qM (λ_=>?_) (λw18=>?_)
 ·apply⟨aU ζ,λtp Te=>tup (.name h t wd) ot tp Te⟩
 apply⟨aU ζ,λtp Te=>tup (.seek h s wd) os tp Te⟩
def dW:oR->Str
 | .make .. =>"make"
 | .get .. =>"get"
 | .put .. =>"put"
 | .copy .. =>"copy"
 | .drop .. =>"drop"
 | .give .. =>"give"
 | .write .. =>"write"
 | .read .. =>"read"
 | .name .. =>"name"
 | .seek .. =>"seek"
theorem dV0(d:oR):∃r,dV d=.str (dW d)::r:=by cases d<;>exact⟨_,rfl⟩
theorem Zwu{d:oR}(h:dW d="put"):∃h t f s,d=.put h t f s:=by
 cases d<;>first | exact⟨_,_,_,_,rfl⟩ | exact absurd h (by simp only[dW];decide)
theorem Zwv{d:oR}(h:dW d="get"):∃h s t f,d=.get h s t f:=by
 cases d<;>first | exact⟨_,_,_,_,rfl⟩ | exact absurd h (by simp only[dW];decide)
theorem VP{c sd:Int}{l:AH}(q:∃hs,HsO H l hs/\HsB hs/\∀r H',bz H H'->H r=none->RL H H' hs r 2->Q (.ref r) H'):
  xO K (PL K) jB ξ [some (.int c),↑l,some (.int sd),none] H:=by
 obtain⟨hs,ho,hb,q⟩:=q;unfold xO;apply⟨_,_,_,rfl,hs,ho,hb,λt d H1 s1 nt ot ok=>?_⟩;obtain⟨r0,e0⟩:=dV0 d;have ix0:atI (dV d) 0=some (.str (dW d)):=by rw[e0];exact kW (j:=0) rfl
 have one:bH (gk (aj ac aF)) ξ [some (.int c),↑l,some (.int sd),↑t] H1:=by
  apply⟨aU ζ,λr nr=>?_⟩;have s2:=aL nr (.lst [.ref t]);exact q r _ (s1.trans s2) (s1.free nr) ((rl1 (d:=d) (s1.trans s2) (s1.free nr) nt aq (s2 _ _ ot) ok).mono ε)
 have gets:(aN (dX ((Tj (bO (bw (vR) (bw (cZ K) ac τ) (tC (.str "get")))) (bO (bw (vR) (bw ο (bw (rI MJ λi j=>.int (i / j)) π (tC (.int 5))) Γ) τ)))) (bH (gk (aj ac (aj (fU (aj (tC (.str "put")) (aj (bw (cZ K) ac υ) (aj (bw (cZ K) ac (tC (.int 3))) (aj (bw (cZ K) ac (tC (.int 4))) (aj (aX jB [] E0 (aj π (aj (tC (.int 1159523)) (aj (tC (.int 3)) aF)))) aF)))))) aF)))) bY)
   (bH (gk (aj ac aF)))) ξ [some (.int c),↑l,some (.int sd),↑t] H1:=by
  exists t,_,0,_,rfl,rfl,fM.of ot,ix0;apply qM (λhp=>?_) (λ_=>?_)
  ·obtain⟨h,s,tt,f,rfl⟩:=Zwv hp;obtain⟨o1,o2⟩:=ok;apply qM (λ_=>?_) (λ_=>?_)
   ·exists t,_,1,_,rfl,rfl,fM.of ot,rfl;exists t,_,3,_,rfl,rfl,fM.of ot,rfl;exists t,_,4,_,rfl,rfl,fM.of ot,rfl;apply⟨_,_,_,rfl,ε,ε,ε,λz z0 z1=>?_⟩;obtain⟨sl,rfl⟩:=toN z0;apply⟨aU ζ,λu nu=>⟨aU ζ,λr nr=>?_⟩⟩;have s2:=aL nu (.tup (dV (.put h tt f sl)));have s3:=aL nr (.lst [.ref t,.ref u]);have hh:h<hs.length:=by obtain⟨m,hm,_⟩:=o1;exact(fH hm).1
    exact q r _ (s1.trans (s2.trans s3)) (s1.free (s2.free nr)) (rl2 (d:=.get h s tt f) (e:=.put h tt f sl) (s1.trans (s2.trans s3)) (s1.free (s2.free nr)) nt (s1.free nu) aq (s3 _ _ (s2 _ _ ot)) ⟨o1,o2⟩ (s3 _ _ aq) ⟨o2,hb.ok hh δ⟩)
   ·exact one
  ·exact one
 exists t,_,0,_,rfl,rfl,fM.of ot,ix0;apply qM (λhp=>?_) (λ_=>?_)
 ·obtain⟨h,tt,f,s,rfl⟩:=Zwu hp;obtain⟨o1,o2⟩:=ok;apply qM (λ_=>?_) (λ_=>?_)
  ·exists t,_,1,_,rfl,rfl,fM.of ot,rfl;exists t,_,4,_,rfl,rfl,fM.of ot,rfl;apply⟨aU ζ,λu nu=>⟨aU ζ,λr nr=>?_⟩⟩;have s2:=aL nu (.tup (dV (.drop h s)));have s3:=aL nr (.lst [.ref t,.ref u]);exact q r _ (s1.trans (s2.trans s3)) (s1.free (s2.free nr)) (rl2 (d:=.put h tt f s) (e:=.drop h s) (s1.trans (s2.trans s3)) (s1.free (s2.free nr)) nt (s1.free nu) aq (s3 _ _ (s2 _ _ ot)) ⟨o1,o2⟩ (s3 _ _ aq) o2)
  ·exact gets
 ·exact gets
end
section
def Zll(σ:St)(ta:TE)(d:oR):Prop:=∀(H1:Hp) (Q':VK),(∀t H2,bz H1 H2->H1 t=none->H2 t=some (.tup (dV d))->Q' (.ref t) H2)->ta σ H1 Q'
theorem Xw{σ:St}{ta:TE}{d:oR}(h:∀(H1:Hp) (Q':VK),(∀t,H1 t=none->Q' (.ref t) (upd H1 t (.tup (dV d))))->ta σ H1 Q'):Zll σ ta d:=λH1 Q' k=>h H1 Q' λt nt=>k t _ (aL nt _) nt aq
theorem Zei{H0:Hp}{hs:NB}{d e:oR}{ta tb:TE}{σ:St}(s0:bz H0 H)(ha:Zll σ ta d)(hb:Zll σ tb e)(kd:okR hs d)(ke:okR hs e)(k:∀l H',bz H H'->RL H0 H' hs l 2->Q (.ref l) H'):gk (aj ta (aj tb aF)) σ H Q:=by
 left;refine ha H _ λt H1 s1 nt ot=>?_;left;refine hb H1 _ λu H2 s2 nu ou=>?_;left;refine⟨aU ζ,λl nl=>?_⟩;have s3:=aL nl (.lst [.ref t,.ref u]);have s03:=s0.trans (s1.trans (s2.trans s3));exact k l _ (s1.trans (s2.trans s3)) (rl2 s03 (s0.free (s1.free (s2.free nl))) (s0.free nt) (s0.free (s1.free nu)) aq (s3 _ _ (s2 _ _ ot)) kd (s3 _ _ ou) ke)
theorem Zlu{H0:Hp}{hs:NB}{d e f:oR}{ta tb tc:TE}{σ:St}(s0:bz H0 H)(ha:Zll σ ta d)(hb:Zll σ tb e)(hc:Zll σ tc f)(kd:okR hs d)(ke:okR hs e)(kf:okR hs f)(k:∀l H',bz H H'->RL H0 H' hs l 3->Q (.ref l) H'):gk (aj ta (aj tb (aj tc aF))) σ H Q:=by
 left;refine ha H _ λt H1 s1 nt ot=>?_;left;refine hb H1 _ λu H2 s2 nu ou=>?_;left;refine hc H2 _ λw H3 s3 nw ow=>?_;left;refine⟨aU ζ,λl nl=>?_⟩;have s4:=aL nl (.lst [.ref t,.ref u,.ref w]);have s04:=s0.trans (s1.trans (s2.trans (s3.trans s4)));exact k l _ (s1.trans (s2.trans (s3.trans s4))) (rl3 s04 (s0.free (s1.free (s2.free (s3.free nl)))) (s0.free nt) (s0.free (s1.free nu)) (s0.free (s1.free (s2.free nw))) aq (s4 _ _ (s3 _ _ (s2 _ _ ot))) kd (s4 _ _ (s3 _ _ ou)) ke (s4 _ _ ow) kf)
theorem VJ{l:AH}{c sd:Int}(q:∃hs,HsO H l hs/\HsB hs/\∀r H',bz H H'->RL H H' hs r 200->Q (.ref r) H'):
  xJ K jB qP ξ [↑l,some (.int c),some (.int sd),none,none,none] H:=by
 obtain⟨hs,ho,hb,q⟩:=q;obtain⟨ts,ol,al⟩:=id ho;have lts:=al.length;have n5:=hb.n5;unfold xJ;apply⟨ε,λr0 nr0=>?_⟩;have s1:=aL nr0 (.lst []);have g1:RL H (upd H r0 (.lst [])) hs r0 0:=⟨s1,nr0,[],aq,Nat.le_refl _,λv hv=>(nomatch hv)⟩;generalize upd H r0 (.lst [])=H1 at s1 g1 ⊢;apply fK (cC.of (s1 _ _ ol)) ?_;rw[bx,lts];exists _,rfl,δ,δ;refine forR (λk σ Hx=>∃r v4,σ=[↑l,some (.int c),some (.int sd),↑r,v4,none]/\bz H Hx/\RL H Hx hs r (4 * k)) ⟨r0,_,rfl,s1,g1⟩ ?_ ?_
 ·rintro k σ Hx hk ⟨r,v4,rfl,s2,rl⟩;have hk':k<hs.length:=δ
  rw[Int.zero_add];obtain⟨f,ef⟩:=toN (x:=(k:Int) % 2) δ;have o0:Ra hs k 0:=hb.ok hk' ε;have o1:Ra hs k 1:=hb.ok hk' ε;refine Zsl ?_;refine vo ?_;refine RW ?_;refine Zgs ?_;refine Zgr ?_;refine Zei (H0:=H) s2 (d:=.make k 0 2 0) (e:=.make k 1 1 0) (Xw λH1 Q' h=>by apply⟨aU ζ,h⟩) (Xw λH1 Q' h=>by apply⟨aU ζ,h⟩) ⟨o0,ε,ε,ε⟩ ⟨o1,ε,ε,ε⟩ λl2 H2 sm2 rl2=>?_;refine yt (rl.same sm2) rl2 δ λr3 H3 sm3 _ rl3=>?_;refine Zdb ?_;refine RW ?_;refine Zgs ?_;refine Zgr ?_;refine Zei (H0:=H) rl3.s (d:=.put k 0 f 1) (e:=.drop k 1) (Xw λH1 Q' h=>by ext;rw[ef];exact⟨aU ζ,h⟩) (Xw λH1 Q' h=>by apply⟨aU ζ,h⟩) ⟨o0,o1⟩ o1 λl4 H4 sm4 rl4=>?_;refine yt (rl3.same sm4) rl4 δ λr5 H5 sm5 _ Ui=>?_;refine Zdb ?_;exact⟨r5,_,rfl,s2.trans (sm2.trans (sm3.trans (sm4.trans sm5))),Ui.mono δ⟩
 ·rintro σ Hx ⟨r,v4,rfl,s2,rl⟩;have rl:=rl.mono (N':=20) δ;apply⟨_,_,_,rfl,ε,ε,ε,λw w0 w1=>?_⟩;have rest:∀{r1:AH}{H3:Hp}{v4:Option V},bz H H3->RL H H3 hs r1 30->(aN (bI (bw (u5) ac (bw (Zbs) (gk (aj (tC .non) aF)) (bw Θ υ (aX jB [] E0 (aj ω (aj (tC (.int 882377)) (aj (tC (.int 4)) aF))))))) (aO 3))
   (pL K qP)) ξ [↑l,some (.int c),some (.int sd),↑r1,v4,some (.int w)] H3:=by
   intro r1 H3 v4 s3 rl1;apply⟨ε,λl0 nl0=>?_⟩;generalize zz:upd H3 l0 _=H4;obtain⟨s4,g4⟩:=nwO nl0 zz;have rl4:=rl1.same s4;apply⟨_,_,_,rfl,ε,ε,ε,λz z0 z1=>?_⟩;apply Rj (H0:=H) (hs:=hs) rl4.s g4 δ δ λl5 H5 s5 _ Ui=>?_;refine yt (rl4.same s5) (Ui.mono (N':=4) δ) ε λr6 H6 s6 _ rl6=>?_;have s06:=s3.trans (s4.trans (s5.trans s6));refine Zdb ?_;unfold pL;apply fK (cC.of (s06 _ _ ol)) ?_;rw[bx,lts];exists _,rfl,δ,δ;refine forR (λk σ Hx=>∃r v4,σ=[↑l,some (.int c),some (.int sd),↑r,v4,some (.int w)]/\bz H Hx/\RL H Hx hs r (34+7 * k)) ⟨r6,_,rfl,s06,rl6⟩ ?_ ?_
   ·rintro k σ Hx hk ⟨r,v4,rfl,s2,rl⟩;have hk':k<hs.length:=δ
    rw[Int.zero_add];obtain⟨f,ef⟩:=toN (x:=(k:Int) % 2) δ;have o0:Ra hs k 0:=hb.ok hk' ε;have o1:Ra hs k 1:=hb.ok hk' ε;have o2:Ra hs k 2:=hb.ok hk' ε;refine Zsl ?_;refine vo ?_;have third:∀{r1:AH}{H3:Hp},bz H H3->RL H H3 hs r1 (34+7 * k+5)->(dX (bO (bw (vR) (ak 5) (tC (.int 3)))) (bI (bw (u5) ac (gk (aj (fU (aj (tC (.str "name")) (aj (ak 4) (aj τ (aj (aX qP [] E0 (aj ae (aj (bw ο (ak 4) Γ) aF))) aF))))) (aj (fU (aj (tC (.str "drop")) (aj (ak 4) (aj τ aF)))) aF)))) (aO 3)) bY) ⟨λσ Hx=>∃r v4,σ=[↑l,some (.int c),some (.int sd),↑r,v4,some (.int w)]/\bz H Hx/\RL H Hx hs r (34+7 * (k+1)),Q,bH ac ⟨n,Q,bk,ct⟩,λσ Hx=>∃r v4,σ=[↑l,some (.int c),some (.int sd),↑r,v4,some (.int w)]/\bz H Hx/\RL H Hx hs r (34+7 * (k+1))⟩ [↑l,some (.int c),some (.int sd),↑r1,some (.int k),some (.int w)] H3:=by
     intro r1 H3 s3 rl3;apply qM (λ_=>?_) (λ_=>?_)
     ·refine RW ?_;refine Zgs ?_;refine Zgr ?_;left;refine⟨_,_,rfl,δ,δ,λwd=>?_⟩;left;refine⟨aU ζ,λt nt=>?_⟩;have s4:=aL nt (.tup (dV (.name k 0 wd)));have g4:upd H3 t (.tup (dV (.name k 0 wd))) t=some (.tup (dV (.name k 0 wd))):=aq;show aj _ _ _ (upd H3 t (.tup (dV (.name k 0 wd)))) _;generalize upd H3 t (.tup (dV (.name k 0 wd)))=H4 at s4 g4 ⊢;left;refine⟨aU ζ,λu nu=>⟨aU ζ,λl2 UG=>?_⟩⟩;have s5:=aL nu (.tup (dV (.drop k 0)));have g5:upd H4 u (.tup (dV (.drop k 0))) u=some (.tup (dV (.drop k 0))):=aq;show u5 _ _ (upd (upd H4 u (.tup (dV (.drop k 0)))) l2 _) _;have UG:upd H4 u (.tup (dV (.drop k 0))) l2=none:=UG;generalize upd H4 u (.tup (dV (.drop k 0)))=H5 at s5 g5 UG ⊢;have s6:=aL UG (.lst [.ref t,.ref u]);have r6:RL H (upd H5 l2 (.lst [.ref t,.ref u])) hs l2 2:=rl2 (d:=.name k 0 wd) (e:=.drop k 0) (s3.trans (s4.trans (s5.trans s6))) (s3.free (s4.free (s5.free UG))) (s3.free nt) (s3.free (s4.free nu)) aq (s6 _ _ (s5 _ _ g4)) o0 (s6 _ _ g5) o0;have s36:=s4.trans (s5.trans s6);refine yt (rl3.same s36) r6 δ λr7 H7 s7 _ rl7=>?_;refine Zdb ?_;exact⟨r7,_,rfl,s3.trans (s36.trans s7),rl7.mono δ⟩
     ·refine vp ?_;exact⟨r1,_,rfl,s3,rl3.mono δ⟩
    have second:∀{r1:AH}{H3:Hp},bz H H3->RL H H3 hs r1 (34+7 * k+2)->(aN (dX (bO (bw (nR λi j=>.bl (decide (j<i))) (ak 5) υ)) (bI (bw (u5) ac (gk (aj (fU (aj (tC (.str "make")) (aj (ak 4) (aj τ (aj υ (aj τ aF)))))) (aj (fU (aj (tC (.str "put")) (aj (ak 4) (aj τ (aj τ (aj υ aF)))))) (aj (fU (aj (tC (.str "drop")) (aj (ak 4) (aj υ aF)))) aF))))) (aO 3)) bY)
     (dX (bO (bw (vR) (ak 5) (tC (.int 3)))) (bI (bw (u5) ac (gk (aj (fU (aj (tC (.str "name")) (aj (ak 4) (aj τ (aj (aX qP [] E0 (aj ae (aj (bw ο (ak 4) Γ) aF))) aF))))) (aj (fU (aj (tC (.str "drop")) (aj (ak 4) (aj τ aF)))) aF)))) (aO 3)) bY)) ⟨λσ Hx=>∃r v4,σ=[↑l,some (.int c),some (.int sd),↑r,v4,some (.int w)]/\bz H Hx/\RL H Hx hs r (34+7 * (k+1)),Q,bH ac ⟨n,Q,bk,ct⟩,λσ Hx=>∃r v4,σ=[↑l,some (.int c),some (.int sd),↑r,v4,some (.int w)]/\bz H Hx/\RL H Hx hs r (34+7 * (k+1))⟩ [↑l,some (.int c),some (.int sd),↑r1,some (.int k),some (.int w)] H3:=by
     intro r1 H3 s3 rl3;refine vo ?_;left;refine qM (λ_=>?_) (λ_=>?_)
     ·refine RW ?_;refine Zgs ?_;refine Zgr ?_;refine Zlu (H0:=H) s3 (d:=.make k 0 1 0) (e:=.put k 0 0 1) (f:=.drop k 1) (Xw λH1 Q' h=>by apply⟨aU ζ,h⟩) (Xw λH1 Q' h=>by apply⟨aU ζ,h⟩) (Xw λH1 Q' h=>by apply⟨aU ζ,h⟩) ⟨o0,ε,ε,ε⟩ ⟨o0,o1⟩ o1 λl4 H4 s4 rl4=>?_;refine yt (rl3.same s4) rl4 δ λr5 H5 s5 _ Ui=>?_;refine Zdb ?_;exact third (s3.trans (s4.trans s5)) (Ui.mono δ)
     ·refine vp ?_;exact third s3 (rl3.mono δ)
    left;refine qM (λ_=>?_) (λ_=>?_)
    ·refine RW ?_;refine Zgs ?_;refine Zgr ?_;refine Zei (H0:=H) s2 (d:=.get k 1 0 f) (e:=.put k 0 f 2) (Xw λH1 Q' h=>by ext;rw[ef];exact⟨aU ζ,h⟩) (Xw λH1 Q' h=>by ext;rw[ef];exact⟨aU ζ,h⟩) ⟨o1,o0⟩ ⟨o0,o2⟩ λl4 H4 s4 rl4=>?_;refine yt (rl.same s4) rl4 δ λr5 H5 s5 _ Ui=>?_;refine Zdb ?_;exact second (s2.trans (s4.trans s5)) (Ui.mono δ)
    ·refine vp ?_;exact second s2 (rl.mono δ)
   ·rintro σ Hx ⟨r,v4,rfl,s2,rl⟩;apply q r Hx s2 (rl.mono δ)
  apply qM (λ_=>?_) (λ_=>?_)
  ·refine RW ?_;refine Zgs ?_;refine Zgr ?_;refine W2 ?_;left;refine fK (cC.of (s2 _ _ ol)) ?_;rw[bx,lts];left;refine⟨_,rfl,δ,δ,?_⟩;refine Zs0 (n:=hs.length) rfl δ (λi y Hx=>∃t,y=.ref t/\H t=none/\Hx t=some (.tup (dV (.make i 1 0 0)))) (λi y H1 H2 ⟨t,e,f,z⟩ s=>⟨t,e,f,s _ _ z⟩) (λi H1 q hq=>Gp hq) (λi H1 hi s3 q hq=>?_) ?_
   ·walk_at"c";apply⟨aU ζ,λt nt=>hq _ _ (aL nt _) ⟨t,rfl,s2.free (s3.free nt),aq⟩⟩
   ·intro ys H3 s3 ly hy p np;have s4:=aL np (.lst ys);have r4:RL H (upd H3 p (.lst ys)) hs p 5:=⟨s2.trans (s3.trans s4),s2.free (s3.free np),ys,aq,δ,λv hv=>by
     obtain⟨i,hi,e⟩:=List.getElem_of_mem hv;obtain⟨t,e2,fz,z⟩:=hy i v (by rw[bM hi,e]);exact .inr ⟨t,_,e2,fz,s4 _ _ z,hb.ok δ ε,ε,ε,ε⟩⟩
    refine yt (rl.same (s3.trans s4)) r4 ε λr5 H5 s5 _ Ui=>?_;refine Zdb ?_;exact rest (s2.trans (s3.trans (s4.trans s5))) (Ui.mono ε)
  ·refine vp ?_;exact rest s2 (rl.mono ε)
theorem Zan{a l:AH}(q:∃ns:AD,∃hs,cC K H a (ns.map V.int)/\ns.length<=63/\HsO H l hs/\HsB hs/\∀r H',bz H H'->RL H H' hs r 700->Q (.ref r) H'):
  zM K (qQ K) (Dt K) jB (Jw K) ξ [↑a,↑l,none,none,none,none,none] H:=by
 obtain⟨ns,hs,hS,hlen,ho,hb,q⟩:=q;unfold zM;apply⟨ε,λr0 nr0=>?_⟩;have s1:=aL nr0 (.lst []);have g1:RL H (upd H r0 (.lst [])) hs r0 200:=⟨s1,nr0,[],aq,Nat.zero_le _,λv hv=>(nomatch hv)⟩;generalize upd H r0 (.lst [])=H1 at s1 g1 ⊢;have rest:∀{r1:AH}{H2:Hp},bz H H2->RL H H2 hs r1 200->(qg K (qQ K) (Dt K) jB) ξ [↑a,↑l,↑r1,none,none,none,none] H2:=by
  intro r1 H2 s2 rl2;unfold qg;apply⟨a,2,rfl,ns,s2.seq hS,ε,λsd=>?_⟩;apply⟨a,_,rfl,s2.seq hS,λsrc ZAy=>?_⟩;have Zxh:∃zs:AD,Sg (ns.map V.int) (some 3) (some 63)=zs.map V.int/\zs.length<=63:=by
   refine⟨(ns.drop (HT.Yx ns.length 0 (some 3))).take (HT.Yx ns.length ns.length (some 63) - HT.Yx ns.length 0 (some 3)),?_,?_⟩
   ·unfold Sg;rw[List.map_take,List.map_drop,bx]
   ·rw[List.length_take,List.length_drop];omega
  obtain⟨zs,ez,lz⟩:=Zxh;rw[ez];generalize zz:upd H2 src _=H3;obtain⟨s3,g3⟩:=nwO ZAy zz;refine⟨src,rfl,⟨_,cC.of g3⟩,forL (zs.map V.int) (λi σ Hx=>∃r v5 v6,σ=[↑a,↑l,↑r,some (.int sd),some (.int i),v5,v6]/\bz H3 Hx/\RL H Hx hs r (200+6 * i)) ⟨r1,_,_,rfl,bz.refl _,rl2.same s3⟩ (λ_ _ _ _ ⟨_,_,_,_,z,_⟩=>cC.of (z _ _ g3)) ?_ ?_⟩
  ·rintro i x σ Hx hi ⟨r,v5,v6,rfl,s4,rl⟩;have hil:=(fH hi).1;rw[bx]at hil;obtain⟨c,hc,rfl⟩:=List.mem_map.mp (List.mem_of_getElem? hi);have hii:(i:Int) * i<=3969:=by
    have:=Nat.mul_le_mul (show i<=63 by omega) (show i<=63 by omega);have e:((i * i:Nat):Int)=(i:Int) * i:=by push_cast;rfl
    omega
   have hi0:0<=(i:Int) * i:=Int.mul_nonneg δ δ;have s04:=s2.trans (s3.trans s4);ext;generalize c+(i:Int) * i * 1000003=z;refine⟨_,_,_,rfl,ε,ε,ε,λy y0 y1=>?_⟩;apply qM (λ_=>?_) (λ_=>?_)
   ·apply⟨ε,λl0 nl0=>?_⟩;generalize zz:upd Hx l0 _=H5;obtain⟨s5,g5⟩:=nwO nl0 zz;have Ui:=rl.same s5;apply⟨_,_,_,rfl,ε,ε,ε,λw w0 w1=>?_⟩;apply Rj (H0:=H) (hs:=hs) Ui.s g5 δ δ λl6 H6 s6 _ rl6=>?_;refine yt (Ui.same s6) (rl6.mono (N':=6) δ) δ λr7 H7 s7 _ rl7=>?_;apply Zoo rfl ?_;exact⟨r7,_,_,by rw[show((i+1:Nat):Int)=(i:Int)+1 from by push_cast;rfl];rfl,s4.trans (s5.trans (s6.trans s7)),rl7.mono δ⟩
   ·apply⟨_,_,_,rfl,hs,ho.same s04,hb,λr5 H5 s5 _ Ui=>?_⟩;have Ui:=Ui.base s04;refine yt (rl.same s5) Ui δ λr7 H7 s7 _ rl7=>?_;apply Zoo rfl ?_;exact⟨r7,_,_,by rw[show((i+1:Nat):Int)=(i:Int)+1 from by push_cast;rfl];rfl,s4.trans (s5.trans s7),rl7.mono δ⟩
  ·rintro σ Hx ⟨r,v5,v6,rfl,s4,rl⟩;rw[bx]at rl;apply⟨ε,λl0 nl0=>?_⟩;generalize zz:upd Hx l0 _=H5;obtain⟨s5,g5⟩:=nwO nl0 zz;have Ui:=rl.same s5;apply⟨_,_,_,rfl,ε,ε,ε,λw w0 w1=>?_⟩;apply Rj (H0:=H) (hs:=hs) Ui.s g5 δ δ λl6 H6 s6 _ rl6=>?_;refine yt (Ui.same s6) (rl6.mono (N':=24) δ) δ λr7 H7 s7 _ rl7=>?_;exact q r7 H7 (s2.trans (s3.trans (s4.trans (s5.trans (s6.trans s7))))) (rl7.mono δ)
 apply⟨a,0,rfl,ns,s1.seq hS,ε,λc0=>?_⟩;apply⟨_,_,_,rfl,ε,ε,ε,λz z0 z1=>?_⟩;apply qM (λ_=>?_) (λ_=>?_)
 ·apply⟨a,0,rfl,ns,s1.seq hS,ε,λc1=>?_⟩;apply⟨a,2,rfl,ns,s1.seq hS,ε,λc2=>?_⟩;apply⟨_,_,_,rfl,hs,ho.same s1,hb,λr H2 s2 rl2=>?_⟩;refine Zwa ?_;exact rest (s1.trans s2) (rl2.base s1)
 ·refine vp ?_;exact rest s1 g1
end
def Zx9(M:Wm):Prop:=M.sw.phase="walk"->M.sw.grey.Nodup/\∀x∈M.sw.grey,∃c,cellAt M x=some c/\c.tone=M.sw.sense
structure KW(M:Wm)(hs:NB)(k:Nat):Prop where
 hl:M.hands.length=hs.length
 hn:∀(i:Nat) m n,M.hands[i]? =some m->hs[i]? =some n->m.2.length=n.2.toNat
 cl:M.cells.length<=k
 nl:M.names.length<=k
 fl:∀c,some c∈M.cells->c.fl.length<=8
 gr:Zx9 M
 ph:M.sw.phase="rest"\/M.sw.phase="walk"\/M.sw.phase="give"\/M.sw.phase="lost"
 a0:0<=M.sw.at'
 tl:0<=M.tells/\M.tells<4
section
variable {M:Wm}{hs:NB}{k:Nat}
theorem Zci:∀(n:Nat) (l:AD),l.Nodup->(∀x∈l,0<=x/\x<n)->l.length<=n
 | 0,l,_,h=>by
  cases l with
  | nil=>exact Nat.le_refl _
  | cons x l=>have:=h x ζ;omega
 | n+1,l,nd,h=>by
  have h1:(l.erase (n:Int)).length<=n:=Zci n _ (nd.erase _) λx hx=>by
   have h2:=h x (List.mem_of_mem_erase hx);have h3:x≠(n:Int):=((nd.mem_erase_iff).mp hx).1
   push_cast at h2
   omega
  have h4:=List.length_erase (a:=(n:Int)) (l:=l);split at h4<;>omega
theorem Xk{x:Int}{c:Ce}(h:cellAt M x=some c):0<=x/\x<M.cells.length:=by
 obtain⟨h0,h1⟩:=cV.mp h;have:=(fH h1).1;omega
theorem KW.ok(p:KW M hs k)(hb:HsB hs)(hk:k<=900):Zhv M:=by
 have hcl:=p.cl;have hnl:=p.nl;refine⟨δ,λm hm=>?_,λc hc=>by have:=p.fl c hc;omega,δ,λph=>?_,λph x hx=>?_,p.ph,p.a0⟩
 ·obtain⟨i,hi,e⟩:=List.getElem_of_mem hm;have hi2:i<hs.length:=by rw[<- p.hl];exact hi
  have h1:=p.hn i m _ (by rw[bM hi,e]) (bM hi2);have h2:=hb.sb _ (List.getElem_mem hi2);omega
 ·obtain⟨nd,h1⟩:=p.gr ph;refine Nat.le_trans (Zci M.cells.length _ nd λx hx=>?_) δ;obtain⟨c,hc,_⟩:=h1 x hx;exact Xk hc
 ·obtain⟨c,hc,_⟩:=(p.gr ph).2 x hx;exact⟨c,hc⟩
theorem KW.Bl(p:KW M hs k){h s:Nat}(o:Ra hs h s):Bl M h s:=by
 obtain⟨m,hm,hlt⟩:=o;have hh:h<M.hands.length:=by rw[p.hl];exact(fH hm).1
 refine⟨_,bM hh,?_⟩;have:=p.hn h _ m (bM hh) hm;omega
theorem KW.okD(p:KW M hs k){d:oR}(o:okR hs d):okD M d:=by
 cases d with
 | make h s many bulk=>exact⟨p.Bl o.1,o.2.1,by have:=o.2.2.1;omega,o.2.2.2⟩
 | get h s t f=>exact⟨p.Bl o.1,p.Bl o.2⟩
 | put h t f s=>exact⟨p.Bl o.1,p.Bl o.2⟩
 | copy h s t=>exact⟨p.Bl o.1,p.Bl o.2⟩
 | drop h s=>exact p.Bl o
 | give h s g t=>exact⟨p.Bl o.1,p.Bl o.2⟩
 | write h t l=>exact p.Bl o
 | read h t=>exact p.Bl o
 | name h t z=>exact p.Bl o
 | seek h s z=>exact p.Bl o
theorem KW.mono{k':Nat}(p:KW M hs k)(h:k<=k'):KW M hs k':=by
 obtain⟨a1,a2,a3,a4,a5,a6,a7,a8,a9⟩:=p;exact⟨a1,a2,δ,δ,a5,a6,a7,a8,a9⟩
theorem KW.slot(p:KW M hs k)(h s:Nat)(x:AA):KW (setSlot M h s x) hs k:=by
 obtain⟨a1,a2,a3,a4,a5,a6,a7,a8,a9⟩:=p;refine⟨by show(M.hands.modify h _).length=_;rw[List.length_modify];exact a1,λi m n e1 e2=>?_,a3,a4,a5,a6,a7,a8,a9⟩;have e1:(M.hands.modify h λm=>(m.1,m.2.set s x))[i]? =some m:=e1;rw[List.getElem?_modify]at e1;cases em:M.hands[i]? with
 | none=>rw[em]at e1;cases e1
 | some m0=>
  rw[em]at e1
  by_cases z:h=i
  ·have e3:(m0.1,m0.2.set s x)=m:=by simpa[z]using e1
   rw[<- e3];show(m0.2.set s x).length=_;rw[List.length_set];exact a2 i m0 n em e2
  ·have e3:m0=m:=by simpa[z]using e1
   rw[<- e3];exact a2 i m0 n em e2
theorem lY{i:Int}{c c':Ce}(h:cellAt M i=some c)(x:Int):cellAt (setCell M i c') x=if x=i then some c' else cellAt M x:=by
 obtain⟨h0,h1⟩:=cV.mp h;unfold cellAt;show(if 0<=x then((M.cells.set i.toNat (some c'))[x.toNat]?).join else none)=_
 by_cases e:x=i
 ·subst e;rw[if_pos h0,if_pos rfl,List.getElem?_set_self (fH h1).1];rfl
 ·rw[if_neg e]
  by_cases x0:0<=x
  ·rw[if_pos x0,if_pos x0,List.getElem?_set_ne δ]
  ·rw[if_neg x0,if_neg x0]
theorem KW.cell(p:KW M hs k){i:Int}{c c':Ce}(h:cellAt M i=some c)(ht:c'.tone=c.tone)(hf:c'.fl.length=c.fl.length):KW (setCell M i c') hs k:=by
 have h8:=p.fl c (vH h);obtain⟨a1,a2,a3,a4,a5,a6,a7,a8,a9⟩:=p;refine⟨a1,a2,by show(M.cells.set _ _).length<=_;rw[List.length_set];exact a3,a4,λd hd=>?_,λph=>?_,a7,a8,a9⟩
 ·rcases List.mem_or_eq_of_mem_set (show some d∈M.cells.set _ _ from hd)with hd | hd
  ·exact a5 d hd
  ·cases hd;omega
 ·obtain⟨nd,h1⟩:=a6 ph;refine⟨nd,λx hx=>?_⟩;obtain⟨d,hd,td⟩:=h1 x hx;rw[lY h]
  by_cases e:x=i
  ·subst e;rw[h]at hd;cases hd;exact⟨c',by rw[if_pos rfl],by rw[ht];exact td⟩
  ·exact⟨d,by rw[if_neg e];exact hd,td⟩
theorem KW.note(p:KW M hs k)(x:AA):KW (bN M x).2 hs k:=by
 cases x with
 | none=>exact p
 | some i=>
  unfold bN;dsimp only;cases hc:cellAt M i with
  | none=>exact p
  | some c=>
   dsimp only;split
   ·rename_i z
    obtain⟨z1,z2⟩:=z;have h8:=p.fl c (vH hc);obtain⟨a1,a2,a3,a4,a5,a6,a7,a8,a9⟩:=p;obtain⟨nd,h1⟩:=a6 z1;have hni:i∉M.sw.grey:=λhi=>by
     obtain⟨d,hd,td⟩:=h1 i hi;rw[hc]at hd;cases hd;exact z2 td
    refine⟨a1,a2,by show(M.cells.set _ _).length<=_;rw[List.length_set];exact a3,a4,λd hd=>?_,λ_=>⟨?_,λx hx=>?_⟩,a7,a8,a9⟩
    ·rcases List.mem_or_eq_of_mem_set (show some d∈M.cells.set _ _ from hd)with hd | hd
     ·exact a5 d hd
     ·cases hd;exact h8
    ·show(M.sw.grey++[i]).Nodup;rw[List.nodup_append];exact⟨nd,ζ,λa ha b hb e=>hni (by rw[List.mem_singleton.mp hb]at e;rw[<- e];exact ha)⟩
    ·have e:=lY (c':={ c with tone:=M.sw.sense }) hc x;show ∃d,cellAt (setCell M i { c with tone:=M.sw.sense }) x=some d/\d.tone=M.sw.sense;rw[e]
     by_cases ex:x=i
     ·exact⟨_,by rw[if_pos ex],rfl⟩
     ·rcases List.mem_append.mp (show x∈M.sw.grey++[i]from hx)with hx | hx
      ·obtain⟨d,hd,td⟩:=h1 x hx;exact⟨d,by rw[if_neg ex];exact hd,td⟩
      ·exact absurd (List.mem_singleton.mp hx) ex
   ·exact p
theorem KW.notes:∀{l:Au}{M:Wm},KW M hs k->KW (aR M l).2 hs k
 | [],_,p=>p
 | x::l,_,p=>KW.notes (l:=l) (p.note x)
theorem KW.nh(bits:Int):∀{l:List (Str×Au)}{j:Nat}{M:Wm},KW M hs k->KW (iJ bits l j M).2 hs k
 | [],_,_,p=>p
 | m::l,j,M,p=>by
  unfold iJ;split
  ·exact KW.nh bits (l:=l) (KW.notes p)
  ·exact KW.nh bits (l:=l) p
theorem KW.put(p:KW M hs k){u b:Int}{c:Ce}(hf:c.fl.length<=8):KW { M with used:=u,born:=b,cells:=nM M.cells c } hs (k+1):=by
 obtain⟨a1,a2,a3,a4,a5,a6,a7,a8,a9⟩:=p;refine⟨a1,a2,?_,by show M.names.length<=_;omega,λd hd=>?_,λph=>?_,a7,a8,a9⟩
 ·have:=Zqt M.cells c;show(nM M.cells c).length<=_;omega
 ·rcases Znk hd with hd | hd
  ·exact a5 d hd
  ·cases hd;exact hf
 ·obtain⟨nd,h1⟩:=a6 ph;refine⟨nd,λx hx=>?_⟩;obtain⟨d,hd,td⟩:=h1 x hx;exact⟨d,Sx hd,td⟩
theorem Zjn{l:List (Str×(Int×Int))}{z:Str}{v:Int×Int}:(wg l z v).length<=l.length+1:=by
 unfold wg;split
 ·rw[bx];omega
 ·rw[List.length_append];simp
theorem KW.name(p:KW M hs k){z:Str}{v:Int×Int}:KW { M with names:=wg M.names z v } hs (k+1):=by
 obtain⟨a1,a2,a3,a4,a5,a6,a7,a8,a9⟩:=p;refine⟨a1,a2,by show M.cells.length<=_;omega,?_,a5,a6,a7,a8,a9⟩;have:=Zjn (l:=M.names) (z:=z) (v:=v);show(wg M.names z v).length<=_;omega
theorem KW.deed(p:KW M hs k){d:oR}{e:Ev}{M':Wm}(o:okR hs d)(h:ug M d=.ok (e,M')):KW M' hs (k+1):=by
 have le:k<=k+1:=δ
 cases d with
 | make hh s many bulk=>
  simp only[ug]at h;split at h
  ·right;refine KW.slot (KW.put p ?_) _ _ _;show(List.replicate many.toNat none).length<=8;rw[List.length_replicate];have:=o.2.2.1;omega
  ·cases h
 | get hh s t f=>
  simp only[ug]at h;split at h
  ·cases h
  ·split at h
   ·cases h
   ·split at h
    ·cases h
    ·right;exact(p.slot _ _ _).mono le
 | put hh t f s=>
  simp only[ug]at h;split at h
  ·cases h
  ·split at h
   ·cases h
   ·rename_i c hc
    split at h
    ·cases h
    ·right;exact(KW.notes (p.cell (c':={ c with fl:=c.fl.set f (aW M hh s) }) hc rfl (by show(List.set _ _ _).length=_;rw[List.length_set]))).mono le
 | copy hh s t=>
  right;exact(p.slot _ _ _).mono le
 | drop hh s=>
  right;exact(p.slot _ _ _).mono le
 | give hh s g t=>
  right;exact(KW.notes (p.slot _ _ _)).mono le
 | write hh t l=>
  simp only[ug]at h;split at h
  ·cases h
  ·split at h
   ·cases h
   ·rename_i c hc
    right;exact(p.cell (c':={ c with load:=l }) hc rfl rfl).mono le
 | read hh t=>
  simp only[ug]at h;split at h
  ·cases h
  ·split at h
   ·cases h
   ·right;exact p.mono le
 | name hh t z=>
  simp only[ug]at h;split at h
  ·cases h
  ·split at h
   ·cases h
   ·right;exact p.name
 | seek hh s z=>
  simp only[ug]at h;split at h
  ·cases h
  ·split at h
   ·right;exact(p.slot _ _ _).mono le
   ·right;exact(KW.notes (p.slot _ _ _)).mono le
theorem KW.step(p:KW M hs k){lb:Int}{lw:AD}{e:Ev}{M':Wm}(h:vJ lb lw M e M'):KW M' hs k:=by
 cases h with
 | begin ph=>
  refine KW.nh _ ?_;obtain⟨a1,a2,a3,a4,a5,a6,a7,a8,a9⟩:=p;exact⟨a1,a2,a3,a4,a5,λ_=>⟨List.nodup_nil,λx hx=>(nomatch hx)⟩,.inr (.inl rfl),a8,a9⟩
 | walk x g c ph hg hc=>
  refine KW.notes ?_;obtain⟨a1,a2,a3,a4,a5,a6,a7,a8,a9⟩:=p;refine⟨a1,a2,a3,a4,a5,λ_=>?_,a7,a8,a9⟩;obtain⟨nd,h1⟩:=a6 ph;rw[hg]at nd h1;exact⟨(List.nodup_cons.mp nd).2,λy hy=>h1 y (List.mem_cons_of_mem _ hy)⟩
 | look N ph hg nc hN=>
  have p':KW N hs k:=by rw[hN];exact KW.nh _ p
  obtain⟨a1,a2,a3,a4,a5,a6,a7,a8,a9⟩:=p';exact⟨a1,a2,a3,a4,a5,a6,a7,a8,a9⟩
 | cut q qs ph hg cd bf hno=>
  obtain⟨a1,a2,a3,a4,a5,a6,a7,a8,a9⟩:=p;exact⟨a1,a2,a3,a4,a5,λz=>absurd z (show ¬ ("give":Str)="walk" by decide),.inr (.inr (.inl rfl)),Int.le_refl _,a9⟩
 | lost q qs i x c v ph hg cd bf hx hno hc ht=>
  obtain⟨a1,a2,a3,a4,a5,a6,a7,a8,a9⟩:=p;exact⟨a1,a2,a3,a4,a5,λz=>absurd z (show ¬ ("lost":Str)="walk" by decide),.inr (.inr (.inr rfl)),Int.le_refl _,a9⟩
 | pass ph lt hp=>
  obtain⟨a1,a2,a3,a4,a5,a6,a7,a8,a9⟩:=p;exact⟨a1,a2,a3,a4,a5,a6,a7,by show 0<=M.sw.at'+1;omega,a9⟩
 | back c ph lt hc ht=>
  obtain⟨a1,a2,a3,a4,a5,a6,a7,a8,a9⟩:=p;refine⟨a1,a2,by show(M.cells.set _ _).length<=_;rw[List.length_set];exact a3,a4,λd hd=>?_,λz=>absurd (ph.symm.trans z) ε,a7,by show 0<=M.sw.at'+1;omega,a9⟩;rcases List.mem_or_eq_of_mem_set (show some d∈M.cells.set _ _ from hd)with hd | hd
  ·exact a5 d hd
  ·cases hd
 | fin ph lt=>
  obtain⟨a1,a2,a3,a4,a5,a6,a7,a8,a9⟩:=p;exact⟨a1,a2,a3,a4,a5,λz=>absurd z (show ¬ ("rest":Str)="walk" by decide),.inl rfl,a8,a9⟩
 | again ph=>exact p
theorem KW.new{room:Int}{w t:Int}(h0:0<=t)(h1:t<4):KW (UJ room hs w t) hs 0:=by
 refine⟨by show(hs.map _).length=_;rw[bx],λi m n e1 e2=>?_,Nat.le_refl _,Nat.le_refl _,λc hc=>(nomatch hc),λz=>absurd z (show ¬ ("rest":Str)="walk" by decide),.inl rfl,Int.le_refl _,⟨h0,h1⟩⟩;have e1:(hs.map λm=>(m.1,List.replicate m.2.toNat (none:AA)))[i]? =some m:=e1;rw[dj,e2]at e1;cases e1;exact List.length_replicate
end
def Zj3(K:aC):Sp:=λvs H Q E=>∃a,vs=[.ref a]/\∃ns:AD,cC K H a (ns.map V.int)/\ns.length<=63/\∀H',Q (.bl true) H'
def PJ(X:Cs)(rf:Rf->AH):Sp:=λvs H Q E=>∃wo dd,vs=[.ref wo,.ref dd]/\∃T s A M d,WT H T/\s≠0/\WJ X H T s A M/\A.wo=wo/\H dd=some (.tup (dV d))/\okD M d/\M.cells.length<=900/\(M.sw.phase="walk"->M.sw.grey.length<=10000)/\(0<=M.tells/\M.tells<4)/\M.names.length<=1000/\
 (∀r,ug M d=.error r->∀H',bz H H'->Q .non H')/\
 (∀e M',ug M d=.ok (e,M')->∀H' T' A' a,d7 s H H' T T'->WJ X H' T' s A' M'->A'.wo=wo->EvN H H' T' s a e->Q (.ref a) H')
section
theorem Zas{wo dd CE CN CF CM:AH}(hE:rf .empty=CE)(hN:rf .sI=CN)(hF:rf .full=CF)(hM:rf .Rk=CM)(q:∃T s A M d,WT H T/\s≠0/\WJ X H T s A M/\A.wo=wo/\H dd=some (.tup (dV d))/\okD M d/\M.cells.length<=900/\(M.sw.phase="walk"->M.sw.grey.length<=10000)/\(0<=M.tells/\M.tells<4)/\M.names.length<=1000/\
 (∀r,ug M d=.error r->∀H',bz H H'->Q .non H')/\
 (∀e M',ug M d=.ok (e,M')->∀H' T' A' a,d7 s H H' T T'->WJ X H' T' s A' M'->A'.wo=wo->EvN H H' T' s a e->Q (.ref a) H')):
  zR CE CF CN CM (ZIa X rf) ξ [↑wo,↑dd,none] H:=by
 obtain⟨T,s,A,M,d,w,s0,j,rfl,ed,od,hc,hg,tl,nm,h1,h2⟩:=q;unfold zR;apply⟨_,dd,rfl,T,s,A,M,d,trivial,w,s0,j,rfl,ed,od,hc,hg,tl,nm,λr er H' sm=>?_,λe M' he H' T' A' a st j' aw ev=>?_⟩
 ·refine⟨?_,?_⟩
  ·cases r
   ·exact .inr (.inr (.inl (by rw[hF])))
   ·exact .inl (by rw[hE])
   ·exact .inr (.inl (by rw[hN]))
   ·exact .inr (.inr (.inr (by rw[hM])))
  ·apply h1 r er H' sm
 ·apply h2 e M' he H' T' A' a st j' aw ev
end
def pH(M:Wm)(i:Int):Int:=((cellAt M i).map (·.birth)).getD 0
section
variable {M:Wm}
structure NL(M N:Wm)(acc:AD):Prop where
 sw:N.sw={ M.sw with grey:=M.sw.grey++acc }
 at_:∀i,cellAt N i=if i∈acc then(cellAt M i).map (λc=>{ c with tone:=M.sw.sense })else cellAt M i
 nt:NtR M N
def nhL(bits:Int):List (Str×Au)->Nat->Au
 | [],_=>[]
 | m::l,k=>if bits / 2 ^ k % 2=1 then m.2++nhL bits l (k+1)else nhL bits l (k+1)
theorem Ri:∀(a b:Au) (M:Wm),aR M (a++b)=((aR M a).1++(aR (aR M a).2 b).1,(aR (aR M a).2 b).2)
 | [],b,M=>rfl
 | x::a,b,M=>by
  show(Rc (bN M x).1++(aR (bN M x).2 (a++b)).1,(aR (bN M x).2 (a++b)).2)=((Rc (bN M x).1++(aR (bN M x).2 a).1)++(aR (aR (bN M x).2 a).2 b).1,(aR (aR (bN M x).2 a).2 b).2);rw[Ri a b,List.append_assoc]
theorem M5(bits:Int):∀(l:List (Str×Au)) (k:Nat) (M:Wm),iJ bits l k M=aR M (nhL bits l k)
 | [],_,_=>rfl
 | m::l,k,M=>by
  unfold iJ nhL;split
  ·rw[Ri,M5 bits l (k+1)]
  ·exact M5 bits l (k+1) M
end
structure TB(w0:Int)(M:Wm):Prop where
 bu:∀i j c d,cellAt M i=some c->cellAt M j=some d->c.birth=d.birth->i=j
 bn:∀i c,cellAt M i=some c->1<=c.birth/\c.birth<=M.born
 b0:0<=M.born
 se:M.sw.sense=0\/M.sw.sense=1
 tn:∀i c,cellAt M i=some c->c.tone=0\/c.tone=1
 rs:M.sw.phase="rest"->∀i c,cellAt M i=some c->c.tone=M.sw.sense
 gv:M.sw.phase="give"->∀i c,cellAt M i=some c->c.tone≠M.sw.sense->M.sw.at'<=i/\i<M.sw.stop
 ww:M.w=w0
structure Sb(M M':Wm):Prop where
 ce:∀i,(cellAt M' i).map (·.birth)=(cellAt M i).map (·.birth)
 tn:∀i c c',cellAt M i=some c->cellAt M' i=some c'->c'.tone=c.tone\/(M.sw.phase="walk"/\c'.tone=M.sw.sense)
 bn:M'.born=M.born
 se:M'.sw.sense=M.sw.sense
 ph:M'.sw.phase=M.sw.phase
 at_:M'.sw.at'=M.sw.at'
 st:M'.sw.stop=M.sw.stop
 ww:M'.w=M.w
section
variable {M M':Wm}{w0:Int}
theorem Sb.get(h:Sb M M'){i:Int}{c':Ce}(e:cellAt M' i=some c'):∃c,cellAt M i=some c/\c'.birth=c.birth/\(c'.tone=c.tone\/(M.sw.phase="walk"/\c'.tone=M.sw.sense)):=by
 have h1:=h.ce i;rw[e]at h1;cases hc:cellAt M i with
 | none=>rw[hc]at h1;cases h1
 | some c=>
  rw[hc]at h1;exact⟨c,rfl,Option.some.inj h1,h.tn i c c' hc e⟩
theorem Sb.vd(h:M'.cells=M.cells)(bn:M'.born=M.born)(se:M'.sw.sense=M.sw.sense)(ph:M'.sw.phase=M.sw.phase)(at_:M'.sw.at'=M.sw.at')(st:M'.sw.stop=M.sw.stop)(ww:M'.w=M.w):Sb M M':=by
 have e:∀i,cellAt M' i=cellAt M i:=λi=>by unfold cellAt;rw[h]
 exact⟨λi=>by rw[e],λi c c' h1 h2=>by rw[e,h1]at h2;cases h2;exact .inl rfl,bn,se,ph,at_,st,ww⟩
theorem Sb.refl(M:Wm):Sb M M:=Sb.vd rfl rfl rfl rfl rfl rfl rfl
theorem Sb.trans{M'':Wm}(a:Sb M M')(b:Sb M' M''):Sb M M'':=by
 refine⟨λi=>(b.ce i).trans (a.ce i),λi c c2 h1 h2=>?_,b.bn.trans a.bn,b.se.trans a.se,b.ph.trans a.ph,b.at_.trans a.at_,b.st.trans a.st,b.ww.trans a.ww⟩;obtain⟨c1,h3,_,h4⟩:=b.get h2;have h5:=a.tn i c c1 h1 h3;rw[a.ph,a.se]at h4;rcases h4 with h4 | h4
 ·rcases h5 with h5 | h5
  ·exact .inl (h4.trans h5)
  ·exact .inr ⟨h5.1,h4.trans h5.2⟩
 ·exact .inr h4
theorem Sb.slot(M:Wm)(h s:Nat)(x:AA):Sb M (setSlot M h s x):=Sb.vd rfl rfl rfl rfl rfl rfl rfl
theorem Sb.cell{i:Int}{c c':Ce}(h:cellAt M i=some c)(hb:c'.birth=c.birth)(ht:c'.tone=c.tone\/(M.sw.phase="walk"/\c'.tone=M.sw.sense)):Sb M (setCell M i c'):=by
 refine⟨λx=>?_,λx d d' h1 h2=>?_,rfl,rfl,rfl,rfl,rfl,rfl⟩
 ·rw[lY h]
  by_cases e:x=i
  ·subst e;rw[if_pos rfl,h];exact congrArg some hb
  ·rw[if_neg e]
 ·rw[lY h]at h2
  by_cases e:x=i
  ·subst e;rw[if_pos rfl]at h2;rw[h]at h1;cases h1;cases h2;exact ht
  ·rw[if_neg e,h1]at h2;cases h2;exact .inl rfl
theorem Sb.note(M:Wm)(x:AA):Sb M (bN M x).2:=by
 cases x with
 | none=>exact Sb.refl M
 | some i=>
  unfold bN;dsimp only;cases hc:cellAt M i with
  | none=>exact Sb.refl M
  | some c=>
   dsimp only;split
   ·rename_i z
    exact(Sb.cell (c':={ c with tone:=M.sw.sense }) hc rfl (.inr ⟨z.1,rfl⟩)).trans (Sb.vd rfl rfl rfl rfl rfl rfl rfl)
   ·exact Sb.refl M
theorem Sb.notes:∀(l:Au) (M:Wm),Sb M (aR M l).2
 | [],M=>Sb.refl M
 | x::l,M=>(Sb.note M x).trans (Sb.notes l _)
theorem Sb.nh(bits:Int):∀(l:List (Str×Au)) (j:Nat) (M:Wm),Sb M (iJ bits l j M).2
 | [],_,M=>Sb.refl M
 | m::l,j,M=>by
  unfold iJ;split
  ·exact(Sb.notes m.2 M).trans (Sb.nh bits l (j+1) _)
  ·exact Sb.nh bits l (j+1) M
theorem TB.sb(p:TB w0 M)(h:Sb M M'):TB w0 M':=by
 refine⟨λi j c d h1 h2 e=>?_,λi c h1=>?_,by rw[h.bn];exact p.b0,by rw[h.se];exact p.se,λi c h1=>?_,λph i c h1=>?_,λph i c h1 ht=>?_,by rw[h.ww];exact p.ww⟩
 ·obtain⟨c0,e1,b1,_⟩:=h.get h1;obtain⟨d0,e2,b2,_⟩:=h.get h2;exact p.bu i j c0 d0 e1 e2 (by rw[<- b1,<- b2];exact e)
 ·obtain⟨c0,e1,b1,_⟩:=h.get h1;rw[b1,h.bn];exact p.bn i c0 e1
 ·obtain⟨c0,e1,_,t1⟩:=h.get h1;rcases t1 with t1 | t1
  ·rw[t1];exact p.tn i c0 e1
  ·rw[t1.2];exact p.se
 ·obtain⟨c0,e1,_,t1⟩:=h.get h1;rw[h.ph]at ph;rw[h.se];rcases t1 with t1 | t1
  ·rw[t1];exact p.rs ph i c0 e1
  ·exact t1.2
 ·obtain⟨c0,e1,_,t1⟩:=h.get h1;rw[h.ph]at ph;rw[h.se]at ht;rw[h.at_,h.st];rcases t1 with t1 | t1
  ·exact p.gv ph i c0 e1 (by rw[<- t1];exact ht)
  ·exact absurd t1.2 ht
theorem kh{x u b:Int}{c d:Ce}(h:cellAt { M with used:=u,born:=b,cells:=nM M.cells c } x=some d):(x=lD M.cells/\d=c)\/cellAt M x=some d:=by
 obtain⟨h0,h1⟩:=cV.mp h;have h1:(nM M.cells c)[x.toNat]? =some (some d):=h1
 by_cases z:x.toNat=lD M.cells
 ·rw[z,O2]at h1;cases h1;exact .inl ⟨δ,rfl⟩
 ·refine .inr (cV.mpr ⟨h0,?_⟩);unfold nM at h1;split at h1
  ·rw[List.getElem?_set_ne (λe=>z e.symm)]at h1;exact h1
  ·rename_i y
   rw[List.getElem?_append]at h1;split at h1
   ·exact h1
   ·rename_i y2
    have hlt:=(fH h1).1;have hle:=Za0 M.cells;have:x.toNat - M.cells.length<1:=hlt;omega
theorem TB.put(p:TB w0 M){u:Int}{c:Ce}(hb:c.birth=M.born+1)(ht:c.tone=M.sw.sense):TB w0 { M with used:=u,born:=M.born+1,cells:=nM M.cells c }:=by
 have b0:=p.b0;refine⟨λi j d e h1 h2 eb=>?_,λi d h1=>?_,by show 0<=M.born+1;omega,p.se,λi d h1=>?_,λph i d h1=>?_,λph i d h1 hp=>?_,p.ww⟩
 ·rcases kh h1 with ⟨z1,z2⟩ | z1
  ·rcases kh h2 with ⟨y1,y2⟩ | y1
   ·rw[z1,y1]
   ·have:=p.bn j e y1;rw[z2,hb]at eb;omega
  ·rcases kh h2 with ⟨y1,y2⟩ | y1
   ·have:=p.bn i d z1;rw[y2,hb]at eb;omega
   ·exact p.bu i j d e z1 y1 eb
 ·show 1<=d.birth/\d.birth<=M.born+1;rcases kh h1 with ⟨z1,z2⟩ | z1
  ·rw[z2,hb];omega
  ·have:=p.bn i d z1;omega
 ·rcases kh h1 with ⟨z1,z2⟩ | z1
  ·rw[z2,ht];exact p.se
  ·exact p.tn i d z1
 ·rcases kh h1 with ⟨z1,z2⟩ | z1
  ·rw[z2];exact ht
  ·exact p.rs ph i d z1
 ·rcases kh h1 with ⟨z1,z2⟩ | z1
  ·rw[z2]at hp;exact absurd ht hp
  ·exact p.gv ph i d z1 hp
theorem TB.deed(p:TB w0 M){d:oR}{e:Ev}(h:ug M d=.ok (e,M')):TB w0 M':=by
 cases d with
 | make hh s many bulk=>
  simp only[ug]at h;split at h
  ·right;exact(TB.put p (c:=⟨M.born+1,bulk,M.sw.sense,0,List.replicate many.toNat none⟩) rfl rfl).sb (Sb.slot _ _ _ _)
  ·cases h
 | get hh s t f=>
  simp only[ug]at h;split at h
  ·cases h
  ·split at h
   ·cases h
   ·split at h
    ·cases h
    ·right;exact p.sb (Sb.slot _ _ _ _)
 | put hh t f s=>
  simp only[ug]at h;split at h
  ·cases h
  ·split at h
   ·cases h
   ·rename_i c hc
    split at h
    ·cases h
    ·right;exact p.sb ((Sb.cell (c':={ c with fl:=c.fl.set f (aW M hh s) }) hc rfl (.inl rfl)).trans (Sb.notes _ _))
 | copy hh s t=>
  right;exact p.sb (Sb.slot _ _ _ _)
 | drop hh s=>
  right;exact p.sb (Sb.slot _ _ _ _)
 | give hh s g t=>
  right;exact p.sb ((Sb.slot _ _ _ _).trans (Sb.notes _ _))
 | write hh t l=>
  simp only[ug]at h;split at h
  ·cases h
  ·split at h
   ·cases h
   ·rename_i c hc
    right;exact p.sb (Sb.cell (c':={ c with load:=l }) hc rfl (.inl rfl))
 | read hh t=>
  simp only[ug]at h;split at h
  ·cases h
  ·split at h
   ·cases h
   ·right;exact p
 | name hh t z=>
  simp only[ug]at h;split at h
  ·cases h
  ·split at h
   ·cases h
   ·right;exact p.sb (Sb.vd rfl rfl rfl rfl rfl rfl rfl)
 | seek hh s z=>
  simp only[ug]at h;split at h
  ·cases h
  ·split at h
   ·right;exact p.sb (Sb.slot _ _ _ _)
   ·right;exact p.sb ((Sb.slot _ _ _ _).trans (Sb.notes _ _))
theorem TB.step(p:TB w0 M){lb:Int}{lw:AD}{e:Ev}(h:vJ lb lw M e M'):TB w0 M':=by
 cases h with
 | begin ph=>
  refine TB.sb ?_ (Sb.nh _ _ _ _);obtain⟨a1,a2,a3,a4,a5,a6,a7,a8⟩:=p;exact⟨a1,a2,a3,by show 1 - M.sw.sense=0\/1 - M.sw.sense=1;omega,a5,λz=>absurd z (show ¬ ("walk":Str)="rest" by decide),λz=>absurd z (show ¬ ("walk":Str)="give" by decide),a8⟩
 | walk x g c ph hg hc=>
  have a:Sb M { M with sw:={ M.sw with grey:=g,walks:=M.sw.walks+1 } }:=Sb.vd rfl rfl rfl rfl rfl rfl rfl;exact p.sb (a.trans (Sb.notes c.fl _))
 | look N ph hg nc hN=>
  subst hN;exact p.sb ((Sb.nh _ _ _ _).trans (Sb.vd rfl rfl rfl rfl rfl rfl rfl))
 | cut q qs ph hg cd bf hno=>
  obtain⟨a1,a2,a3,a4,a5,a6,a7,a8⟩:=p;exact⟨a1,a2,a3,a4,a5,λz=>absurd z (show ¬ ("give":Str)="rest" by decide),λ_ i c hc _=>Xk (M:=M) hc,a8⟩
 | lost q qs i x c v ph hg cd bf hx hno hc ht=>
  obtain⟨a1,a2,a3,a4,a5,a6,a7,a8⟩:=p;exact⟨a1,a2,a3,a4,a5,λz=>absurd z (show ¬ ("lost":Str)="rest" by decide),λz=>absurd z (show ¬ ("lost":Str)="give" by decide),a8⟩
 | pass ph lt hp=>
  obtain⟨a1,a2,a3,a4,a5,a6,a7,a8⟩:=p;refine⟨a1,a2,a3,a4,a5,a6,λ_ i c hc ht=>?_,a8⟩;have h1:=a7 ph i c hc ht;have h2:i≠M.sw.at':=λz=>ht (hp c (by rw[<- z];exact hc));show M.sw.at'+1<=i/\i<M.sw.stop;omega
 | back c ph lt hc ht=>
  obtain⟨a1,a2,a3,a4,a5,a6,a7,a8⟩:=p;have gt:∀(u:Int) (w:Sw) (i:Int) (d:Ce),cellAt { M with used:=u,cells:=M.cells.set M.sw.at'.toNat none,sw:=w } i=some d->i≠M.sw.at'/\cellAt M i=some d:=λu w i d hd=>by
   obtain⟨h0,h1⟩:=cV.mp hd;have h1:(M.cells.set M.sw.at'.toNat none)[i.toNat]? =some (some d):=h1;obtain⟨k0,k1⟩:=cV.mp hc
   by_cases z:M.sw.at'.toNat=i.toNat
   ·rw[z,List.getElem?_set_self (by rw[<- z];exact(fH k1).1)]at h1;cases h1
   ·rw[List.getElem?_set_ne z]at h1;exact⟨λe=>z (by rw[e]),cV.mpr ⟨h0,h1⟩⟩
  refine⟨λi j d e h1 h2 eb=>a1 i j d e (gt _ _ i d h1).2 (gt _ _ j e h2).2 eb,λi d h1=>a2 i d (gt _ _ i d h1).2,a3,a4,λi d h1=>a5 i d (gt _ _ i d h1).2,λz=>absurd (ph.symm.trans z) ε,λ_ i d h1 hp=>?_,a8⟩;obtain⟨n1,n2⟩:=gt _ _ i d h1;have h3:=a7 ph i d n2 hp;show M.sw.at'+1<=i/\i<M.sw.stop;omega
 | fin ph lt=>
  obtain⟨a1,a2,a3,a4,a5,a6,a7,a8⟩:=p;refine⟨a1,a2,a3,a4,a5,λ_ i c hc=>?_,λz=>absurd z (show ¬ ("rest":Str)="give" by decide),a8⟩;refine Decidable.byContradiction λht=>?_;have h1:=a7 ph i c hc ht;omega
 | again ph=>exact p
theorem TB.new{room:Int}{hs:NB}{w t:Int}:TB w (UJ room hs w t):=by
 have e:∀i c,cellAt (UJ room hs w t) i=some c->False:=λi c h=>nomatch vH h;exact⟨λi _ c _ h=>(e i c h).elim,λi c h=>(e i c h).elim,Int.le_refl _,.inl rfl,λi c h=>(e i c h).elim,λ_ i c h=>(e i c h).elim,λ_ i c h=>(e i c h).elim,rfl⟩
end
structure Ty where
 there:AD
 noted:AD
 walked:AD
 ends:List AD
 back:AD
 c0:Nat
 c1:Nat
 c2:Nat
 c3:Nat
def unl(lo:Int)(h:Nat):Nat:=(List.range h).countP λj=>decide (lo / 2 ^ j % 2≠1)
def pk(s:Int)(o:Option Ce):AA:=o.bind λc=>if c.tone=s then none else some c.birth
def cnt(M:Wm):Nat:=M.cells.countP Option.isSome
def nJ(M:Wm):AD:=M.cells.filterMap λo=>o.map (·.birth)
section
variable {α β:Type}
theorem UL(l:List α):(List.range l.length).map (λi=>l[i]?)=l.map some:=by
 refine List.ext_getElem? λi=>?_;rw[dj,dj]
 by_cases h:i<l.length
 ·rw[List.getElem?_range h,bM h];show some (l[i]?)=_;rw[bM h];rfl
 ·rw[List.getElem?_eq_none (by simpa using h),List.getElem?_eq_none δ];rfl
theorem Zdg(l:List (Option α))(g:α->Option β):((List.range l.length).filterMap λi=>(l[i]?).join.bind g)=l.filterMap λo=>o.bind g:=by
 have e:(List.range l.length).filterMap (λi=>(l[i]?).join.bind g)=((List.range l.length).map (λi=>l[i]?)).filterMap λo=>o.join.bind g:=by rw[List.filterMap_map];rfl
 rw[e,UL,List.filterMap_map];rfl
theorem Zpn{l:List α}{i:Nat}{o:α}(h:l[i]? =some o):l=l.take i++o::l.drop (i+1):=by
 obtain⟨hi,e⟩:=fH h;rw[<- e,<- List.drop_eq_getElem_cons hi,List.take_append_drop]
theorem Zm5{l:List α}{i:Nat}{o x:α}(h:l[i]? =some o):l.set i x=l.take i++x::l.drop (i+1):=by
 rw[List.set_eq_take_append_cons_drop,if_pos (fH h).1]
theorem Zir{l:List α}{f:α->Option β}{i:Nat}{o x:α}(h:l[i]? =some o)(e:f x=f o):(l.set i x).filterMap f=l.filterMap f:=by
 rw[Zm5 h]
 conv=>rhs;rw[Zpn h]
 rw[List.filterMap_append,List.filterMap_append,List.filterMap_cons,List.filterMap_cons,e]
theorem Zp5{l:List α}{f:α->Option β}{i:Nat}{o x:α}{b:β}(h:l[i]? =some o)(e:f o=some b)(n:f x=none):
  l.filterMap f=(l.take i).filterMap f++b::(l.drop (i+1)).filterMap f/\(l.set i x).filterMap f=(l.take i).filterMap f++(l.drop (i+1)).filterMap f:=by
 rw[Zm5 h];refine⟨?_,?_⟩
 ·conv=>lhs;rw[Zpn h]
  rw[List.filterMap_append,List.filterMap_cons,e]
 ·rw[List.filterMap_append,List.filterMap_cons,n]
theorem Xh:∀{l:List (Option α)},lD l<l.length->l[lD l]? =some none
 | [],h=>absurd h (Nat.not_lt_zero _)
 | none::l,_=>rfl
 | some a::l,h=>by
  show(some a::l)[lD l+1]? =_;rw[List.getElem?_cons_succ];exact Xh (Nat.lt_of_succ_lt_succ h)
theorem Zwn{l:List (Option α)}{f:Option α->Option β}{x:α}(n:f none=none)(e:f (some x)=none):(nM l x).filterMap f=l.filterMap f:=by
 unfold nM;split
 ·rename_i h
  exact Zir (Xh h) (by rw[e,n])
 ·rw[List.filterMap_append];show _++List.filterMap f [some x]=_;rw[List.filterMap_cons,e];exact List.append_nil _
theorem Ziy:∀{l:List (Option α)},¬ lD l<l.length->l.countP Option.isSome=l.length
 | [],_=>rfl
 | none::l,h=>absurd (Nat.zero_lt_succ l.length) h
 | some a::l,h=>by
  rw[List.countP_cons,Ziy (l:=l) (λz=>h (Nat.succ_lt_succ z))];rfl
theorem Zqs(l:List (Option α))(x:α):(nM l x).length=max l.length ((nM l x).countP Option.isSome):=by
 have h:=List.countP_le_length (p:=Option.isSome) (l:=nM l x);unfold nM at h ⊢;split
 ·rename_i z
  rw[if_pos z]at h;rw[List.length_set]at h ⊢;omega
 ·rename_i z
  rw[if_neg z]at h;rw[List.countP_append,Ziy z,List.length_append];show _=max _ (_+1);simp
end
section
variable {M N M':Wm}{t:Ty}{w0:Int}
theorem nA(M:Wm):fJ M=M.cells.filterMap (pk M.sw.sense):=by
 have h:=Zdg M.cells λc=>if c.tone=M.sw.sense then none else some c.birth
 unfold fJ;show _=M.cells.filterMap λo=>o.bind λc=>if c.tone=M.sw.sense then none else some c.birth
 rw[<- h];refine vA λi _=>?_;unfold u9;cases (M.cells[i]?).join with
 | none=>rfl
 | some c=>
  show Option.map _ (if c.tone=M.sw.sense then none else some c)=if c.tone=M.sw.sense then none else some c.birth
  split<;>rfl
theorem Mi{i:Int}{c:Ce}(h:cellAt M i=some c):M.cells[i.toNat]? =some (some c):=(cV.mp h).2
theorem Zk3{b:Int}(h:b∈fJ M):∃i c,cellAt M i=some c/\c.birth=b/\c.tone≠M.sw.sense:=by
 rw[nA]at h;obtain⟨o,ho,e⟩:=List.mem_filterMap.mp h;cases o with
 | none=>cases e
 | some c=>
  obtain⟨k,hk,ek⟩:=List.getElem_of_mem ho;have e:(if c.tone=M.sw.sense then none else some c.birth)=some b:=e;split at e
  ·cases e
  ·rename_i z
   exact⟨(k:Int),c,cV.mpr ⟨δ,by rw[Int.toNat_natCast,bM hk,ek]⟩,Option.some.inj e,z⟩
structure Vw(M N:Wm):Prop where
 sw:N.sw=M.sw
 ww:N.w=M.w
 hl:N.hands.length=M.hands.length
 pb:fJ N=fJ M
 ce:∀i c,cellAt M i=some c->∃d,cellAt N i=some d/\d.birth=c.birth/\d.tone=c.tone
theorem Vw.refl(M:Wm):Vw M M:=⟨rfl,rfl,rfl,rfl,λ_ c h=>⟨c,h,rfl,rfl⟩⟩
theorem Vw.slot(M:Wm)(h s:Nat)(x:AA):Vw M (setSlot M h s x):=⟨rfl,rfl,by show(M.hands.modify h _).length=_;rw[List.length_modify],rfl,λ_ c h=>⟨c,h,rfl,rfl⟩⟩
theorem Vw.cell{i:Int}{c c':Ce}(h:cellAt M i=some c)(hb:c'.birth=c.birth)(ht:c'.tone=c.tone):Vw M (setCell M i c'):=by
 refine⟨rfl,rfl,rfl,?_,λj d hd=>?_⟩
 ·rw[nA,nA];show(M.cells.set i.toNat (some c')).filterMap (pk M.sw.sense)=_;refine Zir (Mi h) ?_;show(if c'.tone=M.sw.sense then none else some c'.birth)=if c.tone=M.sw.sense then none else some c.birth
  rw[hb,ht]
 ·rw[lY h]
  by_cases e:j=i
  ·subst e;rw[h]at hd;cases hd;exact⟨c',if_pos rfl,hb,ht⟩
  ·exact⟨d,by rw[if_neg e];exact hd,rfl,rfl⟩
theorem Vw.put{u b:Int}{c:Ce}(ht:c.tone=M.sw.sense):Vw M { M with used:=u,born:=b,cells:=nM M.cells c }:=by
 refine⟨rfl,rfl,rfl,?_,λj d hd=>⟨d,Sx hd,rfl,rfl⟩⟩;rw[nA,nA];exact Zwn rfl (show(if c.tone=M.sw.sense then none else some c.birth)=none from if_pos ht)
theorem Vw.trans{R:Wm}(a:Vw M N)(b:Vw N R):Vw M R:=by
 refine⟨b.sw.trans a.sw,b.ww.trans a.ww,b.hl.trans a.hl,b.pb.trans a.pb,λi c h=>?_⟩;obtain⟨d,h1,h2,h3⟩:=a.ce i c h;obtain⟨e,h4,h5,h6⟩:=b.ce i d h1;exact⟨e,h4,h5.trans h2,h6.trans h3⟩
theorem Zt9{d:oR}{e:Ev}(h:ug M d=.ok (e,M')):∃N l,Vw M N/\N.cells.length=max M.cells.length (cnt N)/\M'=(aR N l).2/\e.notes=(aR N l).1/\l.length<=2/\(l=[]\/e.word="put"\/e.word="given"\/e.word="sought"):=by
 have ln:∀N:Wm,N.cells.length=M.cells.length->N.cells.length=max M.cells.length (cnt N):=λN e=>by
  have:=List.countP_le_length (p:=Option.isSome) (l:=N.cells);unfold cnt;omega
 cases d with
 | make hh s many bulk=>
  simp only[ug]at h;split at h
  ·have h2:=Prod.mk.inj (Except.ok.inj h);refine⟨_,[],(Vw.put (M:=M) rfl).trans (Vw.slot _ _ _ _),?_,h2.2.symm,by rw[<- h2.1];rfl,ε,.inl rfl⟩;exact Zqs _ _
  ·cases h
 | get hh s t f=>
  simp only[ug]at h;split at h
  ·cases h
  ·split at h
   ·cases h
   ·split at h
    ·cases h
    ·have h2:=Prod.mk.inj (Except.ok.inj h);exact⟨_,[],Vw.slot M _ _ _,ln _ rfl,h2.2.symm,by rw[<- h2.1];rfl,ε,.inl rfl⟩
 | put hh t f s=>
  simp only[ug]at h;split at h
  ·cases h
  ·split at h
   ·cases h
   ·rename_i c hc
    split at h
    ·cases h
    ·have h2:=Prod.mk.inj (Except.ok.inj h);refine⟨_,_,Vw.cell (c':={ c with fl:=c.fl.set f (aW M hh s) }) hc rfl rfl,ln _ (by show(M.cells.set _ _).length=_;rw[List.length_set]),h2.2.symm,by rw[<- h2.1],?_,.inr (.inl (by rw[<- h2.1]))⟩;rw[List.length_append];have h3:∀(b:Prop) [Decidable b] (x:AA),(if b then [x]else []).length<=1:=λb _ x=>by split<;>simp
     have h4:=h3 (old? M=true);have h5:=h3 ((qT M && !dI M hh)=true) (aW M hh s);exact Nat.add_le_add (h4 _) h5
 | copy hh s t=>
  have h2:=Prod.mk.inj (Except.ok.inj h);exact⟨_,[],Vw.slot M _ _ _,ln _ rfl,h2.2.symm,by rw[<- h2.1];rfl,ε,.inl rfl⟩
 | drop hh s=>
  have h2:=Prod.mk.inj (Except.ok.inj h);exact⟨_,[],Vw.slot M _ _ _,ln _ rfl,h2.2.symm,by rw[<- h2.1];rfl,ε,.inl rfl⟩
 | give hh s g t=>
  have h2:=Prod.mk.inj (Except.ok.inj h);refine⟨_,_,Vw.slot M _ _ _,ln _ rfl,h2.2.symm,by rw[<- h2.1],?_,.inr (.inr (.inl (by rw[<- h2.1])))⟩;split<;>simp
 | write hh t l=>
  simp only[ug]at h;split at h
  ·cases h
  ·split at h
   ·cases h
   ·rename_i c hc
    have h2:=Prod.mk.inj (Except.ok.inj h);exact⟨_,[],Vw.cell (c':={ c with load:=l }) hc rfl rfl,ln _ (by show(M.cells.set _ _).length=_;rw[List.length_set]),h2.2.symm,by rw[<- h2.1];rfl,ε,.inl rfl⟩
 | read hh t=>
  simp only[ug]at h;split at h
  ·cases h
  ·split at h
   ·cases h
   ·have h2:=Prod.mk.inj (Except.ok.inj h);exact⟨M,[],Vw.refl M,ln _ rfl,h2.2.symm,by rw[<- h2.1];rfl,ε,.inl rfl⟩
 | name hh t z=>
  simp only[ug]at h;split at h
  ·cases h
  ·split at h
   ·cases h
   ·have h2:=Prod.mk.inj (Except.ok.inj h);exact⟨M',[],by rw[<- h2.2];exact⟨rfl,rfl,rfl,rfl,λ_ c h=>⟨c,h,rfl,rfl⟩⟩,ln _ (by rw[<- h2.2]),rfl,by rw[<- h2.1];rfl,ε,.inl rfl⟩
 | seek hh s z=>
  simp only[ug]at h;split at h
  ·cases h
  ·split at h
   ·have h2:=Prod.mk.inj (Except.ok.inj h);exact⟨_,[],Vw.slot M _ _ _,ln _ rfl,h2.2.symm,by rw[<- h2.1];rfl,ε,.inl rfl⟩
   ·have h2:=Prod.mk.inj (Except.ok.inj h);exact⟨_,_,Vw.slot M _ _ _,ln _ rfl,h2.2.symm,by rw[<- h2.1],Nat.le_succ _,.inr (.inr (.inr (by rw[<- h2.1])))⟩
theorem Rg:∀{l:Au}{M:Wm},M.sw.phase≠"walk"->aR M l=([],M)
 | [],_,_=>rfl
 | x::l,M,h=>by
  have e:bN M x=(none,M):=by
   cases x with
   | none=>rfl
   | some i=>
    unfold bN;dsimp only;split
    ·rfl
    ·rw[if_neg (λz=>h z.1)]
  show(Rc (bN M x).1++(aR (bN M x).2 l).1,(aR (bN M x).2 l).2)=_;rw[e,Rg h];rfl
theorem Wy:∀(l:Au) (M:Wm),(aR M l).1.length<=l.length
 | [],_=>Nat.le_refl _
 | x::l,M=>by
  have h:=Wy l (bN M x).2;show(Rc (bN M x).1++(aR (bN M x).2 l).1).length<=l.length+1;rw[List.length_append];have:(Rc (bN M x).1).length<=1:=by cases (bN M x).1<;>simp[Rc]
  omega
end
theorem Xl{x y:Int}(hx:0<=x)(hy:0<=y):Builtin.bitOr x y=((x.toNat ||| y.toNat:Nat):Int):=by
 have e:∀z:Int,Builtin.bitNot (Builtin.bitNot z)=z:=λz=>by unfold Builtin.bitNot;omega
 have n1:decide (0<=Builtin.bitNot x)=false:=decide_eq_false (by unfold Builtin.bitNot;omega);have n2:decide (0<=Builtin.bitNot y)=false:=decide_eq_false (by unfold Builtin.bitNot;omega);unfold Builtin.bitOr Builtin.bitAnd;rw[n1,n2];show Builtin.bitNot (Builtin.bitNot _)=_;rw[e,e,e]
theorem Pj(a h:Nat):(((a:Nat):Int) / 2 ^ h % 2=1)↔a.testBit h=true:=by
 rw[Nat.testBit_eq_decide_div_mod_eq,decide_eq_true_iff];have:((a:Nat):Int) / 2 ^ h % 2=((a / 2 ^ h % 2:Nat):Int):=ζ
 rw[this];omega
theorem Zpq{x y:Int}(hx:0<=x)(hy:0<=y)(h:Nat):(Builtin.bitOr x y / 2 ^ h % 2=1)↔(x / 2 ^ h % 2=1\/y / 2 ^ h % 2=1):=by
 rw[Xl hx hy,Pj,Nat.testBit_or,Bool.or_eq_true,<- Pj,<- Pj,Int.toNat_of_nonneg hx,Int.toNat_of_nonneg hy]
theorem Zie(k h:Nat):((2:Int) ^ k / 2 ^ h % 2=1)↔k=h:=by
 have e:((2:Int) ^ k)=((2 ^ k:Nat):Int):=ζ
 rw[e,Pj,Nat.testBit_two_pow];exact decide_eq_true_iff
theorem Pb(x:Int):∀(n i:Nat),(lsE x i n=0/\∀k,i<=k->k<i+n->x / 2 ^ k % 2≠0)\/∃k,i<=k/\k<i+n/\lsE x i n=2 ^ k/\x / 2 ^ k % 2=0
 | 0,i=>.inl ⟨rfl,λk h1 h2=>δ⟩
 | n+1,i=>by
  unfold lsE
  by_cases z:x / 2 ^ i % 2=0
  ·rw[if_pos z];exact .inr ⟨i,Nat.le_refl _,δ,rfl,z⟩
  ·rw[if_neg z];rcases Pb x n (i+1)with ⟨h1,h2⟩ | ⟨k,h1,h2,h3,h4⟩
   ·refine .inl ⟨h1,λk a b=>?_⟩
    by_cases e:k=i
    ·rw[e];exact z
    ·exact h2 k δ δ
   ·exact .inr ⟨k,δ,δ,h3,h4⟩
theorem Zlh{x y:Int}(hx:0<=x)(hy:0<=y):0<=Builtin.bitOr x y:=by rw[Xl hx hy];omega
theorem Rx(M:Wm):0<=bR M:=by
 unfold bR Bc;split
 ·exact Int.le_refl _
 ·split
  ·rcases Pb M.sw.looked M.hands.length 0 with ⟨h,_⟩ | ⟨k,_,_,h,_⟩
   ·rw[h];exact Int.le_refl _
   ·rw[h];exact Int.le_of_lt (Int.pow_pos ε)
  ·have:(0:Int)<2 ^ M.hands.length:=Int.pow_pos ε;omega
theorem Sh(p q:Nat->Bool){j0:Nat}(hpq:∀j,j≠j0->p j=q j)(hq:q j0=true)(hp:p j0=false):∀(n:Nat),((List.range n).countP p+if j0<n then 1 else 0)=(List.range n).countP q
 | 0=>rfl
 | n+1=>by
  have ih:=Sh p q hpq hq hp n;rw[List.range_succ,List.countP_append,List.countP_append,List.countP_singleton,List.countP_singleton]
  by_cases e:j0=n
  ·subst e;rw[if_neg (Nat.lt_irrefl _)]at ih;rw[hp,hq,if_pos (Nat.lt_succ_self _)];simp;omega
  ·rw[hpq n (Ne.symm e)]
   by_cases z:j0<n
   ·rw[if_pos z]at ih;rw[if_pos (show j0<n+1 by omega)];omega
   ·rw[if_neg z]at ih;rw[if_neg (show ¬ j0<n+1 by omega)];omega
structure TW(M:Wm)(t:Ty):Prop where
 no:t.noted=t.walked++M.sw.grey.map (pH M)
 en:t.ends=[]
 bk:t.back=[]
 c2:t.c2=0
 nd:t.noted.Nodup
 th:∀b∈t.noted,b∈t.there
 dk:∀b∈t.noted,∃i c,cellAt M i=some c/\c.birth=b/\c.tone=M.sw.sense
 pl:∀b∈fJ M,b∈t.there
 ct:t.there.length=t.noted.length+(fJ M).length
 wk:M.sw.walks=t.walked.length
 lk:M.sw.looks=t.c1
 st:t.c0=1+t.walked.length+t.c1
 ps:M.sw.passes=0
 lz:0<=M.sw.looked
 l0:M.w=0->t.c1=0
 l1:M.w=1->t.c1+unl M.sw.looked M.hands.length=M.hands.length
 l2:M.w=2->t.c1<=t.noted.length
structure TG(M:Wm)(t:Ty):Prop where
 nw:t.noted=t.walked
 en:t.ends=[t.back++fJ M]
 wk:M.sw.walks=t.walked.length
 lk:M.sw.looks=t.c1
 ps:M.sw.passes=t.c2
 at_:M.sw.at'=t.c2
 sp:M.sw.stop=t.c3
 le:t.c2<=t.c3
 st:t.c0=2+t.walked.length+t.c1+t.c2
structure OD(t:Ty):Prop where
 th:t.there.length<=900
 no:t.noted.length<=900
 wa:t.walked.length<=900
 en:t.ends.length<=1
 bk:t.back.length<=900
 el:∀l∈t.ends,l.length<=900
section
variable {M N M':Wm}{t:Ty}{w0:Int}
theorem Zht(h:∀i c,cellAt M i=some c->∃d,cellAt N i=some d/\d.birth=c.birth/\d.tone=c.tone){l:AD}(hl:∀x∈l,∃c,cellAt M x=some c):l.map (pH N)=l.map (pH M):=by
 refine List.map_congr_left λx hx=>?_;obtain⟨c,hc⟩:=hl x hx;obtain⟨d,hd,e,_⟩:=h x c hc;unfold pH;rw[hc,hd];exact e
theorem TW.vw(p:TW M t)(v:Vw M N)(hg:∀x∈M.sw.grey,∃c,cellAt M x=some c):TW N t:=by
 obtain⟨v1,v2,v3,v4,v5⟩:=v;obtain⟨a1,a2,a3,a4,a5,a6,a7,a8,a9,a10,a11,a12,a13,a14,a15,a16,a17⟩:=p;refine⟨by rw[v1,Zht v5 hg];exact a1,a2,a3,a4,a5,a6,λb hb=>?_,by rw[v4];exact a8,by rw[v4];exact a9,by rw[v1];exact a10,by rw[v1];exact a11,a12,by rw[v1];exact a13,by rw[v1];exact a14,by rw[v2];exact a15,by rw[v1,v2,v3];exact a16,by rw[v2];exact a17⟩;obtain⟨i,c,h1,h2,h3⟩:=a7 b hb;obtain⟨d,h4,h5,h6⟩:=v5 i c h1;exact⟨i,d,h4,h5.trans h2,by rw[v1];exact h6.trans h3⟩
theorem TG.vw(p:TG M t)(v:Vw M N):TG N t:=by
 obtain⟨v1,v2,v3,v4,v5⟩:=v;obtain⟨a1,a2,a3,a4,a5,a6,a7,a8,a9⟩:=p;exact⟨a1,by rw[v4];exact a2,by rw[v1];exact a3,by rw[v1];exact a4,by rw[v1];exact a5,by rw[v1];exact a6,by rw[v1];exact a7,a8,a9⟩
def BU(M:Wm):Prop:=∀i j c d,cellAt M i=some c->cellAt M j=some d->c.birth=d.birth->i=j
theorem BU.ce(h:∀i,(cellAt N i).map (·.birth)=(cellAt M i).map (·.birth))(b:BU M):BU N:=λi j c d h1 h2 e=>by
 have e1:=h i;have e2:=h j;rw[h1]at e1;rw[h2]at e2;obtain⟨c',h3,h4⟩:=Option.map_eq_some_iff.mp e1.symm;obtain⟨d',h5,h6⟩:=Option.map_eq_some_iff.mp e2.symm;exact b i j c' d' h3 h5 (h4.trans (e.trans h6.symm))
theorem TW.note(p:TW M t)(bu:BU M)(x:AA):TW (bN M x).2 { t with noted:=t.noted++Rc (bN M x).1 }:=by
 have tri:TW M { t with noted:=t.noted++Rc none }:=by
  have e:({ t with noted:=t.noted++Rc none }:Ty)=t:=by
   show Ty.mk _ (t.noted++[]) _ _ _ _ _ _ _=t;rw[List.append_nil]
  rw[e];exact p
 cases x with
 | none=>exact tri
 | some i=>
  have sb:=Sb.note M (some i);unfold bN at sb ⊢;dsimp only at sb ⊢;cases hc:cellAt M i with
  | none=>exact tri
  | some c=>
   rw[hc]at sb;dsimp only at sb ⊢
   by_cases z:M.sw.phase="walk"/\c.tone≠M.sw.sense
   ·rw[if_pos z]at sb ⊢;obtain⟨z1,z2⟩:=z;obtain⟨a1,a2,a3,a4,a5,a6,a7,a8,a9,a10,a11,a12,a13,a14,a15,a16,a17⟩:=p;have eb:∀l:AD,l.map (pH { setCell M i { c with tone:=M.sw.sense }with sw:={ M.sw with grey:=M.sw.grey++[i] } })=l.map (pH M):=λl=>List.map_congr_left λx _=>by
     have h1:=sb.ce x;unfold pH;dsimp only at h1 ⊢;rw[h1]
    have pc:pk M.sw.sense (some c)=some c.birth:=if_neg z2;have pn:pk M.sw.sense (some { c with tone:=M.sw.sense })=none:=if_pos rfl;obtain⟨f1,f2⟩:=Zp5 (Mi hc) pc pn;have e1:fJ M=(M.cells.take i.toNat).filterMap (pk M.sw.sense)++c.birth::(M.cells.drop (i.toNat+1)).filterMap (pk M.sw.sense):=by rw[nA];exact f1
    have e2:fJ { setCell M i { c with tone:=M.sw.sense }with sw:={ M.sw with grey:=M.sw.grey++[i] } }=(M.cells.take i.toNat).filterMap (pk M.sw.sense)++(M.cells.drop (i.toNat+1)).filterMap (pk M.sw.sense):=by rw[nA];exact f2
    have nb:c.birth∉t.noted:=λh=>by
     obtain⟨j,d,h1,h2,h3⟩:=a7 _ h;have e:=bu j i d c h1 hc h2;subst e;rw[hc]at h1;cases h1;exact z2 h3
    refine⟨?_,a2,a3,a4,?_,λb hb=>?_,λb hb=>?_,λb hb=>?_,?_,a10,a11,a12,a13,a14,a15,a16,λw=>?_⟩
    ·show t.noted++[c.birth]=t.walked++(M.sw.grey++[i]).map _;rw[eb,List.map_append,<- List.append_assoc,<- a1];show _=_++[pH M i];unfold pH;rw[hc];rfl
    ·show(t.noted++[c.birth]).Nodup;rw[List.nodup_append];exact⟨a5,ζ,λa ha b hb e=>nb (by rw[List.mem_singleton.mp hb]at e;rw[<- e];exact ha)⟩
    ·rcases List.mem_append.mp (show b∈t.noted++[c.birth]from hb)with hb | hb
     ·exact a6 b hb
     ·rw[List.mem_singleton.mp hb];exact a8 _ (by rw[e1];simp)
    ·have cs:=lY (c':={ c with tone:=M.sw.sense }) hc;rcases List.mem_append.mp (show b∈t.noted++[c.birth]from hb)with hb | hb
     ·obtain⟨j,d,h1,h2,h3⟩:=a7 b hb;refine⟨j,d,?_,h2,h3⟩;show cellAt (setCell M i { c with tone:=M.sw.sense }) j=some d;rw[cs,if_neg (λe=>by subst e;rw[hc]at h1;cases h1;exact z2 h3)];exact h1
     ·refine⟨i,{ c with tone:=M.sw.sense },?_,(List.mem_singleton.mp hb).symm,rfl⟩;show cellAt (setCell M i { c with tone:=M.sw.sense }) i=_;rw[cs,if_pos rfl]
    ·refine a8 b ?_;rw[e2]at hb;rw[e1];rcases List.mem_append.mp hb with h | h
     ·exact List.mem_append.mpr (.inl h)
     ·exact List.mem_append.mpr (.inr (List.mem_cons_of_mem _ h))
    ·show t.there.length=(t.noted++[c.birth]).length+_;rw[a9,e1,e2,List.length_append,List.length_append,List.length_append,List.length_cons];simp;omega
    ·have:=a17 w;show t.c1<=(t.noted++[c.birth]).length;rw[List.length_append];omega
   ·rw[if_neg z];exact tri
theorem TW.notes:∀{l:Au}{M:Wm}{t:Ty},TW M t->BU M->TW (aR M l).2 { t with noted:=t.noted++(aR M l).1 }
 | [],M,t,p,_=>by
  have e:({ t with noted:=t.noted++[] }:Ty)=t:=by
   show Ty.mk _ (t.noted++[]) _ _ _ _ _ _ _=t;rw[List.append_nil]
  show TW M { t with noted:=t.noted++[] };rw[e];exact p
 | x::l,M,t,p,bu=>by
  have h:=TW.notes (l:=l) (p.note bu x) (bu.ce (Sb.note M x).ce);have e:t.noted++(aR M (x::l)).1=(t.noted++Rc (bN M x).1)++(aR (bN M x).2 l).1:=by
   show t.noted++(Rc (bN M x).1++(aR (bN M x).2 l).1)=_;rw[List.append_assoc]
  rw[e];exact h
theorem TW.bnd(p:TW M t)(h:t.there.length<=900):OD t:=by
 have h1:=p.ct;have h2:t.walked.length<=t.noted.length:=by rw[p.no,List.length_append];omega
 refine⟨h,δ,δ,by rw[p.en];exact Nat.zero_le _,by rw[p.bk];exact Nat.zero_le _,λl hl=>?_⟩;rw[p.en]at hl;cases hl
def ty0(M:Wm):Ty:=⟨nJ M,[],[],[],[],0,0,0,0⟩
theorem Zlq(n:Nat):unl 0 n=n:=by
 unfold unl;have:(List.range n).countP (λj=>decide ((0:Int) / 2 ^ j % 2≠1))=(List.range n).length:=List.countP_eq_length.mpr λj _=>decide_eq_true (by rw[Int.zero_ediv];decide);rw[this,List.length_range]
theorem TW.begin(tb:TB w0 M)(ph:M.sw.phase="rest"):TW (pU M) { ty0 M with c0:=1 }:=by
 have ep:fJ (pU M)=nJ M:=by
  rw[nA];unfold nJ;show M.cells.filterMap (pk (1 - M.sw.sense))=_;refine vA λo ho=>?_;cases o with
  | none=>rfl
  | some c=>
   obtain⟨k,hk,ek⟩:=List.getElem_of_mem ho;have h1:=tb.rs ph (k:Int) c (cV.mpr ⟨δ,by rw[Int.toNat_natCast,bM hk,ek]⟩);show(if c.tone=1 - M.sw.sense then none else some c.birth)=some c.birth;rw[if_neg (by have:=tb.se;omega)]
 refine⟨rfl,rfl,rfl,rfl,List.nodup_nil,λb hb=>(nomatch hb),λb hb=>(nomatch hb),λb hb=>by rw[ep]at hb;exact hb,?_,rfl,rfl,rfl,rfl,?_,λ_=>rfl,λw=>?_,λ_=>Nat.zero_le _⟩
 ·show(nJ M).length=0+_;rw[ep];omega
 ·show 0<=jz M.w M.hands.length;unfold jz;split
  ·have:(0:Int)<2 ^ M.hands.length:=Int.pow_pos ε;omega
  ·exact Int.le_refl _
 ·show 0+unl (jz M.w M.hands.length) M.hands.length=M.hands.length;have w:M.w=1:=w;have:jz M.w M.hands.length=0:=by unfold jz;rw[w];rfl
  rw[this,Zlq];omega
def eG(t:Ty)(e:Ev):Ty:=
 { t with
  c0:=t.c0+1
  noted:=if e.word="begin"\/e.word="walk"\/e.word="look" then t.noted++e.notes else t.noted
  walked:=if e.word="walk" then t.walked++[e.thing.getD 0]else t.walked
  c1:=if e.word="look" then t.c1+1 else t.c1
  c2:=if e.word="back"\/e.word="pass" then t.c2+1 else t.c2
  back:=if e.word="back" then t.back++[e.thing.getD 0]else t.back }
theorem TW.Zxm(tb:TB w0 M)(ph:M.sw.phase="rest"):TW (iJ (jz M.w M.hands.length) M.hands 0 (pU M)).2 (eG (ty0 M) ⟨"begin",some (M.sw.turn+1),(iJ (jz M.w M.hands.length) M.hands 0 (pU M)).1⟩):=by
 rw[M5];obtain⟨a1,a2,a3,a4,a5,a6,a7,a8⟩:=tb;exact(TW.begin ⟨a1,a2,a3,a4,a5,a6,a7,a8⟩ ph).notes (M:=pU M) a1
theorem TW.Zxk(p:TW M t)(tb:TB w0 M){x:Int}{g:AD}{c:Ce}(hg:M.sw.grey=x::g)(hc:cellAt M x=some c):
  TW (aR { M with sw:={ M.sw with grey:=g,walks:=M.sw.walks+1 } } c.fl).2 (eG t ⟨"walk",some c.birth,(aR { M with sw:={ M.sw with grey:=g,walks:=M.sw.walks+1 } } c.fl).1⟩):=by
 have q:TW { M with sw:={ M.sw with grey:=g,walks:=M.sw.walks+1 } } { t with walked:=t.walked++[c.birth],c0:=t.c0+1 }:=by
  obtain⟨a1,a2,a3,a4,a5,a6,a7,a8,a9,a10,a11,a12,a13,a14,a15,a16,a17⟩:=p;refine⟨?_,a2,a3,a4,a5,a6,a7,a8,a9,?_,a11,?_,a13,a14,a15,a16,a17⟩
  ·show t.noted=(t.walked++[c.birth])++g.map (pH M);rw[a1,hg,List.append_assoc];show _=_++(c.birth::_);rw[List.map_cons];have:pH M x=c.birth:=by unfold pH;rw[hc];rfl
   rw[this];rfl
  ·show M.sw.walks+1=((t.walked++[c.birth]).length:Nat);rw[a10,List.length_append];simp
  ·show t.c0+1=1+(t.walked++[c.birth]).length+t.c1;rw[a12,List.length_append];simp;omega
 have sb:Sb M { M with sw:={ M.sw with grey:=g,walks:=M.sw.walks+1 } }:=Sb.vd rfl rfl rfl rfl rfl rfl rfl;exact q.notes (tb.sb sb).bu
theorem TW.Zxl(p:TW M t)(tb:TB w0 M)(hw:M.w=0\/M.w=1\/M.w=2)(nc:¬ vD M)(hN:N=(iJ (bR M) M.hands 0 M).2):
  TW { N with sw:={ N.sw with looks:=N.sw.looks+1,looked:=if M.w=2 then N.sw.looked else Builtin.bitOr N.sw.looked (bR M) } } (eG t ⟨"look",some (bR M),(iJ (bR M) M.hands 0 M).1⟩):=by
 have nt:=Rn (bR M) M.hands 0 M;have q:=p.notes (l:=nhL (bR M) M.hands 0) tb.bu;rw[<- M5]at q;rw[<- hN]at q nt;have nw:N.w=M.w:=nt.ww;have nh:N.hands.length=M.hands.length:=by rw[nt.hd]
 obtain⟨g,ns⟩:=nt.sw;have nl:N.sw.looked=M.sw.looked:=by rw[ns]
 obtain⟨a1,a2,a3,a4,a5,a6,a7,a8,a9,a10,a11,a12,a13,a14,a15,a16,a17⟩:=q;have b16:=p.l1;have b17:=p.l2;refine⟨a1,a2,a3,a4,a5,a6,a7,a8,a9,a10,?_,?_,a13,?_,λw=>?_,λw=>?_,λw=>?_⟩
 ·show N.sw.looks+1=((t.c1+1:Nat):Int);have:N.sw.looks=(t.c1:Int):=a11;rw[this];simp
 ·show t.c0+1=1+t.walked.length+(t.c1+1);have:t.c0=1+t.walked.length+t.c1:=a12;omega
 ·show 0<=if M.w=2 then N.sw.looked else Builtin.bitOr N.sw.looked (bR M)
  split
  ·exact a14
  ·exact Zlh a14 (Rx M)
 ·have w:N.w=0:=w;rw[nw]at w;refine absurd (.inl ?_) nc;unfold bR Bc;rw[w];rfl
 ·have w:N.w=1:=w;rw[nw]at w;show(t.c1+1)+unl (if M.w=2 then N.sw.looked else Builtin.bitOr N.sw.looked (bR M)) N.hands.length=N.hands.length;rw[if_neg δ,nh,nl];have el:bR M=lsE M.sw.looked 0 M.hands.length:=by unfold bR Bc;rw[w];rfl
  rcases Pb M.sw.looked M.hands.length 0 with ⟨h,_⟩ | ⟨b,_,hb,h,hb0⟩
  ·exact absurd (show vD M from .inl (el.trans h)) nc
  ·have one:=Sh (λj=>decide (Builtin.bitOr M.sw.looked (bR M) / 2 ^ j % 2≠1)) (λj=>decide (M.sw.looked / 2 ^ j % 2≠1)) (j0:=b) (λj hj=>?_) (decide_eq_true δ) (decide_eq_false λy=>y ?_) M.hands.length
   ·rw[if_pos δ]at one;have b16:=b16 w;unfold unl at b16 ⊢;omega
   ·have e:=Zpq p.lz (Rx M) j;rw[el,h,Zie b j]at e;rw[el,h];exact decide_eq_decide.mpr (not_congr (e.trans ⟨λy=>y.resolve_right (Ne.symm hj),.inl⟩))
   ·rw[Zpq p.lz (Rx M),el,h];exact .inr ((Zie b b).mpr rfl)
 ·have w:N.w=2:=w;rw[nw]at w;have h1:=b17 w;have h2:(iJ (bR M) M.hands 0 M).1≠[]:=λz=>nc (.inr ⟨w,z⟩);show t.c1+1<=(t.noted++(iJ (bR M) M.hands 0 M).1).length;rw[List.length_append];have:=List.length_pos_iff.mpr h2;omega
theorem TW.looks(p:TW M t)(cd:vD M):(M.w=0->t.c1=0)/\(M.w=1->t.c1=M.hands.length)/\(M.w=2->t.c1<=t.noted.length):=by
 refine⟨p.l0,λw=>?_,p.l2⟩;have h1:=p.l1 w;have el:bR M=lsE M.sw.looked 0 M.hands.length:=by unfold bR Bc;rw[w];rfl
 rcases cd with cd | ⟨w2,_⟩
 ·rw[el]at cd;rcases Pb M.sw.looked M.hands.length 0 with ⟨_,h⟩ | ⟨b,_,_,h,_⟩
  ·have:unl M.sw.looked M.hands.length=0:=by
    unfold unl;refine List.countP_eq_zero.mpr λj hj=>?_;have hj:=List.mem_range.mp hj;have h2:=h j (Nat.zero_le _) δ;have h3:=Int.emod_nonneg (M.sw.looked / 2 ^ j) (show(2:Int)≠0 by decide);have h4:=Int.emod_lt_of_pos (M.sw.looked / 2 ^ j) (show(0:Int)<2 by decide);simp only[decide_eq_true_iff,Classical.not_not,ne_eq];omega
   omega
  ·rw[cd]at h;have:(0:Int)<2 ^ b:=Int.pow_pos ε;omega
 ·omega
def Zwx(t:Ty)(e:Ev)(m:Nat):Ty:={ eG t e with ends:=t.ends++[e.notes],c3:=m }
theorem TW.cut(p:TW M t)(hg:M.sw.grey=[]):TG { jk M with sw:={ (jk M).sw with phase:="give" } } (Zwx t ⟨"cut",some (fJ M).length,fJ M⟩ M.cells.length):=by
 have nw:t.noted=t.walked:=by rw[p.no,hg];exact List.append_nil _
 refine⟨nw,?_,p.wk,p.lk,?_,?_,rfl,?_,?_⟩
 ·show t.ends++[fJ M]=[t.back++fJ M];rw[p.en,p.bk];rfl
 ·show M.sw.passes=((t.c2:Nat):Int);rw[p.ps,p.c2];rfl
 ·show(0:Int)=((t.c2:Nat):Int);rw[p.c2];rfl
 ·show t.c2<=_;rw[p.c2];exact Nat.zero_le _
 ·show t.c0+1=2+t.walked.length+t.c1+t.c2;rw[p.st,p.c2];omega
theorem TG.pass(p:TG M t)(lt:M.sw.at'<M.sw.stop):TG { M with sw:={ M.sw with at':=M.sw.at'+1,passes:=M.sw.passes+1 } } (eG t ⟨"pass",some M.sw.at',[]⟩):=by
 obtain⟨a1,a2,a3,a4,a5,a6,a7,a8,a9⟩:=p;refine⟨a1,a2,a3,a4,?_,?_,a7,?_,?_⟩
 ·show M.sw.passes+1=((t.c2+1:Nat):Int);rw[a5];simp
 ·show M.sw.at'+1=((t.c2+1:Nat):Int);rw[a6];simp
 ·show t.c2+1<=t.c3;rw[a6,a7]at lt;omega
 ·show t.c0+1=2+t.walked.length+t.c1+(t.c2+1);omega
theorem TG.back(p:TG M t)(tb:TB w0 M)(ph:M.sw.phase="give")(lt:M.sw.at'<M.sw.stop){c:Ce}(hc:cellAt M M.sw.at'=some c)(ht:c.tone≠M.sw.sense){u:Int}:
  TG { M with used:=u,cells:=M.cells.set M.sw.at'.toNat none,sw:={ M.sw with at':=M.sw.at'+1,passes:=M.sw.passes+1 } } (eG t ⟨"back",some c.birth,[M.sw.at']⟩):=by
 obtain⟨a1,a2,a3,a4,a5,a6,a7,a8,a9⟩:=p;have pc:pk M.sw.sense (some c)=some c.birth:=if_neg ht;obtain⟨f1,f2⟩:=Zp5 (x:=none) (Mi hc) pc rfl;have em:(M.cells.take M.sw.at'.toNat).filterMap (pk M.sw.sense)=[]:=by
  refine List.filterMap_eq_nil_iff.mpr λo ho=>?_;cases o with
  | none=>rfl
  | some d=>
   obtain⟨k,hk,ek⟩:=List.getElem_of_mem ho;rw[List.length_take]at hk;rw[List.getElem_take]at ek;refine if_pos (Decidable.byContradiction λhd=>?_);have h1:=tb.gv ph (k:Int) d (cV.mpr ⟨δ,by rw[Int.toNat_natCast,bM δ,ek]⟩) hd;omega
 rw[em]at f1 f2;have e1:fJ M=c.birth::(M.cells.drop (M.sw.at'.toNat+1)).filterMap (pk M.sw.sense):=by rw[nA];exact f1
 refine⟨a1,?_,a3,a4,?_,?_,a7,?_,?_⟩
 ·show t.ends=[(t.back++[c.birth])++fJ _];rw[a2,e1,nA,List.append_assoc];show _=[t.back++([c.birth]++(M.cells.set M.sw.at'.toNat none).filterMap (pk M.sw.sense))];rw[f2];rfl
 ·show M.sw.passes+1=((t.c2+1:Nat):Int);rw[a5];simp
 ·show M.sw.at'+1=((t.c2+1:Nat):Int);rw[a6];simp
 ·show t.c2+1<=t.c3;rw[a6,a7]at lt;omega
 ·show t.c0+1=2+t.walked.length+t.c1+(t.c2+1);omega
theorem TG.fin(p:TG M t)(tb:TB w0 M)(ph:M.sw.phase="give")(ge:¬ M.sw.at'<M.sw.stop):t.ends=[t.back]/\t.c2=t.c3/\t.c0+1=3+t.c1+t.walked.length+t.c2:=by
 obtain⟨a1,a2,a3,a4,a5,a6,a7,a8,a9⟩:=p;have e0:fJ M=[]:=List.eq_nil_iff_forall_not_mem.mpr λb hb=>by
  obtain⟨i,c,h1,_,h3⟩:=Zk3 hb;have:=tb.gv ph i c h1 h3;omega
 rw[e0,List.append_nil]at a2;rw[a6,a7]at ge;exact⟨a2,δ,δ⟩
theorem TG.bnd(p:TG M t)(b:OD t)(e:Ev)(h:e.word="pass"\/e.word="back"\/e.word="end")(h2:e.word="back"->(eG t e).ends=[(eG t e).back++fJ M']):OD (eG t e):=by
 obtain⟨b1,b2,b3,b4,b5,b6⟩:=b;have hn:¬ (e.word="begin"\/e.word="walk"\/e.word="look"):=by rcases h with h | h | h<;>rw[h]<;>decide
 have hw:¬ e.word="walk":=λz=>hn (.inr (.inl z));refine⟨b1,?_,?_,b4,?_,b6⟩
 ·show(if _ then _ else _:AD).length<=900;rw[if_neg hn];exact b2
 ·show(if _ then _ else _:AD).length<=900;rw[if_neg hw];exact b3
 ·by_cases z:e.word="back"
  ·have h3:=h2 z;have h4:=b6 ((eG t e).back++fJ M') (by rw[show t.ends=_ from h3];simp);rw[List.length_append]at h4;omega
  ·show(if _ then _ else _:AD).length<=900;rw[if_neg z];exact b5
end
structure Kp(H H':Hp)(T T':Tg):Prop where
 k:∀b o,H b=some o->(T b).1=0->H' b=some o
 tg:∀b o,H b=some o->T' b=T b
 al:∀b o,H b=some o->∃o',H' b=some o'
theorem Kp.stp{s:Nat}{H H':Hp}{T T':Tg}(st:d7 s H H' T T')(n:s≠0):Kp H H' T T':=⟨λb o h t=>st.kp b o h δ,st.tg,st.al⟩
theorem Kp.trans{H H1 H2:Hp}{T T1 T2:Tg}(a:Kp H H1 T T1)(b:Kp H1 H2 T1 T2):Kp H H2 T T2:=
 ⟨λx o h t=>b.k x o (a.k x o h t) (by rw[a.tg x o h];exact t),λx o h=>by
  obtain⟨o1,h1⟩:=a.al x o h;exact(b.tg x o1 h1).trans (a.tg x o h),λx o h=>by
  obtain⟨o1,h1⟩:=a.al x o h;exact b.al x o1 h1⟩
def tyK(a1 a2 a3 a4 a5 a6:AH):List (L2.Key×V):=[(.inr "there",.ref a1),(.inr "noted",.ref a2),(.inr "walked",.ref a3),(.inr "ends",.ref a4),(.inr "back",.ref a5),(.inr "counts",.ref a6)]
structure Ml(H:Hp)(T:Tg)(a:AH)(t:Ty)(a1 a2 a3 a4 a5 a6:AH)(es:AE):Prop where
 td:T a=(2,0)
 od:H a=some (.dK (tyK a1 a2 a3 a4 a5 a6))
 t1:T a1=(2,1)
 o1:H a1=some (.lst (t.there.map V.int))
 t2:T a2=(2,2)
 o2:H a2=some (.lst (t.noted.map V.int))
 t3:T a3=(2,3)
 o3:H a3=some (.lst (t.walked.map V.int))
 t4:T a4=(2,4)
 o4:H a4=some (.lst (es.map V.ref))
 oe:Al (λe l=>T e=(0,0)/\H e=some (.lst (l.map V.int))) es t.ends
 t5:T a5=(2,5)
 o5:H a5=some (.lst (t.back.map V.int))
 t6:T a6=(2,6)
 o6:H a6=some (.lst [.int t.c0,.int t.c1,.int t.c2,.int t.c3])
def Pn(H:Hp)(T:Tg)(a:AH)(t:Ty):Prop:=∃a1 a2 a3 a4 a5 a6 es,Ml H T a t a1 a2 a3 a4 a5 a6 es
section
variable {H H':Hp}{T T':Tg}{a a1 a2 a3 a4 a5 a6:AH}{t:Ty}{es:AE}
theorem Ml.mv(o:Ml H T a t a1 a2 a3 a4 a5 a6 es)(k:∀b o,H b=some o->(T b).1=0\/(T b).1=2->H' b=some o)(tg:∀b o,H b=some o->T' b=T b):Ml H' T' a t a1 a2 a3 a4 a5 a6 es:=by
 have k2:∀{b:AH}{o:HO}{n:Nat},H b=some o->T b=(2,n)->T' b=(2,n)/\H' b=some o:=λ{b o n} h e=>⟨(tg b o h).trans e,k b o h (.inr (by rw[e]))⟩;obtain⟨td,od,t1,o1,t2,o2,t3,o3,t4,o4,oe,t5,o5,t6,o6⟩:=o;exact⟨(k2 od td).1,(k2 od td).2,(k2 o1 t1).1,(k2 o1 t1).2,(k2 o2 t2).1,(k2 o2 t2).2,(k2 o3 t3).1,(k2 o3 t3).2,(k2 o4 t4).1,(k2 o4 t4).2,oe.mono λe l ⟨z1,z2⟩=>⟨(tg _ _ z2).trans z1,k _ _ z2 (.inl (by rw[z1]))⟩,(k2 o5 t5).1,(k2 o5 t5).2,(k2 o6 t6).1,(k2 o6 t6).2⟩
theorem Ml.same(o:Ml H T a t a1 a2 a3 a4 a5 a6 es)(s:bz H H'):Ml H' T a t a1 a2 a3 a4 a5 a6 es:=o.mv (λb o h _=>s b o h) λ_ _ _=>rfl
theorem Pn.same(o:Pn H T a t)(s:bz H H'):Pn H' T a t:=by
 obtain⟨a1,a2,a3,a4,a5,a6,es,o⟩:=o;exact⟨a1,a2,a3,a4,a5,a6,es,o.same s⟩
theorem nH(od:H a=some (.dK (tyK a1 a2 a3 a4 a5 a6))):vQ H a (.str "there") (↑a1)/\vQ H a (.str "noted") (↑a2)/\vQ H a (.str "walked") (↑a3)/\vQ H a (.str "ends") (↑a4)/\vQ H a (.str "back") (↑a5)/\vQ H a (.str "counts") (↑a6):=
 ⟨vQ.k (k:=Sum.inr "there") od,vQ.k (k:=Sum.inr "noted") od,vQ.k (k:=Sum.inr "walked") od,vQ.k (k:=Sum.inr "ends") od,vQ.k (k:=Sum.inr "back") od,vQ.k (k:=Sum.inr "counts") od⟩
theorem Zlr{b:AH}(od:H a=some (.dK (tyK a1 a2 a3 a4 a5 a6))):V5 H a (.str "noted") (.ref b) (upd H a (.dK (tyK a1 b a3 a4 a5 a6))):=V5.k (k:=Sum.inr "noted") (v:=.ref b) od (show 6<sizeLine from ε)
theorem Zu8:K4 [] [((Sum.inr "there":L2.Key),V.ref a1),(Sum.inr "noted",.ref a2),(Sum.inr "walked",.ref a3),(Sum.inr "ends",.ref a4),(Sum.inr "back",.ref a5),(Sum.inr "counts",.ref a6)]=tyK a1 a2 a3 a4 a5 a6:=rfl
end
def Tk(H:Hp)(T:Tg)(x:AH)(v:Nat×Nat)(o:HO):Prop:=T x=v/\H x=some o
theorem Tk.new{H:Hp}{T:Tg}{x l:AH}{v w:Nat×Nat}{o o':HO}(k:Tk H T x v o)(n:H l=none):Tk (upd H l o') (dz T l w) x v o:=⟨(fc (aD k.2 n)).trans k.1,(aB (aD k.2 n)).trans k.2⟩
theorem Tk.upd{H:Hp}{T:Tg}{x l:AH}{v:Nat×Nat}{o o':HO}(k:Tk H T x v o)(n:x≠l):Tk (upd H l o') T x v o:=⟨k.1,(aB n).trans k.2⟩
theorem d7.Zcl{s:Nat}{H:Hp}{T:Tg}{l:AH}{o:HO}{v:Nat×Nat}(w:WT H T)(n:H l=none):d7 s H (upd H l o) T (dz T l v):=
 ⟨λb o h _=>(aB (aD h n)).trans h,λb o h=>⟨o,(aB (aD h n)).trans h⟩,λb o h=>fc (aD h n),λb hb=>by
  have e:b≠l:=λz=>by rw[z,aq]at hb;cases hb
  rw[fc e];rw[aB e]at hb;exact w b hb⟩
theorem Tk.at{H:Hp}{T:Tg}{l:AH}{v:Nat×Nat}{o:HO}:Tk (L2.upd H l o) (dz T l v) l v o:=⟨gU,aq⟩
def Jz(X:Cs):Sp:=λvs H Q E=>∃wo,vs=[.ref wo]/\∃T A M,WT H T/\WJ X H T 1 A M/\A.wo=wo/\M.cells.length<=900/\∀H' T' a,d7 2 H H' T T'->bz H H'->Pn H' T' a (ty0 M)->Q (.ref a) H'
section
theorem Wv{A:Wa}{M:Wm}{T:Tg}{s:Nat}(j:WJ X H T s A M)(f:V->Option V)(hf:∀(i:Nat) (c:Ce),M.cells[i]? =some (some c)->f (.int i)=some (.int c.birth)):((DG (A.cs.map pV)).map V.int).filterMap f=(nJ M).map V.int:=by
 have h:=Zdg M.cells λc=>some (V.int c.birth);have e0:(nJ M).map V.int=M.cells.filterMap λo=>o.bind λc=>some (V.int c.birth):=by
  unfold nJ;rw[List.map_filterMap];refine vA λo _=>?_;cases o<;>rfl
 rw[e0,<- h];unfold DG;rw[List.filterMap_map,List.filterMap_map,List.filterMap_filter,bx,j.jc.lc];refine vA λi hi=>?_;have hil:=List.mem_range.mp hi;cases hc:M.cells[i]with
 | none=>
  have z:M.cells[i]? =some none:=by rw[bM hil,hc]
  rw[if_neg (by simp[dj,j.jc.at0 z,pV]),z];rfl
 | some c=>
  have z:M.cells[i]? =some (some c):=by rw[bM hil,hc]
  obtain⟨p,hp,_⟩:=j.jc.at z;rw[if_pos (by simp[dj,hp,pV]),z];exact hf i c z
def bOf(M:Wm):V->Option V
 | .int p=>((M.cells[p.toNat]?).join).map λc=>V.int c.birth
 | _=>none
theorem Zak{M:Wm}{i:Nat}{c:Ce}(hc:M.cells[i]? =some (some c)):bOf M (.int (i:Int))=some (.int c.birth):=by
 show((M.cells[Int.toNat (i:Int)]?).join).map _=_;rw[Int.toNat_natCast,hc];rfl
theorem O4{A:Wa}{M:Wm}{T:Tg}{s:Nat}(j:WJ X H T s A M):(DG (A.cs.map pV)).length=cnt M:=by
 have h:=Wv j (bOf M) (λi c hc=>Zak hc);have h2:=congrArg List.length h;rw[bx]at h2;have h3:(nJ M).length=cnt M:=by
  unfold nJ cnt
  induction M.cells with
  | nil=>rfl
  | cons o l ih=>cases o<;>simp[ih]
 rw[h3]at h2;rw[<- h2];have all:∀v∈(DG (A.cs.map pV)).map V.int,∃y,bOf M v=some y:=λv hv=>by
  obtain⟨p,hp,rfl⟩:=List.mem_map.mp hv;unfold DG at hp;obtain⟨k,hk,rfl⟩:=List.mem_map.mp hp;obtain⟨hk1,hk2⟩:=List.mem_filter.mp hk;have hkl:k<M.cells.length:=by
   have:=List.mem_range.mp hk1;rw[bx,j.jc.lc]at this;exact this
  cases h3:M.cells[k]with
  | none=>
   exfalso
   have:(A.cs.map pV)[k]? =some V.non:=by rw[dj,j.jc.at0 (i:=k) (by rw[bM hkl,h3])];rfl
   simp[this]at hk2
  | some c=>exact⟨V.int c.birth,Zak (by rw[bM hkl,h3])⟩
 have fl:∀(l:List V) (f:V->Option V),(∀v∈l,∃y,f v=some y)->(l.filterMap f).length=l.length:=λl f=>by
  induction l with
  | nil=>intro _;rfl
  | cons v l ih=>
   intro h;obtain⟨y,e⟩:=h v ζ;rw[List.filterMap_cons,e];show(List.filterMap f l).length+1=_;rw[ih λx hx=>h x (by simp[hx])];rfl
 rw[fl _ _ all,bx]
theorem VM{wo:AH}(Tx:rY K X)(q:∃T A M,WT H T/\WJ X H T 1 A M/\A.wo=wo/\M.cells.length<=900/\∀H' T' a,d7 2 H H' T T'->bz H H'->Pn H' T' a (ty0 M)->Q (.ref a) H'):
  xM K X.H (jl X.H) ξ [↑wo,none] H:=by
 obtain⟨T,A,M,w,j,rfl,hc,q⟩:=q;obtain⟨dw,ow⟩:=j.jb.ow;obtain⟨dh,oh⟩:=j.jh.oh;unfold xM;apply W2 ?_;apply aH ow Tx.cW Tx.M6 bF ?_;exists A.hp,dh,_,rfl,oh,nZ;apply⟨_,rfl,A.ca,M.room,M.used,M.born,_,j.hpO,by rw[bx,j.jc.lc];omega,λlt nlt=>?_⟩;generalize zz:upd H lt _=H1;obtain⟨s1,g1⟩:=nwO nlt zz;have j1:=j.same s1;have lp:(DG (A.cs.map pV)).length<=900:=by
  rw[O4 j];exact Nat.le_trans List.countP_le_length hc
 refine⟨lt,rfl,⟨_,cC.of g1⟩,?_⟩;refine Zu (cC.of g1) (λi=>(((DG (A.cs.map pV)).map V.int)[i]?).bind (bOf M)) (by rw[bx];omega) (λi x hi=>?_) ?_
 ·rw[dj]at hi;obtain⟨p,hp,rfl⟩:=Option.map_eq_some_iff.mp hi;have hm:=List.mem_of_getElem? hp;unfold DG at hm;obtain⟨k,hk,rfl⟩:=List.mem_map.mp hm;obtain⟨hk1,hk2⟩:=List.mem_filter.mp hk;have hkl:k<M.cells.length:=by
   have:=List.mem_range.mp hk1;rw[bx,j.jc.lc]at this;exact this
  obtain⟨c,hcc⟩:∃c,M.cells[k]? =some (some c):=by
   cases h3:M.cells[k]with
   | none=>
    exfalso
    have:(A.cs.map pV)[k]? =some V.non:=by rw[dj,j.jc.at0 (i:=k) (by rw[bM hkl,h3])];rfl
    simp[this]at hk2
   | some c=>exact⟨c,by rw[bM hkl,h3]⟩
  obtain⟨pp,hpp,⟨_,_,⟨dx,ce⟩,_⟩⟩:=j1.jc.at hcc;have ef:(((DG (A.cs.map pV)).map V.int)[i]?).bind (bOf M)=some (.int c.birth):=by
   rw[dj,hp];exact Zak hcc
  obtain⟨dw1,ow1⟩:=j1.jb.ow;obtain⟨dh1,oh1⟩:=j1.jh.oh;refine⟨λq hq=>?_,λy q hy hq=>?_⟩
  ·rw[ef]at hq;exact Gp hq
  ·rw[ef]at hy;cases hy;walk_at"c";apply aH ow1 Tx.cW Tx.M6 bF ?_;apply aH oh1 Tx.c.cP Tx.c.bT cA ?_;apply lX (cC.of j1.jh.oc) (kW (v:=.ref pp.1) (by rw[dj,hpp];rfl)) ?_;apply aH ce Tx.c.dB Tx.c.dZ gR ?_;exact hq
 ·intro a1 n1;rw[QK (bOf M),Wv j (bOf M) (λi c hc=>Zak hc)];have st0:d7 2 H H1 T T:=d7.same w s1;have sm:bz H (upd H1 a1 (.lst ((nJ M).map V.int))):=s1.trans (aL n1 _);have st1:=st0.trans (d7.Zcl (s:=2) (o:=.lst ((nJ M).map V.int)) (v:=(2,1)) st0.wt n1);have k1:Tk (upd H1 a1 (.lst ((nJ M).map V.int))) (dz T a1 (2,1)) a1 (2,1) (.lst ((nJ M).map V.int)):=Tk.at;generalize upd H1 a1 (.lst ((nJ M).map V.int))=H2 at st1 k1 sm ⊢;generalize dz T a1 (2,1)=T1 at st1 k1;ext;intro d nd;simp only[Xx];have st2:=st1.trans (d7.Zcl (s:=2) (o:=.dK []) (v:=(2,0)) st1.wt nd);have k1:=k1.new (o':=.dK []) (w:=(2,0)) nd;have kd:Tk (upd H2 d (.dK [])) (dz T1 d (2,0)) d (2,0) (.dK []):=Tk.at;have hd0:H d=none:=sm.free nd;have sm:=sm.trans (aL nd (.dK []));generalize upd H2 d (.dK [])=H3 at st2 k1 kd sm ⊢;generalize dz T1 d (2,0)=T2 at st2 k1 kd;apply⟨aU ζ,λa2 n2=>?_⟩;have st3:=st2.trans (d7.Zcl (s:=2) (o:=.lst []) (v:=(2,2)) st2.wt n2);have k1:=k1.new (o':=.lst []) (w:=(2,2)) n2;have kd:=kd.new (o':=.lst []) (w:=(2,2)) n2;have k2:Tk (upd H3 a2 (.lst [])) (dz T2 a2 (2,2)) a2 (2,2) (.lst []):=Tk.at;have sm:=sm.trans (aL n2 (.lst []));generalize upd H3 a2 (.lst [])=H4 at st3 k1 kd k2 sm ⊢;generalize dz T2 a2 (2,2)=T3 at st3 k1 kd k2;apply⟨aU ζ,λa3 n3=>?_⟩;have st4:=st3.trans (d7.Zcl (s:=2) (o:=.lst []) (v:=(2,3)) st3.wt n3);have k1:=k1.new (o':=.lst []) (w:=(2,3)) n3;have kd:=kd.new (o':=.lst []) (w:=(2,3)) n3;have k2:=k2.new (o':=.lst []) (w:=(2,3)) n3;have k3:Tk (upd H4 a3 (.lst [])) (dz T3 a3 (2,3)) a3 (2,3) (.lst []):=Tk.at;have sm:=sm.trans (aL n3 (.lst []));generalize upd H4 a3 (.lst [])=H5 at st4 k1 kd k2 k3 sm ⊢;generalize dz T3 a3 (2,3)=T4 at st4 k1 kd k2 k3;apply⟨aU ζ,λa4 n4=>?_⟩;have JR:=st4.trans (d7.Zcl (s:=2) (o:=.lst []) (v:=(2,4)) st4.wt n4);have k1:=k1.new (o':=.lst []) (w:=(2,4)) n4;have kd:=kd.new (o':=.lst []) (w:=(2,4)) n4;have k2:=k2.new (o':=.lst []) (w:=(2,4)) n4;have k3:=k3.new (o':=.lst []) (w:=(2,4)) n4;have k4:Tk (upd H5 a4 (.lst [])) (dz T4 a4 (2,4)) a4 (2,4) (.lst []):=Tk.at;have sm:=sm.trans (aL n4 (.lst []));generalize upd H5 a4 (.lst [])=H6 at JR k1 kd k2 k3 k4 sm ⊢;generalize dz T4 a4 (2,4)=T5 at JR k1 kd k2 k3 k4;apply⟨aU ζ,λa5 n5=>?_⟩;have st6:=JR.trans (d7.Zcl (s:=2) (o:=.lst []) (v:=(2,5)) JR.wt n5);have k1:=k1.new (o':=.lst []) (w:=(2,5)) n5;have kd:=kd.new (o':=.lst []) (w:=(2,5)) n5;have k2:=k2.new (o':=.lst []) (w:=(2,5)) n5;have k3:=k3.new (o':=.lst []) (w:=(2,5)) n5;have k4:=k4.new (o':=.lst []) (w:=(2,5)) n5;have k5:Tk (upd H6 a5 (.lst [])) (dz T5 a5 (2,5)) a5 (2,5) (.lst []):=Tk.at;have sm:=sm.trans (aL n5 (.lst []));generalize upd H6 a5 (.lst [])=H7 at st6 k1 kd k2 k3 k4 k5 sm ⊢;generalize dz T5 a5 (2,5)=T6 at st6 k1 kd k2 k3 k4 k5;apply⟨aU ζ,λa6 n6=>?_⟩;have st7:=st6.trans (d7.Zcl (s:=2) (o:=.lst [.int 0,.int 0,.int 0,.int 0]) (v:=(2,6)) st6.wt n6);have k1:=k1.new (o':=.lst [.int 0,.int 0,.int 0,.int 0]) (w:=(2,6)) n6;have kd:=kd.new (o':=.lst [.int 0,.int 0,.int 0,.int 0]) (w:=(2,6)) n6;have k2:=k2.new (o':=.lst [.int 0,.int 0,.int 0,.int 0]) (w:=(2,6)) n6;have k3:=k3.new (o':=.lst [.int 0,.int 0,.int 0,.int 0]) (w:=(2,6)) n6;have k4:=k4.new (o':=.lst [.int 0,.int 0,.int 0,.int 0]) (w:=(2,6)) n6;have k5:=k5.new (o':=.lst [.int 0,.int 0,.int 0,.int 0]) (w:=(2,6)) n6;have k6:Tk (upd H7 a6 (.lst [.int 0,.int 0,.int 0,.int 0])) (dz T6 a6 (2,6)) a6 (2,6) (.lst [.int 0,.int 0,.int 0,.int 0]):=Tk.at;have sm:=sm.trans (aL n6 (.lst [.int 0,.int 0,.int 0,.int 0]));generalize upd H7 a6 (.lst [.int 0,.int 0,.int 0,.int 0])=H8 at st7 k1 kd k2 k3 k4 k5 k6 sm ⊢;generalize dz T6 a6 (2,6)=T7 at st7 k1 kd k2 k3 k4 k5 k6;exists kd.2,[(Sum.inr "there",.ref a1),(Sum.inr "noted",.ref a2),(Sum.inr "walked",.ref a3),(Sum.inr "ends",.ref a4),(Sum.inr "back",.ref a5),(Sum.inr "counts",.ref a6)],rfl,ζ
  rw[Zu8];have ne:∀{x:AH}{m:Nat}{o:HO},Tk H8 T7 x (2,m+1) o->x≠d:=λ{x m o} k z=>by
   have:=k.1;rw[z,kd.1]at this;cases this
  refine q _ T7 d (st7.trans (d7.upd st7.wt kd.2 (by rw[kd.1]))) (λb o hb=>(aB (aD hb hd0)).trans (sm b o hb)) ⟨a1,a2,a3,a4,a5,a6,[],kd.1,aq,k1.1,(k1.upd (ne k1)).2,k2.1,(k2.upd (ne k2)).2,k3.1,(k3.upd (ne k3)).2,k4.1,(k4.upd (ne k4)).2,.nil,k5.1,(k5.upd (ne k5)).2,k6.1,(k6.upd (ne k6)).2⟩
end
section
variable {H:Hp}{T:Tg}{a a1 a2 a3 a4 a5 a6:AH}{t:Ty}{es:AE}
theorem Ml.keep(o:Ml H T a t a1 a2 a3 a4 a5 a6 es){b:AH}{m:Nat}(hb:T b=(2,m))(o':HO):(m≠0->upd H b o' a=some (.dK (tyK a1 a2 a3 a4 a5 a6)))/\(m≠1->upd H b o' a1=some (.lst (t.there.map V.int)))/\(m≠2->upd H b o' a2=some (.lst (t.noted.map V.int)))/\(m≠3->upd H b o' a3=some (.lst (t.walked.map V.int)))/\(m≠4->upd H b o' a4=some (.lst (es.map V.ref)))/\(m≠5->upd H b o' a5=some (.lst (t.back.map V.int)))/\(m≠6->upd H b o' a6=some (.lst [.int t.c0,.int t.c1,.int t.c2,.int t.c3]))/\Al (λe l=>T e=(0,0)/\upd H b o' e=some (.lst (l.map V.int))) es t.ends:=by
 have ne:∀{x:AH}{k:Nat},T x=(2,k)->m≠k->x≠b:=λ{x k} h n=>Ag h hb λe=>n (Prod.mk.inj e).2.symm;exact⟨λn=>(aB (ne o.td n)).trans o.od,λn=>(aB (ne o.t1 n)).trans o.o1,λn=>(aB (ne o.t2 n)).trans o.o2,λn=>(aB (ne o.t3 n)).trans o.o3,λn=>(aB (ne o.t4 n)).trans o.o4,λn=>(aB (ne o.t5 n)).trans o.o5,λn=>(aB (ne o.t6 n)).trans o.o6,o.oe.mono λe l ⟨z1,z2⟩=>⟨z1,(aB (Ag z1 hb (λq=>absurd (Prod.mk.inj q).1 ε))).trans z2⟩⟩
theorem Ml.Zzx(o:Ml H T a t a1 a2 a3 a4 a5 a6 es)(l:AD):Ml (upd H a3 (.lst (l.map V.int))) T a { t with walked:=l } a1 a2 a3 a4 a5 a6 es:=by
 obtain⟨h0,h1,h2,h3,h4,h5,h6,h7⟩:=o.keep o.t3 (.lst (l.map V.int));exact⟨o.td,h0 ε,o.t1,h1 ε,o.t2,h2 ε,o.t3,aq,o.t4,h4 ε,h7,o.t5,h5 ε,o.t6,h6 ε⟩
theorem Ml.Zzv(o:Ml H T a t a1 a2 a3 a4 a5 a6 es)(l:AD):Ml (upd H a5 (.lst (l.map V.int))) T a { t with back:=l } a1 a2 a3 a4 a5 a6 es:=by
 obtain⟨h0,h1,h2,h3,h4,h5,h6,h7⟩:=o.keep o.t5 (.lst (l.map V.int));exact⟨o.td,h0 ε,o.t1,h1 ε,o.t2,h2 ε,o.t3,h3 ε,o.t4,h4 ε,h7,o.t5,aq,o.t6,h6 ε⟩
theorem Ml.Zqb(o:Ml H T a t a1 a2 a3 a4 a5 a6 es)(x y z u:Nat):Ml (upd H a6 (.lst [.int x,.int y,.int z,.int u])) T a { t with c0:=x,c1:=y,c2:=z,c3:=u } a1 a2 a3 a4 a5 a6 es:=by
 obtain⟨h0,h1,h2,h3,h4,h5,h6,h7⟩:=o.keep o.t6 (.lst [.int x,.int y,.int z,.int u]);exact⟨o.td,h0 ε,o.t1,h1 ε,o.t2,h2 ε,o.t3,h3 ε,o.t4,h4 ε,h7,o.t5,h5 ε,o.t6,aq⟩
theorem Zj2{α β:Type}{P:α->β->Prop}{x:α}{y:β}(h:P x y):∀{xs:List α}{ys:List β},Al P xs ys->Al P (xs++[x]) (ys++[y])
 | _,_,.nil=>.cons h .nil
 | _,_,.cons a b=>.cons a (Zj2 h b)
theorem Ml.Zzw(o:Ml H T a t a1 a2 a3 a4 a5 a6 es){e:AH}{l:AD}(te:T e=(0,0))(he:H e=some (.lst (l.map V.int))):Ml (upd H a4 (.lst (es.map V.ref++[.ref e]))) T a { t with ends:=t.ends++[l] } a1 a2 a3 a4 a5 a6 (es++[e]):=by
 obtain⟨h0,h1,h2,h3,h4,h5,h6,h7⟩:=o.keep o.t4 (.lst (es.map V.ref++[.ref e]));refine⟨o.td,h0 ε,o.t1,h1 ε,o.t2,h2 ε,o.t3,h3 ε,o.t4,by rw[aq,List.map_append];rfl,?_,o.t5,h5 ε,o.t6,h6 ε⟩;have:upd H a4 (.lst (es.map V.ref++[.ref e])) e=some (.lst (l.map V.int)):=(aB (Ag te o.t4 ε)).trans he;exact Zj2 ⟨te,this⟩ h7
theorem Ml.Zxu(o:Ml H T a t a1 a2 a3 a4 a5 a6 es)(w:WT H T){b:AH}{l:AD}(nb:H b=none):d7 2 H (upd (upd H b (.lst (l.map V.int))) a (.dK (tyK a1 b a3 a4 a5 a6))) T (dz T b (2,2))/\Ml (upd (upd H b (.lst (l.map V.int))) a (.dK (tyK a1 b a3 a4 a5 a6))) (dz T b (2,2)) a { t with noted:=l } a1 b a3 a4 a5 a6 es:=by
 have st:=d7.Zcl (s:=2) (o:=.lst (l.map V.int)) (v:=(2,2)) w nb;have kb:Tk (upd H b (.lst (l.map V.int))) (dz T b (2,2)) b (2,2) (.lst (l.map V.int)):=Tk.at;have o1:Ml (upd H b (.lst (l.map V.int))) (dz T b (2,2)) a t a1 a2 a3 a4 a5 a6 es:=o.mv (λx u h _=>(aB (aD h nb)).trans h) λx u h=>fc (aD h nb);generalize upd H b (.lst (l.map V.int))=H1 at st kb o1 ⊢;generalize dz T b (2,2)=T1 at st kb o1 ⊢;obtain⟨h0,h1,h2,h3,h4,h5,h6,h7⟩:=o1.keep o1.td (.dK (tyK a1 b a3 a4 a5 a6));exact⟨st.trans (d7.upd st.wt o1.od (by rw[o1.td])),o1.td,aq,o1.t1,h1 ε,kb.1,(kb.upd (Ag kb.1 o1.td ε)).2,o1.t3,h3 ε,o1.t4,h4 ε,h7,o1.t5,h5 ε,o1.t6,h6 ε⟩
end
section
variable {K:aC}{H:Hp}{Q:VK}
theorem Zgq(z:Str):∀l:AG,inV (.str z) (l.map V.str)=decide (z∈l)
 | []=>rfl
 | a::l=>by
  have h:=Zgq z l;unfold inV at h ⊢;rw[List.map_cons,List.any_cons,h];show((a == z) || decide (z∈l))=_
  by_cases e:z=a
  ·subst e;simp
  ·have e2:(a == z)=false:=by simpa using λy=>e y.symm
   rw[e2];simp[e]
theorem Xi(l:AG):(l.map V.str).all qN=true:=by
 rw[List.all_eq_true];intro x hx;obtain⟨y,_,rfl⟩:=List.mem_map.mp hx;rfl
theorem Ziq{p:AH}{z:Str}(l:AG)(h:H p=some (.tup (l.map V.str)))(q:Q (.bl (decide (z∈l))) H):rIn K false (.str z) (.ref p) H Q:=
 ⟨p,_,rfl,.inr (fM.of h),rfl,Xi l,by rw[Zgq];exact q⟩
theorem Zym{p:AH}{z:Str}(l:AG)(h:H p=some (.tup (l.map V.str)))(q:Q (.bl (!decide (z∈l))) H):rIn K true (.str z) (.ref p) H Q:=
 ⟨p,_,rfl,.inr (fM.of h),rfl,Xi l,by rw[Zgq];exact q⟩
theorem Zok{p q:AH}{xs:List V}(h1:cC K H p xs)(h2:cC K H q [])(h:Q (.bl (decide (xs≠[]))) H):G.HF K true (.ref p) (.ref q) H Q:=by
 refine⟨p,q,_,_,rfl,rfl,h1,h2,λe=>?_,?_⟩
 ·have:xs=[]:=List.length_eq_zero_iff.mp e;subst this;exact⟨rfl,rfl⟩
 ·have e:(!eqL xs [])=decide (xs≠[]):=by cases xs<;>rfl
  show Q (.bl (!eqL xs [])) H;rw[e];exact h
end
def evO(H:Hp)(ev l:AH)(z:Str)(i:Int)(ns:AD):Prop:=H ev=some (.tup [.str z,.int i,.ref l])/\H l=some (.lst (ns.map V.int))
abbrev isW(z:Str):Prop:=z="begin"\/z="walk"\/z="look"
structure TlQ(H:Hp)(T:Tg)(ta ev l:AH)(t:Ty)(z:Str)(i:Int)(ns:AD):Prop where
 w:WT H T
 ty:Pn H T ta t
 oe:evO H ev l z i ns
 te:(T ev).1≠2
 tl:(T l).1≠2
section
variable {K:aC}{H H':Hp}{T T':Tg}{Q:VK}{E:XK}{n:ν}{bk ct:ν}{ta ev l:AH}{t t':Ty}{z:Str}{i:Int}{ns:AD}
theorem TlQ.stp(p:TlQ H T ta ev l t z i ns)(st:d7 2 H H' T T')(y:Pn H' T' ta t'):TlQ H' T' ta ev l t' z i ns:=
 ⟨st.wt,y,⟨st.kp _ _ p.oe.1 p.te,st.kp _ _ p.oe.2 p.tl⟩,by rw[st.tg _ _ p.oe.1];exact p.te,by rw[st.tg _ _ p.oe.2];exact p.tl⟩
theorem Zrz:z∈(["begin","walk","look"]:AG)↔isW z:=by simp[isW]
theorem Zlf(ms:AD)(k:Nat)(h:k<=ms.length):Sg (ms.map V.int) none (some (k:Int))=(ms.take k).map V.int:=by
 unfold Sg HT.Yx;simp;rw[if_neg δ];omega
theorem Zue(p:TlQ H T ta ev l t z i ns)(b:OD t)(h1:isW z->t.ends=[]/\t.walked.length<=t.noted.length/\t.noted.take t.walked.length=t.walked)(h2:¬ isW z->z="cut"\/z="lost"\/t.ends≠[])(q:∀H',bz H H'->Q (.bl true) H'):
  mF K ξ [↑ta,↑ev] H:=by
 obtain⟨w,⟨a1,a2,a3,a4,a5,a6,es,o⟩,⟨oe,ol⟩,te,tl⟩:=p;unfold mF;exists ev,_,0,_,rfl,rfl,fM.of oe,rfl;apply⟨aU ζ,λp np=>?_⟩;have s1:=aL np (.tup [.str "begin",.str "walk",.str "look"]);refine Ziq ["begin","walk","look"] aq ?_;generalize upd H p (.tup [.str "begin",.str "walk",.str "look"])=H1 at s1 ⊢;have o1:=o.same s1;obtain⟨g1,g2,g3,g4,g5,g6⟩:=nH o1.od;apply qM (λhz=>?_) (λhz=>?_)
 ·obtain⟨e1,e2,e3⟩:=h1 (Zrz.mp hz);have es0:es=[]:=by
   have:=o1.oe.length;rw[e1]at this;exact List.length_eq_zero_iff.mp this
  exists ta,_,rfl,g4;apply⟨aU ζ,λp2 np2=>?_⟩;have s2:=aL np2 (.lst []);refine Zwb (cC.of (s2 _ _ o1.o4)) (cC.of aq) ?_;rw[decide_eq_true (show es.map V.ref=[] by rw[es0];rfl)];generalize upd H1 p2 (.lst [])=H2 at s2 ⊢;have o2:=o1.same s2;obtain⟨g1,g2,g3,g4,g5,g6⟩:=nH o2.od;exists ta,_,rfl,g2;exists ta,_,rfl,g3;apply fK (cC.of o2.o3) ?_;rw[bx];apply⟨a2,_,rfl,cC.of o2.o2,λp3 np3=>?_⟩;have s3:=aL np3 (.lst (Sg (t.noted.map V.int) none (some (t.walked.length:Int))));have gp:upd H2 p3 (.lst (Sg (t.noted.map V.int) none (some (t.walked.length:Int)))) p3=some (.lst (t.walked.map V.int)):=by rw[aq,Zlf _ _ e2,e3]
  generalize upd H2 p3 (.lst (Sg (t.noted.map V.int) none (some (t.walked.length:Int))))=H3 at s3 gp ⊢;have o3:=o2.same s3;obtain⟨g1,g2,g3,g4,g5,g6⟩:=nH o3.od;exists ta,_,rfl,g3;apply Zgx (cC.of gp) (cC.of o3.o3) ?_;rw[decide_eq_true rfl];apply q _ (s1.trans (s2.trans s3))
 ·have h3:=h2 λy=>hz (Zrz.mpr y);exists ev,_,0,_,rfl,rfl,fM.of (s1 _ _ oe),rfl;apply⟨aU ζ,λp2 np2=>?_⟩;have s2:=aL np2 (.tup [.str "cut",.str "lost"]);refine Ziq ["cut","lost"] aq ?_;generalize upd H1 p2 (.tup [.str "cut",.str "lost"])=H2 at s2 ⊢;have o2:=o1.same s2;obtain⟨g1,g2,g3,g4,g5,g6⟩:=nH o2.od;apply qM (λy=>?_) (λy=>?_)
  ·apply q _ (s1.trans s2)
  ·have h4:t.ends≠[]:=by
    rcases h3 with e | e | e
    ·exact absurd (by rw[e];simp) y
    ·exact absurd (by rw[e];simp) y
    ·exact e
   exists ta,_,rfl,g4;apply⟨aU ζ,λp3 np3=>?_⟩;have s3:=aL np3 (.lst []);refine Zok (cC.of (s3 _ _ o2.o4)) (cC.of aq) ?_;rw[decide_eq_true (show es.map V.ref≠[]from λe=>h4 (by
    have:=o2.oe.length;rw[List.map_eq_nil_iff.mp e]at this;exact List.length_eq_zero_iff.mp this.symm))]
   apply q _ (s1.trans (s2.trans s3))
theorem Zuf(p:TlQ H T ta ev l t z i ns)(b:OD t)(q:∀H' T',d7 2 H H' T T'->Pn H' T' ta { t with back:=if z="back" then t.back++[i]else t.back }->mF K ξ [↑ta,↑ev] H'):
  mG K ξ [↑ta,↑ev] H:=by
 obtain⟨w,⟨a1,a2,a3,a4,a5,a6,es,o⟩,⟨oe,ol⟩,te,tl⟩:=p;obtain⟨g1,g2,g3,g4,g5,g6⟩:=nH o.od;unfold mG;refine vo ?_;left;refine⟨ev,_,0,_,rfl,rfl,fM.of oe,rfl,?_⟩;left;refine qM (λhz=>?_) (λhz=>?_)
 ·left;refine⟨ta,.ref a5,rfl,g5,.inl ⟨rfl,_,cC.of o.o5⟩,?_⟩;left;refine⟨ev,_,1,_,rfl,rfl,fM.of oe,rfl,?_⟩;left;have hb:=b.bk;refine⟨a5,_,_,rfl,rfl,o.o5,by rw[bx,sizeLine_eq];omega,?_⟩;have o':=o.Zzv (t.back++[i]);rw[List.map_append]at o';refine q _ T (d7.upd w o.o5 (by rw[o.t5])) ⟨a1,a2,a3,a4,a5,a6,es,?_⟩;rw[if_pos hz];exact o'
 ·left;refine q _ T (d7.refl w) ⟨a1,a2,a3,a4,a5,a6,es,?_⟩;rw[if_neg hz];exact o
theorem Zug(p:TlQ H T ta ev l t z i ns)(q:∀H' T',d7 2 H H' T T'->Pn H' T' ta { t with c2:=if z="back"\/z="pass" then t.c2+1 else t.c2 }->mG K ξ [↑ta,↑ev] H'):
  mH K ξ [↑ta,↑ev] H:=by
 obtain⟨w,⟨a1,a2,a3,a4,a5,a6,es,o⟩,⟨oe,ol⟩,te,tl⟩:=p;unfold mH;refine vo ?_;left;refine⟨ev,_,0,_,rfl,rfl,fM.of oe,rfl,?_⟩;left;refine⟨aU ζ,λp np=>?_⟩;have s1:=aL np (.tup [.str "back",.str "pass"]);refine Ziq ["back","pass"] aq ?_;generalize upd H p (.tup [.str "back",.str "pass"])=H1 at s1 ⊢;have o:=o.same s1;have w1:=w.same s1;obtain⟨g1,g2,g3,g4,g5,g6⟩:=nH o.od;left;refine qM (λhz=>?_) (λhz=>?_)
 ·left;refine⟨.ref ta,rfl,ta,.ref a6,rfl,g6,a6,_,2,.int t.c2,rfl,rfl,cC.of o.o6,ε,rfl,t.c2,1,rfl,rfl,a6,_,2,2,rfl,rfl,o.o6,rfl,?_⟩;refine q _ T ((d7.same w s1).trans (d7.upd w1 o.o6 (by rw[o.t6]))) ⟨a1,a2,a3,a4,a5,a6,es,?_⟩;rw[if_pos (by simpa using hz)];exact o.Zqb t.c0 t.c1 (t.c2+1) t.c3
 ·left;refine q _ T (d7.same w s1) ⟨a1,a2,a3,a4,a5,a6,es,?_⟩;rw[if_neg (by simpa using hz)];exact o
theorem Zuh(p:TlQ H T ta ev l t z i ns)(q:∀H' T',d7 2 H H' T T'->Pn H' T' ta { t with c1:=if z="look" then t.c1+1 else t.c1 }->mH K ξ [↑ta,↑ev] H'):
  mJ K ξ [↑ta,↑ev] H:=by
 obtain⟨w,⟨a1,a2,a3,a4,a5,a6,es,o⟩,⟨oe,ol⟩,te,tl⟩:=p;obtain⟨g1,g2,g3,g4,g5,g6⟩:=nH o.od;unfold mJ;refine vo ?_;left;refine⟨ev,_,0,_,rfl,rfl,fM.of oe,rfl,?_⟩;left;refine qM (λhz=>?_) (λhz=>?_)
 ·left;refine⟨.ref ta,rfl,ta,.ref a6,rfl,g6,a6,_,1,.int t.c1,rfl,rfl,cC.of o.o6,ε,rfl,t.c1,1,rfl,rfl,a6,_,1,1,rfl,rfl,o.o6,rfl,?_⟩;refine q _ T (d7.upd w o.o6 (by rw[o.t6])) ⟨a1,a2,a3,a4,a5,a6,es,?_⟩;rw[if_pos hz];exact o.Zqb t.c0 (t.c1+1) t.c2 t.c3
 ·left;refine q _ T (d7.refl w) ⟨a1,a2,a3,a4,a5,a6,es,?_⟩;rw[if_neg hz];exact o
theorem Zui(p:TlQ H T ta ev l t z i ns)(b:OD t)(q:∀H' T',d7 2 H H' T T'->Pn H' T' ta { t with walked:=if z="walk" then t.walked++[i]else t.walked }->mJ K ξ [↑ta,↑ev] H'):
  mK K ξ [↑ta,↑ev] H:=by
 obtain⟨w,⟨a1,a2,a3,a4,a5,a6,es,o⟩,⟨oe,ol⟩,te,tl⟩:=p;obtain⟨g1,g2,g3,g4,g5,g6⟩:=nH o.od;unfold mK;refine vo ?_;left;refine⟨ev,_,0,_,rfl,rfl,fM.of oe,rfl,?_⟩;left;refine qM (λhz=>?_) (λhz=>?_)
 ·left;refine⟨ta,.ref a3,rfl,g3,.inl ⟨rfl,_,cC.of o.o3⟩,?_⟩;left;refine⟨ev,_,1,_,rfl,rfl,fM.of oe,rfl,?_⟩;left;have hb:=b.wa;refine⟨a3,_,_,rfl,rfl,o.o3,by rw[bx,sizeLine_eq];omega,?_⟩;have o':=o.Zzx (t.walked++[i]);rw[List.map_append]at o';refine q _ T (d7.upd w o.o3 (by rw[o.t3])) ⟨a1,a2,a3,a4,a5,a6,es,?_⟩;rw[if_pos hz];exact o'
 ·left;refine q _ T (d7.refl w) ⟨a1,a2,a3,a4,a5,a6,es,?_⟩;rw[if_neg hz];exact o
def Jv(K:aC):Sp:=λvs H Q E=>∃ta ev,vs=[.ref ta,.ref ev]/\∃T t l z i ns,TlQ H T ta ev l t z i ns/\OD t/\OD (eG t ⟨z,some i,ns⟩)/\(isW z->t.ends=[]/\(eG t ⟨z,some i,ns⟩).walked.length<=(eG t ⟨z,some i,ns⟩).noted.length/\(eG t ⟨z,some i,ns⟩).noted.take (eG t ⟨z,some i,ns⟩).walked.length=(eG t ⟨z,some i,ns⟩).walked)/\(¬ isW z->z="cut"\/z="lost"\/t.ends≠[])/\∀H' T',d7 2 H H' T T'->Pn H' T' ta (eG t ⟨z,some i,ns⟩)->Q (.bl true) H'
theorem VH(q:∃T t l z i ns,TlQ H T ta ev l t z i ns/\OD t/\OD (eG t ⟨z,some i,ns⟩)/\(isW z->t.ends=[]/\(eG t ⟨z,some i,ns⟩).walked.length<=(eG t ⟨z,some i,ns⟩).noted.length/\(eG t ⟨z,some i,ns⟩).noted.take (eG t ⟨z,some i,ns⟩).walked.length=(eG t ⟨z,some i,ns⟩).walked)/\(¬ isW z->z="cut"\/z="lost"\/t.ends≠[])/\∀H' T',d7 2 H H' T T'->Pn H' T' ta (eG t ⟨z,some i,ns⟩)->Q (.bl true) H'):
  xH K ξ [↑ta,↑ev] H:=by
 obtain⟨T,t,l,z,i,ns,p,b,b',h1,h2,q⟩:=q;have p0:=p;obtain⟨w,⟨a1,a2,a3,a4,a5,a6,es,o⟩,⟨oe,ol⟩,te,tl⟩:=p;obtain⟨g1,g2,g3,g4,g5,g6⟩:=nH o.od;have fin:∀H1 T1,d7 2 H H1 T T1->Pn H1 T1 ta { t with c0:=t.c0+1,noted:=if isW z then t.noted++ns else t.noted }->mK K ξ [↑ta,↑ev] H1:=λH1 T1 st1 y1=>by
  refine Zui (p0.stp st1 y1) ⟨b.th,b'.no,b.wa,b.en,b.bk,b.el⟩ λH2 T2 st2 y2=>?_;have Zxq:=st1.trans st2;refine Zuh (p0.stp Zxq y2) λH3 T3 st3 y3=>?_;have Zxp:=Zxq.trans st3;refine Zug (p0.stp Zxp y3) λH4 T4 st4 y4=>?_;have Zxo:=Zxp.trans st4;refine Zuf (p0.stp Zxo y4) ⟨b.th,b'.no,b'.wa,b.en,b.bk,b.el⟩ λH5 T5 JR y5=>?_;have Zxn:=Zxo.trans JR;exact Zue (p0.stp Zxn y5) b' (λy=>h1 y) h2 λH6 s6=>q H6 T5 (Zxn.trans (d7.same JR.wt s6)) (y5.same s6)
 unfold xH;refine vo ?_;left;refine⟨.ref ta,rfl,ta,.ref a6,rfl,g6,a6,_,0,.int t.c0,rfl,rfl,cC.of o.o6,ε,rfl,t.c0,1,rfl,rfl,a6,_,0,0,rfl,rfl,o.o6,rfl,?_⟩;generalize hH0:upd H a6 _=H0;have st0:d7 2 H H0 T T:=by rw[<- hH0];exact d7.upd w o.o6 (by rw[o.t6])
 have o0:Ml H0 T ta { t with c0:=t.c0+1 } a1 a2 a3 a4 a5 a6 es:=by rw[<- hH0];exact o.Zqb (t.c0+1) t.c1 t.c2 t.c3
 clear hH0;dsimp only;refine vo ?_;have oe0:=st0.kp _ _ oe te;have ol0:=st0.kp _ _ ol tl;left;refine⟨ev,_,0,_,rfl,rfl,fM.of oe0,rfl,?_⟩;left;refine⟨aU ζ,λp np=>?_⟩;have s1:=aL np (.tup [.str "begin",.str "walk",.str "look"]);refine Ziq ["begin","walk","look"] aq ?_;generalize upd H0 p (.tup [.str "begin",.str "walk",.str "look"])=H1 at s1 ⊢;have st1:=st0.trans (d7.same (s:=2) st0.wt s1);have o1:=o0.same s1;obtain⟨g1,g2,g3,g4,g5,g6⟩:=nH o1.od;left;refine qM (λhz=>?_) (λhz=>?_)
 ·have hw:=Zrz.mp hz;have bn:=b'.no;have en:(eG t ⟨z,some i,ns⟩).noted=t.noted++ns:=if_pos hw;rw[en,List.length_append]at bn;left;refine⟨ta,_,rfl,g2,?_⟩;left;refine⟨ev,_,2,_,rfl,rfl,fM.of (s1 _ _ oe0),rfl,?_⟩;left;refine⟨a2,l,_,_,rfl,rfl,o1.o2,s1 _ _ ol0,by rw[bx,bx,sizeLine_eq];show t.noted.length+ns.length<=_;omega,λnb nnb=>?_⟩;obtain⟨st2,o2⟩:=o1.Zxu st1.wt (l:=t.noted++ns) nnb;rw[List.map_append]at st2 o2;have od2:upd H1 nb (.lst (t.noted.map V.int++ns.map V.int)) ta=some (.dK (tyK a1 a2 a3 a4 a5 a6)):=(aB (aD o1.od nnb)).trans o1.od;left;refine⟨ta,_,rfl,Zlr od2,?_⟩;refine fin _ _ (st1.trans st2) ⟨a1,nb,a3,a4,a5,a6,es,?_⟩;rw[if_pos hw];exact o2
 ·left;refine fin _ _ st1 ⟨a1,a2,a3,a4,a5,a6,es,?_⟩;rw[if_neg λy=>hz (Zrz.mpr y)];exact o1
end
def Zzp(H:Hp)(T:Tg)(ta ev l:AH)(t:Ty)(ns:AD)(way nh:Int):Prop:=TlQ H T ta ev l t "cut" ns.length ns/\T l=(0,0)/\OD t/\t.noted=t.walked/\t.noted.Nodup/\(∀b∈t.noted,b∈t.there)/\(∀b∈ns,b∈t.there)/\(way=0->t.c1=0)/\(way=1->(t.c1:Int)=nh)/\(way=2->t.c1<=t.noted.length)/\t.there.length=t.noted.length+ns.length
def Zb0(K:aC):Sp:=λvs H Q E=>∃ta ev way nh m,vs=[.ref ta,.ref ev,.int way,.int nh,.int m]/\∃T t l ns,∃k:Nat,m=k/\Zzp H T ta ev l t ns way nh/\∀H' T',d7 2 H H' T T'->Pn H' T' ta { t with ends:=t.ends++[ns],c3:=k }->Q (.bl true) H'
def Zaz(K:aC):Sp:=λvs H Q E=>∃ta ev,vs=[.ref ta,.ref ev]/\∃T t l i ns,TlQ H T ta ev l t "end" i ns/\t.noted=t.walked/\t.ends=[t.back]/\t.c2=t.c3/\t.c0=3+t.c1+t.walked.length+t.c2/\ns=[(t.walked.length:Int),(t.c1:Int),(t.c2:Int)]/\∀H',bz H H'->Q (.bl true) H'
theorem Zoe(b:Int):∀l:AD,inV (.int b) (l.map V.int)=decide (b∈l)
 | []=>rfl
 | a::l=>by
  have h:=Zoe b l;unfold inV at h ⊢;rw[List.map_cons,List.any_cons,h];show((a == b) || decide (b∈l))=_
  by_cases e:b=a
  ·subst e;simp
  ·have e2:(a == b)=false:=by simpa using λy=>e y.symm
   rw[e2];simp[e]
section
variable {K:aC}{H H':Hp}{T T':Tg}{Q:VK}{E:XK}{n:ν}{bk ct:ν}{ta ev l:AH}{t t':Ty}{z:Str}{i:Int}{ns:AD}
theorem Zoj{p q:AH}{ms ns:AD}(h1:cC K H p (ns.map V.int))(h2:cC K H q (ms.map V.int))(e:ns=ms)(h:Q (.bl false) H):G.HF K true (.ref p) (.ref q) H Q:=by
 subst e;refine⟨p,q,_,_,rfl,rfl,h1,h2,λ_=>⟨G.rW _,G.rW _⟩,?_⟩;have e:eqL (ns.map V.int) (ns.map V.int)=true:=by rw[Zdl];exact decide_eq_true rfl
 show Q (.bl (!eqL _ _)) H;rw[e];exact h
theorem SN(q:∃T t l i ns,TlQ H T ta ev l t "end" i ns/\t.noted=t.walked/\t.ends=[t.back]/\t.c2=t.c3/\t.c0=3+t.c1+t.walked.length+t.c2/\ns=[(t.walked.length:Int),(t.c1:Int),(t.c2:Int)]/\∀H',bz H H'->Q (.bl true) H'):
  uY K ξ [↑ta,↑ev,none,none,none,none] H:=by
 obtain⟨T,t,l,i,ns,⟨w,⟨a1,a2,a3,a4,a5,a6,es,o⟩,⟨oe,ol⟩,te,tl⟩,e1,e2,e3,e4,rfl,q⟩:=q;obtain⟨g1,g2,g3,g4,g5,g6⟩:=nH o.od;unfold uY;exists ta,_,rfl,g6;exists a6,_,rfl,cC.of o.o6,rfl,_,_,rfl,_,_,rfl,_,_,rfl,_,_,rfl,rfl;show(aN (dX _ _ _) _) ξ [↑ta,↑ev,some (.int t.c0),some (.int t.c1),some (.int t.c2),some (.int t.c3)] H;exists ta,_,rfl,g2;exists ta,_,rfl,g3;apply Zoj (cC.of o.o2) (cC.of o.o3) e1 ?_;exists ta,_,rfl,g4;exists ta,_,rfl,g5;apply⟨aU ζ,λp np=>?_⟩;generalize zz:upd H p _=H1;obtain⟨s1,gp⟩:=nwO np zz;have o1:=o.same s1;obtain⟨g1,g2,g3,g4,g5,g6⟩:=nH o1.od;obtain⟨x,es0,hx⟩:∃x,es=[x]/\H1 x=some (.lst (t.back.map V.int)):=by
  have h:=o1.oe;rw[e2]at h;cases h with
  | cons h t=>cases t;exact⟨_,rfl,h.2⟩
 have o4:=o1.o4;rw[es0]at o4;refine Zu0 (.inl ⟨cC.of o4,cC.of gp⟩) (.cons (.inr ⟨x,a5,rfl,rfl,.inr ⟨_,_,.inl ⟨cC.of hx,cC.of o1.o5⟩,R8 (G.rW _)⟩⟩) .nil) ?_;apply Gn (λy=>absurd (by rw[e3]) y) (λ_=>?_);exists ta,_,rfl,g3;apply fK (cC.of o1.o3) ?_;rw[bx];apply Gn (λy=>absurd (by rw[e4];push_cast;omega) y) (λ_=>?_);exists ev,_,2,_,rfl,rfl,fM.of (s1 _ _ oe),rfl;exists ta,_,rfl,g3;apply fK (cC.of o1.o3) ?_;rw[bx];apply⟨aU ζ,λp2 np2=>?_⟩;have s2:=aL np2 (.lst [.int (t.walked.length:Int),.int (t.c1:Int),.int (t.c2:Int)]);refine Zgx (ms:=[(t.walked.length:Int),(t.c1:Int),(t.c2:Int)]) (cC.of (s2 _ _ (s1 _ _ ol))) (cC.of aq) ?_;rw[decide_eq_true rfl];exact q _ (s1.trans s2)
theorem SQ{way nh m:Int}(q:∃T t l ns,∃k:Nat,m=k/\Zzp H T ta ev l t ns way nh/\∀H' T',d7 2 H H' T T'->Pn H' T' ta { t with ends:=t.ends++[ns],c3:=k }->Q (.bl true) H'):
  uZ K ξ [↑ta,↑ev,some (.int way),some (.int nh),some (.int m),none,none,none] H:=by
 obtain⟨T,t,l,ns,k,rfl,⟨⟨w,⟨a1,a2,a3,a4,a5,a6,es,o⟩,⟨oe,ol⟩,te,tl⟩,tl0,b,e1,nd,h1,h2,w0,w1,w2,ln⟩,q⟩:=q;obtain⟨g1,g2,g3,g4,g5,g6⟩:=nH o.od;have bt:=b.th;have be:=b.en;have les:=o.oe.length;unfold uZ;exists ta,_,rfl,g2;exists ta,.ref a4,rfl,g4,.inl ⟨rfl,_,cC.of o.o4⟩;exists ev,_,2,_,rfl,rfl,fM.of oe,rfl;apply⟨a4,_,_,rfl,rfl,o.o4,by rw[bx,sizeLine_eq];omega,?_⟩;have st1:d7 2 H (upd H a4 (.lst (es.map V.ref++[.ref l]))) T T:=d7.upd w o.o4 (by rw[o.t4]);have o1:=o.Zzw tl0 ol;generalize upd H a4 (.lst (es.map V.ref++[.ref l]))=H1 at st1 o1 ⊢;obtain⟨g1,g2,g3,g4,g5,g6⟩:=nH o1.od;exists ta,_,rfl,g6;exists a6,_,3,3,rfl,rfl,o1.o6,rfl;have st2:d7 2 H (upd H1 a6 (.lst [.int t.c0,.int t.c1,.int t.c2,.int k])) T T:=st1.trans (d7.upd st1.wt o1.o6 (by rw[o1.t6]));have o2:Ml _ T ta { t with ends:=t.ends++[ns],c3:=k } a1 a2 a3 a4 a5 a6 (es++[l]):=o1.Zqb t.c0 t.c1 t.c2 k;rw[show [V.int (t.c0:Int),.int (t.c1:Int),.int (t.c2:Int),.int (t.c3:Int)].set 3 (.int (k:Int))=[.int t.c0,.int t.c1,.int t.c2,.int k]from rfl];generalize upd H1 a6 (.lst [.int t.c0,.int t.c1,.int t.c2,.int k])=H2 at st2 o2 ⊢;obtain⟨g1,g2,g3,g4,g5,g6⟩:=nH o2.od;have oe2:=st2.kp _ _ oe te;have ol2:=st2.kp _ _ ol tl;exists ta,_,rfl,g3;apply Zoj (cC.of o2.o2) (cC.of o2.o3) e1 ?_;apply⟨.ref a2,rfl,a2,t.noted,rfl,cC.of o2.o2,by have:=b.no;omega,?_⟩;rw[G.Nz nd Δ,List.take_length];apply fK (cC.of o2.o2) ?_;apply Gn (λy=>absurd (by rw[bx]) y) (λ_=>?_);exists ev,_,2,_,rfl,rfl,fM.of oe2,rfl;apply⟨a2,l,_,_,rfl,rfl,o2.o2,ol2,by rw[bx,bx,sizeLine_eq];show t.noted.length+ns.length<=_;omega,λp np=>?_⟩;generalize hH3:upd H2 p _=H3;have s3:bz H2 H3:=by rw[<- hH3];exact aL np _
 have gp:H3 p=some (.lst ((t.noted++ns).map V.int)):=by rw[<- hH3,aq,List.map_append]
 clear hH3;have o3:=o2.same s3;have st3:=st2.trans (d7.same (s:=2) st2.wt s3);obtain⟨g1,g2,g3,g4,g5,g6⟩:=nH o3.od;have oe3:=s3 _ _ oe2;have ol3:=s3 _ _ ol2;refine⟨p,rfl,⟨_,cC.of gp⟩,forL ((t.noted++ns).map V.int) (λi σ Hx=>∃v6,σ=[↑ta,↑ev,some (.int way),some (.int nh),some (.int k),↑a2,v6,none]/\Hx=H3) ⟨_,rfl,rfl⟩ (λi σ Hx _ ⟨_,_,e⟩=>by rw[e];exact cC.of gp) ?_ ?_⟩
 ·rintro i v σ Hx hv ⟨v6,rfl,rfl⟩;obtain⟨b,hb,rfl⟩:=List.mem_map.mp (List.mem_of_getElem? hv);have hin:b∈t.there:=by
   rcases List.mem_append.mp hb with y | y
   ·exact h1 b y
   ·exact h2 b y
  exists ta,_,rfl,g1;exists a1,_,rfl,.inl (cC.of o3.o1),rfl,G.rW _;rw[Zoe,decide_eq_true hin];apply⟨_,rfl,rfl⟩
 ·rintro σ Hx ⟨v6,rfl,rfl⟩;exists ta,_,rfl,g6;apply lX (v:=.int t.c1) (cC.of o3.o6) rfl ?_;have done:∀{H4:Hp},bz Hx H4->Q (.bl true) H4:=λs4=>q _ T (st3.trans (d7.same st3.wt s4)) ⟨a1,a2,a3,a4,a5,a6,_,o3.same s4⟩;have last:(bH ((Qe (bw (vR) (bw (cZ K) ω υ) (tK (G.iC K) (aj (bw (cZ K) ω Γ) aF))) (bw (vR) (tK (G.iC K) (aj (ak 5) aF)) (bw (nR λi j=>.int (i - j)) (tK (G.iC K) (aj (jm π (tC (.str "there"))) aF)) (bw (cZ K) ω υ)))))) ξ [↑ta,↑ev,some (.int way),some (.int nh),some (.int k),↑a2,v6,some (.int t.c1)] Hx:=by
   exists ev,_,1,_,rfl,rfl,fM.of oe3,rfl;exists ev,_,2,_,rfl,rfl,fM.of oe3,rfl;apply fK (cC.of ol3) ?_;apply qM (λ_=>?_) (λy=>absurd (by rw[bx]) y);apply fK (cC.of o3.o2) ?_;exists ta,_,rfl,g1;apply fK (cC.of o3.o1) ?_;exists ev,_,1,_,rfl,rfl,fM.of oe3,rfl;ext;rw[decide_eq_true (by rw[bx,bx];show((t.noted.length:Nat):Int)=(t.there.length:Int) - (ns.length:Int);omega)];exact done (bz.refl _)
  apply qM (λy0=>?_) (λy0=>?_)
  ·apply Gn (λy=>absurd (by rw[w0 y0];rfl) y) (λ_=>?_);apply qM (λy1=>δ) (λ_=>?_);apply qM (λy2=>δ) (λ_=>?_);exact last
  ·apply qM (λy1=>?_) (λy1=>?_)
   ·apply Gn (λy=>absurd (w1 y1) y) (λ_=>?_);apply qM (λy2=>δ) (λ_=>?_);exact last
   ·apply qM (λy2=>?_) (λy2=>?_)
    ·apply fK (cC.of o3.o2) ?_;apply qM (λy=>absurd (w2 y2) (by rw[bx]at y;have y:((t.noted.length:Nat):Int)<(t.c1:Int):=y;omega)) (λ_=>?_);exact last
    ·exact last
end
section
variable {M M':Wm}{t:Ty}{w0:Int}{hs:NB}{k:Nat}
inductive Tly(M M':Wm)(t:Ty)(e:Ev):Prop
 | walk:isW e.word->M'.sw.phase="walk"->TW M' (eG t e)->Tly M M' t e
 | lost:e.word="lost"->M'.sw.phase="lost"->t.noted=t.walked->Tly M M' t e
 | cut:e.word="cut"->e.thing=some (e.notes.length:Int)->M'.sw.phase="give"->t.noted=t.walked->t.noted.Nodup->(∀b∈t.noted,b∈t.there)->(∀b∈e.notes,b∈t.there)->(M.w=0->t.c1=0)->(M.w=1->t.c1=M.hands.length)->(M.w=2->t.c1<=t.noted.length)->t.there.length=t.noted.length+e.notes.length->TG M' (Zwx t e M.cells.length)->OD (Zwx t e M.cells.length)->Tly M M' t e
 | give:(e.word="back"\/e.word="pass")->M'.sw.phase="give"->TG M' (eG t e)->Tly M M' t e
 | fin:e.word="end"->M'.sw.phase="rest"->t.noted=t.walked->t.ends=[t.back]->t.c2=t.c3->t.c0+1=3+t.c1+t.walked.length+t.c2->e.notes=[(t.walked.length:Int),(t.c1:Int),(t.c2:Int)]->Tly M M' t e
theorem Ztm{F:KB.Fd}{R:KB.Rw}{q l:List (Int×AD)}{k:Nat}(b:KB.Td F R q k l):∀x∈l,x∈q:=by
 induction b with
 | start=>exact λx hx=>nomatch hx
 | old _ _ _ ih=>exact ih
 | new b hq hn hf ih=>
  intro x hx;rcases List.mem_append.mp hx with z | z
  ·exact List.mem_append.mpr (.inl (ih x z))
  ·rw[List.mem_singleton.mp z];exact List.mem_append.mpr (.inl (List.mem_of_getElem? hq))
theorem Zq4{e:Ev}(fw:Few (fdOf M) (jx M))(kw:KW M hs k)(hk:k<=900)(tb:TB w0 M)(b:OD t)(hww:M.w=0\/M.w=1\/M.w=2)(hr:M.sw.phase="rest"->t=ty0 M)(hw:M.sw.phase="walk"->TW M t)(hg:M.sw.phase="give"->TG M t)(nl:M.sw.phase≠"lost")(r:vJ 0 [] M e M'):
  Tly M M' t e/\OD (eG t e)/\e.notes.length<=100000/\M'.cells.length=M.cells.length/\(isW e.word->t.ends=[]/\(eG t e).walked.length<=(eG t e).noted.length/\(eG t e).noted.take (eG t e).walked.length=(eG t e).walked)/\(¬ isW e.word->e.word="cut"\/e.word="lost"\/t.ends≠[]):=by
 have wk:∀{N:Wm},TW N (eG t e)->t.ends=[]/\(eG t e).walked.length<=(eG t e).noted.length/\(eG t e).noted.take (eG t e).walked.length=(eG t e).walked:=λ{N} p=>by
  refine⟨p.en,?_,?_⟩
  ·rw[p.no,List.length_append];omega
  ·rw[p.no];exact List.take_left
 have nn:∀{N:Wm},isW e.word->TW N (eG t e)->OD (eG t e)/\e.notes.length<=100000:=λ{N} h p=>by
  have bb:=p.bnd b.th;refine⟨bb,?_⟩;have h1:=bb.no;have h2:(eG t e).noted=t.noted++e.notes:=if_pos h;rw[h2,List.length_append]at h1;omega
 have Zo3:∀(l:Au) (N:Wm),(aR N l).2.cells.length=N.cells.length:=λl N=>by
  have:=congrArg List.length (rQ l N).ce;rw[bx,bx]at this;exact this
 have tri:¬ isW e.word->e.word≠"back"->OD (eG t e):=λh1 h2=>by
  obtain⟨b1,b2,b3,b4,b5,b6⟩:=b;refine⟨b1,?_,?_,b4,?_,b6⟩
  ·show(if _ then _ else _:AD).length<=900;rw[if_neg h1];exact b2
  ·show(if _ then _ else _:AD).length<=900;rw[if_neg (λz=>h1 (.inr (.inl z)))];exact b3
  ·show(if _ then _ else _:AD).length<=900;rw[if_neg h2];exact b5
 cases r with
 | begin ph=>
  have e0:=hr ph;subst e0;have p:=TW.Zxm tb ph;obtain⟨h1,h2⟩:=nn (.inl rfl) p;exact⟨.walk (.inl rfl) (by rw[M5];obtain⟨g,e⟩:=(rQ (nhL (jz M.w M.hands.length) M.hands 0) (pU M)).sw;rw[e];rfl) p,h1,h2,by rw[M5];exact Zo3 _ (pU M),λ_=>wk p,λh=>absurd (.inl rfl) h⟩
 | walk x g c ph hgr hc=>
  have p:=(hw ph).Zxk tb hgr hc;obtain⟨h1,h2⟩:=nn (.inr (.inl rfl)) p;exact⟨.walk (.inr (.inl rfl)) (by obtain⟨g',e⟩:=(rQ c.fl { M with sw:={ M.sw with grey:=g,walks:=M.sw.walks+1 } }).sw;rw[e];exact ph) p,h1,h2,Zo3 _ _,λ_=>wk p,λh=>absurd (.inr (.inl rfl)) h⟩
 | look N ph hgr nc hN=>
  have p:=(hw ph).Zxl tb hww nc hN;obtain⟨h1,h2⟩:=nn (.inr (.inr rfl)) p;refine⟨.walk (.inr (.inr rfl)) ?_ p,h1,h2,?_,λ_=>wk p,λh=>absurd (.inr (.inr rfl)) h⟩
  ·show N.sw.phase="walk";rw[hN,M5];obtain⟨g',e⟩:=(rQ (nhL (bR M) M.hands 0) M).sw;rw[e];exact ph
  ·show N.cells.length=_;rw[hN,M5];exact Zo3 _ _
 | cut q qs ph hgr cd bf hno=>
  have p:=hw ph;have pl:=QM (M:=M) (by have:=kw.cl;omega);obtain⟨l0,l1,l2⟩:=p.looks cd;have nw:t.noted=t.walked:=by rw[p.no,hgr];exact List.append_nil _
  have bb:=tri (show ¬ isW "cut" by decide) (show("cut":Str)≠"back" by decide);refine⟨.cut rfl rfl rfl nw p.nd p.th p.pl l0 l1 l2 p.ct (p.cut hgr) ?_,bb,Nat.le_trans pl.1 ε,rfl,λh=>absurd h (show ¬ isW "cut" by decide),λ_=>.inl rfl⟩;obtain⟨b1,b2,b3,b4,b5,b6⟩:=bb;refine⟨b1,b2,b3,?_,b5,λl hl=>?_⟩
  ·show(t.ends++[_]).length<=1;rw[p.en];exact Nat.le_refl _
  ·have hl:l∈t.ends++[fJ M]:=hl;rw[p.en]at hl;rw[List.mem_singleton.mp hl];exact pl.1
 | lost q qs i x c v ph hgr cd bf hx hno hc ht=>
  have p:=hw ph;have nw:t.noted=t.walked:=by rw[p.no,hgr];exact List.append_nil _
  refine⟨.lost rfl rfl nw,tri (show ¬ isW "lost" by decide) (show("lost":Str)≠"back" by decide),?_,rfl,λh=>absurd h (show ¬ isW "lost" by decide),λ_=>.inr (.inl rfl)⟩;have h1:=bf.bound;have h2:=fw.t;have h3:=Zeg bf x (Ztm bf x (List.mem_of_getElem? hx));show x.2.length<=100000;omega
 | pass ph lt hp=>
  have p:=hg ph;refine⟨.give (.inr rfl) ph (p.pass lt),tri (show ¬ isW "pass" by decide) (show("pass":Str)≠"back" by decide),Nat.zero_le _,rfl,λh=>absurd h (show ¬ isW "pass" by decide),λ_=>.inr (.inr (by rw[p.en];exact λz=>nomatch z))⟩
 | back c ph lt hc ht=>
  have p:=hg ph;have p':=p.back tb ph lt hc ht (u:=M.used - (1+c.fl.length+c.bulk));refine⟨.give (.inl rfl) ph p',p.bnd b _ (.inr (.inl rfl)) (λ_=>p'.en),by show(1:Nat)<=100000;decide,by show(M.cells.set _ _).length=_;rw[List.length_set],λh=>absurd h (show ¬ isW "back" by decide),λ_=>.inr (.inr (by rw[p.en];exact λz=>nomatch z))⟩
 | fin ph lt=>
  have p:=hg ph;obtain⟨f1,f2,f3⟩:=p.fin tb ph lt;refine⟨.fin rfl rfl p.nw f1 f2 f3 ?_,tri (show ¬ isW "end" by decide) (show("end":Str)≠"back" by decide),by show(3:Nat)<=100000;decide,rfl,λh=>absurd h (show ¬ isW "end" by decide),λ_=>.inr (.inr (by rw[p.en];exact λz=>nomatch z))⟩;show [M.sw.walks,M.sw.looks,M.sw.passes]=_;rw[p.wk,p.lk,p.ps]
 | again ph=>exact absurd ph nl
end
def Zzk(X:Cs)(H:Hp)(wo ta:AH)(way m:Int)(Q:VK):Prop:=∃T A M hs k t,WT H T/\WJ X H T 1 A M/\A.wo=wo/\HsB hs/\k<=900/\0<=way/\way<3/\KW M hs k/\TB way M/\Pn H T ta t/\OD t/\(M.sw.phase="rest"->t=ty0 M)/\(M.sw.phase="walk"->TW M t)/\(M.sw.phase="give"->TG M t)/\M.sw.phase≠"lost"/\m=M.cells.length/\
 ∀H' T' A' M' t',Kp H H' T T'->WT H' T'->WJ X H' T' 1 A' M'->A'.wo=wo->KW M' hs k->TB way M'->Pn H' T' ta t'->OD t'->(M'.sw.phase="walk"->TW M' t')->(M'.sw.phase="give"->TG M' t')->M'.cells.length=M.cells.length->Q (.bl true) H'
def Pq(X:Cs):Sp:=λvs H Q E=>∃wo ta way m,vs=[.ref wo,.ref ta,.int way,.int m]/\Zzk X H wo ta way m Q
section
variable {K:aC}{X:Cs}{rf:Rf->AH}{H H':Hp}{T T':Tg}{Q:VK}{E:XK}{n:ν}{bk ct:ν}{ta ev l wo:AH}{t t':Ty}{z:Str}{i:Int}{ns:AD}{s:Nat}{A:Wa}{M:Wm}
theorem WJ.Zzy(j:WJ X H T s A M){xs:List V}{v:Nat×Nat}(hl:H l=some (.lst xs))(ht:(T l).1≠s):WJ X H (dz T l v) s A M:=by
 have ts:∀{b:AH}{m:Nat},T b=(s,m)->dz T l v b=(s,m):=λ{b m} h=>(fc λe=>ht (by rw[<- e,h])).trans h;have tz:∀{b:AH}{o:HO},H b=some o->(∀ys,o≠.lst ys)->T b=(0,0)->dz T l v b=(0,0):=λ{b o} hb n h=>(fc λe=>by rw[e,hl]at hb;exact n _ (Option.some.inj hb).symm).trans h;obtain⟨⟨b1,b2,b3,b4,b5,⟨_,b6⟩,⟨_,b7⟩,b8⟩,⟨h1,h2,h3,h4⟩,⟨n1,n2,n3⟩,⟨s1,s2,s3,s4⟩,⟨d1,d2,d3⟩,⟨c1,c2⟩⟩:=j;refine⟨⟨ts b1,tz b6 (λ_ z=>nomatch z) b2,?_,ts b4,b5,⟨_,b6⟩,⟨_,b7⟩,b8⟩,⟨ts h1,ts h2,h3,h4⟩,⟨ts n1,n2,n3.mono λt m ⟨z1,z2⟩=>⟨tz z2 (λ_ z=>nomatch z) z1,z2⟩⟩,⟨ts s1,ts s2,s3,s4⟩,⟨d1,d2,λj p m e1 e2=>?_⟩,⟨c1,λi p c e1 e2=>?_⟩⟩
 ·rcases b7 with ⟨_,b7⟩ | ⟨_,b7⟩ | ⟨_,b7⟩<;>exact tz b7 (λ_ z=>nomatch z) b3
 ·obtain⟨x1,x2,x3,x4⟩:=d3 j p m e1 e2;exact⟨ts x1,ts x2,x3,x4⟩
 ·have e:=c2 i p c e1 e2;cases p with
  | none=>cases c with
   | none=>trivial
   | some c=>exact e.elim
  | some p=>cases c with
   | none=>exact e.elim
   | some c=>
    obtain⟨x1,x2,x3,x4⟩:=(show S8 X.C H T s i p c from e);exact(show S8 X.C H (dz T l v) s i p c from⟨ts x1,ts x2,x3,x4⟩)
theorem Zzi{H0:Hp}{T0:Tg}{le:AH}{A':Wa}{M':Wm}{o':HO}{xs:List V}(w0:WT H0 T0)(kp:∀b o,H0 b=some o->(T0 b).1≠1->H b=some o)(al:∀b o,H0 b=some o->∃o',H b=some o')(tg:∀b o,H0 b=some o->T b=T0 b)(w:WT H T)(j:WJ X H T 1 A' M')(nle:H0 le=none)(tle:(T le).1≠1)(YZ:H le=some (.lst xs))(y:Pn H0 T0 ta t):
  WT (upd H le o') (dz T le (2,9))/\WJ X (upd H le o') (dz T le (2,9)) 1 A' M'/\Pn (upd H le o') (dz T le (2,9)) ta t/\Kp H0 (upd H le o') T0 (dz T le (2,9)):=by
 have w1:WT H (dz T le (2,9)):=λb hb=>by
  rw[fc (λe=>by rw[e,YZ]at hb;cases hb)];exact w b hb
 have st:d7 2 H (upd H le o') (dz T le (2,9)) (dz T le (2,9)):=d7.upd w1 YZ (by rw[gU]);have ne:∀{b:AH}{o:HO},H0 b=some o->b≠le:=λh=>aD h nle;refine⟨st.wt,(j.Zzy YZ tle).other st ε ε,?_,⟨λb o h t0=>(aB (ne h)).trans (kp b o h δ),λb o h=>(fc (ne h)).trans (tg b o h),λb o h=>?_⟩⟩
 ·obtain⟨a1,a2,a3,a4,a5,a6,es,o⟩:=y;exact⟨a1,a2,a3,a4,a5,a6,es,o.mv (λb o h n=>(aB (ne h)).trans (kp b o h δ)) λb o h=>(fc (ne h)).trans (tg b o h)⟩
 ·obtain⟨o2,h2⟩:=al b o h;exact⟨o2,(aB (ne h)).trans h2⟩
theorem Zam{way m:Int}(Tx:rY K X)(q:Zzk X H wo ta way m Q):
  zL K (Zb0 K) (Zaz K) (PK K) (Jv K) (bZ X Zn3) ξ [↑wo,↑ta,some (.int way),some (.int m),none,none] H:=by
 obtain⟨T,A,M,hs,k,t,w,j,rfl,hb,hk,y0,y1,kw,tb,ty,b,hr,hw,hg,phn,rfl,q⟩:=q;have ok:=kw.ok hb hk;have fw:=Zp6 j ok;have hww:M.w=0\/M.w=1\/M.w=2:=by have:=tb.ww;omega
 unfold zL;apply⟨_,rfl,T,1,A,M,0,[],w,ε,j,rfl,ok,trivial,λz=>absurd z phn,λe M' r' H1 T1 A1 ev st j1 aw evn lo=>?_⟩;obtain⟨tly,b1,nl1,cl1,hW,hN⟩:=Zq4 fw kw hk tb b hww hr hw hg phn r';have kw':=kw.step r';have tb':=tb.step r';obtain⟨le,⟨nle,tle⟩,oe,YZ⟩:=evn;obtain⟨i,hi⟩:∃i,e.thing=some i:=by cases r'<;>exact⟨_,rfl⟩
 obtain⟨word,thing,notes⟩:=e;have hi:thing=some i:=hi;subst hi;have oe:H1 ev=some (.tup [.str word,.int i,.ref le]):=oe;have YZ:H1 le=some (.lst (notes.map V.int)):=YZ;have nl1:notes.length<=100000:=nl1;clear r';exists ev,ev,rfl,word,i,le,le,notes,oe,oe,YZ,YZ;exists ev,_,0,_,rfl,rfl,fM.of oe,rfl;exists ev,_,1,_,rfl,rfl,fM.of oe,rfl;exists ev,_,2,_,rfl,rfl,fM.of oe,rfl;apply Jh (cC.of YZ) λl2 UG=>?_;generalize zz:upd H1 l2 _=H2;obtain⟨s2,ol2⟩:=nwO UG zz;have t2:=st.wt _ UG;have ne2:l2≠le:=(aD YZ UG).symm;apply⟨aU ζ,λe2 Zvf=>?_⟩;generalize zz:upd H2 e2 _=H3;obtain⟨s3,oe2⟩:=nwO Zvf zz;have t3:=st.wt _ (s2.free Zvf);have ne3:e2≠le:=(aD (s2 _ _ YZ) Zvf).symm;have s13:=s2.trans s3;have Zv4:=s13 _ _ YZ;exists ev,_,2,_,rfl,rfl,fM.of (s13 _ _ oe),rfl,.inl ⟨rfl,_,cC.of Zv4⟩;apply⟨le,_,_,rfl,rfl,Zv4,by rw[bx,sizeLine_eq];omega,?_⟩;obtain⟨w4,j4,y4,kp4⟩:=Zzi (o':=.lst (notes.map V.int++[.int 9])) w (λb o h t0=>s13 _ _ (st.kp b o h t0)) (λb o h=>by
  obtain⟨o2,h2⟩:=st.al b o h;exact⟨o2,s13 _ _ h2⟩) st.tg (st.wt.same s13) (j1.same s13) nle tle Zv4 ty
 have oe4:upd H3 le (.lst (notes.map V.int++[.int 9])) e2=some (.tup [.str word,.int i,.ref l2]):=(aB ne3).trans oe2;have ol4:upd H3 le (.lst (notes.map V.int++[.int 9])) l2=some (.lst (notes.map V.int)):=(aB ne2).trans (s3 _ _ ol2);have te4:dz T1 le (2,9) e2=(0,0):=(fc ne3).trans t3;have tl4:dz T1 le (2,9) l2=(0,0):=(fc ne2).trans t2;obtain⟨dw4,ow4⟩:=j4.jb.ow;have on4:=j4.jb.on;generalize upd H3 le (.lst (notes.map V.int++[.int 9]))=H4 at w4 j4 y4 kp4 oe4 ol4 ow4 on4 ⊢;generalize dz T1 le (2,9)=T4 at w4 j4 y4 kp4 te4 tl4;have tq:TlQ H4 T4 ta e2 l2 t word i notes:=⟨w4,y4,⟨oe4,ol4⟩,by rw[te4];decide,by rw[tl4];decide⟩;apply⟨ta,e2,rfl,T4,t,l2,word,i,notes,tq,b,b1,hW,hN,λH5 T5 JR y5=>?_⟩;have tq5:=tq.stp JR y5;have j5:WJ X H5 T5 1 A1 M':=j4.other JR ε ε;have kp5:=kp4.trans (Kp.stp JR ε);have tl5:T5 l2=(0,0):=(JR.tg _ _ ol4).trans tl4;obtain⟨a1,a2,a3,a4,a5,a6,es,o5⟩:=y5;have y5:Pn H5 T5 ta (eG t ⟨word,some i,notes⟩):=⟨a1,a2,a3,a4,a5,a6,es,o5⟩;obtain⟨g1,g2,g3,g4,g5,g6⟩:=nH o5.od;obtain⟨oe5,ol5⟩:=tq5.oe;obtain⟨dw5,ow5⟩:=j5.jb.ow;rw[aw.1]at ow5;exists e2,_,0,_,rfl,rfl,fM.of oe5,rfl;apply qM (λhz=>?_) (λhz=>?_)
 ·have hz:word="lost":=hz;subst hz;have en:t.noted=t.walked/\M'.sw.phase="lost":=by
   cases tly with
   | walk h=>exact absurd h (show ¬ isW "lost" by decide)
   | lost _ h2 h3=>exact⟨h3,h2⟩
   | cut h=>exact absurd h (show ¬ ("lost":Str)="cut" by decide)
   | give h=>exact absurd h (show ¬ (("lost":Str)="back"\/("lost":Str)="pass") by decide)
   | fin h=>exact absurd h (show ¬ ("lost":Str)="end" by decide)
  exists ta,_,rfl,g2;exists ta,_,rfl,g3;apply Zgx (cC.of o5.o2) (cC.of o5.o3) ?_;rw[decide_eq_true (show(eG t ⟨"lost",some i,notes⟩).noted=(eG t ⟨"lost",some i,notes⟩).walked from en.1)];exact q H5 T5 A1 M' _ kp5 JR.wt j5 aw.1 kw' tb' y5 b1 (λz=>absurd (en.2.symm.trans z) ε) (λz=>absurd (en.2.symm.trans z) ε) cl1
 ·exists e2,_,0,_,rfl,rfl,fM.of oe5,rfl;apply qM (λhc=>?_) (λhc=>?_)
  ·have hc:word="cut":=hc;subst hc;cases tly with
   | walk h=>exact absurd h (show ¬ isW "cut" by decide)
   | lost h=>exact absurd h (show ¬ ("cut":Str)="lost" by decide)
   | give h=>exact absurd h (show ¬ (("cut":Str)="back"\/("cut":Str)="pass") by decide)
   | fin h=>exact absurd h (show ¬ ("cut":Str)="end" by decide)
   | cut _ hth ph' nw nd h1 h2 l0 l1 l2' ln tg' bt'=>
    have hth:i=(notes.length:Int):=Option.some.inj hth;subst hth;apply aH ow5 Tx.cW Tx.nWd eY ?_;apply fK (cC.of j5.jb.on) ?_;ext;have hl:A1.hs.length=M.hands.length:=by
     rw[j5.jd.lh,kw'.hl,kw.hl]
    refine⟨ta,e2,way,_,_,rfl,T5,_,l2,notes,M.cells.length,rfl,⟨tq5,tl5,b1,nw,nd,h1,h2,λz=>l0 (by rw[tb.ww];exact z),λz=>by rw[bx,hl];have:=l1 (by rw[tb.ww];exact z);show((t.c1:Nat):Int)=_;rw[this],λz=>l2' (by rw[tb.ww];exact z),ln⟩,λH6 T6 st6 y6=>?_⟩;exact q H6 T6 A1 M' _ (kp5.trans (Kp.stp st6 ε)) st6.wt (j5.other st6 ε ε) aw.1 kw' tb' y6 bt' (λz=>absurd (ph'.symm.trans z) ε) (λ_=>tg') cl1
  ·exists e2,_,0,_,rfl,rfl,fM.of oe5,rfl;apply Gn (λne=>?_) (λhe=>?_)
   ·ext;have tw:(M'.sw.phase="walk"->TW M' (eG t ⟨word,some i,notes⟩))/\(M'.sw.phase="give"->TG M' (eG t ⟨word,some i,notes⟩)):=by
     cases tly with
     | walk _ h2 h3=>exact⟨λ_=>h3,λz=>absurd (h2.symm.trans z) ε⟩
     | lost h=>exact absurd h hz
     | cut h=>exact absurd h hc
     | give _ h2 h3=>exact⟨λz=>absurd (h2.symm.trans z) ε,λ_=>h3⟩
     | fin h=>exact absurd h ne
    exact q H5 T5 A1 M' _ kp5 JR.wt j5 aw.1 kw' tb' y5 b1 tw.1 tw.2 cl1
   ·have he:word="end":=he;subst he;cases tly with
    | walk h=>exact absurd h (show ¬ isW "end" by decide)
    | lost h=>exact absurd h (show ¬ ("end":Str)="lost" by decide)
    | cut h=>exact absurd h (show ¬ ("end":Str)="cut" by decide)
    | give h=>exact absurd h (show ¬ (("end":Str)="back"\/("end":Str)="pass") by decide)
    | fin _ ph' nw f1 f2 f3 f4=>
     apply⟨ta,e2,rfl,T5,_,l2,i,notes,tq5,nw,f1,f2,f3,f4,λH6 s6=>?_⟩;exact q H6 T5 A1 M' _ (kp5.trans (Kp.stp (d7.same (s:=2) JR.wt s6) ε)) (JR.wt.same s6) (j5.same s6) aw.1 kw' tb' (y5.same s6) b1 (λz=>absurd (ph'.symm.trans z) ε) (λz=>absurd (ph'.symm.trans z) ε) cl1
end
def Zzm(X:Cs)(H:Hp)(wo dd ta:AH)(Q:VK):Prop:=∃T A M hs k t d w0,WT H T/\WJ X H T 1 A M/\A.wo=wo/\HsB hs/\k<=899/\KW M hs k/\TB w0 M/\Pn H T ta t/\OD t/\(M.sw.phase="walk"->TW M t)/\(M.sw.phase="give"->TG M t)/\H dd=some (.tup (dV d))/\okR hs d/\
 ∀H' T' A' M' t',Kp H H' T T'->WT H' T'->WJ X H' T' 1 A' M'->A'.wo=wo->KW M' hs (k+1)->TB w0 M'->Pn H' T' ta t'->OD t'->(M'.sw.phase="walk"->TW M' t')->(M'.sw.phase="give"->TG M' t')->M'.cells.length=max M.cells.length (cnt M')->Q (.bl true) H'
def Jy(X:Cs):Sp:=λvs H Q E=>∃wo dd ta,vs=[.ref wo,.ref dd,.ref ta]/\Zzm X H wo dd ta Q
section
variable {K:aC}{X:Cs}{rf:Rf->AH}{H H':Hp}{T T':Tg}{Q:VK}{E:XK}{n:ν}{bk ct:ν}{ta ev l wo dd:AH}{t t':Ty}{z:Str}{i:Int}{ns:AD}{s:Nat}{A:Wa}{M M':Wm}{w0:Int}{hs:NB}{k:Nat}
theorem Zta{d:oR}{e:Ev}(kw:KW M hs k)(tb:TB w0 M)(b:OD t)(hw:M.sw.phase="walk"->TW M t)(hg:M.sw.phase="give"->TG M t)(he:ug M d=.ok (e,M')):
  (M'.sw.phase="walk"->TW M' { t with noted:=t.noted++e.notes })/\(M'.sw.phase="give"->TG M' { t with noted:=t.noted++e.notes })/\OD { t with noted:=t.noted++e.notes }/\M'.cells.length=max M.cells.length (cnt M')/\e.notes.length<=2/\(e.notes≠[]->(e.word="put"\/e.word="given"\/e.word="sought")/\M'.sw.phase="walk"):=by
 obtain⟨N,l,vw,ln,rfl,en,l2,wd⟩:=Zt9 he;have nt:=rQ l N;have sb:=Sb.notes l N;have ph':(aR N l).2.sw.phase=M.sw.phase:=by rw[sb.ph,vw.sw]
 have tb':=tb.deed he;have buN:BU N:=BU.ce (λi=>(sb.ce i).symm) tb'.bu;have cl:(aR N l).2.cells.length=N.cells.length:=by
  have:=congrArg List.length nt.ce;rw[bx,bx]at this;exact this
 have cn:cnt (aR N l).2=cnt N:=by
  have h:=congrArg (List.countP Option.isSome) nt.ce;rw[List.countP_map,List.countP_map]at h;have e:(Option.isSome ∘ λo:Option Ce=>o.map λc=>{ c with tone:=0 })=Option.isSome:=by
   funext o
   cases o<;>rfl
  rw[e]at h;exact h
 have lz:=Wy l N;have e0:M.sw.phase≠"walk"->e.notes=[]:=λh=>by
  rw[en,Rg (by rw[vw.sw];exact h)]
 have tn:e.notes=[]->({ t with noted:=t.noted++e.notes }:Ty)=t:=λh=>by
  rw[h];show Ty.mk _ (t.noted++[]) _ _ _ _ _ _ _=t;rw[List.append_nil]
 have tw:M.sw.phase="walk"->TW (aR N l).2 { t with noted:=t.noted++e.notes }:=λph=>by
  rw[en];exact((hw ph).vw vw λx hx=>by
   obtain⟨c,hc,_⟩:=(kw.gr ph).2 x hx;exact⟨c,hc⟩).notes buN
 refine⟨λz=>tw (ph'.symm.trans z),λz=>?_,?_,by rw[cl,cn];exact ln,by rw[en];omega,λh=>⟨?_,?_⟩⟩
 ·have z':=ph'.symm.trans z;have h:=e0 (by rw[z'];decide);rw[tn h];have nn:aR N l=([],N):=Rg (by rw[vw.sw,z'];decide);rw[nn];exact(hg z').vw vw
 ·by_cases ph:M.sw.phase="walk"
  ·exact(tw ph).bnd b.th
  ·rw[tn (e0 ph)];exact b
 ·rcases wd with y | y
  ·subst y;exact absurd en h
  ·exact y
 ·by_cases ph:M.sw.phase="walk"
  ·exact ph'.trans ph
  ·exact absurd (e0 ph) h
theorem Gu(Tx:rY K X)(q:Zzm X H wo dd ta Q):
  pM K (PJ X rf) ξ [↑wo,↑dd,↑ta,none,none] H:=by
 obtain⟨T,A,M,hs,k,t,d,w0,w,j,rfl,hb,hk,kw,tb,ty,b,hw,hg,od,okr,q⟩:=q;have ok:=kw.ok hb δ;have hcl:=ok.cl;have hnl:=ok.nl;unfold pM;apply⟨_,dd,rfl,T,1,A,M,d,w,ε,j,rfl,od,kw.okD okr,hcl,λz=>by have:=ok.gl z;omega,kw.tl,δ,λr er H' sm=>?_,λe M' he H1 T1 A1 ev st j1 aw evn=>?_⟩
 ·apply q H' T A M t (Kp.stp (d7.same (s:=2) w sm) ε) (w.same sm) (j.same sm) rfl (kw.mono δ) tb (ty.same sm) b hw hg (by have:=List.countP_le_length (p:=Option.isSome) (l:=M.cells);unfold cnt;omega)
 ·obtain⟨tw',tg',b',cl',n2,hn⟩:=Zta kw tb b hw hg he;have kw':=kw.deed okr he;have tb':=tb.deed he;obtain⟨le,⟨nle,tle⟩,oe,YZ⟩:=evn;obtain⟨word,thing,notes⟩:=e;have oe:H1 ev=some (.tup [.str word,oV thing,.ref le]):=oe;have YZ:H1 le=some (.lst (notes.map V.int)):=YZ;have n2:notes.length<=2:=n2;exists ev,_,2,_,rfl,rfl,fM.of oe,rfl;apply Jh (cC.of YZ) λl2 UG=>?_;generalize zz:upd H1 l2 _=H2;obtain⟨s2,ol2⟩:=nwO UG zz;have t2:=st.wt _ UG;have ne2:l2≠le:=(aD YZ UG).symm;have Zv5:=s2 _ _ YZ;have oe2:=s2 _ _ oe;exists ev,_,2,_,rfl,rfl,fM.of oe2,rfl,.inl ⟨rfl,_,cC.of Zv5⟩;apply⟨le,_,_,rfl,rfl,Zv5,by rw[bx,sizeLine_eq];omega,?_⟩;have nev:ev≠le:=λz=>by rw[z,YZ]at oe;cases oe
  obtain⟨w4,j4,y4,kp4⟩:=Zzi (o':=.lst (notes.map V.int++[.int 9])) w (λb o h t0=>s2 _ _ (st.kp b o h t0)) (λb o h=>by
   obtain⟨o2,h2⟩:=st.al b o h;exact⟨o2,s2 _ _ h2⟩) st.tg (st.wt.same s2) (j1.same s2) nle tle Zv5 ty
  have oe4:upd H2 le (.lst (notes.map V.int++[.int 9])) ev=some (.tup [.str word,oV thing,.ref le]):=(aB nev).trans oe2;have ol4:upd H2 le (.lst (notes.map V.int++[.int 9])) l2=some (.lst (notes.map V.int)):=(aB ne2).trans ol2;generalize upd H2 le (.lst (notes.map V.int++[.int 9]))=H4 at w4 j4 y4 kp4 oe4 ol4 ⊢;generalize dz T1 le (2,9)=T4 at w4 j4 y4 kp4;have fin:∀{H5:Hp},bz H4 H5->(aN (QC ae (tC (.str "noted")) (bw (u5) (jm ae (tC (.str "noted"))) (ak 4))) (bH (bw (nR λi j=>.bl (decide (i<=j))) (tK (G.iC K) (aj (ak 4) aF)) Γ))) ξ [↑A.wo,↑dd,↑ta,↑ev,↑l2] H5:=λ{H5} s5=>by
   obtain⟨a1,a2,a3,a4,a5,a6,es,o⟩:=y4.same s5;obtain⟨g1,g2,g3,g4,g5,g6⟩:=nH o.od;have bn:=b.no;exists ta,_,rfl,g2;apply⟨a2,l2,_,_,rfl,rfl,o.o2,s5 _ _ ol4,by rw[bx,bx,sizeLine_eq];omega,λnb nnb=>?_⟩;obtain⟨st6,o6⟩:=o.Zxu (w4.same s5) (l:=t.noted++notes) nnb;rw[List.map_append]at st6 o6;have od6:upd H5 nb (.lst (t.noted.map V.int++notes.map V.int)) ta=some (.dK (tyK a1 a2 a3 a4 a5 a6)):=(aB (aD o.od nnb)).trans o.od;have ol6:upd (upd H5 nb (.lst (t.noted.map V.int++notes.map V.int))) ta (.dK (tyK a1 nb a3 a4 a5 a6)) l2=some (.lst (notes.map V.int)):=by
    have h1:=s5 _ _ ol4;rw[aB (λz=>by rw[z,o.od]at h1;cases h1),aB (aD h1 nnb)];exact h1
   exists ta,_,rfl,Zlr od6;generalize upd (upd H5 nb (.lst (t.noted.map V.int++notes.map V.int))) ta (.dK (tyK a1 nb a3 a4 a5 a6))=H6 at st6 o6 ol6 ⊢;apply fK (cC.of ol6) ?_;rw[bx];ext;rw[decide_eq_true (show((notes.length:Nat):Int)<=2 by omega)];have j5:=j4.same s5;exact q H6 _ A1 M' _ ((kp4.trans (Kp.stp (d7.same (s:=2) w4 s5) ε)).trans (Kp.stp st6 ε)) st6.wt (j5.other st6 ε ε) aw kw' tb' ⟨a1,nb,a3,a4,a5,a6,es,o6⟩ b' tw' tg' cl'
  obtain⟨dw4,ow4⟩:=j4.jb.ow;obtain⟨ds4,os4⟩:=j4.js.os;rw[aw]at ow4;apply⟨aU ζ,λp5 np5=>?_⟩;have s5:=aL np5 (.lst []);refine Zok (cC.of (s5 _ _ ol4)) (cC.of aq) ?_;generalize upd H4 p5 (.lst [])=H5 at s5 ⊢;apply qM (λhne=>?_) (λhne=>?_)
  ·obtain⟨hwd,hph⟩:=hn λz=>hne (by
    have z:notes=[]:=z;rw[z];rfl)
   exists ev,_,0,_,rfl,rfl,fM.of (s5 _ _ oe4),rfl;apply⟨aU ζ,λp6 np6=>?_⟩;have s6:=aL np6 (.tup [.str "put",.str "given",.str "sought"]);refine Zym ["put","given","sought"] aq ?_;generalize upd H5 p6 (.tup [.str "put",.str "given",.str "sought"])=H6 at s6 ⊢;have s46:=s5.trans s6;apply Gn (λy=>absurd (by simpa using hwd) y) (λ_=>?_);apply aH (s46 _ _ ow4) Tx.cW Tx.Ro bA ?_;apply aH (s46 _ _ os4) Tx.cS Tx.n2 jA ?_;apply Gn (λy=>absurd hph y) (λ_=>?_);exact fin s46
  ·exact fin s5
end
section
theorem Zq{x y z:Nat}(h:z=max x y):(if (y:Int) > (x:Int)then(y:Int)else(x:Int))=(z:Int):=by split<;>omega
theorem Zvn{a:AH}(Tx:rY K X)(q:∃ns:AD,cC K H a (ns.map V.int)/\ns.length<=63/\∀H',Q (.bl true) H'):
  Zfn K X.H X.W (jl X.H) (uF X) (qQ K) (Jy X) (Jz X) (PB K) (Pz X) (Zaw K) (Pr K) (Pq X) ξ [↑a,none,none,none,none,none,none] H:=by
 obtain⟨ns0,hS,hlen,h⟩:=q;unfold Zfn;apply⟨a,0,rfl,ns0,hS,ε,λz0=>?_⟩;ext;generalize z0 % 12=way;refine⟨a,rfl,ns0,hS,λlh hs H1 s1 nlh ho hb=>?_⟩;apply⟨a,rfl,ns0,s1.seq hS,λroom=>?_⟩;apply⟨_,rfl,λki lk w t H2 t0 t1 ew s2 nki nlk kd=>?_⟩;have s02:=s1.trans s2;have ho2:=ho.same s2;obtain⟨ts,olh,al⟩:=id ho2;have lts:=al.length;have n5:=hb.n5;apply Jh (cC.of olh) λhl0 ZA6=>?_;generalize zz:upd H2 hl0 _=H3;obtain⟨s3,g3⟩:=nwO ZA6 zz;have kd3:=kd.same s3;have ho3:=ho2.same s3;have s03:=s02.trans s3;ext;intro wo dx nwo ndx ned;have s7:bz H3 (upd (upd H3 dx (.own wo)) wo (.ins X.W dx [])):=λb o hb=>by rw[aB (aD hb nwo),aB (aD hb ndx)];exact hb
 have g7:upd (upd H3 dx (.own wo)) wo (.ins X.W dx []) wo=some (.ins X.W dx []):=aq;generalize upd (upd H3 dx (.own wo)) wo (.ins X.W dx [])=H7 at s7 g7 ⊢;have kd7:=kd3.same s7;have nkw:ki≠wo:=by
  obtain⟨⟨_,e⟩,_⟩:=kd3;exact aD e nwo
 have nlw:lk≠wo:=by
  obtain⟨_,⟨_,e⟩⟩:=kd3;rcases e with ⟨_,e⟩ | ⟨_,e⟩ | ⟨_,e⟩
  ·exact aD e nwo
  ·exact aD e nwo
  ·exact aD e nwo
 refine⟨wo,_,ki,hl0,rfl,dx,λ_=>(0,0),1,lk,w,t,ts,hs,g7,λ_ _=>rfl,ε,kd7,rfl,rfl,nkw,nlw,s7 _ _ g3,Zps lts λi x m e1 e2=>?_,δ,λH8 T8 A8 k8 t8 w8 aw8 j8=>⟨rfl,?_⟩⟩
 ·obtain⟨x',e3,z⟩:=al.get e2;rw[e1]at e3;cases e3;have:=hb.sb m (List.mem_of_getElem? e2);exact⟨s7 _ _ (s3 _ _ z),δ,δ⟩
 have s38:bz H3 H8:=λb o hb=>k8 b o (s7 _ _ hb) (aD hb nwo);have s08:bz H H8:=s03.trans s38;have ho8:=ho3.same s38;have p0:KW (UJ room hs w t) hs 0:=KW.new t0 t1;have tb0:TB (way % 3) (UJ room hs w t):=by rw[<- ew];exact TB.new
 have ph0:(UJ room hs w t).sw.phase="rest":=rfl;have cl0:(UJ room hs w t).cells.length=0:=rfl;generalize UJ room hs w t=M at j8 p0 tb0 ph0 cl0;clear k8 t8 s7 g7 kd7 kd3;apply⟨_,rfl,T8,A8,M,w8,j8,aw8,δ,λHf Tf tf stf sf yf=>?_⟩;have jf:WJ X Hf Tf 1 A8 M:=j8.other stf ε ε;have wf:=stf.wt;have b0:OD (ty0 M):=by
  have e0:M.cells=[]:=List.length_eq_zero_iff.mp cl0;have e1:(ty0 M).there=[]:=by show nJ M=[];unfold nJ;rw[e0];rfl
  exact⟨by rw[e1];decide,Nat.zero_le _,Nat.zero_le _,Nat.zero_le _,Nat.zero_le _,λl hl=>nomatch hl⟩
 apply⟨a,lh,rfl,ns0,hs,(s08.trans sf).seq hS,hlen,ho8.same sf,hb,λlr H9 s9 rl=>?_⟩;obtain⟨_,nlr,vs,olr,lvs,rows⟩:=rl;have rk:∀v∈vs,v=.non\/∃t d,v=.ref t/\Tf t=(0,0)/\H9 t=some (.tup (dV d))/\okR hs d:=λv hv=>by
  rcases rows v hv with z | ⟨t,d,e,f,o,k⟩
  ·exact .inl z
  ·exact .inr ⟨t,d,e,wf _ f,o,k⟩
 refine⟨lr,rfl,⟨_,cC.of olr⟩,forL vs (λi σ Hx=>∃T A M ta t m v6,σ=[↑a,some (.int way),↑lh,↑wo,↑ta,some (.int m),v6]/\WT Hx T/\WJ X Hx T 1 A M/\A.wo=wo/\KW M hs i/\TB (way % 3) M/\Pn Hx T ta t/\OD t/\(M.sw.phase="walk"->TW M t)/\(M.sw.phase="give"->TG M t)/\m=(M.cells.length:Int)/\Hx lr=some (.lst vs)/\T lr=(0,0)/\∀v∈vs,v=.non\/∃t d,v=.ref t/\T t=(0,0)/\Hx t=some (.tup (dV d))/\okR hs d) ⟨Tf,A8,M,_,_,_,_,rfl,wf.same s9,jf.same s9,aw8,p0,tb0,yf.same s9,b0,λz=>absurd (ph0.symm.trans z) ε,λz=>absurd (ph0.symm.trans z) ε,by rw[cl0];rfl,olr,wf _ nlr,rk⟩ (λ_ _ _ _ ⟨_,_,_,_,_,_,_,_,_,_,_,_,_,_,_,_,_,_,z,_⟩=>cC.of z) ?_ ?_⟩
 ·rintro i x σ Hx hi ⟨T,A,M,ta,t,m,v6,rfl,w,j,aw,p,tb,y,b,tw,tg,rfl,ol,tl,rk⟩;have hil:=(fH hi).1;obtain⟨dw,ow⟩:=j.jb.ow;obtain⟨ds,os⟩:=j.js.os;rw[aw]at ow;have hcM:=(p.ok hb δ).cl;have kp:∀{H':Hp}{T':Tg},Kp Hx H' T T'->H' lr=some (.lst vs)/\T' lr=(0,0)/\∀v∈vs,v=.non\/∃t d,v=.ref t/\T' t=(0,0)/\H' t=some (.tup (dV d))/\okR hs d:=λ{H' T'} k=>by
   refine⟨k.k _ _ ol (by rw[tl]),(k.tg _ _ ol).trans tl,λv hv=>?_⟩;rcases rk v hv with z | ⟨t,d,e,f,o,kk⟩
   ·exact .inl z
   ·exact .inr ⟨t,d,e,(k.tg _ _ o).trans f,k.k _ _ o (by rw[f]),kk⟩
  have r0:=Int.emod_nonneg way (show(3:Int)≠0 by decide);have r1:=Int.emod_lt_of_pos way (show(0:Int)<3 by decide);apply aH ow Tx.cW Tx.Ro bA ?_;apply aH os Tx.cS Tx.n2 jA ?_;apply qM (λ_=>?_) (λphl=>?_)
  ·apply h _
  ·rcases rk x (List.mem_of_getElem? hi)with rfl | ⟨td,d,rfl,tt,ot,od⟩
   ·apply aH ow Tx.cW Tx.Ro bA ?_;apply aH os Tx.cS Tx.n2 jA ?_;apply qM (λphr=>?_) (λphr=>?_)
    ·apply⟨_,rfl,T,A,M,w,j,aw,hcM,λHg Tg' tg2 stg sg yg=>?_⟩;have jg:WJ X Hg Tg' 1 A M:=j.other stg ε ε;have kg:Kp Hx Hg T Tg':=Kp.stp stg ε;have bg:OD (ty0 M):=by
      refine⟨?_,Nat.zero_le _,Nat.zero_le _,Nat.zero_le _,Nat.zero_le _,λl hl=>nomatch hl⟩;show(nJ M).length<=900;unfold nJ;exact Nat.le_trans (List.length_filterMap_le _ _) hcM
     apply⟨_,_,_,_,rfl,Tg',A,M,hs,i,ty0 M,stg.wt,jg,aw,hb,δ,r0,r1,p,tb,yg,bg,λ_=>rfl,λz=>absurd (phr.symm.trans z) ε,λz=>absurd (phr.symm.trans z) ε,phl,rfl,λH' T' A' M' t' k' w' j' aw' p' tb' y' b' tw' tg' cl'=>?_⟩;obtain⟨dw',ow'⟩:=j'.jb.ow;obtain⟨dh',oh'⟩:=j'.jh.oh;rw[aw']at ow';have hc':=(p'.ok hb δ).cl;apply aH ow' Tx.cW Tx.M6 bF ?_;exists A'.hp,_,_,rfl,oh',nZ;apply⟨_,rfl,A'.ca,M'.room,M'.used,M'.born,_,j'.hpO,by rw[bx,j'.jc.lc];omega,λlt nlt=>?_⟩;have sl:=aL nlt (.lst ((DG (A'.cs.map pV)).map V.int));apply fK (cC.of aq) ?_;rw[bx,O4 j'];generalize upd _ lt (.lst ((DG (A'.cs.map pV)).map V.int))=Hz at sl ⊢;ext;obtain⟨k1,k2,k3⟩:=kp ((kg.trans k').trans (Kp.stp (d7.same (s:=2) w' sl) ε));refine⟨T',A',M',_,t',_,_,rfl,w'.same sl,j'.same sl,aw',p'.mono δ,tb',y'.same sl,b',tw',tg',?_,k1,k2,k3⟩;have:=List.countP_le_length (p:=Option.isSome) (l:=M'.cells);have e9:M'.cells.length=max M.cells.length (cnt M'):=by unfold cnt;omega
     rw[Zq e9]
    ·apply⟨_,_,_,_,rfl,T,A,M,hs,i,t,w,j,aw,hb,δ,r0,r1,p,tb,y,b,λz=>absurd z phr,tw,tg,phl,rfl,λH' T' A' M' t' k' w' j' aw' p' tb' y' b' tw' tg' cl'=>?_⟩;obtain⟨dw',ow'⟩:=j'.jb.ow;obtain⟨dh',oh'⟩:=j'.jh.oh;rw[aw']at ow';have hc':=(p'.ok hb δ).cl;apply aH ow' Tx.cW Tx.M6 bF ?_;exists A'.hp,_,_,rfl,oh',nZ;apply⟨_,rfl,A'.ca,M'.room,M'.used,M'.born,_,j'.hpO,by rw[bx,j'.jc.lc];omega,λlt nlt=>?_⟩;have sl:=aL nlt (.lst ((DG (A'.cs.map pV)).map V.int));apply fK (cC.of aq) ?_;rw[bx,O4 j'];generalize upd _ lt (.lst ((DG (A'.cs.map pV)).map V.int))=Hz at sl ⊢;ext;obtain⟨k1,k2,k3⟩:=kp (k'.trans (Kp.stp (d7.same (s:=2) w' sl) ε));refine⟨T',A',M',_,t',_,_,rfl,w'.same sl,j'.same sl,aw',p'.mono δ,tb',y'.same sl,b',tw',tg',?_,k1,k2,k3⟩;have:=List.countP_le_length (p:=Option.isSome) (l:=M'.cells);have e9:M'.cells.length=max M.cells.length (cnt M'):=by unfold cnt;omega
     rw[Zq e9]
   ·apply⟨_,td,_,rfl,T,A,M,hs,i,t,d,way % 3,w,j,aw,hb,δ,p,tb,y,b,tw,tg,ot,od,λH' T' A' M' t' k' w' j' aw' p' tb' y' b' tw' tg' cl'=>?_⟩;obtain⟨dw',ow'⟩:=j'.jb.ow;obtain⟨dh',oh'⟩:=j'.jh.oh;rw[aw']at ow';have hc':=(p'.ok hb δ).cl;apply aH ow' Tx.cW Tx.M6 bF ?_;exists A'.hp,_,_,rfl,oh',nZ;apply⟨_,rfl,A'.ca,M'.room,M'.used,M'.born,_,j'.hpO,by rw[bx,j'.jc.lc];omega,λlt nlt=>?_⟩;have sl:=aL nlt (.lst ((DG (A'.cs.map pV)).map V.int));apply fK (cC.of aq) ?_;rw[bx,O4 j'];generalize upd _ lt (.lst ((DG (A'.cs.map pV)).map V.int))=Hz at sl ⊢;ext;obtain⟨k1,k2,k3⟩:=kp (k'.trans (Kp.stp (d7.same (s:=2) w' sl) ε));refine⟨T',A',M',_,t',_,_,rfl,w'.same sl,j'.same sl,aw',p',tb',y'.same sl,b',tw',tg',?_,k1,k2,k3⟩;rw[Zq cl']
 ·rintro σ Hx ⟨T,A,M,ta,t,m,v6,rfl,w,j,aw,p,tb,y,b,tw,tg,rfl,ol,tl,rk⟩;apply h _
end
def top(i:Nat):Stmt:=PySem.Challenge.pw_greywalk_k33_a_round_told_up.main.body.getD i (.Pass ⟨0,0,0,0⟩)
abbrev tV:Stmt:=inClass (top 8) 0
abbrev zB:Stmt:=inClass (top 8) 1
abbrev rC:Stmt:=inClass (top 8) 2
abbrev tR:Stmt:=inClass (top 9) 0
abbrev vZ:Stmt:=inClass (top 9) 1
abbrev Fz:Stmt:=inClass (top 9) 2
abbrev Cd:Stmt:=inClass (top 9) 3
abbrev Ca:Stmt:=inClass (top 9) 4
abbrev zA:Stmt:=inClass (top 9) 5
abbrev Kg:Stmt:=top 10
abbrev Fy:Stmt:=top 11
abbrev J4:Stmt:=top 13
abbrev Qw:Stmt:=top 14
abbrev tU:Stmt:=inClass (top 16) 0
abbrev pJ:Stmt:=inClass (top 17) 0
abbrev q8:Stmt:=inClass (top 18) 0
abbrev Zfi:Stmt:=top 19
abbrev Bw:Stmt:=top 20
abbrev Bt:Stmt:=top 21
abbrev Bu:Stmt:=top 22
abbrev za:Stmt:=top 23
abbrev Yw:Stmt:=top 24
abbrev Zfh:Stmt:=top 25
abbrev Fv:Stmt:=top 26
abbrev Zfj:Stmt:=top 27
abbrev Yv:Stmt:=top 28
abbrev J3:Stmt:=top 29
abbrev yZ:Stmt:=top 31
abbrev uQ:Stmt:=top 32
abbrev uO:Stmt:=top 33
abbrev Zff:Stmt:=top 34
abbrev xg:Stmt:=top 35
abbrev Zma:Stmt:=top 36
abbrev zb:Stmt:=top 37
abbrev Fw:Stmt:=top 38
abbrev yW:Stmt:=top 39
abbrev uP:Stmt:=top 40
abbrev yX:Stmt:=top 41
abbrev s_end:Stmt:=top 42
abbrev qZ:Stmt:=top 43
abbrev Zfg:Stmt:=top 45
abbrev QB:Stmt:=top 49
abbrev pK:Stmt:=inClass (top 50) 2
abbrev oU:Stmt:=inClass (top 50) 3
abbrev tO:Stmt:=inClass (top 50) 4
abbrev rA:Stmt:=inClass (top 51) 2
abbrev rB:Stmt:=inClass (top 52) 2
abbrev rz:Stmt:=inClass (top 53) 2
abbrev zz:Stmt:=inClass (top 53) 3
abbrev tQ:Stmt:=inClass (top 54) 0
abbrev Ft:Stmt:=top 56
abbrev Kf:Stmt:=top 57
abbrev Bv:Stmt:=top 58
abbrev wY:Stmt:=top 59
abbrev wZ:Stmt:=top 60
abbrev Ka:Stmt:=top 61
abbrev Qz:Stmt:=top 62
abbrev Qy:Stmt:=top 63
abbrev Ke:Stmt:=top 64
abbrev Kd:Stmt:=top 65
abbrev Kc:Stmt:=top 66
abbrev Fx:Stmt:=top 67
abbrev J8:Stmt:=top 68
abbrev J9:Stmt:=top 69
abbrev J7:Stmt:=top 70
abbrev w6:Stmt:=top 71
abbrev Zut:Stmt:=top 73
abbrev BZ:Stmt:=top 75
abbrev BW:Stmt:=top 76
abbrev Bx:Stmt:=top 77
abbrev zp:Stmt:=top 78
abbrev BK:Stmt:=top 79
abbrev BR:Stmt:=top 80
abbrev BL:Stmt:=top 81
abbrev BP:Stmt:=top 82
abbrev BX:Stmt:=top 83
abbrev zy:Stmt:=top 84
abbrev zm:Stmt:=top 85
abbrev BJ:Stmt:=top 86
abbrev xj:Stmt:=top 87
abbrev zx:Stmt:=top 88
abbrev BV:Stmt:=top 89
abbrev zq:Stmt:=top 90
abbrev zj:Stmt:=top 91
abbrev xq:Stmt:=top 92
abbrev xm:Stmt:=top 93
abbrev By:Stmt:=top 94
abbrev qd:Stmt:=top 95
abbrev Qx:Stmt:=top 96
structure Hh(P:AL)(w:AN)(K:aC)(mg:As)(base:Heap)(n:Nat)(f:AH)(fd:AK)(ps:AG)(sp:Sp):Prop where
 g:vP P w K mg base (G.S9 P w) n f fd ps sp
 b:Binds K fd ps []
 k:W.keepIn K (.ref f)=true
theorem hh{P:AL}{w:AN}{K:aC}{mg:As}{base:Heap}{n:Nat}{f:AH}{fd:AK}{ps:AG}{sp:Sp}(g:vP P w K mg base (G.S9 P w) n f fd ps sp)(b:Binds K fd ps [])(k:W.keepIn K (.ref f)=true):ι n f fd ps sp:=⟨g,b,k⟩
abbrev lJ(P:AL)(w:AN)(K:aC)(mg:As)(base:Heap)(n:Nat)(f:AH)(fd:AK)(ps:AG)(sp:Sp):Prop:=vP P w K mg base (G.S9 P w) n f fd ps sp
theorem iH{X:Cx}{n k:Nat}{f:AH}{fd:AK}{ps:AG}{sp:Sp}{x:Str}{e:AM}{es:AF}{t:TA}{p pos:Pos}(g0:Hh X.prog X.w X.K X.mg X.base n f fd ps sp)(hr:Room k X.A)(hm:X.mg x=↑f)(ha:PA X (e::es) t)(hn:n<=k:=by decide)(hg:X.env.kindOf x=some .globalImplicit:=by rfl)(hdb:(x == ("__debug__":Str))=false:=by decide)(he:starEach (e::es) X.env=(false,eval e X.env)::starEach es X.env:=by rfl)(hpl:(backTo pos (starEach es X.env)).any (·.1)=false:=by rfl):PE X (.Call (.Name x p) (e::es) [] pos) (aX sp [] E0 t):=wu g0.g (hr.mono hn) hg hm g0.k g0.b .nil G.fV ha hdb he hpl
theorem dg{N P:AG}{sc:Scope}(a:sc.kind=.function:=by rfl)(b:sc.isCoroutine=false:=by rfl)(c:sc.isGenerator=false:=by rfl)(d:N.Nodup:=by decide +kernel)(e:N.take P.length=P:=by rfl)(f:∀x∈P,sc.names.lookup x=some .local\/sc.names.lookup x=some .cell:=by decide +kernel)(g:∀y∈sc.names,y.2≠.free:=by decide +kernel):aP N P sc:=⟨a,b,c,d,e,f,g⟩
structure Txt(w:AN)(K:aC)(mg:As)(bB aY lQ bK fD dU fG gq kE fQ aJ aV bU bC dH gb dO dF iB j9 jt jr fB iK eX nG pq dG cL cY yr jH jG eV iU sW yq gP vC sV nF gO cU cR yo gB Fe iV lO gM cT iT Fb bV yp oA bQ bW cM dM dN dJ gQ dD eE jV jq gw fY ie jD jC iu ir ig fL gY gZ gW gA VD gj d9 iy iZ jL jO jM jN jQ jj iY jK gD ji jP je iW gG gF jJ dR:AH):Prop where
 Wo:G.Tab K w mg "STEPS" [("rest",cU),("walk",cR),("give",cT),("lost",bV)]
 Wq:G.Tab K w mg "DEEDS" [("make",ie),("get",jD),("put",jC),("copy",iu),("drop",ir),("give",ig),("write",fL),("read",gY),("name",gZ),("seek",gW)]
 dB:Fl K bB
 Znx:mg "Cell"=↑bB
 O9:Mk K bB dH
 dZ:bL K bB "birth"
 nW:bL K bB "bulk"
 mz:bL K bB "tone"
 lC:bL K bB "load"
 fW:bL K bB "fields"
 Ph:G.EqD K bB
 cP:Fl K aY
 Znt:mg "Heap"=↑aY
 O7:Mk K aY dF
 nU:bL K aY "room"
 bT:bL K aY "cells"
 jo:bL K aY "used"
 mq:bL K aY "born"
 Zj0:Fl K lQ
 Znu:mg "Hand"=↑lQ
 O8:Mk K lQ dG
 wD:bL K lQ "name"
 uz:bL K lQ "slots"
 Sq:Fl K bK
 WM:mg "Sweeper"=↑bK
 Ah:Mk K bK cL
 pD:bL K bK "sense"
 pF:bL K bK "phase"
 qK:bL K bK "grey"
 oM:bL K bK "looked"
 qH:bL K bK "turn"
 ux:bL K bK "at"
 qI:bL K bK "stop"
 pC:bL K bK "walks"
 pG:bL K bK "looks"
 oK:bL K bK "passes"
 qJ:bL K bK "loss"
 Zdw:Fl K fD
 Zii:mg "World"=↑fD
 Ih:Mk K fD cY
 uw:bL K fD "heap"
 uv:bL K fD "kind"
 sO:bL K fD "hands"
 sJ:bL K fD "names"
 pB:bL K fD "sweeper"
 Dn:Fl K dU
 Zij:mg "First"=↑dU
 Wz:G.Mk0 K dU
 Jr:Fl K fG
 Znw:mg "Each"=↑fG
 Zcn:G.Mk0 K fG
 Jq:Fl K gq
 Zns:mg "Last"=↑gq
 Zcm:G.Mk0 K gq
 Ziz:Fl K kE
 Zr:mg "Kind"=↑kE
 DP:Mk K kE dD
 qL:bL K kE "looking"
 uy:bL K kE "tells"
 Np:mg "GreyError"=↑fQ
 Nq:mg "EmptySlot"=↑aJ
 WQ:mg "NoField"=↑aV
 Znv:mg "Full"=↑bU
 Zcq:mg "NoName"=↑bC
 vW:G.Zpw K aJ
 Xu:G.Zpw K bU
 Dy:G.Zpw K aV
 GF:G.Zpw K bC
 kJ:W.exmOne K (.ref aJ) (.ref fQ)=some true
 lR:W.exmOne K (.ref aV) (.ref fQ)=some true
 oO:W.exmOne K (.ref bU) (.ref fQ)=some true
 mU:W.exmOne K (.ref bC) (.ref fQ)=some true
 yH:Meth K fG "at_begin" bQ
 yc:Meth K fG "stays" cM
 vh:Meth K dU "next_look" bW
 vg:Meth K dU "stays" cM
 yG:Meth K gq "at_begin" bQ
 K9:Meth K bB "__init__" dH
 sU:Meth K bB "units" gb
 wI:Meth K bB "has_field" dO
 K7:Meth K aY "__init__" dF
 Ij:Meth K aY "make" iB
 M7:Meth K aY "lay" j9
 Il:Meth K aY "back" jt
 Ik:Meth K aY "free" jr
 sS:Meth K aY "there" fB
 rT:mg "cell_at"=↑iK
 mO:mg "birth_at"=↑eX
 WL:mg "reached"=↑nG
 Rt:mg "onward"=↑pq
 K8:Meth K lQ "__init__" dG
 Eg:Meth K bK "__init__" cL
 Ii:Meth K fD "__init__" cY
 Znp:mg "held"=↑yr
 M9:mg "births_at"=↑jH
 M8:mg "looked_at"=↑jG
 nY:mg "has_sense"=↑eV
 Io:mg "is_walking"=↑iU
 Zih:mg "begin"=↑sW
 Zno:mg "note"=↑yq
 rR:mg "note_all"=↑gP
 Zgg:mg "gone"=↑vC
 Zig:mg "roots"=↑sV
 WK:mg "root_of"=↑nF
 Aj:mg "note_hands"=↑gO
 Rr:mg "step_at_rest"=↑cU
 Rp:mg "step_in_walk"=↑cR
 Znm:mg "walk"=↑yo
 Eu:mg "look_or_cut"=↑gB
 Ztx:mg "cut"=↑Fe
 Ir:mg "first_loss"=↑iV
 Ru:mg "given_up"=↑lO
 Ai:mg "told_again"=↑gM
 Rq:mg "step_in_give"=↑cT
 Im:mg "pass_place"=↑iT
 Ztw:mg "end"=↑Fb
 La:mg "step_when_lost"=↑bV
 Znn:mg "step"=↑yp
 Rv:mg "all_of"=↑oA
 Eh:Meth K fG "at_begin" bQ
 Df:Meth K dU "next_look" bW
 K5:Meth K fG "stays" cM
 wG:Meth K dU "at_begin" dM
 wH:Meth K fG "next_look" dN
 wF:Meth K gq "next_look" dJ
 xZ:Meth K gq "stays" gQ
 K6:Meth K kE "__init__" dD
 j6:mg "slots_of"=↑eE
 yI:mg "cell_in"=↑jV
 Dg:mg "fields_in"=↑jq
 Es:mg "told_as_old"=↑gw
 yd:mg "told_as_new"=↑fY
 Zk8:mg "do_make"=↑ie
 Znr:mg "do_get"=↑jD
 Znq:mg "do_put"=↑jC
 Zkb:mg "do_copy"=↑iu
 Zka:mg "do_drop"=↑ir
 Zk9:mg "do_give"=↑ig
 Zgh:mg "do_write"=↑fL
 Zk6:mg "do_read"=↑gY
 Zk7:mg "do_name"=↑gZ
 Zk5:mg "do_seek"=↑gW
 Et:mg "place_named"=↑gA
 Zy8:mg "do"=↑VD
 mC:mg "_law_cell"=↑gj
 cX:mg "_law_draw"=↑d9
 wJ:mg "_law_word"=↑iy
 Iw:mg "_law_hands"=↑iZ
 Ng:mg "_law_room"=↑jL
 Nj:mg "_law_kind"=↑jO
 Nh:mg "_law_made"=↑jM
 Ni:mg "_law_load"=↑jN
 Nm:mg "_law_deed"=↑jQ
 IK:mg "_law_deeds"=↑jj
 Iv:mg "_law_start"=↑iY
 Nf:mg "_law_rows"=↑jK
 ye:mg "_law_number"=↑gD
 Iz:mg "_law_event"=↑ji
 Nk:mg "_law_hand"=↑jP
 Ak:mg "_law_fresh"=↑je
 Iu:mg "_law_tells"=↑iW
 Ey:mg "_law_at_cut"=↑gG
 Ew:mg "_law_at_end"=↑gF
 Nb:mg "_law_step"=↑jJ
 wK:mg "_law_deed_noted"=↑dR
 Xr:mg "bool"=none
 pX:mg "enumerate"=none
 Zi3:mg "int"=none
 lg:mg "isinstance"=none
 iQ:mg "len"=none
 uK:mg "list"=none
 Zi2:mg "max"=none
 uq:mg "range"=none
 Zi1:mg "set"=none
 Zi0:mg "str"=none
 OJ:mg "tuple"=none
 Zu3:G.GC mg "NEW" (.int 2)
 Zu2:G.GC mg "OLD" (.int 1)
abbrev uf:AG:=["self","birth","many","bulk","tone"]
abbrev rP:AG:=["self","field"]
abbrev ud:AG:=["self","room"]
abbrev CT:AG:=["self","many","bulk","tone"]
abbrev Gh:AG:=["self","cell"]
abbrev CV:AG:=["self","place"]
abbrev pY:AG:=["heap","place"]
abbrev lM:AG:=["heap","place"]
abbrev Ku:AG:=["heap","rows"]
abbrev QS:AG:=["heap","places","way"]
abbrev ue:AG:=["self","name","many"]
abbrev rK:AG:=["self","room","kind","hands"]
abbrev Cu:AG:=["heap","places"]
abbrev Cr:AG:=["world","hand"]
abbrev mj:AG:=["world","cell"]
abbrev Zfv:AG:=["world","place"]
abbrev pN:AG:=["world","places"]
abbrev YS:AG:=["world","place","birth"]
abbrev Ks:AG:=["world","place","birth"]
abbrev ur:AG:=["world","hands"]
abbrev pO:AG:=["self","hands"]
abbrev oZ:AG:=["self","looked","hands"]
abbrev rN:AG:=["self","hands"]
abbrev rO:AG:=["self","looked","hands"]
abbrev rM:AG:=["self","looked","hands"]
abbrev uc:AG:=["self","looking","tells"]
abbrev jZ:AG:=["world","hand"]
abbrev uJ:AG:=["world","hand","slot"]
abbrev wA:AG:=["world","hand","slot","field"]
abbrev xU:AG:=["world","place"]
abbrev sH:AG:=["world","hand","place"]
abbrev Kz:AG:=["world","deed"]
abbrev QV:AG:=["world","deed"]
abbrev QT:AG:=["world","deed"]
abbrev KH:AG:=["world","deed"]
abbrev KD:AG:=["world","deed"]
abbrev KC:AG:=["world","deed"]
abbrev Gg:AG:=["world","deed"]
abbrev Kw:AG:=["world","deed"]
abbrev Ky:AG:=["world","deed"]
abbrev Kv:AG:=["world","deed"]
abbrev xV:AG:=["world","word"]
abbrev Zuz:AG:=["world","deed"]
abbrev pZ:AG:=["_law_script","_law_k"]
abbrev lB:AG:=["_law_cell_here","_law_prime","_law_many"]
abbrev sY:AG:=["_law_cell_here","_law_w"]
abbrev z9:AG:=["_law_script"]
abbrev Cy:AG:=["_law_script"]
abbrev CJ:AG:=["_law_number_here"]
abbrev Cz:AG:=["_law_n","_law_h","_law_s"]
abbrev CG:AG:=["_law_n"]
abbrev CQ:AG:=["_law_n","_law_hands_here","_law_seed"]
abbrev Ac:AG:=["_law_n","_law_hands_here","_law_seed"]
abbrev z8:AG:=["_law_hands_here","_law_cell_here","_law_seed"]
abbrev Cw:AG:=["_law_script","_law_hands_here"]
abbrev xW:AG:=["_law_found"]
abbrev Ab:AG:=["_law_found","_law_due"]
abbrev CP:AG:=["_law_world","_law_deed_here"]
abbrev Aa:AG:=["_law_world"]
abbrev z7:AG:=["_law_tally","_law_event_here"]
abbrev xY:AG:=["_law_tally","_law_event_here","_law_way","_law_hands_here","_law_most"]
abbrev xX:AG:=["_law_tally","_law_event_here"]
abbrev Cv:AG:=["_law_world","_law_tally","_law_way","_law_most"]
abbrev qC:AG:=["_law_world","_law_row","_law_tally"]
theorem J2:aP ["self","birth","many","bulk","tone"] uf (aG tV):=dg
theorem Uh:aP ["self"] ["self"] (aG zB):=dg
theorem HB:aP ["self","field"] rP (aG rC):=dg
theorem J0:aP ["self","room"] ud (aG tR):=dg
theorem Ys:aP ["self","many","bulk","tone","cell"] CT (aG vZ):=dg
theorem Zbp:aP ["self","cell","place"] Gh (aG Fz):=dg
theorem Yu:aP ["self","place","cell"] CV (aG Cd):=dg
theorem Yt:aP ["self"] ["self"] (aG Ca):=dg
theorem Ug:aP ["self"] ["self"] (aG zA):=dg
theorem Zfd:aP ["heap","place"] pY (aG Kg):=dg
theorem Zbo:aP ["heap","place","cell"] lM (aG Fy):=dg
theorem Zf4:aP ["heap","rows","queue","number","row","listed","taken","place","way"] Ku (aG J4):=dg
theorem Zjh:aP ["heap","places","way"] QS (aG Qw):=dg
theorem J1:aP ["self","name","many"] ue (aG tU):=dg
theorem Eb:aP ["self"] ["self"] (aG pJ):=dg
theorem Ht:aP ["self","room","kind","hands"] rK (aG q8):=dg
theorem Zqf:aP ["world"] ["world"] (aG Zfi):=dg
theorem Yg:aP ["heap","places"] Cu (aG Bw):=dg
theorem Yc:aP ["world","hand"] Cr (aG Bt):=dg
theorem Yd:aP ["world","cell"] mj (aG Bu):=dg
theorem TV:aP ["world"] ["world"] (aG za):=dg
theorem Zm7:aP ["world","sweeper"] ["world"] (aG Yw):=dg
theorem Zqe:aP ["world","place","sweeper","cell"] Zfv (aG Zfh):=dg
theorem Zbl:aP ["world","places","births","place","birth"] pN (aG Fv):=dg
theorem Zqg:aP ["world","place","birth","cell"] YS (aG Zfj):=dg
theorem Zm6:aP ["world"] ["world"] (aG Yv):=dg
theorem Zf3:aP ["world","place","birth"] Ks (aG J3):=dg
theorem TQ:aP ["world","hands","noted","number","hand"] ur (aG yZ):=dg
theorem Oi:aP ["world","noted"] ["world"] (aG uQ):=dg
theorem Og:aP ["world"] ["world"] (aG uO):=dg
theorem Zqc:aP ["world","sweeper","cell"] ["world"] (aG Zff):=dg
theorem Qq:aP ["world","sweeper","looking","hands","noted"] ["world"] (aG xg):=dg
theorem Zus:aP ["world","sweeper","loss","births"] ["world"] (aG Zma):=dg
theorem TX:aP ["world","place","way","cell"] ["world"] (aG zb):=dg
theorem Zbm:aP ["world","heap"] ["world"] (aG Fw):=dg
theorem TF:aP ["event"] ["event"] (aG yW):=dg
theorem Oh:aP ["world"] ["world"] (aG uP):=dg
theorem TJ:aP ["world","sweeper","place","cell"] ["world"] (aG yX):=dg
theorem Zur:aP ["world","sweeper"] ["world"] (aG s_end):=dg
theorem Hs:aP ["world"] ["world"] (aG qZ):=dg
theorem Zqd:aP ["world","act"] ["world"] (aG Zfg):=dg
theorem Zjk:aP ["hands"] ["hands"] (aG QB):=dg
theorem Ec:aP ["self","hands"] pO (aG pK):=dg
theorem Bs:aP ["self","looked","hands"] oZ (aG oU):=dg
theorem JX:aP ["self"] ["self"] (aG tO):=dg
theorem Hv:aP ["self","hands"] rN (aG rA):=dg
theorem Hw:aP ["self","looked","hands","hand"] rO (aG rB):=dg
theorem Hu:aP ["self","looked","hands"] rM (aG rz):=dg
theorem Ue:aP ["self"] ["self"] (aG zz):=dg
theorem JZ:aP ["self","looking","tells"] uc (aG tQ):=dg
theorem Zbk:aP ["world","hand"] jZ (aG Ft):=dg
theorem Zfc:aP ["world","hand","slot","cell"] uJ (aG Kf):=dg
theorem Ye:aP ["world","hand","slot","field","cell"] wA (aG Bv):=dg
theorem Qn:aP ["world","place"] xU (aG wY):=dg
theorem Qo:aP ["world","hand","place"] sH (aG wZ):=dg
theorem Zf8:aP ["world","deed","slots","many","bulk","place"] Kz (aG Ka):=dg
theorem Zjj:aP ["world","deed","hand","source","field","place"] QV (aG Qz):=dg
theorem Zji:aP ["world","deed","hand","field","fields","old","new","noted"] QT (aG Qy):=dg
theorem Zfb:aP ["world","deed","slots","place"] KH (aG Ke):=dg
theorem Zfa:aP ["world","deed","slots","place"] KD (aG Kd):=dg
theorem Zf9:aP ["world","deed","giver","taker","place","noted"] KC (aG Kc):=dg
theorem Zbn:aP ["world","deed","cell","before"] Gg (aG Fx):=dg
theorem Zf6:aP ["world","deed","cell"] Kw (aG J8):=dg
theorem Zf7:aP ["world","deed","hand","slot","birth"] Ky (aG J9):=dg
theorem Zf5:aP ["world","deed","place","noted"] Kv (aG J7):=dg
theorem Qp:aP ["world","word","place","birth"] xV (aG w6):=dg
theorem Zxw:aP ["world","deed","act"] Zuz (aG Zut):=dg
theorem Yr:aP ["_law_script","_law_k"] pZ (aG BZ):=dg
theorem Yp:aP ["_law_cell_here","_law_prime","_law_many"] lB (aG BW):=dg
theorem Yh:aP ["_law_cell_here","_law_w","_law_letters","_law_size","_law_at","_law_rest","_law_sign"] sY (aG Bx):=dg
theorem Ua:aP ["_law_script","_law_cell_here","_law_hands_here","_law_h","_law_many"] z9 (aG zp):=dg
theorem Yk:aP ["_law_script","_law_cell_here"] Cy (aG BK):=dg
theorem Yn:aP ["_law_number_here"] CJ (aG BR):=dg
theorem Yl:aP ["_law_n","_law_h","_law_s","_law_many","_law_bulk"] Cz (aG BL):=dg
theorem Ym:aP ["_law_n","_law_load_here"] CG (aG BP):=dg
theorem Yq:aP ["_law_n","_law_hands_here","_law_seed","_law_h","_law_s","_law_t","_law_f","_law_what","_law_g","_law_word_here"] CQ (aG BX):=dg
theorem Ud:aP ["_law_n","_law_hands_here","_law_seed","_law_deed_here"] Ac (aG zy):=dg
theorem T9:aP ["_law_hands_here","_law_cell_here","_law_seed","_law_rows_here","_law_h","_law_way"] z8 (aG zm):=dg
theorem Yj:aP ["_law_script","_law_hands_here","_law_rows_here","_law_seed","_law_k","_law_cell_here","_law_n"] Cw (aG BJ):=dg
theorem Qs:aP ["_law_found"] xW (aG xj):=dg
theorem Uc:aP ["_law_found","_law_due","_law_number_here"] Ab (aG zx):=dg
theorem Yo:aP ["_law_world","_law_deed_here","_law_event_here"] CP (aG BV):=dg
theorem Ub:aP ["_law_world","_law_there"] Aa (aG zq):=dg
theorem TY:aP ["_law_tally","_law_event_here"] z7 (aG zj):=dg
theorem Qu:aP ["_law_tally","_law_event_here","_law_way","_law_hands_here","_law_most","_law_noted_births","_law_birth","_law_looks"] xY (aG xq):=dg
theorem Qt:aP ["_law_tally","_law_event_here","_law_steps","_law_looks","_law_passes","_law_places"] xX (aG xm):=dg
theorem Yi:aP ["_law_world","_law_tally","_law_way","_law_most","_law_found","_law_event_here"] Cv (aG By):=dg
theorem Fq:aP ["_law_world","_law_row","_law_tally","_law_event_here","_law_births"] qC (aG qd):=dg
theorem Zuq:aP ["_law_script","_law_way","_law_hands_here","_law_world","_law_tally","_law_most","_law_row"] ["_law_script"] (aG Qx):=dg
section
variable {X:Cx}
theorem iR{a b:AM}{ta tb:TE}{pos:Pos}{r:R2}(hr:IxR X r)(ha:PE X a ta)(hb:PE X b tb)(hs:Zj4 b:=by exact λ_ _=>rfl):PE X (.Subscript a b pos) (bw r ta tb):=Zy1 hr ha hb hs
theorem Gy{o i:AM}{td ty:TE}{pos:Pos}{k:Nat}(hr:Room k X.A)(ho:PE X o td)(hi:PE X i ty)(hs:Zth i:=by exact λ_ _=>rfl):PE X (.Subscript o i pos) (jm td ty):=Zrg (sZ hr) ho hi hs
theorem m5{a b:AM}{ta tb:TE}{pos:Pos}{op:CmpOp}{r:R2}(ho:yM X (compareOp op) r)(ha:PE X a ta)(hb:PE X b tb)(hm:behindInMarks op b=false:=by exact qF _):PT X (.Compare a [op] [b] pos) (bO (bw r ta tb)):=Zqu ho ha hb hm
theorem gm(i:Nat){x:Str}{e:AM}{te:TE}{pos' pos:Pos}(hN:X.N.Nodup)(he:PE X e te)(hi:X.N[i]? =some x:=by rfl)(hx:Loc X.env.scope x:=by exact Or.inl rfl)(hs:swapsWith e (some (.Name x pos')) pos.line X.env=pure false:=by rfl)(hf:X.fn x=true\/X.env.scope.names.lookup x=some .local:=by first | exact .inl rfl | exact .inr rfl | assumption):PS X (.Assign [.Name x pos'] e pos) (bI te (aO i)):=Zmn hN hi hx he hs hf
end
structure PAw(X:Cx)(es:AF)(t:TA):Prop where
 h:PA X es t
structure PSw(X:Cx)(st:List Stmt)(t:TS):Prop where
 h:PSs X st t
structure PPw(X:Cx)(pos:Pos)(keys:List (Option AM))(values:AF)(trs:List (TE×TE)):Prop where
 h:PPs X pos keys values trs
structure PEw(X:Cx)(e:AM)(t:TE):Prop where
 h:PE X e t
section
variable {X:Cx}
theorem pew{e:AM}{t:TE}(h:PE X e t):PEw X e t:=⟨h⟩
theorem DN{z k p}:PEw X (.Constant (.str z) k p) (tC (.str z)):=⟨aQ⟩
theorem Zqw{pos:Pos}:PPw X pos [] [] []:=⟨Zqx⟩
theorem yD{pos:Pos}{k v:AM}{keys:List (Option AM)}{values:AF}{tk tv:TE}{trs:List (TE×TE)}(hk:PEw X k tk)(hv:PEw X v tv)(h:PPw X pos keys values trs):PPw X pos (some k::keys) (v::values) ((tk,tv)::trs):=⟨Zmp hk.h hv.h h.h⟩
theorem jY{st rest t u}(h1:PS X st t)(h2:PSw X rest u):PSw X (st::rest) (aN t u):=⟨ao h1 h2.h⟩
theorem Zqv{st t}(h1:PS X st t):PSw X [st] t:=⟨aA h1⟩
theorem Zjo{keys values trs p pos}(h:PPw X p keys values trs)(a1:keys.all (·.isSome)=true)(a2:keys.length=values.length)(a3:keys≠[])(a4:keys.length<=15):PSw X [.Return (some (.Dict keys values p)) pos] (bH (Zlz trs)):=⟨aA (aM (Zrf h.h a1 a2 a3 a4))⟩
end
open PySem.Spec PyProof.Rows in
theorem ZI5{P:AL}{w:AN}{K:aC}{mg:As}{base:Heap}{x qual:Str}{st:Stmt}{f:AH}{fd:AK}{N ps:AG}{sp:Sp}{k:Nat}(F:jE K x qual st f fd)(S:aP N ps (aG st))(len:∀vs H Q E,sp vs H Q E->vs.length=ps.length)
  (hbody:∀(cdv:AI) (A:Around) (outer:List Env) (s:AJ) (H:Hp) (vs:List V) (Q:VK) (E:XK),Room k (A.deeper (envOfC qual (aG st) s.heap.objs.size f cdv))->sp vs H Q E->
   ∃t,PSw (Mg (S9 P w) P w K mg base N qual (aG st) f cdv A outer s H E).nox (kO st) t/\t { nx:=λ_ H'=>Q .non H',rt:=Q } (start N vs) H):vP P w K mg base (S9 P w) (k+1) f fd ps sp:=
 G.fok F S len λcdv A outer s H vs Q E hr h=>let ⟨t,p,q⟩:=hbody cdv A outer s H vs Q E hr h;⟨t,p.h,q⟩
local macro_rules | `(tactic| walk_at"k")=>`(tactic| (first | (obtain ⟨_,rfl,_⟩:=h;rfl) | (obtain ⟨_,_,rfl,_⟩:=h;rfl) | (obtain ⟨_,_,_,rfl,_⟩:=h;rfl) | (obtain ⟨_,_,_,_,rfl,_⟩:=h;rfl) | (obtain ⟨_,_,_,_,_,rfl,_⟩:=h;rfl) | (obtain ⟨_,_,_,_,_,_,rfl,_⟩:=h;rfl) | (obtain ⟨_,_,_,_,_,_,_,rfl,_⟩:=h;rfl)))
local macro_rules | `(tactic| walk_at "ok")=>`(tactic| (refine G.fok F sc (λvs H Q E h=>?_) (λcdv A outer s H vs Q E hr h=>?_);· (walk_at"k")))
local macro_rules | `(tactic| walk_at "okw")=>`(tactic| (refine ZI5 F sc (λvs H Q E h=>?_) (λcdv A outer s H vs Q E hr h=>?_);· (walk_at"k")))
local macro_rules | `(tactic| walk_at "okX")=>`(tactic| (refine G.ZI6 F sc (λvs H Q E h=>?_) (λcdv A outer s H vs Q E hr h=>?_);· (walk_at"k")))
local macro_rules | `(tactic| walk_at "okDX")=>`(tactic| (refine G.Zz5 F sc (λvs H Q E h=>?_) (λcdv A outer s H vs Q E hr h=>?_);· (walk_at"k")))
section
variable (P:AL){w:AN}{K:aC}{mg:As}(base:Heap){fQ aJ aV bU bC dH gb dO dF iB j9 jt jr fB iK eX nG pq dG cL cY yr jH jG eV iU sW yq gP vC sV nF gO cU cR yo gB Fe iV lO gM cT iT Fb bV yp oA bQ bW cM dM dN dJ gQ dD eE jV jq gw fY ie jD jC iu ir ig fL gY gZ gW gA VD gj d9 iy iZ jL jO jM jN jQ jj iY jK gD ji jP je iW gG gF jJ dR:AH}(XQ:Cs)(T:Txt w K mg XQ.C XQ.H XQ.D XQ.S XQ.W XQ.F XQ.E XQ.L XQ.K fQ aJ aV bU bC dH gb dO dF iB j9 jt jr fB iK eX nG pq dG cL cY yr jH jG eV iU sW yq gP vC sV nF gO cU cR yo gB Fe iV lO gM cT iT Fb bV yp oA bQ bW cM dM dN dJ gQ dD eE jV jq gw fY ie jD jC iu ir ig fL gY gZ gW gA VD gj d9 iy iZ jL jO jM jN jQ jj iY jK gD ji jP je iW gG gF jJ dR)
include T
theorem p8:rY K XQ:=⟨⟨T.dB,T.dZ,T.nW,T.mz,T.lC,T.fW,T.cP,T.nU,T.bT,T.jo,T.mq,T.Ph⟩,T.Zdw,T.uw,T.uv,T.sO,T.sJ,T.pB,T.Zj0,T.wD,T.uz,T.Ziz,T.qL,T.uy,T.Sq,T.pD,T.pF,T.qK,T.oM,T.qH,T.ux,T.qI,T.pC,T.pG,T.oK,T.qJ⟩
theorem KZ{fd:AK}(F:jE K "__init__" "Cell.__init__" tV dH fd):μ 1 dH fd uf (wV XQ.C):=by
 have sc:=J2;have tx:=p8 _ T;walk_at "ok"
 ·refine⟨rH K,(ao (cJ ρ Ψ rfl)
   (ao (cJ ρ (pv 3) rfl)
   (ao (cJ ρ (pv 4) rfl)
   (ao (cJ ρ (az) rfl)
   (aA (cJ ρ (bh QW (cQ (aa (gf) au)) (pv 2)) rfl)))))),?_⟩
  obtain⟨z0,z1,z2,z3,z4,rfl,q⟩:=h;exact MF tx.c q
theorem Uy{fd:AK}(F:jE K "units" "Cell.units" zB gb fd):μ 1 gb fd ["self"] (mW XQ.C):=by
 have sc:=Uh;have tx:=p8 _ T;walk_at "ok"
 ·refine⟨xR K,(aA (aM (bh jF (bh jF (az) (cg G.cz η T.iQ G.boot_len (aa Ξ au))) Ξ))),?_⟩;obtain⟨z0,rfl,q⟩:=h;exact V6 tx.c q
theorem Ie{fd:AK}(F:jE K "has_field" "Cell.has_field" rC dO fd):μ 1 dO fd rP (wM XQ):=by
 have sc:=HB;have tx:=p8 _ T;walk_at "ok"
 ·refine⟨qt K,(aA (aM (Zn0 Ztu Er (az) Ψ (cg G.cz η T.iQ G.boot_len (aa Ξ au))))),?_⟩;obtain⟨z0,z1,rfl,q⟩:=h;exact JH tx q
theorem KR{fd:AK}(F:jE K "__init__" "Heap.__init__" tR dF fd):μ 1 dF fd ud (wQ XQ.H):=by
 have sc:=J0;have tx:=p8 _ T;walk_at "ok"
 ·refine⟨rF K,(ao (cJ ρ Ψ rfl)
   (ao (cJ ρ (cQ au) rfl)
   (ao (cJ ρ (az) rfl)
   (aA (cJ ρ (az) rfl))))),?_⟩
  obtain⟨z0,z1,rfl,q⟩:=h;exact Mq tx.c q
theorem Zi{fd:AK}{Mf ym Zaf Zdj:AK}(F:G.Zxf K "make" "Heap.make" vZ iB fd)(Bg:ι 1 dH Mf uf (wV XQ.C))(mZ:ι 1 gb ym ["self"] (mW XQ.C))(NP:ι 1 jr Zaf ["self"] (wR XQ.H))(S7:ι 1 j9 Zdj Gh (Av K XQ.H)):μ 3 iB fd CT (wO K XQ.C XQ.H bU):=by
 have sc:=Ys;have tx:=p8 _ T;walk_at "okDX"
 ·refine⟨zW K XQ.C bU XQ.H (wV XQ.C) (mW XQ.C) (wR XQ.H) (Av K XQ.H) E,(ao (gm 4 sc.nd (z6 T.O9 Bg.g af rfl T.Znx Bg.b .nil G.fV (aa (bh jF Ξ (az)) (aa Ψ (aa (pv 2) (aa (pv 3) au))))))
   (ao (cB (m5 Zc1 (lW (pv 4) T.dB T.sU mZ.g af mZ.b .nil G.fV) (lW ρ T.cP T.Ik NP.g af NP.b .nil G.fV)) (aA (G.HH rfl rfl T.Znv T.Xu (aa (aQ) au) (λ_ _ _ _ _ _ _ I hx hE=>G.YG I hx hE))) aZ)
   (ao (cJ ρ (aK (pv 4) rfl) rfl)
   (ao (cJ ρ (bh jF Ξ (lW (pv 4) T.dB T.sU mZ.g af mZ.b .nil G.fV)) rfl)
   (aA (aM (sG ρ T.cP T.M7 S7.g af S7.b .nil G.fV (aa (pv 4) au)))))))),?_⟩
  obtain⟨z0,z1,z2,z3,rfl,q⟩:=h;exact Zb2 tx.c q
theorem Zc9{fd:AK}(F:jE K "lay" "Heap.lay" Fz j9 fd):μ 1 j9 fd Gh (Av K XQ.H):=by
 have sc:=Zbp;have tx:=p8 _ T;walk_at "ok"
 ·refine⟨Cq K,(ao (cB (m5 (G.Zju (sZ hr)) (gf) Ξ (by with_unfolding_all rfl)) (ao (oJ (wz PySem.F.plainAttrs_list PySem.F.slot_list_append PySem.F.type_list_append nD Ξ (aa Ψ au)))
   (aA (aM (bh Ad (cg G.cz η T.iQ G.boot_len (aa Ξ au)) (az))))) aZ)
   (ao (gm 2 sc.nd (wz PySem.F.plainAttrs_list PySem.F.slot_list_index PySem.F.type_list_index (G.Zk2 (sZ hr)) Ξ (aa (gf) au)))
   (ao (u6 Ψ (xT Ξ (pv 2) set_list))
   (aA (aM (pv 2)))))),?_⟩
  obtain⟨z0,z1,rfl,q⟩:=h;exact Ze4 tx.c q
theorem Zk{fd:AK}(F:jE K "back" "Heap.back" Cd jt fd){ym:AK}(mZ:ι 1 gb ym ["self"] (mW XQ.C)):μ 2 jt fd CV (tG XQ.C XQ.H):=by
 have sc:=Yu;have tx:=p8 _ T;walk_at "ok"
 ·refine⟨zY K XQ.C (mW XQ.C),(ao (gm 2 sc.nd (iR fj Ξ Ψ))
   (ao (cJ ρ (bh Ad Ξ (lW (pv 2) T.dB T.sU mZ.g af mZ.b .nil G.fV)) rfl)
   (ao (u6 (gf) (xT Ξ Ψ set_list))
   (aA (aM (aK (pv 2) rfl)))))),?_⟩
  obtain⟨z0,z1,rfl,q⟩:=h;exact Zb4 tx.c q
theorem Zj{fd:AK}(F:jE K "free" "Heap.free" Ca jr fd):μ 1 jr fd ["self"] (wR XQ.H):=by
 have sc:=Yt;have tx:=p8 _ T;walk_at "ok"
 ·refine⟨zX K,(aA (aM (bh Ad Ξ Ξ))),?_⟩;obtain⟨z0,rfl,q⟩:=h;exact Zb3 tx.c q
theorem Ux{fd:AK}(F:jE K "there" "Heap.there" zA fB fd):μ 1 fB fd ["self"] (jl XQ.H):=by
 have sc:=Ug;have tx:=p8 _ T;walk_at "ok"
 ·refine⟨xQ K,(aA (aM (G.Zbv (cns:=["self"]) [0] (uI rfl T.uq (aa (cg G.cz η T.iQ G.boot_len (aa Ξ au)) au)) (λ_ _ _ _ _=>(G.Zfs (m5 G.HR (iR fj (aK Ψ rfl) ρ) (gf)))) (λ_ _ _ _ _=>ρ) rfl rfl ad (by repeat (first | exact trivial | refine⟨rfl,?_⟩)) rfl γ rfl γ γ rfl γ))),?_⟩;obtain⟨z0,rfl,q⟩:=h;exact V0 tx.c q
theorem Zg9{fd:AK}(F:jE K "cell_at" "cell_at" Kg iK fd):μ 1 iK fd pY (d8 XQ.H):=by
 have sc:=Zfd;have tx:=p8 _ T;walk_at "ok"
 ·refine⟨Gd K,(ao (cB (PW.pt (qU (m5 G.wB Ψ (gf)) (qU (m5 Er Ψ (az)) (qw (m5 Zy3 Ψ (cg G.cz η T.iQ G.boot_len (aa Ξ au))))))) (aA (aM (gf))) aZ)
   (aA (aM (iR fj Ξ Ψ)))),?_⟩
  obtain⟨z0,z1,rfl,q⟩:=h;exact Zhp tx q
theorem Zc8{fd:AK}(F:jE K "birth_at" "birth_at" Fy eX fd){j7:AK}(lZ:ι 1 iK j7 pY (d8 XQ.H)):μ 2 eX fd lM (cN XQ):=by
 have sc:=Zbo;have tx:=p8 _ T;walk_at "ok"
 ·refine⟨Cp K (d8 XQ.H),(ao (gm 2 sc.nd (iH lZ hr T.rT (aa ρ (aa Ψ au))))
   (ao (cB (m5 G.wB (pv 2) (gf)) (aA (aM (gf))) aZ)
   (aA (aM (aK (pv 2) rfl))))),?_⟩
  obtain⟨z0,z1,rfl,q⟩:=h;exact Zdy tx q
theorem Zg0{fd:AK}(F:jE K "reached" "reached" J4 nG fd){Zl3:AK}(Ze5:ι 2 pq Zl3 QS (Ds K XQ.C XQ.H)):μ 3 nG fd Ku (DX K XQ.C XQ.H):=by
 have sc:=Zf4;have tx:=p8 _ T;walk_at "ok"
 ·refine⟨zE K (Ds K XQ.C XQ.H),(ao (gm 2 sc.nd (cQ au))
   (ao (tZ PassesOwn.never rfl (G.YK rfl T.pX (aa Ψ au)) (YL rfl (m7 (gJ (i:=3) sc.nd rfl (Or.inl rfl)) (m7 (gJ (i:=4) sc.nd rfl (Or.inl rfl)) HJ)))
   (aA (oJ (wz PySem.F.plainAttrs_list PySem.F.slot_list_extend PySem.F.type_list_extend K3 (pv 2) (aa (iH Ze5 hr T.Rt (aa ρ (aa (pv 4) (aa (cF (aa (pv 3) au)) au)))) au)))))
   (ao (gm 5 sc.nd (Zbw))
   (ao (gm 6 sc.nd (az))
   (ao (Zmm PassesOwn.never (m5 Er (pv 6) (cg G.cz η T.iQ G.boot_len (aa (pv 2) au))) (ao (gm 7 sc.nd (iR bD (iR fj (pv 2) (pv 6)) (az)))
   (ao (gm 8 sc.nd (iR bD (iR fj (pv 2) (pv 6)) (az)))
   (ao (gm 6 sc.nd (bh jF (pv 6) (az)))
   (aA (cB (Zml (G.Zfu (sZ hr) (pv 7) (pv 5))) (ao (O3 (sZ hr) (pv 5) (pv 7) (pv 8) rfl)
   (aA (oJ (wz PySem.F.plainAttrs_list PySem.F.slot_list_extend PySem.F.type_list_extend K3 (pv 2) (aa (iH Ze5 hr T.Rt (aa ρ (aa (aK (iR fj Ξ (pv 7)) rfl) (aa (pv 8) au)))) au))))) aZ))))))
   (aA (aM (rJ (G.Zhr rfl) η T.uK G.boot_list (aa (G.Zmz (pv 5)) au))))))))),?_⟩
  obtain⟨z0,z1,z2,z3,z4,rfl,q⟩:=h;exact Zfm tx q
theorem Zjw{fd:AK}(F:jE K "onward" "onward" Qw pq fd){j7:AK}(lZ:ι 1 iK j7 pY (d8 XQ.H)):μ 2 pq fd QS (Ds K XQ.C XQ.H):=by
 have sc:=Zjh;walk_at "ok"
 ·refine⟨Dz K (d8 XQ.H),(aA (aM (G.Zft (cns:=["heap","way"]) [0,2] (G.YK rfl T.pX (aa Ψ au)) (λ_ _ _ _ _=>(G.Zfs (m5 G.HR (iH lZ hr T.rT (aa (pv 2) (aa Ψ au))) (gf)))) (λ_ _ _ _ _=>(cF (aa Ψ (aa (bh Zri (pv 3) (cF (aa ρ au))) au)))) rfl rfl ad (by repeat (first | exact trivial | refine⟨rfl,?_⟩)) rfl γ rfl γ γ rfl rfl γ))),?_⟩;obtain⟨z0,z1,z2,z3,z4,z5,rfl,q⟩:=h;exact Zjv q
theorem KY{fd:AK}(F:jE K "__init__" "Hand.__init__" tU dG fd):μ 1 dG fd ue (wU XQ.D):=by
 have sc:=J1;have tx:=p8 _ T;walk_at "ok"
 ·refine⟨rG K,(ao (cJ ρ Ψ rfl)
   (aA (cJ ρ (bh QW (cQ (aa (gf) au)) (pv 2)) rfl))),?_⟩
  obtain⟨z0,z1,z2,rfl,q⟩:=h;exact Mr tx q
theorem Ed{fd:AK}(F:jE K "__init__" "Sweeper.__init__" pJ cL fd):μ 1 cL fd ["self"] (qR XQ.S):=by
 have sc:=Eb;have tx:=p8 _ T;walk_at "ok"
 ·refine⟨oX K,(ao (cJ ρ (az) rfl)
   (ao (cJ ρ (aQ) rfl)
   (ao (cJ ρ (cQ au) rfl)
   (ao (cJ ρ (az) rfl)
   (ao (cJ ρ (az) rfl)
   (ao (cJ ρ (az) rfl)
   (ao (cJ ρ (az) rfl)
   (ao (cJ ρ (az) rfl)
   (ao (cJ ρ (az) rfl)
   (ao (cJ ρ (az) rfl)
   (aA (cJ ρ (gf) rfl)))))))))))),?_⟩
  obtain⟨z0,rfl,q⟩:=h;exact Ek tx q
theorem HX{fd:AK}{Ma LR Ei:AK}(F:jE K "__init__" "World.__init__" q8 cY fd)(Bf:ι 1 dG Ma ue (wU XQ.D))(Be:ι 1 dF LR ud (wQ XQ.H))(vO:ι 1 cL Ei ["self"] (qR XQ.S)):μ 3 cY fd rK (uF XQ):=by
 have sc:=Ht;have tx:=p8 _ T;walk_at "ok"
 ·refine⟨qi K XQ.D XQ.H XQ.S (wU XQ.D) (wQ XQ.H) (qR XQ.S),(ao (cJ ρ (z6 T.O7 Be.g af rfl T.Znt Be.b .nil G.fV (aa Ψ au)) rfl)
   (ao (cJ ρ (pv 2) rfl)
   (ao (cJ ρ (G.Zft (cns:=[]) [] (qy (pv 3)) (λ_ _ _ _ _=>G.Ko) (λ_ _ _ _ _=>(z6 T.O8 Bf.g af rfl T.Znu Bf.b .nil G.fV (aa ρ (aa Ψ au)))) rfl rfl ad (by repeat (first | exact trivial | refine⟨rfl,?_⟩)) rfl γ rfl γ γ rfl rfl γ) rfl)
   (ao (cJ ρ (Zbw) rfl)
   (aA (cJ ρ (Zmx T.Ah vO.g af rfl T.WM vO.b .nil G.fV) rfl)))))),?_⟩
  obtain⟨z0,z1,z2,z3,rfl,q⟩:=h;exact Ju tx q
theorem Zro{fd:AK}(F:jE K "held" "held" Zfi yr fd):μ 1 yr fd ["world"] (Zay XQ):=by
 have sc:=Zqf;have tx:=p8 _ T;walk_at "ok"
 ·refine⟨YD K,(aA (aM (G.Zbv (cns:=[]) [] (qy Ξ) (λ_ _ _ _ _=>G.Ko) (λ_ _ _ _ _=>(rJ G.vI η T.uK G.boot_list (aa Ξ au))) rfl rfl ad (by repeat (first | exact trivial | refine⟨rfl,?_⟩)) rfl γ rfl γ γ rfl γ))),?_⟩;obtain⟨z0,rfl,q⟩:=h;exact Zso tx q
theorem Y6{fd:AK}(F:jE K "births_at" "births_at" Bw jH fd){eU:AK}(gh:ι 2 eX eU lM (cN XQ)):μ 3 jH fd Cu (wN XQ):=by
 have sc:=Yg;have tx:=p8 _ T;walk_at "ok"
 ·refine⟨zJ K (cN XQ),(aA (aM (G.Zbv (cns:=["heap"]) [0] (qy Ψ) (λ_ _ _ _ _=>G.Ko) (λ_ _ _ _ _=>(iH gh hr T.mO (aa Ψ (aa ρ au)))) rfl rfl ad (by repeat (first | exact trivial | refine⟨rfl,?_⟩)) rfl γ rfl γ γ rfl γ))),?_⟩;obtain⟨z0,z1,rfl,q⟩:=h;exact Zaj tx q
theorem Y0{fd:AK}(F:jE K "looked_at" "looked_at" Bt jG fd):μ 1 jG fd Cr (wL XQ):=by
 have sc:=Yc;have tx:=p8 _ T;walk_at "ok"
 ·refine⟨zF K,(aA (aM (mL iI (bh QX (bh Zfx (aK Ξ rfl) Ψ) (az)) (az) (qF _)))),?_⟩;obtain⟨z0,z1,rfl,q⟩:=h;exact Zt tx q
theorem Y4{fd:AK}(F:jE K "has_sense" "has_sense" Bu eV fd):μ 1 eV fd mj (di XQ):=by
 have sc:=Yd;have tx:=p8 _ T;walk_at "ok"
 ·refine⟨zG K,(aA (aM (mL iI (aK Ψ rfl) (aK Ξ rfl) (qF _)))),?_⟩;obtain⟨z0,z1,rfl,q⟩:=h;exact Z9 tx q
theorem Uo{fd:AK}(F:jE K "is_walking" "is_walking" za iU fd):μ 1 iU fd ["world"] (uD XQ):=by
 have sc:=TV;have tx:=p8 _ T;walk_at "ok"
 ·refine⟨xF K,(aA (aM (mL yE (aK Ξ rfl) (cF (aa (aQ) (aa (aQ) au))) (by with_unfolding_all rfl)))),?_⟩;obtain⟨z0,rfl,q⟩:=h;exact U6 tx q
theorem Zn6{fd:AK}{Jl Ej:AK}(F:jE K "begin" "begin" Yw sW fd)(yP:ι 2 dM Jl rN (oF 0))(mY:ι 1 bQ Ej pO (oF 1)):μ 3 sW fd ["world"] (PN XQ):=by
 have sc:=Zm7;have tx:=p8 _ T;walk_at "ok"
 ·refine⟨QJ K XQ.E XQ.F XQ.L (oF 0) (oF 1),(ao (gm 1 sc.nd Ξ)
   (ao (cJ Ψ (bh Ad (az) (aK Ψ rfl)) rfl)
   (ao (cJ Ψ (bh jF (aK Ψ rfl) (az)) rfl)
   (ao (cJ Ψ (aQ) rfl)
   (ao (cJ Ψ (cQ au) rfl)
   (ao (cJ Ψ (G.wj (sG (aK Ξ rfl) T.Dn T.wG yP.g af yP.b .nil G.fV (aa (cg G.cz η T.iQ G.boot_len (aa Ξ au)) au)) (G.wj (sG (aK Ξ rfl) T.Jr T.yH mY.g af mY.b .nil G.fV (aa (cg G.cz η T.iQ G.boot_len (aa Ξ au)) au)) (sG (aK Ξ rfl) T.Jq T.yG mY.g af mY.b .nil G.fV (aa (cg G.cz η T.iQ G.boot_len (aa Ξ au)) au)))) rfl)
   (ao (cJ Ψ (az) rfl)
   (ao (cJ Ψ (az) rfl)
   (aA (cJ Ψ (az) rfl)))))))))),?_⟩
  obtain⟨z0,rfl,q⟩:=h;exact Zpr tx q
theorem Zrn{fd:AK}{j7 gK:AK}(F:jE K "note" "note" Zfh yq fd)(lZ:ι 1 iK j7 pY (d8 XQ.H))(ju:ι 1 eV gK mj (di XQ)):μ 2 yq fd Zfv (Zax XQ):=by
 have sc:=Zqe;have tx:=p8 _ T;walk_at "ok"
 ·refine⟨YC K (d8 XQ.H) (di XQ),(ao (gm 2 sc.nd Ξ)
   (ao (gm 3 sc.nd (iH lZ hr T.rT (aa Ξ (aa Ψ au))))
   (ao (cB (PW.pt (qU (m5 Ep (aK (pv 2) rfl) (aQ)) (qU (m5 G.wB (pv 3) (gf)) (qw (lK (iH ju hr T.nY (aa ρ (aa (pv 3) au)))))))) (aA (aM (gf))) aZ)
   (ao (cJ (pv 3) (aK (pv 2) rfl) rfl)
   (ao (oJ (wz PySem.F.plainAttrs_list PySem.F.slot_list_append PySem.F.type_list_append nD (aK (pv 2) rfl) (aa Ψ au)))
   (aA (aM (aK (pv 3) rfl)))))))),?_⟩
  obtain⟨z0,z1,rfl,q⟩:=h;exact Zrt tx q
theorem Zc5{fd:AK}(F:jE K "note_all" "note_all" Fv gP fd){Zt3:AK}(Zxc:ι 2 yq Zt3 Zfv (Zax XQ)):μ 3 gP fd pN (fO XQ):=by
 have sc:=Zbl;have tx:=p8 _ T;walk_at "ok"
 ·refine⟨Cj K (Zax XQ),(ao (gm 2 sc.nd (cQ au))
   (ao (tZ PassesOwn.never rfl (qy Ψ) (gJ (i:=3) sc.nd rfl (Or.inl rfl))
   (ao (gm 4 sc.nd (iH Zxc hr T.Zno (aa ρ (aa (pv 3) au))))
   (aA (cB (m5 G.HR (pv 4) (gf)) (aA (oJ (wz PySem.F.plainAttrs_list PySem.F.slot_list_append PySem.F.type_list_append nD (pv 2) (aa (pv 4) au)))) aZ))))
   (aA (aM (pv 2))))),?_⟩
  obtain⟨z0,z1,rfl,q⟩:=h;exact Zcb tx q
theorem Zrp{fd:AK}{j7 gK:AK}(F:jE K "gone" "gone" Zfj vC fd)(lZ:ι 1 iK j7 pY (d8 XQ.H))(ju:ι 1 eV gK mj (di XQ)):μ 2 vC fd YS (Gv XQ):=by
 have sc:=Zqg;have tx:=p8 _ T;walk_at "ok"
 ·refine⟨YF K (d8 XQ.H) (di XQ),(ao (gm 3 sc.nd (iH lZ hr T.rT (aa Ξ (aa Ψ au))))
   (ao (cB (PW.pt (qU (m5 G.wB (pv 3) (gf)) (qw (m5 Ep (aK (pv 3) rfl) (pv 2))))) (aA (aM (qz))) aZ)
   (aA (aM ((YM (mL iI (aK Ξ rfl) (aQ) (qF _)) (Kq (Zmw (iH ju hr T.nY (aa ρ (aa (pv 3) au))))))))))),?_⟩
  obtain⟨z0,z1,z2,rfl,q⟩:=h;exact Zsx tx q
theorem Zn5{fd:AK}{Zt4 Zh4:AK}(F:jE K "roots" "roots" Yv sV fd)(Zxd:ι 1 yr Zt4 ["world"] (Zay XQ))(Zln:ι 3 nF Zh4 Ks (DW XQ)):μ 4 sV fd ["world"] (Pu XQ):=by
 have sc:=Zm6;have tx:=p8 _ T;walk_at "ok"
 ·refine⟨QH K (Zay XQ) (DW XQ) H,(aA (aM (bh pP (iH Zxd hr T.Znp (aa ρ au)) (cQ (aa (G.Zrd (G.Zft (cns:=["world"]) [0] (G.Zr5 (G.Zjr Ξ)) (λ_ _ _ _ _=>G.Ko) (λ_ _ _ _ _=>(iH Zln hr T.WK (aa (pv 2) (aa ρ (aa Ψ au))))) rfl rfl ad (by repeat (first | exact trivial | refine⟨rfl,?_⟩)) rfl γ rfl γ γ rfl rfl γ)) au))))),?_⟩;obtain⟨z0,rfl,q⟩:=h;exact Zmb tx q
theorem Zfz{fd:AK}{Za4 gK Vr:AK}(F:jE K "root_of" "root_of" J3 nF fd)(Zhx:ι 2 vC Za4 YS (Gv XQ))(ju:ι 1 eV gK mj (di XQ))(Zb6:ι 1 iU Vr ["world"] (uD XQ)):μ 3 nF fd Ks (DW XQ):=by
 have sc:=Zf3;have tx:=p8 _ T;walk_at "ok"
 ·refine⟨FJ K (Gv XQ) (di XQ) (uD XQ),(ao (cB (lK (iH Zhx hr T.Zgg (aa ρ (aa Ψ (aa (pv 2) au))))) (aA (aM (gf))) aZ)
   (ao (cB (PW.pt (Ge (lK (iH Zb6 hr T.Io (aa ρ au))) (zZ (qx (lK (iH ju hr T.nY (aa ρ (aa (iR fj (aK Ξ rfl) Ψ) au)))))))) (aA (aM (gf))) aZ)
   (aA (aM Ψ)))),?_⟩
  obtain⟨z0,z1,z2,rfl,q⟩:=h;exact Zfl tx q
theorem Um{fd:AK}(F:jE K "note_hands" "note_hands" yZ gO fd){lE:AK}(mX:ι 3 gP lE pN (fO XQ)):μ 4 gO fd ur (lF XQ):=by
 have sc:=TQ;have tx:=p8 _ T;walk_at "ok"
 ·refine⟨xx K (fO XQ),(ao (gm 2 sc.nd (cQ au))
   (ao (tZ PassesOwn.never rfl (G.YK rfl T.pX (aa Ξ au)) (YL rfl (m7 (gJ (i:=3) sc.nd rfl (Or.inl rfl)) (m7 (gJ (i:=4) sc.nd rfl (Or.inl rfl)) HJ)))
   (aA (cB (m5 iI (bh QX (bh Zfx Ψ (pv 3)) (az)) (az)) (aA (oJ (wz PySem.F.plainAttrs_list PySem.F.slot_list_extend PySem.F.type_list_extend K3 (pv 2) (aa (iH mX hr T.rR (aa ρ (aa (aK (pv 4) rfl) au))) au)))) aZ)))
   (aA (aM (pv 2))))),?_⟩
  obtain⟨z0,z1,rfl,q⟩:=h;exact Uz tx q
theorem Oo{fd:AK}{Zp8 yl:AK}(F:jE K "step_at_rest" "step_at_rest" uQ cU fd)(Ztk:ι 3 sW Zp8 ["world"] (PN XQ))(Ay:ι 4 gO yl ur (lF XQ)):μ 5 cU fd ["world"] (bZ XQ (O5 "rest")):=by
 have sc:=Oi;have tx:=p8 _ T;walk_at "ok"
 ·refine⟨tY K (PN XQ) (lF XQ),(ao (oJ (iH Ztk hr T.Zih (aa ρ au)))
   (ao (gm 1 sc.nd (iH Ay hr T.Aj (aa ρ (aa (aK Ξ rfl) au))))
   (aA (aM (cF (aa (aQ) (aa (aK Ξ rfl) (aa Ψ au)))))))),?_⟩
  obtain⟨z0,rfl,q⟩:=h;exact Ob tx q
theorem Ol{fd:AK}{R4 Zt1:AK}(F:jE K "step_in_walk" "step_in_walk" uO cR fd)(V2:ι 7 gB R4 ["world"] (bZ XQ Zc0))(Zxa:ι 4 yo Zt1 ["world"] (bZ XQ Zby)):μ 8 cR fd ["world"] (bZ XQ (O5 "walk")):=by
 have sc:=Og;have tx:=p8 _ T;walk_at "ok"
 ·refine⟨tW K (bZ XQ Zc0) (bZ XQ Zby),(ao (cB (Zbt (aK Ξ rfl) (λ_=>rfl)) (aA (aM (iH Zxa hr T.Znm (aa ρ au)))) aZ)
   (aA (aM (iH V2 hr T.Eu (aa ρ au))))),?_⟩
  obtain⟨z0,rfl,q⟩:=h;exact N8 tx q
theorem Zrl{fd:AK}(F:jE K "walk" "walk" Zff yo fd){lE:AK}(mX:ι 3 gP lE pN (fO XQ)):μ 4 yo fd ["world"] (bZ XQ Zby):=by
 have sc:=Zqc;have tx:=p8 _ T;walk_at "ok"
 ·refine⟨Yz K (fO XQ),(ao (gm 1 sc.nd Ξ)
   (ao (gm 2 sc.nd (iR fj (aK Ξ rfl) (wz PySem.F.plainAttrs_list PySem.F.slot_list_pop PySem.F.type_list_pop Zni (aK Ψ rfl) (aa (az) au))))
   (ao (cJ Ψ (bh jF (aK Ψ rfl) (az)) rfl)
   (aA (aM (cF (aa (aQ) (aa (aK (pv 2) rfl) (aa (iH mX hr T.rR (aa ρ (aa (aK (pv 2) rfl) au))) au))))))))),?_⟩
  obtain⟨z0,rfl,q⟩:=h;exact Zpy tx q
theorem Q6{fd:AK}{Jm Jk VB Dm LK Zwp yl:AK}(F:jE K "look_or_cut" "look_or_cut" xg gB fd)(yQ:ι 1 dN Jm rO (iD 1))(yO:ι 2 dJ Jk rM (iD 2))(uG:ι 1 gQ VB ["self"] (rZ (.bl false)))(uo:ι 1 bW Dm oZ (iD 0))(iG:ι 1 cM LK ["self"] (rZ (.bl true)))(Zzo:ι 6 Fe Zwp ["world"] (bZ XQ Zfw))(Ay:ι 4 gO yl ur (lF XQ)):μ 7 gB fd ["world"] (bZ XQ Zc0):=by
 have sc:=Qq;have tx:=p8 _ T;walk_at "ok"
 ·refine⟨uW K XQ.E XQ.F XQ.L (iD 1) (iD 2) (rZ (.bl false)) (iD 0) (rZ (.bl true)) (bZ XQ Zfw) (lF XQ),(ao (gm 1 sc.nd Ξ)
   (ao (gm 2 sc.nd (aK Ξ rfl))
   (ao (gm 3 sc.nd (G.wj (sG (pv 2) T.Dn T.vh uo.g af uo.b .nil G.fV (aa (aK Ψ rfl) (aa (cg G.cz η T.iQ G.boot_len (aa Ξ au)) au))) (G.wj (sG (pv 2) T.Jr T.wH yQ.g af yQ.b .nil G.fV (aa (aK Ψ rfl) (aa (cg G.cz η T.iQ G.boot_len (aa Ξ au)) au))) (sG (pv 2) T.Jq T.wF yO.g af yO.b .nil G.fV (aa (aK Ψ rfl) (aa (cg G.cz η T.iQ G.boot_len (aa Ξ au)) au))))))
   (ao (gm 4 sc.nd (iH Ay hr T.Aj (aa ρ (aa (pv 3) au))))
   (ao (cB (PW.pt (qU (m5 iI (pv 3) (az)) (qw (qx (PW.pt (qU (lK (G.wj (lW (pv 2) T.Dn T.vg iG.g af iG.b .nil G.fV) (G.wj (lW (pv 2) T.Jr T.yc iG.g af iG.b .nil G.fV) (lW (pv 2) T.Jq T.xZ uG.g af uG.b .nil G.fV)))) (qw (Zbt (pv 4) (λ_=>rfl))))))))) (aA (aM (iH Zzo hr T.Ztx (aa ρ au)))) aZ)
   (ao (cJ Ψ (bh jF (aK Ψ rfl) (az)) rfl)
   (ao (cB (lK (G.wj (lW (pv 2) T.Dn T.vg iG.g af iG.b .nil G.fV) (G.wj (lW (pv 2) T.Jr T.yc iG.g af iG.b .nil G.fV) (lW (pv 2) T.Jq T.xZ uG.g af uG.b .nil G.fV)))) (aA (cJ Ψ (bh Zy2 (aK Ψ rfl) (pv 3)) rfl)) aZ)
   (aA (aM (cF (aa (aQ) (aa (pv 3) (aa (pv 4) au))))))))))))),?_⟩
  obtain⟨z0,rfl,q⟩:=h;exact Ry tx q
theorem Zva{fd:AK}{Za5 Vs Zdh yj:AK}(F:jE K "cut" "cut" Zma Fe fd)(Ze7:ι 3 jH Za5 Cu (wN XQ))(Zb7:ι 5 iV Vs ["world"] (uE XQ))(Zhy:ι 2 lO Zdh ["world"] (Ar XQ))(Aw:ι 1 gM yj ["event"] (mV K)):μ 6 Fe fd ["world"] (bZ XQ Zfw):=by
 have sc:=Zus;have tx:=p8 _ T;walk_at "ok"
 ·refine⟨Zfp K (wN XQ) (uE XQ) (Ar XQ) (mV K),(ao (gm 1 sc.nd Ξ)
   (ao (cJ Ψ (cg G.cz η T.iQ G.boot_len (aa (aK Ξ rfl) au)) rfl)
   (ao (cJ Ψ (az) rfl)
   (ao (gm 2 sc.nd (iH Zb7 hr T.Ir (aa ρ au)))
   (ao (cB (m5 G.HR (pv 2) (gf)) (ao (cJ Ψ (aQ) rfl)
   (ao (cJ Ψ (pv 2) rfl)
   (aA (aM (iH Aw hr T.Ai (aa (pv 2) au)))))) aZ)
   (ao (cJ Ψ (aQ) rfl)
   (ao (gm 3 sc.nd (iH Ze7 hr T.M9 (aa Ξ (aa (iH Zhy hr T.Ru (aa ρ au)) au))))
   (aA (aM (cF (aa (aQ) (aa (cg G.cz η T.iQ G.boot_len (aa (pv 3) au)) (aa (pv 3) au))))))))))))),?_⟩
  obtain⟨z0,rfl,q⟩:=h;exact Zww tx q
theorem Up{fd:AK}{gK Zh5 Zp7:AK}(F:jE K "first_loss" "first_loss" zb iV fd)(ju:ι 1 eV gK mj (di XQ))(Zlo:ι 3 nG Zh5 Ku (DX K XQ.C XQ.H))(Ztj:ι 4 sV Zp7 ["world"] (Pu XQ)):μ 5 iV fd ["world"] (uE XQ):=by
 have sc:=TX;have tx:=p8 _ T;walk_at "ok"
 ·refine⟨xG K (di XQ) (DX K XQ.C XQ.H) (Pu XQ),(ao (tZ PassesOwn.never rfl (qy (iH Zlo hr T.WL (aa Ξ (aa (iH Ztj hr T.Zig (aa ρ au)) au)))) (YL rfl (m7 (gJ (i:=1) sc.nd rfl (Or.inl rfl)) (m7 (gJ (i:=2) sc.nd rfl (Or.inl rfl)) HJ)))
   (ao (gm 3 sc.nd (iR fj (aK Ξ rfl) Ψ))
   (aA (cB (qx (lK (iH ju hr T.nY (aa ρ (aa (pv 3) au))))) (aA (aM (cF (aa (aQ) (aa (aK (pv 3) rfl) (aa (rJ Js η T.uK G.boot_list (aa (pv 2) au)) au)))))) aZ))))
   (aA (aM (gf)))),?_⟩
  obtain⟨z0,rfl,q⟩:=h;exact Vp tx q
theorem Zc6{fd:AK}{o9 gK:AK}(F:jE K "given_up" "given_up" Fw lO fd)(lG:ι 1 fB o9 ["self"] (jl XQ.H))(ju:ι 1 eV gK mj (di XQ)):μ 2 lO fd ["world"] (Ar XQ):=by
 have sc:=Zbm;have tx:=p8 _ T;walk_at "ok"
 ·refine⟨Ck K XQ.H (jl XQ.H) (di XQ),(ao (Zmn (i:=1) sc.nd rfl (Or.inr rfl) Ξ)
   (aA (aM (G.Zbv (cns:=["world","heap"]) [0,1] (qy (lW Ψ T.cP T.sS lG.g af lG.b .nil G.fV)) (λ_ _ _ _ _=>(G.Zfs (qx (lK (iH ju hr T.nY (aa Ψ (aa (iR fj (aK (pv 2) rfl) ρ) au))))))) (λ_ _ _ _ _=>ρ) rfl rfl ad (by repeat (first | exact trivial | refine⟨rfl,?_⟩)) rfl γ rfl γ γ rfl γ)))),?_⟩
  obtain⟨z0,rfl,q⟩:=h;exact Zde tx q
theorem Uk{fd:AK}(F:jE K "told_again" "told_again" yW gM fd):μ 1 gM fd ["event"] (mV K):=by
 have sc:=TF;walk_at "ok"
 ·refine⟨xr K,(aA (aM (cF (aa (iR bD ρ (az)) (aa (iR bD ρ (az)) (aa (rJ G.vI η T.uK G.boot_list (aa (iR bD ρ (az)) au)) au)))))),?_⟩;obtain⟨z0,rfl,q⟩:=h;exact Ti q
theorem Om{fd:AK}{Zwo Vq:AK}(F:jE K "step_in_give" "step_in_give" uP cT fd)(Zzn:ι 1 Fb Zwo ["world"] (bZ XQ pEnd))(Zb5:ι 3 iT Vq ["world"] (bZ XQ Zbz)):μ 4 cT fd ["world"] (bZ XQ (O5 "give")):=by
 have sc:=Oh;have tx:=p8 _ T;walk_at "ok"
 ·refine⟨tX K (bZ XQ pEnd) (bZ XQ Zbz),(ao (cB (m5 Er (aK Ξ rfl) (aK Ξ rfl)) (aA (aM (iH Zb5 hr T.Im (aa ρ au)))) aZ)
   (aA (aM (iH Zzn hr T.Ztw (aa ρ au))))),?_⟩
  obtain⟨z0,rfl,q⟩:=h;exact Oa tx q
theorem Ul{fd:AK}{Zag j7 gK:AK}(F:jE K "pass_place" "pass_place" yX iT fd)(NQ:ι 2 jt Zag CV (tG XQ.C XQ.H))(lZ:ι 1 iK j7 pY (d8 XQ.H))(ju:ι 1 eV gK mj (di XQ)):μ 3 iT fd ["world"] (bZ XQ Zbz):=by
 have sc:=TJ;have tx:=p8 _ T;walk_at "ok"
 ·refine⟨xu K XQ.H (tG XQ.C XQ.H) (d8 XQ.H) (di XQ),(ao (gm 1 sc.nd Ξ)
   (ao (gm 2 sc.nd (aK Ψ rfl))
   (ao (cJ Ψ (bh jF (pv 2) (az)) rfl)
   (ao (cJ Ψ (bh jF (aK Ψ rfl) (az)) rfl)
   (ao (gm 3 sc.nd (iH lZ hr T.rT (aa Ξ (aa (pv 2) au))))
   (ao (cB (PW.pt (qU (m5 G.wB (pv 3) (gf)) (qw (lK (iH ju hr T.nY (aa ρ (aa (pv 3) au))))))) (aA (aM (cF (aa (aQ) (aa (pv 2) (aa (cQ au) au)))))) aZ)
   (aA (aM (cF (aa (aQ) (aa (sG Ξ T.cP T.Il NQ.g af NQ.b .nil G.fV (aa (pv 2) au)) (aa (cQ (aa (pv 2) au)) au)))))))))))),?_⟩
  obtain⟨z0,rfl,q⟩:=h;exact Uj tx q
theorem Zv7{fd:AK}(F:jE K "end" "end" s_end Fb fd):μ 1 Fb fd ["world"] (bZ XQ pEnd):=by
 have sc:=Zur;have tx:=p8 _ T;walk_at "ok"
 ·refine⟨Zfo K,(ao (gm 1 sc.nd Ξ)
   (ao (cJ Ψ (aQ) rfl)
   (aA (aM (cF (aa (aQ) (aa (aK Ψ rfl) (aa (cQ (aa (aK Ψ rfl) (aa (aK Ψ rfl) (aa (aK Ψ rfl) au)))) au)))))))),?_⟩
  obtain⟨z0,rfl,q⟩:=h;exact Zwt tx q
theorem HW{fd:AK}(F:jE K "step_when_lost" "step_when_lost" qZ bV fd){yj:AK}(Aw:ι 1 gM yj ["event"] (mV K)):μ 2 bV fd ["world"] (bZ XQ (O5 "lost")):=by
 have sc:=Hs;have tx:=p8 _ T;walk_at "ok"
 ·refine⟨qe K (mV K),(aA (aM (iH Aw hr T.Ai (aa (aK Ξ rfl) au)))),?_⟩;obtain⟨z0,rfl,q⟩:=h;exact GZ tx q
theorem Zrm{fd:AK}{Oz Ox Ow Ji:AK}(F:jE K "step" "step" Zfg yp fd)(vN:ι 5 cU Oz ["world"] (bZ XQ (O5 "rest")))(vM:ι 4 cT Ox ["world"] (bZ XQ (O5 "give")))(vL:ι 8 cR Ow ["world"] (bZ XQ (O5 "walk")))(sr:ι 2 bV Ji ["world"] (bZ XQ (O5 "lost"))):μ 9 yp fd ["world"] (bZ XQ Zn3):=by
 have sc:=Zqd;have tx:=p8 _ T;walk_at "ok"
 ·refine⟨YB K cU cT cR bV (bZ XQ (O5 "rest")) (bZ XQ (O5 "give")) (bZ XQ (O5 "walk")) (bZ XQ (O5 "lost")),(ao (gm 1 sc.nd (G.Zmv T.Wo rfl (aK Ξ rfl) (λ_ _=>rfl)))
   (aA (aM (G.Zbx (k:=8) (G.Th.cons ε vN.g vN.b vN.k (G.Th.cons ε vL.g vL.b vL.k (G.Th.cons ε vM.g vM.b vM.k (G.Th.cons ε sr.g sr.b sr.k G.Th.nil)))) af rfl (Or.inl rfl) G.fV (aa ρ au))))),?_⟩
  obtain⟨z0,rfl,q⟩:=h;exact Zq5 tx q
theorem Zjz{fd:AK}(F:jE K "all_of" "all_of" QB oA fd):μ 1 oA fd ["hands"] (vK):=by
 have sc:=Zjk;walk_at "ok"
 ·refine⟨Km,(aA (aM (bh Ad (bh Zn4 (az) ρ) (az)))),?_⟩;obtain⟨z0,rfl,q⟩:=h;exact Zli q
theorem Ef{fd:AK}(F:jE K "at_begin" "Looking.at_begin" pK bQ fd):μ 1 bQ fd pO (oF 1):=by
 have sc:=Ec;walk_at "ok"
 ·refine⟨oY,(aA (aM (az))),?_⟩;obtain⟨z0,z1,rfl,q⟩:=h;exact Em q
theorem CW{fd:AK}(F:jE K "next_look" "Looking.next_look" oU bW fd):μ 1 bW fd oZ (iD 0):=by
 have sc:=Bs;walk_at "ok"
 ·refine⟨nT,(aA (aM (az))),?_⟩;obtain⟨z0,z1,z2,rfl,q⟩:=h;exact Du q
theorem KN{fd:AK}(F:jE K "stays" "Looking.stays" tO cM fd):μ 1 cM fd ["self"] (rZ (.bl true)):=by
 have sc:=JX;walk_at "ok"
 ·refine⟨rD,(aA (aM (qz))),?_⟩;obtain⟨z0,rfl,q⟩:=h;exact Mm q
theorem Ia{fd:AK}(F:jE K "at_begin" "First.at_begin" rA dM fd){LC:AK}(S6:ι 1 oA LC ["hands"] (vK)):μ 2 dM fd rN (oF 0):=by
 have sc:=Hv;walk_at "ok"
 ·refine⟨qm (vK),(aA (aM (iH S6 hr T.Rv (aa Ψ au)))),?_⟩;obtain⟨z0,z1,rfl,q⟩:=h;exact JF q
theorem Ib{fd:AK}(F:jE K "next_look" "Each.next_look" rB dN fd):μ 1 dN fd rO (iD 1):=by
 have sc:=Hw;walk_at "ok"
 ·refine⟨qp,(ao (tZ PassesOwn.never rfl (uI rfl T.uq (aa (pv 2) au)) (gJ (i:=3) sc.nd rfl (Or.inl rfl))
   (aA (cB (m5 iI (bh QX (bh Zfx Ψ (pv 3)) (az)) (az)) (aA (aM (bh Zn4 (az) (pv 3)))) aZ)))
   (aA (aM (az)))),?_⟩
  obtain⟨z0,z1,z2,rfl,q⟩:=h;exact JG q
theorem HY{fd:AK}(F:jE K "next_look" "Last.next_look" rz dJ fd){LC:AK}(S6:ι 1 oA LC ["hands"] (vK)):μ 2 dJ fd rM (iD 2):=by
 have sc:=Hu;walk_at "ok"
 ·refine⟨qj (vK),(aA (aM (iH S6 hr T.Rv (aa (pv 2) au)))),?_⟩;obtain⟨z0,z1,z2,rfl,q⟩:=h;exact JB q
theorem Uw{fd:AK}(F:jE K "stays" "Last.stays" zz gQ fd):μ 1 gQ fd ["self"] (rZ (.bl false)):=by
 have sc:=Ue;walk_at "ok"
 ·refine⟨xP,(aA (aM (qz))),?_⟩;obtain⟨z0,rfl,q⟩:=h;exact VR q
theorem KQ{fd:AK}(F:jE K "__init__" "Kind.__init__" tQ dD fd):μ 1 dD fd uc (tE XQ.K):=by
 have sc:=JZ;have tx:=p8 _ T;walk_at "ok"
 ·refine⟨rE K,(ao (cJ ρ Ψ rfl)
   (aA (cJ ρ (pv 2) rfl))),?_⟩
  obtain⟨z0,z1,z2,rfl,q⟩:=h;exact Mp tx q
theorem Zc4{fd:AK}(F:jE K "slots_of" "slots_of" Ft eE fd):μ 1 eE fd jZ (cu XQ):=by
 have sc:=Zbk;have tx:=p8 _ T;walk_at "ok"
 ·refine⟨Cg K,(aA (aM (aK (iR fj Ξ Ψ) rfl))),?_⟩;obtain⟨z0,z1,rfl,q⟩:=h;exact Zbj tx q
theorem Zg8{fd:AK}{j7 dY:AK}(F:jE K "cell_in" "cell_in" Kf jV fd)(lZ:ι 1 iK j7 pY (d8 XQ.H))(eF:ι 1 eE dY jZ (cu XQ)):μ 2 jV fd uJ (jW XQ aJ):=by
 have sc:=Zfc;have tx:=p8 _ T;walk_at "okX"
 ·refine⟨Gb K aJ (d8 XQ.H) (cu XQ) E,(ao (gm 3 sc.nd (iH lZ hr T.rT (aa Ξ (aa (iR fj (iH eF hr T.j6 (aa ρ (aa Ψ au))) (pv 2)) au))))
   (ao (cB (m5 G.wB (pv 3) (gf)) (aA (G.HH rfl rfl T.Nq T.vW (aa (aQ) au) (λ_ _ _ _ _ _ _ I hx hE=>G.YG I hx hE))) aZ)
   (aA (aM (pv 3))))),?_⟩
  obtain⟨z0,z1,z2,rfl,q⟩:=h;exact Zho tx q
theorem Y5{fd:AK}{Jo pQ:AK}(F:jE K "fields_in" "fields_in" Bv jq fd)(yR:ι 1 dO Jo rP (wM XQ))(iM:ι 2 jV pQ uJ (jW XQ aJ)):μ 3 jq fd wA (oE XQ aJ aV):=by
 have sc:=Ye;have tx:=p8 _ T;walk_at "okX"
 ·refine⟨zH K XQ.C aV (wM XQ) (jW XQ aJ) E,(ao (gm 4 sc.nd (wu iM.g af rfl T.yI iM.k iM.b .nil G.HQ (aa ρ (aa Ψ (aa (pv 2) au)))))
   (ao (cB (qx (lK (sG (pv 4) T.dB T.wI yR.g af yR.b .nil G.fV (aa (pv 3) au)))) (aA (G.HH rfl rfl T.WQ T.Dy (aa (aQ) au) (λ_ _ _ _ _ _ _ I hx hE=>G.YG I hx hE))) aZ)
   (aA (aM (aK (pv 4) rfl))))),?_⟩
  obtain⟨z0,z1,z2,z3,rfl,q⟩:=h;exact Za2 tx q
theorem Q3{fd:AK}(F:jE K "told_as_old" "told_as_old" wY gw fd):μ 1 gw fd xU (Aq XQ):=by
 have sc:=Qn;have tx:=p8 _ T;walk_at "ok"
 ·refine⟨uT K,(ao (cB (m5 iI (bh QX (aK Ξ rfl) (T.Zu2.pe rfl)) (az)) (aA (aM (cQ au))) aZ)
   (aA (aM (cQ (aa Ψ au))))),?_⟩
  obtain⟨z0,z1,rfl,q⟩:=h;exact Qa tx q
theorem Q4{fd:AK}(F:jE K "told_as_new" "told_as_new" wZ fY fd){Za3:AK}(Ze6:ι 1 jG Za3 Cr (wL XQ)):μ 2 fY fd sH (pW XQ):=by
 have sc:=Qo;have tx:=p8 _ T;walk_at "ok"
 ·refine⟨uU K (wL XQ),(ao (cB (PW.pt (qU (m5 iI (bh QX (aK Ξ rfl) (T.Zu3.pe rfl)) (az)) (qw (lK (iH Ze6 hr T.M8 (aa ρ (aa Ψ au))))))) (aA (aM (cQ au))) aZ)
   (aA (aM (cQ (aa (pv 2) au))))),?_⟩
  obtain⟨z0,z1,z2,rfl,q⟩:=h;exact Qc tx q
theorem Zg4{fd:AK}{Zae eU dY:AK}(F:jE K "do_make" "do_make" Ka ie fd)(NK:ι 3 iB Zae CT (wO K XQ.C XQ.H bU))(gh:ι 2 eX eU lM (cN XQ))(eF:ι 1 eE dY jZ (cu XQ)):μ 4 ie fd Kz (cG XQ Φ Ln):=by
 have sc:=Zf8;have tx:=p8 _ T;walk_at "okX"
 ·refine⟨FT K XQ.H (wO K XQ.C XQ.H bU) (cN XQ) (cu XQ) E,(ao (gm 2 sc.nd (iH eF hr T.j6 (aa ρ (aa χ au))))
   (ao (gm 3 sc.nd χ)
   (ao (gm 4 sc.nd χ)
   (ao (gm 5 sc.nd (sG Ξ T.cP T.Ij NK.g af NK.b .nil G.HQ (aa (pv 3) (aa (pv 4) (aa (aK Ξ rfl) au)))))
   (ao (u6 (pv 5) (xT (pv 2) χ set_list))
   (aA (aM (cF (aa (aQ) (aa (iH gh hr T.mO (aa Ξ (aa (pv 5) au))) (aa (cQ au) au))))))))))),?_⟩
  obtain⟨z0,z1,rfl,q⟩:=h;exact Zhh tx rfl q
theorem Zjy{fd:AK}{eU An dY:AK}(F:jE K "do_get" "do_get" Qz jD fd)(gh:ι 2 eX eU lM (cN XQ))(oG:ι 3 jq An wA (oE XQ aJ aV))(eF:ι 1 eE dY jZ (cu XQ)):μ 4 jD fd QV (cG XQ Φ WY):=by
 have sc:=Zjj;have tx:=p8 _ T;walk_at "okX"
 ·refine⟨Kl K (cN XQ) (oE XQ aJ aV) (cu XQ) E,(ao (gm 2 sc.nd χ)
   (ao (gm 3 sc.nd χ)
   (ao (gm 4 sc.nd χ)
   (ao (gm 5 sc.nd (iR fj (wu oG.g af rfl T.Dg oG.k oG.b .nil G.HQ (aa ρ (aa (pv 2) (aa (pv 3) (aa (pv 4) au))))) (pv 4)))
   (ao (u6 (pv 5) (xT (iH eF hr T.j6 (aa ρ (aa (pv 2) au))) χ set_list))
   (aA (aM (cF (aa (aQ) (aa (iH gh hr T.mO (aa Ξ (aa (pv 5) au))) (aa (cQ au) au))))))))))),?_⟩
  obtain⟨z0,z1,rfl,q⟩:=h;exact Zl8 tx rfl rfl q
theorem Zjx{fd:AK}{eU An lE dY vB R1:AK}(F:jE K "do_put" "do_put" Qy jC fd)(gh:ι 2 eX eU lM (cN XQ))(oG:ι 3 jq An wA (oE XQ aJ aV))(mX:ι 3 gP lE pN (fO XQ))(eF:ι 1 eE dY jZ (cu XQ))(yu:ι 2 fY vB sH (pW XQ))(V1:ι 1 gw R1 xU (Aq XQ)):μ 4 jC fd QT (cG XQ Φ WX):=by
 have sc:=Zji;have tx:=p8 _ T;walk_at "okX"
 ·refine⟨Kh K (cN XQ) (oE XQ aJ aV) (fO XQ) (cu XQ) (pW XQ) (Aq XQ) E,(ao (gm 2 sc.nd χ)
   (ao (gm 3 sc.nd χ)
   (ao (gm 4 sc.nd (wu oG.g af rfl T.Dg oG.k oG.b .nil G.HQ (aa ρ (aa (pv 2) (aa χ (aa (pv 3) au))))))
   (ao (gm 5 sc.nd (iR fj (pv 4) (pv 3)))
   (ao (gm 6 sc.nd (iR fj (iH eF hr T.j6 (aa ρ (aa (pv 2) au))) χ))
   (ao (u6 (pv 6) (xT (pv 4) (pv 3) set_list))
   (ao (gm 7 sc.nd (iH mX hr T.rR (aa ρ (aa (bh pP (iH V1 hr T.Es (aa ρ (aa (pv 5) au))) (iH yu hr T.yd (aa ρ (aa (pv 2) (aa (pv 6) au))))) au))))
   (aA (aM (cF (aa (aQ) (aa (iH gh hr T.mO (aa Ξ (aa (pv 5) au))) (aa (pv 7) au))))))))))))),?_⟩
  obtain⟨z0,z1,rfl,q⟩:=h;exact Zl7 tx rfl rfl q
theorem Zg7{fd:AK}{eU dY:AK}(F:jE K "do_copy" "do_copy" Ke iu fd)(gh:ι 2 eX eU lM (cN XQ))(eF:ι 1 eE dY jZ (cu XQ)):μ 3 iu fd KH (cG XQ Φ Lw):=by
 have sc:=Zfb;have tx:=p8 _ T;walk_at "ok"
 ·refine⟨Ga K (cN XQ) (cu XQ),(ao (gm 2 sc.nd (iH eF hr T.j6 (aa ρ (aa χ au))))
   (ao (gm 3 sc.nd (iR fj (pv 2) χ))
   (ao (u6 (pv 3) (xT (pv 2) χ set_list))
   (aA (aM (cF (aa (aQ) (aa (iH gh hr T.mO (aa Ξ (aa (pv 3) au))) (aa (cQ au) au))))))))),?_⟩
  obtain⟨z0,z1,rfl,q⟩:=h;exact Zhk tx q
theorem Zg6{fd:AK}{eU dY:AK}(F:jE K "do_drop" "do_drop" Kd ir fd)(gh:ι 2 eX eU lM (cN XQ))(eF:ι 1 eE dY jZ (cu XQ)):μ 3 ir fd KD (cG XQ Φ Ls):=by
 have sc:=Zfa;have tx:=p8 _ T;walk_at "ok"
 ·refine⟨FZ K (cN XQ) (cu XQ),(ao (gm 2 sc.nd (iH eF hr T.j6 (aa ρ (aa χ au))))
   (ao (gm 3 sc.nd (iR fj (pv 2) χ))
   (ao (u6 (gf) (xT (pv 2) χ set_list))
   (aA (aM (cF (aa (aQ) (aa (iH gh hr T.mO (aa Ξ (aa (pv 3) au))) (aa (cQ au) au))))))))),?_⟩
  obtain⟨z0,z1,rfl,q⟩:=h;exact Zhj tx q
theorem Zg5{fd:AK}{eU lE dY vB:AK}(F:jE K "do_give" "do_give" Kc ig fd)(gh:ι 2 eX eU lM (cN XQ))(mX:ι 3 gP lE pN (fO XQ))(eF:ι 1 eE dY jZ (cu XQ))(yu:ι 2 fY vB sH (pW XQ)):μ 4 ig fd KC (cG XQ Φ Lr):=by
 have sc:=Zf9;have tx:=p8 _ T;walk_at "ok"
 ·refine⟨FW K (cN XQ) (fO XQ) (cu XQ) (pW XQ),(ao (gm 2 sc.nd χ)
   (ao (gm 3 sc.nd χ)
   (ao (gm 4 sc.nd (iR fj (iH eF hr T.j6 (aa ρ (aa (pv 2) au))) χ))
   (ao (u6 (pv 4) (xT (iH eF hr T.j6 (aa ρ (aa (pv 3) au))) χ set_list))
   (ao (gm 5 sc.nd (iH mX hr T.rR (aa ρ (aa (iH yu hr T.yd (aa ρ (aa (pv 2) (aa (pv 4) au)))) au))))
   (aA (aM (cF (aa (aQ) (aa (iH gh hr T.mO (aa Ξ (aa (pv 4) au))) (aa (pv 5) au))))))))))),?_⟩
  obtain⟨z0,z1,rfl,q⟩:=h;exact Zhi tx q
theorem Zc7{fd:AK}(F:jE K "do_write" "do_write" Fx fL fd){pQ:AK}(iM:ι 2 jV pQ uJ (jW XQ aJ)):μ 3 fL fd Gg (cG XQ Φ DQ):=by
 have sc:=Zbn;have tx:=p8 _ T;walk_at "okX"
 ·refine⟨Cm K (jW XQ aJ) E,(ao (gm 2 sc.nd (wu iM.g af rfl T.yI iM.k iM.b .nil G.HQ (aa ρ (aa χ (aa χ au)))))
   (ao (gm 3 sc.nd (aK (pv 2) rfl))
   (ao (cJ (pv 2) χ rfl)
   (aA (aM (cF (aa (aQ) (aa (pv 3) (aa (cQ au) au))))))))),?_⟩
  obtain⟨z0,z1,rfl,q⟩:=h;exact Zdp tx rfl q
theorem Zg2{fd:AK}(F:jE K "do_read" "do_read" J8 gY fd){pQ:AK}(iM:ι 2 jV pQ uJ (jW XQ aJ)):μ 3 gY fd Kw (cG XQ Φ Lj):=by
 have sc:=Zf6;have tx:=p8 _ T;walk_at "okX"
 ·refine⟨FP K (jW XQ aJ) E,(ao (gm 2 sc.nd (wu iM.g af rfl T.yI iM.k iM.b .nil G.HQ (aa ρ (aa χ (aa χ au)))))
   (aA (aM (cF (aa (aQ) (aa (aK (pv 2) rfl) (aa (cQ au) au))))))),?_⟩
  obtain⟨z0,z1,rfl,q⟩:=h;exact Zhf tx rfl q
theorem Zg3{fd:AK}{pQ dY:AK}(F:jE K "do_name" "do_name" J9 gZ fd)(iM:ι 2 jV pQ uJ (jW XQ aJ))(eF:ι 1 eE dY jZ (cu XQ)):μ 3 gZ fd Ky (cG XQ Φ isName):=by
 have sc:=Zf7;have tx:=p8 _ T;walk_at "okX"
 ·refine⟨FQ K (jW XQ aJ) (cu XQ) E,(ao (gm 2 sc.nd χ)
   (ao (gm 3 sc.nd χ)
   (ao (gm 4 sc.nd (aK (wu iM.g af rfl T.yI iM.k iM.b .nil G.HQ (aa ρ (aa (pv 2) (aa (pv 3) au)))) rfl))
   (ao (O3 (sZ hr) Ξ χ (cF (aa (iR fj (iH eF hr T.j6 (aa ρ (aa (pv 2) au))) (pv 3)) (aa (pv 4) au))) rfl)
   (aA (aM (cF (aa (aQ) (aa (pv 4) (aa (cQ au) au)))))))))),?_⟩
  obtain⟨z0,z1,rfl,q⟩:=h;exact Zhg tx rfl q
theorem Zg1{fd:AK}{eU lE R3 dY:AK}(F:jE K "do_seek" "do_seek" J7 gW fd)(gh:ι 2 eX eU lM (cN XQ))(mX:ι 3 gP lE pN (fO XQ))(yw:ι 3 gA R3 xV (sX XQ bC))(eF:ι 1 eE dY jZ (cu XQ)):μ 4 gW fd Kv (cG XQ Φ Li):=by
 have sc:=Zf5;have tx:=p8 _ T;walk_at "okX"
 ·refine⟨FN K (cN XQ) (fO XQ) (sX XQ bC) (cu XQ) E,(ao (gm 2 sc.nd (wu yw.g af rfl T.Et yw.k yw.b .nil G.HQ (aa ρ (aa χ au))))
   (ao (u6 (pv 2) (xT (iH eF hr T.j6 (aa ρ (aa χ au))) χ set_list))
   (ao (gm 3 sc.nd (iH mX hr T.rR (aa ρ (aa (cQ (aa (pv 2) au)) au))))
   (aA (aM (cF (aa (aQ) (aa (iH gh hr T.mO (aa Ξ (aa (pv 2) au))) (aa (pv 3) au))))))))),?_⟩
  obtain⟨z0,z1,rfl,q⟩:=h;exact Zhe tx rfl q
theorem Q5{fd:AK}(F:jE K "place_named" "place_named" w6 gA fd){Za4:AK}(Zhx:ι 2 vC Za4 YS (Gv XQ)):μ 3 gA fd xV (sX XQ bC):=by
 have sc:=Qp;have tx:=p8 _ T;walk_at "okX"
 ·refine⟨uV K bC (Gv XQ) E,(ao (cB (Zml (Zjt (sZ hr) Ψ Ξ)) (aA (G.HH rfl rfl T.Zcq T.GF (aa (aQ) au) (λ_ _ _ _ _ _ _ I hx hE=>G.YG I hx hE))) aZ)
   (ao (gm 2 sc.nd (iR bD (Gy hr Ξ Ψ) (az)))
   (ao (gm 3 sc.nd (iR bD (Gy hr Ξ Ψ) (az)))
   (ao (cB (lK (iH Zhx hr T.Zgg (aa ρ (aa (pv 2) (aa (pv 3) au))))) (aA (aM (gf))) aZ)
   (aA (aM (pv 2))))))),?_⟩
  obtain⟨z0,z1,rfl,q⟩:=h;exact QL tx q
theorem Zy4{fd:AK}{Zhc Zhb Zl5 Zha Zh9 Zh8 Zl4 Zh7 Zh6 Zdi:AK}(F:jE K "do" "do" Zut VD fd)(Mz:ι 3 iu Zhc KH (cG XQ Φ Lw))(My:ι 3 ir Zhb KD (cG XQ Φ Ls))(S5:ι 4 jD Zl5 QV (cG XQ Φ WY))(Mx:ι 4 ig Zha KC (cG XQ Φ Lr))(Mw:ι 4 ie Zh9 Kz (cG XQ Φ Ln))(Mv:ι 3 gZ Zh8 Ky (cG XQ Φ isName))(SX:ι 4 jC Zl4 QT (cG XQ Φ WX))(Mu:ι 3 gY Zh7 Kw (cG XQ Φ Lj))(Ms:ι 4 gW Zh6 Kv (cG XQ Φ Li))(Gx:ι 3 fL Zdi Gg (cG XQ Φ DQ)):μ 5 VD fd Zuz (cG XQ Φ (λ_=>True)):=by
 have sc:=Zxw;have tx:=p8 _ T;walk_at "okX"
 ·refine⟨Zmc K iu ir jD ig ie gZ jC gY gW fL (cG XQ Φ Lw) (cG XQ Φ Ls) (cG XQ Φ WY) (cG XQ Φ Lr) (cG XQ Φ Ln) (cG XQ Φ isName) (cG XQ Φ WX) (cG XQ Φ Lj) (cG XQ Φ Li) (cG XQ Φ DQ) E,(ao (gm 2 sc.nd (G.Zmv T.Wq rfl χ (λ_ _=>rfl)))
   (aA (aM (G.Zbx (k:=4) (G.Th.cons ε Mw.g Mw.b Mw.k (G.Th.cons ε S5.g S5.b S5.k (G.Th.cons ε SX.g SX.b SX.k (G.Th.cons ε Mz.g Mz.b Mz.k (G.Th.cons ε My.g My.b My.k (G.Th.cons ε Mx.g Mx.b Mx.k (G.Th.cons ε Gx.g Gx.b Gx.k (G.Th.cons ε Mu.g Mu.b Mu.k (G.Th.cons ε Mv.g Mv.b Mv.k (G.Th.cons ε Ms.g Ms.b Ms.k G.Th.nil)))))))))) af rfl (Or.inl rfl) G.HQ (aa ρ (aa Ψ au)))))),?_⟩
  obtain⟨z0,z1,rfl,q⟩:=h;exact Zza tx q
theorem Zh{fd:AK}(F:jE K "_law_cell" "_law_cell" BZ gj fd):μ 1 gj fd pZ (qQ K):=by
 have sc:=Yr;walk_at "ok"
 ·refine⟨zV K,(ao (cB (m5 Er Ψ (cg G.cz η T.iQ G.boot_len (aa ρ au))) (aA (aM (iR fj ρ Ψ))) aZ)
   (aA (aM (az)))),?_⟩
  obtain⟨z0,z1,rfl,q⟩:=h;exact Zav q
theorem Zf{fd:AK}(F:jE K "_law_draw" "_law_draw" BW d9 fd):μ 1 d9 fd lB (jB):=by
 have sc:=Yp;walk_at "ok"
 ·refine⟨zT,(aA (aM (bh gn (bh gn (bh KJ (bh gn ρ Ψ) (az)) Ψ) (pv 2)))),?_⟩;obtain⟨z0,z1,z2,rfl,q⟩:=h;exact Zat q
theorem Y7{fd:AK}(F:jE K "_law_word" "_law_word" Bx iy fd):μ 1 iy fd sY (qP):=by
 have sc:=Yh;walk_at "ok"
 ·refine⟨zK,(ao (gm 2 sc.nd (aQ))
   (ao (gm 3 sc.nd (bh jF (az) (bh gn ρ (az))))
   (ao (gm 4 sc.nd (bh gn (bh qD ρ (az)) (pv 3)))
   (ao (gm 5 sc.nd (iR Zoc (pv 2) (bh gn (bh qD ρ (az)) (az))))
   (ao (gm 6 sc.nd (iR Zoc (pv 2) (bh gn (bh jF (bh qD ρ (az)) (bh KJ (az) Ψ)) (az))))
   (aA (aM (bh QZ (bh QZ (bh G.Zif (pv 5) (pv 4)) (pv 6)) (bh G.Zif (pv 5) (bh Ad (bh Ad (pv 3) (az)) (pv 4))))))))))),?_⟩
  obtain⟨z0,z1,rfl,q⟩:=h;exact Zal q
theorem Us{fd:AK}{mR fu qO:AK}(F:jE K "_law_hands" "_law_hands" zp iZ fd)(jR:ι 1 gj mR pZ (qQ K))(cj:ι 1 d9 fu lB (jB))(tH:ι 1 iy qO sY (qP)):μ 2 iZ fd z9 (PB K):=by
 have sc:=Ua;walk_at "ok"
 ·refine⟨xK K (qQ K) (jB) (qP),(ao (gm 1 sc.nd (iH jR hr T.mC (aa ρ (aa (az) au))))
   (ao (gm 2 sc.nd (cQ au))
   (ao (tZ PassesOwn.never rfl (uI rfl T.uq (aa (bh jF (az) (iH cj hr T.cX (aa Ψ ag))) au)) (gJ (i:=3) sc.nd rfl (Or.inl rfl))
   (ao (gm 4 sc.nd (az))
   (ao (cB (m5 iI (bh gn Ψ (az)) (az)) (aA (gm 4 sc.nd (bh jF (az) (iH cj hr T.cX (aa (bh jF Ψ (bh KJ (bh KJ (az) (pv 3)) (pv 3))) ag))))) aZ)
   (aA (oJ (wz PySem.F.plainAttrs_list PySem.F.slot_list_append PySem.F.type_list_append nD (pv 2) (aa (cF (aa (iH tH hr T.wJ (aa Ψ (aa (pv 3) au))) (aa (pv 4) au))) au)))))))
   (aA (aM (pv 2)))))),?_⟩
  obtain⟨z0,rfl,q⟩:=h;exact VL q
theorem Za{fd:AK}{mR fu:AK}(F:jE K "_law_room" "_law_room" BK jL fd)(jR:ι 1 gj mR pZ (qQ K))(cj:ι 1 d9 fu lB (jB)):μ 2 jL fd Cy (Zaw K):=by
 have sc:=Yk;walk_at "ok"
 ·refine⟨zN (qQ K) (jB),(ao (gm 1 sc.nd (iH jR hr T.mC (aa ρ (aa (az) au))))
   (ao (cB (m5 iI (iH cj hr T.cX (aa Ψ ag)) (az)) (aA (aM (bh jF (az) (bh gn (bh qD Ψ (az)) (az))))) aZ)
   (aA (aM (bh Ad (bh YT (az) (az)) (bh gn Ψ (bh YT (az) (az)))))))),?_⟩
  obtain⟨z0,rfl,q⟩:=h;exact Zao q
theorem Zd{fd:AK}(F:jE K "_law_kind" "_law_kind" BR jO fd){LQ:AK}(kZ:ι 1 dD LQ uc (tE XQ.K)):μ 3 jO fd CJ (Pz XQ):=by
 have sc:=Yn;walk_at "ok"
 ·refine⟨zQ XQ.E XQ.F XQ.K XQ.L (tE XQ.K),(ao (cB (m5 iI (bh gn ρ (az)) (az)) (aA (aM (z6 T.DP kZ.g af rfl T.Zr kZ.b .nil G.fV (aa (G.Kr T.Wz rfl T.Zij) (aa (bh gn (bh qD ρ (az)) (az)) au))))) aZ)
   (ao (cB (m5 iI (bh gn ρ (az)) (az)) (aA (aM (z6 T.DP kZ.g af rfl T.Zr kZ.b .nil G.fV (aa (G.Kr T.Zcn rfl T.Znw) (aa (bh gn (bh qD ρ (az)) (az)) au))))) aZ)
   (aA (aM (z6 T.DP kZ.g af rfl T.Zr kZ.b .nil G.fV (aa (G.Kr T.Zcm rfl T.Zns) (aa (bh gn (bh qD ρ (az)) (az)) au))))))),?_⟩
  obtain⟨z0,rfl,q⟩:=h;exact Zar q
theorem Zb{fd:AK}(F:jE K "_law_made" "_law_made" BL jM fd){fu:AK}(cj:ι 1 d9 fu lB (jB)):μ 2 jM fd Cz (Px):=by
 have sc:=Yl;walk_at "ok"
 ·refine⟨zO K (jB),(ao (gm 3 sc.nd (iR fj (cQ (aa (az) (aa (az) (aa (az) (aa (az) ag))))) (iH cj hr T.cX (aa ρ ag))))
   (ao (gm 4 sc.nd (az))
   (ao (cB (m5 iI (bh gn ρ (az)) (az)) (aA (gm 4 sc.nd (bh gn ρ (az)))) aZ)
   (ao (cB (m5 iI (bh gn ρ (az)) (az)) (aA (gm 4 sc.nd (bh gn ρ (bh jF (bh YT (az) (az)) (az))))) aZ)
   (aA (aM (cF (aa (aQ) (aa Ψ (aa (pv 2) (aa (pv 3) (aa (pv 4) au)))))))))))),?_⟩
  obtain⟨z0,z1,z2,rfl,q⟩:=h;exact Zap q
theorem Zc{fd:AK}(F:jE K "_law_load" "_law_load" BP jN fd):μ 1 jN fd CG (Py):=by
 have sc:=Ym;walk_at "ok"
 ·refine⟨zP,(ao (gm 1 sc.nd (bh gn ρ (bh YT (az) (az))))
   (ao (cB (m5 iI (bh gn (bh qD ρ (az)) (az)) (az)) (aA (aM (Zy0 Zu7 Ψ))) aZ)
   (aA (aM Ψ)))),?_⟩
  obtain⟨z0,rfl,q⟩:=h;exact Zaq q
theorem Zg{fd:AK}{fu Zaa Za9 qO:AK}(F:jE K "_law_deed" "_law_deed" BX jQ fd)(cj:ι 1 d9 fu lB (jB))(Zec:ι 1 jN Zaa CG (Py))(Zeb:ι 2 jM Za9 Cz (Px))(tH:ι 1 iy qO sY (qP)):μ 3 jQ fd CQ (PL K):=by
 have sc:=Yq;walk_at "okw"
 ·refine⟨zU K (jB) (Py) (Px) (qP),(jY (gm 3 sc.nd (iH cj hr T.cX (aa ρ (aa (az) (aa (cg G.cz η T.iQ G.boot_len (aa Ψ au)) au)))))
   (jY (gm 4 sc.nd (iH cj hr T.cX (aa ρ (aa (az) (aa (iR bD (iR fj Ψ (pv 3)) (az)) au)))))
   (jY (gm 5 sc.nd (iH cj hr T.cX (aa ρ (aa (az) (aa (iR bD (iR fj Ψ (pv 3)) (az)) au)))))
   (jY (gm 6 sc.nd (iH cj hr T.cX (aa ρ (aa (az) (aa (iR fj (cQ ag) (bh qD (bh gn ρ (az)) (az))) au)))))
   (jY (gm 7 sc.nd (iH cj hr T.cX (aa ρ ag)))
   (jY (cB (m5 Er (pv 7) (az)) (aA (aM (iH Zeb hr T.Nh (aa ρ (aa (pv 3) (aa (pv 4) au)))))) aZ)
   (jY (cB (m5 Er (pv 7) (az)) (aA (aM (cF (aa (aQ) (aa (pv 3) (aa (pv 4) (aa (pv 5) (aa (pv 6) au)))))))) aZ)
   (jY (cB (m5 Er (pv 7) (az)) (aA (aM (cF (aa (aQ) (aa (pv 3) (aa (pv 5) (aa (pv 6) (aa (pv 4) au)))))))) aZ)
   (jY (cB (m5 iI (pv 7) (az)) (aA (aM (cF (aa (aQ) (aa (pv 3) (aa (pv 4) (aa (pv 5) au))))))) aZ)
   (jY (cB (m5 iI (pv 7) (az)) (aA (aM (cF (aa (aQ) (aa (pv 3) (aa (pv 4) au)))))) aZ)
   (jY (cB (m5 Er (pv 7) (az)) (ao (gm 8 sc.nd (iH cj hr T.cX (aa ρ (aa (az) (aa (cg G.cz η T.iQ G.boot_len (aa Ψ au)) au)))))
   (aA (aM (cF (aa (aQ) (aa (pv 3) (aa (pv 4) (aa (pv 8) (aa (iH cj hr T.cX (aa ρ (aa (az) (aa (iR bD (iR fj Ψ (pv 8)) (az)) au)))) au))))))))) aZ)
   (jY (cB (m5 iI (pv 7) (az)) (aA (aM (cF (aa (aQ) (aa (pv 3) (aa (pv 5) (aa (iH Zec hr T.Ni (aa ρ au)) au))))))) aZ)
   (jY (gm 9 sc.nd (iH tH hr T.wJ (aa (pv 2) (aa (iH cj hr T.cX (aa ρ ag)) au))))
   (jY (cB (m5 Er (pv 7) (az)) (aA (aM (cF (aa (aQ) (aa (pv 3) (aa (pv 5) (aa (pv 9) au))))))) aZ)
   (Zqv (aM (cF (aa (aQ) (aa (pv 3) (aa (pv 4) (aa (pv 9) au))))))))))))))))))))),?_⟩
  obtain⟨z0,z1,z2,rfl,q⟩:=h;exact Zau q
theorem Uv{fd:AK}{Zad fu:AK}(F:jE K "_law_deeds" "_law_deeds" zy jj fd)(Zef:ι 3 jQ Zad CQ (PL K))(cj:ι 1 d9 fu lB (jB)):μ 4 jj fd Ac (Dt K):=by
 have sc:=Ud;walk_at "ok"
 ·refine⟨xO K (PL K) (jB),(ao (gm 3 sc.nd (iH Zef hr T.Nm (aa ρ (aa Ψ (aa (pv 2) au)))))
   (ao (cB (PW.pt (Ge (m5 iI (iR bD (pv 3) (az)) (aQ)) (zZ (m5 iI (bh gn (bh qD ρ (az)) (az)) (az))))) (aA (aM (cQ (aa (pv 3) (aa (cF (aa (aQ) (aa (iR bD (pv 3) (az)) (aa (iR bD (pv 3) (az)) au)))) au))))) aZ)
   (ao (cB (PW.pt (Ge (m5 iI (iR bD (pv 3) (az)) (aQ)) (zZ (m5 iI (bh gn (bh qD ρ (az)) (az)) (az))))) (aA (aM (cQ (aa (pv 3) (aa (cF (aa (aQ) (aa (iR bD (pv 3) (az)) (aa (iR bD (pv 3) (az)) (aa (iR bD (pv 3) (az)) (aa (iH cj hr T.cX (aa ρ ag)) au)))))) au))))) aZ)
   (aA (aM (cQ (aa (pv 3) au))))))),?_⟩
  obtain⟨z0,z1,z2,rfl,q⟩:=h;exact VP q
theorem Ur{fd:AK}{fu qO:AK}(F:jE K "_law_start" "_law_start" zm iY fd)(cj:ι 1 d9 fu lB (jB))(tH:ι 1 iy qO sY (qP)):μ 2 iY fd z8 (Jw K):=by
 have sc:=T9;walk_at "ok"
 ·refine⟨xJ K (jB) (qP),(ao (gm 3 sc.nd (cQ au))
   (ao (tZ PassesOwn.never rfl (uI rfl T.uq (aa (cg G.cz η T.iQ G.boot_len (aa ρ au)) au)) (gJ (i:=4) sc.nd rfl (Or.inl rfl))
   (ao (gm 3 sc.nd (bh pP (pv 3) (cQ (aa (cF (aa (aQ) (aa (pv 4) (aa (az) ag)))) (aa (cF (aa (aQ) (aa (pv 4) (aa (az) ag)))) au)))))
   (aA (gm 3 sc.nd (bh pP (pv 3) (cQ (aa (cF (aa (aQ) (aa (pv 4) (aa (az) (aa (bh gn (pv 4) (az)) (aa (az) au)))))) (aa (cF (aa (aQ) (aa (pv 4) (aa (az) au)))) au))))))))
   (ao (gm 5 sc.nd (iH cj hr T.cX (aa Ψ ag)))
   (ao (cB (m5 Zc1 (pv 5) (az)) (aA (gm 3 sc.nd (bh pP (pv 3) (G.Zbv (cns:=[]) [] (uI rfl T.uq (aa (cg G.cz η T.iQ G.boot_len (aa ρ au)) au)) (λ_ _ _ _ _=>G.Ko) (λ_ _ _ _ _=>(cF (aa (aQ) (aa ρ (aa (az) ag))))) rfl rfl ad (by repeat (first | exact trivial | refine⟨rfl,?_⟩)) rfl γ rfl γ γ rfl γ)))) aZ)
   (ao (gm 3 sc.nd (bh pP (pv 3) (bh QW (cQ (aa (gf) au)) (bh jF (az) (iH cj hr T.cX (aa Ψ ag))))))
   (ao (tZ PassesOwn.never rfl (uI rfl T.uq (aa (cg G.cz η T.iQ G.boot_len (aa ρ au)) au)) (gJ (i:=4) sc.nd rfl (Or.inl rfl))
   (ao (cB (m5 iI (pv 5) (az)) (aA (gm 3 sc.nd (bh pP (pv 3) (cQ (aa (cF (aa (aQ) (aa (pv 4) (aa (az) (aa (az) (aa (bh gn (pv 4) (az)) au)))))) (aa (cF (aa (aQ) (aa (pv 4) (aa (az) (aa (bh gn (pv 4) (az)) (aa (az) au)))))) au)))))) aZ)
   (ao (cB (m5 Zc1 (pv 5) (az)) (aA (gm 3 sc.nd (bh pP (pv 3) (cQ (aa (cF (aa (aQ) (aa (pv 4) (aa (az) ag)))) (aa (cF (aa (aQ) (aa (pv 4) (aa (az) ag)))) (aa (cF (aa (aQ) (aa (pv 4) (aa (az) au)))) au))))))) aZ)
   (aA (cB (m5 iI (pv 5) (az)) (aA (gm 3 sc.nd (bh pP (pv 3) (cQ (aa (cF (aa (aQ) (aa (pv 4) (aa (az) (aa (iH tH hr T.wJ (aa (pv 2) (aa (bh gn (pv 4) (az)) au))) au))))) (aa (cF (aa (aQ) (aa (pv 4) (aa (az) au)))) au)))))) aZ)))))
   (aA (aM (pv 3))))))))),?_⟩
  obtain⟨z0,z1,z2,rfl,q⟩:=h;exact VJ q
theorem Y9{fd:AK}{mR Vz fu Vu:AK}(F:jE K "_law_rows" "_law_rows" BJ jK fd)(jR:ι 1 gj mR pZ (qQ K))(Zbc:ι 4 jj Vz Ac (Dt K))(cj:ι 1 d9 fu lB (jB))(Zb9:ι 2 iY Vu z8 (Jw K)):μ 5 jK fd Cw (Pr K):=by
 have sc:=Yj;walk_at "ok"
 ·refine⟨zM K (qQ K) (Dt K) (jB) (Jw K),(ao (gm 2 sc.nd (cQ au))
   (ao (cB (m5 Zc1 (iH cj hr T.cX (aa (iH jR hr T.mC (aa ρ (aa (az) au))) ag)) (az)) (aA (gm 2 sc.nd (iH Zb9 hr T.Iv (aa Ψ (aa (iH jR hr T.mC (aa ρ (aa (az) au))) (aa (iH jR hr T.mC (aa ρ (aa (az) au))) au)))))) aZ)
   (ao (gm 3 sc.nd (iH jR hr T.mC (aa ρ (aa (az) au))))
   (ao (gm 4 sc.nd (az))
   (ao (tZ PassesOwn.never rfl (qy (Zbu Zi8 ρ (YJ (az)) (YJ (az)))) (gJ (i:=5) sc.nd rfl (Or.inl rfl))
   (ao (gm 6 sc.nd (bh jF (pv 5) (bh KJ (bh KJ (pv 4) (pv 4)) (az))))
   (ao (cB (m5 iI (iH cj hr T.cX (aa (pv 6) ag)) (az)) (aA (gm 2 sc.nd (bh pP (pv 2) (bh QW (cQ (aa (gf) au)) (bh jF (az) (iH cj hr T.cX (aa (pv 6) ag))))))) (aA (gm 2 sc.nd (bh pP (pv 2) (iH Zbc hr T.IK (aa (pv 6) (aa Ψ (aa (pv 3) au))))))))
   (aA (Zuy (i:=4) sc.nd rfl (Or.inl rfl) (az) Z4)))))
   (aA (aM (bh pP (pv 2) (bh QW (cQ (aa (gf) au)) (bh jF (az) (iH cj hr T.cX (aa (pv 3) ag)))))))))))),?_⟩
  obtain⟨z0,z1,rfl,q⟩:=h;exact Zan q
theorem Q7{fd:AK}(F:jE K "_law_number" "_law_number" xj gD fd):μ 1 gD fd xW (Jx):=by
 have sc:=Qs;walk_at "ok"
 ·refine⟨uX,(aA (aM ((YM (cg G.Dp η T.lg G.boot_isinstance (aa ρ (aa (HN rfl T.Zi3 G.boot_int rfl) au))) (Kq (Zmw (cg G.Dp η T.lg G.boot_isinstance (aa ρ (aa (HN rfl T.Xr G.boot_bool rfl) au))))))))),?_⟩;obtain⟨z0,rfl,q⟩:=h;exact SM q
theorem Uu{fd:AK}(F:jE K "_law_event" "_law_event" zx ji fd){R5:AK}(Fj:ι 1 gD R5 xW (Jx)):μ 2 ji fd Ab (PK K):=by
 have sc:=Uc;walk_at "ok"
 ·refine⟨xN K (Jx),(ao (cB (PW.pt (qU (qx (lK (cg G.Dp η T.lg G.boot_isinstance (aa ρ (aa (HN rfl T.OJ G.boot_tuple rfl) au))))) (qU (m5 Ep (cg G.cz η T.iQ G.boot_len (aa ρ au)) (az)) (qw (qx (lK (cg G.Dp η T.lg G.boot_isinstance (aa (iR bD ρ (az)) (aa (HN rfl T.Zi0 G.boot_str rfl) au))))))))) (aA (aM (qz))) aZ)
   (ao (cB (PW.pt (qU (qx (lK (iH Fj hr T.ye (aa (iR bD ρ (az)) au)))) (qw (qx (lK (cg G.Dp η T.lg G.boot_isinstance (aa (iR bD ρ (az)) (aa (HN rfl T.uK G.boot_list rfl) au)))))))) (aA (aM (qz))) aZ)
   (ao (tZ PassesOwn.never rfl (qy (iR bD ρ (az))) (gJ (i:=2) sc.nd rfl (Or.inl rfl))
   (aA (cB (qx (lK (iH Fj hr T.ye (aa (pv 2) au)))) (aA (aM (qz))) aZ)))
   (aA (aM (mL (G.Zv3 hr.units) ρ Ψ (qF _))))))),?_⟩
  obtain⟨z0,z1,rfl,q⟩:=h;exact VN q
theorem Ze{fd:AK}(F:jE K "_law_hand" "_law_hand" BV jP fd){Zz6:AK}(Zxe:ι 5 VD Zz6 Zuz (cG XQ Φ (λ_=>True))):μ 6 jP fd CP (PJ XQ Φ):=by
 have sc:=Yo;walk_at "ok"
 ·refine⟨zR aJ bU aV bC (cG XQ Φ (λ_=>True)),(ao (gm 2 sc.nd (gf))
   (ao (G.Zux ⟨rfl,rfl⟩ rfl T.Np (λcls h=>by rcases h with rfl | rfl | rfl | rfl<;>first | exact T.kJ | exact T.lR | exact T.oO | exact T.mU) (λEx pn xe hx=>(aA (gm 2 sc.nd (G.Zn1 Zxe.g af rfl T.Zy8 Zxe.k Zxe.b .nil hx (aa ρ (aa Ψ au)))))) (λea pn=>(aA (gm 2 sc.nd (gf)))))
   (aA (aM (pv 2))))),?_⟩
  obtain⟨z0,z1,rfl,q⟩:=h;exact Zas rfl rfl rfl rfl q
theorem Ut{fd:AK}(F:jE K "_law_fresh" "_law_fresh" zq je fd){o9:AK}(lG:ι 1 fB o9 ["self"] (jl XQ.H)):μ 2 je fd Aa (Jz XQ):=by
 have sc:=Ub;have tx:=p8 _ T;walk_at "okw"
 ·refine⟨xM K XQ.H (jl XQ.H),(jY (G.Zmo (iz:=1) (cns:=["_law_world"]) [0] (qy (lW Ξ T.cP T.sS lG.g af lG.b .nil G.fV)) (λ_ _ _ _ _=>G.Ko) (λ_ _ _ _ _=>(aK (iR fj (aK (aK Ψ rfl) rfl) ρ) rfl)) rfl rfl ad (by repeat (first | exact trivial | refine⟨rfl,?_⟩)) rfl γ rfl γ γ rfl γ sc.nd rfl (Or.inl rfl) (Or.inr rfl) rfl)
   (Zjo (yD DN (pew Ψ) (yD DN (pew (cQ au)) (yD DN (pew (cQ au)) (yD DN (pew (cQ au)) (yD DN (pew (cQ au)) (yD DN (pew (cQ (aa (az) (aa (az) ag)))) Zqw)))))) rfl rfl ε ε)),?_⟩
  obtain⟨z0,rfl,q⟩:=h;exact VM tx q
theorem Uq{fd:AK}(F:jE K "_law_tells" "_law_tells" zj iW fd):μ 1 iW fd z7 (Jv K):=by
 have sc:=TY;walk_at "ok"
 ·refine⟨xH K,(ao (YH ((Gy hr ρ (aQ))) ((az)) G.R0 ((az)) Z4 set_list)
   (ao (cB (m5 yE χ (cF (aa (aQ) (aa (aQ) (aa (aQ) au)))) (by with_unfolding_all rfl)) (aA (O3 (sZ hr) ρ (aQ) (bh pP (Gy hr ρ (aQ)) χ) rfl)) aZ)
   (ao (cB (m5 iI χ (aQ)) (aA (oJ (wz PySem.F.plainAttrs_list PySem.F.slot_list_append PySem.F.type_list_append nD (Gy hr ρ (aQ)) (aa χ au)))) aZ)
   (ao (cB (m5 iI χ (aQ)) (aA (YH ((Gy hr ρ (aQ))) ((az)) G.R0 ((az)) Z4 set_list)) aZ)
   (ao (cB (m5 yE χ (cF (aa (aQ) (aa (aQ) au))) (by with_unfolding_all rfl)) (aA (YH ((Gy hr ρ (aQ))) ((az)) G.R0 ((az)) Z4 set_list)) aZ)
   (ao (cB (m5 iI χ (aQ)) (aA (oJ (wz PySem.F.plainAttrs_list PySem.F.slot_list_append PySem.F.type_list_append nD (Gy hr ρ (aQ)) (aa χ au)))) aZ)
   (ao (cB (m5 yE χ (cF (aa (aQ) (aa (aQ) (aa (aQ) au)))) (by with_unfolding_all rfl)) (aA (aM ((YM (mL (G.YX (sZ hr)) (Gy hr ρ (aQ)) (cQ au) (qF _)) (Kq (mL (G.YX (sZ hr)) (Zbu Zi8 (Gy hr ρ (aQ)) Zqy (YJ (cg G.cz η T.iQ G.boot_len (aa (Gy hr ρ (aQ)) au)))) (Gy hr ρ (aQ)) (qF _))))))) aZ)
   (aA (aM ((Ztt (mL yE χ (cF (aa (aQ) (aa (aQ) au))) (by with_unfolding_all rfl)) (Kq (mL (G.YW (sZ hr)) (Gy hr ρ (aQ)) (cQ au) (qF _)))))))))))))),?_⟩
  obtain⟨z0,z1,rfl,q⟩:=h;exact VH q
theorem Q9{fd:AK}(F:jE K "_law_at_cut" "_law_at_cut" xq gG fd):μ 1 gG fd xY (Zb0 K):=by
 have sc:=Qu;walk_at "ok"
 ·refine⟨uZ K,(ao (gm 5 sc.nd (Gy hr ρ (aQ)))
   (ao (oJ (wz PySem.F.plainAttrs_list PySem.F.slot_list_append PySem.F.type_list_append nD (Gy hr ρ (aQ)) (aa χ au)))
   (ao (u6 (pv 4) (xT (Gy hr ρ (aQ)) (az) set_list))
   (ao (cB (PW.pt (qU (m5 (G.YW (sZ hr)) (pv 5) (Gy hr ρ (aQ))) (qw (m5 Ep (G.Zjs rfl η T.iQ η T.Zi1 (pv 5)) (cg G.cz η T.iQ G.boot_len (aa (pv 5) au)))))) (aA (aM (qz))) aZ)
   (ao (tZ PassesOwn.never rfl (qy (bh pP (pv 5) χ)) (gJ (i:=6) sc.nd rfl (Or.inl rfl))
   (aA (cB (m5 HS (pv 6) (Gy hr ρ (aQ)) (by with_unfolding_all rfl)) (aA (aM (qz))) aZ)))
   (ao (gm 7 sc.nd (iR fj (Gy hr ρ (aQ)) (az)))
   (ao (cB (PW.pt (qU (PW.pt (Ge (m5 iI (pv 2) (az)) (zZ (m5 Ep (pv 7) (az))))) (qU (PW.pt (Ge (m5 iI (pv 2) (az)) (zZ (m5 Ep (pv 7) (pv 3))))) (qw (PW.pt (Ge (m5 iI (pv 2) (az)) (zZ (m5 Zc1 (pv 7) (cg G.cz η T.iQ G.boot_len (aa (pv 5) au)))))))))) (aA (aM (qz))) aZ)
   (aA (aM ((YM (mL iI χ (cg G.cz η T.iQ G.boot_len (aa χ au)) (qF _)) (Kq (mL iI (cg G.cz η T.iQ G.boot_len (aa (pv 5) au)) (bh Ad (cg G.cz η T.iQ G.boot_len (aa (Gy hr ρ (aQ)) au)) χ) (qF _)))))))))))))),?_⟩
  obtain⟨z0,z1,z2,z3,z4,rfl,q⟩:=h;exact SQ q
theorem Q8{fd:AK}(F:jE K "_law_at_end" "_law_at_end" xm gF fd):μ 1 gF fd xX (Zaz K):=by
 have sc:=Qt;walk_at "ok"
 ·refine⟨uY K,(ao (u6 (Gy hr ρ (aQ)) (G.Zr6 rfl (m7 (gJ (i:=2) sc.nd rfl (Or.inl rfl)) (m7 (gJ (i:=3) sc.nd rfl (Or.inl rfl)) (m7 (gJ (i:=4) sc.nd rfl (Or.inl rfl)) (m7 (gJ (i:=5) sc.nd rfl (Or.inl rfl)) HJ))))))
   (ao (cB (PW.pt (qU (m5 (G.YW (sZ hr)) (Gy hr ρ (aQ)) (Gy hr ρ (aQ))) (qw (m5 (G.Zv1 hr.units) (Gy hr ρ (aQ)) (cQ (aa (Gy hr ρ (aQ)) au)))))) (aA (aM (qz))) aZ)
   (ao (cB (PW.pt (qU (m5 Ep (pv 4) (pv 5)) (qw (m5 Ep (pv 2) (bh jF (bh jF (bh jF (az) (pv 3)) (cg G.cz η T.iQ G.boot_len (aa (Gy hr ρ (aQ)) au))) (pv 4)))))) (aA (aM (qz))) aZ)
   (aA (aM (mL (G.YX (sZ hr)) χ (cQ (aa (cg G.cz η T.iQ G.boot_len (aa (Gy hr ρ (aQ)) au)) (aa (pv 3) (aa (pv 4) au)))) (qF _))))))),?_⟩
  obtain⟨z0,z1,rfl,q⟩:=h;exact SN q
theorem Y8{fd:AK}{R7 R6 Vy Vt Zt2:AK}(F:jE K "_law_step" "_law_step" By jJ fd)(V4:ι 1 gG R7 xY (Zb0 K))(V3:ι 1 gF R6 xX (Zaz K))(Zbb:ι 2 ji Vy Ab (PK K))(Zb8:ι 1 iW Vt z7 (Jv K))(Zxb:ι 9 yp Zt2 ["world"] (bZ XQ Zn3)):μ 10 jJ fd Cv (Pq XQ):=by
 have sc:=Yi;have tx:=p8 _ T;walk_at "ok"
 ·refine⟨zL K (Zb0 K) (Zaz K) (PK K) (Jv K) (bZ XQ Zn3),(ao (gm 4 sc.nd (iH Zxb hr T.Znn (aa ρ au)))
   (ao (cB (qx (lK (iH Zbb hr T.Iz (aa (pv 4) (aa (pv 4) au))))) (aA (aM (qz))) aZ)
   (ao (gm 5 sc.nd (cF (aa (iR bD (pv 4) (az)) (aa (iR bD (pv 4) (az)) (aa (rJ G.vI η T.uK G.boot_list (aa (iR bD (pv 4) (az)) au)) au)))))
   (ao (oJ (wz PySem.F.plainAttrs_list PySem.F.slot_list_append PySem.F.type_list_append nD (iR bD (pv 4) (az)) (aa (az) au)))
   (ao (cB (qx (lK (iH Zb8 hr T.Iu (aa Ψ (aa (pv 5) au))))) (aA (aM (qz))) aZ)
   (ao (cB (m5 iI (iR bD (pv 5) (az)) (aQ)) (aA (aM (mL (G.YX (sZ hr)) (Gy hr Ψ (aQ)) (Gy hr Ψ (aQ)) (qF _)))) aZ)
   (ao (cB (m5 iI (iR bD (pv 5) (az)) (aQ)) (aA (aM (iH V4 hr T.Ey (aa Ψ (aa (pv 5) (aa (pv 2) (aa (cg G.cz η T.iQ G.boot_len (aa Ξ au)) (aa (pv 3) au)))))))) aZ)
   (aA (aM ((Ztt (mL Ep (iR bD (pv 5) (az)) (aQ) (qF _)) (Kq (iH V3 hr T.Ew (aa Ψ (aa (pv 5) au))))))))))))))),?_⟩
  obtain⟨z0,z1,z2,z3,rfl,q⟩:=h;exact Zam tx q
theorem Gi{fd:AK}(F:jE K "_law_deed_noted" "_law_deed_noted" qd dR fd){Zac:AK}(Zee:ι 6 jP Zac CP (PJ XQ Φ)):μ 7 dR fd qC (Jy XQ):=by
 have sc:=Fq;have tx:=p8 _ T;walk_at "ok"
 ·refine⟨pM K (PJ XQ Φ),(ao (gm 3 sc.nd (iH Zee hr T.Nk (aa ρ (aa Ψ au))))
   (ao (cB (m5 G.wB (pv 3) (gf)) (aA (aM (qz))) aZ)
   (ao (gm 4 sc.nd (rJ G.vI η T.uK G.boot_list (aa (iR bD (pv 3) (az)) au)))
   (ao (oJ (wz PySem.F.plainAttrs_list PySem.F.slot_list_append PySem.F.type_list_append nD (iR bD (pv 3) (az)) (aa (az) au)))
   (ao (cB (PW.pt (Ge (m5 (G.YW (sZ hr)) (pv 4) (cQ au)) (zZ (PW.pt (qU (m5 HS (iR bD (pv 3) (az)) (cF (aa (aQ) (aa (aQ) (aa (aQ) au)))) (by with_unfolding_all rfl)) (qw (m5 Ep (aK Ξ rfl) (aQ)))))))) (aA (aM (qz))) aZ)
   (ao (O3 (sZ hr) (pv 2) (aQ) (bh pP (Gy hr (pv 2) (aQ)) (pv 4)) rfl)
   (aA (aM (mL Ztu (cg G.cz η T.iQ G.boot_len (aa (pv 4) au)) (az) (qF _)))))))))),?_⟩
  obtain⟨z0,z1,z2,rfl,q⟩:=h;exact Gu tx q
theorem Zv6{fl:AH}{fd:AK}{o9 Jj mR Gq Vx Vv Zab Za8 Za7 Za6:AK}(F:jE K "law" "law" Qx fl fd)(lG:ι 1 fB o9 ["self"] (jl XQ.H))(yN:ι 3 cY Jj rK (uF XQ))(jR:ι 1 gj mR pZ (qQ K))(JD:ι 7 dR Gq qC (Jy XQ))(JC:ι 2 je Vx Aa (Jz XQ))(Zba:ι 2 iZ Vv z9 (PB K))(Zed:ι 3 jO Zab CJ (Pz XQ))(Zea:ι 2 jL Za8 Cy (Zaw K))(Ze9:ι 5 jK Za7 Cw (Pr K))(Ze8:ι 10 jJ Za6 Cv (Pq XQ)):μ 11 fl fd ["_law_script"] (Zj3 K):=by
 have sc:=Zuq;have tx:=p8 _ T;walk_at "ok"
 ·refine⟨Zfn K XQ.H XQ.W (jl XQ.H) (uF XQ) (qQ K) (Jy XQ) (Jz XQ) (PB K) (Pz XQ) (Zaw K) (Pr K) (Pq XQ),(ao (gm 1 sc.nd (bh gn (iH jR hr T.mC (aa ρ (aa (az) au))) (az)))
   (ao (gm 2 sc.nd (iH Zba hr T.Iw (aa ρ au)))
   (ao (gm 3 sc.nd (z6 T.Ih yN.g af rfl T.Zii yN.b .nil G.fV (aa (iH Zea hr T.Ng (aa ρ au)) (aa (iH Zed hr T.Nj (aa Ψ au)) (aa (rJ G.vI η T.uK G.boot_list (aa (pv 2) au)) au)))))
   (ao (gm 4 sc.nd (iH JC hr T.Ak (aa (pv 3) au)))
   (ao (gm 5 sc.nd (az))
   (ao (tZ PassesOwn.never rfl (qy (iH Ze9 hr T.Nf (aa ρ (aa (pv 2) au)))) (gJ (i:=6) sc.nd rfl (Or.inl rfl))
   (ao (cB (m5 iI (aK (aK (pv 3) rfl) rfl) (aQ)) (aA (aM (qz))) aZ)
   (ao (cB (m5 G.wB (pv 6) (gf)) (ao (cB (m5 iI (aK (aK (pv 3) rfl) rfl) (aQ)) (aA (gm 4 sc.nd (iH JC hr T.Ak (aa (pv 3) au)))) aZ)
   (aA (cB (qx (lK (iH Ze8 hr T.Nb (aa (pv 3) (aa (pv 4) (aa (bh gn Ψ (az)) (aa (pv 5) au))))))) (aA (aM (qz))) aZ))) (aA (cB (qx (lK (iH JD hr T.wK (aa (pv 3) (aa (pv 6) (aa (pv 4) au)))))) (aA (aM (qz))) aZ)))
   (aA (gm 5 sc.nd (cg (Zlg rfl) η T.Zi2 G.boot_max (aa (pv 5) (aa (cg G.cz η T.iQ G.boot_len (aa (lW (aK (pv 3) rfl) T.cP T.sS lG.g af lG.b .nil G.fV) au)) au))))))))
   (aA (aM (qz))))))))),?_⟩
  obtain⟨z0,rfl,q⟩:=h;exact Zvn tx q
end
abbrev Fi(K:aC)(c:AH)(s:Str)(f:AH):Prop:=W.findIn K (.ref c) s=some (↑f)
abbrev Fo(K:aC)(c:AH)(s:Str):Prop:=W.findIn K (.ref c) s=some none
abbrev Ns(K:aC)(s:Str)(f:AH):Prop:=W.nsIn K mainGlobals s=some (↑f)
abbrev Ki(K:aC)(f:AH):Prop:=W.keepIn K (.ref f)=true
abbrev Ci(K:aC)(c:AI)(s:Str):Prop:=W.codeIn K c s=true
abbrev Lk(K:aC)(f:AH)(a b:Str)(s:Stmt)(d:AI)(oc:AI)(od:Option AH)(kV dc pm:AI)(an:Option AH)(cd ct:AI)(sl:Array AB):Prop:=K.lookup f=some ⟨oc,od,.func (W.fnOf a b (nP s) (kO s) (aG s) d kV dc pm an cd ct),sl⟩
def lH(K:aC)(x q:Str)(s:Stmt)(f:AH):Prop:=∃oc od kV dc pm an cd ct sl,Lk K f x q s .none oc od kV dc pm an cd ct sl/\Ci K cd q/\Ki K f
theorem fgm{K:aC}{x q:Str}{s:Stmt}{f:AH}{oc:AI}{od:Option AH}{kV dc pm:AI}{an:Option AH}{cd ct:AI}{sl:Array AB}(l:Lk K f x q s .none oc od kV dc pm an cd ct sl)(c:Ci K cd q)(k:Ki K f):lH K x q s f:=⟨oc,od,kV,dc,pm,an,cd,ct,sl,l,c,k⟩
theorem fg{K:aC}{x q:Str}{s:Stmt}{f:AH}(h:lH K x q s f):∃fd,jE K x q s f fd/\Ki K f:=by
 obtain⟨oc,od,kV,dc,pm,an,cd,ct,sl,l,c,k⟩:=h;exact⟨_,Zp1 l c k,k⟩
theorem Gz{K:aC}{x qual:Str}{st:Stmt}{f:AH}{fd:AK}(F:jE K x qual st f fd)(a0:Str)(h:∀(kV doc pm:AI) (an:Option AH) (cdv ct u0:AI),bindArgs Ω ⟨[u0],[]⟩=pure (([a0]:AG).zip [u0]):=by intros;rfl):Binds K fd [a0] []:=F.binds λkV doc pm an cdv ct us hl=>match us,hl with | [u0],_=>h kV doc pm an cdv ct u0
theorem Bm{K:aC}{x qual:Str}{st:Stmt}{f:AH}{fd:AK}(F:jE K x qual st f fd)(a0 a1:Str)(h:∀(kV doc pm:AI) (an:Option AH) (cdv ct u0 u1:AI),bindArgs Ω ⟨[u0,u1],[]⟩=pure (([a0,a1]:AG).zip [u0,u1]):=by intros;rfl):Binds K fd [a0,a1] []:=F.binds λkV doc pm an cdv ct us hl=>match us,hl with | [u0,u1],_=>h kV doc pm an cdv ct u0 u1
theorem bd3{K:aC}{x qual:Str}{st:Stmt}{f:AH}{fd:AK}(F:jE K x qual st f fd)(a0 a1 a2:Str)(h:∀(kV doc pm:AI) (an:Option AH) (cdv ct u0 u1 u2:AI),bindArgs Ω ⟨[u0,u1,u2],[]⟩=pure (([a0,a1,a2]:AG).zip [u0,u1,u2]):=by intros;rfl):Binds K fd [a0,a1,a2] []:=F.binds λkV doc pm an cdv ct us hl=>match us,hl with | [u0,u1,u2],_=>h kV doc pm an cdv ct u0 u1 u2
theorem bd4{K:aC}{x qual:Str}{st:Stmt}{f:AH}{fd:AK}(F:jE K x qual st f fd)(a0 a1 a2 a3:Str)(h:∀(kV doc pm:AI) (an:Option AH) (cdv ct u0 u1 u2 u3:AI),bindArgs Ω ⟨[u0,u1,u2,u3],[]⟩=pure (([a0,a1,a2,a3]:AG).zip [u0,u1,u2,u3]):=by intros;rfl):Binds K fd [a0,a1,a2,a3] []:=F.binds λkV doc pm an cdv ct us hl=>match us,hl with | [u0,u1,u2,u3],_=>h kV doc pm an cdv ct u0 u1 u2 u3
theorem bd5{K:aC}{x qual:Str}{st:Stmt}{f:AH}{fd:AK}(F:jE K x qual st f fd)(a0 a1 a2 a3 a4:Str)(h:∀(kV doc pm:AI) (an:Option AH) (cdv ct u0 u1 u2 u3 u4:AI),bindArgs Ω ⟨[u0,u1,u2,u3,u4],[]⟩=pure (([a0,a1,a2,a3,a4]:AG).zip [u0,u1,u2,u3,u4]):=by intros;rfl):Binds K fd [a0,a1,a2,a3,a4] []:=F.binds λkV doc pm an cdv ct us hl=>match us,hl with | [u0,u1,u2,u3,u4],_=>h kV doc pm an cdv ct u0 u1 u2 u3 u4
theorem all_mk{l:W.OpenLaw}{w:AN}{K:aC}{h:Heap}{mg:As}{fa fl bB aY lQ bK fD dU fG gq kE fQ aJ aV bU bC dH gb dO dF iB j9 jt jr fB iK eX nG pq dG cL cY yr jH jG eV iU sW yq gP vC sV nF gO cU cR yo gB Fe iV lO gM cT iT Fb bV yp oA bQ bW cM dM dN dJ gQ dD eE jV jq gw fY ie jD jC iu ir ig fL gY gZ gW gA VD gj d9 iy iZ jL jO jM jN jQ jj iY jK gD ji jP je iW gG gF jJ dR:AH}(KI:K.In h)(GN:h.Ns mainGlobals mg)(hfa:mg "law"=↑fa)
  {od5 an5 to5 Zzz Zzj:Option AH}
  {sl5 ts5 Zzu:Array AB}
  {oc5 kV5 dc5 pm5 cd5 ct5 tc5 Zpe Zit ZA0 Zyd Zzc Zxy Zwy Zze Ztp Zto:AI}
  {td5 R9 Sd:AH}
  {tn5 Zdm Zdn:Nat}
  {W6 W5 W4 W3 Xg Xf Xe Xd Xc Xb Xa W9 W8 W7:Int}
  {Wc Wb V9 V8 Wn Wl Wk Wj Wi Wh Wg Wf We Wd:Tok}
  (Zx7:Ns K "Cell" bB)
  (Zx3:Ns K "Heap" aY)
  (Zx4:Ns K "Hand" lQ)
  (Zlj:Ns K "Sweeper" bK)
  (Ztf:Ns K "World" fD)
  (Ztg:Ns K "First" dU)
  (Zx6:Ns K "Each" fG)
  (Zx1:Ns K "Last" gq)
  (Zx2:Ns K "Kind" kE)
  (Ze0:Ns K "GreyError" fQ)
  (Ze1:Ns K "EmptySlot" aJ)
  (Zlk:Ns K "NoField" aV)
  (Zx5:Ns K "Full" bU)
  (Zpt:Ns K "NoName" bC)
  (a1:Fi K bB "__init__" dH)
  (i1:W.isFn K (.ref dH)=true)
  (a2:Fi K bB "units" gb)
  (i2:W.isFn K (.ref gb)=true)
  (a3:Fi K bB "has_field" dO)
  (i3:W.isFn K (.ref dO)=true)
  (a4:Fi K aY "__init__" dF)
  (i4:W.isFn K (.ref dF)=true)
  (a5:Fi K aY "make" iB)
  (i5:W.isFn K (.ref iB)=true)
  (l5:Lk K iB "make" "Heap.make" vZ (.ref td5) oc5 od5 kV5 dc5 pm5 an5 cd5 ct5 sl5)
  (t5:K.lookup td5=some ⟨tc5,to5,.seq #[Zpe,Zit] tn5,ts5⟩)
  (ZIe:RelV (.int 0) Zpe)
  (ZId:RelV (.int 0) Zit)
  (c5:Ci K cd5 "Heap.make")
  (k5:Ki K iB)
  (a6:Fi K aY "lay" j9)
  (i6:W.isFn K (.ref j9)=true)
  (a7:Fi K aY "back" jt)
  (i7:W.isFn K (.ref jt)=true)
  (a8:Fi K aY "free" jr)
  (i8:W.isFn K (.ref jr)=true)
  (a9:Fi K aY "there" fB)
  (i9:W.isFn K (.ref fB)=true)
  (a10:Ns K "cell_at" iK)
  (a11:Ns K "birth_at" eX)
  (a12:Ns K "reached" nG)
  (a13:Ns K "onward" pq)
  (a14:Fi K lQ "__init__" dG)
  (i14:W.isFn K (.ref dG)=true)
  (a15:Fi K bK "__init__" cL)
  (i15:W.isFn K (.ref cL)=true)
  (a16:Fi K fD "__init__" cY)
  (i16:W.isFn K (.ref cY)=true)
  (a17:Ns K "held" yr)
  (a18:Ns K "births_at" jH)
  (a19:Ns K "looked_at" jG)
  (a20:Ns K "has_sense" eV)
  (a21:Ns K "is_walking" iU)
  (a22:Ns K "begin" sW)
  (a23:Ns K "note" yq)
  (a24:Ns K "note_all" gP)
  (a25:Ns K "gone" vC)
  (a26:Ns K "roots" sV)
  (a27:Ns K "root_of" nF)
  (a28:Ns K "note_hands" gO)
  (a29:Ns K "step_at_rest" cU)
  (a30:Ns K "step_in_walk" cR)
  (a31:Ns K "walk" yo)
  (a32:Ns K "look_or_cut" gB)
  (a33:Ns K "cut" Fe)
  (a34:Ns K "first_loss" iV)
  (a35:Ns K "given_up" lO)
  (a36:Ns K "told_again" gM)
  (a37:Ns K "step_in_give" cT)
  (a38:Ns K "pass_place" iT)
  (a39:Ns K "end" Fb)
  (a40:Ns K "step_when_lost" bV)
  (a41:Ns K "step" yp)
  (a42:Ns K "all_of" oA)
  (a43:Fi K fG "at_begin" bQ)
  (i43:W.isFn K (.ref bQ)=true)
  (a44:Fi K dU "next_look" bW)
  (i44:W.isFn K (.ref bW)=true)
  (a45:Fi K fG "stays" cM)
  (i45:W.isFn K (.ref cM)=true)
  (a46:Fi K dU "at_begin" dM)
  (i46:W.isFn K (.ref dM)=true)
  (a47:Fi K fG "next_look" dN)
  (i47:W.isFn K (.ref dN)=true)
  (a48:Fi K gq "next_look" dJ)
  (i48:W.isFn K (.ref dJ)=true)
  (a49:Fi K gq "stays" gQ)
  (i49:W.isFn K (.ref gQ)=true)
  (a50:Fi K kE "__init__" dD)
  (i50:W.isFn K (.ref dD)=true)
  (a51:Ns K "slots_of" eE)
  (a52:Ns K "cell_in" jV)
  (a53:Ns K "fields_in" jq)
  (a54:Ns K "told_as_old" gw)
  (a55:Ns K "told_as_new" fY)
  (a56:Ns K "do_make" ie)
  (a57:Ns K "do_get" jD)
  (a58:Ns K "do_put" jC)
  (a59:Ns K "do_copy" iu)
  (a60:Ns K "do_drop" ir)
  (a61:Ns K "do_give" ig)
  (a62:Ns K "do_write" fL)
  (a63:Ns K "do_read" gY)
  (a64:Ns K "do_name" gZ)
  (a65:Ns K "do_seek" gW)
  (a66:Ns K "place_named" gA)
  (a67:Ns K "do" VD)
  (a68:Ns K "_law_cell" gj)
  (a69:Ns K "_law_draw" d9)
  (a70:Ns K "_law_word" iy)
  (a71:Ns K "_law_hands" iZ)
  (a72:Ns K "_law_room" jL)
  (a73:Ns K "_law_kind" jO)
  (a74:Ns K "_law_made" jM)
  (a75:Ns K "_law_load" jN)
  (a76:Ns K "_law_deed" jQ)
  (a77:Ns K "_law_deeds" jj)
  (a78:Ns K "_law_start" iY)
  (a79:Ns K "_law_rows" jK)
  (a80:Ns K "_law_number" gD)
  (a81:Ns K "_law_event" ji)
  (a82:Ns K "_law_hand" jP)
  (a83:Ns K "_law_fresh" je)
  (a84:Ns K "_law_tells" iW)
  (a85:Ns K "_law_at_cut" gG)
  (a86:Ns K "_law_at_end" gF)
  (a87:Ns K "_law_step" jJ)
  (a88:Ns K "_law_deed_noted" dR)
  (a89:Ns K "law" fl)
  (l89:Lk K fl "law" "law" Qx .none ZA0 Zzz Zyd Zzc Zxy Zzj Zwy Zze Zzu)
  (c89:Ci K Zwy "law")
  (k89:Ki K fl)
  (Zng:Ns K "STEPS" R9)
  (Zo1:K.lookup R9=some ⟨.type "dict",none,.dict #[⟨W6,.str "rest" Wc,.ref cU⟩,⟨W5,.str "walk" Wb,.ref cR⟩,⟨W4,.str "give" V9,.ref cT⟩,⟨W3,.str "lost" V8,.ref bV⟩] Zdm,#[]⟩)
  (Zkn:W6=hashStr w "rest")
  (Zkm:W5=hashStr w "walk")
  (Zkl:W4=hashStr w "give")
  (Zkk:W3=hashStr w "lost")
  (Znh:Ns K "DEEDS" Sd)
  (Zo2:K.lookup Sd=some ⟨.type "dict",none,.dict #[⟨Xg,.str "make" Wn,.ref ie⟩,⟨Xf,.str "get" Wl,.ref jD⟩,⟨Xe,.str "put" Wk,.ref jC⟩,⟨Xd,.str "copy" Wj,.ref iu⟩,⟨Xc,.str "drop" Wi,.ref ir⟩,⟨Xb,.str "give" Wh,.ref ig⟩,⟨Xa,.str "write" Wg,.ref fL⟩,⟨W9,.str "read" Wf,.ref gY⟩,⟨W8,.str "name" We,.ref gZ⟩,⟨W7,.str "seek" Wd,.ref gW⟩] Zdn,#[]⟩)
  (Zkx:Xg=hashStr w "make")
  (Zkw:Xf=hashStr w "get")
  (Zkv:Xe=hashStr w "put")
  (Zku:Xd=hashStr w "copy")
  (Zkt:Xc=hashStr w "drop")
  (Zks:Xb=hashStr w "give")
  (Zkr:Xa=hashStr w "write")
  (Zkq:W9=hashStr w "read")
  (Zkp:W8=hashStr w "name")
  (Zko:W7=hashStr w "seek")
  (Zrc:W.plainGet K bB Str.empty=true)
  (Zsu:W.hasDictIn K bB=true)
  (Zr4:W.plainOver K bB=true)
  (Zqm:W.findIn K (.ref bB) "__setattr__"=some (some (.builtin "object.__setattr__")))
  (O9:W.makesIn K bB=true)
  (Zs8:Ki K bB)
  (dZ:Fo K bB "birth")
  (nW:Fo K bB "bulk")
  (mz:Fo K bB "tone")
  (lC:Fo K bB "load")
  (fW:Fo K bB "fields")
  (Zpd:W.findIn K (.ref bB) "__eq__"=some (some (.builtin "object.__eq__")))
  (Zpc:W.mroIn K bB (.type "object")=some true)
  (Zr9:W.plainGet K aY Str.empty=true)
  (Zsr:W.hasDictIn K aY=true)
  (Zr1:W.plainOver K aY=true)
  (Zqj:W.findIn K (.ref aY) "__setattr__"=some (some (.builtin "object.__setattr__")))
  (O7:W.makesIn K aY=true)
  (Zs5:Ki K aY)
  (nU:Fo K aY "room")
  (bT:Fo K aY "cells")
  (jo:Fo K aY "used")
  (mq:Fo K aY "born")
  (Zra:W.plainGet K lQ Str.empty=true)
  (Zss:W.hasDictIn K lQ=true)
  (Zr2:W.plainOver K lQ=true)
  (Zqk:W.findIn K (.ref lQ) "__setattr__"=some (some (.builtin "object.__setattr__")))
  (O8:W.makesIn K lQ=true)
  (Zs6:Ki K lQ)
  (wD:Fo K lQ "name")
  (uz:Fo K lQ "slots")
  (Zfr:W.plainGet K bK Str.empty=true)
  (Zgy:W.hasDictIn K bK=true)
  (Zfq:W.plainOver K bK=true)
  (Zfe:W.findIn K (.ref bK) "__setattr__"=some (some (.builtin "object.__setattr__")))
  (Ah:W.makesIn K bK=true)
  (Zgn:Ki K bK)
  (pD:Fo K bK "sense")
  (pF:Fo K bK "phase")
  (qK:Fo K bK "grey")
  (oM:Fo K bK "looked")
  (qH:Fo K bK "turn")
  (ux:Fo K bK "at")
  (qI:Fo K bK "stop")
  (pC:Fo K bK "walks")
  (pG:Fo K bK "looks")
  (oK:Fo K bK "passes")
  (qJ:Fo K bK "loss")
  (Zms:W.plainGet K fD Str.empty=true)
  (Zou:W.hasDictIn K fD=true)
  (Zmq:W.plainOver K fD=true)
  (Zm8:W.findIn K (.ref fD) "__setattr__"=some (some (.builtin "object.__setattr__")))
  (Ih:W.makesIn K fD=true)
  (Zoa:Ki K fD)
  (uw:Fo K fD "heap")
  (uv:Fo K fD "kind")
  (sO:Fo K fD "hands")
  (sJ:Fo K fD "names")
  (pB:Fo K fD "sweeper")
  (Zmt:W.plainGet K dU Str.empty=true)
  (Zov:W.hasDictIn K dU=true)
  (Zmr:W.plainOver K dU=true)
  (Zm9:W.findIn K (.ref dU) "__setattr__"=some (some (.builtin "object.__setattr__")))
  (Znj:W.makesIn K dU=true)
  (Zob:Ki K dU)
  (Zn7:W.findIn K (.ref dU) "__init__"=some (some (.builtin "object.__init__")))
  (Zrb:W.plainGet K fG Str.empty=true)
  (Zst:W.hasDictIn K fG=true)
  (Zr3:W.plainOver K fG=true)
  (Zql:W.findIn K (.ref fG) "__setattr__"=some (some (.builtin "object.__setattr__")))
  (Zry:W.makesIn K fG=true)
  (Zs7:Ki K fG)
  (Zrr:W.findIn K (.ref fG) "__init__"=some (some (.builtin "object.__init__")))
  (Zr7:W.plainGet K gq Str.empty=true)
  (Zsp:W.hasDictIn K gq=true)
  (Zqz:W.plainOver K gq=true)
  (Zqh:W.findIn K (.ref gq) "__setattr__"=some (some (.builtin "object.__setattr__")))
  (Zrx:W.makesIn K gq=true)
  (Zs3:Ki K gq)
  (Zrq:W.findIn K (.ref gq) "__init__"=some (some (.builtin "object.__init__")))
  (Zr8:W.plainGet K kE Str.empty=true)
  (Zsq:W.hasDictIn K kE=true)
  (Zr0:W.plainOver K kE=true)
  (Zqi:W.findIn K (.ref kE) "__setattr__"=some (some (.builtin "object.__setattr__")))
  (DP:W.makesIn K kE=true)
  (Zs4:Ki K kE)
  (qL:Fo K kE "looking")
  (uy:Fo K kE "tells")
  (vW:W.excIn K aJ [.type "ValueError",.type "Exception",.type "BaseException",.type "object"] "ValueError.__new__"=true)
  (Xu:W.excIn K bU [.type "ValueError",.type "Exception",.type "BaseException",.type "object"] "ValueError.__new__"=true)
  (Dy:W.excIn K aV [.type "ValueError",.type "Exception",.type "BaseException",.type "object"] "ValueError.__new__"=true)
  (GF:W.excIn K bC [.type "ValueError",.type "Exception",.type "BaseException",.type "object"] "ValueError.__new__"=true)
  (kJ:W.exmOne K (.ref aJ) (.ref fQ)=some true)
  (lR:W.exmOne K (.ref aV) (.ref fQ)=some true)
  (oO:W.exmOne K (.ref bU) (.ref fQ)=some true)
  (mU:W.exmOne K (.ref bC) (.ref fQ)=some true)
  (Ly:Fi K fG "at_begin" bQ)
  (Vj:Fi K fG "stays" cM)
  (Gm:Fi K dU "next_look" bW)
  (RV:Fi K dU "stays" cM)
  (Lx:Fi K gq "at_begin" bQ)
  (Xr:W.nsIn K mainGlobals "bool"=some none)
  (pX:W.nsIn K mainGlobals "enumerate"=some none)
  (Zi3:W.nsIn K mainGlobals "int"=some none)
  (lg:W.nsIn K mainGlobals "isinstance"=some none)
  (iQ:W.nsIn K mainGlobals "len"=some none)
  (uK:W.nsIn K mainGlobals "list"=some none)
  (Zi2:W.nsIn K mainGlobals "max"=some none)
  (uq:W.nsIn K mainGlobals "range"=some none)
  (Zi1:W.nsIn K mainGlobals "set"=some none)
  (Zi0:W.nsIn K mainGlobals "str"=some none)
  (OJ:W.nsIn K mainGlobals "tuple"=some none)
  (Zwm:W.nsIn K mainGlobals "NEW"=some (some Ztp))
  (Zwk:RelV (.int 2) Ztp)
  (Zwl:W.nsIn K mainGlobals "OLD"=some (some Zto))
  (Zwj:RelV (.int 1) Zto)
  (g1:lH K "__init__" "Cell.__init__" tV dH)
  (g2:lH K "units" "Cell.units" zB gb)
  (g3:lH K "has_field" "Cell.has_field" rC dO)
  (g4:lH K "__init__" "Heap.__init__" tR dF)
  (g6:lH K "lay" "Heap.lay" Fz j9)
  (g7:lH K "back" "Heap.back" Cd jt)
  (g8:lH K "free" "Heap.free" Ca jr)
  (g9:lH K "there" "Heap.there" zA fB)
  (g10:lH K "cell_at" "cell_at" Kg iK)
  (g11:lH K "birth_at" "birth_at" Fy eX)
  (g12:lH K "reached" "reached" J4 nG)
  (g13:lH K "onward" "onward" Qw pq)
  (g14:lH K "__init__" "Hand.__init__" tU dG)
  (g15:lH K "__init__" "Sweeper.__init__" pJ cL)
  (g16:lH K "__init__" "World.__init__" q8 cY)
  (g17:lH K "held" "held" Zfi yr)
  (g18:lH K "births_at" "births_at" Bw jH)
  (g19:lH K "looked_at" "looked_at" Bt jG)
  (g20:lH K "has_sense" "has_sense" Bu eV)
  (g21:lH K "is_walking" "is_walking" za iU)
  (g22:lH K "begin" "begin" Yw sW)
  (g23:lH K "note" "note" Zfh yq)
  (g24:lH K "note_all" "note_all" Fv gP)
  (g25:lH K "gone" "gone" Zfj vC)
  (g26:lH K "roots" "roots" Yv sV)
  (g27:lH K "root_of" "root_of" J3 nF)
  (g28:lH K "note_hands" "note_hands" yZ gO)
  (g29:lH K "step_at_rest" "step_at_rest" uQ cU)
  (g30:lH K "step_in_walk" "step_in_walk" uO cR)
  (g31:lH K "walk" "walk" Zff yo)
  (g32:lH K "look_or_cut" "look_or_cut" xg gB)
  (g33:lH K "cut" "cut" Zma Fe)
  (g34:lH K "first_loss" "first_loss" zb iV)
  (g35:lH K "given_up" "given_up" Fw lO)
  (g36:lH K "told_again" "told_again" yW gM)
  (g37:lH K "step_in_give" "step_in_give" uP cT)
  (g38:lH K "pass_place" "pass_place" yX iT)
  (g39:lH K "end" "end" s_end Fb)
  (g40:lH K "step_when_lost" "step_when_lost" qZ bV)
  (g41:lH K "step" "step" Zfg yp)
  (g42:lH K "all_of" "all_of" QB oA)
  (g43:lH K "at_begin" "Looking.at_begin" pK bQ)
  (g44:lH K "next_look" "Looking.next_look" oU bW)
  (g45:lH K "stays" "Looking.stays" tO cM)
  (g46:lH K "at_begin" "First.at_begin" rA dM)
  (g47:lH K "next_look" "Each.next_look" rB dN)
  (g48:lH K "next_look" "Last.next_look" rz dJ)
  (g49:lH K "stays" "Last.stays" zz gQ)
  (g50:lH K "__init__" "Kind.__init__" tQ dD)
  (g51:lH K "slots_of" "slots_of" Ft eE)
  (g52:lH K "cell_in" "cell_in" Kf jV)
  (g53:lH K "fields_in" "fields_in" Bv jq)
  (g54:lH K "told_as_old" "told_as_old" wY gw)
  (g55:lH K "told_as_new" "told_as_new" wZ fY)
  (g56:lH K "do_make" "do_make" Ka ie)
  (g57:lH K "do_get" "do_get" Qz jD)
  (g58:lH K "do_put" "do_put" Qy jC)
  (g59:lH K "do_copy" "do_copy" Ke iu)
  (g60:lH K "do_drop" "do_drop" Kd ir)
  (g61:lH K "do_give" "do_give" Kc ig)
  (g62:lH K "do_write" "do_write" Fx fL)
  (g63:lH K "do_read" "do_read" J8 gY)
  (g64:lH K "do_name" "do_name" J9 gZ)
  (g65:lH K "do_seek" "do_seek" J7 gW)
  (g66:lH K "place_named" "place_named" w6 gA)
  (g67:lH K "do" "do" Zut VD)
  (g68:lH K "_law_cell" "_law_cell" BZ gj)
  (g69:lH K "_law_draw" "_law_draw" BW d9)
  (g70:lH K "_law_word" "_law_word" Bx iy)
  (g71:lH K "_law_hands" "_law_hands" zp iZ)
  (g72:lH K "_law_room" "_law_room" BK jL)
  (g73:lH K "_law_kind" "_law_kind" BR jO)
  (g74:lH K "_law_made" "_law_made" BL jM)
  (g75:lH K "_law_load" "_law_load" BP jN)
  (g76:lH K "_law_deed" "_law_deed" BX jQ)
  (g77:lH K "_law_deeds" "_law_deeds" zy jj)
  (g78:lH K "_law_start" "_law_start" zm iY)
  (g79:lH K "_law_rows" "_law_rows" BJ jK)
  (g80:lH K "_law_number" "_law_number" xj gD)
  (g81:lH K "_law_event" "_law_event" zx ji)
  (g82:lH K "_law_hand" "_law_hand" BV jP)
  (g83:lH K "_law_fresh" "_law_fresh" zq je)
  (g84:lH K "_law_tells" "_law_tells" zj iW)
  (g85:lH K "_law_at_cut" "_law_at_cut" xq gG)
  (g86:lH K "_law_at_end" "_law_at_end" xm gF)
  (g87:lH K "_law_step" "_law_step" By jJ)
  (g88:lH K "_law_deed_noted" "_law_deed_noted" qd dR)
  :∃fd:AK,(∀(s:AJ) (v:AI),BindsTo s fd ⟨[v],[]⟩ [("_law_script",v)])/\∀base:Heap,K.In base->base.Ns mainGlobals mg->vP l.prog w K mg base (G.S9 l.prog w) 11 fa fd ["_law_script"] (Zj3 K):=by
 have e:=hfa.symm.trans (W.mg_of KI GN a89);cases e;have mo:∀{s:Str}{v:AI},W.nsIn K mainGlobals s=some (some v)->mg s=some v:=λh=>W.mg_of KI GN h
 let Q0:Cs:=⟨fD,aY,bB,kE,lQ,bK,dU,fG,gq⟩
 obtain⟨_,F1,k1⟩:=fg g1;obtain⟨_,F2,k2⟩:=fg g2;obtain⟨_,F3,k3⟩:=fg g3;obtain⟨_,F4,k4⟩:=fg g4;obtain⟨_,F6,k6⟩:=fg g6;obtain⟨_,F7,k7⟩:=fg g7;obtain⟨_,F8,k8⟩:=fg g8;obtain⟨_,F9,k9⟩:=fg g9;obtain⟨_,F10,k10⟩:=fg g10;obtain⟨_,F11,k11⟩:=fg g11;obtain⟨_,F12,k12⟩:=fg g12;obtain⟨_,F13,k13⟩:=fg g13;obtain⟨_,F14,k14⟩:=fg g14;obtain⟨_,F15,k15⟩:=fg g15;obtain⟨_,F16,k16⟩:=fg g16;obtain⟨_,F17,k17⟩:=fg g17;obtain⟨_,F18,k18⟩:=fg g18;obtain⟨_,F19,k19⟩:=fg g19;obtain⟨_,F20,k20⟩:=fg g20;obtain⟨_,F21,k21⟩:=fg g21;obtain⟨_,F22,k22⟩:=fg g22;obtain⟨_,F23,k23⟩:=fg g23;obtain⟨_,F24,k24⟩:=fg g24;obtain⟨_,F25,k25⟩:=fg g25;obtain⟨_,F26,k26⟩:=fg g26;obtain⟨_,F27,k27⟩:=fg g27;obtain⟨_,F28,k28⟩:=fg g28;obtain⟨_,F29,k29⟩:=fg g29;obtain⟨_,F30,k30⟩:=fg g30;obtain⟨_,F31,k31⟩:=fg g31;obtain⟨_,F32,k32⟩:=fg g32;obtain⟨_,F33,k33⟩:=fg g33;obtain⟨_,F34,k34⟩:=fg g34;obtain⟨_,F35,k35⟩:=fg g35;obtain⟨_,F36,k36⟩:=fg g36;obtain⟨_,F37,k37⟩:=fg g37;obtain⟨_,F38,k38⟩:=fg g38;obtain⟨_,F39,k39⟩:=fg g39;obtain⟨_,F40,k40⟩:=fg g40;obtain⟨_,F41,k41⟩:=fg g41;obtain⟨_,F42,k42⟩:=fg g42;obtain⟨_,F43,k43⟩:=fg g43;obtain⟨_,F44,k44⟩:=fg g44;obtain⟨_,F45,k45⟩:=fg g45;obtain⟨_,F46,k46⟩:=fg g46;obtain⟨_,F47,k47⟩:=fg g47;obtain⟨_,F48,k48⟩:=fg g48;obtain⟨_,F49,k49⟩:=fg g49;obtain⟨_,F50,k50⟩:=fg g50;obtain⟨_,F51,k51⟩:=fg g51;obtain⟨_,F52,k52⟩:=fg g52;obtain⟨_,F53,k53⟩:=fg g53;obtain⟨_,F54,k54⟩:=fg g54;obtain⟨_,F55,k55⟩:=fg g55;obtain⟨_,F56,k56⟩:=fg g56;obtain⟨_,F57,k57⟩:=fg g57;obtain⟨_,F58,k58⟩:=fg g58;obtain⟨_,F59,k59⟩:=fg g59;obtain⟨_,F60,k60⟩:=fg g60;obtain⟨_,F61,k61⟩:=fg g61;obtain⟨_,F62,k62⟩:=fg g62;obtain⟨_,F63,k63⟩:=fg g63;obtain⟨_,F64,k64⟩:=fg g64;obtain⟨_,F65,k65⟩:=fg g65;obtain⟨_,F66,k66⟩:=fg g66;obtain⟨_,F67,k67⟩:=fg g67;obtain⟨_,F68,k68⟩:=fg g68;obtain⟨_,F69,k69⟩:=fg g69;obtain⟨_,F70,k70⟩:=fg g70;obtain⟨_,F71,k71⟩:=fg g71;obtain⟨_,F72,k72⟩:=fg g72;obtain⟨_,F73,k73⟩:=fg g73;obtain⟨_,F74,k74⟩:=fg g74;obtain⟨_,F75,k75⟩:=fg g75;obtain⟨_,F76,k76⟩:=fg g76;obtain⟨_,F77,k77⟩:=fg g77;obtain⟨_,F78,k78⟩:=fg g78;obtain⟨_,F79,k79⟩:=fg g79;obtain⟨_,F80,k80⟩:=fg g80;obtain⟨_,F81,k81⟩:=fg g81;obtain⟨_,F82,k82⟩:=fg g82;obtain⟨_,F83,k83⟩:=fg g83;obtain⟨_,F84,k84⟩:=fg g84;obtain⟨_,F85,k85⟩:=fg g85;obtain⟨_,F86,k86⟩:=fg g86;obtain⟨_,F87,k87⟩:=fg g87;obtain⟨_,F88,k88⟩:=fg g88;have T:Txt w K mg bB aY lQ bK fD dU fG gq kE fQ aJ aV bU bC dH gb dO dF iB j9 jt jr fB iK eX nG pq dG cL cY yr jH jG eV iU sW yq gP vC sV nF gO cU cR yo gB Fe iV lO gM cT iT Fb bV yp oA bQ bW cM dM dN dJ gQ dD eE jV jq gw fY ie jD jC iu ir ig fL gY gZ gW gA VD gj d9 iy iZ jL jO jM jN jQ jj iY jK gD ji jP je iW gG gF jJ dR:={
  Wo:=⟨R9,_,_,Zdm,W.mg_of KI GN Zng,Zo1,⟨rfl,rfl,rfl⟩,rfl,Zkn,⟨Wc,rfl⟩,rfl,Zkm,⟨Wb,rfl⟩,rfl,Zkl,⟨V9,rfl⟩,rfl,Zkk,⟨V8,rfl⟩,rfl,trivial⟩
  Wq:=⟨Sd,_,_,Zdn,W.mg_of KI GN Znh,Zo2,⟨rfl,rfl,rfl⟩,rfl,Zkx,⟨Wn,rfl⟩,rfl,Zkw,⟨Wl,rfl⟩,rfl,Zkv,⟨Wk,rfl⟩,rfl,Zku,⟨Wj,rfl⟩,rfl,Zkt,⟨Wi,rfl⟩,rfl,Zks,⟨Wh,rfl⟩,rfl,Zkr,⟨Wg,rfl⟩,rfl,Zkq,⟨Wf,rfl⟩,rfl,Zkp,⟨We,rfl⟩,rfl,Zko,⟨Wd,rfl⟩,rfl,trivial⟩
  dB:=⟨Zrc,Zsu,Zr4,Zqm⟩
  Znx:=mo Zx7
  O9:=⟨O9,a1,i1,Zs8⟩
  dZ:=dZ
  nW:=nW
  mz:=mz
  lC:=lC
  fW:=fW
  Ph:=⟨Zpd,Zpc⟩
  cP:=⟨Zr9,Zsr,Zr1,Zqj⟩
  Znt:=mo Zx3
  O7:=⟨O7,a4,i4,Zs5⟩
  nU:=nU
  bT:=bT
  jo:=jo
  mq:=mq
  Zj0:=⟨Zra,Zss,Zr2,Zqk⟩
  Znu:=mo Zx4
  O8:=⟨O8,a14,i14,Zs6⟩
  wD:=wD
  uz:=uz
  Sq:=⟨Zfr,Zgy,Zfq,Zfe⟩
  WM:=mo Zlj
  Ah:=⟨Ah,a15,i15,Zgn⟩
  pD:=pD
  pF:=pF
  qK:=qK
  oM:=oM
  qH:=qH
  ux:=ux
  qI:=qI
  pC:=pC
  pG:=pG
  oK:=oK
  qJ:=qJ
  Zdw:=⟨Zms,Zou,Zmq,Zm8⟩
  Zii:=mo Ztf
  Ih:=⟨Ih,a16,i16,Zoa⟩
  uw:=uw
  uv:=uv
  sO:=sO
  sJ:=sJ
  pB:=pB
  Dn:=⟨Zmt,Zov,Zmr,Zm9⟩
  Zij:=mo Ztg
  Wz:=⟨Znj,Zn7,Zob⟩
  Jr:=⟨Zrb,Zst,Zr3,Zql⟩
  Znw:=mo Zx6
  Zcn:=⟨Zry,Zrr,Zs7⟩
  Jq:=⟨Zr7,Zsp,Zqz,Zqh⟩
  Zns:=mo Zx1
  Zcm:=⟨Zrx,Zrq,Zs3⟩
  Ziz:=⟨Zr8,Zsq,Zr0,Zqi⟩
  Zr:=mo Zx2
  DP:=⟨DP,a50,i50,Zs4⟩
  qL:=qL
  uy:=uy
  Np:=mo Ze0
  Nq:=mo Ze1
  WQ:=mo Zlk
  Znv:=mo Zx5
  Zcq:=mo Zpt
  vW:=vW
  Xu:=Xu
  Dy:=Dy
  GF:=GF
  kJ:=kJ
  lR:=lR
  oO:=oO
  mU:=mU
  yH:=⟨Ly,i43,k43⟩
  yc:=⟨Vj,i45,k45⟩
  vh:=⟨Gm,i44,k44⟩
  vg:=⟨RV,i45,k45⟩
  yG:=⟨Lx,i43,k43⟩
  K9:=⟨a1,i1,k1⟩
  sU:=⟨a2,i2,k2⟩
  wI:=⟨a3,i3,k3⟩
  K7:=⟨a4,i4,k4⟩
  Ij:=⟨a5,i5,k5⟩
  M7:=⟨a6,i6,k6⟩
  Il:=⟨a7,i7,k7⟩
  Ik:=⟨a8,i8,k8⟩
  sS:=⟨a9,i9,k9⟩
  rT:=mo a10
  mO:=mo a11
  WL:=mo a12
  Rt:=mo a13
  K8:=⟨a14,i14,k14⟩
  Eg:=⟨a15,i15,k15⟩
  Ii:=⟨a16,i16,k16⟩
  Znp:=mo a17
  M9:=mo a18
  M8:=mo a19
  nY:=mo a20
  Io:=mo a21
  Zih:=mo a22
  Zno:=mo a23
  rR:=mo a24
  Zgg:=mo a25
  Zig:=mo a26
  WK:=mo a27
  Aj:=mo a28
  Rr:=mo a29
  Rp:=mo a30
  Znm:=mo a31
  Eu:=mo a32
  Ztx:=mo a33
  Ir:=mo a34
  Ru:=mo a35
  Ai:=mo a36
  Rq:=mo a37
  Im:=mo a38
  Ztw:=mo a39
  La:=mo a40
  Znn:=mo a41
  Rv:=mo a42
  Eh:=⟨a43,i43,k43⟩
  Df:=⟨a44,i44,k44⟩
  K5:=⟨a45,i45,k45⟩
  wG:=⟨a46,i46,k46⟩
  wH:=⟨a47,i47,k47⟩
  wF:=⟨a48,i48,k48⟩
  xZ:=⟨a49,i49,k49⟩
  K6:=⟨a50,i50,k50⟩
  j6:=mo a51
  yI:=mo a52
  Dg:=mo a53
  Es:=mo a54
  yd:=mo a55
  Zk8:=mo a56
  Znr:=mo a57
  Znq:=mo a58
  Zkb:=mo a59
  Zka:=mo a60
  Zk9:=mo a61
  Zgh:=mo a62
  Zk6:=mo a63
  Zk7:=mo a64
  Zk5:=mo a65
  Et:=mo a66
  Zy8:=mo a67
  mC:=mo a68
  cX:=mo a69
  wJ:=mo a70
  Iw:=mo a71
  Ng:=mo a72
  Nj:=mo a73
  Nh:=mo a74
  Ni:=mo a75
  Nm:=mo a76
  IK:=mo a77
  Iv:=mo a78
  Nf:=mo a79
  ye:=mo a80
  Iz:=mo a81
  Nk:=mo a82
  Ak:=mo a83
  Iu:=mo a84
  Ey:=mo a85
  Ew:=mo a86
  Nb:=mo a87
  wK:=mo a88
  Xr:=W.mg_none_of KI GN Xr
  pX:=W.mg_none_of KI GN pX
  Zi3:=W.mg_none_of KI GN Zi3
  lg:=W.mg_none_of KI GN lg
  iQ:=W.mg_none_of KI GN iQ
  uK:=W.mg_none_of KI GN uK
  Zi2:=W.mg_none_of KI GN Zi2
  uq:=W.mg_none_of KI GN uq
  Zi1:=W.mg_none_of KI GN Zi1
  Zi0:=W.mg_none_of KI GN Zi0
  OJ:=W.mg_none_of KI GN OJ
  Zu3:=⟨_,W.mg_of KI GN Zwm,Zwk⟩
  Zu2:=⟨_,W.mg_of KI GN Zwl,Zwj⟩
 }
 have b1:=bd5 F1 "self" "birth" "many" "bulk" "tone";have b2:=Gz F2 "self";have b3:=Bm F3 "self" "field";have b4:=Bm F4 "self" "room";have F5:=G.Zsy (st:=vZ) l5 c5 k5;have b5:=G.Zhu (ps:=["self","many","bulk","tone"]) (ds:=[]) l5 t5 λus hl=>match us,hl with | [_,_,_,_],_=>⟨_,rfl,rfl⟩
 have ZIg:=G.Zhu (ps:=["self","many","bulk","tone"]) (ds:=[Zit]) l5 t5 λus hl=>match us,hl with | [_,_,_],_=>⟨_,rfl,rfl⟩
 have ZIf:=G.Zhu (ps:=["self","many","bulk","tone"]) (ds:=[Zpe,Zit]) l5 t5 λus hl=>match us,hl with | [_,_],_=>⟨_,rfl,rfl⟩
 have b6:=Bm F6 "self" "cell";have b7:=Bm F7 "self" "place";have b8:=Gz F8 "self";have b9:=Gz F9 "self";have b10:=Bm F10 "heap" "place";have b11:=Bm F11 "heap" "place";have b12:=Bm F12 "heap" "rows";have b13:=bd3 F13 "heap" "places" "way";have b14:=bd3 F14 "self" "name" "many";have b15:=Gz F15 "self";have b16:=bd4 F16 "self" "room" "kind" "hands";have b17:=Gz F17 "world";have b18:=Bm F18 "heap" "places";have b19:=Bm F19 "world" "hand";have b20:=Bm F20 "world" "cell";have b21:=Gz F21 "world";have b22:=Gz F22 "world";have b23:=Bm F23 "world" "place";have b24:=Bm F24 "world" "places";have b25:=bd3 F25 "world" "place" "birth";have b26:=Gz F26 "world";have b27:=bd3 F27 "world" "place" "birth";have b28:=Bm F28 "world" "hands";have b29:=Gz F29 "world";have b30:=Gz F30 "world";have b31:=Gz F31 "world";have b32:=Gz F32 "world";have b33:=Gz F33 "world";have b34:=Gz F34 "world";have b35:=Gz F35 "world";have b36:=Gz F36 "event";have b37:=Gz F37 "world";have b38:=Gz F38 "world";have b39:=Gz F39 "world";have b40:=Gz F40 "world";have b41:=Gz F41 "world";have b42:=Gz F42 "hands";have b43:=Bm F43 "self" "hands";have b44:=bd3 F44 "self" "looked" "hands";have b45:=Gz F45 "self";have b46:=Bm F46 "self" "hands";have b47:=bd3 F47 "self" "looked" "hands";have b48:=bd3 F48 "self" "looked" "hands";have b49:=Gz F49 "self";have b50:=bd3 F50 "self" "looking" "tells";have b51:=Bm F51 "world" "hand";have b52:=bd3 F52 "world" "hand" "slot";have b53:=bd4 F53 "world" "hand" "slot" "field";have b54:=Bm F54 "world" "place";have b55:=bd3 F55 "world" "hand" "place";have b56:=Bm F56 "world" "deed";have b57:=Bm F57 "world" "deed";have b58:=Bm F58 "world" "deed";have b59:=Bm F59 "world" "deed";have b60:=Bm F60 "world" "deed";have b61:=Bm F61 "world" "deed";have b62:=Bm F62 "world" "deed";have b63:=Bm F63 "world" "deed";have b64:=Bm F64 "world" "deed";have b65:=Bm F65 "world" "deed";have b66:=Bm F66 "world" "word";have b67:=Bm F67 "world" "deed";have b68:=Bm F68 "_law_script" "_law_k";have b69:=bd3 F69 "_law_cell_here" "_law_prime" "_law_many";have b70:=Bm F70 "_law_cell_here" "_law_w";have b71:=Gz F71 "_law_script";have b72:=Gz F72 "_law_script";have b73:=Gz F73 "_law_number_here";have b74:=bd3 F74 "_law_n" "_law_h" "_law_s";have b75:=Gz F75 "_law_n";have b76:=bd3 F76 "_law_n" "_law_hands_here" "_law_seed";have b77:=bd3 F77 "_law_n" "_law_hands_here" "_law_seed";have b78:=bd3 F78 "_law_hands_here" "_law_cell_here" "_law_seed";have b79:=Bm F79 "_law_script" "_law_hands_here";have b80:=Gz F80 "_law_found";have b81:=Bm F81 "_law_found" "_law_due";have b82:=Bm F82 "_law_world" "_law_deed_here";have b83:=Gz F83 "_law_world";have b84:=Bm F84 "_law_tally" "_law_event_here";have b85:=bd5 F85 "_law_tally" "_law_event_here" "_law_way" "_law_hands_here" "_law_most";have b86:=Bm F86 "_law_tally" "_law_event_here";have b87:=bd4 F87 "_law_world" "_law_tally" "_law_way" "_law_most";have b88:=bd3 F88 "_law_world" "_law_row" "_law_tally";have F89:=Zp1 (st:=Qx) l89 c89 k89;refine⟨W.fnOf "law" "law" (nP Qx) (kO Qx) (aG Qx) .none Zyd Zzc Zxy Zzj Zwy Zze,λs v=>.of_eq rfl,λbase _ _=>?_⟩;have G1:=hh (w:=w) (KZ l.prog base Q0 T F1 ) b1 k1;have G2:=hh (w:=w) (Uy l.prog base Q0 T F2 ) b2 k2;have G3:=hh (w:=w) (Ie l.prog base Q0 T F3 ) b3 k3;have G4:=hh (w:=w) (KR l.prog base Q0 T F4 ) b4 k4;have G6:=hh (w:=w) (Zc9 l.prog base Q0 T F6 ) b6 k6;have G8:=hh (w:=w) (Zj l.prog base Q0 T F8 ) b8 k8;have G9:=hh (w:=w) (Ux l.prog base Q0 T F9 ) b9 k9;have G10:=hh (w:=w) (Zg9 l.prog base Q0 T F10 ) b10 k10;have G14:=hh (w:=w) (KY l.prog base Q0 T F14 ) b14 k14;have G15:=hh (w:=w) (Ed l.prog base Q0 T F15 ) b15 k15;have G17:=hh (w:=w) (Zro l.prog base Q0 T F17 ) b17 k17;have G19:=hh (w:=w) (Y0 l.prog base Q0 T F19 ) b19 k19;have G20:=hh (w:=w) (Y4 l.prog base Q0 T F20 ) b20 k20
 have G21:=hh (w:=w) (Uo l.prog base Q0 T F21 ) b21 k21;have G36:=hh (w:=w) (Uk l.prog base Q0 T F36 ) b36 k36;have G39:=hh (w:=w) (Zv7 l.prog base Q0 T F39 ) b39 k39;have G42:=hh (w:=w) (Zjz l.prog base Q0 T F42 ) b42 k42;have G43:=hh (w:=w) (Ef l.prog base Q0 T F43 ) b43 k43;have G44:=hh (w:=w) (CW l.prog base Q0 T F44 ) b44 k44;have G45:=hh (w:=w) (KN l.prog base Q0 T F45 ) b45 k45;have G47:=hh (w:=w) (Ib l.prog base Q0 T F47 ) b47 k47;have G49:=hh (w:=w) (Uw l.prog base Q0 T F49 ) b49 k49;have G50:=hh (w:=w) (KQ l.prog base Q0 T F50 ) b50 k50;have G51:=hh (w:=w) (Zc4 l.prog base Q0 T F51 ) b51 k51;have G54:=hh (w:=w) (Q3 l.prog base Q0 T F54 ) b54 k54;have G68:=hh (w:=w) (Zh l.prog base Q0 T F68 ) b68 k68;have G69:=hh (w:=w) (Zf l.prog base Q0 T F69 ) b69 k69;have G70:=hh (w:=w) (Y7 l.prog base Q0 T F70 ) b70 k70;have G75:=hh (w:=w) (Zc l.prog base Q0 T F75 ) b75 k75;have G80:=hh (w:=w) (Q7 l.prog base Q0 T F80 ) b80 k80;have G84:=hh (w:=w) (Uq l.prog base Q0 T F84 ) b84 k84;have G85:=hh (w:=w) (Q9 l.prog base Q0 T F85 ) b85 k85;have G86:=hh (w:=w) (Q8 l.prog base Q0 T F86 ) b86 k86;have G7:=hh (w:=w) (Zk l.prog base Q0 T F7 G2) b7 k7;have G11:=hh (w:=w) (Zc8 l.prog base Q0 T F11 G10) b11 k11;have G13:=hh (w:=w) (Zjw l.prog base Q0 T F13 G10) b13 k13;have G23:=hh (w:=w) (Zrn l.prog base Q0 T F23 G10 G20) b23 k23;have G25:=hh (w:=w) (Zrp l.prog base Q0 T F25 G10 G20) b25 k25;have G35:=hh (w:=w) (Zc6 l.prog base Q0 T F35 G9 G20) b35 k35;have G40:=hh (w:=w) (HW l.prog base Q0 T F40 G36) b40 k40;have G46:=hh (w:=w) (Ia l.prog base Q0 T F46 G42) b46 k46;have G48:=hh (w:=w) (HY l.prog base Q0 T F48 G42) b48 k48;have G52:=hh (w:=w) (Zg8 l.prog base Q0 T F52 G10 G51) b52 k52;have G55:=hh (w:=w) (Q4 l.prog base Q0 T F55 G19) b55 k55;have G71:=hh (w:=w) (Us l.prog base Q0 T F71 G68 G69 G70) b71 k71;have G72:=hh (w:=w) (Za l.prog base Q0 T F72 G68 G69) b72 k72;have G74:=hh (w:=w) (Zb l.prog base Q0 T F74 G69) b74 k74;have G78:=hh (w:=w) (Ur l.prog base Q0 T F78 G69 G70) b78 k78;have G81:=hh (w:=w) (Uu l.prog base Q0 T F81 G80) b81 k81;have G83:=hh (w:=w) (Ut l.prog base Q0 T F83 G9) b83 k83;have G5:=hh (w:=w) (Zi l.prog base Q0 T F5 G1 G2 G8 G6) b5 k5;have G12:=hh (w:=w) (Zg0 l.prog base Q0 T F12 G13) b12 k12;have G16:=hh (w:=w) (HX l.prog base Q0 T F16 G14 G4 G15) b16 k16;have G18:=hh (w:=w) (Y6 l.prog base Q0 T F18 G11) b18 k18;have G22:=hh (w:=w) (Zn6 l.prog base Q0 T F22 G46 G43) b22 k22;have G24:=hh (w:=w) (Zc5 l.prog base Q0 T F24 G23) b24 k24;have G27:=hh (w:=w) (Zfz l.prog base Q0 T F27 G25 G20 G21) b27 k27;have G38:=hh (w:=w) (Ul l.prog base Q0 T F38 G7 G10 G20) b38 k38;have G53:=hh (w:=w) (Y5 l.prog base Q0 T F53 G3 G52) b53 k53;have G59:=hh (w:=w) (Zg7 l.prog base Q0 T F59 G11 G51) b59 k59;have G60:=hh (w:=w) (Zg6 l.prog base Q0 T F60 G11 G51) b60 k60;have G62:=hh (w:=w) (Zc7 l.prog base Q0 T F62 G52) b62 k62;have G63:=hh (w:=w) (Zg2 l.prog base Q0 T F63 G52) b63 k63;have G64:=hh (w:=w) (Zg3 l.prog base Q0 T F64 G52 G51) b64 k64;have G66:=hh (w:=w) (Q5 l.prog base Q0 T F66 G25) b66 k66;have G73:=hh (w:=w) (Zd l.prog base Q0 T F73 G50) b73 k73;have G76:=hh (w:=w) (Zg l.prog base Q0 T F76 G69 G75 G74 G70) b76 k76;have G26:=hh (w:=w) (Zn5 l.prog base Q0 T F26 G17 G27) b26 k26;have G28:=hh (w:=w) (Um l.prog base Q0 T F28 G24) b28 k28;have G31:=hh (w:=w) (Zrl l.prog base Q0 T F31 G24) b31 k31;have G37:=hh (w:=w) (Om l.prog base Q0 T F37 G39 G38) b37 k37;have G56:=hh (w:=w) (Zg4 l.prog base Q0 T F56 G5 G11 G51) b56 k56
 have G57:=hh (w:=w) (Zjy l.prog base Q0 T F57 G11 G53 G51) b57 k57;have G58:=hh (w:=w) (Zjx l.prog base Q0 T F58 G11 G53 G24 G51 G55 G54) b58 k58;have G61:=hh (w:=w) (Zg5 l.prog base Q0 T F61 G11 G24 G51 G55) b61 k61;have G65:=hh (w:=w) (Zg1 l.prog base Q0 T F65 G11 G24 G66 G51) b65 k65;have G77:=hh (w:=w) (Uv l.prog base Q0 T F77 G76 G69) b77 k77;have G29:=hh (w:=w) (Oo l.prog base Q0 T F29 G22 G28) b29 k29;have G34:=hh (w:=w) (Up l.prog base Q0 T F34 G20 G12 G26) b34 k34;have G67:=hh (w:=w) (Zy4 l.prog base Q0 T F67 G59 G60 G57 G61 G56 G64 G58 G63 G65 G62) b67 k67;have G79:=hh (w:=w) (Y9 l.prog base Q0 T F79 G68 G77 G69 G78) b79 k79;have G33:=hh (w:=w) (Zva l.prog base Q0 T F33 G18 G34 G35 G36) b33 k33;have G82:=hh (w:=w) (Ze l.prog base Q0 T F82 G67) b82 k82;have G32:=hh (w:=w) (Q6 l.prog base Q0 T F32 G47 G48 G49 G44 G45 G33 G28) b32 k32;have G88:=hh (w:=w) (Gi l.prog base Q0 T F88 G82) b88 k88;have G30:=hh (w:=w) (Ol l.prog base Q0 T F30 G32 G31) b30 k30;have G41:=hh (w:=w) (Zrm l.prog base Q0 T F41 G29 G37 G30 G40) b41 k41;have G87:=hh (w:=w) (Y8 l.prog base Q0 T F87 G85 G86 G81 G84 G41) b87 k87;exact Zv6 _ _ Q0 T F89 G9 G16 G68 G88 G83 G71 G73 G72 G79 G87
theorem walk{l:W.OpenLaw}{q:AL}{loose:AG}{XP:(As)->Heap->Prop}{YP:AN->Heap->Prop}{d:DefRec}{K:Params->aC}(hn:l.most=some 63)(hdf:d.params.defaults=[])
  (hY:∀(w:AN) (h:Heap),YP w h->(K w.params).In h)
  (F:∀(w:AN) (mg:As) (fa:AH) (h:Heap),(K w.params).In h->h.Ns mainGlobals mg->mg d.name=↑fa->
   ∃fd:AK,(∀(s:AJ) (u:AI),BindsTo s fd ⟨[u],[]⟩ [("_law_script",u)])/\∀base:Heap,(K w.params).In base->base.Ns mainGlobals mg->vP l.prog w (K w.params) mg base (G.S9 l.prog w) 11 fa fd ["_law_script"] (Zj3 (K w.params))):
  W.WalkO q loose XP YP l.row.toRowW d [] (λf vs=>PySem.call f vs):=
 L2.Zpz (n:=63) (k:=11) (x:="_law_script") (CX:=λw=>G.S9 l.prog w) (sp:=λw=>Zj3 (K w.params)) hn ε hdf ⟨rfl,ε,ε⟩ hY F (λ_ _ a ns hl _ hS=>⟨a,rfl,ns,hS,hl,λ_=>rfl⟩) λ_ _ _ _ _ z=>by
  obtain⟨_,_,_,_,_,_,_,_,_,_,_,_,z⟩:=z;exact z
end K33
namespace PySem.W.Fast
def tw2894249354107647593:=0
def tw11701030184839727741:=0
def tw4805169231799383131:=0
def tw7206797846511051284:=0
def tw13628993491615982210:=0
def tw14754773926621710269:=0
def tw11911426620357952465:=0
def tw11849269491226253034:=0
def tw2203680041791893564:=0
def tw9203124107111237359:=0
def tw4193547490666284953:=0
def tw1899778000410170990:=0
def tw17460567405673585881:=0
def tw18077348695310759868:=0
def tw8487861376603846639:=0
def tw16885047964170515496:=0
def tw12309350697942758510:=0
def tw12107930936438545725:=0
def tw15751894575809452529:=0
def tw9696521322692842092:=0
def tw9456630932044305608:=0
def tw3555247509952153142:=0
def tw18056838322519602769:=0
def tw14038115024585863002:=0
def tw6161424912383808547:=0
def tw13905841231860950652:=0
def tw15174264335632525900:=0
def tw12489888131491123510:=0
def tw17184405236360175460:=0
def tw4464733612361449295:=0
def tw16077594998229228515:=0
def tw2666664746556002922:=0
def tw14997052059932103727:=0
def tw5589754021156083698:=0
def tw5582976250722976573:=0
def tw4268916068461694769:=0
def tw5215413880646499631:=0
def tw2196939707670954507:=0
def tw11611232072278280898:=0
def tw16255476707666211616:=0
def tw17694144398648666042:=0
def tw13559389936790271768:=0
def tw18310164770946133485:=0
def tw3474873747277781069:=0
def tw15851813160416248221:=0
def tw12040110173879315522:=0
def tw16947006334264283082:=0
def tw11679434708542678077:=0
def tw8354968108248715173:=0
def tw17020836469579856892:=0
def tw15479969248323481441:=0
def tw7147754444722195182:=0
def tw18011384159869933470:=0
def tw8344055261354233588:=0
def tw11542173659387651024:=0
def tw4849644589298284304:=0
def tw14982792743233139785:=0
def tw5351701005557933539:=0
def tw4416204642094398947:=0
def tw11363713102157088696:=0
def tw3062541682359889710:=0
def tw2329200175466231321:=0
def tw1846262069163824469:=0
def tw18196291671267057415:=0
def tw2894351790505284162:=0
def tw639504323782251706:=0
def tw1922514309527127655:=0
def tw14056643412518662596:=0
def tw11243361129525733123:=0
def tw8347504784850870714:=0
def tw8198242222434954637:=0
def tw1575499565093953861:=0
def tw6598592147084920904:=0
def tw5913512012507462459:=0
def tw9243925166653898173:=0
def tw13019172465392617456:=0
def tw12858227786028792255:=0
def tw10533148950449601170:=0
def tw11783581211427908407:=0
def tw13352087981734956665:=0
def tw15156752552376193102:=0
def tw12533191668635728469:=0
def tw16866861587555766843:=0
def tw16791926476787223576:=0
def tw14650978205810405918:=0
def tw3050778235421411519:=0
def tw13866499871961290799:=0
def tw10685270674407711248:=0
def tw7776236471718360037:=0
def tw7982769325286911428:=0
def tw4560450145845263258:=0
def tw8166289071683674133:=0
def tw17145071006692576619:=0
def tw13862635637478837565:=0
def tw8021900871807723896:=0
def tw5184959007951585395:=0
def tw17059094381523352870:=0
def tw13977761186049372334:=0
def tw8212944556104024293:=0
def tw8661251394451209819:=0
def tw18299584579554690161:=0
def tw2283016699805333546:=0
def tw17740745939166642504:=0
def tw713387650089170665:=0
def tw12305035283213050866:=0
def tw15762048620757623105:=0
def tw13211690740797957135:=0
def tw18391899960119671076:=0
def tw4464399514494403704:=0
def tw6810861521846521501:=0
def tw10816608763691371279:=0
def tw13443351693341547840:=0
def tw648390076101108299:=0
def tw7299088188236160846:=0
def tw12443700602862734053:=0
def tw5349453678564400098:=0
def tw14275193459289328179:=0
def tw6347343109357148208:=0
def tw16376390867808222202:=0
def tw12536143741112001602:=0
def tw6343261683483919708:=0
def tw4357830918181710466:=0
def tw5749931869029116452:=0
def tw13720827196291075183:=0
def tw16334125527878114470:=0
def tw8885441375959128595:=0
def tw8136962902644900700:=0
def tw11721676693029398300:=0
def tw1084048714569696587:=0
def tw14450414638197491941:=0
def tw13900954664982336131:=0
def tw15512135740269672246:=0
def tw1642210516623411997:=0
def tw7629123788328431459:=0
def tw13609104829903421346:=0
def tw10116465200556862768:=0
def tw1431792905339654653:=0
def tw9097703075856597781:=0
def tw15142520588544489863:=0
def tw15239752803666926560:=0
def tw12107773487835241657:=0
def tw16066768792285589844:=0
def tw18220973156011844893:=0
def tw3501909883275266729:=0
def tw5139260405737855233:=0
def tw15457143938800501811:=0
def tw3798010128894938365:=0
def tw8829328477963931406:=0
def tw470232652699459007:=0
def tw10131593992321144058:=0
def tw16734921946901146068:=0
def tw1062091200852507299:=0
def tw4958360213498350018:=0
def tw17011719840437698671:=0
def tw13711250664996505531:=0
def tw15884526391039637959:=0
def tw17056457471014730516:=0
def tw377094147895198416:=0
def tw246626910585753385:=0
def tw16014098190308661206:=0
def tw4151094549323438716:=0
def tw5003233966808410154:=0
def tw13054997950500069696:=0
def tw4695800191128795340:=0
def tw17344190292858271916:=0
def tw128125680136842906:=0
def tw3735629136521268679:=0
def tw104163392238479437:=0
def tw11735000333532721764:=0
def tw17378270967692870568:=0
def tw17538178078403697621:=0
def tw6203123890213463220:=0
def tw17246356724729810738:=0
def tw15404310299940008527:=0
def tw7470939418856135087:=0
def tw16086248483642827555:=0
def tw6379956832069036588:=0
def tw1099499287394925256:=0
def tw2092029417286614885:=0
def tw16860076787750495670:=0
def tw13137977367690880163:=0
def tw3499803236449874168:=0
def tw12889738478608679115:=0
def tw1505532955519172997:=0
def tw3520763911480277977:=0
def tw1322414745108028363:=0
def tw2918667722755499509:=0
def tw18364868165198462291:=0
def tw8401659132806796856:=0
def tw12913952578038796520:=0
def tw11661955592055278385:=0
def tw2067639321850151638:=0
def tw17805580794379132711:=0
def tw10621273985168741103:=0
def tw11467366146814278148:=0
def tw18139725141683723064:=0
def tw1243938526687974109:=0
def tw11894784827552369091:=0
def tw7880259824533964174:=0
def tw13656915878785712773:=0
def tw17051603149331130028:=0
def tw6225305129200362048:=0
def tw15546318074915832162:=0
def tw9451734005628635427:=0
def tw4974308966059960903:=0
def tw13073633692956308167:=0
def tw10600515571133879304:=0
def tw11464262038240317864:=0
def tw16448176567940009545:=0
def tw5728460500349872074:=0
def tw9916189583879072714:=0
def tw3089958040955480464:=0
def tw16977119805122070481:=0
def tw5645706642015205138:=0
def tw11166198440712547122:=0
def tw10587096425611930100:=0
def tw16952653911369341524:=0
def tw12026908105593231062:=0
def tw774636244477592888:=0
def tw9510839979894700025:=0
def tw14940156096985777370:=0
def tw9033497433125744443:=0
def tw12352717323505098012:=0
def tw17613933388889964956:=0
def tw8812807652831084477:=0
def tw6274302863424989886:=0
def tw14488837974533722157:=0
def tw7274994333150134464:=0
def tw15876524493695299386:=0
def tw16245541138511016663:=0
def tw1548475667141335062:=0
def tw11742816052990684183:=0
def tw7442948369806208050:=0
def tw1559788983941902738:=0
def tw1396563246549958461:=0
def tw13183838441925363295:=0
def tw177370716592532151:=0
def tw839001002716247512:=0
def tw5763285349405138360:=0
def tw4367962008371395359:=0
def tw11399808764645516758:=0
def tw1910413563061244472:=0
def tw9273223399827187145:=0
def tw2708856576353269168:=0
def tw7981342688381756058:=0
def tw12596779626996575509:=0
def tw2333037165750214189:=0
def tw16586532480166673480:=0
def tw10979193776831137658:=0
def tw2028233258506144512:=0
def tw5874130348233966920:=0
def tw9216888197191034533:=0
def tw5432285439821800533:=0
def tw12102071189227416502:=0
def tw4559709463002482703:=0
def tw2002860947394693308:=0
def tw17555724567069573287:=0
def tw1574225749215757786:=0
def tw13675799095965593785:=0
def tw10702565387439077924:=0
def tw17755581591891160026:=0
def tw11396950272476570607:=0
def tw10440271864305014500:=0
def tw3161177445886797717:=0
def tw11081258549266715833:=0
def tw7232563991345601651:=0
def tw3882812103796894934:=0
def tw10374738873984872366:=0
def tw5401631852630578586:=0
def tw15140054338574640998:=0
def tw11867410130448258442:=0
def tw1840560447161789391:=0
def tw13119078163711155875:=0
def tw11810011960101714435:=0
def tw17873878658546876712:=0
def tw4250620465012415986:=0
def tw5681193310543858997:=0
def tw14077531949134959570:=0
def tw11919024325160378773:=0
def tw16199958653840424382:=0
def tw6015801838966312400:=0
def tw6822545193853501757:=0
def tw8181689993069358295:=0
def tw4823181111956548579:=0
def tw3673544387137273307:=0
def tw14203312558979473768:=0
def tw17974793465909577625:=0
def tw5589969958568572181:=0
def tw17183244495914183672:=0
def tw12321884685208592792:=0
def tw17595633773440655573:=0
def tw6042170331657288288:=0
def tw16428046502669698543:=0
def tw569992174638646621:=0
def tw8638179903761443750:=0
def tw1424291624301460925:=0
def tw6056292541955911698:=0
def tw1617830058820821000:=0
def tw2572688537913939763:=0
def tw8830293463956138721:=0
def tw929906422467762979:=0
def tw16150290430956261922:=0
def tw12186378827568631579:=0
def tw10283859106897019025:=0
def tw2729675157339124740:=0
def tw17073481643728885672:=0
def tw16007337271936350777:=0
def tw2863279456849905725:=0
def tw11665738972161836541:=0
def tw17790048857602297734:=0
def tw4034269475591819656:=0
def tw6059062138562454478:=0
def tw12608729286088148438:=0
def tw10682418772654597791:=0
def tw4700344837412338301:=0
def tw12469009603029126543:=0
def tw17780624734527386690:=0
def tw17634776278028817675:=0
def tw15519774004809256910:=0
def tw10980342209480293804:=0
def tw1910259697932666761:=0
def tw2687323570683807150:=0
def tw13883273915411785297:=0
def tw13679882923664643008:=0
def tw3328819399431647071:=0
def tw1107817315689477764:=0
def tw3501960874609618543:=0
def tw4618444840362267953:=0
def tw12036729696218692974:=0
def tw4903561954964397321:=0
def tw254035808249212073:=0
def tw16920713928064547321:=0
def tw8179786827660456395:=0
def tw10447682178123018151:=0
def tw17709861784684921960:=0
def tw18335835431015067764:=0
def tw9765285303935190458:=0
def tw16458008283205897571:=0
def tw5929437242388831238:=0
def tw9340087257288916295:=0
def tw17198112422897121211:=0
def tw5816915430996538327:=0
def tw16986667742988098907:=0
def tw16068464615979331264:=0
def tw15880383203664176110:=0
def tw14576054155322789308:=0
def tw2316658716699366304:=0
def tw2444967092766465544:=0
def tw6262288714507733523:=0
def tw4304137120909681246:=0
def tw8664268290816235452:=0
def tw1306513994114146320:=0
def tw8700738362161536444:=0
def tw10092806026826132781:=0
def tw11784553591059490465:=0
def tw8820591764199324221:=0
def tw2115175223404905157:=0
def tw2848076746511578351:=0
def tw16377294188557507943:=0
def tw8774980128635249253:=0
def tw8473298628317755642:=0
def tw716593315090962584:=0
def tw15166628492115842379:=0
def tw15836716707887086919:=0
def tw3733559582973095131:=0
def tw1757361162727926331:=0
def tw12843841369646115653:=0
def tw9912490414281033057:=0
def tw6879659099218150349:=0
def tw12686112242518100684:=0
def tw3441052453265406988:=0
def tw2360812648700339018:=0
def tw13225191787483100743:=0
def tw17754557537013164031:=0
def tw8030131300583462980:=0
def tw17957106540382870587:=0
def tw2911525734605183611:=0
def tw1357720461696684314:=0
def tw5418325491422577161:=0
def tw5143629077028192384:=0
def tw9741650525762891816:=0
def tw10260638479472854057:=0
def tw2481107740916170268:=0
def tw13030570019081967412:=0
def tw3900514469179218958:=0
def tw7337124930811556737:=0
def tw13557554071046915454:=0
def tw5934943138147761287:=0
def tw5115313629709997901:=0
def tw4119011961825827852:=0
def tw2785296496069750668:=0
def tw2991013718142583509:=0
def tw11556357935162306167:=0
def tw9087118319428651037:=0
def tw11679241749641441871:=0
def tw6474452959972779802:=0
def tw4265344766310360766:=0
def tw15744131218183816232:=0
def tw17643501933660608173:=0
def tw836658468991351609:=0
def tw10921125455307051670:=0
def tw12874862871330517414:=0
def tw16964164693987422240:=0
def tw16539907047917450942:=0
def tw12506594396592761511:=0
def tw603949380177207364:=0
def tw11957640734642450709:=0
def tw13087666279826206214:=0
def tw1086521492319936341:=0
def tw2709406737058447312:=0
def tw9428600528191622365:=0
def tw1300842690980315030:=0
def tw3798100494276747949:=0
def tw9946508046030692403:=0
def tw8039062824704827174:=0
def tw11240202161798681529:=0
def tw11571564879669360731:=0
def tw13394055947077354486:=0
def tw16613314186672383599:=0
def tw13445607322612430536:=0
def tw4296511658122613181:=0
def tw2120623872481196541:=0
def tw12553922564224622518:=0
def tw455390545641303678:=0
def tw14582204123166048610:=0
def tw13747817446953069613:=0
def tw115538389421080827:=0
def tw10983465107193369228:=0
def tw13198595406268058446:=0
def tw1962789378077329427:=0
def tw3014744325154837695:=0
def tw14827720289641317639:=0
def tw13771404536633145292:=0
def tw7197152448721549820:=0
def tw7904392134407182143:=0
def tw7494408637882216467:=0
def tw12370066807375135274:=0
def tw4383332936775313096:=0
def tw6099860004517944955:=0
def tw13956372329352819897:=0
def tw7592061353838516641:=0
def tw13158383855348519953:=0
def tw522470671551148706:=0
def tw17061722209262954716:=0
def tw4225351203161027975:=0
def tw16825601262293076262:=0
def tw12141346215087304854:=0
def tw8980789218543086986:=0
def tw5387476654655594458:=0
def tw428469502730614260:=0
def tw16606534852392870393:=0
def tw1986374522349011107:=0
def tw18146837262808414477:=0
def tw14686682288518754631:=0
def tw9100258400325920091:=0
def tw9387954645226090328:=0
def tw9244227160995537525:=0
def tw13405879626654733805:=0
def tw17654465698180855478:=0
def tw8417727407450278870:=0
def tw10320205324670835200:=0
def tw10418606559322210677:=0
def tw8858080946981783422:=0
def tw7266494455421983639:=0
def tw1673302711348973322:=0
def tw11554150479808175612:=0
def tw13148274430907472905:=0
def tw8535022083112695773:=0
def tw13175390598520746093:=0
def tw6401051638207114231:=0
def tw8253768176177729842:=0
def tw15134247582236187141:=0
def tw1753829165587292819:=0
def tw4611385401534387548:=0
def tw1564352914237314402:=0
def tw16633153269056699714:=0
def tw17949973072379463782:=0
def tw8289345892135850979:=0
def tw4492254856852558570:=0
def tw16644073751797422929:=0
def tw16088732297726445901:=0
def tw12738359354300774975:=0
def tw14079534083769206929:=0
def tw8397801978331481180:=0
def tw8694385157866990721:=0
def tw3368522509371962337:=0
def tw5380163603436229752:=0
def tw1986349322647642827:=0
def tw8830023923986410772:=0
def tw10911696723194304477:=0
def tw13776543958726443771:=0
def tw13559795764848669907:=0
def tw17947933383942265982:=0
def tw3564757825050101998:=0
def tw2254316461431889364:=0
def tw10802849616708311074:=0
def tw6529635404888736909:=0
def tw11678210926782880778:=0
def tw6311561600666913347:=0
def tw1438366827300000216:=0
def tw17766992960425453349:=0
def tw8236341870263994952:=0
def tw3385011670754676215:=0
def tw2982668118537105506:=0
def tw17363220467624265095:=0
def tw16739245901144029960:=0
def tw7432356117160479445:=0
def tw8945324079734322213:=0
def tw7751197776852795610:=0
def tw14747936586039040867:=0
def tw2841782898876674154:=0
def tw3022534020151159072:=0
def tw14588490619680981238:=0
def tw9090983556278419833:=0
def tw13915399666448588365:=0
def tw14424943397377112992:=0
def tw1633031001902725250:=0
def tw5783825418584362886:=0
def tw14463273073397912761:=0
def tw17436056323702924669:=0
def tw10506340457290403648:=0
end PySem.W.Fast
open PySem PySem.W PyProof.Rows
set_option maxRecDepth 100000 in
set_option maxHeartbeats 0 in
theorem PySem.Challenge.cw_greywalk_k33_a_round_told_up_holds : PySem.Challenge.rw_greywalk_k33_a_round_told_up.Holds := by
 w_on;o_law;k_head;(case hw=>w_witness2)
 k_fill
 refine K33.walk (l:=PySem.Challenge.rw_greywalk_k33_a_round_told_up) rfl rfl (fun w h Y=>PySem.W.kIn_of Y) ?F
 case F=>
  intro w mg fa h KX G hmg
  refine' K33.all_mk KX G hmg ?h0 ?h1 ?h2 ?h3 ?h4 ?h5 ?h6 ?h7 ?h8 ?h9 ?h10 ?h11 ?h12 ?h13 ?h14 ?h15 ?h16 ?h17 ?h18 ?h19 ?h20 ?h21 ?h22 ?h23 ?h24 ?h25 ?h26 ?h27 ?h28 ?h29 ?h30 ?h31 ?h32 ?h33 ?h34 ?h35 ?h36 ?h37 ?h38 ?h39 ?h40 ?h41 ?h42 ?h43 ?h44 ?h45 ?h46 ?h47 ?h48 ?h49 ?h50 ?h51 ?h52 ?h53 ?h54 ?h55 ?h56 ?h57 ?h58 ?h59 ?h60 ?h61 ?h62 ?h63 ?h64 ?h65 ?h66 ?h67 ?h68 ?h69 ?h70 ?h71 ?h72 ?h73 ?h74 ?h75 ?h76 ?h77 ?h78 ?h79 ?h80 ?h81 ?h82 ?h83 ?h84 ?h85 ?h86 ?h87 ?h88 ?h89 ?h90 ?h91 ?h92 ?h93 ?h94 ?h95 ?h96 ?h97 ?h98 ?h99 ?h100 ?ZI4 ?ZI2 ?ZI1 ?ZI0 ?ZHz ?ZHy ?ZHx ?ZHw ?ZHv ?ZHu ?ZHt ?ZHs ?ZHr ?ZHq ?ZHp ?ZHo ?ZHn ?ZHm ?ZHl ?ZHk ?ZHj ?ZHi ?ZHh ?ZHg ?ZHf ?ZHe ?ZHd ?ZHc ?ZHb ?ZHa ?ZH9 ?ZH8 ?ZH7 ?ZH6 ?ZH5 ?ZH4 ?ZH3 ?ZH2 ?ZH1 ?ZH0 ?ZGz ?ZGy ?ZGx ?ZGw ?ZGv ?ZGu ?ZGt ?ZGs ?ZGr ?ZGq ?ZGp ?ZGn ?ZGm ?ZGl ?ZGk ?ZGj ?ZGi ?ZGh ?ZGg ?ZGf ?ZGe ?ZGd ?ZGc ?ZGb ?ZGa ?ZG9 ?ZG8 ?ZG7 ?ZG6 ?ZG5 ?ZG4 ?ZG3 ?ZG2 ?ZG1 ?ZG0 ?ZFz ?ZFy ?ZFx ?ZFw ?ZFv ?ZFu ?ZFt ?ZFs ?ZFr ?ZFq ?ZFp ?ZFo ?ZFn ?ZFm ?ZFl ?ZFk ?ZFj ?ZFi ?ZFh ?ZFg ?ZFf ?ZFe ?ZFd ?ZFc ?ZFb ?ZFa ?ZF9 ?ZF8 ?ZF7 ?ZF6 ?ZF5 ?ZF4 ?ZF3 ?ZF2 ?ZF1 ?ZF0 ?ZEz ?ZEy ?ZEx ?ZEw ?ZEv ?ZEu ?ZEt ?ZEs ?ZEr ?ZEq ?ZEp ?ZEo ?ZEn ?ZEm ?ZEl ?ZEk ?ZEj ?ZEi ?ZEh ?ZEg ?ZEf ?ZEe ?ZEd ?ZEc ?ZEb ?ZEa ?ZE9 ?ZE8 ?ZE7 ?ZE6 ?ZE5 ?ZE4 ?ZE3 ?ZE1 ?ZE0 ?ZDz ?ZDy ?ZDx ?ZDw ?ZDv ?ZDu ?ZDt ?ZDs ?ZDr ?ZDq ?ZDp ?ZDo ?ZDn ?ZDm ?ZDl ?ZDk ?ZDj ?ZDi ?ZDh ?ZDg ?ZDf ?ZDe ?ZDd ?ZDc ?ZDb ?ZDa ?ZD9 ?ZD8 ?ZD7 ?ZD6 ?ZD5 ?ZD4 ?ZD3 ?ZD2 ?ZD1 ?ZD0 ?ZCz ?ZCy ?ZCx ?ZCw ?ZCv ?ZCu ?ZCt ?ZCs ?ZCr ?ZCq ?ZCp ?ZCo ?ZCn ?ZCm ?ZCl ?ZCk ?ZCj ?ZCi ?ZCh ?ZCg ?ZCf ?ZCe ?ZCd ?ZCc ?ZCb ?ZCa ?ZC9 ?ZC8 ?ZC7 ?ZC6 ?ZC5 ?ZC4 ?ZC3 ?ZC2 ?ZC1 ?ZC0 ?ZBz ?ZBy ?ZBx ?ZBw ?ZBv ?ZBu ?ZBt ?ZBs ?ZBr ?ZBq ?ZBp ?ZBo ?ZBn ?ZBm ?ZBl ?ZBk ?ZBj ?ZBi ?ZBh ?ZBg ?ZBf ?ZBe ?ZBd ?ZBc ?ZBb ?ZBa ?ZB9 ?ZB8 ?ZB7 ?ZB6 ?ZB5 ?ZB4 ?ZB3 ?ZB2
  case h0 | h1 | h2 | h3 | h4 | h5 | h6 | h7 | h8 | h9 | h10 | h11 | h12 | h13 | h14 | h15 | h16 | h17 | h18 | h19 | h20 | h21 | h22 | h23 | h24 | h25=>(show _=_;k_is)
  case h26 | h27=>first | exact rfl | exact ⟨_,rfl⟩
  case h28 | h29 | h30 | h31 | h32 | h33 | h34 | h35 | h36 | h37 | h38 | h39 | h40 | h41 | h42 | h43 | h44 | h45 | h46 | h47 | h48 | h49 | h50 | h51 | h52 | h53 | h54 | h55 | h56 | h57 | h58 | h59 | h60 | h61 | h62 | h63 | h64 | h65 | h66 | h67 | h68 | h69 | h70 | h71 | h72 | h73 | h74 | h75 | h76 | h77 | h78 | h79 | h80 | h81 | h82 | h83 | h84 | h85 | h86 | h87 | h88 | h89 | h90 | h91 | h92 | h93 | h94 | h95 | h96 | h97 | h98 | h99 | h100 | ZI4 | ZI2 | ZI1 | ZI0 | ZHz | ZHy | ZHx | ZHw | ZHv | ZHu | ZHt | ZHs | ZHr | ZHq | ZHp | ZHo | ZHn | ZHm | ZHl | ZHk | ZHj | ZHi | ZHh | ZHg | ZHf | ZHe | ZHd | ZHc | ZHb | ZHa | ZH9 | ZH8 | ZH7=>(show _=_;k_is)
  case ZH6 | ZH5 | ZH4 | ZH3=>exact rfl
  case ZH2 | ZH1=>(show _=_;k_is)
  case ZH0 | ZGz | ZGy | ZGx | ZGw | ZGv | ZGu | ZGt | ZGs | ZGr=>exact rfl
  case ZGq | ZGp | ZGn | ZGm | ZGl | ZGk | ZGj | ZGi | ZGh | ZGg | ZGf | ZGe | ZGd | ZGc | ZGb | ZGa | ZG9 | ZG8 | ZG7 | ZG6 | ZG5 | ZG4 | ZG3 | ZG2 | ZG1 | ZG0 | ZFz | ZFy | ZFx | ZFw | ZFv | ZFu | ZFt | ZFs | ZFr | ZFq | ZFp | ZFo | ZFn | ZFm | ZFl | ZFk | ZFj | ZFi | ZFh | ZFg | ZFf | ZFe | ZFd | ZFc | ZFb | ZFa | ZF9 | ZF8 | ZF7 | ZF6 | ZF5 | ZF4 | ZF3 | ZF2 | ZF1 | ZF0 | ZEz | ZEy | ZEx | ZEw | ZEv | ZEu | ZEt | ZEs | ZEr | ZEq | ZEp | ZEo | ZEn | ZEm | ZEl | ZEk | ZEj | ZEi | ZEh | ZEg | ZEf | ZEe | ZEd | ZEc | ZEb | ZEa=>(show _=_;k_is)
  case ZE9 | ZE8 | ZE7 | ZE6=>k_exc
  case ZE5 | ZE4 | ZE3 | ZE1=>kts_exm
  case ZE0 | ZDz | ZDy | ZDx | ZDw | ZDv | ZDu | ZDt | ZDs | ZDr | ZDq | ZDp | ZDo | ZDn | ZDm | ZDl | ZDk=>(show _=_;k_is)
  case ZDj=>first | exact rfl | exact ⟨_,rfl⟩
  case ZDi=>(show _=_;k_is)
  case ZDh=>first | exact rfl | exact ⟨_,rfl⟩
  case ZDg | ZDf | ZDe | ZDd | ZDc | ZDb | ZDa | ZD9 | ZD8 | ZD7 | ZD6 | ZD5 | ZD4 | ZD3 | ZD2 | ZD1 | ZD0 | ZCz | ZCy | ZCx | ZCw | ZCv | ZCu | ZCt | ZCs | ZCr | ZCq | ZCp | ZCo | ZCn | ZCm | ZCl | ZCk | ZCj | ZCi | ZCh | ZCg | ZCf | ZCe | ZCd | ZCc | ZCb | ZCa | ZC9 | ZC8 | ZC7 | ZC6 | ZC5 | ZC4 | ZC3 | ZC2 | ZC1 | ZC0 | ZBz | ZBy | ZBx | ZBw | ZBv | ZBu | ZBt | ZBs | ZBr | ZBq | ZBp | ZBo | ZBn | ZBm | ZBl | ZBk | ZBj | ZBi | ZBh | ZBg | ZBf | ZBe | ZBd | ZBc | ZBb | ZBa | ZB9 | ZB8 | ZB7 | ZB6 | ZB5 | ZB4 | ZB3 | ZB2=>(refine' K33.fgm ?l ?c ?k;(case l=>show _=_;k_is);(case c=>show _=_;k_is);(case k=>show _=_;k_is))
#print axioms PySem.Challenge.cw_greywalk_k33_a_round_told_up_holds
