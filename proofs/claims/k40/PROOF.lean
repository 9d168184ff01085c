import PyProof.Rows.All
import Lean
import KE.KTryMore
import KE.KItemsList
import KE.KItem
import KE.RegKTryMore
import KE.KDictList
import KE.KEqDict
import KE.KIsBytes
import PySem.Challenge.RW_greywalk_k40_run_row_by_row
set_option Elab.async false
set_option linter.all false
set_option compiler.extract_closed false
set_option maxRecDepth 100000
set_option hygiene false
local macro_rules|`(γ)=>`(by decide +kernel)
local macro_rules|`(δ)=>`(by omega)
local macro_rules|`(ε)=>`(by decide)
local macro_rules|`(ζ)=>`(by simp)
local macro_rules|`(η)=>`(by rfl)
local macro_rules|`(↑$x)=>`(some (.ref $x))
local macro_rules|`(ι $x*)=>`(Hh P w K mg base $x*)
local macro_rules|`(ν)=>`(St->Hp->Prop)
local macro_rules|`(ξ)=>`(⟨n,Q,bk,ct⟩)
local macro_rules|`(ο)=>`(rI (λ_ j=>0<j) λi j=>.int (i % j))
local macro_rules|`(π)=>`(aM (pv 0) rfl)
local macro_rules|`(ρ)=>`(aq 0)
local macro_rules|`(ς)=>`(model X.prog X.w)
local macro_rules|`(τ)=>`(tC (.int 1))
local macro_rules|`(υ)=>`(Nat.le_refl _)
local macro_rules|`(χ)=>`(bT se ph gr lo tu at_ st wa ls pa lx)
local macro_rules|`(ψ)=>`(aq 1)
local macro_rules|`(ω)=>`(fY bM (pv 1) (aA))
local macro_rules|`(Γ)=>`(tC (.int 0))
local macro_rules|`(Δ)=>`(Pz AD.bF AD.aJ AD.aQ AD.aV)
local macro_rules|`(Θ)=>`(lK λi j=>.int (i+j))
local macro_rules|`(Ξ)=>`(pv 0)
local macro_rules|`(Φ)=>`(pv 1)
local macro_rules|`(Ψ)=>`(ps.map V.ref++[.ref b])
local macro_rules|`(Ω)=>`(aq 2)
local macro_rules|`(ac)=>`(pv 2)
local macro_rules|`(ae)=>`(rI Ba λi j=>.int (i / j))
local macro_rules|`(af)=>`(model prog w)
local macro_rules|`(ag)=>`(W.fnOf x qual (iH st) (fj st) (aF st) .none kV doc pm an cdv ct)
local macro_rules|`(ah)=>`(Ub (rU λi=>.int (-i)) τ)
local macro_rules|`(ai)=>`(s.heap.objs.size+1)
local macro_rules|`(am)=>`(hr.mono ε)
abbrev Ap:=PySem.Value->PySem.Shared->Prop
abbrev As:=PySem.Str->Option PySem.Value
abbrev At:=List (PySem.Addr×PySem.Obj)
abbrev Au:=List (Option Int)
abbrev AA:=Option Int
abbrev AB:=Option PySem.Value
abbrev AC:=List PySem.Value
abbrev AE:=List Int
abbrev AF:=List PySem.Addr
abbrev AG:=List PySem.Expr
abbrev AH:=List PySem.Str
abbrev AI:=PySem.Addr
abbrev AJ:=PySem.Value
abbrev AK:=PySem.Shared
abbrev AL:=PySem.FuncData
abbrev AM:=PySem.Program
abbrev AN:=PySem.Expr
abbrev AO:=PySem.World
abbrev aG:=PySem.W.Frag
theorem bN{α:Type}{l:List α}{i:Nat}(h:i<l.length):l[i]? =some l[i]:=List.getElem?_eq_getElem h
theorem cZ{α:Type}{l:List α}{i:Nat}{a:α}(h:l[i]? =some a):∃h:i<l.length,l[i]=a:=List.getElem?_eq_some_iff.mp h
theorem cI{α β:Type}{f:α->β}{l:List α}{i:Nat}:(l.map f)[i]? =l[i]?.map f:=List.getElem?_map
theorem bx{α β:Type}{l:List α}(f:α->β):(l.map f).length=l.length:=List.length_map f
namespace L2
open PySem PySem.Spec PyProof.Rows
abbrev Key:=Sum Int Str
def JK:Key->AJ->Bool
 | .inl k,v=>Value.isInt k v
 | .inr x,v=>Value.isStrOf x v
def Zvi(w:AO):Key->Int
 | .inl k=>hashInt k
 | .inr x=>hashStr w x
theorem dI:∀{k:Key}{v:AJ},JK k v=true->(∃i t,k=Sum.inl i/\v=Value.int i t)\/(∃x t,k=Sum.inr x/\v=Value.str x t)
 | .inl i,v,h=>by
  obtain⟨t,e⟩:=Value.isInt_shape (k:=i) (v:=v) h;exact .inl ⟨i,t,rfl,e⟩
 | .inr x,v,h=>by
  obtain⟨t,e⟩:=Value.isStrOf_shape (x:=x) (v:=v) h;exact .inr ⟨x,t,rfl,e⟩
theorem Zk2(i:Int)(t:Tok):JK (.inl i) (.int i t)=true:=by simp[JK,Value.isInt]
theorem Zk1(x:Str)(t:Tok):JK (.inr x) (.str x t)=true:=by simp[JK,Value.isStrOf]
theorem Zth(a b:Int):decide ((Sum.inl a:Key)=Sum.inl b)=(a == b):=by
 by_cases e:a=b
 ·subst e;simp
 ·have h:¬ (Sum.inl a:Key)=Sum.inl b:=λq=>e (Sum.inl.inj q);rw[decide_eq_false h];exact(beq_eq_false_iff_ne.mpr e).symm
theorem Zte(a b:Str):decide ((Sum.inr a:Key)=Sum.inr b)=decide (a=b):=by
 by_cases e:a=b
 ·subst e;simp
 ·have h:¬ (Sum.inr a:Key)=Sum.inr b:=λq=>e (Sum.inr.inj q);rw[decide_eq_false h,decide_eq_false e]
theorem Ztg(a:Int)(b:Str):decide ((Sum.inl a:Key)=Sum.inr b)=false:=decide_eq_false (λq=>nomatch q)
theorem Ztf(a:Str)(b:Int):decide ((Sum.inr a:Key)=Sum.inl b)=false:=decide_eq_false (λq=>nomatch q)
def dH(prog:AM)(w:AO):PySem.KeyKind prog w Key where
  is:=JK
  hash:=Zvi w
  inj:=λv a b ha hb=>by
    rcases dI ha with ⟨i,t,rfl,rfl⟩ | ⟨x,t,rfl,rfl⟩
    · rcases dI hb with ⟨j,u,rfl,e⟩ | ⟨y,u,rfl,e⟩
      · injection e with e1 _;rw[e1]
      · exact nomatch e
    · rcases dI hb with ⟨j,u,rfl,e⟩ | ⟨y,u,rfl,e⟩
      · exact nomatch e
      · injection e with e1 _;rw[e1]
  byValue:=λk v h=>by
    rcases dI h with ⟨i,t,rfl,rfl⟩ | ⟨x,t,rfl,rfl⟩<;>rfl
  pyHash:=λhv h=>by
    rcases dI hv with ⟨i,t,rfl,rfl⟩ | ⟨x,t,rfl,rfl⟩
    · exact wpAny_pyHash_int h
    · exact wpAny_pyHash_str h
  eqBool:=λhu hv h=>by
    rcases dI hu with ⟨i,t,rfl,rfl⟩ | ⟨x,t,rfl,rfl⟩
    · rcases dI hv with ⟨j,u,rfl,rfl⟩ | ⟨y,u,rfl,rfl⟩
      · rw[Zth]at h;exact wpAny_eqBool_int h
      · rw[Ztg]at h;exact SeqAt.EqAt.int_str i t y u _ _ _ _ h
    · rcases dI hv with ⟨j,u,rfl,rfl⟩ | ⟨y,u,rfl,rfl⟩
      · rw[Ztf]at h;exact SeqAt.EqAt.str_int x t j u _ _ _ _ h
      · rw[Zte]at h;exact wpAny_eqBool_str h
  «strs»:=λk x t v h=>by
    rcases dI h with ⟨i,u,rfl,e⟩ | ⟨y,u,rfl,e⟩
    · exact nomatch e
    · injection e with e1 _
      subst e1;cases v<;>rfl
theorem Zcq(prog:AM)(w:AO)(i:Int)(t:Tok):(dH prog w).is (.inl i) (.int i t)=true:=Zk2 i t
theorem Zcp(prog:AM)(w:AO)(x:Str)(t:Tok):(dH prog w).is (.inr x) (.str x t)=true:=Zk1 x t
inductive V where
 | non | bl (b:Bool) | int (i:Int) | str (x:Str) | byt (b:Array UInt8) | flt (b:UInt64) | ref (a:AI) | ty (n:String)
 deriving DecidableEq
def RelV:V->AJ->Prop
 | .non,u=>u=Value.none
 | .bl b,u=>u=Value.bool b
 | .int i,u=>∃t,u=Value.int i t
 | .str x,u=>∃t,u=Value.str x t
 | .byt b,u=>∃t,u=Value.bytes b t
 | .flt b,u=>∃t,u=Value.float b t
 | .ref a,u=>u=Value.ref a
 | .ty n,u=>u=Value.type n
abbrev Vals:List V->AC->Prop:=Paired RelV
theorem Vals.length{xs:List V}{us:AC}(r:Vals xs us):xs.length=us.length:=Paired.length r
theorem Vals.get:∀{xs:List V}{us:AC}{i:Nat}{x:V},Vals xs us->xs[i]? =some x->∃u,us[i]? =some u/\RelV x u
 | _,_,_,_,.nil,e=>by simp at e
 | _,_,0,_,.cons r _,e=>by simp at e;subst e;exact⟨_,rfl,r⟩
 | _,_,i+1,x,.cons _ t,e=>by
  obtain⟨u,h1,h2⟩:=Vals.get (i:=i) (x:=x) t (by simpa using e);exact⟨u,by simpa using h1,h2⟩
theorem Vals.set{x:V}{u:AJ}(r:RelV x u):∀{xs:List V}{us:AC} (i:Nat),Vals xs us->Vals (xs.set i x) (us.set i u)
 | _,_,_,.nil=>.nil
 | _,_,0,.cons _ t=>.cons r t
 | _,_,i+1,.cons q t=>.cons q (Vals.set r i t)
theorem Vals.append:∀{xs ys:List V}{us ws:AC},Vals xs us->Vals ys ws->Vals (xs++ys) (us++ws)
 | _,_,_,_,.nil,s=>s
 | _,_,_,_,.cons r t,s=>.cons r (Vals.append t s)
theorem Vals.take:∀{xs:List V}{us:AC} (n:Nat),Vals xs us->Vals (xs.take n) (us.take n)
 | _,_,0,_=>.nil
 | _,_,_+1,.nil=>.nil
 | _,_,n+1,.cons r t=>.cons r (Vals.take n t)
theorem Vals.drop:∀{xs:List V}{us:AC} (n:Nat),Vals xs us->Vals (xs.drop n) (us.drop n)
 | _,_,0,r=>r
 | _,_,_+1,.nil=>.nil
 | _,_,n+1,.cons _ t=>Vals.drop n t
def Fy:Option V->AB->Prop
 | some v,some u=>RelV v u
 | none,none=>True
 | _,_=>False
def KV{κ:Type}:List (κ×V)->List (κ×AJ)->Prop:=Paired λ(p:κ×V) (q:κ×AJ)=>p.1=q.1/\RelV p.2 q.2
def kV:Key->V
 | .inl i=>.int i
 | .inr x=>.str x
inductive HO where
  | lst (xs:List V)
  | tup (xs:List V)
  | dK (kvs:List (Key×V)) | dT (kvs:List (List Key×V))
  | set (S:Int->Bool) (n:Nat)
  | ins (C dx:AI) (fs:List (Str×V))
  | own (x:AI)
  | xd (fs:List (Str×V))
  | met (f x:AI)
  | rng (lo hi:Int)
  | yL (o:Obj) (u:HO)
  | Qi (ps:Array AJ)
  | ext (φ:Heap->Prop)
abbrev Hp:=AI->Option HO
def upd(H:Hp)(a:AI)(o:HO):Hp:=λb=>if b=a then some o else H b
theorem ao{H:Hp}{a:AI}{o:HO}:upd H a o a=some o:=by unfold upd;rw[if_pos rfl]
theorem aB{H:Hp}{a b:AI}{o:HO}(h:b≠a):upd H a o b=H b:=by unfold upd;rw[if_neg h]
theorem dg{H:Hp}{a:AI}{o u:HO}:upd (upd H a o) a u=upd H a u:=by
 funext b;unfold upd;split<;>rfl
theorem nY{H:Hp}{a b:AI}{o u:HO}(h:H a=some o)(h':H b=some u)(d:o≠u):a≠b:=by
 intro e;subst e;rw[h]at h';exact d (Option.some.inj h')
theorem aD{H:Hp}{a b:AI}{o:HO}(h:H a=some o)(h':H b=none):a≠b:=by
 intro e;subst e;rw[h]at h';cases h'
section
variable (P:AM)(w:AO)
def gj(H:Hp)(h:Heap)(a:AI):HO->Prop
 | .lst xs=>xs.length<=sizeLine/\∃(its:AC) (n:Nat),Vals xs its/\h.get? a=some { cls:=.type "list",data:=.seq its.toArray n }
 | .tup xs=>xs.length<=sizeLine/\∃its:AC,Vals xs its/\IsTup h a its.toArray
 | .dK kvs=>kvs.length<=sizeLine/\(a == sysModules)=false/\∃vs,KV kvs vs/\h.DictOf (dH P w) a vs
 | .dT kvs=>kvs.length<=sizeLine/\(a == sysModules)=false/\∃xs:List (List Key×AI×AJ),
   Paired (λ(p:List Key×V) (q:List Key×AI×AJ)=>p.1=q.1/\H q.2.1=some (.tup (p.1.map kV))/\RelV p.2 q.2.2) kvs xs/\
   ∃o es ep,h.get? a=some o/\o.ExactDict/\o.data=.dict es ep/\es.toList=xs.map (entryOfKey (tupleKind (dH P w)))/\(xs.map (·.1)).Nodup
 | .set S n=>h.SetOf (intKind P w) a S n
 | .ins C dx fs=>H dx=some (.own a)/\fs.length<=1000/\dx≠a/\h.get? a=some (W.instObj C dx)/\
   ∃mA,h.Ns1 dx mA/\(∀f,Fy (fs.lookup f) (mA f))/\PySem.Within mA (fs.map (·.1))
 | .own _=>∃o,h.get? a=some o
 | .xd fs=>∃mA,h.Ns1 a mA/\∀f,Fy (fs.lookup f) (mA f)
 | .rng lo hi=>∃t u v,h.get? a=some { cls:=.type "range",data:=.fields #[.int lo t,.int hi u,.int 1 v] }
 | .yL o u=>h.get? a=some o/\gj H h a u
 | .Qi ps=>h.get? a=some { cls:=.none,data:=.fields ps }
 | .met f x=>h.get? a=some (W.methodObj (.ref f) (.ref x))
 | .ext φ=>φ h/\(∃o,h.get? a=some o)/\∀h1 h2:Heap,φ h1->(∀o,h1.get? a=some o->h2.get? a=some o)->φ h2
def Eo(H:Hp)(h:Heap):Prop:=∀a o,H a=some o->gj P w H h a o
end
section
variable {P:AM}{w:AO}{H H':Hp}{h h':Heap}{a:AI}{o:HO}
theorem gj.lt(x:gj P w H h a o):a<h.objs.size:=by
 cases o with
 | lst xs=>obtain⟨_,_,_,_,e⟩:=x;exact Heap.lt_size e
 | tup xs=>obtain⟨_,_,_,p⟩:=x;exact p.lt
 | dK kvs=>obtain⟨_,_,_,_,o,_,_,e,_⟩:=x;exact Heap.lt_size e
 | dT kvs=>obtain⟨_,_,_,_,o,_,_,e,_⟩:=x;exact Heap.lt_size e
 | set S n=>obtain⟨o,_,_,_,e,_⟩:=x;exact Heap.lt_size e
 | ins C dx fs=>obtain⟨_,_,_,e,_⟩:=x;exact Heap.lt_size e
 | own y=>obtain⟨_,e⟩:=x;exact Heap.lt_size e
 | xd fs=>obtain⟨_,⟨_,_,_,e,_⟩,_⟩:=x;exact Heap.lt_size e
 | rng lo hi=>obtain⟨_,_,_,e⟩:=x;exact Heap.lt_size e
 | yL ob u=>obtain⟨e,_⟩:=x;exact Heap.lt_size e
 | Qi ps=>exact Heap.lt_size (show h.get? a=some _ from x)
 | met f y=>exact Heap.lt_size (show h.get? a=some _ from x)
 | ext φ=>obtain⟨_,⟨_,e⟩,_⟩:=x;exact Heap.lt_size e
theorem Paired.Zt8{α β:Type}{F G:α->β->Prop}:∀{l₁:List α}{l₂:List β},Paired F l₁ l₂->(∀a b,F a b->G a b)->Paired G l₁ l₂
 | _,_,.nil,_=>.nil
 | _,_,.cons r t,f=>.cons (f _ _ r) (Paired.Zt8 t f)
theorem gj.stay(x:gj P w H h a o)(k:∀b u,(b=a\/H b=some (.own a))->h.get? b=some u->h'.get? b=some u)
  (ho:∀b,H b=some (.own a)->H' b=some (.own a)) (ht:∀b xs,H b=some (.tup xs)->H' b=some (.tup xs)):gj P w H' h' a o:=by
 induction o with
 | lst xs=>obtain⟨z,its,n,r,e⟩:=x;exact⟨z,its,n,r,k _ _ (.inl rfl) e⟩
 | tup xs=>obtain⟨z,its,r,ob,e,c⟩:=x;exact⟨z,its,r,ob,k _ _ (.inl rfl) e,c⟩
 | dK kvs=>obtain⟨z,y,vs,r,ob,es,ep,e,c⟩:=x;exact⟨z,y,vs,r,ob,es,ep,k _ _ (.inl rfl) e,c⟩
 | dT kvs=>
  obtain⟨z,y,xs,r,ob,es,ep,e,c⟩:=x;exact⟨z,y,xs,Paired.Zt8 r λp q z=>⟨z.1,ht _ _ z.2.1,z.2.2⟩,ob,es,ep,k _ _ (.inl rfl) e,c⟩
 | set S n=>obtain⟨ob,es,ep,t,e,c⟩:=x;exact⟨ob,es,ep,t,k _ _ (.inl rfl) e,c⟩
 | ins C dx fs=>
  obtain⟨d,z,ne,e,mA,⟨od,es,ep,e2,c⟩,r⟩:=x;exact⟨ho _ d,z,ne,k _ _ (.inl rfl) e,mA,⟨od,es,ep,k _ _ (.inr d) e2,c⟩,r⟩
 | own y=>obtain⟨ob,e⟩:=x;exact⟨ob,k _ _ (.inl rfl) e⟩
 | xd fs=>obtain⟨mA,⟨od,es,ep,e,c⟩,r⟩:=x;exact⟨mA,⟨od,es,ep,k _ _ (.inl rfl) e,c⟩,r⟩
 | rng lo hi=>obtain⟨t,u,v,e⟩:=x;exact⟨t,u,v,k _ _ (.inl rfl) e⟩
 | yL ob u ih=>obtain⟨e,q⟩:=x;exact⟨k _ _ (.inl rfl) e,ih q⟩
 | Qi ps=>
  have e:h.get? a=some { cls:=.none,data:=.fields ps }:=x;show h'.get? a=some { cls:=.none,data:=.fields ps };exact k a _ (.inl rfl) e
 | met f y=>
  have e:h.get? a=some (W.methodObj (.ref f) (.ref y)):=x;show h'.get? a=some (W.methodObj (.ref f) (.ref y));exact k a _ (.inl rfl) e
 | ext φ=>obtain⟨p,⟨o,e⟩,st⟩:=x;exact⟨st _ _ p λo q=>k _ _ (.inl rfl) q,⟨o,k _ _ (.inl rfl) e⟩,st⟩
theorem Eo.lt(x:Eo P w H h)(e:H a=some o):a<h.objs.size:=(x a o e).lt
theorem Eo.fresh(x:Eo P w H h)(e:h.objs.size<=a):H a=none:=by
 cases q:H a with
 | none=>rfl
 | some u=>exact absurd (Nat.lt_of_lt_of_le (x.lt q) e) (Nat.lt_irrefl _)
theorem Eo.kept(x:Eo P w H h)(k:∀b u,h.get? b=some u->h'.get? b=some u):Eo P w H h':=λa o e=>
 (x a o e).stay (λb u _ q=>k b u q) (λ_ q=>q) λ_ _ q=>q
theorem Eo.laid(x:Eo P w H h)(k:∀b u,h.get? b=some u->h'.get? b=some u)(hp:h.objs.size<=a)(new:gj P w (upd H a o) h' a o):Eo P w (upd H a o) h':=λb u e=>by
 have hn:=x.fresh hp
 by_cases hb:b=a
 ·subst hb;rw[ao]at e;cases e;exact new
 ·rw[aB hb]at e;exact(x b u e).stay (λc v _ q=>k c v q) (λc q=>by rw[aB (aD q hn)];exact q) λc xs q=>by rw[aB (aD q hn)];exact q
end
def Rd(H:Hp)(a:AI)(u:HO):Prop:=H a=some u\/∃o,H a=some (.yL o u)
theorem Rd.ok{P:AM}{w:AO}{H:Hp}{h:Heap}{a:AI}{u:HO}(r:Rd H a u)(x:Eo P w H h):gj P w H h a u:=by
 rcases r with r | ⟨o,r⟩
 ·exact x a u r
 ·obtain⟨_,q⟩:=x a _ r;exact q
def Mut:Option HO->Prop
 | some (.lst _)=>True
 | some (.dK _)=>True
 | some (.dT _)=>True
 | some (.set _ _)=>True
 | some (.ins _ _ _)=>True
 | some (.ext _)=>True
 | _=>False
section
variable {P:AM}{w:AO}{H:Hp}{h h':Heap}{x e:AI}{o':HO}
theorem Eo.write(ok:Eo P w H h)(mu:Mut (H x))(he:e=x\/H e=some (.own x))(k:∀b u,b≠e->h.get? b=some u->h'.get? b=some u)(heo:∃u,h'.get? e=some u)
  (new:gj P w (upd H x o') h' x o'):Eo P w (upd H x o') h':=λb u q=>by
 have Zvc:∀c y,H c=some (.own y)->c≠x:=λc y r z=>by subst z;rw[r]at mu;exact mu
 have Zxi:∀c xs,H c=some (.tup xs)->c≠x:=λc xs r z=>by subst z;rw[r]at mu;exact mu
 by_cases hb:b=x
 ·subst hb;rw[ao]at q;cases q;exact new
 ·rw[aB hb]at q
  by_cases hbe:b=e
  ·have q':H b=some (.own x):=by
    rcases he with z | z
    ·exact absurd (hbe.trans z) hb
    ·rw[hbe];exact z
   rw[q]at q';cases q';obtain⟨v,hv⟩:=heo;exact⟨v,by rw[hbe];exact hv⟩
  ·refine(ok b u q).stay (λc v hc r=>k c v ?_ r) (λc r=>by rw[aB (Zvc c b r)];exact r) λc xs r=>by rw[aB (Zxi c xs r)];exact r
   rcases hc with rfl | hc
   ·exact hbe
   ·rintro rfl;rcases he with z | z
    ·exact Zvc c b hc z
    ·rw[hc]at z;cases z;exact hb rfl
end
structure Un(fs ex:AF)(H H':Hp)(h h':Heap):Prop where
 keep:∀b o,h.get? b=some o->H b=none->b∉fs->b∉ex->h'.get? b=some o
 slot:∀b o,h.get? b=some o->H b=none->b∈fs->b∉ex->∃sl,h'.get? b=some { o with slots:=sl }
 free:∀b o,h.get? b=some o->H b=none->b∉ex->H' b=none
 there:∀b o,h.get? b=some o->b∉ex->∃o',h'.get? b=some o'
 tups:∀b xs,H b=some (.tup xs)->H' b=some (.tup xs)
 Hr:∀b o u,H b=some (.yL o u)->H' b=some (.yL o u)
 HW:∀b ps,H b=some (.Qi ps)->∃more,H' b=some (.Qi (ps++more))
section
variable {fs fs' ex ex':AF}{H H1 H2:Hp}{h h1 h2 h':Heap}{a x e:AI}{o:HO}
theorem Un.any(u:Un fs ex H H1 h h1){b:AI}{ob:Obj}(q:h.get? b=some ob)(n:H b=none)(hx:b∉ex):∃sl,h1.get? b=some { ob with slots:=sl }:=by
 by_cases hb:b∈fs
 ·exact u.slot b ob q n hb hx
 ·exact⟨ob.slots,u.keep b ob q n hb hx⟩
theorem Un.kept(k:∀b u,h.get? b=some u->h'.get? b=some u):Un fs ex H H h h':=
 ⟨λb ob q _ _ _=>k b ob q,λb ob q _ _ _=>⟨ob.slots,k b ob q⟩,λ_ _ _ n _=>n,λb ob q _=>⟨ob,k b ob q⟩,λ_ _ q=>q,λ_ _ _ q=>q,λ_ ps q=>⟨#[],by rw[q];simp⟩⟩
theorem Un.refl:Un fs ex H H h h:=Un.kept λ_ _ q=>q
theorem Un.laid(k:∀b u,h.get? b=some u->h'.get? b=some u)(hp:h.objs.size<=a)(hn:H a=none):Un fs ex H (upd H a o) h h' where
 keep:=λb u q _ _ _=>k b u q
 slot:=λb u q _ _ _=>⟨u.slots,k b u q⟩
 free:=λb u q n _=>by rw[aB (Nat.ne_of_lt (Nat.lt_of_lt_of_le (Heap.lt_size q) hp))];exact n
 there:=λb u q _=>⟨u,k b u q⟩
 tups:=λb xs q=>by rw[aB (aD q hn)];exact q
 Hr:=λb u xs q=>by rw[aB (aD q hn)];exact q
 HW:=λb ps q=>⟨#[],by rw[aB (aD q hn),q];simp⟩
theorem Un.write(mu:Mut (H x))(he:e=x\/H e=some (.own x))(k:∀b u,b≠e->h.get? b=some u->h'.get? b=some u)(heo:∃u,h'.get? e=some u):Un fs ex H (upd H x o) h h':=by
 have hx:∀b,H b=none->b≠x:=λb n z=>by subst z;rw[n]at mu;exact mu
 have hb:∀b,H b=none->b≠e:=λb n z=>by
  subst z;rcases he with r | r
  ·exact hx b n r
  ·rw[n]at r;cases r
 have hm:∀b u,H b=some u->¬ Mut (some u)->b≠x:=λb u q nm z=>by subst z;rw[q]at mu;exact nm mu
 refine⟨λb u q n _ _=>k b u (hb b n) q,λb u q n _ _=>⟨u.slots,k b u (hb b n) q⟩,λb u q n _=>by rw[aB (hx b n)];exact n,λb u q _=>?_,
  λb xs q=>by rw[aB (hm b _ q λz=>z)];exact q,λb u xs q=>by rw[aB (hm b _ q λz=>z)];exact q,λb ps q=>⟨#[],by rw[aB (hm b _ q λz=>z),q];simp⟩⟩
 by_cases hbe:b=e
 ·subst hbe;exact heo
 ·exact⟨u,k b u hbe q⟩
end
def trk(h:Heap)(H:Hp):AF:=(List.range h.objs.size).filter λa=>(H a).isSome
def Za3(h:Heap)(H:Hp):Heap:=W.hideAll h (trk h H)
theorem Zkl(h:Heap)(H:Hp):(Za3 h H).objs.size=h.objs.size:=W.hideAll_size _ _
theorem Znu{h:Heap}{H:Hp}{b:AI}{o:Obj}(e:h.get? b=some o)(n:H b=none):(Za3 h H).get? b=some o:=
 W.hideAll_get _ e λhm=>by
  have q:(H b).isSome=true:=(List.mem_filter.mp hm).2;rw[n]at q;simp at q
theorem Zq2{h:Heap}{H:Hp}{b:AI}{o:Obj}(e:(Za3 h H).get? b=some o):h.get? b=some o/\H b=none:=by
 have e':h.get? b=some o:=W.of_hideAll (trk h H) e;refine⟨e',?_⟩;cases q:H b with
 | none=>rfl
 | some x=>
  have hm:b∈trk h H:=List.mem_filter.mpr ⟨List.mem_range.mpr (Heap.lt_size e'),by simp[q]⟩;have z:(Za3 h H).get? b=none:=W.hideAll_none (trk h H) hm;rw[z]at e;cases e
def Zr7(g h:Heap)(L:AI):At:=(List.range h.objs.size).filterMap λa=>if a=L\/(g.get? a).isSome=true then none else(h.get? a).map λo=>(a,o)
def rest(g h:Heap)(L d:AI):At:=(Zr7 g h L).filter λp=>decide (p.1≠d)
structure Mod(K:aG)(mg:As)(base:Heap):Prop where
 kin:K.In base
 glob:base.Ns mainGlobals mg
 blt:∃mb,base.Ns builtinsNs mb/\∀x:Str,x≠"__name__"->mb x=bootBuiltins x
 nolimit:base.NoLimit
structure Cx where
 prog:AM
 w:AO
 K:aG
 mg:Str->AB
 base:Heap
 A:Around
 N:AH
 s₀:AK
 H₀:Hp
 env:Env
 outer:List Env
 stack:List Env
 ex:AF
 fn:Str->Bool
 calm:Bool
 pn:At
 xe:AJ->AK->Prop
def frs(l:List Env):AF:=l.filterMap (·.frame)
abbrev Cx.fs(X:Cx):AF:=frs X.outer
def Vis(sc:Scope)(x:Str):Prop:=sc.names.lookup x=some .local\/sc.names.lookup x=some .cell\/sc.names.lookup x=some .free
def Loc(sc:Scope)(x:Str):Prop:=sc.names.lookup x=some .local\/sc.names.lookup x=some .cell
def Look(env:Env)(h:Heap)(m:As)(x:Str)(u:AJ):Prop:=
 (env.kindOf x=some .local/\m x=some u)\/((env.kindOf x=some .cell\/env.kindOf x=some .free)/\∃c,env.cells.lookup x=some c/\h.IsCell c (some u))
structure Cx.Ok(X:Cx):Prop where
 mod:Mod X.K X.mg X.base
 kind:X.env.scope.kind=.function
 glob:X.env.globals=mainGlobals
 blt:X.env.builtins=builtinsNs
 above:X.s₀.heap.objs.size<=X.env.locals
 inj:∀x y c,X.env.cells.lookup x=some c->X.env.cells.lookup y=some c->x=y
 has:∀x,(X.env.kindOf x=some .cell\/X.env.kindOf x=some .free)->∃c,X.env.cells.lookup x=some c
 cab:∀x c,X.fn x=true->X.env.cells.lookup x=some c->X.s₀.heap.objs.size<=c
 hd:X.calm=true->X.A.handled=none
 frames:X.A.frames=some X.stack
 stk:X.stack=X.outer\/(X.stack=X.env::X.outer/\X.env.frame=some X.env.locals)
 exf:∀b∈X.ex,b≠X.env.locals/\∀x c,X.env.cells.lookup x=some c->c≠b
 bs:∀b o,X.base.get? b=some o->X.s₀.heap.get? b=some o/\X.H₀ b=none
 bsz:X.base.objs.size<=X.s₀.heap.objs.size
 Zcj:∀b o,X.base.get? b=some o->b∉X.ex
 Zgt:∀b∈X.ex,b∉X.fs
 yu:X.s₀.heap.FunFrames X.base X.outer
 frf:∀b∈X.fs,X.H₀ b=none
structure Inv(X:Cx)(pins:At)(σ:List (Option V))(H:Hp)(s:AK):Prop where
 ok:X.Ok
 os:s.os=X.s₀.os
 bare:AllBare s.gens
 base:Un X.fs X.ex X.H₀ H X.s₀.heap s.heap
 loc:∃m,s.heap.Ns X.env.locals m/\∀(i:Nat) (x:Str) (v:V),X.N[i]? =some x->σ[i]? =some (some v)->Vis X.env.scope x->∃u,RelV v u/\Look X.env s.heap m x u
 cell:∀x c,X.env.cells.lookup x=some c->∃v,s.heap.IsCell c v
 free:H X.env.locals=none
 qX:∀x c,X.env.cells.lookup x=some c->H c=none
 pin:∀p∈X.pn++pins,s.heap.get? p.1=some p.2/\H p.1=none/\p.1≠X.env.locals/\p.1∉X.fs/\∀v,p.2.data≠.cell v
 hok:Eo X.prog X.w H s.heap
 len:σ.length=X.N.length
section
variable {X:Cx}{pins:At}{σ:List (Option V)}{H H':Hp}{s:AK}{h':Heap}
theorem Cx.Ok.Zxk(ok:X.Ok){b:AI}{o:Obj}(e:X.base.get? b=some o):b∉X.fs:=λhb=>by
 have:=(ok.yu.mem hb).1;rw[e]at this;cases this
theorem Inv.bs(I:Inv X pins σ H s):∀b o,X.base.get? b=some o->s.heap.get? b=some o/\H b=none:=λb o e=>
 ⟨I.base.keep b o (I.ok.bs b o e).1 (I.ok.bs b o e).2 (I.ok.Zxk e) (I.ok.Zcj b o e),I.base.free b o (I.ok.bs b o e).1 (I.ok.bs b o e).2 (I.ok.Zcj b o e)⟩
theorem Inv.bk(I:Inv X pins σ H s):∀b o,X.base.get? b=some o->s.heap.get? b=some o:=λb o e=>(I.bs b o e).1
theorem Inv.mod(I:Inv X pins σ H s):Mod X.K X.mg X.base:=I.ok.mod
theorem Inv.um(I:Inv X pins σ H s):X.K.In s.heap:=I.ok.mod.kin.keeps I.bk
theorem Inv.lt(I:Inv X pins σ H s):X.env.locals<s.heap.objs.size:=let ⟨_,hn,_⟩:=I.loc;hn.lt
theorem Inv.sz(I:Inv X pins σ H s):X.s₀.heap.objs.size<=s.heap.objs.size:=Nat.le_trans I.ok.above (Nat.le_of_lt I.lt)
theorem Inv.Zxj(I:Inv X pins σ H s){a:AI}(h:s.heap.objs.size<=a):a∉X.fs:=λhb=>by
 obtain⟨_,o,ho,_⟩:=I.ok.yu.mem hb;exact absurd (Nat.lt_of_lt_of_le (Heap.lt_size ho) (Nat.le_trans I.sz h)) (Nat.lt_irrefl _)
theorem Inv.cne(I:Inv X pins σ H s):∀x c,X.env.cells.lookup x=some c->c≠X.env.locals:=λx c e z=>by
 obtain⟨v,o,ho,hd⟩:=I.cell x c e;obtain⟨m,⟨o',es,ep,ho',hd',_⟩,_⟩:=I.loc;rw[z,ho']at ho;cases ho;rw[hd']at hd;cases hd
theorem Inv.yu(I:Inv X pins σ H s):s.heap.FunFrames X.base X.outer:=by
 have all:∀(l:List Env),(∀b∈frs l,b∈X.fs)->X.s₀.heap.FunFrames X.base l->s.heap.FunFrames X.base l:=by
  intro l
  induction l with
  | nil=>intro _ _;trivial
  | cons env r ih=>
   intro hs hl;obtain⟨hk,⟨L,o,hf,hn,ho,hd⟩,hr⟩:=hl;have hL:L∈X.fs:=hs L (by unfold frs;rw[List.filterMap_cons,hf];exact List.mem_cons_self);obtain⟨sl,e⟩:=I.base.slot L o ho (I.ok.frf L hL) hL λz=>I.ok.Zgt L z hL;exact⟨hk,⟨L,_,hf,hn,e,hd⟩,ih (λb hb=>hs b (by unfold frs;rw[List.filterMap_cons,hf];exact List.mem_cons_of_mem _ hb)) hr⟩
 exact all X.outer (λ_ hb=>hb) I.ok.yu
theorem Inv.stack(I:Inv X pins σ H s):s.heap.FunFrames X.base X.stack:=by
 rcases I.ok.stk with e | ⟨e,hf⟩
 ·rw[e];exact I.yu
 ·rw[e];obtain⟨m,hn,_⟩:=I.loc;refine .cons (by rw[I.ok.kind];decide) hf hn ?_ I.yu;exact Heap.get?_none_of_le (Nat.le_trans I.ok.bsz I.ok.above)
theorem Inv.KC(I:Inv X pins σ H s):∀b∈frs X.stack,b∈X.env.locals::X.fs:=λb hb=>by
 rcases I.ok.stk with e | ⟨e,hf⟩
 ·rw[e]at hb;exact List.mem_cons_of_mem _ hb
 ·rw[e]at hb;unfold frs at hb;rw[List.filterMap_cons,hf]at hb;exact hb
theorem Inv.X4(I:Inv X pins σ H s):∀b∈frs X.stack,H b=none:=λb hb=>by
 rcases List.mem_cons.mp (I.KC b hb)with e | hb
 ·rw[e];exact I.free
 ·obtain⟨_,o,ho,_⟩:=I.ok.yu.mem hb;exact I.base.free b o ho (I.ok.frf b hb) λz=>I.ok.Zgt b z hb
theorem Inv.step{g':Array GenState}{t':Nat}{d':Drawn}{ch:AF}(I:Inv X pins σ H s)
  (hch:∀b∈ch,(b∈X.ex\/X.s₀.heap.objs.size<=b)/\b≠X.env.locals/\(∀x c,X.env.cells.lookup x=some c->c≠b)/\∀p∈X.pn++pins,p.1≠b)
  (keep:∀b o,b≠X.env.locals->b∉X.fs->b∉ch->s.heap.get? b=some o->H b=none->h'.get? b=some o)
  (slot:∀b o,b≠X.env.locals->b∈X.fs->b∉ch->s.heap.get? b=some o->H b=none->∃sl,h'.get? b=some { o with slots:=sl }) (free:∀b o,b∉ch->s.heap.get? b=some o->H b=none->H' b=none)
  (there:∀b o,b∉ch->s.heap.get? b=some o->∃o',h'.get? b=some o')
  (tups:∀b xs,H b=some (.tup xs)->H' b=some (.tup xs)) (Hr:∀b o u,H b=some (.yL o u)->H' b=some (.yL o u)) (HW:∀b ps,H b=some (.Qi ps)->∃more,H' b=some (.Qi (ps++more)))
  (ns:∀m,s.heap.Ns X.env.locals m->h'.Ns X.env.locals m) (hok:Eo X.prog X.w H' h') (hg:AllBare g'):
  Inv X pins σ H' { s with heap:=h',gens:=g',drawn:=d',toks:=t' }:=by
 have neL:∀b o,X.s₀.heap.get? b=some o->b≠X.env.locals:=λb o e=>Nat.ne_of_lt (Nat.lt_of_lt_of_le (Heap.lt_size e) I.ok.above);have neC:∀b o,X.s₀.heap.get? b=some o->b∉X.ex->b∉ch:=λb o e hx hb=>by
  rcases(hch b hb).1 with z | z
  ·exact hx z
  ·exact absurd (Nat.lt_of_lt_of_le (Heap.lt_size e) z) (Nat.lt_irrefl _)
 have cellK:∀x c,X.env.cells.lookup x=some c->∀v,s.heap.IsCell c v->h'.IsCell c v:=λx c e v ⟨o,ho,hd⟩=>by
  have nch:c∉ch:=λz=>(hch c z).2.2.1 x c e rfl
  by_cases hc:c∈X.fs
  ·obtain⟨sl,q⟩:=slot c o (I.cne x c e) hc nch ho (I.qX x c e);exact⟨_,q,hd⟩
  ·exact⟨o,keep c o (I.cne x c e) hc nch ho (I.qX x c e),hd⟩
 refine⟨I.ok,I.os,hg,⟨λb o e n hb hx=>?_,λb o e n hb hx=>?_,λb o e n hx=>?_,λb o e hx=>?_,λb xs e=>tups b xs (I.base.tups b xs e),λb o xs e=>Hr b o xs (I.base.Hr b o xs e),λb ps e=>?_⟩,?_,λx c e=>?_,?_,λx c e=>?_,λp hp=>?_,hok,I.len⟩
 ·exact keep b o (neL b o e) hb (neC b o e hx) (I.base.keep b o e n hb hx) (I.base.free b o e n hx)
 ·obtain⟨sl,e1⟩:=I.base.slot b o e n hb hx;obtain⟨sl',e2⟩:=slot b _ (neL b o e) hb (neC b o e hx) e1 (I.base.free b o e n hx);exact⟨sl',e2⟩
 ·obtain⟨o',e1⟩:=I.base.there b o e hx;exact free b o' (neC b o e hx) e1 (I.base.free b o e n hx)
 ·obtain⟨o',e1⟩:=I.base.there b o e hx;exact there b o' (neC b o e hx) e1
 ·obtain⟨m1,e1⟩:=I.base.HW b ps e;obtain⟨m2,e2⟩:=HW b _ e1;exact⟨m1++m2,by rw[e2,Array.append_assoc]⟩
 ·obtain⟨m,hn,hl⟩:=I.loc;refine⟨m,ns m hn,λi x v e1 e2 e3=>?_⟩;obtain⟨u,r,l⟩:=hl i x v e1 e2 e3;refine⟨u,r,?_⟩;rcases l with l | ⟨k,c,e,z⟩
  ·exact .inl l
  ·exact .inr ⟨k,c,e,cellK x c e _ z⟩
 ·obtain⟨v,z⟩:=I.cell x c e;exact⟨v,cellK x c e v z⟩
 ·obtain⟨m,⟨o,_,_,ho,_⟩,_⟩:=I.loc;exact free _ o (λz=>(hch _ z).2.1 rfl) ho I.free
 ·obtain⟨v,o,ho,hd⟩:=I.cell x c e;exact free c o (λz=>(hch c z).2.2.1 x c e rfl) ho (I.qX x c e)
 ·obtain⟨e,n,ne,nf,d⟩:=I.pin p hp;have nch:p.1∉ch:=λz=>(hch p.1 z).2.2.2 p hp rfl;exact⟨keep p.1 p.2 ne nf nch e n,free p.1 p.2 nch e n,ne,nf,d⟩
theorem Inv.un{t':Nat}(I:Inv X pins σ H s)(u:Un X.fs [] H H' s.heap h')(hok:Eo X.prog X.w H' h'):Inv X pins σ H' { s with heap:=h',toks:=t' }:=by
 obtain⟨m,⟨o,es,ep,ho,r⟩,_⟩:=id I.loc;obtain⟨sl,hL⟩:=u.any ho I.free ζ;exact I.step (g':=s.gens) (d':=s.drawn) (ch:=[]) (λ_ z=>nomatch z) (λb o _ hb _ e n=>u.keep b o e n hb ζ) (λb o _ hb _ e n=>u.slot b o e n hb ζ) (λb o _ e n=>u.free b o e n ζ) (λb o _ e=>u.there b o e ζ) u.tups u.Hr u.HW (λm' hm=>by
  obtain⟨o',es',ep',ho',r'⟩:=hm;rw[ho]at ho';cases ho';exact⟨_,es',ep',hL,r'⟩) hok I.bare
theorem Inv.call{g':Array GenState}{t':Nat}{d':Drawn}{ch:AF}(I:Inv X pins σ H s)(u:Un (frs X.stack) ch H H' s.heap h')(hok:Eo X.prog X.w H' h')(hg:AllBare g')
  (hch:∀b∈ch,(b∈X.ex\/X.s₀.heap.objs.size<=b)/\b≠X.env.locals/\(∀x c,X.env.cells.lookup x=some c->c≠b)/\∀p∈X.pn++pins,p.1≠b):
  Inv X pins σ H' { s with heap:=h',gens:=g',drawn:=d',toks:=t' }:=by
 obtain⟨m,⟨o,es,ep,ho,r⟩,_⟩:=id I.loc;obtain⟨sl,hL⟩:=u.any ho I.free λz=>(hch _ z).2.1 rfl;exact I.step (ch:=ch) hch (λb o hL hb hc e n=>u.keep b o e n (λz=>(List.mem_cons.mp (I.KC b z)).elim hL hb) hc) (λb o _ _ hc e n=>u.any e n hc) (λb o hc e n=>u.free b o e n hc) (λb o hc e=>u.there b o e hc) u.tups u.Hr u.HW (λm' hm=>by
  obtain⟨o',es',ep',ho',r'⟩:=hm;rw[ho]at ho';cases ho';exact⟨_,es',ep',hL,r'⟩) hok hg
theorem Inv.turned{t':Nat}{it:AI}(I:Inv X pins σ H s)(k:∀b o,b≠it->s.heap.get? b=some o->h'.get? b=some o)(hn:H it=none)(hL:it≠X.env.locals)
  (h1:it∈X.ex\/X.s₀.heap.objs.size<=it) (h2:∀x c,X.env.cells.lookup x=some c->c≠it) (h3:∀p∈X.pn++pins,p.1≠it):Inv X pins σ H { s with heap:=h',toks:=t' }:=by
 have nit:∀b u,H b=some u->b≠it:=λb u e z=>by rw[z,hn]at e;cases e
 refine I.step (g':=s.gens) (d':=s.drawn) (ch:=[it]) (λb hb=>?_) (λb o _ _ hc e _=>k b o (λz=>hc (by simp[z])) e) (λb o _ _ hc e _=>⟨o.slots,k b o (λz=>hc (by simp[z])) e⟩) (λ_ _ _ _ n=>n)
  (λb o hc e=>⟨o,k b o (λz=>hc (by simp[z])) e⟩) (λ_ _ e=>e) (λ_ _ _ e=>e) (λb ps e=>⟨#[],by rw[e];simp⟩) (λm hm=>?_) (λb u e=>?_) I.bare
 ·have e:b=it:=by simpa using hb
  subst e;exact⟨h1,hL,h2,h3⟩
 ·obtain⟨o,es,ep,ho,r⟩:=hm;exact⟨o,es,ep,k _ o (Ne.symm hL) ho,r⟩
 ·refine(I.hok b u e).stay (λc v hc q=>k c v ?_ q) (λ_ q=>q) λ_ _ q=>q;rcases hc with z | z
  ·rw[z];exact nit b u e
  ·exact nit c _ z
theorem Inv.tok(I:Inv X pins σ H s)(t:Nat):Inv X pins σ H { s with toks:=t }:=I.un (h':=s.heap) (t':=t) Un.refl I.hok
theorem Inv.kept{t':Nat}(I:Inv X pins σ H s)(k:∀b u,s.heap.get? b=some u->h'.get? b=some u):Inv X pins σ H { s with heap:=h',toks:=t' }:=I.un (Un.kept k) (I.hok.kept k)
theorem Inv.laid{a:AI}{o:HO}{t':Nat}(I:Inv X pins σ H s)(k:∀b u,s.heap.get? b=some u->h'.get? b=some u)(hp:s.heap.objs.size<=a)(new:gj X.prog X.w (upd H a o) h' a o):
  Inv X pins σ (upd H a o) { s with heap:=h',toks:=t' }:=I.un (Un.laid k hp (I.hok.fresh hp)) (I.hok.laid k hp new)
theorem Inv.write{x e:AI}{o:HO}{t':Nat}(I:Inv X pins σ H s)(mu:Mut (H x))(he:e=x\/H e=some (.own x))(k:∀b u,b≠e->s.heap.get? b=some u->h'.get? b=some u)(heo:∃u,h'.get? e=some u)
  (new:gj X.prog X.w (upd H x o) h' x o):Inv X pins σ (upd H x o) { s with heap:=h',toks:=t' }:=I.un (Un.write mu he k heo) (I.hok.write mu he k heo new)
theorem Inv.Jg{Zrm:At}(I:Inv X pins σ H s)(h:∀p∈Zrm,s.heap.get? p.1=some p.2/\H p.1=none/\p.1≠X.env.locals/\p.1∉X.fs/\∀v,p.2.data≠.cell v):Inv X Zrm σ H s:=
 ⟨I.ok,I.os,I.bare,I.base,I.loc,I.cell,I.free,I.qX,λp hp=>(List.mem_append.mp hp).elim (λz=>I.pin p (List.mem_append_left _ z)) (h p),I.hok,I.len⟩
theorem Rp{N:AH}(hN:N.Nodup){i j:Nat}{x:Str}(a:N[i]? =some x)(b:N[j]? =some x):i=j:=by
 obtain⟨h1,e1⟩:=cZ a;obtain⟨h2,e2⟩:=cZ b;exact(List.getElem_inj hN).mp (e1.trans e2.symm)
theorem Zj7{M:Model}{A:Around}{E:Ap}{i:Nat}{x:Str}{v:V}{u:AJ}{Q:Unit->AK->Prop}(I:Inv X pins σ H s)(hN:X.N.Nodup)(hi:X.N[i]? =some x)(hx:Loc X.env.scope x)(r:RelV v u)
  (h:∀s',Inv X pins (σ.set i (some v)) H s'->(∃a,Heap.SameBut a s.heap s'.heap/\(a=X.env.locals\/X.env.cells.lookup x=some a))->Q () s') (hf:X.fn x=true\/X.env.scope.names.lookup x=some .local:=by first | exact .inl rfl | exact .inr rfl | assumption):wpAny M A (storeName X.env x u) Q E s:=by
 obtain⟨m,hn,hl⟩:=id I.loc;have hcls:(X.env.scope.kind == .class || (X.env.scope.kind == .module && X.env.locals != X.env.globals))=false:=by rw[I.ok.kind];rfl
 have hiσ:i < σ.length:=by rw[I.len];exact(cZ hi).1
 have cne:=I.cne;have tracked:∀{a:AI}{h':Heap},(∃o,s.heap.get? a=some o/\H a=none)->Heap.SameBut a s.heap h'->Eo X.prog X.w H h':=λ{a h'} ha hs b ob e=>by
  obtain⟨_,_,hfree⟩:=ha;refine(I.hok b ob e).stay (λc w' hc q=>(hs.2 c ?_).trans q) (λ_ q=>q) λ_ _ q=>q;rintro rfl;rcases hc with rfl | hc
  ·rw[hfree]at e;cases e
  ·rw[hfree]at hc;cases hc
 rcases hx with hk | hk
 ·refine wpAny_storeName_local hk hn (λh' hn' hs=>?_) hcls;obtain⟨oL,_,_,hoL,_⟩:=id hn;refine h _ ⟨I.ok,I.os,I.bare,⟨λb o e n hb hx=>?_,λb o e n hb hx=>?_,I.base.free,λb o e hx=>?_,I.base.tups,I.base.Hr,I.base.HW⟩,⟨_,hn',λj y v' e1 e2 e3=>?_⟩,λy c e=>?_,I.free,I.qX,λp hp=>?_,tracked ⟨oL,hoL,I.free⟩ hs,by simpa using I.len⟩ ⟨_,hs,.inl rfl⟩
  ·exact(hs.2 b (Nat.ne_of_lt (Nat.lt_of_lt_of_le (Heap.lt_size e) I.ok.above))).trans (I.base.keep b o e n hb hx)
  ·obtain⟨sl,e1⟩:=I.base.slot b o e n hb hx;exact⟨sl,(hs.2 b (Nat.ne_of_lt (Nat.lt_of_lt_of_le (Heap.lt_size e) I.ok.above))).trans e1⟩
  ·obtain⟨o',e1⟩:=I.base.there b o e hx;exact⟨o',(hs.2 b (Nat.ne_of_lt (Nat.lt_of_lt_of_le (Heap.lt_size e) I.ok.above))).trans e1⟩
  ·by_cases hj:j=i
   ·subst hj;rw[hi]at e1;cases e1;rw[List.getElem?_set_self hiσ]at e2;cases e2;exact⟨u,r,.inl ⟨hk,ζ⟩⟩
   ·rw[List.getElem?_set_ne (Ne.symm hj)]at e2;obtain⟨u',r',q⟩:=hl j y v' e1 e2 e3;refine⟨u',r',?_⟩;rcases q with ⟨k,e⟩ | ⟨k,c,e,z⟩
    ·refine .inl ⟨k,?_⟩;have:y≠x:=λe=>hj (Rp hN e1 (e ▸ hi));simp[this,e]
    ·exact .inr ⟨k,c,e,z.sameBut hs (cne y c e)⟩
  ·obtain⟨w',z⟩:=I.cell y c e;exact⟨w',z.sameBut hs (cne y c e)⟩
  ·obtain⟨e,n,ne,nf,d⟩:=I.pin p hp;exact⟨(hs.2 p.1 ne).trans e,n,ne,nf,d⟩
 ·have hfn:X.fn x=true:=by
   rcases hf with z | z
   ·exact z
   ·rw[z]at hk;cases hk
  obtain⟨c,hc⟩:=I.ok.has x (.inl hk);obtain⟨w',z⟩:=I.cell x c hc;refine wpAny_storeName_cell I.ok.kind hk hc z (λh' hc' hs=>?_);obtain⟨oc,hoc,Zyh⟩:=id z;refine h { s with heap:=h' } ⟨I.ok,I.os,I.bare,⟨λb o e n hb hx=>?_,λb o e n hb hx=>?_,I.base.free,λb o e hx=>?_,I.base.tups,I.base.Hr,I.base.HW⟩,⟨m,hn.sameBut hs (Ne.symm (cne x c hc)),λj y v' e1 e2 e3=>?_⟩,λy c' e=>?_,I.free,I.qX,λp hp=>?_,tracked ⟨oc,hoc,I.qX x c hc⟩ hs,by simpa using I.len⟩ ⟨c,hs,.inr hc⟩
  ·exact(hs.2 b (Nat.ne_of_lt (Nat.lt_of_lt_of_le (Heap.lt_size e) (I.ok.cab x c hfn hc)))).trans (I.base.keep b o e n hb hx)
  ·obtain⟨sl,e1⟩:=I.base.slot b o e n hb hx;exact⟨sl,(hs.2 b (Nat.ne_of_lt (Nat.lt_of_lt_of_le (Heap.lt_size e) (I.ok.cab x c hfn hc)))).trans e1⟩
  ·obtain⟨o',e1⟩:=I.base.there b o e hx;exact⟨o',(hs.2 b (Nat.ne_of_lt (Nat.lt_of_lt_of_le (Heap.lt_size e) (I.ok.cab x c hfn hc)))).trans e1⟩
  ·by_cases hj:j=i
   ·subst hj;rw[hi]at e1;cases e1;rw[List.getElem?_set_self hiσ]at e2;cases e2;exact⟨u,r,.inr ⟨.inl hk,c,hc,hc'⟩⟩
   ·rw[List.getElem?_set_ne (Ne.symm hj)]at e2;obtain⟨u',r',q⟩:=hl j y v' e1 e2 e3;refine⟨u',r',?_⟩;rcases q with q | ⟨k,c',e,z'⟩
    ·exact .inl q
    ·refine .inr ⟨k,c',e,z'.sameBut hs ?_⟩;rintro rfl;exact hj (Rp hN e1 (I.ok.inj _ _ _ e hc ▸ hi))
  ·by_cases hcc:c'=c
   ·subst hcc;exact⟨_,hc'⟩
   ·obtain⟨w2,z2⟩:=I.cell y c' e;exact⟨w2,z2.sameBut hs hcc⟩
  ·obtain⟨e,n,ne,nf,d⟩:=I.pin p hp;refine⟨(hs.2 p.1 ?_).trans e,n,ne,nf,d⟩;intro q;rw[q,hoc]at e;have q':oc=p.2:=Option.some.inj e;exact d w' (by rw[<- q'];exact Zyh)
theorem Ql{M:Model}{A:Around}{E:Ap}{i:Nat}{x:Str}{v:V}{u:AJ}{Q:Unit->AK->Prop}(I:Inv X pins σ H s)(hN:X.N.Nodup)(hi:X.N[i]? =some x)(hx:Loc X.env.scope x)(r:RelV v u)
  (h:∀s',Inv X pins (σ.set i (some v)) H s'->Q () s') (hf:X.fn x=true\/X.env.scope.names.lookup x=some .local:=by first | exact .inl rfl | exact .inr rfl | assumption):wpAny M A (storeName X.env x u) Q E s:=
 Zj7 I hN hi hx r (λs' I' _=>h s' I') hf
theorem Inv.call'{s':AK}{ch:AF}(I:Inv X pins σ H s)(ho:s'.os=s.os)(u:Un (frs X.stack) ch H H' s.heap s'.heap)(hok:Eo X.prog X.w H' s'.heap)(hg:AllBare s'.gens)
  (hch:∀b∈ch,(b∈X.ex\/X.s₀.heap.objs.size<=b)/\b≠X.env.locals/\(∀x c,X.env.cells.lookup x=some c->c≠b)/\∀p∈X.pn++pins,p.1≠b):Inv X pins σ H' s':=by
 obtain⟨h',g',d',t',o'⟩:=s';have e:o'=s.os:=ho;subst e;exact I.call (g':=g') (t':=t') (d':=d') u hok hg hch
end
abbrev XK:=AJ->Option AI->Hp->Prop
abbrev St:=List (Option V)
abbrev VK:=V->Hp->Prop
abbrev TE:=St->Hp->VK->Prop
abbrev TT:=St->Hp->(Bool->Hp->Prop)->Prop
abbrev TA:=St->Hp->(List V->Hp->Prop)->Prop
structure Ends where
 nx:ν
 rt:VK
 bk:ν:=λ_ _=>False
 ct:ν:=λ_ _=>False
abbrev TS:=Ends->ν
def EP(X:Cx)(pins:At)(σ:St)(Q:VK)(u:AJ)(s':AK):Prop:=∃v H',Inv X pins σ H' s'/\RelV v u/\Q v H'
def TP(X:Cx)(pins:At)(σ:St)(Q:Bool->Hp->Prop)(b:Bool)(s':AK):Prop:=∃H',Inv X pins σ H' s'/\Q b H'
def AP(X:Cx)(pins:At)(σ:St)(Q:List V->Hp->Prop)(us:AC)(s':AK):Prop:=∃vs H',Inv X pins σ H' s'/\Vals vs us/\Q vs H'
def SP(X:Cx)(pins:At)(D:Ends)(f:Flow)(s':AK):Prop:=
 match f with
 | .next=>∃ σ' H',Inv X pins σ' H' s'/\D.nx σ' H'
 | .brk=>∃ σ' H',Inv X pins σ' H' s'/\D.bk σ' H'
 | .cont=>∃ σ' H',Inv X pins σ' H' s'/\D.ct σ' H'
 | .ret u=>∃v σ' H',Inv X pins σ' H' s'/\RelV v u/\D.rt v H'
def PE(X:Cx)(e:AN)(t:TE):Prop:=
 ∀(pins:At) (s:AK) (σ:St) (H:Hp) (Q:VK),Inv X pins σ H s->t σ H Q->wpAny ς X.A (eval e X.env) (EP X pins σ Q) X.xe s
def PT(X:Cx)(e:AN)(t:TT):Prop:=
 ∀(pins:At) (s:AK) (σ:St) (H:Hp) (Q:Bool->Hp->Prop),Inv X pins σ H s->t σ H Q->wpAny ς X.A (isTrue e X.env (eval e X.env)) (TP X pins σ Q) X.xe s
def PW(X:Cx)(e:AN)(t:TT):Prop:=
 ∀(whole:Sem AJ) (pins:At) (s:AK) (σ:St) (H:Hp) (Q:Bool->Hp->Prop),Inv X pins σ H s->t σ H Q->wpAny ς X.A (isTrue e X.env whole) (TP X pins σ Q) X.xe s
theorem PW.pt{X:Cx}{e:AN}{t:TT}(h:PW X e t):PT X e t:=h _
def PA(X:Cx)(es:AG)(t:TA):Prop:=
 ∀(pos:Pos) (pins:At) (s:AK) (σ:St) (H:Hp) (Q:List V->Hp->Prop),Inv X pins σ H s->t σ H Q->wpAny ς X.A (spliced (backTo pos (starEach es X.env))) (AP X pins σ Q) X.xe s
def PS(X:Cx)(st:Stmt)(t:TS):Prop:=
 ∀(pins:At) (s:AK) (σ:St) (H:Hp) (D:Ends),Inv X pins σ H s->t D σ H->wpAny ς X.A (exec st X.env) (SP X pins D) X.xe s
def Px(X:Cx)(st:List Stmt)(t:TS):Prop:=
 ∀(pins:At) (s:AK) (σ:St) (H:Hp) (D:Ends),Inv X pins σ H s->t D σ H->wpAny ς X.A (execs st X.env) (SP X pins D) X.xe s
theorem gB{α:Type}{t:Sem α}{Q Q':α->AK->Prop}{M:Model}{A:Around}{E:Ap}{s:AK}(h:wpAny M A t Q E s)(hQ:∀a s,Q a s->Q' a s):wpAny M A t Q' E s:=wpAny_mono h hQ λ_ _ x=>x
section
variable {X:Cx}
def aq(i:Nat):TE:=λσ H Q=>∃v,σ[i]? =some (some v)/\Q v H
def tC(v:V):TE:=λ_ H Q=>Q v H
theorem Zm5{i:Nat}{x:Str}{pos:Pos}(hN:X.N[i]? =some x)(hv:Vis X.env.scope x)(hd:(x == ("__debug__":Str))=false:=by decide)(hcd:(x == ("__classdict__":Str))=false:=by decide):PE X (.Name x pos) (aq i):=by
 intro pins s σ H Q I h;obtain⟨v,e,h⟩:=h;obtain⟨m,hn,hl⟩:=I.loc;obtain⟨u,r,l⟩:=hl i x v hN e hv;have fin:EP X pins σ Q u s:=⟨v,H,I,r,h⟩;rcases l with ⟨hk,hm⟩ | ⟨hk,c,hc,hcell⟩
 ·exact wpAny_Name (wpAny_loadName_local I.ok.kind hk hn hm fin) hd
 ·rcases hk with hk | hk
  ·exact wpAny_Name (wpAny_loadName_cell I.ok.kind hk hc hcell fin) hd
  ·exact wpAny_Name (wpAny_loadName_free I.ok.kind hk hc hcell fin hcd) hd
theorem aA{i j pos}:PE X (.Constant (.int i) j pos) (tC (.int i)):=λ_ _ _ H _ I h=>wpAny_Constant_int ⟨.int i,H,I.tok _,⟨_,rfl⟩,h⟩
theorem pK{b j pos}:PE X (.Constant (.bool b) j pos) (tC (.bl b)):=λ_ _ _ H _ I h=>Constant_bool ⟨.bl b,H,I,rfl,h⟩
theorem eZ{j pos}:PE X (.Constant .none j pos) (tC .non):=λ_ _ _ H _ I h=>Constant_none ⟨.non,H,I,rfl,h⟩
theorem bz{x j pos}:PE X (.Constant (.str x) j pos) (tC (.str x)):=λ_ _ _ H _ I h=>Calls.Constant_str ⟨.str x,H,I.tok _,⟨_,rfl⟩,h⟩
def Gl(X:Cx)(x:Str):Prop:=X.env.kindOf x=some .globalImplicit
theorem fL{E:Ap}{pins:At}{s:AK}{σ:St}{H:Hp}{x:Str}{u:AJ}{pos:Pos}{Q:Ap}(I:Inv X pins σ H s)(hg:Gl X x)(hm:X.mg x=some u)(h:Q u s)
  (hd:(x == ("__debug__":Str))=false:=by decide):wpAny ς X.A (eval (.Name x pos) X.env) Q E s:=
 Calls.Name_function_global I.ok.kind hg (Calls.loadGlobal_global (by rw[I.ok.glob];exact I.mod.glob.keeps I.bk) hm h) hd
theorem Mr{E:Ap}{pins:At}{s:AK}{σ:St}{H:Hp}{x:Str}{u:AJ}{pos:Pos}{Q:Ap}(I:Inv X pins σ H s)(hg:Gl X x)(hm:X.mg x=none)(hv:bootBuiltins x=some u)(h:Q u s)
  (hn:x≠"__name__":=by decide) (hd:(x == ("__debug__":Str))=false:=by decide):wpAny ς X.A (eval (.Name x pos) X.env) Q E s:=by
 obtain⟨mb,h1,h2⟩:=I.mod.blt;exact Calls.Name_function_global I.ok.kind hg (Calls.loadGlobal_builtin (by rw[I.ok.glob];exact I.mod.glob.keeps I.bk) hm (by rw[I.ok.blt];exact h1.keeps I.bk) ((h2 x hn).trans hv) h) hd
theorem Ji{x:Str}{v:V}{u:AJ}{pos:Pos}(hg:Gl X x)(hm:X.mg x=some u)(r:RelV v u)(hd:(x == ("__debug__":Str))=false:=by decide):PE X (.Name x pos) (tC v):=
 λ_ _ _ H _ I h=>fL I hg hm ⟨v,H,I,r,h⟩ hd
theorem Ez{x:Str}{v:V}{u:AJ}{pos:Pos}(hg:Gl X x)(hm:X.mg x=none)(hv:bootBuiltins x=some u)(r:RelV v u)(hn:x≠"__name__":=by decide)(hd:(x == ("__debug__":Str))=false:=by decide):PE X (.Name x pos) (tC v):=
 λ_ _ _ H _ I h=>Mr I hg hm hv ⟨v,H,I,r,h⟩ hn hd
variable {a b:AN}{ta tb:TE}{pos:Pos}
def PC(X:Cx)(op:CmpOp)(a b:AN)(t:TE):Prop:=
 ∀(pins:At) (s:AK) (σ:St) (H:Hp) (Q:VK),Inv X pins σ H s->t σ H Q->
  wpAny ς X.A (eval a X.env) (λv s₁=>wpAny ς X.A (eval b X.env) (λu s₂=>wpAny ς X.A (compareOp op v u) (EP X pins σ Q) X.xe s₂) X.xe s₁) X.xe s
theorem Zmq(b:AN){op:CmpOp}(h:op≠.In)(h2:op≠.NotIn):behindInMarks op b=false:=by
 have e1:(op == CmpOp.In)=false:=by cases op<;>first | rfl | exact absurd rfl h
 have e2:(op == CmpOp.NotIn)=false:=by cases op<;>first | rfl | exact absurd rfl h2
 cases b<;>simp[behindInMarks,e1,e2]
def tB(t:TE):TT:=λσ H Q=>t σ H λx H1=>∃c,x=.bl c/\Q c H1
theorem Zm2{op:CmpOp}{t:TE}(h:PC X op a b t)(h1:behindInMarks op b=false:=by first | exact Zmq _ ε ε | rfl):PT X (.Compare a [op] [b] pos) (tB t):=by
 intro pins s σ H Q I hw;refine wpAny_isTrue_Compare1 (gB (h pins s σ H _ I hw) λv s1 h1=>gB h1 λu s2 h2=>gB h2 λc s3 qc=>?_) h1;obtain⟨x,H1,I1,r1,q1⟩:=qc;obtain⟨d,rfl,q⟩:=q1;cases r1;exact wpAny_truthy_bool ⟨H1,I1,q⟩
theorem d9{e:AN}{t:TE}(h:PE X e t)(he:∀whole,isTrue e X.env whole=(do let v <- whole;standAt e.pos;holding [v] (truthy v)):=by intro _;rfl):PT X e (tB t):=by
 intro pins s σ H Q I hw;refine isTrue_plain (gB (h pins s σ H _ I hw) λv s1 qc=>?_) (he _);obtain⟨x,H1,I1,r1,q1⟩:=qc;obtain⟨d,rfl,q⟩:=q1;cases r1;exact wpAny_truthy_bool ⟨H1,I1,q⟩
variable {tA tB':TT}{rest:AG}
def Zlg(t u:TT):TT:=λσ H Q=>t σ H λc H1=>if c=true then u σ H1 Q else Q false H1
def Kw(t u:TT):TT:=λσ H Q=>t σ H λc H1=>if c=true then Q true H1 else u σ H1 Q
def vH(t:TT):TT:=λσ H Q=>t σ H λc H1=>Q (!c) H1
theorem YX(ha:PT X a tA):PW X (.BoolOp .And [a] pos) tA:=by
 intro wh pins s σ H Q I h;refine isTrue_and (gB (ha pins s σ H Q I h) λc s1 e=>?_);cases c with
 | true=>exact isTrue_and_nil e
 | false=>exact e
theorem jY(ha:PT X a tA):PW X (.BoolOp .Or [a] pos) tA:=by
 intro wh pins s σ H Q I h;refine isTrue_or (gB (ha pins s σ H Q I h) λc s1 e=>?_);cases c with
 | false=>exact isTrue_or_nil e
 | true=>exact e
theorem Zfs(ha:PT X a tA)(hb:PW X (.BoolOp .And (b::rest) pos) tB'):PW X (.BoolOp .And (a::b::rest) pos) (Zlg tA tB'):=by
 intro wh pins s σ H Q I h;refine isTrue_and (gB (ha pins s σ H _ I h) λc s1 qc=>?_);obtain⟨H1,I1,q1⟩:=qc;cases c with
 | true=>exact hb wh pins s1 σ H1 Q I1 q1
 | false=>exact⟨H1,I1,q1⟩
theorem lM(ha:PT X a tA)(hb:PW X (.BoolOp .Or (b::rest) pos) tB'):PW X (.BoolOp .Or (a::b::rest) pos) (Kw tA tB'):=by
 intro wh pins s σ H Q I h;refine isTrue_or (gB (ha pins s σ H _ I h) λc s1 qc=>?_);obtain⟨H1,I1,q1⟩:=qc;cases c with
 | true=>exact⟨H1,I1,q1⟩
 | false=>exact hb wh pins s1 σ H1 Q I1 q1
theorem ju(ha:PT X a tA):PT X (.UnaryOp .Not a pos) (vH tA):=by
 intro pins s σ H Q I h;exact isTrue_not (ha pins s σ H (λc H1=>Q (!c) H1) I h)
def Bb(ta tb:TE):TE:=λσ H Q=>ta σ H λx H1=>∃c,x=.bl c/\if c=true then tb σ H1 Q else Q (.bl false) H1
def Zld(ta:TE):TE:=λσ H Q=>ta σ H λx H1=>∃c,x=.bl c/\Q (.bl (!c)) H1
theorem CP{op}{t:TE}(h:PE X a t):PE X (.BoolOp op [a] pos) t:=λpins s σ H Q I hw=>BoolOp_one (h pins s σ H Q I hw)
theorem CQ(ha:PE X a ta)(hb:PE X (.BoolOp .And (b::rest) pos) tb):PE X (.BoolOp .And (a::b::rest) pos) (Bb ta tb):=by
 intro pins s σ H Q I h;refine BoolOp_and (gB (ha pins s σ H _ I h) λv s1 qc=>?_);obtain⟨x,H1,I1,r1,q1⟩:=qc;obtain⟨c,rfl,q1⟩:=q1;cases r1;refine wpAny_truthy_bool ?_;cases c with
 | true=>exact hb pins s1 σ H1 Q I1 q1
 | false=>exact⟨.bl false,H1,I1,rfl,q1⟩
theorem Zsq(ha:PE X a ta):PE X (.UnaryOp .Not a pos) (Zld ta):=by
 intro pins s σ H Q I h;refine UnaryOp_ (gB (ha pins s σ H _ I h) λv s1 qc=>?_);obtain⟨x,H1,I1,r1,q1⟩:=qc;obtain⟨c,rfl,q1⟩:=q1;cases r1;exact not_of (wpAny_truthy_bool ⟨.bl (!c),H1,I1,rfl,q1⟩)
end
def bO(K:aG)(H:Hp)(a:AI)(xs:List V):Prop:=
 Rd H a (.lst xs)\/
  ∃(o:Obj) (its:Array AJ) (n:Nat),K.lookup a=some o/\o.cls=.type "list"/\o.dict=none/\o.data=.seq its n/\its.size<=sizeLine/\Vals xs its.toList
def fc(K:aG)(H:Hp)(a:AI)(xs:List V):Prop:=
 Rd H a (.tup xs)\/
  ∃(o:Obj) (its:Array AJ) (n:Nat),K.lookup a=some o/\o.cls=.type "tuple"/\o.data=.seq its n/\its.size<=sizeLine/\Vals xs its.toList
def ZCy:AJ->Option V
 | .none=>some .non
 | .bool b=>some (.bl b)
 | .int i _=>some (.int i)
 | .str x _=>some (.str x)
 | .bytes b _=>some (.byt b)
 | .float b _=>some (.flt b)
 | .ref a=>↑a
 | .type n=>some (.ty n)
 | _=>none
theorem RelV.abs{x:V}{u:AJ}(r:RelV x u):ZCy u=some x:=by
 cases x with
 | non=>cases r;rfl
 | bl _=>cases r;rfl
 | int _=>obtain⟨t,rfl⟩:=r;rfl
 | str _=>obtain⟨t,rfl⟩:=r;rfl
 | byt _=>obtain⟨t,rfl⟩:=r;rfl
 | flt _=>obtain⟨t,rfl⟩:=r;rfl
 | ref _=>cases r;rfl
 | ty _=>cases r;rfl
theorem RelV.inj{x y:V}{u:AJ}(r:RelV x u)(q:RelV y u):x=y:=Option.some.inj (r.abs.symm.trans q.abs)
theorem Vals.inj:∀{xs ys:List V}{us:AC},Vals xs us->Vals ys us->xs=ys
 | _,_,_,.nil,.nil=>rfl
 | _,_,_,.cons r t,.cons r' t'=>by rw[r.inj r',Vals.inj t t']
section
variable {X:Cx}{pins:At}{σ:St}{H:Hp}{s:AK}{a:AI}{xs ys:List V}
theorem bO.of{K:aG}(h:H a=some (.lst xs)):bO K H a xs:=.inl (.inl h)
theorem fc.of{K:aG}(h:H a=some (.tup xs)):fc K H a xs:=.inl (.inl h)
theorem Inv.list(I:Inv X pins σ H s)(h:bO X.K H a xs):∃its:AC,Vals xs its/\PlainL s.heap a its.toArray/\xs.length<=sizeLine:=by
 rcases h with h | ⟨o,its,n,hk,hc,hd,hs,hz,r⟩
 ·obtain⟨z,its,n,r,e⟩:=h.ok I.hok;exact⟨its,r,⟨_,n,e,rfl,rfl,rfl⟩,z⟩
 ·refine⟨its.toList,r,⟨o,n,I.um a o hk,hc,hd,by simpa using hs⟩,?_⟩;have e:=r.length;simp only[Array.length_toList]at e;omega
theorem Inv.tuple(I:Inv X pins σ H s)(h:fc X.K H a xs):∃its:AC,Vals xs its/\IsTup s.heap a its.toArray/\xs.length<=sizeLine:=by
 rcases h with h | ⟨o,its,n,hk,hc,hs,hz,r⟩
 ·obtain⟨z,its,r,p⟩:=h.ok I.hok;exact⟨its,r,p,z⟩
 ·refine⟨its.toList,r,⟨o,I.um a o hk,hc,n,by simpa using hs⟩,?_⟩;have e:=r.length;simp only[Array.length_toList]at e;omega
theorem Inv.Zcr(I:Inv X pins σ H s)(h:bO X.K H a xs)(h':bO X.K H a ys):xs=ys:=by
 obtain⟨its,r,⟨o,n,e,_,_,d⟩,_⟩:=I.list h;obtain⟨its',r',⟨o',n',e',_,_,d'⟩,_⟩:=I.list h';rw[e]at e';cases e';rw[d]at d'
 injection d' with d1 _
 have:its=its':=by simpa using congrArg Array.toList d1
 subst this;exact r.inj r'
end
abbrev Cx.wish(X:Cx)(E:Ap):Cx:={ X with xe:=E }
abbrev Cx.nox(X:Cx):Cx:=X.wish λ_ _=>False
theorem Cx.Ok.wish{X:Cx}(ok:X.Ok)(E:Ap):(X.wish E).Ok:=
 ⟨ok.mod,ok.kind,ok.glob,ok.blt,ok.above,ok.inj,ok.has,ok.cab,ok.hd,ok.frames,ok.stk,ok.exf,ok.bs,ok.bsz,ok.Zcj,ok.Zgt,ok.yu,ok.frf⟩
theorem Cx.Ok.Bs{X:Cx}{E:Ap}(ok:(X.wish E).Ok):X.Ok:=
 ⟨ok.mod,ok.kind,ok.glob,ok.blt,ok.above,ok.inj,ok.has,ok.cab,ok.hd,ok.frames,ok.stk,ok.exf,ok.bs,ok.bsz,ok.Zcj,ok.Zgt,ok.yu,ok.frf⟩
section
variable {X:Cx}{pins:At}{σ:St}{H:Hp}{s:AK}{E:Ap}
theorem Inv.wish(I:Inv X pins σ H s)(E:Ap):Inv (X.wish E) pins σ H s:=⟨I.ok.wish E,I.os,I.bare,I.base,I.loc,I.cell,I.free,I.qX,I.pin,I.hok,I.len⟩
theorem Inv.Bs(I:Inv (X.wish E) pins σ H s):Inv X pins σ H s:=⟨I.ok.Bs,I.os,I.bare,I.base,I.loc,I.cell,I.free,I.qX,I.pin,I.hok,I.len⟩
theorem SP.Bs{D:Ends}{f:Flow}{s':AK}(h:SP (X.wish E) pins D f s'):SP X pins D f s':=by
 cases f with
 | next=>obtain⟨σ',H',I,q⟩:=h;exact⟨σ',H',I.Bs,q⟩
 | brk=>obtain⟨σ',H',I,q⟩:=h;exact⟨σ',H',I.Bs,q⟩
 | cont=>obtain⟨σ',H',I,q⟩:=h;exact⟨σ',H',I.Bs,q⟩
 | ret u=>obtain⟨v,σ',H',I,r,q⟩:=h;exact⟨v,σ',H',I.Bs,r,q⟩
theorem Px.nox{st:List Stmt}{t:TS}(h:Px X.nox st t):Px X st t:=λpins s σ H D I hw=>
 wpAny_mono (h pins s σ H D (I.wish _) hw) (λ_ _ q=>q.Bs) λ_ _ z=>False.elim z
end
section
variable {X:Cx}{st:Stmt}{rest:List Stmt}{t u:TS}{e:AN}{te:TE}{pos:Pos}
def cu:TS:=λD σ H=>D.nx σ H
def aP(t u:TS):TS:=λD σ H=>t { D with nx:=u D } σ H
theorem bh:Px X [] cu:=λ_ _ σ H _ I h=>wpAny_execs_nil ⟨σ,H,I,h⟩
theorem au(h1:PS X st t)(h2:Px X rest u):Px X (st::rest) (aP t u):=by
 intro pins s σ H D I h;refine wpAny_execs_cons (gB (h1 pins s σ H { D with nx:=u D } I h) λf s1 q=>?_);cases f with
 | next=>
  obtain⟨σ',H',I',q⟩:=q;exact h2 pins s1 σ' H' D I' q
 | ret v=>exact q
 | brk=>exact q
 | cont=>exact q
theorem aC(h1:PS X st t):Px X [st] t:=by
 intro pins s σ H D I h;refine wpAny_execs_cons (gB (h1 pins s σ H D I h) λf s1 q=>?_);cases f with
 | next=>exact wpAny_execs_nil q
 | ret v=>exact q
 | brk=>exact q
 | cont=>exact q
def Zem:TS:=λD σ H=>D.bk σ H
theorem Zm4:PS X (.Break pos) Zem:=λ_ _ σ H _ I h=>wpAny_Break ⟨σ,H,I,h⟩
theorem Inv.quiet{pins:At}{σ:St}{H:Hp}{s:AK}(I:Inv X pins σ H s):interactive X.env=false:=by simp[interactive,I.ok.kind]
def lJ(te:TE):TS:=λD σ H=>te σ H λ_ H1=>D.nx σ H1
theorem fX(he:PE X e te)(hs:swapsWith e none pos.line X.env=pure false:=by rfl):PS X (.Expr e pos) (lJ te):=by
 intro pins s σ H D I h;exact wpAny_Expr_any (gB (he pins s σ H _ I h) (by rintro v s1 ⟨x,H1,I1,r1,q1⟩;exact⟨σ,H1,I1,q1⟩)) I.quiet hs
def bB(te:TE):TS:=λD σ H=>te σ H D.rt
theorem aN(he:PE X e te):PS X (.Return (some e) pos) (bB te):=by
 intro pins s σ H D I h;exact wpAny_Return_some (gB (he pins s σ H _ I h) (by rintro v s1 ⟨x,H1,I1,r1,q1⟩;exact⟨x,σ,H1,I1,r1,q1⟩))
def dJ(c:TT)(t u:TS):TS:=λD σ H=>c σ H λb H1=>if b=true then t D σ H1 else u D σ H1
theorem cB{c:AN}{a b:List Stmt}{tc:TT}(hc:PT X c tc)(ha:Px X a t)(hb:Px X b u):PS X (.If c a b pos) (dJ tc t u):=by
 intro pins s σ H D I h;refine wpAny_If (gB (hc pins s σ H _ I h) λd s1 qc=>?_);obtain⟨H1,I1,q1⟩:=qc;cases d with
 | true=>exact ha pins s1 σ H1 D I1 q1
 | false=>exact hb pins s1 σ H1 D I1 q1
end
abbrev TG:=V->St->Hp->(ν)->Prop
abbrev TGs:=List V->St->Hp->(ν)->Prop
def PG(X:Cx)(target:AN)(t:TG):Prop:=
 ∀(pins:At) (s:AK) (σ:St) (H:Hp) (v:V) (u:AJ) (Q:ν),Inv X pins σ H s->RelV v u->t v σ H Q->
  wpAny ς X.A (assign target X.env u) (λ_ s'=>∃ σ' H',Inv X pins σ' H' s'/\Q σ' H') X.xe s
def PGs(X:Cx)(ts:AG)(t:TGs):Prop:=
 ∀(pins:At) (s:AK) (σ:St) (H:Hp) (vs:List V) (us:AC) (Q:ν),Inv X pins σ H s->Vals vs us->t vs σ H Q->
  wpAny ς X.A (assignInOrder ((assignEach ts X.env).map (·.2)) us) (λ_ s'=>∃ σ' H',Inv X pins σ' H' s'/\Q σ' H') X.xe s
abbrev Zrb:=V->V->V->Hp->(Hp->Prop)->Prop
def Zx0(X:Cx)(t:Zrb):Prop:=
 ∀(pins:At) (s:AK) (σ:St) (H:Hp) (o i v:V) (ov iv u:AJ) (Q:Hp->Prop),Inv X pins σ H s->RelV o ov->RelV i iv->RelV v u->t o i v H Q->
  wpAny ς X.A (setItem ov iv u) (λ_ s'=>∃H',Inv X pins σ H' s'/\Q H') X.xe s
section
variable {X:Cx}{pos:Pos}
def aR(i:Nat):TG:=λv σ H Q=>Q (σ.set i (some v)) H
theorem eO{i:Nat}{x:Str}(hN:X.N.Nodup)(hi:X.N[i]? =some x)(hx:Loc X.env.scope x)(hf:X.fn x=true\/X.env.scope.names.lookup x=some .local:=by first | exact .inl rfl | exact .inr rfl | assumption):PG X (.Name x pos) (aR i):=by
 intro pins s σ H v u Q I r h;exact wpAny_assign_Name (Ql I hN hi hx r (λs' I'=>⟨_,H,I',h⟩) hf)
def Zgq:TGs:=λvs σ H Q=>vs=[]/\Q σ H
def yt(t:TG)(u:TGs):TGs:=λvs σ H Q=>∃v r,vs=v::r/\t v σ H λσ' H'=>u r σ' H' Q
theorem Ey:PGs X [] Zgq:=by
 intro pins s σ H vs us Q I r h;obtain⟨e,h⟩:=h;subst e;cases r;exact assignInOrder_nil ⟨σ,H,I,h⟩
theorem jG{e:AN}{es:AG}{t:TG}{u:TGs}(h1:PG X e t)(h2:PGs X es u)
  (hs:(assignEach (e::es) X.env).map (·.2)=assign e X.env::(assignEach es X.env).map (·.2):=by rfl):PGs X (e::es) (yt t u):=by
 intro pins s σ H vs us Q I r h;obtain⟨v,vr,e1,h⟩:=h;subst e1;cases r with
 | cons r rr=>
  rw[hs];refine assignInOrder_cons (gB (h1 pins s σ H _ _ _ I r h) λ_ s1 qc=>?_);obtain⟨σ1,H1,I1,q1⟩:=qc;exact h2 pins s1 σ1 H1 _ _ Q I1 rr q1
def Zgp(K:aG)(n:Nat)(t:TGs):TG:=λv σ H Q=>∃a xs,v=.ref a/\fc K H a xs/\xs.length=n/\t xs σ H Q
theorem Ls{es:AG}{k:Nat}{t:TGs}{n:Nat}(hc:X.calm=true)(h:PGs X es t)
  (hn:(assignEach es X.env).length=n:=by rfl) (hst:(assignEach es X.env).findIdx? (·.1)=none:=by rfl):PG X (.Tuple es k pos) (Zgp X.K n t):=by
 intro pins s σ H v u Q I r hw;obtain⟨a,xs,e1,hq,hl,hw⟩:=hw;subst e1;cases r;obtain⟨its,rv,ht,hz⟩:=I.tuple hq;refine assign_Tuple_tuple (I.ok.hd hc) ht (by simp[hn,<- hl,rv.length]) hst λh' hx=>?_;have I1:Inv X pins σ H { s with heap:=h' }:=I.kept (t':=s.toks) λb o e=>hx b o (Nat.ne_of_lt (Heap.lt_size e)) e;exact h pins _ σ H xs _ Q I1 (by simpa using rv) hw
def Su(to ti:TE)(t:Zrb):TG:=λv σ H Q=>to σ H λo H1=>ti σ H1 λi H2=>t o i v H2 λH3=>Q σ H3
theorem zR{o i:AN}{to ti:TE}{t:Zrb}(ho:PE X o to)(hi:PE X i ti)(hs:Zx0 X t)
  (ha:∀v,assign (.Subscript o i pos) X.env v=(do
   let ov <- holding [v] (eval o X.env)
   let iv <- holding [v,ov] (eval i X.env)
   standAt pos
   holding [v,ov,iv] (setItem ov iv v)
   release [v,ov,iv] []):=by intro _;rfl):PG X (.Subscript o i pos) (Su to ti t):=by
 intro pins s σ H v u Q I r h;rw[ha];refine wpAny_bind (wpAny_holding (gB (ho pins s σ H _ I h) λov s1 qc=>?_));obtain⟨x,H1,I1,r1,q1⟩:=qc;refine wpAny_bind (wpAny_holding (gB (hi pins s1 σ H1 _ I1 q1) λiv s2 qc=>?_));obtain⟨y,H2,I2,r2,q2⟩:=qc;refine wpAny_bind (wpAny_standAt (wpAny_bind (wpAny_holding (gB (hs pins s2 σ H2 x y v ov iv u _ I2 r1 r2 r q2) λ_ s3 qc=>?_))));obtain⟨H3,I3,q3⟩:=qc;exact wpAny_release ⟨σ,H3,I3,q3⟩
def bH(te:TE)(g:TG):TS:=λD σ H=>te σ H λx H1=>g x σ H1 D.nx
theorem zP{tg e:AN}{te:TE}{g:TG}(he:PE X e te)(hg:PG X tg g)(hs:swapsWithSole [tg] e pos.line X.env=pure false:=by rfl)(hw:swappedStores [tg] e X.env=pure none:=by rfl)
  (h1:(assignEach [tg] X.env).map (·.2)=[assign tg X.env]:=by rfl):PS X (.Assign [tg] e pos) (bH te g):=by
 intro pins s σ H D I h;refine wpAny_Assign_stores (gB (he pins s σ H _ I h) λv s1 qc=>?_) hs hw;obtain⟨x,H1,I1,r1,q1⟩:=qc;rw[h1];exact gB (hg pins s1 σ H1 x v _ I1 r1 q1) λ_ s2 q=>q
theorem Y0{i:Nat}{x:Str}{e:AN}{te:TE}{pos':Pos}(hN:X.N.Nodup)(hi:X.N[i]? =some x)(hx:Loc X.env.scope x)(he:PE X e te)(hs:swapsWith e (some (.Name x pos')) pos.line X.env=pure false:=by rfl)(hf:X.fn x=true\/X.env.scope.names.lookup x=some .local:=by first | exact .inl rfl | exact .inr rfl | assumption):
  PS X (.Assign [.Name x pos'] e pos) (bH te (aR i)):=by
 intro pins s σ H D I h;refine wpAny_Assign_Name (gB (he pins s σ H _ I h) λv s1 qc=>?_) hs;obtain⟨y,H1,I1,r1,q1⟩:=qc;exact Ql I1 hN hi hx r1 (λs2 I2=>⟨_,H1,I2,q1⟩) hf
end
section
variable {X:Cx}{pos:Pos}
def XR(c:TT)(tb:TS):TS:=λD σ H=>∃W:Nat->ν,(∃m,W m σ H)/\∀m σ H,W m σ H->
 c σ H λb H1=>if b=true then ∃N:ν,(∀ σ' H',N σ' H'->∃m',m'<m/\W m' σ' H')/\tb { D with nx:=N,ct:=N,bk:=D.nx } σ H1 else D.nx σ H1
theorem QV{c:AN}{body:List Stmt}{tc:TT}{tb:TS}(hp:PassesOwn ς X.A X.env X.xe)(hc:PT X c tc)(hb:Px X body tb):PS X (.While c body [] pos) (XR tc tb):=by
 intro pins s σ H D I h;obtain⟨W,⟨m0,w0⟩,turn⟩:=h;refine wpAny_While (codeAny_whileLoop (λn s'=>∃ σ' H',Inv X pins σ' H' s'/\W n σ' H') ?_ m0 ⟨σ,H,I,w0⟩);rintro n s1 ⟨σ1,H1,I1,w1⟩;refine wpAny_passesOwn hp (gB (hc pins s1 σ1 H1 _ I1 (turn n σ1 H1 w1)) λb s2 qc=>?_);obtain⟨H2,I2,q2⟩:=qc;cases b with
 | true=>
  obtain⟨N,hN,q2⟩:=q2;rw[if_pos rfl];refine wpAny_passesOwn hp (gB (hb pins s2 σ1 H2 _ I2 q2) λf s3 q3=>?_);cases f with
  | next=>
   obtain⟨σ3,H3,I3,n3⟩:=q3;obtain⟨m',hm,w3⟩:=hN σ3 H3 n3;exact⟨m',hm,σ3,H3,I3,w3⟩
  | cont=>
   obtain⟨σ3,H3,I3,n3⟩:=q3;obtain⟨m',hm,w3⟩:=hN σ3 H3 n3;exact⟨m',hm,σ3,H3,I3,w3⟩
  | brk=>exact q3
  | ret v=>exact q3
 | false=>
  rw[if_neg Bool.false_ne_true];exact wpAny_execs_nil ⟨σ1,H2,I2,q2⟩
end
structure It where
 go:Nat->Hp->Prop
 yld:Nat->Hp->V->Hp->Prop
 stop:Nat->Hp->Prop
def vA(X:Cx)(pins:At)(H:Hp)(b:AI):Prop:=
 H b=none/\b≠X.env.locals/\b∉X.fs/\(b∈X.ex\/X.s₀.heap.objs.size<=b)/\(∀x c,X.env.cells.lookup x=some c->c≠b)/\∀p∈X.pn++pins,p.1≠b
theorem Inv.Zgs{X:Cx}{pins:At}{σ:St}{H H':Hp}{s:AK}{b:AI}(I:Inv X pins σ H s)(hb:s.heap.objs.size<=b)(hn:H' b=none):vA X pins H' b:=by
 refine⟨hn,Nat.ne_of_gt (Nat.lt_of_lt_of_le I.lt hb),I.Zxj hb,.inr (Nat.le_trans I.sz hb),λx c e z=>?_,λp hp z=>?_⟩
 ·obtain⟨v,q⟩:=I.cell x c e;exact absurd (Nat.lt_of_lt_of_le q.lt (by rw[z];exact hb)) (Nat.lt_irrefl _)
 ·exact absurd (Nat.lt_of_lt_of_le (Heap.lt_size (I.pin p hp).1) (by rw[z];exact hb)) (Nat.lt_irrefl _)
structure Turn(P:AM)(w:AO)(K:aG)(tg:AN)(J:It)(fp:AF)(it:AI)(tn:Nat->Heap->Prop):Prop where
  mem:it∈fp
  obj:∀i h,tn i h->∀b∈fp,∃o,h.get? b=some o/\∀v,o.data≠.cell v
  keep:∀i h h',tn i h->(∀b∈fp,∀o,h.get? b=some o->h'.get? b=some o)->tn i h'
  item:∀(X:Cx),X.prog=P->X.w=w->X.K=K->X.calm=true->∀(i:Nat) (pins:At) (s:AK) (σ:St) (H:Hp) (E:Ap),Inv X pins σ H s->(∀b∈fp,vA X pins H b)->tn i s.heap->J.go i H->
    wpAny (model P w) X.A (pyNext (.ref it)) (λr s1=>∃u,r=some u/\
      wpAny (model P w) X.A (letOwnedTupleGo tg (.ref it) u) (λ_ s2=>∃x H',Inv X pins σ H' s2/\RelV x u/\J.yld i H x H'/\tn (i+1) s2.heap/\∀b∈fp,H' b=none) E s1) E s
  done:∀(X:Cx),X.prog=P->X.w=w->X.K=K->X.calm=true->∀(i:Nat) (pins:At) (s:AK) (σ:St) (H:Hp) (E:Ap),Inv X pins σ H s->(∀b∈fp,vA X pins H b)->tn i s.heap->J.stop i H->
    wpAny (model P w) X.A (pyNext (.ref it)) (λr s1=>r=none/\Inv X pins σ H s1) E s
  self:∀(A:Around) (i:Nat) (s:AK) (Q:Ap) (E:Ap),tn i s.heap->Q (.ref it) s->wpAny (model P w) A (pyIter (.ref it)) Q E s
abbrev TI:=St->Hp->(It->Hp->Prop)->Prop
def PIE(X:Cx)(pins:At)(σ:St)(tg:AN)(R:It->Hp->Prop)(itv:AJ)(s2:AK):Prop:=
 ∃(it:AI) (fp:AF) (tn:Nat->Heap->Prop) (J:It) (H':Hp),itv=.ref it/\Inv X pins σ H' s2/\Turn X.prog X.w X.K tg J fp it tn/\tn 0 s2.heap/\(∀b∈fp,vA X pins H' b)/\R J H'
def PI(X:Cx)(tg iter:AN)(wi:TI):Prop:=
 ∀(pins:At) (s:AK) (σ:St) (H:Hp) (R:It->Hp->Prop),Inv X pins σ H s->wi σ H R->
  wpAny ς X.A (eval iter X.env) (λv s1=>wpAny ς X.A (pyIter v) (PIE X pins σ tg R) X.xe s1) X.xe s
theorem Zo1{M:Model}{A:Around}{E:Ap}{s:AK}{tg:AN}{it:AI}{u:AJ}{o:Obj}{n:String}{vs:Array AJ}{Q:Unit->AK->Prop}(ho:s.heap.get? it=some o)(hc:o.cls=.type n)(hd:o.data=.fields vs)
    (hn:["enumerate","zip","dict_itemiterator","dict_reverseitemiterator","odict_iterator","itertools.zip_longest","itertools.pairwise"].contains n=false) (hQ:Q () s):wpAny M A (letOwnedTupleGo tg (.ref it) u) Q E s:=by
  unfold letOwnedTupleGo;cases tg<;>first
    | exact wpAny_pure hQ
    | (cases u<;>first
        | exact wpAny_pure hQ
        | (refine wpAny_bind (wpAny_load ho ?_)
           rw[hc,hd];show wpAny M A (if (["enumerate","zip","dict_itemiterator","dict_reverseitemiterator","odict_iterator","itertools.zip_longest","itertools.pairwise"].contains n && vs[0]? == some (rawInt _))=true then _ else _) Q E s;rw[if_neg (by intro h;rw[hn,Bool.false_and]at h;cases h)];exact wpAny_pure hQ))
def Itl(K:aG)(a:AI):It:=
 ⟨λi H=>∃xs x,bO K H a xs/\xs[i]? =some x,λi H x H'=>H'=H/\∀xs,bO K H a xs->xs[i]? =some x,λi H=>∃xs,bO K H a xs/\xs.length<=i⟩
def Itr(lo:Int)(n:Nat):It:=⟨λi _=>i<n,λi H x H'=>H'=H/\x=.int (lo+i),λi _=>n<=i⟩
theorem Zj2{P:AM}{w:AO}{K:aG}{tg:AN}(a it:AI):Turn P w K tg (Itl K a) [it] it (λi h=>h.IsListIter it a i) where
  mem:=ζ
  obj:=λi h st b hb=>by
    have e:b=it:=by simpa using hb
    subst e;obtain⟨o,e,c,d⟩:=st;exact⟨o,e,λv z=>by rw[d]at z;cases z⟩
  keep:=λi h h' st k=>st.at λo e=>k it ζ o e
  item:=by
    intro X hP hw hK hc i pins s σ H E I hf st hg;subst hP hw hK;obtain⟨xs,x,hq,hx⟩:=hg;obtain⟨its,rv,p,hz⟩:=I.list hq;obtain⟨u,hu,ru⟩:=rv.get hx;obtain⟨f0,f1,f2,f3,f4,f5⟩:=hf it ζ;refine wpAny_pyNext_list_item st p.isList (x:=u) (by simpa using hu) λh' st' sb=>?_;have I1:Inv X pins σ H { s with heap:=h' }:=I.turned (t':=s.toks) (λb o hb e=>(sb.2 b hb).trans e) f0 f1 f3 f4 f5;obtain⟨o,e,c,d⟩:=id st';exact⟨u,rfl,Zo1 (s:={ s with heap:=h' }) e c d ε ⟨x,H,I1,ru,⟨rfl,λys hy=>by rw[I.Zcr hy hq];exact hx⟩,st',λb hb=>(hf b hb).1⟩⟩
  done:=by
    intro X hP hw hK hc i pins s σ H E I hf st hg;subst hP hw hK;obtain⟨xs,hq,hx⟩:=hg;obtain⟨its,rv,p,hz⟩:=I.list hq;obtain⟨f0,f1,f2,f3,f4,f5⟩:=hf it ζ;have hl:=rv.length;exact wpAny_pyNext_list_end (I.ok.hd hc) st p.isList (by simp;omega) λh' eb=>⟨rfl,I.turned (t':=s.toks) (λb o hb e=>eb b o hb e) f0 f1 f3 f4 f5⟩
  self:=λ_ _ _ _ _ st h=>wpAny_pyIter_listiter st h
theorem Zee{P:AM}{w:AO}{K:aG}{tg:AN}(it:AI)(lo:Int)(n:Nat):Turn P w K tg (Itr lo n) [it] it (λi h=>IsRangeIter h it (lo+(i:Nat) * 1) ((n:Int) - (i:Nat)) 1) where
  mem:=ζ
  obj:=λi h st b hb=>by
    have e:b=it:=by simpa using hb
    subst e;exact⟨_,st,λv z=>by
      have z':Data.fields _=Data.cell v:=z;cases z'⟩
  keep:=λi h h' st k=>k it ζ _ st
  item:=by
    intro X hP hw hK hc i pins s σ H E I hf st hg;subst hP hw hK;obtain⟨f0,f1,f2,f3,f4,f5⟩:=hf it ζ;have W:=Walks.range (prog:=X.prog) (w:=X.w) (I.ok.hd hc) it lo 1 n;refine W.item i s _ _ hg st λv h' tk hv st' kk=>?_;obtain⟨t,rfl⟩:=hv;have I1:Inv X pins σ H { s with heap:=h',toks:=tk }:=I.turned (λb o hb e=>kk b o (by simpa using hb) e) f0 f1 f3 f4 f5;refine⟨_,rfl,Zo1 (s:={ s with heap:=h',toks:=tk }) (n:="range_iterator") st' rfl rfl ε ⟨.int (lo+i),H,I1,⟨t,?_⟩,⟨rfl,rfl⟩,st',λb hb=>(hf b hb).1⟩⟩;rw[Int.mul_one]
  done:=by
    intro X hP hw hK hc i pins s σ H E I hf st hg;subst hP hw hK;obtain⟨f0,f1,f2,f3,f4,f5⟩:=hf it ζ;exact wpAny_pyNext_range_end (I.ok.hd hc) st (by have:n<=i:=hg;omega) λh' eb=>⟨rfl,I.turned (t':=s.toks) (λb o hb e=>eb b o hb e) f0 f1 f3 f4 f5⟩
  self:=λ_ _ _ _ _ st h=>wpAny_pyIter_rangeiter st h
section
variable {X:Cx}{tg:AN}
def yq(K:aG)(tl:TE):TI:=λσ H R=>tl σ H λx H1=>∃a,x=.ref a/\(∃xs,bO K H1 a xs)/\R (Itl K a) H1
theorem nR{l:AN}{tl:TE}(hl:PE X l tl):PI X tg l (yq X.K tl):=by
 intro pins s σ H R I h;refine gB (hl pins s σ H _ I h) λv s1 qc=>?_;obtain⟨x,H1,I1,r1,q1⟩:=qc;obtain⟨a,e,⟨xs,hq⟩,q⟩:=q1;subst e;cases r1;obtain⟨its,rv,p,hz⟩:=I1.list hq;refine wpAny_pyIter_list p.isList ?_;refine⟨s1.heap.objs.size,[s1.heap.objs.size],_,_,H1,rfl,I1.kept (t':=s1.toks) λb o e=>Heap.get?_push_of_some _ e,Zj2 a _,⟨_,Heap.get?_push_size _ rfl,rfl,rfl⟩,λb hb=>?_,q⟩;have e:b=s1.heap.objs.size:=by simpa using hb
 subst e;exact I1.Zgs υ (I1.hok.fresh υ)
theorem Zbw{pins:At}{σ:St}{H:Hp}{s:AK}{R:It->Hp->Prop}{E:Ap}{lo hi:Int}{t u v:Tok}{tk:Nat}(I:Inv X pins σ H s)(h1:-(2 ^ 62)<=lo)(h2:lo<2 ^ 62)(h3:-(2 ^ 62)<=hi)(h4:hi<2 ^ 62)
  (q:R (Itr lo (hi - lo).toNat) H):wpAny ς X.A (pyIter (.ref s.heap.objs.size)) (PIE X pins σ tg R) E { s with heap:=s.heap.push { cls:=.type "range",data:=.fields #[.int lo t,.int hi u,.int 1 v] },toks:=tk }:=by
 refine wpAny_pyIter_range (IsRange.new ..) (small_one h1 h2 h3 h4) ?_;have I1:Inv X pins σ H { s with heap:=s.heap.push { cls:=.type "range",data:=.fields #[.int lo t,.int hi u,.int 1 v] },toks:=tk }:=I.kept λb o e=>Heap.get?_push_of_some _ e;refine⟨(s.heap.push { cls:=.type "range",data:=.fields #[.int lo t,.int hi u,.int 1 v] }).objs.size,[(s.heap.push { cls:=.type "range",data:=.fields #[.int lo t,.int hi u,.int 1 v] }).objs.size],_,_,H,rfl,
  I1.kept (t':=tk) λb o e=>Heap.get?_push_of_some _ e,Zee _ lo (hi - lo).toNat,?_,λb hb=>?_,q⟩
 ·have e1:lo+((0:Nat):Int) * 1=lo:=ζ
  have e2:(((hi - lo).toNat:Nat):Int) - ((0:Nat):Int)=Builtin.Range.rangeSize lo hi 1:=by rw[rangeSize_one];split<;>omega
  show IsRangeIter _ _ (lo+((0:Nat):Int) * 1) ((((hi - lo).toNat:Nat):Int) - ((0:Nat):Int)) 1;rw[e1,e2];exact Heap.get?_push_size _ rfl
 ·have e:b=(s.heap.push { cls:=.type "range",data:=.fields #[.int lo t,.int hi u,.int 1 v] }).objs.size:=by simpa using hb
  subst e;exact I1.Zgs υ (I1.hok.fresh υ)
def R8(ta:TA):TI:=λσ H R=>ta σ H λvs H1=>∃j:Int,vs=[.int j]/\-(2 ^ 62)<=j/\j<2 ^ 62/\R (Itr 0 j.toNat) H1
def Zns(ta:TA):TI:=λσ H R=>ta σ H λvs H1=>∃i j:Int,vs=[.int i,.int j]/\(-(2 ^ 62)<=i/\i<2 ^ 62/\-(2 ^ 62)<=j/\j<2 ^ 62)/\R (Itr i (j - i).toNat) H1
theorem xQ{a:AN}{ta:TA}{p pos:Pos}(hg:Gl X "range")(hm:X.mg "range"=none)(ha:PA X [a] ta)(hs:starEach [a] X.env=[(false,eval a X.env)]:=by rfl):PI X tg (.Call (.Name "range" p) [a] [] pos) (R8 ta):=by
 intro pins s σ H R I h;refine Call_ (Mr I hg hm boot_range (PyProof.Rows.callWith_type1 (gB (ha pos pins s σ H _ I h) λus s1 qc=>?_) hs rfl));obtain⟨vs,H1,I1,r1,q1⟩:=qc;obtain⟨j,e,q1,q2,q⟩:=q1;subst e;cases r1 with
 | cons r rr=>
  cases rr;obtain⟨t,rfl⟩:=r;exact call_range_1 (Zbw I1 δ δ q1 q2 (by simpa using q))
theorem Zjn{a b:AN}{ta:TA}{p pos:Pos}(hg:Gl X "range")(hm:X.mg "range"=none)(ha:PA X [a,b] ta)(hs:starEach [a,b] X.env=[(false,eval a X.env),(false,eval b X.env)]:=by rfl)(hs2:starEach [b] X.env=[(false,eval b X.env)]:=by rfl):
  PI X tg (.Call (.Name "range" p) [a,b] [] pos) (Zns ta):=by
 intro pins s σ H R I h;refine Call_ (Mr I hg hm boot_range (PyProof.Rows.callWith_type1 (gB (ha pos pins s σ H _ I h) λus s1 qc=>?_) (by rw[hs,hs2]) (by rw[hs2];rfl)));obtain⟨vs,H1,I1,r1,q1⟩:=qc;obtain⟨i,j,e,⟨q1,q2,q3,q4⟩,q⟩:=q1;subst e;cases r1 with
 | cons r rr=>
  cases rr with
  | cons r' rr=>
   cases rr;obtain⟨t,rfl⟩:=r;obtain⟨t',rfl⟩:=r';exact call_range_2 (Zbw I1 q1 q2 q3 q4 q)
def Bt(wi:TI)(g:TG)(tb:TS):TS:=λD σ H=>wi σ H λJ H1=>∃W:Nat->Nat->ν,(∃m,W 0 m σ H1)/\∀i m σ H,W i m σ H->
 (J.stop i H/\D.nx σ H)\/(J.go i H/\∃N:ν,(∀ σ' H',N σ' H'->∃m',m'<m/\W (i+1) m' σ' H')/\∀x H',J.yld i H x H'->g x σ H' λσ2 H2=>tb { D with nx:=N,ct:=N,bk:=D.nx } σ2 H2)
def G7(fp:AF)(h:Heap):At:=fp.filterMap λb=>(h.get? b).map λo=>(b,o)
theorem uM{fp:AF}{h:Heap}{b:AI}{o:Obj}(hb:b∈fp)(e:h.get? b=some o):(b,o)∈G7 fp h:=List.mem_filterMap.mpr ⟨b,hb,by rw[e];rfl⟩
theorem W7{fp:AF}{h:Heap}{p:AI×Obj}(hp:p∈G7 fp h):p.1∈fp/\h.get? p.1=some p.2:=by
 obtain⟨b,hb,e⟩:=List.mem_filterMap.mp hp;cases q:h.get? b with
 | none=>rw[q]at e;cases e
 | some o=>
  rw[q]at e;have e':(b,o)=p:=Option.some.inj e;subst e';exact⟨hb,q⟩
theorem Inv.pinned{pins:At}{σ:St}{H:Hp}{s:AK}{fp:AF}(I:Inv X pins σ H s)(hf:∀b∈fp,vA X pins H b)(ho:∀b∈fp,∃o,s.heap.get? b=some o/\∀v,o.data≠.cell v):Inv X (pins++G7 fp s.heap) σ H s:=
 I.Jg λp hp=>(List.mem_append.mp hp).elim (λz=>I.pin p (List.mem_append_right _ z)) λz=>by
  obtain⟨hb,e⟩:=W7 z;obtain⟨f0,f1,f2,_⟩:=hf p.1 hb;obtain⟨o,e',d⟩:=ho p.1 hb;rw[e]at e';cases e';exact⟨e,f0,f1,f2,d⟩
theorem Inv.Qf{pins pl:At}{σ:St}{H:Hp}{s:AK}(I:Inv X (pins++pl) σ H s):Inv X pins σ H s:=I.Jg λp hp=>I.pin p (List.mem_append_right _ (List.mem_append_left _ hp))
theorem mX{iter:AN}{body:List Stmt}{wi:TI}{g:TG}{tb:TS}{pos:Pos}(hp:PassesOwn ς X.A X.env X.xe)(hc:X.calm=true)(hi:PI X tg iter wi)(hg:PG X tg g)(hb:Px X body tb)
  (hs:∀x,foldedSetIterable iter X.env x=pure x:=by intro _;rfl):PS X (.For tg iter body [] pos) (Bt wi g tb):=by
 intro pins s σ H D I h;refine wpAny_For (gB (hi pins s σ H _ I h) λv s1 h1=>gB h1 λitv s2 h2=>?_) hs;obtain⟨it,fp,tn,J,H2,e,I2,T,st2,f2,W,⟨m0,w0⟩,turn⟩:=h2;subst e;have stat:∀{H':Hp},(∀b∈fp,H' b=none)->∀b∈fp,vA X pins H' b:=λhn b hb=>⟨hn b hb,(f2 b hb).2⟩;refine codeAny_forLoop_any (λn s'=>∃i σ' H',Inv X pins σ' H' s'/\tn i s'.heap/\(∀b∈fp,H' b=none)/\W i n σ' H') ?_ m0 ⟨0,σ,H2,I2,st2,λb hb=>(f2 b hb).1,w0⟩;rintro n s3 ⟨i,σ3,H3,I3,st3,fr3,w3⟩;rcases turn i n σ3 H3 w3 with ⟨stop,qn⟩ | ⟨go,N,hN,step⟩
 ·refine wpAny_passesOwn hp (gB (T.done X rfl rfl rfl hc i pins s3 σ3 H3 X.xe I3 (stat fr3) st3 stop) λr s4 qc=>?_);obtain⟨hr,I4⟩:=qc;subst hr;exact wpAny_execs_nil ⟨σ3,H3,I4,qn⟩
 ·refine wpAny_passesOwn hp (gB (T.item X rfl rfl rfl hc i pins s3 σ3 H3 X.xe I3 (stat fr3) st3 go) λr s4 qc=>?_);obtain⟨u,hr,h4⟩:=qc;subst hr;refine wpAny_passesOwn hp (gB h4 λ_ s5 qc=>?_);obtain⟨x,H5,I5,r5,y5,st5,fr5⟩:=qc;have I5':=I5.pinned (stat fr5) (T.obj _ _ st5);refine wpAny_passesOwn hp (gB (hg _ s5 σ3 H5 x u _ I5' r5 (step x H5 y5)) λ_ s6 qc=>?_);obtain⟨σ6,H6,I6,q6⟩:=qc;refine wpAny_passesOwn hp (gB (hb _ s6 σ6 H6 _ I6 q6) λf s7 q7=>?_);have again:∀{σ7:St}{H7:Hp},Inv X (pins++G7 fp s5.heap) σ7 H7 s7->N σ7 H7->∃m,m<n/\∃i σ' H',Inv X pins σ' H' s7/\tn i s7.heap/\(∀b∈fp,H' b=none)/\W i m σ' H':=λ{σ7 H7} I7 n7=>by
   obtain⟨m',hm,w7⟩:=hN σ7 H7 n7;refine⟨m',hm,i+1,σ7,H7,I7.Qf,T.keep _ _ _ st5 λb hb o e=>(I7.pin (b,o) (List.mem_append_right _ (List.mem_append_right _ (uM hb e)))).1,λb hb=>?_,w7⟩;obtain⟨o,e,d⟩:=T.obj _ _ st5 b hb;exact(I7.pin (b,o) (List.mem_append_right _ (List.mem_append_right _ (uM hb e)))).2.1
  cases f with
  | next=>obtain⟨σ7,H7,I7,n7⟩:=q7;exact again I7 n7
  | cont=>obtain⟨σ7,H7,I7,n7⟩:=q7;exact again I7 n7
  | brk=>obtain⟨σ7,H7,I7,q7⟩:=q7;exact⟨σ7,H7,I7.Qf,q7⟩
  | ret v=>obtain⟨x7,σ7,H7,I7,r7,q7⟩:=q7;exact⟨x7,σ7,H7,I7.Qf,r7,q7⟩
end
theorem Zo6{K:aG}{a:AI}{xs:List V}{g:TG}{tb:TS}{D:Ends}{σ:St}{H:Hp}(Pv:Nat->ν)(h0:Pv 0 σ H)(hl:∀i σ H,i<=xs.length->Pv i σ H->bO K H a xs)
  (hs:∀i x σ H,xs[i]? =some x->Pv i σ H->g x σ H λσ2 H2=>tb { D with nx:=Pv (i+1),ct:=Pv (i+1),bk:=D.nx } σ2 H2) (hd:∀ σ H,Pv xs.length σ H->D.nx σ H):
  ∃W:Nat->Nat->ν,(∃m,W 0 m σ H)/\∀i m σ H,W i m σ H->
   ((Itl K a).stop i H/\D.nx σ H)\/((Itl K a).go i H/\∃N:ν,(∀ σ' H',N σ' H'->∃m',m'<m/\W (i+1) m' σ' H')/\∀x H',(Itl K a).yld i H x H'->g x σ H' λσ2 H2=>tb { D with nx:=N,ct:=N,bk:=D.nx } σ2 H2):=by
 refine⟨λi m σ H=>m=xs.length - i/\i<=xs.length/\Pv i σ H,⟨xs.length,ζ,Nat.zero_le _,h0⟩,?_⟩;rintro i m σ H ⟨rfl,hi,p⟩;have q:=hl i σ H hi p
 by_cases hlt:i<xs.length
 ·refine .inr ⟨⟨xs,xs[i],q,by simp[hlt]⟩,Pv (i+1),λσ' H' p'=>⟨xs.length - (i+1),δ,rfl,hlt,p'⟩,λx H' y=>?_⟩;obtain⟨e,y⟩:=y;subst e;exact hs i x σ _ (y xs q) p
 ·have e:i=xs.length:=δ
  subst e;exact .inl ⟨⟨xs,q,Nat.le_refl _⟩,hd σ H p⟩
theorem Zko{lo:Int}{n:Nat}{g:TG}{tb:TS}{D:Ends}{σ:St}{H:Hp}(Pv:Nat->ν)(h0:Pv 0 σ H)
  (hs:∀i σ H,i<n->Pv i σ H->g (.int (lo+i)) σ H λσ2 H2=>tb { D with nx:=Pv (i+1),ct:=Pv (i+1),bk:=D.nx } σ2 H2) (hd:∀ σ H,Pv n σ H->D.nx σ H):
  ∃W:Nat->Nat->ν,(∃m,W 0 m σ H)/\∀i m σ H,W i m σ H->
   ((Itr lo n).stop i H/\D.nx σ H)\/((Itr lo n).go i H/\∃N:ν,(∀ σ' H',N σ' H'->∃m',m'<m/\W (i+1) m' σ' H')/\∀x H',(Itr lo n).yld i H x H'->g x σ H' λσ2 H2=>tb { D with nx:=N,ct:=N,bk:=D.nx } σ2 H2):=by
 refine⟨λi m σ H=>m=n - i/\i<=n/\Pv i σ H,⟨n,ζ,Nat.zero_le _,h0⟩,?_⟩;rintro i m σ H ⟨rfl,hi,p⟩
 by_cases hlt:i<n
 ·refine .inr ⟨hlt,Pv (i+1),λσ' H' p'=>⟨n - (i+1),δ,rfl,hlt,p'⟩,λx H' y=>?_⟩;obtain⟨e,y⟩:=y;subst e y;exact hs i σ _ hlt p
 ·have e:i=n:=δ
  subst e;exact .inl ⟨Nat.le_refl _,hd σ H p⟩
abbrev R2:=V->V->Hp->VK->Prop
def yJ(X:Cx)(f:AJ->AJ->Sem AJ)(r:R2):Prop:=
 ∀(pins:At) (s:AK) (σ:St) (H:Hp) (x y:V) (v u:AJ) (Q:VK),Inv X pins σ H s->RelV x v->RelV y u->r x y H Q->
  wpAny ς X.A (f v u) (EP X pins σ Q) X.xe s
def UnR(X:Cx)(f:AJ->Sem AJ)(r:V->Hp->VK->Prop):Prop:=
 ∀(pins:At) (s:AK) (σ:St) (H:Hp) (x:V) (v:AJ) (Q:VK),Inv X pins σ H s->RelV x v->r x H Q->
  wpAny ς X.A (f v) (EP X pins σ Q) X.xe s
def Ks(X:Cx)(f:AJ)(r:List V->Hp->VK->Prop):Prop:=
 ∀(pins:At) (s:AK) (σ:St) (H:Hp) (xs:List V) (us:AC) (Q:VK),Inv X pins σ H s->Vals xs us->r xs H Q->
  wpAny ς X.A (call f us) (EP X pins σ Q) X.xe s
def ZCz(X:Cx)(r:V->Hp->(Bool->Hp->Prop)->Prop):Prop:=
 ∀(pins:At) (s:AK) (σ:St) (H:Hp) (x:V) (v:AJ) (Q:Bool->Hp->Prop),Inv X pins σ H s->RelV x v->r x H Q->
  wpAny ς X.A (truthy v) (TP X pins σ Q) X.xe s
def aZ(r:R2)(ta tb:TE):TE:=λσ H Q=>ta σ H λx H1=>tb σ H1 λy H2=>r x y H2 Q
def Ub(r:V->Hp->VK->Prop)(ta:TE):TE:=λσ H Q=>ta σ H λx H1=>r x H1 Q
def rI(C:Int->Int->Prop)(g:Int->Int->V):R2:=λx y H Q=>∃i j,x=.int i/\y=.int j/\C i j/\Q (g i j) H
def lK(g:Int->Int->V):R2:=λx y H Q=>∃i j,x=.int i/\y=.int j/\Q (g i j) H
def rU(g:Int->V):V->Hp->VK->Prop:=λx H Q=>∃i,x=.int i/\Q (g i) H
section
variable {X:Cx}{a b c:AN}{ta tb tc:TE}{pos:Pos}
theorem Zun(ha:PE X a ta)(hb:PE X b tb){pins:At}{s:AK}{σ:St}{H:Hp}{R:V->V->Hp->Prop}(I:Inv X pins σ H s)
  (h:ta σ H λx H1=>tb σ H1 λy H2=>R x y H2) {Q:Ap}{f:AJ->AJ->Sem AJ}
  (hf:∀v u s2 x y H2,Inv X pins σ H2 s2->RelV x v->RelV y u->R x y H2->wpAny ς X.A (f v u) Q X.xe s2):
  wpAny ς X.A (eval a X.env) (λv s₁=>wpAny ς X.A (eval b X.env) (λu s₂=>wpAny ς X.A (f v u) Q X.xe s₂) X.xe s₁) X.xe s:=by
 refine gB (ha pins s σ H _ I h) λv s1 qc=>?_;obtain⟨x,H1,I1,r1,q1⟩:=qc;refine gB (hb pins s1 σ H1 _ I1 q1) λu s2 qc=>?_;obtain⟨y,H2,I2,r2,q2⟩:=qc;exact hf v u s2 x y H2 I2 r1 r2 q2
theorem aW{op:Operator}{r:R2}(ho:yJ X (binaryOp op) r)(ha:PE X a ta)(hb:PE X b tb):PE X (.BinOp a op b pos) (aZ r ta tb):=by
 intro pins s σ H Q I h;exact wpAny_BinOp (Zun ha hb I h λv u s2 x y H2 I2 rx ry q=>ho pins s2 σ H2 x y v u Q I2 rx ry q)
theorem xR{op:UnaryOp}{r:V->Hp->VK->Prop}(ho:UnR X (unaryOp op) r)(ha:PE X a ta):PE X (.UnaryOp op a pos) (Ub r ta):=by
 intro pins s σ H Q I h;exact UnaryOp_ (gB (ha pins s σ H _ I h) (by rintro v s1 ⟨x,H1,I1,r1,q1⟩;exact ho pins s1 σ H1 x v Q I1 r1 q1))
theorem opI{f:AJ->AJ->Sem AJ}{C:Int->Int->Prop}{g:Int->Int->Int}
  (rule:∀(i j:Int) (t u:Tok) (s:AK) (Q:Ap) (E:Ap),C i j->Q (.int (g i j) s.toks) { s with toks:=s.toks+1 }->wpAny ς X.A (f (.int i t) (.int j u)) Q E s):
  yJ X f (rI C λi j=>.int (g i j)):=by
 intro pins s σ H x y v u Q I rx ry h;obtain⟨i,j,rfl,rfl,hc,q⟩:=h;obtain⟨t,rfl⟩:=rx;obtain⟨t',rfl⟩:=ry;exact rule i j t t' s _ _ hc ⟨.int (g i j),H,I.tok _,⟨_,rfl⟩,q⟩
theorem Zpv{f:AJ->AJ->Sem AJ}{g:Int->Int->Int}
  (rule:∀(i j:Int) (t u:Tok) (s:AK) (Q:Ap) (E:Ap),Q (.int (g i j) s.toks) { s with toks:=s.toks+1 }->wpAny ς X.A (f (.int i t) (.int j u)) Q E s):
  yJ X f (lK λi j=>.int (g i j)):=by
 intro pins s σ H x y v u Q I rx ry h;obtain⟨i,j,rfl,rfl,q⟩:=h;obtain⟨t,rfl⟩:=rx;obtain⟨t',rfl⟩:=ry;exact rule i j t t' s _ _ ⟨.int (g i j),H,I.tok _,⟨_,rfl⟩,q⟩
theorem Zpw{f:AJ->AJ->Sem AJ}{g:Int->Int->Bool}
  (rule:∀(i j:Int) (t u:Tok) (s:AK) (Q:Ap) (E:Ap),Q (.bool (g i j)) s->wpAny ς X.A (f (.int i t) (.int j u)) Q E s):
  yJ X f (lK λi j=>.bl (g i j)):=by
 intro pins s σ H x y v u Q I rx ry h;obtain⟨i,j,rfl,rfl,q⟩:=h;obtain⟨t,rfl⟩:=rx;obtain⟨t',rfl⟩:=ry;exact rule i j t t' s _ _ ⟨.bl (g i j),H,I,rfl,q⟩
def Ba(i j:Int):Prop:=0<j/\j<1073741824
def Tz(i j:Int):Prop:=0<=j/\j<=1000000/\i.natAbs<2 ^ 64
def FN(i j:Int):Prop:=(-(2 ^ 64)<i/\i<2 ^ 64)\/(-(2 ^ 64)<j/\j<2 ^ 64)
theorem FN.ok{i j:Int}(h:FN i j):IntMulOk i j:=by
 rcases h with ⟨h1,h2⟩ | ⟨h1,h2⟩
 ·exact .of_left (intBits_le_64 h1 h2)
 ·exact .of_right (intBits_le_64 h1 h2)
theorem Zed(k:Nat):(0:Int)<=2 ^ k:=by
 rw[two_pow_cast];exact Int.natCast_nonneg _
theorem fP:yJ X (binaryOp .Add) Θ:=Zpv λ_ _ _ _ _ _ _ q=>add_int q
theorem Dc:yJ X (binaryOp .Sub) (lK λi j=>.int (i - j)):=Zpv λ_ _ _ _ _ _ _ q=>sub_int q
theorem uJ:yJ X (binaryOp .Mult) (rI FN λi j=>.int (i * j)):=opI λ_ _ _ _ _ _ _ hc q=>mul_int q hc.ok
theorem gW:yJ X (binaryOp .FloorDiv) ae:=opI λi j _ _ _ _ _ hc q=>by
 have h1:(0:Int)<j:=hc.1;have h2:j<1073741824:=hc.2;exact floordiv_int δ (by rw[Int.fdiv_eq_ediv_of_nonneg i δ];exact q) (.inl (PyProof.noPylong_small δ))
theorem cR:yJ X (binaryOp .Mod) ο:=opI λi j _ _ _ _ _ hc q=>by
 have h1:(0:Int)<j:=hc;exact mod_int' δ (by rw[Int.fmod_eq_emod_of_nonneg i δ];exact q)
theorem Lx:yJ X (binaryOp .Pow) (rI Tz λi j=>.int (i ^ j.toNat)):=opI λ_ _ _ _ _ _ _ hc q=>pow_int_small hc.1 hc.2.1 hc.2.2 q
theorem Zme:yJ X (binaryOp .LShift) (rI Tz λi j=>.int (i * 2 ^ j.toNat)):=opI λ_ _ _ _ _ _ _ hc q=>lshift_int_small hc.1 hc.2.1 hc.2.2 q
theorem Zfv:yJ X (binaryOp .RShift) (rI (λ_ j=>0<=j) λi j=>.int (i / 2 ^ j.toNat)):=opI λi j _ _ _ _ _ hc q=>
 rshift_int hc (by rw[Int.fdiv_eq_ediv_of_nonneg i (Zed _)];exact q)
theorem Q9:yJ X (binaryOp .BitAnd) (lK λi j=>.int (Builtin.bitAnd i j)):=Zpv λ_ _ _ _ _ _ _ q=>and_int q
theorem Zva:yJ X (binaryOp .BitOr) (lK λi j=>.int (Builtin.bitOr i j)):=Zpv λ_ _ _ _ _ _ _ q=>or_int q
theorem unI{f:AJ->Sem AJ}{g:Int->Int}
  (rule:∀(i:Int) (t:Tok) (s:AK) (Q:Ap) (E:Ap),Q (.int (g i) s.toks) { s with toks:=s.toks+1 }->wpAny ς X.A (f (.int i t)) Q E s):
  UnR X f (rU λi=>.int (g i)):=by
 intro pins s σ H x v Q I rx h;obtain⟨i,rfl,q⟩:=h;obtain⟨t,rfl⟩:=rx;exact rule i t s _ _ ⟨.int (g i),H,I.tok _,⟨_,rfl⟩,q⟩
theorem pL:UnR X (unaryOp .USub) (rU λi=>.int (-i)):=unI λ_ _ _ _ _ q=>neg_int q
end
def Zv3:V->V->Bool
 | .non,.non=>true | .non,.int _=>true | .int _,.non=>true | .non,.bl _=>true | .bl _,.non=>true | .non,.str _=>true | .str _,.non=>true
 | .int _,.int _=>true | .bl _,.bl _=>true | .str _,.str _=>true | .byt _,.byt _=>true
 | .int _,.str _=>true | .str _,.int _=>true | .bl _,.str _=>true | .str _,.bl _=>true
 | _,_=>false
def Fq:R2:=λx y H Q=>Zv3 x y=true/\Q (.bl (decide (x=y))) H
def rNe:R2:=λx y H Q=>Zv3 x y=true/\Q (.bl (!decide (x=y))) H
theorem Zis{i j:Int}:decide (V.int i=V.int j)=(i == j):=by
 rw[Bool.eq_iff_iff];simp
theorem Zoo{i j:Bool}:decide (V.bl i=V.bl j)=(i == j):=by
 rw[Bool.eq_iff_iff];simp
theorem Zir{i j:Str}:decide (V.str i=V.str j)=(i == j):=by
 rw[Bool.eq_iff_iff];simp
theorem Zit{i j:Array UInt8}:decide (V.byt i=V.byt j)=(i.toList == j.toList):=by
 rw[Bool.eq_iff_iff];cases i;cases j;simp
section
variable {X:Cx}{a b c:AN}{ta tb tc:TE}{pos:Pos}
theorem cV{pins:At}{σ:St}{H:Hp}{s:AK}{Q:VK}{k k':Bool}(I:Inv X pins σ H s)(q:Q (.bl k) H)(e:k=k'):EP X pins σ Q (.bool k') s:=by
 subst e;exact⟨.bl k,H,I,rfl,q⟩
theorem iw:yJ X (compareOp .Eq) Fq:=by
 intro pins s σ H x y v u Q I rx ry h;obtain⟨hs,q⟩:=h;cases x with
 | non=>
  cases rx;cases y with
  | non=>cases ry;exact PySem.EqNone.eq_none_none (cV I q ζ)
  | bl j=>cases ry;exact PySem.EqNone.eq_none_bool (cV I q ζ)
  | int j=>obtain⟨t',rfl⟩:=ry;exact PySem.EqNone.eq_none_int (cV I q ζ)
  | str j=>obtain⟨t',rfl⟩:=ry;exact PySem.EqNone.eq_none_str (cV I q ζ)
  | _=>exact absurd (show false=true from hs) Bool.false_ne_true
 | bl i=>
  cases rx;cases y with
  | non=>cases ry;exact PySem.EqNone.eq_bool_none (cV I q ζ)
  | bl j=>cases ry;exact eq_bool (cV I q Zoo)
  | str j=>obtain⟨t',rfl⟩:=ry;exact PySem.EqMixed.eq_bool_str (cV I q ζ)
  | _=>exact absurd (show false=true from hs) Bool.false_ne_true
 | int i=>
  obtain⟨t,rfl⟩:=rx;cases y with
  | non=>cases ry;exact PySem.EqNone.eq_int_none (cV I q ζ)
  | int j=>obtain⟨t',rfl⟩:=ry;exact eq_int (cV I q Zis)
  | str j=>obtain⟨t',rfl⟩:=ry;exact PySem.EqMixed.eq_int_str (cV I q ζ)
  | _=>exact absurd (show false=true from hs) Bool.false_ne_true
 | str i=>
  obtain⟨t,rfl⟩:=rx;cases y with
  | non=>cases ry;exact PySem.EqNone.eq_str_none (cV I q ζ)
  | bl j=>cases ry;exact PySem.EqMixed.eq_str_bool (cV I q ζ)
  | int j=>obtain⟨t',rfl⟩:=ry;exact PySem.EqMixed.eq_str_int (cV I q ζ)
  | str j=>obtain⟨t',rfl⟩:=ry;exact eq_str (cV I q Zir)
  | _=>exact absurd (show false=true from hs) Bool.false_ne_true
 | byt i=>
  obtain⟨t,rfl⟩:=rx;cases y with
  | byt j=>obtain⟨t',rfl⟩:=ry;exact W.eq_bytes (cV I q Zit)
  | _=>exact absurd (show false=true from hs) Bool.false_ne_true
 | _=>cases y<;>exact absurd (show false=true from hs) Bool.false_ne_true
theorem W2:yJ X (compareOp .NotEq) rNe:=by
 intro pins s σ H x y v u Q I rx ry h;obtain⟨hs,q⟩:=h;cases x with
 | non=>
  cases rx;cases y with
  | non=>cases ry;exact PySem.EqNone.ne_none_none (cV I q ζ)
  | bl j=>cases ry;exact PySem.EqNone.ne_none_bool (cV I q ζ)
  | int j=>obtain⟨t',rfl⟩:=ry;exact PySem.EqNone.ne_none_int (cV I q ζ)
  | str j=>obtain⟨t',rfl⟩:=ry;exact PySem.EqNone.ne_none_str (cV I q ζ)
  | _=>exact absurd (show false=true from hs) Bool.false_ne_true
 | bl i=>
  cases rx;cases y with
  | non=>cases ry;exact PySem.EqNone.ne_bool_none (cV I q ζ)
  | bl j=>cases ry;exact ne_bool (cV I q (congrArg not Zoo))
  | str j=>obtain⟨t',rfl⟩:=ry;exact PySem.EqMixed.ne_bool_str (cV I q ζ)
  | _=>exact absurd (show false=true from hs) Bool.false_ne_true
 | int i=>
  obtain⟨t,rfl⟩:=rx;cases y with
  | non=>cases ry;exact PySem.EqNone.ne_int_none (cV I q ζ)
  | int j=>obtain⟨t',rfl⟩:=ry;exact ne_int (cV I q (congrArg not Zis))
  | str j=>obtain⟨t',rfl⟩:=ry;exact PySem.EqMixed.ne_int_str (cV I q ζ)
  | _=>exact absurd (show false=true from hs) Bool.false_ne_true
 | str i=>
  obtain⟨t,rfl⟩:=rx;cases y with
  | non=>cases ry;exact PySem.EqNone.ne_str_none (cV I q ζ)
  | bl j=>cases ry;exact PySem.EqMixed.ne_str_bool (cV I q ζ)
  | int j=>obtain⟨t',rfl⟩:=ry;exact PySem.EqMixed.ne_str_int (cV I q ζ)
  | str j=>obtain⟨t',rfl⟩:=ry;exact ne_str (cV I q (congrArg not Zir))
  | _=>exact absurd (show false=true from hs) Bool.false_ne_true
 | byt i=>
  obtain⟨t,rfl⟩:=rx;cases y with
  | byt j=>obtain⟨t',rfl⟩:=ry;exact W.ne_bytes (cV I q (congrArg not Zit))
  | _=>exact absurd (show false=true from hs) Bool.false_ne_true
 | _=>cases y<;>exact absurd (show false=true from hs) Bool.false_ne_true
theorem Jv:yJ X (compareOp .Lt) (lK λi j=>.bl (decide (i<j))):=Zpw λ_ _ _ _ _ _ _ q=>lt_int q
theorem Zvb:yJ X (compareOp .LtE) (lK λi j=>.bl (decide (i<=j))):=Zpw λ_ _ _ _ _ _ _ q=>le_int q
theorem Zc7:yJ X (compareOp .Gt) (lK λi j=>.bl (decide (j<i))):=Zpw λ_ _ _ _ _ _ _ q=>gt_int q
theorem Zro:yJ X (compareOp .GtE) (lK λi j=>.bl (decide (j<=i))):=Zpw λ_ _ _ _ _ _ _ q=>ge_int q
theorem Zss:yJ X (compareOp .Is) (λx y H Q=>y=.non/\Q (.bl (decide (x=.non))) H):=by
 intro pins s σ H x y v u Q I rx ry h;obtain⟨rfl,q⟩:=h;cases ry;refine is_none_gen (cV I q ?_);cases x<;>first
  | (cases rx;rfl)
  | (obtain⟨t,rfl⟩:=rx;rfl)
theorem Zps:yJ X (compareOp .IsNot) (λx y H Q=>y=.non/\Q (.bl (!decide (x=.non))) H):=by
 intro pins s σ H x y v u Q I rx ry h;obtain⟨rfl,q⟩:=h;cases ry;refine isnot_none_gen (cV I q ?_);cases x<;>first
  | (cases rx;rfl)
  | (obtain⟨t,rfl⟩:=rx;rfl)
def isObj:HO->Bool
 | .lst _=>true
 | .ins _ _ _=>true
 | _=>false
theorem Lz{pins:At}{s:AK}{σ:St}{H:Hp}{a:AI}{o:HO}(I:Inv X pins σ H s)(h:H a=some o)(p:isObj o=true):∃ob,s.heap.get? a=some ob/\ob.cls≠.type "tuple":=by
 cases o with
 | lst xs=>
  obtain⟨_,its,n,_,e⟩:xs.length<=sizeLine/\∃(its:AC) (n:Nat),Vals xs its/\s.heap.get? a=some { cls:=.type "list",data:=.seq its.toArray n }:=I.hok a _ h;exact⟨_,e,(by show Value.type "list"≠.type "tuple";decide +kernel)⟩
 | ins C dx fs=>
  have x:=I.hok a _ h;obtain⟨_,_,_,e,_⟩:=x;exact⟨_,e,(by show Value.ref C≠.type "tuple";exact λz=>by cases z)⟩
 | _=>exact absurd (show false=true from p) Bool.false_ne_true
theorem lU(b:AN){op:CmpOp}(h:op≠.In:=by decide)(h2:op≠.NotIn:=by decide):behindInMarks op b=false:=by
 have e1:(op == CmpOp.In)=false:=by cases op<;>first | rfl | exact absurd rfl h
 have e2:(op == CmpOp.NotIn)=false:=by cases op<;>first | rfl | exact absurd rfl h2
 cases b<;>simp[behindInMarks,e1,e2]
theorem iB{op:CmpOp}{r:R2}(ho:yJ X (compareOp op) r)(ha:PE X a ta)(hb:PE X b tb)(hm:behindInMarks op b=false):PE X (.Compare a [op] [b] pos) (aZ r ta tb):=by
 intro pins s σ H Q I h;exact wpAny_Compare1 (Zun ha hb I h λv u s2 x y H2 I2 rx ry q=>ho pins s2 σ H2 x y v u Q I2 rx ry q) hm
def bV(t:TE):TT:=λσ H Q=>t σ H λx H'=>∃k,x=.bl k/\Q k H'
theorem Zpk{op:CmpOp}{r:R2}(ho:yJ X (compareOp op) r)(ha:PE X a ta)(hb:PE X b tb)(hm:behindInMarks op b=false):PT X (.Compare a [op] [b] pos) (bV (aZ r ta tb)):=by
 intro pins s σ H Q I h;refine wpAny_isTrue_Compare1 (gB (ha pins s σ H _ I h) λv s1 ⟨x,H1,I1,r1,q1⟩=>gB (hb pins s1 σ H1 _ I1 q1) λu s2 ⟨y,H2,I2,r2,q2⟩=>
  gB (ho pins s2 σ H2 x y v u _ I2 r1 r2 q2) λc s3 ⟨z,H3,I3,r3,k,e,q3⟩=>?_) hm
 subst e;cases r3;exact wpAny_truthy_bool ⟨H3,I3,q3⟩
def Zel(r r':R2)(ta tb tc:TE):TE:=λσ H Q=>ta σ H λx H1=>tb σ H1 λy H2=>r x y H2 λz H3=>∃k,z=.bl k/\
 (if k=true then tc σ H3 λw' H4=>r' y w' H4 Q else Q (.bl false) H3)
theorem Zma{op op':CmpOp}{r r':R2}(ho:yJ X (compareOp op) r)(ho':yJ X (compareOp op') r')(ha:PE X a ta)(hb:PE X b tb)(hc:PE X c tc)
  (hm:lastMarks [op,op'] [b,c]=false:=by with_unfolding_all rfl):PE X (.Compare a [op,op'] [b,c] pos) (Zel r r' ta tb tc):=by
 intro pins s σ H Q I h;refine Compare_chain (gB (ha pins s σ H _ I h) λv s1 ⟨x,H1,I1,r1,q1⟩=>chain_link (gB (hb pins s1 σ H1 _ I1 q1) λu s2 ⟨y,H2,I2,r2,q2⟩=>
  gB (ho pins s2 σ H2 x y v u _ I2 r1 r2 q2) λd s3 ⟨z,H3,I3,r3,k,e,q3⟩=>?_)) hm
 subst e;cases r3;refine wpAny_truthy_bool ?_;cases k with
 | false=>exact ite_ff ⟨.bl false,H3,I3,rfl,q3⟩
 | true=>exact ite_tt (chain_last (gB (hc pins s3 σ H3 _ I3 q3) (by rintro w' s4 ⟨z',H4,I4,r4,q4⟩;exact ho' pins s4 σ H4 y z' u w' Q I4 r2 r4 q4)))
def Zou(K:aG)(x:V)(H:Hp)(k:Bool):Prop:=
 match x with
 | .non=>k=false
 | .bl b=>k=b
 | .int i=>k=(i != 0)
 | .str y=>y.length<=sizeLine/\k=((y.length:Int) != 0)
 | .byt y=>y.size<=sizeLine/\k=((y.size:Int) != 0)
 | .ref p=>(∃xs,bO K H p xs/\k=!xs.isEmpty)\/(∃xs,fc K H p xs/\k=!xs.isEmpty)\/∃kvs,H p=some (.dK kvs)/\k=!kvs.isEmpty
 | _=>False
theorem Zgj{κ:Type}{kvs:List (κ×V)}{vs:List (κ×AJ)}(r:KV kvs vs):(!vs.isEmpty)=!kvs.isEmpty:=by
 cases r<;>rfl
theorem R1{xs:List V}{its:AC}(r:Vals xs its):(!its.toArray.isEmpty)=!xs.isEmpty:=by
 cases r<;>simp
theorem Mq:(sizeLine:Nat)<2 ^ 63:=by rw[sizeLine_eq];decide
theorem Zs9:ZCz X (λx H Q=>∃k,Zou X.K x H k/\Q k H):=by
 intro pins s σ H x v Q I rx h;obtain⟨k,e,q⟩:=h;have hl:=Mq;have hs:sizeLine=16777216:=sizeLine_eq;cases x with
 | non=>
  cases rx;have e':k=false:=e;subst e';exact truthy_none ⟨H,I,q⟩
 | bl b=>
  cases rx;have e':k=b:=e;subst e';exact wpAny_truthy_bool ⟨H,I,q⟩
 | int i=>
  obtain⟨t,rfl⟩:=rx;have e':k=(i != 0):=e;subst e';exact PySem.P.truthy_int ⟨H,I,q⟩
 | str y=>
  obtain⟨t,rfl⟩:=rx;obtain⟨hy,e'⟩:y.length<=sizeLine/\k=((y.length:Int) != 0):=e;subst e';exact PySem.P.truthy_str δ ⟨H,I.tok _,q⟩
 | byt y=>
  obtain⟨t,rfl⟩:=rx;obtain⟨hy,e'⟩:y.size<=sizeLine/\k=((y.size:Int) != 0):=e;subst e';exact W.truthy_bytes δ ⟨H,I.tok _,q⟩
 | ref p=>
  cases rx;have e':(∃xs,bO X.K H p xs/\k=!xs.isEmpty)\/(∃xs,fc X.K H p xs/\k=!xs.isEmpty)\/∃kvs,H p=some (.dK kvs)/\k=!kvs.isEmpty:=e;rcases e' with ⟨xs,hx,e'⟩ | ⟨xs,hx,e'⟩ | ⟨kvs,hx,e'⟩
  ·subst e';obtain⟨its,r,pl,hz⟩:=I.list hx;have hlen:=r.length;exact wpAny_truthy_list pl.isList (by simp only[List.size_toArray];omega) ⟨H,I.tok _,by rw[R1 r];exact q⟩
  ·subst e';obtain⟨its,r,pl,hz⟩:=I.tuple hx;have hlen:=r.length;exact truthy_tuple pl (by simp only[List.size_toArray];omega) ⟨H,I.tok _,by rw[R1 r];exact q⟩
  ·subst e';obtain⟨hz,hS,vs,r,m⟩:kvs.length<=sizeLine/\(p == sysModules)=false/\∃vs,KV kvs vs/\s.heap.DictOf (dH X.prog X.w) p vs:=I.hok p _ hx;have hlen:kvs.length=vs.length:=Paired.length r;exact wpAny_truthy_dict hS m δ ⟨H,I.tok _,by rw[Zgj r];exact q⟩
 | _=>exact(show False from e).elim
theorem Zbz(ha:PE X a ta)(he:∀whole,isTrue a X.env whole=(do let v <- whole;standAt a.pos;holding [v] (truthy v))):
  PT X a (λσ H Q=>ta σ H λx H'=>∃k,Zou X.K x H' k/\Q k H'):=by
 intro pins s σ H Q I h;exact isTrue_plain (gB (ha pins s σ H _ I h) (by rintro v s1 ⟨x,H1,I1,r1,q1⟩;exact Zs9 pins s1 σ H1 x v Q I1 r1 q1)) (he _)
theorem zU:yJ X (binaryOp .Add) (λx y H Q=>∃i j,x=.str i/\y=.str j/\i.length+j.length<=sizeLine/\Q (.str (i++j)) H):=by
 intro pins s σ H x y v u Q I rx ry h;obtain⟨i,j,rfl,rfl,hz,q⟩:=h;obtain⟨t,rfl⟩:=rx;obtain⟨t',rfl⟩:=ry;exact add_str (λt' tk=>⟨.str (i++j),H,I.tok _,⟨_,rfl⟩,q⟩) hz
theorem vals1{x:V}{us:AC}(r:Vals [x] us):∃u,us=[u]/\RelV x u:=by
 cases r with
 | cons r1 r2=>cases r2;exact⟨_,rfl,r1⟩
theorem vals2{x y:V}{us:AC}(r:Vals [x,y] us):∃u w',us=[u,w']/\RelV x u/\RelV y w':=by
 cases r with
 | cons r1 r2=>
  cases r2 with
  | cons r3 r4=>cases r4;exact⟨_,_,rfl,r1,r3⟩
end
structure Zhm(h:Heap)(x dx C:AI)(mA:As):Prop where
 obj:h.get? x=some (W.instObj C dx)
 ns:h.Ns1 dx mA
 ne:dx≠x
theorem Zk0{h:Heap}{dx:AI}{mA:As}(n:h.Ns1 dx mA):∃od,h.get? dx=some od/\∀name,W.lookIn name od=some (mA name):=by
 obtain⟨o,es,ep,ho,hd,hk,_,hm⟩:=n;refine⟨o,ho,λname=>?_⟩;have e:=hm name;unfold nsFind findBy at e;rw[<- Array.find?_toList]at e;unfold W.lookIn;rw[hd];dsimp only;split
 ·rename_i y q
  rw[q]at e;exact congrArg some e
 ·rename_i q
  rw[q]at e;have a:es.toList.any (·.refKey)=false:=by
   rw[List.any_eq_false];intro y hy;obtain⟨z,t,hkey⟩:=hk y (Array.mem_toList_iff.mp hy);simp[DictEntry.refKey,hkey]
  have a':¬ es.toList.any (·.refKey)=true:=by rw[a];exact Bool.false_ne_true
  rw[if_neg a'];exact congrArg some e
theorem Zhm.look{h:Heap}{x dx C:AI}{mA:As}(I:Zhm h x dx C mA):∃od,W.InstAt h x (W.instObj C dx) C (some od)/\∀name,W.lookIn name od=some (mA name):=
 let ⟨od,ho,hl⟩:=Zk0 I.ns
 ⟨od,⟨I.obj,rfl,rfl,ho⟩,hl⟩
section
variable {prog:AM}{w:AO}{A:Around}{E:Ap}{s:AK}{K:aG}{x dx C f:AI}{mA:As}{name:Str}{v:AJ}
theorem get_map{expr:Bool}{Q:Ap}(X:K.In s.heap)(I:Zhm s.heap x dx C mA)(hg:W.plainGet K C name=true)(hh:W.hasDictIn K C=true)
  (ha:W.findIn K (.ref C) name=some none) (hv:mA name=some v) (hv':W.handedIn v=true) (h:Q v { s with toks:=s.toks+1 }):
  wpAny af A (getAttr (.ref x) name expr) Q E s:=by
 obtain⟨od,J,hl⟩:=I.look;exact W.get_value X J (W.plainGet_of hg).1 (W.findObj_own hh ha rfl (by rw[hl,hv])) hv' h
theorem Zo3{pl:Sem Bool}{Q:AJ×AC->AK->Prop}(X:K.In s.heap)(I:Zhm s.heap x dx C mA)(hg:W.plainGet K C name=true)
  (hf:W.findIn K (.ref C) name=some (↑f)) (ht:W.isFn K (.ref f)=true) (hv:mA name=none) (h:Q (.ref f,[.ref x]) s):
  wpAny af A (getMethod (.ref x) name pl) Q E s:=by
 obtain⟨od,J,hl⟩:=I.look;exact W.method_fn X J (W.plainGet_of hg).1 (W.plainGet_of hg).2 hf (beq_iff_eq.mp ht) (by show(W.lookIn name od).map (·.isSome)=some false;rw[hl,hv];rfl) h
theorem Zp9{ns:AH}{Q:Unit->AK->Prop}(X:K.In s.heap)(I:Zhm s.heap x dx C mA)
  (hs:W.findIn K (.ref C) "__setattr__"=some (some (.builtin "object.__setattr__"))) (hp:W.plainOver K C=true) (ht:W.takerIn K C name=some none) (hh:W.hasDictIn K C=true)
  (hw:PySem.Within mA ns) (hsz:ns.length<=sizeLine)
  (h:∀h',Zhm h' x dx C (λy=>if y=name then some v else mA y)->Heap.SameBut dx s.heap h'->Q () { s with heap:=h',toks:=s.toks+2 }):
  wpAny af A (setAttr (.ref x) name v) Q E s:=by
 obtain⟨od,J,hl⟩:=I.look;refine W.set_plain X J hs (W.osa_open (s:={ s with toks:=s.toks+1 }) (r:=none) X J hp ht λb=>?_);obtain⟨cd,hc,hd'⟩:=W.any_some hh;have hx:s.heap.get? x=some ⟨.ref C,some dx,.plain,#[]⟩:=I.obj;refine wpAny_bind (wpAny_pure (wpAny_bind (wpAny_bind (wpAny_loadPart hx (wpAny_bind (W.Looks.here (s:={ s with toks:=s.toks+1 }) (W.looks_clsIn X hc) ?_))))));rw[hd'];refine wpAny_pure (a:=some dx) (wpAny_bind (wpAny_pure (wpAny_bind ?_)));refine wpAny_nsSet1 (s:={ s with toks:=s.toks+1 }) I.ns λh' hn2 hs2=>?_;obtain⟨oD,esD,epD,hoD,hdD,hcD⟩:=hn2.count (PySem.Within.cons name v hw);refine wpAny_bind (wpAny_lookBehind hoD (by rw[hdD];exact pastItsLine_dict (Nat.le_trans hcD (by rw[List.length_cons];omega))) ?_);exact wpAny_pure (h _ ⟨(hs2.2 _ (Ne.symm I.ne)).trans I.obj,hn2,I.ne⟩ hs2)
theorem Zmz{R:Result->AK->Prop}{vs:AC}{kw:List (Str×AJ)}(X:K.In s.heap)(hm:W.makesIn K C=true)
  (hi:W.findIn K (.ref C) "__init__"=some (↑f)) (hf:W.typeIn K (.ref f)=some (.type "function"))
  (h:codeAny af (A.under (.builtin "type.__call__" ⟨.ref C::vs,kw⟩)) (.call (.ref f) ⟨.ref ai::vs,kw⟩) (W.InitBack ai R)
   { s with heap:=(s.heap.push W.emptyDict).push (W.instObj C s.heap.objs.size) }):
  codeAny af A (.call (.ref C) ⟨vs,kw⟩) R s:=by
 obtain⟨hh,g,d,t,os⟩:=s;exact W.make_core (W.makes_of X hm) (W.looks_findIn X hi) (λself=>W.bind_fn X self hf) (.inl rfl) h
theorem Zjx{R:Result->AK->Prop}(X:K.In s.heap)(hm:W.makesIn K C=true)
  (hi:W.findIn K (.ref C) "__init__"=some (some (.builtin "object.__init__")))
  (hb:∀self,W.Looks af s.heap (bindSpecial (.builtin "object.__init__") self) (.builtin "object.__init__",[self]))
  (h:codeAny af (A.under (.builtin "type.__call__" ⟨[.ref C],[]⟩)) (.call (.builtin "object.__init__") ⟨[.ref ai],[]⟩) (W.InitBack ai R)
   { s with heap:=(s.heap.push W.emptyDict).push (W.instObj C s.heap.objs.size) }):
  codeAny af A (.call (.ref C) ⟨[],[]⟩) R s:=by
 obtain⟨hh,g,d,t,os⟩:=s;exact W.make_core (W.makes_of X hm) (W.looks_findIn X hi) hb (.inr ⟨rfl,rfl⟩) h
end
def bR(f:Str)(v:V):List (Str×V)->List (Str×V)
 | []=>[(f,v)]
 | (g,x)::r=>if g=f then(g,v)::r else(g,x)::bR f v r
theorem Oc(f g:Str)(v:V):∀fs:List (Str×V),(bR f v fs).lookup g=if g=f then some v else fs.lookup g
 | []=>by
  show List.lookup g [(f,v)]=_
  by_cases h:g=f
  ·have hb:(g == f)=true:=beq_iff_eq.mpr h;simp only[List.lookup,hb,if_pos h]
  ·have hb:(g == f)=false:=beq_eq_false_iff_ne.mpr h;simp only[List.lookup,hb,if_neg h]
 | (k,x)::r=>by
  have ih:=Oc f g v r;rw[show bR f v ((k,x)::r)=(if k=f then(k,v)::r else(k,x)::bR f v r)from rfl]
  by_cases hk:k=f
  ·rw[if_pos hk]
   by_cases h:g=k
   ·have hb:(g == k)=true:=beq_iff_eq.mpr h;simp only[List.lookup,hb,if_pos (h.trans hk)]
   ·have hb:(g == k)=false:=beq_eq_false_iff_ne.mpr h;simp only[List.lookup,hb,if_neg (λe:g=f=>h (e.trans hk.symm))]
  ·rw[if_neg hk]
   by_cases h:g=k
   ·have hb:(g == k)=true:=beq_iff_eq.mpr h;simp only[List.lookup,hb,if_neg (λe:g=f=>hk (h.symm.trans e))]
   ·have hb:(g == k)=false:=beq_eq_false_iff_ne.mpr h;simp only[List.lookup,hb];exact ih
theorem Mw(f:Str)(v:V):∀fs:List (Str×V),f∈(bR f v fs).map (·.1)/\∀g,g∈fs.map (·.1)->g∈(bR f v fs).map (·.1)
 | []=>⟨by simp[bR],λg h=>by simp at h⟩
 | (k,x)::r=>by
  obtain⟨i1,i2⟩:=Mw f v r;rw[show bR f v ((k,x)::r)=(if k=f then(k,v)::r else(k,x)::bR f v r)from rfl]
  by_cases hk:k=f
  ·rw[if_pos hk];subst hk;exact⟨ζ,λg h=>by simpa using h⟩
  ·rw[if_neg hk];refine⟨?_,λg h=>?_⟩
   ·rw[List.map_cons];exact List.mem_cons_of_mem _ i1
   ·rw[List.map_cons]at h ⊢;rcases List.mem_cons.mp h with e | e
    ·exact List.mem_cons.mpr (.inl e)
    ·exact List.mem_cons_of_mem _ (i2 g e)
theorem Oh(f:Str)(v:V):∀fs:List (Str×V),(bR f v fs).length<=fs.length+1
 | []=>by simp[bR]
 | (k,x)::r=>by
  have ih:=Oh f v r;rw[show bR f v ((k,x)::r)=(if k=f then(k,v)::r else(k,x)::bR f v r)from rfl]
  by_cases hk:k=f
  ·rw[if_pos hk,List.length_cons,List.length_cons];omega
  ·rw[if_neg hk,List.length_cons,List.length_cons];omega
theorem Fy.some_of{v:V}{o:AB}(r:Fy (some v) o):∃u,o=some u/\RelV v u:=by
 cases o with
 | none=>exact(show False from r).elim
 | some u=>exact⟨u,rfl,r⟩
theorem Fy.none_of{o:AB}(r:Fy none o):o=none:=by
 cases o with
 | none=>rfl
 | some u=>exact(show False from r).elim
theorem Zkn{v:V}{u:AJ}(r:RelV v u):W.handedIn u=true:=by
 cases v with
 | non=>cases (show u=Value.none from r);rfl
 | bl b=>cases (show u=Value.bool b from r);rfl
 | int i=>obtain⟨t,e⟩:=(show ∃t,u=Value.int i t from r);cases e;rfl
 | str x=>obtain⟨t,e⟩:=(show ∃t,u=Value.str x t from r);cases e;rfl
 | byt b=>obtain⟨t,e⟩:=(show ∃t,u=Value.bytes b t from r);cases e;rfl
 | flt b=>obtain⟨t,e⟩:=(show ∃t,u=Value.float b t from r);cases e;rfl
 | ref a=>cases (show u=Value.ref a from r);rfl
 | ty n=>cases (show u=Value.type n from r);rfl
section
variable {P:AM}{w:AO}{H H':Hp}{h h':Heap}{a C dx:AI}{fs fs':List (Str×V)}
theorem PN(hok:Eo P w H h)(e:H a=some (.ins C dx fs)):∃mA,Zhm h a dx C mA/\(∀f,Fy (fs.lookup f) (mA f))/\PySem.Within mA (fs.map (·.1))/\fs.length<=1000/\H dx=some (.own a):=by
 obtain⟨d,z,ne,ob,mA,n,r,q⟩:=(show gj P w H h a (.ins C dx fs)from hok a _ e);exact⟨mA,⟨ob,n,ne⟩,r,q,z,d⟩
end
structure Er(K:aG)(C:AI):Prop where
 pg:W.plainGet K C Str.empty=true
 hd:W.hasDictIn K C=true
 po:W.plainOver K C=true
 sa:W.findIn K (.ref C) "__setattr__"=some (some (.builtin "object.__setattr__"))
theorem Er.get{K:aG}{C:AI}(c:Er K C)(f:Str):W.plainGet K C f=true:=c.pg
def bA(K:aG)(C:AI)(f:Str):Prop:=W.findIn K (.ref C) f=some none
theorem bA.taker{K:aG}{C:AI}{f:Str}(n:bA K C f):W.takerIn K C f=some none:=by
 unfold W.takerIn;rw[show W.findIn K (.ref C) f=some none from n];rfl
structure Con(K:aG)(C:AI)(f:Str)(v:V)(u:AJ):Prop where
 at_:W.findIn K (.ref C) f=some (some u)
 rel:RelV v u
 get:W.specialIn K u "__get__"=some none
 cp:W.copiedNames.contains f=false
structure Meth(K:aG)(C:AI)(m:Str)(f:AI):Prop where
 at_:W.findIn K (.ref C) m=some (↑f)
 fn:W.isFn K (.ref f)=true
 kp:W.keepIn K (.ref f)=true
section
variable {X:Cx}{pins:At}{σ:St}{H:Hp}{s:AK}{a C dx:AI}{fs:List (Str×V)}{f:Str}{v:V}{A:Around}{E:Ap}
theorem Zgo{b:Bool}{Q:Ap}(I:Inv X pins σ H s)(e:H a=some (.ins C dx fs))(c:Er X.K C)(n:bA X.K C f)(l:fs.lookup f=some v)
  (h:∀u s',Inv X pins σ H s'->RelV v u->Q u s'):wpAny ς A (getAttr (.ref a) f b) Q E s:=by
 obtain⟨mA,O,r,_,_,_⟩:=PN I.hok e;obtain⟨u,hu,ru⟩:=Fy.some_of (v:=v) (o:=mA f) (by rw[<- l];exact r f);exact get_map I.um O (c.get f) c.hd n hu (Zkn ru) (h u _ (I.tok _) ru)
theorem Ss{m:Str}{g:AI}{pl:Sem Bool}{Q:AJ×AC->AK->Prop}(I:Inv X pins σ H s)(e:H a=some (.ins C dx fs))(c:Er X.K C)(k:Meth X.K C m g)(l:fs.lookup m=none)
  (h:Q (.ref g,[.ref a]) s):wpAny ς A (getMethod (.ref a) m pl) Q E s:=by
 obtain⟨mA,O,r,_,_,_⟩:=PN I.hok e;have hn:mA m=none:=Fy.none_of (by rw[<- l];exact r m);exact Zo3 I.um O (c.get m) k.at_ k.fn hn h
theorem Zf0{y:V}{u:AJ}{Q:Unit->AK->Prop}(I:Inv X pins σ H s)(e:H a=some (.ins C dx fs))(c:Er X.K C)(n:bA X.K C f)(hl:fs.length<1000)(ry:RelV y u)
  (h:∀s',Inv X pins σ (upd H a (.ins C dx (bR f y fs))) s'->Q () s'):wpAny ς A (setAttr (.ref a) f u) Q E s:=by
 obtain⟨mA,O,r,wi,_,ho⟩:=PN I.hok e;have hz:(fs.map (·.1)).length<=sizeLine:=by rw[bx,sizeLine_eq];omega
 refine Zp9 I.um O c.sa c.po n.taker c.hd wi hz λh' O' sb=>h _ ?_;have hd:∃o,h'.get? dx=some o:=let ⟨o,_,_,e',_⟩:=O'.ns;⟨o,e'⟩
 refine I.write (x:=a) (e:=dx) (by rw[e];exact True.intro) (.inr ho) (λb q hb z=>(sb.2 b hb).trans z) hd ?_;refine⟨by rw[aB O.ne];exact ho,?_,O.ne,O'.obj,_,O'.ns,λg=>?_,λg hg=>?_⟩
 ·have:=Oh f y fs;omega
 ·show Fy ((bR f y fs).lookup g) (if g=f then some u else mA g);rw[Oc]
  by_cases q:g=f
  ·rw[if_pos q,if_pos q];exact ry
  ·rw[if_neg q,if_neg q];exact r g
 ·by_cases q:g=f
  ·rw[q];exact(Mw f y fs).1
  ·refine(Mw f y fs).2 g (wi g λz=>hg ?_);show(if g=f then some u else mA g)=none;rw[if_neg q];exact z
theorem Inv.made(I:Inv X pins σ H s):Inv X pins σ (upd (upd H s.heap.objs.size (.own ai)) ai (.ins C s.heap.objs.size []))
  { s with heap:=(s.heap.push W.emptyDict).push (W.instObj C s.heap.objs.size) }:=by
 have e1:(s.heap.push W.emptyDict).get? s.heap.objs.size=some W.emptyDict:=Heap.get?_push_size s.heap rfl;have e2:((s.heap.push W.emptyDict).push (W.instObj C s.heap.objs.size)).get? (s.heap.objs.size+1)=some (W.instObj C s.heap.objs.size):=by
  have:=Heap.get?_push_size (s.heap.push W.emptyDict) (o:=W.instObj C s.heap.objs.size) rfl
  rwa [Heap.size_push]at this
 have e3:(s.heap.push W.emptyDict).Ns s.heap.objs.size (λ_=>none):=⟨W.emptyDict,#[],_,e1,rfl,(λe he=>absurd he ζ),λ_=>rfl⟩;have I1:=I.laid (a:=s.heap.objs.size) (o:=.own ai) (h':=s.heap.push W.emptyDict) (t':=s.toks) (λb u q=>Heap.get?_push_of_some _ q) υ ⟨_,e1⟩;refine I1.laid (a:=s.heap.objs.size+1) (o:=.ins C s.heap.objs.size []) (t':=s.toks) (λb u q=>Heap.get?_push_of_some _ q) (Nat.le_of_eq (Heap.size_push _ _)) ?_;have ne:s.heap.objs.size≠s.heap.objs.size+1:=Nat.ne_of_lt (Nat.lt_succ_self _);refine⟨by rw[aB ne,ao],Nat.zero_le _,ne,e2,λ_=>none,(Heap.Ns1.of_empty e3).at λo q=>Heap.get?_push_of_some _ q,λ_=>True.intro,λy hy=>absurd rfl hy⟩
theorem Zr5{prog:AM}{w:AO}{env:Env}{e:AN}{f:Str}{pos:Pos}{s:AK}{Q:Ap}(hb:attributeBase e f env (eval e env)=eval e env)
  (h:wpAny af A (eval e env) (λo s₁=>wpAny af A (getAttr o f true) Q E s₁) E s):wpAny af A (eval (.Attribute e f pos) env) Q E s:=
 Attribute_any_ h (by rw[arm_eval_Attribute,hb])
end
def bD(K:aG)(ta:TE)(f:Str):TE:=λσ H Q=>ta σ H λx H1=>∃a C dx fs v,x=.ref a/\H1 a=some (.ins C dx fs)/\Er K C/\bA K C f/\fs.lookup f=some v/\Q v H1
def dW(K:aG)(ta tv:TE)(f:Str):TS:=λD σ H=>tv σ H λy H1=>ta σ H1 λx H2=>∃a C dx fs,x=.ref a/\H2 a=some (.ins C dx fs)/\Er K C/\bA K C f/\fs.length<1000/\
 D.nx σ (upd H2 a (.ins C dx (bR f y fs)))
section
variable {X:Cx}{o e value:AN}{f:Str}{pos pos' tpos:Pos}{ta tv:TE}
theorem aM(he:PE X e ta)(hb:attributeBase e f X.env (eval e X.env)=eval e X.env):PE X (.Attribute e f pos) (bD X.K ta f):=by
 intro pins s σ H Q I h;refine Zr5 hb (gB (he pins s σ H _ I h) λu s1 qc=>?_);obtain⟨x,H1,I1,rx,a,C,dx,fs,v,ex,ea,c,n,l,q⟩:=qc;subst ex;obtain rfl:u=Value.ref a:=rx;exact Zgo I1 ea c n l λu' s2 I2 ru=>⟨v,H1,I2,ru,q⟩
theorem bQ(ha:PE X o ta)(hv:PE X value tv)(hs:swapsWith value (some (.Attribute o f pos')) pos.line X.env=pure false):PS X (.Assign [.Attribute o f pos'] value pos) (dW X.K ta tv f):=by
 intro pins s σ H D I h;refine plainObj_wpAny_Assign_Attribute (gB (hv pins s σ H _ I h) λu s1 ⟨y,H1,I1,ry,q⟩=>gB (ha pins s1 σ H1 _ I1 q) λov s2 qc=>?_) hs;obtain⟨x,H2,I2,rx,a,C,dx,fs,ex,ea,c,n,l,q2⟩:=qc;subst ex;obtain rfl:ov=Value.ref a:=rx;exact Zf0 I2 ea c n l ry λs3 I3=>⟨σ,_,I3,q2⟩
end
section
variable {X:Cx}{pins:At}{σ:St}{H:Hp}{s:AK}{A:Around}{E:Ap}{Q:Ap}{c:AJ}{b:Bool}
inductive M7(K:aG)(H:Hp):V->AJ->Prop where
 | non:M7 K H .non (.type "NoneType")
 | bl (x:Bool):M7 K H (.bl x) (.type "bool")
 | int (i:Int):M7 K H (.int i) (.type "int")
 | str (x:Str):M7 K H (.str x) (.type "str")
 | flt (x:UInt64):M7 K H (.flt x) (.type "float")
 | lst {a:AI}{xs:List V} (e:H a=some (.lst xs)):M7 K H (.ref a) (.type "list")
 | yL {a:AI}{o:Obj}{xs:List V} (e:H a=some (.yL o (.lst xs))):M7 K H (.ref a) (.type "list")
 | tup {a:AI}{xs:List V} (e:H a=some (.tup xs)):M7 K H (.ref a) (.type "tuple")
 | dK {a:AI}{kvs:List (Key×V)} (e:H a=some (.dK kvs)):M7 K H (.ref a) (.type "dict")
 | dT {a:AI}{kvs:List (List Key×V)} (e:H a=some (.dT kvs)):M7 K H (.ref a) (.type "dict")
 | ins {a C dx:AI}{fs:List (Str×V)} (e:H a=some (.ins C dx fs)) (cl:Er K C) (ha:W.findIn K (.ref C) "__class__"=some (some (.builtin "object.__class__")))
   (hn:W.specialIn K (.builtin "object.__class__") "__get__"=some (some (.builtin "getset_descriptor.__get__"))) (htk:W.takesIn K (.builtin "object.__class__")=some true)
   (hm:W.mroIn K C (.type "object")=some true):M7 K H (.ref a) (.ref C)
theorem Zk3{x:V}{u t:AJ}(I:Inv X pins σ H s)(rx:RelV x u)(ty:M7 X.K H x t)(e:W.kitOne X.K t c=some b)(h:∀tk,Q (.bool b) { s with toks:=tk }):
  wpAny ς A (call (.builtin "isinstance") [u,c]) Q E s:=by
 cases ty with
 | non=>cases (show u=Value.none from rx);exact W.kia_one W.kitx_none I.um True.intro e (λz=>nomatch z) h
 | bl y=>cases (show u=Value.bool y from rx);exact W.kia_one W.kitx_bool I.um True.intro e (λz=>nomatch z) h
 | int i=>obtain⟨t,q⟩:=(show ∃t,u=Value.int i t from rx);cases q;exact W.kia_one W.kitx_int I.um True.intro e (λz=>nomatch z) h
 | str y=>obtain⟨t,q⟩:=(show ∃t,u=Value.str y t from rx);cases q;exact W.kia_one W.kitx_str I.um True.intro e (λz=>nomatch z) h
 | flt y=>obtain⟨t,q⟩:=(show ∃t,u=Value.float y t from rx);cases q;exact W.kia_one W.kitx_float I.um True.intro e (λz=>nomatch z) h
 | @lst a xs ea=>
  cases (show u=Value.ref a from rx);obtain⟨_,_,n,_,h1⟩:=(show gj X.prog X.w H s.heap a (.lst xs)from I.hok a _ ea);exact W.kia_one W.kitx_list I.um ⟨_,h1,rfl⟩ e (λz=>nomatch z) h
 | @yL a ob xs ea=>
  cases (show u=Value.ref a from rx);obtain⟨_,_,_,n,_,h1⟩:=(show gj X.prog X.w H s.heap a (.yL ob (.lst xs))from I.hok a _ ea);exact W.kia_one W.kitx_list I.um ⟨_,h1,rfl⟩ e (λz=>nomatch z) h
 | @tup a xs ea=>
  cases (show u=Value.ref a from rx);obtain⟨_,_,_,p⟩:=(show gj X.prog X.w H s.heap a (.tup xs)from I.hok a _ ea);obtain⟨o,h1,h2,_⟩:=p;exact W.kia_one W.kitx_tuple I.um ⟨o,h1,h2⟩ e (λz=>nomatch z) h
 | @dK a kvs ea=>
  cases (show u=Value.ref a from rx);obtain⟨_,_,vs,_,p⟩:=(show gj X.prog X.w H s.heap a (.dK kvs)from I.hok a _ ea);obtain⟨o,es,ep,h1,h2,_⟩:=p;exact W.kia_one W.kitx_dict I.um ⟨o,h1,h2.1⟩ e (λz=>nomatch z) h
 | @dT a kvs ea=>
  cases (show u=Value.ref a from rx);obtain⟨_,_,xs,_,o,es,ep,h1,h2,_⟩:=(show gj X.prog X.w H s.heap a (.dT kvs)from I.hok a _ ea);exact W.kia_one W.kitx_dict I.um ⟨o,h1,h2.1⟩ e (λz=>nomatch z) h
 | @ins a C dx fs ea cl ha hn htk hm=>
  cases (show u=Value.ref a from rx);obtain⟨mA,O,_⟩:=PN I.hok ea;obtain⟨od,J,_⟩:=O.look;exact W.kia_one (W.kitx_own (cl.get _) cl.hd ha hn htk hm) I.um J e (λz=>nomatch z) h
end
structure Room(k:Nat)(A:Around):Prop where
 hd:A.handled=none
 dp:A.depth+3 * k+5<recursionLimit
 un:A.units+16 * k+200<cLine
theorem Room.mono{j k:Nat}{A:Around}(r:Room k A)(h:j<=k):Room j A:=⟨r.hd,by have:=r.dp;omega,by have:=r.un;omega⟩
theorem Room.deeper{k:Nat}{A:Around}(r:Room (k+1) A)(env:Env):Room k (A.deeper env):=
 ⟨r.hd,by have:=r.dp;show A.depth+1+3 * k+5<_;omega,by have:=r.un;show A.units+3+16 * k+200<_;omega⟩
theorem Zg8{A:Around}{C:AI}{us:AC}{kw:List (Str×AJ)}:(A.under (.builtin "type.__call__" ⟨.ref C::us,kw⟩)).depth=A.depth+1:=by
 first | rfl | simp[Around.under,Code.weight,Code.isCreation,Code.isGuard,Code.isCaller,Code.frames,Code.isFrame,guardIds]
theorem Zg7{A:Around}{C:AI}{us:AC}{kw:List (Str×AJ)}:(A.under (.builtin "type.__call__" ⟨.ref C::us,kw⟩)).units=A.units+1:=by
 first | rfl | simp[Around.under,Code.cUnits,Code.frames,Code.isFrame]
theorem Room.make{k:Nat}{A:Around}(r:Room (k+1) A)(C:AI)(us:AC)(kw:List (Str×AJ)):Room k (A.under (.builtin "type.__call__" ⟨.ref C::us,kw⟩)):=
 ⟨r.hd,by have:=r.dp;rw[Zg8];omega,by have:=r.un;rw[Zg7];omega⟩
theorem Room.depth{k:Nat}{A:Around}(r:Room k A):A.depth<recursionLimit:=by have:=r.dp;omega
theorem Room.units{k:Nat}{A:Around}(r:Room k A):A.units+64<cLine:=by have:=r.un;omega
def aH:TA:=λ_ H Q=>Q [] H
def ak(ta:TE)(tr:TA):TA:=λσ H Q=>ta σ H λx H1=>tr σ H1 λxs H2=>Q (x::xs) H2
section
variable {X:Cx}{e:AN}{es:AG}{te:TE}{t:TA}{pos:Pos}
theorem az:PA X [] aH:=λ_ _ _ _ H Q I h=>Calls.spliced_nil ⟨[],H,I,.nil,h⟩
theorem aj(ha:PE X e te)(hr:PA X es t)(hs:starEach (e::es) X.env=(false,eval e X.env)::starEach es X.env:=by rfl):PA X (e::es) (ak te t):=by
 intro pos pins s σ H Q I h;rw[hs];show wpAny _ _ (spliced ((false,eval e X.env)::backTo pos (starEach es X.env))) _ _ s;refine Calls.spliced_cons (gB (ha pins s σ H _ I h) λu s1 qc=>?_);obtain⟨x,H1,I1,r1,q1⟩:=qc;exact gB (hr pos pins s1 σ H1 _ I1 q1) (by rintro us s2 ⟨xs,H2,I2,r2,q2⟩;exact⟨x::xs,H2,I2,.cons r1 r2,q2⟩)
def fV(t:TA):TE:=λσ H Q=>t σ H λxs H1=>xs.length<=sizeLine/\∀p,H1 p=none->Q (.ref p) (upd H1 p (.tup xs))
def eF(t:TA):TE:=λσ H Q=>t σ H λxs H1=>xs.length<=sizeLine/\∀p,H1 p=none->Q (.ref p) (upd H1 p (.lst xs))
theorem cF{x1}(h:PA X es t):PE X (.Tuple es x1 pos) (fV t):=by
 intro pins s σ H Q I hq;refine wpAny_Tuple_spliced (gB (h pos pins s σ H _ I hq) λus s1 ⟨xs,H1,I1,r,z,q⟩=>⟨by rw[<- r.length];exact z,?_⟩);have hf:H1 s1.heap.objs.size=none:=I1.hok.fresh υ;refine⟨.ref s1.heap.objs.size,upd H1 s1.heap.objs.size (.tup xs),I1.laid (t':=s1.toks) (λb u e=>Heap.get?_push_of_some _ e) υ ?_,rfl,q _ hf⟩;exact⟨z,us,r,⟨_,Heap.get?_push_size _ rfl,rfl,_,rfl⟩⟩
theorem cg(h:PA X es t):PE X (.List es pos) (eF t):=by
 intro pins s σ H Q I hq;refine wpAny_List_spliced (gB (h pos pins s σ H _ I hq) λus s1 ⟨xs,H1,I1,r,z,q⟩=>⟨by rw[<- r.length];exact z,?_⟩);have hf:H1 s1.heap.objs.size=none:=I1.hok.fresh υ;refine⟨.ref s1.heap.objs.size,upd H1 s1.heap.objs.size (.lst xs),I1.laid (t':=s1.toks) (λb u e=>Heap.get?_push_of_some _ e) υ ?_,rfl,q _ hf⟩;exact⟨z,us,0,r,Heap.get?_push_size _ rfl⟩
end
abbrev Sp:=List V->Hp->VK->XK->Prop
abbrev CXT:=List Env->Hp->AK->XK->AJ->AK->Prop
structure Zbc(P:AM)(w:AO)(K:aG)(mg:As)(base:Heap)(A:Around)(outer:List Env)(s:AK)(H:Hp):Prop where
 frames:A.frames=some outer
 mod:Mod K mg base
 bs:∀b o,base.get? b=some o->s.heap.get? b=some o/\H b=none
 bsz:base.objs.size<=s.heap.objs.size
 yu:s.heap.FunFrames base outer
 frf:∀b∈frs outer,H b=none
 hok:Eo P w H s.heap
 bare:AllBare s.gens
def CE(outer:List Env)(P:AM)(w:AO)(H:Hp)(s:AK)(Q:VK)(u:AJ)(s':AK):Prop:=
 ∃v H',s'.os=s.os/\AllBare s'.gens/\Un (frs outer) [] H H' s.heap s'.heap/\Eo P w H' s'.heap/\RelV v u/\Q v H'
def CR(CX:CXT)(outer:List Env)(P:AM)(w:AO)(H:Hp)(s:AK)(Q:VK)(E:XK)(r:Result)(s':AK):Prop:=
 match r with
 | .ok (.ret u)=>CE outer P w H s Q u s'
 | .ok _=>False
 | .error e=>CX outer H s E e s'
structure vB(P:AM)(w:AO)(K:aG)(mg:As)(base:Heap)(CX:CXT)(k:Nat)(f:AI)(fd:AL)(ps:AH)(sp:Sp):Prop where
 len:∀vs H Q E,sp vs H Q E->vs.length=ps.length
 run:∀(A:Around) (outer:List Env) (s:AK) (H:Hp) (args:Args) (us:AC) (vs:List V) (Q:VK) (E:XK),Room k A->Zbc P w K mg base A outer s H->BindsTo s fd args (ps.zip us)->Vals vs us->sp vs H Q E->
  codeAny (model P w) A (.call (.ref f) args) (CR CX outer P w H s Q E) s
theorem Zbc.make{P:AM}{w:AO}{K:aG}{mg:As}{base:Heap}{A:Around}{outer:List Env}{s:AK}{H:Hp}(e:Zbc P w K mg base A outer s H)(C:AI)(us:AC)(kw:List (Str×AJ)):
  Zbc P w K mg base (A.under (.builtin "type.__call__" ⟨.ref C::us,kw⟩)) outer s H:=⟨by first | exact e.frames | (simpa[Around.under,Code.envs,Code.isFrame,pushEnvs]using e.frames),e.mod,e.bs,e.bsz,e.yu,e.frf,e.hok,e.bare⟩
section
variable {X:Cx}{pins:At}{σ:St}{H:Hp}{s s':AK}
theorem Inv.env0(I:Inv X pins σ H s):Zbc X.prog X.w X.K X.mg X.base X.A X.stack s H:=
 ⟨I.ok.frames,I.ok.mod,I.bs,Nat.le_trans I.ok.bsz I.sz,I.stack,I.X4,I.hok,I.bare⟩
theorem Inv.after{Q:VK}{u:AJ}(I:Inv X pins σ H s)(h:CE X.stack X.prog X.w H s Q u s'):EP X pins σ Q u s':=by
 obtain⟨v,H',os,bare,un,hok,r,q⟩:=h;obtain⟨hh,g,d,t,os'⟩:=s';obtain rfl:os'=s.os:=os;exact⟨v,H',I.call (h':=hh) (g':=g) (d':=d) (t':=t) (ch:=[]) un hok bare (λb z=>absurd z ζ),r,q⟩
end
def aU(sp:Sp)(vG:List V)(E:XK)(t:TA):TE:=λσ H Q=>t σ H λvs H1=>sp (vs++vG) H1 Q E
def iK(C:AI)(m:Str)(sp:Sp)(vG:List V)(E:XK)(ta:TE)(t:TA):TE:=λσ H Q=>ta σ H λx H1=>∃a dx fs,x=.ref a/\H1 a=some (.ins C dx fs)/\fs.lookup m=none/\
 t σ H1 λvs H2=>sp (x::(vs++vG)) H2 Q E
def xN(C:AI)(sp:Sp)(vG:List V)(E:XK)(t:TA):TE:=λσ H Q=>t σ H λvs H1=>∀x dx,H1 x=none->H1 dx=none->dx≠x->
 sp (.ref x::(vs++vG)) (upd (upd H1 dx (.own x)) x (.ins C dx [])) (λv H2=>v=.non/\Q (.ref x) H2) E
def Binds(K:aG)(fd:AL)(ps:AH)(ds:AC):Prop:=
 ∀(s:AK) (us:AC),K.In s.heap->(us++ds).length=ps.length->BindsTo s fd ⟨us,[]⟩ (ps.zip (us++ds))
theorem Binds.all{K:aG}{fd:AL}{ps:AH}(h:∀us:AC,us.length=ps.length->bindArgs fd ⟨us,[]⟩=pure (ps.zip us)):Binds K fd ps []:=λs us _ hl=>by
 rw[List.append_nil]at hl ⊢;exact .of_eq (h us hl)
def Passes(CX:CXT)(X:Cx)(E:XK):Prop:=∀(pins:At) (σ:St) (H:Hp) (s:AK) (e:AJ) (s':AK),Inv X pins σ H s->CX X.stack H s E e s'->X.xe e s'
section
variable {X:Cx}{CX:CXT}{k:Nat}{f C:AI}{fd:AL}{ps:AH}{sp:Sp}{vG:List V}{ds:AC}{E:XK}{x m:Str}{p pos apos:Pos}{e o:AN}{es:AG}{ta:TE}{t:TA}
theorem YK{pins:At}{σ:St}{H:Hp}{s:AK}{Q:VK}{us:AC}{vs:List V}(F:vB X.prog X.w X.K X.mg X.base CX k f fd ps sp)(hr:Room k X.A)(hb:Binds X.K fd ps ds)(hd:Vals vG ds)(hx:Passes CX X E)
  (I:Inv X pins σ H s) (r:Vals vs us) (h:sp (vs++vG) H Q E):wpAny ς X.A (call (.ref f) us) (EP X pins σ Q) X.xe s:=by
 have r2:Vals (vs++vG) (us++ds):=r.append hd;have hl:(us++ds).length=ps.length:=by rw[<- r2.length];exact F.len _ _ _ _ h
 refine wpAny_call (codeAny_mono (F.run X.A X.stack s H ⟨us,[]⟩ (us++ds) (vs++vG) Q E hr I.env0 (hb s us I.um hl) r2 h) λr s' hq=>?_);cases r with
 | error e=>exact hx pins σ H s e s' I hq
 | ok fl=>
  cases fl with
  | ret u=>exact I.after hq
  | next=>exact False.elim hq
  | brk=>exact False.elim hq
  | cont=>exact False.elim hq
theorem qD(F:vB X.prog X.w X.K X.mg X.base CX k f fd ps sp)(hr:Room k X.A)(hg:Gl X x)(hm:X.mg x=↑f)(hk:W.keepIn X.K (.ref f)=true)(hb:Binds X.K fd ps ds)(hd:Vals vG ds)(hx:Passes CX X E)
  (ha:PA X (e::es) t) (hdb:(x == ("__debug__":Str))=false:=by decide) (he:starEach (e::es) X.env=(false,eval e X.env)::starEach es X.env:=by rfl) (hpl:(backTo pos (starEach es X.env)).any (·.1)=false:=by rfl):
  PE X (.Call (.Name x p) (e::es) [] pos) (aU sp vG E t):=by
 intro pins s σ H Q I h;refine wpAny_Call_Name_kw (fL I hg hm ?_ hdb);refine W.callWith_K (h₀:=X.base) I.ok.mod.kin hk (gB (ha pos pins s σ H _ I h) λus s1 ⟨vs,H1,I1,r,q⟩=>⟨I1.um,?_⟩) he hpl;exact YK F hr hb hd hx I1 r q
theorem qC{pl:Sem Bool}(he:PE X o ta)(c:Er X.K C)(hm:Meth X.K C m f)(F:vB X.prog X.w X.K X.mg X.base CX k f fd ps sp)(hr:Room k X.A)(hb:Binds X.K fd ps ds)(hd:Vals vG ds)(hx:Passes CX X E)(ha:PA X (e::es) t)
  (hst:starEach (e::es) X.env=(false,eval e X.env)::starEach es X.env:=by rfl) (hpl:(backTo pos (starEach es X.env)).any (·.1)=false:=by rfl)
  (ht:eval (.Call (.Attribute o m apos) (e::es) [] pos) X.env=(do
   let ov <- eval o X.env
   standAt apos.atName
   let (f,first) <- holding [ov] (getMethod ov m pl)
   callWith pos f first (backTo pos (starEach (e::es) X.env)) (backToKw pos (keywordEach [] X.env))):=by rfl):
  PE X (.Call (.Attribute o m apos) (e::es) [] pos) (iK C m sp vG E ta t):=by
 intro pins s σ H Q I h;refine W.methodCall_KW (pl:=pl) (gB (he pins s σ H _ I h) λu s1 qc=>?_) ht;obtain⟨x,H1,I1,rx,a,dx,fs,ex,ea,l,q⟩:=qc;subst ex;obtain rfl:u=Value.ref a:=rx;refine Ss I1 ea c hm l ?_;refine W.callWith_K (first:=[.ref a]) (h₀:=X.base) I.ok.mod.kin hm.kp (gB (ha pos pins s1 σ H1 _ I1 q) λus s2 ⟨vs,H2,I2,r,q2⟩=>⟨I2.um,?_⟩) hst hpl;exact YK (us:=.ref a::us) (vs:=.ref a::vs) F hr hb hd hx I2 (.cons rfl r) q2
theorem jZ{pl:Sem Bool}(he:PE X o ta)(c:Er X.K C)(hm:Meth X.K C m f)(F:vB X.prog X.w X.K X.mg X.base CX k f fd ps sp)(hr:Room k X.A)(hb:Binds X.K fd ps ds)(hd:Vals vG ds)(hx:Passes CX X E)
  (ht:eval (.Call (.Attribute o m apos) [] [] pos) X.env=(do
   let ov <- eval o X.env
   standAt apos.atName
   let (f,first) <- holding [ov] (getMethod ov m pl)
   callWith pos f first (backTo pos (starEach [] X.env)) (backToKw pos (keywordEach [] X.env))):=by rfl):
  PE X (.Call (.Attribute o m apos) [] [] pos) (iK C m sp vG E ta aH):=by
 intro pins s σ H Q I h;refine W.methodCall_KW (pl:=pl) (gB (he pins s σ H _ I h) λu s1 qc=>?_) ht;obtain⟨x,H1,I1,rx,a,dx,fs,ex,ea,l,q⟩:=qc;subst ex;obtain rfl:u=Value.ref a:=rx;refine Ss I1 ea c hm l ?_;exact W.callWith_K0 (first:=[.ref a]) I1.um hm.kp (YK (us:=[.ref a]) (vs:=[.ref a]) F hr hb hd hx I1 (.cons rfl .nil) q)
structure Mk(K:aG)(C f:AI):Prop where
 makes:W.makesIn K C=true
 init:W.findIn K (.ref C) "__init__"=some (↑f)
 fn:W.isFn K (.ref f)=true
 kp:W.keepIn K (.ref C)=true
theorem Zbu{pins:At}{σ:St}{H:Hp}{s:AK}{Q:VK}{us:AC}{vs:List V}(M:Mk X.K C f)(F:vB X.prog X.w X.K X.mg X.base CX k f fd ps sp)(hr:Room (k+1) X.A)(hb:Binds X.K fd ps ds)(hd:Vals vG ds)
  (hx:Passes CX X E) (I:Inv X pins σ H s) (r:Vals vs us)
  (h:∀x dx,H x=none->H dx=none->dx≠x->sp (.ref x::(vs++vG)) (upd (upd H dx (.own x)) x (.ins C dx [])) (λv H2=>v=.non/\Q (.ref x) H2) E):
  wpAny ς X.A (call (.ref C) us) (EP X pins σ Q) X.xe s:=by
 have hq:=h ai s.heap.objs.size (I.hok.fresh (Nat.le_succ _)) (I.hok.fresh υ) (Nat.ne_of_lt (Nat.lt_succ_self _));have I2:=Inv.made (C:=C) I;have r2:Vals (V.ref ai::(vs++vG)) (Value.ref ai::(us++ds)):=.cons rfl (r.append hd);have hl:(Value.ref ai::us++ds).length=ps.length:=by
  have e:=r2.length;rw[F.len _ _ _ _ hq]at e;exact e.symm
 refine wpAny_call (Zmz (f:=f) I.um M.makes M.init (beq_iff_eq.mp M.fn) (codeAny_mono (F.run _ X.stack _ _ ⟨Value.ref ai::us,[]⟩ (Value.ref ai::(us++ds)) _ _ E (hr.make C us [])
  (I2.env0.make C us []) (hb _ (Value.ref ai::us) I2.um hl) r2 hq) λr s' hq'=>?_))
 cases r with
 | error e=>exact hx pins σ _ _ e s' I2 hq'
 | ok fl=>
  cases fl with
  | ret u=>
   obtain⟨v,H',I3,rv,ev,q3⟩:=I2.after hq';subst ev;exact⟨rv,⟨V.ref ai,H',I3,rfl,q3⟩⟩
  | next=>exact False.elim hq'
  | brk=>exact False.elim hq'
  | cont=>exact False.elim hq'
theorem vO(M:Mk X.K C f)(F:vB X.prog X.w X.K X.mg X.base CX k f fd ps sp)(hr:Room (k+1) X.A)(hg:Gl X x)(hm:X.mg x=↑C)(hb:Binds X.K fd ps ds)(hd:Vals vG ds)(hx:Passes CX X E)
  (ha:PA X (e::es) t) (hdb:(x == ("__debug__":Str))=false:=by decide) (he:starEach (e::es) X.env=(false,eval e X.env)::starEach es X.env:=by rfl) (hpl:(backTo pos (starEach es X.env)).any (·.1)=false:=by rfl):
  PE X (.Call (.Name x p) (e::es) [] pos) (xN C sp vG E t):=by
 intro pins s σ H Q I h;refine wpAny_Call_Name_kw (fL I hg hm ?_ hdb);refine W.callWith_K (h₀:=X.base) I.ok.mod.kin M.kp (gB (ha pos pins s σ H _ I h) λus s1 ⟨vs,H1,I1,r,q⟩=>⟨I1.um,?_⟩) he hpl;exact Zbu M F hr hb hd hx I1 r q
theorem Zm7(M:Mk X.K C f)(F:vB X.prog X.w X.K X.mg X.base CX k f fd ps sp)(hr:Room (k+1) X.A)(hg:Gl X x)(hm:X.mg x=↑C)(hb:Binds X.K fd ps ds)(hd:Vals vG ds)(hx:Passes CX X E)
  (hdb:(x == ("__debug__":Str))=false:=by decide):PE X (.Call (.Name x p) [] [] pos) (xN C sp vG E aH):=by
 intro pins s σ H Q I h;refine wpAny_Call_Name_kw (fL I hg hm ?_ hdb);exact W.callWith_K0 I.um M.kp (Zbu (us:=[]) M F hr hb hd hx I .nil h)
end
section
variable {X:Cx}{CX:CXT}{k:Nat}{f C:AI}{fd:AL}{ps ks:AH}{sp:Sp}{E:XK}{x m:Str}{p pos apos kpos:Pos}{e o:AN}{es:AG}{kws:List Keyword}{te ta:TE}{t tk:TA}{nm:Option Str}
structure ZD0(K:aG)(fd:AL)(ps ks:AH)(g:AC->AC->AC)(gV:List V->List V->List V):Prop where
 to:∀(s:AK) (us ws:AC),K.In s.heap->(g us ws).length=ps.length->BindsTo s fd ⟨us,ks.zip ws⟩ (ps.zip (g us ws))
 rel:∀{vs:List V}{us:AC}{zs:List V}{ws:AC},Vals vs us->Vals zs ws->Vals (gV vs zs) (g us ws)
variable {g:AC->AC->AC}{gV:List V->List V->List V}
end
structure aO(N P:AH)(sc:Scope):Prop where
 kind:sc.kind=.function
 co:sc.isCoroutine=false
 gen:sc.isGenerator=false
 nd:N.Nodup
 pre:N.take P.length=P
 par:∀x∈P,sc.names.lookup x=some .local\/sc.names.lookup x=some .cell
 Zt1:∀y∈sc.names,y.2≠.free
theorem Xx{kindOf:Str->Option NameKind}{x:Str}:∀{binds:List (Str×AJ)}{m:As},(∀v,(x,v)∉binds)->bindL kindOf binds m x=m x
 | [],_,_=>rfl
 | (n,v)::r,m,h=>by
  unfold bindL;rw[Xx λw hw=>h w (List.mem_cons_of_mem _ hw)];split
  ·have:x≠n:=by rintro rfl;exact h v List.mem_cons_self
   simp[this]
  ·rfl
theorem Xz{kindOf:Str->Option NameKind}{x:Str}:∀{binds:List (Str×AJ)}{m:As},(∀v,(x,v)∉binds)->bindC kindOf binds m x=m x
 | [],_,_=>rfl
 | (n,v)::r,m,h=>by
  unfold bindC;rw[Xz λw hw=>h w (List.mem_cons_of_mem _ hw)];split
  ·rfl
  ·have:x≠n:=by rintro rfl;exact h v List.mem_cons_self
   simp[this]
theorem Xy{kindOf:Str->Option NameKind}{x:Str}{v:AJ}:∀{P:AH}{vs:AC}{i:Nat}{m:As},P.Nodup->P[i]? =some x->vs[i]? =some v->kindOf x=some .local->
  bindL kindOf (P.zip vs) m x=some v
 | [],_,_,_,_,h,_,_=>by simp at h
 | _::_,[],_,_,_,_,h,_=>by simp at h
 | p::P,w::vs,0,m,nd,h1,h2,hk=>by
  simp at h1 h2;subst h1;subst h2;show bindL kindOf ((p,w)::P.zip vs) m p=_;unfold bindL;rw[Xx λv hv=>(List.nodup_cons.mp nd).1 (List.of_mem_zip hv).1,if_pos hk];simp
 | p::P,w::vs,i+1,m,nd,h1,h2,hk=>by
  show bindL kindOf ((p,w)::P.zip vs) m x=_;unfold bindL;exact Xy (i:=i) (List.nodup_cons.mp nd).2 (by simpa using h1) (by simpa using h2) hk
theorem XC{kindOf:Str->Option NameKind}{x:Str}{v:AJ}:∀{P:AH}{vs:AC}{i:Nat}{m:As},P.Nodup->P[i]? =some x->vs[i]? =some v->kindOf x≠some .local->
  bindC kindOf (P.zip vs) m x=some v
 | [],_,_,_,_,h,_,_=>by simp at h
 | _::_,[],_,_,_,_,h,_=>by simp at h
 | p::P,w::vs,0,m,nd,h1,h2,hk=>by
  simp at h1 h2;subst h1;subst h2;show bindC kindOf ((p,w)::P.zip vs) m p=_;unfold bindC;rw[Xz λv hv=>(List.nodup_cons.mp nd).1 (List.of_mem_zip hv).1,if_neg hk];simp
 | p::P,w::vs,i+1,m,nd,h1,h2,hk=>by
  show bindC kindOf ((p,w)::P.zip vs) m x=_;unfold bindC;exact XC (i:=i) (List.nodup_cons.mp nd).2 (by simpa using h1) (by simpa using h2) hk
def start(N:AH)(vs:List V):St:=vs.map some++List.replicate (N.length - vs.length) none
def DQ(CX:CXT)(P:AM)(w:AO)(K:aG)(mg:As)(base:Heap)(N:AH)(qual:Str)(scope:Scope)(f:AI)(cd:AJ)(A:Around)(outer:List Env)(s:AK)(H:Hp)(E:XK):Cx where
 prog:=P
 w:=w
 K:=K
 mg:=mg
 base:=base
 A:=A.deeper (envOfC qual scope s.heap.objs.size f cd)
 N:=N
 s₀:=s
 H₀:=H
 env:=envOfC qual scope s.heap.objs.size f cd
 outer:=outer
 stack:=envOfC qual scope s.heap.objs.size f cd::outer
 ex:=[]
 calm:=true
 fn:=λ_=>true
 pn:=[]
 xe:=λe s'=>wpAny (model P w) (A.deeper (envOfC qual scope s.heap.objs.size f cd)) (leaving (envOfC qual scope s.heap.objs.size f cd) e) (λ_ s''=>CX outer H s E e s'') (λe' s''=>CX outer H s E e' s'') s'
theorem Zdz{sc:Scope}{n:Nat}{x:Str}(h:sc.names.lookup x=some .cell):∃c,(cellsFrom n sc.names []).lookup x=some c:=by
 have q:=W.cellsFrom_some sc.names n [] (.inl h);exact Option.isSome_iff_exists.mp q
theorem Xc{CX:CXT}{P:AM}{w:AO}{K:aG}{mg:As}{base:Heap}{N ps:AH}{qual:Str}{scope:Scope}{f:AI}{cd:AJ}{A:Around}{outer:List Env}{s s1:AK}{H:Hp}{E:XK}{us:AC}{vs:List V}
  (S:aO N ps scope) (hd:A.handled=none) (e0:Zbc P w K mg base A outer s H) (hl:vs.length=ps.length) (r:Vals vs us)
  (x:InCallC s s.heap.objs.size (bindL (envOfC qual scope s.heap.objs.size f cd).kindOf (ps.zip us) λ_=>none) (cellsFrom ai scope.names []) (bindC (envOfC qual scope s.heap.objs.size f cd).kindOf (ps.zip us) λ_=>none) s1):
  Inv (DQ CX P w K mg base N qual scope f cd A outer s H E) [] (start N vs) H s1:=by
 have hpl:ps.length<=N.length:=by have:=congrArg List.length S.pre;rw[List.length_take]at this;omega
 obtain⟨h1,tk,rfl,hk⟩:=x.done;have noA:∀b:AI,b∉(DQ CX P w K mg base N qual scope f cd A outer s H E).ex:=λb z=>absurd (show b∈([]:AF)from z) ζ;refine⟨⟨e0.mod,S.kind,rfl,rfl,Nat.le_refl _,λy z c h1 h2=>?_,λy hy=>?_,λy c _ h=>?_,λ_=>hd,Around.frames_deeper e0.frames,.inr ⟨rfl,rfl⟩,λb z=>absurd z (noA b),e0.bs,e0.bsz,λb _ _=>noA b,λb z=>absurd z (noA b),e0.yu,e0.frf⟩,
  rfl,e0.bare,Un.kept hk,⟨_,x.toInCall.ns,λi y v h1 h2 h3=>?_⟩,λy c h=>⟨_,x.cell y c h⟩,e0.hok.fresh υ,λy c h=>?_,λp hp=>absurd (show p∈([]:At)from hp) ζ,e0.hok.kept hk,?_⟩
 ·exact name_of_addr x.apart (PySem.mem_of_lookup h1) (PySem.mem_of_lookup h2)
 ·have hy:scope.names.lookup y=some .cell\/scope.names.lookup y=some .free:=hy;rcases hy with hy | hy
  ·exact Zdz hy
  ·exact absurd rfl (S.Zt1 _ (PySem.mem_of_lookup hy))
 ·exact Nat.le_of_lt (x.above y c (PySem.mem_of_lookup h))
 ·have hi:i<vs.length:=by
   unfold start at h2
   by_cases hi:i<vs.length
   ·exact hi
   ·rw[List.getElem?_append_right (by simpa using hi)]at h2;rw[List.getElem?_replicate]at h2;split at h2<;>cases h2
  have ha:vs[i]? =some v:=by
   unfold start at h2;rw[List.getElem?_append_left (by simpa using hi),cI]at h2;cases e:vs[i]? with
   | none=>rw[e]at h2;cases h2
   | some a=>rw[e]at h2;cases h2;rfl
  obtain⟨u,hu,rv⟩:=r.get ha;have hp:ps[i]? =some y:=by
   rw[<- S.pre,List.getElem?_take_of_lt δ];exact h1
  have ndP:ps.Nodup:=by rw[<- S.pre];exact S.nd.sublist (List.take_sublist _ _)
  refine⟨u,rv,?_⟩;rcases S.par y (List.mem_of_getElem? hp)with k | k
  ·exact .inl ⟨k,Xy ndP hp hu k⟩
  ·obtain⟨c,e⟩:=Zdz (n:=s.heap.objs.size+1) k;refine .inr ⟨.inl k,c,e,?_⟩;have q:=x.cell y c e;rw[XC ndP hp hu (by show scope.names.lookup y≠_;rw[k];decide)]at q;exact q
 ·exact e0.hok.fresh (Nat.le_of_lt (x.above y c (PySem.mem_of_lookup h)))
 ·unfold start;show _=N.length;rw[List.length_append,bx,List.length_replicate];omega
theorem Zim{CX:CXT}{P:AM}{w:AO}{K:aG}{mg:As}{base:Heap}{k:Nat}{f:AI}{name qual:Str}{params:Arguments}{body:List Stmt}{scope:Scope}{dV kV doc pm cdv ct oc:AJ}{an od:Option AI}
  {osl:Array AB}{N ps:AH}{sp:Sp} (lk:K.lookup f=some ⟨oc,od,.func (W.fnOf name qual params body scope dV kV doc pm an cdv ct),osl⟩) (hcd:W.codeIn K cdv qual=true) (S:aO N ps scope)
  (len:∀vs H Q E,sp vs H Q E->vs.length=ps.length)
  (hbody:∀(A:Around) (outer:List Env) (s:AK) (H:Hp) (vs:List V) (Q:VK) (E:XK),Room k (A.deeper (envOfC qual scope s.heap.objs.size f cdv))->sp vs H Q E->
   ∃t,Px (DQ CX P w K mg base N qual scope f cdv A outer s H E) body t/\t { nx:=λ_ H'=>Q .non H',rt:=Q } (start N vs) H):
  vB P w K mg base CX (k+1) f (W.fnOf name qual params body scope dV kV doc pm an cdv ct) ps sp:=by
 refine⟨len,λA outer s H args us vs Q E hr e0 hb r hsp=>?_⟩;have hl:=len _ _ _ _ hsp;have KX:K.In s.heap:=e0.mod.kin.keeps λb o e=>(e0.bs b o e).1;have lim:s.heap.NoLimit:=e0.mod.nolimit.keeps λb o e=>(e0.bs b o e).1;have hkind:∀y∈ps.zip us,scope.names.lookup y.1=some .local\/(scope.names.lookup y.1=some .cell/\((cellsFrom ai scope.names []).lookup y.1).isSome=true):=λ⟨n,v⟩ hy=>by
  rcases S.par n (List.of_mem_zip hy).1 with q | q
  ·exact .inl q
  ·exact .inr ⟨q,W.cellsFrom_some _ _ _ (.inl q)⟩
 refine codeAny_call_function hr.depth (KX _ _ lk) rfl S.co S.gen rfl (W.codeRec_of KX hcd) (hb _ _ _ _ ?_);refine wpAny_newFunctionEnv_cells S.kind hkind λenv he s1 x=>?_;subst he;refine⟨lim.keeps x.toInCall.keep,codeAny_func ?_⟩;obtain⟨t,ht,hq⟩:=hbody A outer s H vs Q E (hr.deeper _) hsp;have I:Inv (DQ CX P w K mg base N qual scope f cdv A outer s H E) [] (start N vs) H s1:=Xc S hr.hd e0 hl r x;refine wpAny_mono (ht [] s1 (start N vs) H _ I hq) (λfl s' hs=>?_) λe s' hs=>hs;have fin:∀{σ':St}{H':Hp}{v:V}{u:AJ},Inv (DQ CX P w K mg base N qual scope f cdv A outer s H E) [] σ' H' s'->RelV v u->Q v H'->CE outer P w H s Q u s':=
  λ{σ' H' v u} J rv q=>⟨v,H',J.os,J.bare,J.base,J.hok,rv,q⟩
 cases fl with
 | ret u=>
  obtain⟨v,σ',H',J,rv,q⟩:=hs;exact fin J rv q
 | next=>
  obtain⟨σ',H',J,q⟩:=hs;exact fin (v:=V.non) (u:=Value.none) J rfl q
 | brk=>
  obtain⟨_,_,_,q⟩:=hs;exact False.elim q
 | cont=>
  obtain⟨_,_,_,q⟩:=hs;exact False.elim q
section
variable {X:Cx}{x:Str}{p pos:Pos}{e:AN}{es:AG}{t:TA}{id T:String}{r:List V->Hp->VK->Prop}
def vC(r:List V->Hp->VK->Prop)(t:TA):TE:=λσ H Q=>t σ H λvs H1=>r vs H1 Q
theorem bW(hc:Ks X (.builtin id) r)(hg:Gl X x)(hm:X.mg x=none)(hv:bootBuiltins x=some (.builtin id))(ha:PA X (e::es) t)(hn:x≠"__name__":=by decide)(hdb:(x == ("__debug__":Str))=false:=by decide)
  (he:starEach (e::es) X.env=(false,eval e X.env)::starEach es X.env:=by rfl) (hpl:(backTo pos (starEach es X.env)).any (·.1)=false:=by rfl):PE X (.Call (.Name x p) (e::es) [] pos) (vC r t):=by
 intro pins s σ H Q I h;refine wpAny_Call_Name_kw (Mr I hg hm hv ?_ hn hdb);exact PyProof.Rows.callWith_builtin1 (gB (ha pos pins s σ H _ I h) (by rintro us s1 ⟨vs,H1,I1,r1,q1⟩;exact hc pins s1 σ H1 vs us Q I1 r1 q1)) he hpl
theorem lz(hc:Ks X (.type T) r)(hg:Gl X x)(hm:X.mg x=none)(hv:bootBuiltins x=some (.type T))(ha:PA X (e::es) t)(hn:x≠"__name__":=by decide)(hdb:(x == ("__debug__":Str))=false:=by decide)
  (he:starEach (e::es) X.env=(false,eval e X.env)::starEach es X.env:=by rfl) (hpl:(backTo pos (starEach es X.env)).any (·.1)=false:=by rfl):PE X (.Call (.Name x p) (e::es) [] pos) (vC r t):=by
 intro pins s σ H Q I h;refine wpAny_Call_Name_kw (Mr I hg hm hv ?_ hn hdb);exact PyProof.Rows.callWith_type1 (gB (ha pos pins s σ H _ I h) (by rintro us s1 ⟨vs,H1,I1,r1,q1⟩;exact hc pins s1 σ H1 vs us Q I1 r1 q1)) he hpl
end
end L2
namespace HT
open PySem PyProof.Rows
section
open PySem.SeqAt
open PySem.AutoSeq1 (wpAny_loadPart')
open PySem.MeetsSeq PySem.MeetsSeq2 PySem.MeetsSeq3
end
section
variable {prog:AM}{w:AO}{A:Around}{E:Ap}{s:AK}
theorem Zr3{t b:AI}{vs ws:AC}{Q:Ap}(ht:IsTup s.heap t vs.toArray)(hb:IsTup s.heap b ws.toArray)(hv:vs≠[])
  (h1:ws=[]->Q (.ref t) s) (h2:ws≠[]->Q (.ref s.heap.objs.size) { s with heap:=s.heap.push { cls:=.type "tuple",data:=.seq (vs++ws).toArray } })
  (hsz:vs.length+ws.length<=sizeLine):wpAny af A (binaryOp .Add (.ref t) (.ref b)) Q E s:=by
 obtain⟨⟨cls,dd,data,sl⟩,ho,hc,n,hd⟩:=id ht;obtain⟨⟨cls2,dd2,data2,sl2⟩,ho2,hc2,n2,hd2⟩:=id hb;simp only at hc hd hc2 hd2;subst hc hd hc2 hd2;have e:vs.toArray++ws.toArray=(vs++ws).toArray:=ζ
 by_cases hw:ws=[]
 ·exact concat_meets ⟨_,ho,rfl⟩ ⟨_,ho2,rfl⟩ noFill_tuple_add seq_tuple_add PySem.F.slot_tuple_add PySem.F.entry_tuple_add (PySem.F.args_tuple_add_2 _ _)
   (tuple_addW1 t b vs.toArray ws.toArray n n2 dd dd2 sl sl2 (by simpa using hv) (by simp[hw])) ⟨ho,ho2,h1 hw⟩
 ·refine concat_meets ⟨_,ho,rfl⟩ ⟨_,ho2,rfl⟩ noFill_tuple_add seq_tuple_add PySem.F.slot_tuple_add PySem.F.entry_tuple_add (PySem.F.args_tuple_add_2 _ _)
   (tuple_addW2 t b vs.toArray ws.toArray n n2 dd dd2 sl sl2 (by simpa using hv) (by simpa using hw) (by rw[List.size_toArray,List.size_toArray];exact hsz)) ⟨ho,ho2,?_⟩
  rw[e];exact h2 hw
def jW(n d:Nat):AA->Nat
 | none=>d
 | some v=>if v<0 then(v+(n:Int)).toNat else min v.toNat n
theorem QJ(n d:Nat):jW n d none=d:=rfl
theorem Gz(n d:Nat)(hd:d<=n)(o:AA):jW n d o<=n:=by
 cases o with
 | none=>exact hd
 | some v=>
  show(if v<0 then(v+(n:Int)).toNat else min v.toNat n)<=n
  by_cases hv:v<0
  ·rw[if_pos hv];omega
  ·rw[if_neg hv];exact Nat.min_le_right _ _
end
end HT
namespace L2
open PySem PySem.Spec PyProof.Rows
abbrev TO:=St->Hp->(AA->Hp->Prop)->Prop
def PO(X:Cx)(e:Option AN)(t:TO):Prop:=
 ∀(pins:At) (s:AK) (σ:St) (H:Hp) (Q:AA->Hp->Prop),Inv X pins σ H s->t σ H Q->
  wpAny ς X.A (evalPart e X.env) (λu s'=>∃o H',Inv X pins σ H' s'/\IsPart u o/\Q o H') X.xe s
def tO:TO:=λ_ H Q=>Q none H
def vJ(t:TE):TO:=λσ H Q=>t σ H λx H1=>∃i,x=.int i/\Q (some i) H1
section
variable {X:Cx}{e:AN}{te:TE}{lo hi:Option AN}{tl th:TO}{pos p2:Pos}
theorem zQ:PO X none tO:=by
 intro pins s σ H Q I h;rw[evalPart_none];exact wpAny_pure ⟨none,H,I,.none,h⟩
theorem qz(h:PE X e te):PO X (some e) (vJ te):=by
 intro pins s σ H Q I hw;rw[evalPart_some];refine gB (h pins s σ H _ I hw) λu s1 qc=>?_;obtain⟨x,H1,I1,r1,q1⟩:=qc;obtain⟨i,rfl,q⟩:=q1;obtain⟨t,rfl⟩:=r1;exact⟨some i,H1,I1,.int i t,q⟩
def SlR(X:Cx)(r:V->AA->AA->Hp->VK->Prop):Prop:=
 ∀(pins:At) (s:AK) (σ:St) (H:Hp) (x:V) (v vl vu:AJ) (lo hi:AA) (sl:AI) (Q:VK),Inv X pins σ H s->RelV x v->s.heap.IsSliceOf sl vl vu .none->IsPart vl lo->IsPart vu hi->r x lo hi H Q->
  ∃T id,typeLookup (.type T) "__getitem__"=pure (some (.builtin id))/\s.TypeIs v T/\wpAny ς X.A (getItem v (.ref sl)) (EP X pins σ Q) X.xe s
def tSl(r:V->AA->AA->Hp->VK->Prop)(te:TE)(tl th:TO):TE:=λσ H Q=>te σ H λx H1=>tl σ H1 λl H2=>th σ H2 λu H3=>r x l u H3 Q
theorem nT{r:V->AA->AA->Hp->VK->Prop}(hr:SlR X r)(he:PE X e te)(hl:PO X lo tl)(hu:PO X hi th):PE X (.Subscript e (.Slice lo hi none p2) pos) (tSl r te tl th):=by
 intro pins s σ H Q I h;refine Subscript_ (gB (he pins s σ H _ I h) λv s1 qc=>?_);obtain⟨x,H1,I1,r1,q1⟩:=qc;refine wpAny_Slice (gB (hl pins s1 σ H1 _ I1 q1) λvl s2 ⟨l,H2,I2,pl,q2⟩=>gB (hu pins s2 σ H2 _ I2 q2) λvu s3 qc=>?_);obtain⟨u,H3,I3,pu,q3⟩:=qc;rw[evalPart_none];refine wpAny_pure ?_;have I4:Inv X pins σ H3 { s3 with heap:=s3.heap.push { cls:=.type "slice",data:=.fields #[vl,vu,.none] } }:=I3.kept (t':=s3.toks) λb ob q=>Heap.get?_push_of_some _ q;obtain⟨T,id,hT,ht,hg⟩:=hr pins { s3 with heap:=s3.heap.push { cls:=.type "slice",data:=.fields #[vl,vu,.none] } } σ H3 x v vl vu l u s3.heap.objs.size Q I4 r1 (Heap.IsSliceOf.new ..) pl pu q3;show wpAny ς X.A (subscriptTail e (.Slice lo hi none p2) v (.ref s3.heap.objs.size)) (EP X pins σ Q) X.xe { s3 with heap:=s3.heap.push { cls:=.type "slice",data:=.fields #[vl,vu,.none] } };exact tail_any (ops:=[.ref s3.heap.objs.size,v]) ht hT hg (by with_unfolding_all rfl)
def M6(xs:List V)(lo hi:AA):List V:=(xs.drop (HT.jW xs.length 0 lo)).take (HT.jW xs.length xs.length hi - HT.jW xs.length 0 lo)
theorem Zdw(xs:List V)(lo hi:AA):(M6 xs lo hi).length<=xs.length:=by
 unfold M6;rw[List.length_take,List.length_drop];omega
def Zrl(K:aG):R2:=λx y H Q=>∃a b xs ys,x=.ref a/\y=.ref b/\fc K H a xs/\fc K H b ys/\xs≠[]/\xs.length+ys.length<=sizeLine/\
 (ys=[]->Q (.ref a) H)/\(ys≠[]->∀p,H p=none->Q (.ref p) (upd H p (.tup (xs++ys))))
theorem Vals.Zn{xs:List V}{us:AC}(r:Vals xs us):us=[]↔xs=[]:=by
 cases r with
 | nil=>simp
 | cons _ _=>simp
theorem Zpu:yJ X (binaryOp .Add) (Zrl X.K):=by
 intro pins s σ H x y v u Q I rx ry h;obtain⟨a,b,xs,ys,rfl,rfl,ha,hb,hx,hz,q1,q2⟩:=h;cases rx;cases ry;obtain⟨its,r1,p1,_⟩:=I.tuple ha;obtain⟨its2,r2,p2,_⟩:=I.tuple hb;refine HT.Zr3 p1 p2 (λz=>hx (r1.Zn.mp z)) (λz=>⟨.ref a,H,I,rfl,q1 (r2.Zn.mp z)⟩) (λz=>?_) (by rw[<- r1.length,<- r2.length];exact hz);refine⟨.ref s.heap.objs.size,_,I.laid (t':=s.toks) (o:=.tup (xs++ys)) (λb ob q=>Heap.get?_push_of_some _ q) υ ?_,rfl,q2 (λw=>z (r2.Zn.mpr w)) _ (I.hok.fresh υ)⟩;exact⟨by rw[List.length_append];exact hz,_,r1.append r2,IsTup.new _ _⟩
end
def ixN(n:Nat)(i:Int):Option Nat:=if 0<=i then(if i<n then some i.toNat else none)else if -(n:Int)<=i then some (i+n).toNat else none
def atI{α:Type}(xs:List α)(i:Int):Option α:=(ixN xs.length i).bind λj=>xs[j]?
theorem Zig{n:Nat}{i:Int}{j:Nat}(h:ixN n i=some j):seqIndex? i n=some j/\j<n/\-(n:Int)<=i/\i<n:=by
 unfold ixN at h
 by_cases h0:0<=i
 ·rw[if_pos h0]at h
  by_cases h1:i<n
  ·rw[if_pos h1]at h;have e:i.toNat=j:=Option.some.inj h;exact⟨by rw[seqIndex_of h0 h1,e],δ,δ,h1⟩
  ·rw[if_neg h1]at h;cases h
 ·rw[if_neg h0]at h
  by_cases h1:-(n:Int)<=i
  ·rw[if_pos h1]at h;have e:(i+n).toNat=j:=Option.some.inj h;exact⟨by rw[seqIndex_neg δ h1,e],δ,h1,δ⟩
  ·rw[if_neg h1]at h;cases h
theorem Zam{α:Type}{xs:List α}{i:Int}{v:α}(h:atI xs i=some v):∃j,seqIndex? i xs.length=some j/\xs[j]? =some v/\j<xs.length/\-(xs.length:Int)<=i/\i<xs.length:=by
 unfold atI at h;cases e:ixN xs.length i with
 | none=>rw[e]at h;cases h
 | some j=>
  rw[e]at h;obtain⟨h1,h2,h3,h4⟩:=Zig e;exact⟨j,h1,h,h2,h3,h4⟩
theorem g8{α:Type}{xs:List α}{j:Nat}{v:α}(h:xs[j]? =some v):atI xs (j:Int)=some v:=by
 have hj:j<xs.length:=(cZ h).1;have e:ixN xs.length (j:Int)=some j:=by
  unfold ixN;rw[if_pos δ,if_pos δ];simp
 unfold atI;rw[e];exact h
theorem jK{α:Type}(xs:List α)(v:α):atI (xs++[v]) (-1)=some v:=by
 have hl:(xs++[v]).length=xs.length+1:=ζ
 have e:ixN (xs++[v]).length (-1)=some xs.length:=by
  unfold ixN;rw[hl,if_neg ε,if_pos δ];congr 1;omega
 unfold atI;rw[e];show(xs++[v])[xs.length]? =some v;simp
def Zb8(b:AN):Prop:=∀o i,subscripted b false o i=operate [o,i] (getItem o i)
def IxR(X:Cx)(r:R2):Prop:=
 ∀(value slice:AN) (pins:At) (s:AK) (σ:St) (H:Hp) (x y:V) (v u:AJ) (Q:VK),Inv X pins σ H s->RelV x v->RelV y u->r x y H Q->
  subscripted slice false v u=operate [v,u] (getItem v u)->wpAny ς X.A (subscriptTail value slice v u) (EP X pins σ Q) X.xe s
def MtR(X:Cx)(id:String)(r:V->List V->Hp->VK->Prop):Prop:=
 ∀(pins:At) (s:AK) (σ:St) (H:Hp) (x:V) (xs:List V) (v:AJ) (us:AC) (Q:VK),Inv X pins σ H s->RelV x v->Vals xs us->r x xs H Q->
  wpAny ς X.A (call (.builtin id) (v::us)) (EP X pins σ Q) X.xe s
section
variable {X:Cx}{a b:AN}{ta tb:TE}{pos:Pos}
theorem Zrn{r:R2}(hr:IxR X r)(ha:PE X a ta)(hb:PE X b tb)(hs:Zb8 b):PE X (.Subscript a b pos) (aZ r ta tb):=by
 intro pins s σ H Q I h;exact Subscript_ (Zun ha hb I h λv u s2 x y H2 I2 rx ry q=>hr a b pins s2 σ H2 x y v u Q I2 rx ry q (hs _ _))
def fO(K:aG):R2:=λx y H Q=>∃p xs i v,x=.ref p/\y=.int i/\bO K H p xs/\atI xs i=some v/\Q v H
def dX(K:aG):R2:=λx y H Q=>∃p xs i v,x=.ref p/\y=.int i/\fc K H p xs/\atI xs i=some v/\Q v H
def Zly:R2:=λx y H Q=>∃z i c,x=.str z/\y=.int i/\z.length<=sizeLine/\atI z.cps.toList i=some c/\Q (.str ⟨#[c]⟩) H
theorem cj:IxR X (fO X.K):=by
 intro value slice pins s σ H x y v u Q I rx ry h hs;obtain⟨p,xs,i,z,rfl,rfl,hq,he,q⟩:=h;cases rx;obtain⟨t,rfl⟩:=ry;obtain⟨its,r,pl,hz⟩:=I.list hq;obtain⟨j,h1,h2,h3,h4,h5⟩:=Zam he;obtain⟨w,ew,rw'⟩:=r.get h2;have hl:=r.length;have hn:=Mq;have fin:EP X pins σ Q w s:=⟨z,H,I,rw',q⟩
 by_cases h0:0<=i
 ·have hj:i.toNat=j:=by
   rw[seqIndex_of h0 h5]at h1;exact Option.some.inj h1
  exact item_listR pl.isList h0 δ (by rw[hj];simpa using ew) fin hs
 ·have hj:(i+(its.toArray.size:Int)).toNat=j:=by
   rw[seqIndex_neg δ h4]at h1;rw[List.size_toArray,<- hl];exact Option.some.inj h1
  exact subscriptTail_builtinR (x:=w) pl.isList.typeIs slot_list_getitem.lookup
   (wpAny_getItem_list_neg (Q:=λr s'=>r=w/\EP X pins σ Q r s') pl.isList δ (by rw[List.size_toArray]<;>omega) δ (by rw[hj];simpa using ew) ⟨rfl,fin⟩) hs
theorem bM:IxR X (dX X.K):=by
 intro value slice pins s σ H x y v u Q I rx ry h hs;obtain⟨p,xs,i,z,rfl,rfl,hq,he,q⟩:=h;cases rx;obtain⟨t,rfl⟩:=ry;obtain⟨its,r,pl,hz⟩:=I.tuple hq;obtain⟨j,h1,h2,h3,h4,h5⟩:=Zam he;obtain⟨w,ew,rw'⟩:=r.get h2;have hl:=r.length;have hn:=Mq;have fin:EP X pins σ Q w s:=⟨z,H,I,rw',q⟩;exact subscriptTail_builtinR (x:=w) pl.typeIs slot_tuple_getitem.lookup
  (getItem_tuple (j:=j) (Q:=λr s'=>r=w/\EP X pins σ Q r s') pl δ δ (by rw[List.size_toArray,<- hl];exact h1) (by simpa using ew) ⟨rfl,fin⟩) hs
theorem Znj:IxR X Zly:=by
 intro value slice pins s σ H x y v u Q I rx ry h hs;obtain⟨z,i,c,rfl,rfl,hz,he,q⟩:=h;obtain⟨t,rfl⟩:=rx;obtain⟨t',rfl⟩:=ry;obtain⟨j,h1,h2,h3,h4,h5⟩:=Zam he;have hl:z.cps.toList.length=z.length:=by simp[Str.length]
 rw[hl]at h1 h4 h5;have hn:=Mq;exact tail_any (typeIs_str s z t) slot_str_getitem.lookup (getItem_str (c:=c) (by
  have e1:decide (i < -(2 ^ 63:Int))=false:=decide_eq_false δ;have e2:decide (i≥2 ^ 63)=false:=decide_eq_false δ;rw[e1,e2,Bool.or_false]) (by rw[h1];simpa using h2) ⟨.str ⟨#[c]⟩,H,I.tok _,⟨_,rfl⟩,q⟩) hs
theorem Zg6(its:AC)(n j:Nat)(u:AJ):Obj.mapSeq (·.setIfInBounds j u) { cls:=.type "list",data:=.seq its.toArray n }={ cls:=.type "list",data:=.seq (its.set j u).toArray n }:=by
 simp[Obj.mapSeq]
theorem Inv.lst{pins:At}{σ:St}{H:Hp}{s:AK}{p:AI}{xs:List V}(I:Inv X pins σ H s)(h:H p=some (.lst xs)):
  ∃(its:AC) (n:Nat),Vals xs its/\s.heap.get? p=some { cls:=.type "list",data:=.seq its.toArray n }/\xs.length<=sizeLine:=by
 obtain⟨z,its,n,r,e⟩:=I.hok p _ h;exact⟨its,n,r,e,z⟩
theorem Inv.Zt9{pins:At}{σ:St}{H:Hp}{s:AK}{p:AI}{xs ys:List V}{its its':AC}{n n':Nat}{f:Obj->Obj}(I:Inv X pins σ H s)(h:H p=some (.lst xs))
  (ho:s.heap.get? p=some { cls:=.type "list",data:=.seq its.toArray n }) (hf:f { cls:=.type "list",data:=.seq its.toArray n }={ cls:=.type "list",data:=.seq its'.toArray n' }) (r:Vals ys its') (hz:ys.length<=sizeLine) (t:Nat):
  Inv X pins σ (upd H p (.lst ys)) { s with heap:=s.heap.update p f,toks:=t }:=by
 have e:(s.heap.update p f).get? p=some { cls:=.type "list",data:=.seq its'.toArray n' }:=by
  rw[Heap.get?_update_self f ho (by rw[hf]<;>rfl),hf]
 refine I.write (x:=p) (e:=p) (by rw[h];trivial) (.inl rfl) (λb u hb q=>(Heap.get?_update_other _ _ (Ne.symm hb)).trans q) ⟨_,e⟩ ?_;exact⟨hz,its',n',r,e⟩
def FW:V->V->V->Hp->(Hp->Prop)->Prop:=λo i v H Q=>∃p xs k j,o=.ref p/\i=.int k/\H p=some (.lst xs)/\ixN xs.length k=some j/\Q (upd H p (.lst (xs.set j v)))
theorem set_list:Zx0 X FW:=by
 intro pins s σ H o i v ov iv u Q I ro ri rv h;obtain⟨p,xs,k,j,rfl,rfl,hp,hj,q⟩:=h;cases ro;obtain⟨t,rfl⟩:=ri;obtain⟨its,n,r,ho,hz⟩:=I.lst hp;obtain⟨h1,h2,h3,h4⟩:=Zig hj;have hl:=r.length;have hn:=Mq;have I':Inv X pins σ (upd H p (.lst (xs.set j v))) { s with heap:=s.heap.update p (Obj.mapSeq (·.setIfInBounds j u)) }:=
  I.Zt9 hp ho (Zg6 its n j u) (r.set rv j) (by rw[List.length_set];exact hz) s.toks
 by_cases h0:0<=k
 ·have hk:k.toNat=j:=by
   rw[seqIndex_of h0 h4]at h1;exact Option.some.inj h1
  exact W.ki_setAt ho h0 δ (by rw[List.size_toArray,<- hl];exact h4) (by rw[hk];exact⟨_,I',q⟩)
 ·have hk:(k+(its.toArray.size:Int)).toNat=j:=by
   rw[seqIndex_neg δ h3]at h1;rw[List.size_toArray,<- hl];exact Option.some.inj h1
  exact W.ki_setBack ho δ (by rw[List.size_toArray,<- hl];exact h3) δ (by rw[hk];exact⟨_,I',q⟩)
theorem Yk(lo hi:AA)(n:Nat):(sliceBounds lo hi none n).1=((HT.jW n 0 lo:Nat):Int)/\(sliceBounds lo hi none n).2.1=((HT.jW n n hi:Nat):Int)/\(sliceBounds lo hi none n).2.2=1:=by
 refine⟨?_,?_,rfl⟩
 ·cases lo with
  | none=>simp[sliceBounds,HT.jW]
  | some i=>
   simp only[sliceBounds,HT.jW,Option.getD_none,show(1:Int) > 0 by decide,if_true]
   by_cases h:i<0
   ·simp only[h,if_true]<;>omega
   ·simp only[h,if_false]<;>omega
 ·cases hi with
  | none=>simp[sliceBounds,HT.jW]
  | some i=>
   simp only[sliceBounds,HT.jW,Option.getD_none,show(1:Int) > 0 by decide,if_true]
   by_cases h:i<0
   ·simp only[h,if_true]<;>omega
   ·simp only[h,if_false]<;>omega
theorem Um(its:AC)(lo hi:AA):slicePick its.toArray lo hi none=((its.drop (HT.jW its.length 0 lo)).take (HT.jW its.length its.length hi - HT.jW its.length 0 lo)).toArray:=by
 obtain⟨h1,h2,h3⟩:=Yk lo hi its.toArray.size;unfold slicePick;rw[h1,h2,h3];simp only[sliceRange_one,pick_run,List.size_toArray]<;>rfl
def U0(K:aG):V->AA->AA->Hp->VK->Prop:=λx lo hi H Q=>∃a xs,x=.ref a/\bO K H a xs/\∀p,H p=none->Q (.ref p) (upd H p (.lst (M6 xs lo hi)))
theorem Io:SlR X (U0 X.K):=by
 intro pins s σ H x v vl vu lo hi sl Q I rx hs pl pu h;obtain⟨a,xs,rfl,hx,q⟩:=h;cases rx;obtain⟨its,r,ht,hz⟩:=I.list hx;have hlen:=r.length;refine⟨"list",_,slot_list_getitem.lookup,ht.isList.typeIs,?_⟩;refine wpAny_getItem_list_slice ht.isList hs pl pu .none ζ ?_ (by rw[List.size_toArray]<;>omega);rw[Um,<- hlen];refine⟨.ref s.heap.objs.size,_,I.laid (t':=s.toks) (o:=.lst (M6 xs lo hi)) (λb ob q=>Heap.get?_push_of_some _ q) υ ?_,rfl,q _ (I.hok.fresh υ)⟩;exact⟨Nat.le_trans (Zdw xs lo hi) hz,_,0,(r.drop (HT.jW xs.length 0 lo)).take (HT.jW xs.length xs.length hi - HT.jW xs.length 0 lo),Heap.get?_push_size _ rfl⟩
def iQ:V->Bool
 | .non=>true
 | .bl _=>true
 | .int _=>true
 | .str _=>true
 | _=>false
def eqV:V->V->Bool
 | .non,.non=>true
 | .bl a,.bl b=>a == b
 | .bl a,.int b=>(if a then 1 else 0) == b
 | .int a,.bl b=>a == (if b then 1 else 0)
 | .int a,.int b=>a == b
 | .str a,.str b=>a == b
 | _,_=>false
theorem Am{A:Around}{s:AK}{y x:V}{u v:AJ}(ry:RelV y u)(rx:RelV x v)(fy:iQ y=true)(fx:iQ x=true):SeqAt.EqAt A s u v (eqV y x):=by
 cases y with
 | non=>
  cases ry;cases x with
  | non=>cases rx;exact SeqAt.EqAt.same _
  | bl b=>cases rx;exact SeqAt.EqAt.none_bool b
  | int b=>obtain⟨t,rfl⟩:=rx;exact SeqAt.EqAt.none_int b t
  | str b=>obtain⟨t,rfl⟩:=rx;exact SeqAt.EqAt.none_str b t
  | _=>exact absurd (show false=true from fx) Bool.false_ne_true
 | bl a=>
  cases ry;cases x with
  | non=>cases rx;exact SeqAt.EqAt.bool_none a
  | bl b=>cases rx;exact SeqAt.EqAt.bool_bool a b
  | int b=>obtain⟨t,rfl⟩:=rx;exact SeqAt.EqAt.bool_int a b t
  | str b=>obtain⟨t,rfl⟩:=rx;exact SeqAt.EqAt.bool_str a b t
  | _=>exact absurd (show false=true from fx) Bool.false_ne_true
 | int a=>
  obtain⟨t',rfl⟩:=ry;cases x with
  | non=>cases rx;exact SeqAt.EqAt.int_none a t'
  | bl b=>cases rx;exact SeqAt.EqAt.int_bool a t' b
  | int b=>obtain⟨t,rfl⟩:=rx;exact SeqAt.EqAt.int_int a t' b t
  | str b=>obtain⟨t,rfl⟩:=rx;exact SeqAt.EqAt.int_str a t' b t
  | _=>exact absurd (show false=true from fx) Bool.false_ne_true
 | str a=>
  obtain⟨t',rfl⟩:=ry;cases x with
  | non=>cases rx;exact SeqAt.EqAt.str_none a t'
  | bl b=>cases rx;exact SeqAt.EqAt.str_bool a t' b
  | int b=>obtain⟨t,rfl⟩:=rx;exact SeqAt.EqAt.str_int a t' b t
  | str b=>obtain⟨t,rfl⟩:=rx;exact SeqAt.EqAt.str_str a t' b t
  | _=>exact absurd (show false=true from fx) Bool.false_ne_true
 | _=>exact absurd (show false=true from fy) Bool.false_ne_true
def eqU(x:V)(u:AJ):Bool:=match u with
 | .none=>eqV .non x
 | .bool b=>eqV (.bl b) x
 | .int i _=>eqV (.int i) x
 | .str z _=>eqV (.str z) x
 | _=>false
theorem Zoc{x y:V}{u:AJ}(r:RelV y u)(f:iQ y=true):eqU x u=eqV y x:=by
 cases y with
 | non=>cases r;rfl
 | bl b=>cases r;rfl
 | int i=>obtain⟨t,rfl⟩:=r;rfl
 | str z=>obtain⟨t,rfl⟩:=r;rfl
 | _=>exact absurd (show false=true from f) Bool.false_ne_true
theorem Kc{x:V}:∀{xs:List V}{us:AC},Vals xs us->xs.all iQ=true->us.any (eqU x)=xs.any λy=>eqV y x
 | _,_,.nil,_=>rfl
 | y::xs,u::us,.cons r t,f=>by
  rw[List.all_cons,Bool.and_eq_true]at f;rw[List.any_cons,List.any_cons,Zoc r f.1,Kc t f.2]
theorem Dj{A:Around}{s:AK}{x:V}{v:AJ}(rx:RelV x v)(fx:iQ x=true):∀{xs:List V}{us:AC},Vals xs us->xs.all iQ=true->∀u∈us,SeqAt.EqAt A s u v (eqU x u)
 | _,_,.nil,_=>λu hu=>by cases hu
 | y::xs,u::us,.cons r t,f=>λu' hu=>by
  rw[List.all_cons,Bool.and_eq_true]at f;rcases List.mem_cons.mp hu with rfl | hu
  ·rw[Zoc r f.1];exact Am r rx f.1 fx
  ·exact Dj rx fx t f.2 u' hu
def inV(x:V)(xs:List V):Bool:=xs.any λy=>eqV y x
def rIn(K:aG)(neg:Bool):R2:=λx y H Q=>∃p xs,y=.ref p/\(bO K H p xs\/fc K H p xs)/\iQ x=true/\xs.all iQ=true/\Q (.bl (if neg then !inV x xs else inV x xs)) H
theorem Zjs:yJ X (compareOp .In) (rIn X.K false):=by
 intro pins s σ H x y v u Q I rx ry h;obtain⟨p,xs,rfl,hq,fx,fs,q⟩:=h;cases ry;rcases hq with hq | hq
 ·obtain⟨its,r,pl,hz⟩:=I.list hq;refine SeqAt.in_listAt (eqU x) pl.isList (λw hw=>Dj rx fx r fs w (by simpa using hw)) ⟨.bl _,H,I,rfl,?_⟩;rw[show its.toArray.any (eqU x)=its.any (eqU x) by simp,Kc r fs];exact q
 ·obtain⟨its,r,pl,hz⟩:=I.tuple hq;refine SeqAt.in_tupleAt (eqU x) pl (λw hw=>Dj rx fx r fs w (by simpa using hw)) ⟨.bl _,H,I,rfl,?_⟩;rw[show its.toArray.any (eqU x)=its.any (eqU x) by simp,Kc r fs];exact q
theorem Y9:yJ X (compareOp .NotIn) (rIn X.K true):=by
 intro pins s σ H x y v u Q I rx ry h;obtain⟨p,xs,rfl,hq,fx,fs,q⟩:=h;cases ry;rcases hq with hq | hq
 ·obtain⟨its,r,pl,hz⟩:=I.list hq;refine SeqAt.notIn_listAt (eqU x) pl.isList (λw hw=>Dj rx fx r fs w (by simpa using hw)) ⟨.bl _,H,I,rfl,?_⟩;rw[show its.toArray.any (eqU x)=its.any (eqU x) by simp,Kc r fs];exact q
 ·obtain⟨its,r,pl,hz⟩:=I.tuple hq;refine SeqAt.notIn_tupleAt (eqU x) pl (λw hw=>Dj rx fx r fs w (by simpa using hw)) ⟨.bl _,H,I,rfl,?_⟩;rw[show its.toArray.any (eqU x)=its.any (eqU x) by simp,Kc r fs];exact q
theorem Zad:Ks X (.builtin "len") (λxs H Q=>∃p ys,xs=[.ref p]/\(bO X.K H p ys\/fc X.K H p ys)/\Q (.int ys.length) H):=by
 intro pins s σ H xs us Q I r h;obtain⟨p,ys,rfl,hq,q⟩:=h;obtain⟨u,rfl,rx⟩:=vals1 r;cases rx;have hn:=Mq;rcases hq with hq | hq
 ·obtain⟨its,r',pl,hz⟩:=I.list hq;have hlen:=r'.length;exact Calls.call_len_list pl.isList (by simp only[List.size_toArray]<;>omega) ⟨.int ys.length,H,I.tok _,⟨s.toks+1,by rw[List.size_toArray,hlen]⟩,q⟩
 ·obtain⟨its,r',pl,hz⟩:=I.tuple hq;have hlen:=r'.length;exact len_tuple pl (by simp only[List.size_toArray]<;>omega) ⟨.int ys.length,H,I.tok _,⟨s.toks+1,by rw[List.size_toArray,hlen]⟩,q⟩
theorem Ka:Ks X (.type "list") (λxs H Q=>∃p ys,xs=[.ref p]/\(bO X.K H p ys\/fc X.K H p ys)/\∀l,H l=none->Q (.ref l) (upd H l (.lst ys))):=by
 intro pins s σ H xs us Q I r h;obtain⟨p,ys,rfl,hq,q⟩:=h;obtain⟨u,rfl,rx⟩:=vals1 r;cases rx;have fin:∀(its:AC),Vals ys its->ys.length<=sizeLine->∀(h':Heap) (c':Nat),(∀b o',s.heap.get? b=some o'->h'.get? b=some o')->
   h'.get? s.heap.objs.size=some { cls:=.type "list",dict:=none,data:=.seq its.toArray c',slots:=#[] }->EP X pins σ Q (.ref s.heap.objs.size) { s with heap:=h' }:=λits r' hz h' c' kp e=>
  ⟨.ref s.heap.objs.size,_,I.laid (t':=s.toks) kp υ (show gj X.prog X.w _ h' _ (.lst ys)from⟨hz,its,c',r',e⟩),rfl,q _ (I.hok.fresh υ)⟩
 rcases hq with hq | hq
 ·obtain⟨its,r',pl,hz⟩:=I.list hq;have hlen:=r'.length;obtain⟨o,ho,hc,n,hd⟩:=pl.isList;exact call_list_seq p (.inl rfl) ho hc hd (λh' c' kp e=>fin its r' hz h' c' kp e) (by simp only[List.size_toArray]<;>omega)
 ·obtain⟨its,r',pl,hz⟩:=I.tuple hq;have hlen:=r'.length;obtain⟨o,ho,hc,n,hd⟩:=pl;exact call_list_seq p (.inr rfl) ho hc hd (λh' c' kp e=>fin its r' hz h' c' kp e) (by simp only[List.size_toArray]<;>omega)
def tyV(K:aG)(T:String)(x:V)(H:Hp):Prop:=match x with
 | .str _=>T="str"
 | .int _=>T="int"
 | .ref p=>(T="list"/\∃xs,bO K H p xs)\/(T="tuple"/\∃o,K.lookup p=some o/\o.cls=.type "tuple"/\o.dict=none)\/
   (T="dict"/\((∃kvs,H p=some (.dK kvs))\/∃kvs,H p=some (.dT kvs)))\/(T="set"/\∃S n,H p=some (.set S n))
 | _=>False
theorem Zs6{pins:At}{σ:St}{H:Hp}{s:AK}{T:String}{x:V}{v:AJ}(I:Inv X pins σ H s)(r:RelV x v)(ty:tyV X.K T x H):
  s.TypeIs v T/\∀a,v=.ref a->∃ob,s.heap.get? a=some ob/\ob.dict=none:=by
 cases x with
 | str z=>
  obtain⟨t,rfl⟩:=r;cases (show T="str" from ty);exact⟨typeIs_str s z t,λ_ e=>nomatch e⟩
 | int i=>
  obtain⟨t,rfl⟩:=r;cases (show T="int" from ty);exact⟨typeIs_int s i t,λ_ e=>nomatch e⟩
 | ref p=>
  cases r;rcases ty with ⟨rfl,xs,hq⟩ | ⟨rfl,o,hk,hc,hd⟩ | ⟨rfl,hk⟩ | ⟨rfl,S,n,hk⟩
  ·obtain⟨its,_,pl,_⟩:=I.list hq;refine⟨pl.isList.typeIs,λa e=>?_⟩;cases e;obtain⟨o,n,e,c,hd,_⟩:=pl;exact⟨o,e,hd⟩
  ·refine⟨⟨o,I.um p o hk,hc⟩,λa e=>?_⟩;cases e;exact⟨o,I.um _ o hk,hd⟩
  ·have z:∃o,s.heap.get? p=some o/\o.ExactDict:=by
    rcases hk with ⟨kvs,hk⟩ | ⟨kvs,hk⟩
    ·obtain⟨_,_,_,_,o,_,_,e,ex,_⟩:=I.hok p _ hk;exact⟨o,e,ex⟩
    ·obtain⟨_,_,_,_,o,_,_,e,ex,_⟩:=I.hok p _ hk;exact⟨o,e,ex⟩
   obtain⟨o,e,ex⟩:=z;refine⟨⟨o,e,ex.1⟩,λa e2=>?_⟩;cases e2;exact⟨o,e,ex.2.1⟩
  ·obtain⟨o,_,_,_,e,ex,_⟩:=I.hok p _ hk;refine⟨⟨o,e,ex.1⟩,λa e2=>?_⟩;cases e2;exact⟨o,e,ex.2.1⟩
 | _=>exact False.elim ty
def Wr(K:aG)(T:String)(r:V->List V->Hp->VK->Prop)(to:TE)(t:TA):TE:=λσ H Q=>to σ H λx H1=>tyV K T x H1/\t σ H1 λxs H2=>r x xs H2 Q
variable {o e:AN}{es:AG}{to:TE}{t:TA}{name:Str}{apos cpos:Pos}{T id:String}{r:V->List V->Hp->VK->Prop}
theorem qO(pa:PlainAttrs T)(slot:Slot T name id)(hty:typeOf (.builtin id)=pure (.type "method_descriptor"))(hm:MtR X id r)(ho:PE X o to)(ha:PA X (e::es) t)
  (hbase:attributeBase o name X.env (eval o X.env)=eval o X.env:=by rfl)
  (hfew:((backTo cpos (starEach (e::es) X.env)).all (λx=>!x.1) && (backToKw cpos (keywordEach [] X.env)).all (λx=>x.1.isSome)
   && decide ((e::es).length+([]:List Keyword).length+(if ([]:List Keyword).isEmpty then 0 else 1)<30))=true:=by rfl)
  (hline:(apos.endLine == cpos.line)=true:=by rfl) (hs:starEach (e::es) X.env=(false,eval e X.env)::starEach es X.env:=by rfl) (hplain:(backTo cpos (starEach es X.env)).any (·.1)=false:=by rfl):
  PE X (.Call (.Attribute o name apos) (e::es) [] cpos) (Wr X.K T r to t):=by
 intro pins s σ H Q I h;refine wpAny_Call_method_late hbase hfew hline rfl (gB (ho pins s σ H _ I h) λv s1 qc=>?_);obtain⟨x,H1,I1,r1,ty,q1⟩:=qc;obtain⟨h1,h2⟩:=Zs6 I1 r1 ty;refine⟨T,id,pa,slot,hty,h1,h2,?_⟩;have hA:=ha cpos pins s1 σ H1 _ I1 q1;rw[hs]at hA ⊢;refine Calls.callWith_builtin (by show(false || (backTo cpos (starEach es X.env)).any (·.1))=false;rw[hplain]<;>rfl) (Calls.evalArgs_plain ?_);exact gB hA (by rintro us s2 ⟨vs,H2,I2,r2,q2⟩;exact hm pins s2 σ H2 x vs v us Q I2 r1 r2 q2)
end
def MtM(X:Cx)(id:String)(r:V->List V->Hp->VK->Prop):Prop:=
 ∀(pins:At) (s:AK) (σ:St) (H:Hp) (x:V) (xs:List V) (v:AJ) (us:AC) (Q:VK),Inv X pins σ H s->RelV x v->Vals xs us->r x xs H Q->
  wpAny ς X.A (call (.builtin id) (v::us)) (EP X pins σ Q) X.xe s
theorem Vals.one:∀{x:V}{us:AC},Vals [x] us->∃u,us=[u]/\RelV x u
 | _,_,.cons r .nil=>⟨_,rfl,r⟩
theorem Vals.eraseIdx:∀{xs:List V}{us:AC} (i:Nat),Vals xs us->Vals (xs.eraseIdx i) (us.eraseIdx i)
 | _,_,_,.nil=>.nil
 | _,_,0,.cons _ t=>t
 | _,_,i+1,.cons r t=>.cons r (Vals.eraseIdx i t)
theorem Vals.rep{xs:List V}{us:AC}(h:Vals xs us):∀k:Nat,Vals (List.replicate k xs).flatten (List.replicate k us).flatten
 | 0=>.nil
 | k+1=>by
  rw[List.replicate_succ,List.replicate_succ,List.flatten_cons,List.flatten_cons];exact Vals.append h (Vals.rep h k)
theorem Xa{α:Type}:∀(l:List α) (i:Nat),(l.eraseIdx i).length<=l.length
 | [],_=>Nat.le_refl _
 | _::_,0=>Nat.le_succ _
 | _::r,i+1=>Nat.succ_le_succ (Xa r i)
theorem foldl_rep(its:AC):∀(k:Nat) (acc:AC),
  List.foldl (λx1 x2=>x1++x2) acc.toArray (List.replicate k its.toArray)=(acc++(List.replicate k its).flatten).toArray
 | 0,acc=>ζ
 | k+1,acc=>by
  have e:acc.toArray++its.toArray=(acc++its).toArray:=ζ
  have e2:(acc++its)++(List.replicate k its).flatten=acc++(List.replicate (k+1) its).flatten:=by
   rw[List.replicate_succ,List.flatten_cons,List.append_assoc]
  rw[<- e2,<- foldl_rep its k (acc++its),<- e,List.replicate_succ,List.foldl_cons]
section
variable {X:Cx}{pins:At}{σ:St}{H:Hp}{s:AK}{l b:AI}{xs ys zs:List V}
theorem Inv.Zta{its its':AC}{n:Nat}{f:Array AJ->Array AJ}{t':Nat}(I:Inv X pins σ H s)(hH:H l=some (.lst xs))
  (e:s.heap.get? l=some { cls:=.type "list",data:=.seq its.toArray n }) (hf:f its.toArray=its'.toArray) (hv:Vals ys its') (hz:ys.length<=sizeLine):
  Inv X pins σ (upd H l (.lst ys)) { s with heap:=s.heap.update l (Obj.mapSeq f),toks:=t' }:=by
 have q:=PySem.IsL.update e f;rw[hf]at q;refine I.write (x:=l) (e:=l) (by rw[hH];exact trivial) (.inl rfl) (λb' u hb hu=>(Heap.get?_update_other s.heap (Obj.mapSeq f) (Ne.symm hb)).trans hu) ⟨_,q⟩ ?_;exact⟨hz,its',_,hv,q⟩
theorem Inv.Zvf{its:AC}{t':Nat}(I:Inv X pins σ H s)(hv:Vals ys its)(hz:ys.length<=sizeLine):
  Inv X pins σ (upd H s.heap.objs.size (.lst ys)) { s with heap:=s.heap.push { cls:=.type "list",data:=.seq its.toArray },toks:=t' }:=
 I.laid (λ_ _ q=>Heap.get?_push_of_some _ q) υ ⟨hz,its,0,hv,Heap.get?_push_size _ rfl⟩
theorem Inv.fresh(I:Inv X pins σ H s):H s.heap.objs.size=none:=I.hok.fresh υ
theorem Inv.Zgc(I:Inv X pins σ H s)(hH:H l=some (.lst xs)):xs.length<=sizeLine/\∃(its:AC) (n:Nat),Vals xs its/\xs.length=its.length/\s.heap.get? l=some { cls:=.type "list",data:=.seq its.toArray n }:=by
 obtain⟨z,its,n,r,e⟩:=I.hok l _ hH;exact⟨z,its,n,r,r.length,e⟩
theorem Zce{n:Nat}(h:n<=sizeLine):Builtin.List.listTooLong n=false:=by
 unfold Builtin.List.listTooLong;exact decide_eq_false δ
end
section
variable {X:Cx}
def jN:V->List V->Hp->VK->Prop:=λx vs H Q=>∃l xs y,x=.ref l/\vs=[y]/\H l=some (.lst xs)/\xs.length<sizeLine/\Q .non (upd H l (.lst (xs++[y])))
theorem gq:MtM X "list.append" jN:=by
 intro pins s σ H x vs v us Q I rx rv h;obtain⟨l,xs,y,rfl,rfl,hH,hz,q⟩:=h;cases rx;obtain⟨u,rfl,ru⟩:=rv.one;obtain⟨z,its,n,r,hl,e⟩:=I.Zgc hH;refine call_meets F.slot_list_append ⟨_,e,rfl⟩ F.entry_list_append (F.args_list_append_2 _ _) (PySem.list_append l its.toArray n u (by rw[List.size_toArray];omega)) ⟨e,?_⟩;refine⟨.non,_,I.Zta (its':=its++[u]) hH e ζ (r.append (.cons ru .nil)) ?_,rfl,q⟩;rw[List.length_append,List.length_singleton];omega
def PB:V->List V->Hp->VK->Prop:=λx vs H Q=>∃l b xs zs,x=.ref l/\vs=[.ref b]/\H l=some (.lst xs)/\H b=some (.lst zs)/\xs.length+zs.length<=sizeLine/\Q .non (upd H l (.lst (xs++zs)))
theorem LK:MtM X "list.extend" PB:=by
 intro pins s σ H x vs v us Q I rx rv h;obtain⟨l,b,xs,zs,rfl,rfl,hH,hB,hz,q⟩:=h;cases rx;obtain⟨u,rfl,ru⟩:=rv.one;cases ru;obtain⟨z,its,n,r,hl,e⟩:=I.Zgc hH;obtain⟨z2,its2,n2,r2,hl2,e2⟩:=I.Zgc hB;have hsz:its.toArray.size+its2.toArray.size<=sizeLine:=by rw[List.size_toArray,List.size_toArray];omega
 have Znt:¬ (!its.toArray.isEmpty && Builtin.List.listTooLong (its.toArray.size+its2.toArray.size))=true:=by
  rw[Zce hsz,Bool.and_false];exact Bool.false_ne_true
 refine call_meets F.slot_list_extend ⟨_,e,rfl⟩ F.entry_list_extend (F.args_list_extend_2 _ _)
  (AutoSeq1.list_extend_list_list_0 l its.toArray n b its2.toArray n2 Znt (by rw[List.size_toArray];omega) δ) ⟨e,e2,?_⟩
 refine⟨.non,_,I.Zta (its':=its++its2) hH e ζ (r.append r2) ?_,rfl,q⟩;rw[List.length_append];omega
def Zlw:V->List V->Hp->VK->Prop:=λx vs H Q=>∃l xs i k y,x=.ref l/\vs=[.int i]/\H l=some (.lst xs)/\-(2 ^ 63)<=i/\i<2 ^ 63/\seqIndex? i xs.length=some k/\xs[k]? =some y/\Q y (upd H l (.lst (xs.eraseIdx k)))
theorem Zmx:MtM X "list.pop" Zlw:=by
 intro pins s σ H x vs v us Q I rx rv h;obtain⟨l,xs,i,k,y,rfl,rfl,hH,h1,h2,hk,hy,q⟩:=h;cases rx;obtain⟨u,rfl,ru⟩:=rv.one;obtain⟨t,rfl⟩:=ru;obtain⟨z,its,n,r,hl,e⟩:=I.Zgc hH;obtain⟨w,hw,rw'⟩:=r.get hy;refine call_meets F.slot_list_pop ⟨_,e,rfl⟩ F.entry_list_pop (F.args_list_pop_2 _ _)
  (MeetsSeq.list_pop_at l its.toArray n i t k w (fitsIndex_both h1 h2) (by rw[List.size_toArray,<- hl];exact hk) (by rw[<- Array.getElem?_toList];exact hw) (by rw[List.size_toArray];omega)) ⟨e,?_⟩
 refine⟨y,_,I.Zta (its':=its.eraseIdx k) hH e ?_ (r.eraseIdx k) ?_,rw',q⟩
 ·show its.toArray.eraseIdxIfInBounds k=(its.eraseIdx k).toArray;rw[List.eraseIdxIfInBounds_toArray]
 ·have:=Xa xs k;omega
def Zsn:R2:=λx y H Q=>∃l b xs zs,x=.ref l/\y=.ref b/\H l=some (.lst xs)/\H b=some (.lst zs)/\xs.length+zs.length<=sizeLine/\∀p,H p=none->Q (.ref p) (upd H p (.lst (xs++zs)))
theorem Zmg:yJ X (binaryOp .Add) Zsn:=by
 intro pins s σ H x y v u Q I rx ry h;obtain⟨l,b,xs,zs,rfl,rfl,hH,hB,hz,q⟩:=h;cases rx;cases ry;obtain⟨z,its,n,r,hl,e⟩:=I.Zgc hH;obtain⟨z2,its2,n2,r2,hl2,e2⟩:=I.Zgc hB;refine PySem.P.add_list e e2 ?_ (by rw[List.size_toArray,List.size_toArray];omega);have ea:its.toArray++its2.toArray=(its++its2).toArray:=ζ
 rw[ea];exact⟨.ref _,_,I.Zvf (t':=s.toks) (r.append r2) (by rw[List.length_append];omega),rfl,q _ I.fresh⟩
def Zsl:R2:=λx y H Q=>∃l k xs,x=.ref l/\y=.int k/\H l=some (.lst xs)/\-(2 ^ 63)<=k/\k<2 ^ 63/\xs.length * k.toNat<=sizeLine/\
 ∀p,H p=none->Q (.ref p) (upd H p (.lst (List.replicate k.toNat xs).flatten))
theorem len_rep{α:Type}(xs:List α)(k:Nat):(List.replicate k xs).flatten.length=k * xs.length:=by
 induction k with
 | zero=>simp
 | succ k ih=>rw[List.replicate_succ,List.flatten_cons,List.length_append,ih,Nat.succ_mul,Nat.add_comm]
theorem Zmf:yJ X (binaryOp .Mult) Zsl:=by
 intro pins s σ H x y v u Q I rx ry h;obtain⟨l,k,xs,rfl,rfl,hH,h1,h2,hz,q⟩:=h;cases rx;obtain⟨t,rfl⟩:=ry;obtain⟨z,its,n,r,hl,e⟩:=I.Zgc hH;have hlen:its.toArray.size * k.toNat<=sizeLine:=by rw[List.size_toArray,<- hl];exact hz
 have hcap:¬ its.toArray.size * k.toNat > (2 ^ 63 - 1) / 8:=by
  have:(sizeLine:Nat)<=(2 ^ 63 - 1) / 8:=ε
  omega
 have hfit:¬ (!Builtin.List.listFitsIndex k)=true:=by
  rw[fitsIndex_both h1 h2];exact Bool.false_ne_true
 have Znt:¬ Builtin.List.listTooLong (its.toArray.size * k.toNat)=true:=by
  rw[Zce hlen];exact Bool.false_ne_true
 have hnew:List.foldl (λx1 x2=>x1++x2) #[] (List.replicate (if its.toArray.isEmpty=true then 0 else k.toNat) its.toArray)=(List.replicate k.toNat its).flatten.toArray:=by
  have f0:∀m:Nat,List.foldl (λx1 x2=>x1++x2) #[] (List.replicate m its.toArray)=(List.replicate m its).flatten.toArray:=λm=>by
   have:=foldl_rep its m [];rw[List.nil_append]at this;exact this
  rw[f0];cases its with
  | nil=>simp
  | cons a r'=>rw[if_neg ζ]
 refine wpAny_binaryOp_repeat_ref (T:="list") (U:="int") ε ⟨_,e,rfl⟩ (λs'=>typeIs_int s' k t) noFill_list_mul F.fills_int_mul F.slot_int_rmul repeat_list F.slot_int_index.lookup
  (call_meets F.slot_int_rmul (typeIs_int s k t) F.entry_int_rmul (F.args_int_rmul_2 _ _) (int___rmul___int_list k t l its.toArray n)
   ⟨e,rfl,⟨_,e,rfl⟩,call_meets F.slot_list_mul ⟨_,e,rfl⟩ F.entry_list_mul (F.args_list_mul_2 _ _) (AutoListH.list___mul___list_int_3 l its.toArray n k t hfit hcap Znt) ⟨e,?_⟩⟩)
 rw[hnew];exact⟨.ref _,_,I.Zvf (t':=s.toks) (r.rep k.toNat) (by rw[len_rep,Nat.mul_comm];exact hz),rfl,q _ I.fresh⟩
end
section
variable {prog:AM}{w:AO}{A:Around}{E:Ap}{s:AK}
end
section
variable {X:Cx}
end
end L2
namespace Att
open PySem PySem.W PySem.Calls PyProof.Rows
theorem Pj{P:Params}{h:Heap}:∀(ns:AE) (vs:AC),WellAll P h vs (ns.map WData.int)->IntsAre vs ns:=by
 intro ns
 induction ns with
 | nil=>
  intro vs w;rw[List.map_nil]at w;cases w;exact .nil
 | cons n ns ih=>
  intro vs w;rw[List.map_cons]at w;cases w with
  | cons a b=>
   cases a;exact .cons _ _ (ih _ b)
theorem Zjc{l:OpenLaw}{n:Nat}(hn:l.most=some n){P:Params}{h:Heap}{args:List WData}{vals:AC}
  (hpre:l.row.toRowW.claim.pre args=true) (hwl:WellAll P h vals args):
  ∃a vs ns,vals=[Value.ref a]/\args=[WData.list (ns.map WData.int)]/\h.get? a=some { cls:=.type "list",data:=.seq vs.toArray }/\IntsAre vs ns/\ns.length<=n:=by
 have hsh:WShape.hasAll [] args [.list .int]=true:=(pre_splitW hpre).1;have hc:l.pre.holds [] { args:=args }=true:=(pre_splitW hpre).2;obtain⟨d,r,rfl,h1,h2⟩:=hasAllW_cons hsh;obtain rfl:=hasAllW_nil h2;obtain⟨xs,rfl,h3⟩:=hasW_list h1;obtain⟨ns,rfl⟩:=items_int h3;have hlen:ns.length<=n:=by
  unfold OpenLaw.pre at hc;have h4:(WTm.not (.lt (.lit (.int (n:Int))) (.len (.arg 0)))).holds [] { args:=[.list (ns.map .int)] }=true:=by
   have h4:=(holds_andW hc).1;rw[hn]at h4;exact h4
  have h5:=condW_of h4 (w_not (w_lt w_lit (w_len_list (w_arg rfl))));rw[bx]at h5;refine Nat.le_of_not_lt λq=>?_;have q':(n:Int)<((ns.length:Nat):Int):=δ
  first
   | (rw[decide_eq_true q']at h5;exact absurd h5 ε)
   | (simp at h5;omega)
 cases hwl with
 | cons w1 w2=>
  cases w2;cases w1 with
  | list ho hall=>exact⟨_,_,ns,rfl,rfl,ho,Pj ns _ hall,hlen⟩
theorem Zjl(l:OpenLaw)(args:List WData):l.row.toRowW.claim.post args (.bool true) args=true:=
 postW_of (r:=l.row.toRowW) (X:=(true == true))
  (show WShape.has [] (.bool true) .bool=true by first | rfl | decide | simp[WShape.has,WShape.arms,WShape.armsAll])
  (show(WTm.eq .res (.lit (.bool true))).value [] { args:=args,res:=some (.bool true),after:=args }=some (.bool (true == true))from w_eq_bool (w_res rfl) w_lit) rfl
theorem Ze2{l:OpenLaw}{n:Nat}{q:AM}{loose:AH}{XP:(As)->Heap->Prop}{YP:AO->Heap->Prop}{d:DefRec}
  (hn:l.most=some n) (hdf:d.params.defaults=[])
  (call:∀(w:AO) (s₀ s₁:AK) (mg mb:As) (fa:AI) (o:Obj) (pm cd doc:AJ) (a:AI) (vs:AC) (ns:AE),
   Ground q loose [] XP w s₀ mg mb s₁.heap->YP w s₁.heap->
   s₁.heap.get? fa=some o->o.data=.func (docDef d.name d.params d.body d.scope pm cd doc)->s₁.heap.CodeRec cd d.name->mg d.name=↑fa->
   s₁.heap.get? a=some { cls:=.type "list",data:=.seq vs.toArray }->IntsAre vs ns->ns.length<=n->s₁.gens=#[]->
   codeAny (model l.prog w) callerA (.call (.ref fa) ⟨[.ref a],[]⟩) (λr s'=>r=.ok (.ret (.bool true))/\OldK s₁.heap s'.heap/\s'.os=s₁.os/\AllBare s'.gens) s₁):
  WalkO q loose XP YP l.row.toRowW d [] (λf vs=>PySem.call f vs):=by
 intro w s₀ s₁ mg mb G Y fa o pm cd doc dV kV ho hd hcd hD hmg hg args vals as hpre hlay hrd hwl hlo;obtain rfl:dV=.none:=Dflts.none hD hdf;obtain rfl:kV=.none:=Dflts.noKw hD;obtain⟨a,vs,ns,rfl,rfl,hobj,hints,hlen⟩:=Zjc hn hpre hwl;refine enter_call (codeAny_mono (call w s₀ s₁ mg mb fa o pm cd doc a vs ns G Y ho (fd_plain hd) hcd hmg hobj hints hlen hg) λr s' hq=>?_);obtain⟨rfl,h2,h3,h4⟩:=hq;exact⟨.inl ⟨.bool true,.bool true,[],rfl,λ_=>rfl,.bool true,Zjl l _,λ_=>⟨List.Pairwise.nil,λ_ hm=>(nomatch hm)⟩⟩,h2,h3,h4⟩
section
variable {prog:AM}{w:AO}{A:Around}{E:Ap}{s:AK}{K:Frag}
end
end Att
namespace L2
open PySem PySem.Spec PyProof.Rows
theorem V7:∀{vs:AC}{ns:AE},IntsAre vs ns->Vals (ns.map V.int) vs
 | _,_,.nil=>.nil
 | _,_,.cons n t h=>.cons ⟨t,rfl⟩ (V7 h)
def Only(H:Hp):Prop:=∀b,H b=none\/∃o xs,H b=some (.yL o (.lst xs))
theorem Znf{P:AM}{w:AO}{K:aG}{mg mb:As}{CX:CXT}{k:Nat}{fa a:AI}{fd:AL}{x:Str}{sp:Sp}{s₁:AK}{vs:AC}{ns:AE}
  (KX:K.In s₁.heap) (hns:s₁.heap.Ns mainGlobals mg) (hb:s₁.heap.Ns builtinsNs mb) (hbb:∀x:Str,x≠"__name__"->mb x=bootBuiltins x) (hlim:s₁.heap.NoLimit) (hg:s₁.gens=#[])
  (ha:s₁.heap.get? a=some { cls:=.type "list",data:=.seq vs.toArray }) (hi:IntsAre vs ns) (hl:ns.length<=sizeLine) (hr:Room k callerA)
  (F:∀base:Heap,K.In base->base.Ns mainGlobals mg->vB P w K mg base CX k fa fd [x] sp) (hbind:∀(s:AK) (u:AJ),BindsTo s fd ⟨[u],[]⟩ [(x,u)])
  (hsp:∀H:Hp,Only H->bO K H a (ns.map V.int)->sp [.ref a] H (λv _=>v=.bl true) λ_ _ _=>False)
  (hCX:∀H e s',CX [] H s₁ (λ_ _ _=>False) e s'->False):
  codeAny (model P w) callerA (.call (.ref fa) ⟨[.ref a],[]⟩) (λr s'=>r=.ok (.ret (.bool true))/\OldK s₁.heap s'.heap/\s'.os=s₁.os/\AllBare s'.gens) s₁:=by
 have rv:=V7 hi;have lenV:=hi.length;have core:∀H:Hp,Only H->bO K H a (ns.map V.int)->Eo P w H s₁.heap->(∀b,H b≠none->b=a)->(H a≠none->K.lookup a=none)->
   codeAny (model P w) callerA (.call (.ref fa) ⟨[.ref a],[]⟩) (λr s'=>r=.ok (.ret (.bool true))/\OldK s₁.heap s'.heap/\s'.os=s₁.os/\AllBare s'.gens) s₁:=by
  intro H hO hS hok hA hK;have Ziy:∀{b:AI}{o:Obj},s₁.heap.get? b=some o->H b=none->(Za3 s₁.heap H).get? b=some o:=λe n=>Znu e n;have noA:∀{b:AI}{o:Obj}{es:Array DictEntry}{ep:Nat},s₁.heap.get? b=some o->o.data=.dict es ep->H b=none:=λ{b o es ep} e d=>by
   cases q:H b with
   | none=>rfl
   | some u=>
    have e':b=a:=hA b (by rw[q];simp);subst e';rw[ha]at e;cases e;have d':Data.seq vs.toArray _=Data.dict es ep:=d;cases d'
  have nsK:∀{b:AI}{m:As},s₁.heap.Ns b m->(Za3 s₁.heap H).Ns b m:=λ{b m} ⟨o,es,ep,e,d,r⟩=>⟨o,es,ep,Ziy e (noA e d),d,r⟩;have hKb:K.In (Za3 s₁.heap H):=λb o e=>Ziy (KX b o e) (by
   cases q:H b with
   | none=>rfl
   | some u=>
    have e':b=a:=hA b (by rw[q];simp);subst e';rw[hK (by rw[q];simp)]at e;cases e)
  have hM:Mod K mg (Za3 s₁.heap H):=⟨hKb,nsK hns,⟨mb,nsK hb,hbb⟩,let ⟨mc,h1,h2⟩:=hlim;⟨mc,nsK h1,h2⟩⟩;have e0:Zbc P w K mg (Za3 s₁.heap H) callerA [] s₁ H:=⟨rfl,hM,λb o e=>Zq2 e,Nat.le_of_eq (Zkl _ _),trivial,λb hb=>absurd (show b∈([]:AF)from hb) ζ,hok,.of_eq hg⟩;refine codeAny_mono ((F _ hKb (nsK hns)).run callerA [] s₁ H ⟨[.ref a],[]⟩ [.ref a] [.ref a] _ _ hr e0 (hbind s₁ (.ref a)) (.cons rfl .nil) (hsp H hO hS)) λr s' h=>?_;cases r with
  | error e=>exact(hCX H e s' h).elim
  | ok fl=>
   cases fl with
   | next=>exact False.elim h
   | brk=>exact False.elim h
   | cont=>exact False.elim h
   | ret u=>
    obtain⟨v,H',os,bare,un,hok',r',q⟩:=h;have q':v=.bl true:=q;subst q';obtain rfl:u=Value.bool true:=r';refine⟨rfl,OldK.of_keep λb o e=>?_,os,bare⟩;cases q:H b with
    | none=>exact un.keep b o e q (by intro z;exact absurd (show b∈([]:AF)from z) ζ) ζ
    | some u=>
     rcases hO b with z | ⟨ob,xs,z⟩
     ·rw[q]at z;cases z
     ·have z2:=un.Hr b ob _ z;obtain⟨e1,_⟩:=hok b _ z;obtain⟨e2,_⟩:=hok' b _ z2;rw[e]at e1;cases e1;exact e2
 cases hk:K.lookup a with
 | some o=>
  have e:=KX a o hk;rw[ha]at e;cases e;refine core (λ_=>none) (λ_=>.inl rfl) (.inr ⟨_,vs.toArray,_,hk,rfl,rfl,rfl,by rw[List.size_toArray,lenV];exact hl,by simpa using rv⟩) (λb u z=>by have z':(none:Option HO)=some u:=z;cases z') (λb z=>absurd rfl z) λz=>absurd rfl z
 | none=>
  refine core (λb=>if b=a then some (.yL { cls:=.type "list",data:=.seq vs.toArray } (.lst (ns.map V.int)))else none) (λb=>?_) (.inl (.inr ⟨{ cls:=.type "list",data:=.seq vs.toArray },if_pos rfl⟩)) (λb u z=>?_) (λb z=>?_) λ_=>hk
  ·by_cases hb:b=a
   ·exact .inr ⟨_,_,if_pos hb⟩
   ·exact .inl (if_neg hb)
  ·by_cases hb:b=a
   ·have z':=(if_pos hb).symm.trans z;cases z';subst hb;exact⟨ha,by rw[bx];exact hl,vs,_,rv,ha⟩
   ·have z':=(if_neg hb).symm.trans z;cases z'
  ·by_cases hb:b=a
   ·exact hb
   ·exact absurd (if_neg hb) z
theorem Zp3{l:W.OpenLaw}{n k:Nat}{q:AM}{loose:AH}{XP:(As)->Heap->Prop}{YP:AO->Heap->Prop}{d:DefRec}{K:Params->aG}{CX:AO->CXT}{sp:AO->Sp}{x:Str}
  (hn:l.most=some n) (hn2:n<=sizeLine) (hdf:d.params.defaults=[]) (hr:Room k callerA)
  (hY:∀(w:AO) (h:Heap),YP w h->(K w.params).In h)
  (F:∀(w:AO) (mg:As) (fa:AI) (h:Heap),(K w.params).In h->h.Ns mainGlobals mg->mg d.name=↑fa->
   ∃fd:AL,(∀(s:AK) (u:AJ),BindsTo s fd ⟨[u],[]⟩ [(x,u)])/\
    ∀base:Heap,(K w.params).In base->base.Ns mainGlobals mg->vB l.prog w (K w.params) mg base (CX w) k fa fd [x] (sp w))
  (hsp:∀(w:AO) (H:Hp) (a:AI) (ns:AE),ns.length<=n->Only H->bO (K w.params) H a (ns.map V.int)->sp w [.ref a] H (λv _=>v=.bl true) λ_ _ _=>False)
  (hCX:∀(w:AO) (H:Hp) (s:AK) (e:AJ) (s':AK),CX w [] H s (λ_ _ _=>False) e s'->False):
  W.WalkO q loose XP YP l.row.toRowW d [] (λf vs=>PySem.call f vs):=by
 refine Att.Ze2 hn hdf λw s₀ s₁ mg mb fa o pm cd doc a vs ns G Y ho hd hcd hmg hobj hints hlen hg=>?_;have KX:=hY w _ Y;obtain⟨fd,hb,hF⟩:=F w mg fa _ KX G.T.g hmg;exact Znf KX G.T.g G.T.b G.T.builtins G.T.nolimit hg hobj hints (Nat.le_trans hlen hn2) hr hF hb (λH hO hS=>hsp w H a ns hlen hO hS) λH e s'=>hCX w H s₁ e s'
def inClass(s:Stmt)(j:Nat):Stmt:=match s with
 | .ClassDef _ _ _ body _ _ _ _ _ _ _=>body.getD j (.Pass ⟨0,0,0,0⟩)
 | _=>.Pass ⟨0,0,0,0⟩
def iH(s:Stmt):Arguments:=match s with
 | .FunctionDef _ a _ _ _ _ _ _ _ _=>a
 | _=>{ posonlyargs:=[],args:=[],vararg:=none,kwonlyargs:=[],kw_defaults:=[],kwarg:=none,defaults:=[] }
def fj(s:Stmt):List Stmt:=match s with
 | .FunctionDef _ _ b _ _ _ _ _ _ _=>b
 | _=>[]
def aF(s:Stmt):Scope:=match s with
 | .FunctionDef _ _ _ _ _ _ sc _ _ _=>sc
 | _=>{ kind:=.function,names:=[],isGenerator:=false,isCoroutine:=false }
abbrev E0:XK:=λ_ _ _=>False
structure Fun(K:aG)(x qual:Str)(st:Stmt)(f:AI)(fd:AL):Prop where
 ex:∃(oc:AJ) (od:Option AI) (kV doc pm:AJ) (an:Option AI) (cdv ct:AJ) (osl:Array AB),
  fd=W.fnOf x qual (iH st) (fj st) (aF st) .none kV doc pm an cdv ct/\K.lookup f=some ⟨oc,od,.func fd,osl⟩/\W.codeIn K cdv qual=true
 kp:W.keepIn K (.ref f)=true
section
variable {P:AM}{w:AO}{K:aG}{mg:As}{base:Heap}
theorem Fun.binds{x qual:Str}{st:Stmt}{f:AI}{fd:AL}{ps:AH}(F:Fun K x qual st f fd)
  (h:∀(kV doc pm:AJ) (an:Option AI) (cdv ct:AJ) (us:AC),us.length=ps.length->bindArgs ag ⟨us,[]⟩=pure (ps.zip us)):Binds K fd ps []:=by
 obtain⟨oc,od,kV,doc,pm,an,cdv,ct,osl,rfl,lk,hcd⟩:=F.ex;exact .all (h kV doc pm an cdv ct)
theorem Zo4{x qual:Str}{st:Stmt}{f:AI}{oc:AJ}{od an:Option AI}{osl:Array AB}{kV doc pm cdv ct:AJ}(l:K.lookup f=some ⟨oc,od,.func ag,osl⟩)
  (c:W.codeIn K cdv qual=true) (k:W.keepIn K (.ref f)=true):Fun K x qual st f ag:=⟨⟨oc,od,kV,doc,pm,an,cdv,ct,osl,rfl,l,c⟩,k⟩
end
theorem Dy{A:Around}{k:Nat}(hr:Room k A):A.units+1<cLine:=Nat.lt_of_le_of_lt (Nat.add_le_add_left (by decide:1<=64) _) hr.units
section
variable {X:Cx}
theorem pv(i:Nat){x:Str}{pos:Pos}(hN:X.N[i]? =some x:=by rfl)(hv:Vis X.env.scope x:=by first | exact Or.inl rfl | exact Or.inr (Or.inl rfl) | exact Or.inr (Or.inr rfl))(hd:(x == ("__debug__":Str))=false:=by decide)
  (hcd:(x == ("__classdict__":Str))=false:=by decide):PE X (.Name x pos) (aq i):=Zm5 hN hv hd hcd
end
theorem Vn{A B:Prop}(h:B):if false=true then A else B:=by
 rw[if_neg Bool.false_ne_true];exact h
theorem RL{A B:Prop}(h:A):if true=true then A else B:=by
 rw[if_pos rfl];exact h
theorem Ztj{c A B:Prop} [Decidable c](h1:c->A)(h2:¬ c->B):if c then A else B:=by
 by_cases h:c
 ·rw[if_pos h];exact h1 h
 ·rw[if_neg h];exact h2 h
def aY(H H':Hp):Prop:=∀b o,H b=some o->H' b=some o
theorem aY.refl(H:Hp):aY H H:=λ_ _ h=>h
theorem aY.trans{H H1 H2:Hp}(a:aY H H1)(b:aY H1 H2):aY H H2:=λc o h=>b c o (a c o h)
theorem aY.free{H H':Hp}(e:aY H H'){l:AI}(h:H' l=Option.none):H l=Option.none:=by
 cases q:H l with
 | none=>rfl
 | some o=>
  rw[e l o q]at h;cases h
theorem aY.seq{K:aG}{H H':Hp}{a:AI}{xs:List V}(e:aY H H')(h:bO K H a xs):bO K H' a xs:=by
 rcases h with (h | ⟨o,h⟩) | h
 ·exact .inl (.inl (e _ _ h))
 ·exact .inl (.inr ⟨o,e _ _ h⟩)
 ·exact .inr h
section
variable {X:Cx}{pins:At}{σ:List (Option V)}{H H':Hp}{s:AK}{h':Heap}
end
section
variable {X:Cx}
variable {a b:AN}{ta tb:TE}{pos:Pos}
variable {tA tB':TT}{rest:AG}
end
section
variable {X:Cx}{a b c:AN}{ta tb tc:TE}{pos:Pos}
end
section
variable {prog:AM}{w:AO}{A:Around}{E:Ap}{s:AK}{K:aG}{x dx C f:AI}{mA:As}{name:Str}{v:AJ}
end
section
variable {X:Cx}{pins:At}{σ:St}{H:Hp}{s:AK}{a C dx:AI}{fs:List (Str×V)}{f:Str}{v:V}{A:Around}{E:Ap}
end
section
variable {X:Cx}{CX:CXT}{k:Nat}{f C:AI}{fd:AL}{ps:AH}{sp:Sp}{vG:List V}{ds:AC}{E:XK}{x m:Str}{p pos apos:Pos}{e o:AN}{es:AG}{ta:TE}{t:TA}
end
section
variable {X:Cx}{x:Str}{p pos:Pos}{e:AN}{es:AG}{t:TA}{id T:String}{r:List V->Hp->VK->Prop}
end
section
variable {κ:Type} [DecidableEq κ]
def rW(kvs:List (κ×V))(k:κ):Option V:=(kvs.find? λkv=>decide (kv.1=k)).map (·.2)
def putK(kvs:List (κ×V))(k:κ)(v:V):List (κ×V):=
 if (kvs.any λkv=>decide (kv.1=k))=true then kvs.map (λkv=>if kv.1=k then(kv.1,v)else kv)else kvs++[(k,v)]
theorem HR{p:κ×V}{r:List (κ×V)}{k:κ}(e:p.1=k):rW (p::r) k=some p.2:=by simp[rW,List.find?_cons,e]
theorem HS{p:κ×V}{r:List (κ×V)}{k:κ}(e:¬ p.1=k):rW (p::r) k=rW r k:=by simp[rW,List.find?_cons,e]
theorem Qe(k:κ):∀kvs:List (κ×V),(kvs.any λkv=>decide (kv.1=k))=(rW kvs k).isSome
 | []=>rfl
 | p::r=>by
  rw[List.any_cons]
  by_cases e:p.1=k
  ·simp only[HR e,decide_eq_true e,Bool.true_or,Option.isSome_some]
  ·rw[HS e,decide_eq_false e,Bool.false_or];exact Qe k r
theorem Og(kvs:List (κ×V))(k:κ)(v:V):(putK kvs k v).length<=kvs.length+1:=by
 unfold putK;split
 ·rw[bx];omega
 ·rw[List.length_append,List.length_cons,List.length_nil];omega
theorem Zm1{kvs:List (κ×V)}{k:κ}(v:V)(h:rW kvs k=none):putK kvs k v=kvs++[(k,v)]:=by
 unfold putK;rw[Qe,h];exact if_neg ε
theorem Fy.My{o:Option V}{u:AB}(r:Fy o u):o.isSome=u.isSome:=by
 cases o with
 | none=>cases u with
  | none=>rfl
  | some _=>exact(show False from r).elim
 | some _=>cases u with
  | none=>exact(show False from r).elim
  | some _=>rfl
theorem KV.val{kvs:List (κ×V)}{vs:List (κ×AJ)}(r:KV kvs vs)(k:κ):Fy (rW kvs k) (valueAt vs k):=by
 unfold KV at r
 induction r with
 | nil=>exact True.intro
 | @cons p q ps qs h t ih=>
  obtain⟨h1,h2⟩:=h
  by_cases e:p.1=k
  ·have e':q.1=k:=h1.symm.trans e;have b:valueAt (q::qs) k=some q.2:=by simp[valueAt,List.find?_cons,e']
   rw[HR e,b];exact h2
  ·have e':¬ q.1=k:=λz=>e (h1.trans z);have b:valueAt (q::qs) k=valueAt qs k:=by simp[valueAt,List.find?_cons,e']
   rw[HS e,b];exact ih
theorem KV.any{kvs:List (κ×V)}{vs:List (κ×AJ)}(r:KV kvs vs)(k:κ):(kvs.any λkv=>decide (kv.1=k))=vs.any λkv=>decide (kv.1=k):=by
 unfold KV at r
 induction r with
 | nil=>rfl
 | cons h t ih=>rw[List.any_cons,List.any_cons,ih,h.1]
theorem KV.repl{kvs:List (κ×V)}{vs:List (κ×AJ)}(r:KV kvs vs)(k:κ){y:V}{u:AJ}(ry:RelV y u):
  KV (kvs.map λkv=>if kv.1=k then(kv.1,y)else kv) (vs.map λkv=>if kv.1=k then(kv.1,u)else kv):=by
 unfold KV at r ⊢
 induction r with
 | nil=>exact .nil
 | @cons p q ps qs h t ih=>
  rw[List.map_cons,List.map_cons];refine .cons ?_ ih;obtain⟨h1,h2⟩:=h
  by_cases e:p.1=k
  ·rw[if_pos e,if_pos (h1.symm.trans e)];exact⟨h1,ry⟩
  ·rw[if_neg e,if_neg (λz=>e (h1.trans z))];exact⟨h1,h2⟩
theorem KV.put{kvs:List (κ×V)}{vs:List (κ×AJ)}(r:KV kvs vs)(k:κ){y:V}{u:AJ}(ry:RelV y u):KV (putK kvs k y) (stored vs k u):=by
 unfold putK stored;rw[r.any k]
 by_cases e:(vs.any λkv=>decide (kv.1=k))=true
 ·rw[if_pos e,if_pos e];exact r.repl k ry
 ·rw[if_neg e,if_neg e];exact Paired.snoc r ⟨rfl,ry⟩
theorem KV.length{kvs:List (κ×V)}{vs:List (κ×AJ)}(r:KV kvs vs):kvs.length=vs.length:=Paired.length r
end
theorem Zif{P:AM}{w:AO}{k:Key}{u:AJ}(r:RelV (kV k) u):(dH P w).is k u=true:=by
 cases k with
 | inl i=>obtain⟨t,e⟩:=(show ∃t,u=Value.int i t from r);subst e;exact Zcq P w i t
 | inr x=>obtain⟨t,e⟩:=(show ∃t,u=Value.str x t from r);subst e;exact Zcp P w x t
theorem Xb{P:AM}{w:AO}:∀{ks:List Key}{us:AC},Vals (ks.map kV) us->ItemsAre (dH P w) ks us
 | [],_,r=>by rw[List.map_nil]at r;cases r;exact .nil
 | k::ks,_,r=>by
  rw[List.map_cons]at r;cases r with
  | cons h t=>exact .cons (Zif h) (Xb t)
abbrev KT(H:Hp):List (List Key×V)->List (List Key×AI×AJ)->Prop:=Paired λp q=>p.1=q.1/\H q.2.1=some (.tup (p.1.map kV))/\RelV p.2 q.2.2
theorem KT.val{H:Hp}{kvs:List (List Key×V)}{xs:List (List Key×AI×AJ)}(r:KT H kvs xs)(k:List Key):Fy (rW kvs k) ((atKey xs k).map (·.2)):=by
 induction r with
 | nil=>exact True.intro
 | @cons p q ps qs h t ih=>
  obtain⟨h1,_,h2⟩:=h
  by_cases e:p.1=k
  ·have e':q.1=k:=h1.symm.trans e;have b:atKey (q::qs) k=some q.2:=by simp[atKey,List.find?_cons,e']
   rw[HR e,b];exact h2
  ·have e':¬ q.1=k:=λz=>e (h1.trans z);have b:atKey (q::qs) k=atKey qs k:=by simp[atKey,List.find?_cons,e']
   rw[HS e,b];exact ih
theorem KT.repl{H:Hp}{kvs:List (List Key×V)}{xs:List (List Key×AI×AJ)}(r:KT H kvs xs)(k:List Key){y:V}{u:AJ}(ry:RelV y u):
  KT H (kvs.map λkv=>if kv.1=k then(kv.1,y)else kv) (xs.map (putAt k u)):=by
 induction r with
 | nil=>exact .nil
 | @cons p q ps qs h t ih=>
  rw[List.map_cons,List.map_cons];refine .cons ?_ ih;obtain⟨h1,h2,h3⟩:=h;unfold putAt
  by_cases e:p.1=k
  ·rw[if_pos e,if_pos (h1.symm.trans e)];exact⟨h1,h2,ry⟩
  ·rw[if_neg e,if_neg (λz=>e (h1.trans z))];exact⟨h1,h2,h3⟩
theorem KT.put{H:Hp}{kvs:List (List Key×V)}{xs:List (List Key×AI×AJ)}(r:KT H kvs xs)(k:List Key){b:AI}{y:V}{u:AJ}(hb:H b=some (.tup (k.map kV)))(ry:RelV y u):
  KT H (putK kvs k y) (storedH xs k b u):=by
 have e:(kvs.any λkv=>decide (kv.1=k))=(atKey xs k).isSome:=by
  rw[Qe,(r.val k).My,Option.isSome_map]
 unfold putK storedH;rw[e]
 by_cases q:(atKey xs k).isSome=true
 ·rw[if_pos q,if_pos q];exact r.repl k ry
 ·rw[if_neg q,if_neg q];exact Paired.snoc r ⟨rfl,hb,ry⟩
theorem KT.keeps{H H':Hp}{kvs:List (List Key×V)}{xs:List (List Key×AI×AJ)}(r:KT H kvs xs)(ht:∀b ys,H b=some (.tup ys)->H' b=some (.tup ys)):KT H' kvs xs:=
 Paired.Zt8 r λ_ _ z=>⟨z.1,ht _ _ z.2.1,z.2.2⟩
section
variable {P:AM}{w:AO}{H:Hp}{h:Heap}{a:AI}
theorem Zrk{u:HO}(ok:Eo P w H h)(e:Rd H a u):gj P w H h a u:=e.ok ok
theorem J4{kvs:List (Key×V)}(ok:Eo P w H h)(e:Rd H a (.dK kvs)):kvs.length<=sizeLine/\(a == sysModules)=false/\∃vs,KV kvs vs/\h.DictOf (dH P w) a vs:=
 show gj P w H h a (.dK kvs)from Zrk ok e
theorem Zrz{kvs:List (Key×V)}(ok:Eo P w H h)(e:H a=some (.dK kvs)):kvs.length<=sizeLine/\(a == sysModules)=false/\∃vs,KV kvs vs/\h.DictOf (dH P w) a vs:=J4 ok (.inl e)
theorem ZV{ks:List Key}(ok:Eo P w H h)(e:H a=some (.tup (ks.map kV))):(tupleKind (dH P w)).is h ks a:=by
 obtain⟨_,its,r,o,h1,h2,n,h3⟩:=(show gj P w H h a (.tup (ks.map kV))from ok a _ e);exact⟨o,its.toArray,n,h1,h2,h3,by simpa using Xb r⟩
theorem Zdp{kvs:List (List Key×V)}(ok:Eo P w H h)(e:Rd H a (.dT kvs)):kvs.length<=sizeLine/\(a == sysModules)=false/\
  ∃xs,KT H kvs xs/\h.DictOfH (tupleKind (dH P w)) a xs:=by
 obtain⟨z,y,xs,r,o,es,ep,h1,h2,h3,h4,h5⟩:=(show gj P w H h a (.dT kvs)from Zrk ok e);refine⟨z,y,xs,r,o,es,ep,h1,h2,h3,h4,λx hx=>?_,h5⟩;have all:∀{l:List (List Key×V)}{m:List (List Key×AI×AJ)},KT H l m->∀x∈m,(tupleKind (dH P w)).is h x.1 x.2.1:=by
  intro l m q
  induction q with
  | nil=>intro x hx;exact nomatch hx
  | @cons p q ps qs hq t ih=>
   intro x hx;rcases List.mem_cons.mp hx with e | hx
   ·subst e;exact ZV ok (by rw[<- hq.1];exact hq.2.1)
   ·exact ih x hx
 exact all r x hx
theorem Zwl{kvs:List (List Key×V)}(ok:Eo P w H h)(e:H a=some (.dT kvs)):kvs.length<=sizeLine/\(a == sysModules)=false/\
  ∃xs,KT H kvs xs/\h.DictOfH (tupleKind (dH P w)) a xs:=Zdp ok (.inl e)
end
def Tu(H:Hp)(a:AI)(y:V)(r:Option V):Prop:=
 (∃kvs k,Rd H a (.dK kvs)/\y=kV k/\r=rW kvs k)\/∃kvs k b,Rd H a (.dT kvs)/\y=.ref b/\H b=some (.tup (k.map kV))/\r=rW kvs k
def Zea(H:Hp)(a:AI)(y v:V)(H':Hp):Prop:=
 (∃kvs k,H a=some (.dK kvs)/\y=kV k/\kvs.length<sizeLine/\H'=upd H a (.dK (putK kvs k v)))\/
 ∃kvs k b,H a=some (.dT kvs)/\y=.ref b/\H b=some (.tup (k.map kV))/\kvs.length<sizeLine/\H'=upd H a (.dT (putK kvs k v))
theorem Tu.k{H:Hp}{a:AI}{kvs:List (Key×V)}{k:Key}(e:H a=some (.dK kvs)):Tu H a (kV k) (rW kvs k):=.inl ⟨kvs,k,.inl e,rfl,rfl⟩
theorem Zea.k{H:Hp}{a:AI}{kvs:List (Key×V)}{k:Key}{v:V}(e:H a=some (.dK kvs))(hl:kvs.length<sizeLine):Zea H a (kV k) v (upd H a (.dK (putK kvs k v))):=.inl ⟨kvs,k,e,rfl,hl,rfl⟩
section
variable {X:Cx}{pins:At}{σ:St}{H:Hp}{s:AK}{a:AI}{y v:V}{u r:AJ}{o:Option V}{A:Around}{E:Ap}
theorem Inv.big(I:Inv X pins σ H s):sysModules<s.heap.objs.size:=by
 have h:mainGlobals<s.heap.objs.size:=(I.mod.glob.keeps I.bk).lt;exact Nat.lt_trans ε h
theorem Zky{Q:Ap}(hu:A.units+1<cLine)(I:Inv X pins σ H s)(g:Tu H a y (some v))(ry:RelV y u)(h:∀w' s',Inv X pins σ H s'->RelV v w'->Q w' s'):
  wpAny ς A (getItem (.ref a) u) Q E s:=by
 rcases g with ⟨kvs,k,e,ey,l⟩ | ⟨kvs,k,b,e,ey,eb,l⟩
 ·subst ey;obtain⟨z,hd,vs,rel,dd⟩:=J4 I.hok e;obtain⟨w',hw,rw'⟩:=Fy.some_of (v:=v) (o:=valueAt vs k) (by rw[l];exact rel.val k);exact wpAny_getItem_of (Zif ry) dd.mapOf hw (h w' _ (I.tok _) rw')
 ·subst ey;cases (show u=Value.ref b from ry);obtain⟨z,hd,xs,rel,dd⟩:=Zdp I.hok e;obtain⟨w',hw,rw'⟩:=Fy.some_of (v:=v) (o:=(atKey xs k).map (·.2)) (by rw[l];exact rel.val k);obtain⟨p,hp,hp2⟩:=Option.map_eq_some_iff.mp hw;refine wpAny_getItem_heap (tupleKind_room_in1 hu) (ZV I.hok eb) dd hp ?_;rw[hp2];exact h w' _ (I.tok _) rw'
theorem Ziv{Q:Ap}(hu:A.units+1<cLine)(I:Inv X pins σ H s)(g:Tu H a y o)(ry:RelV y u)(h:∀s',Inv X pins σ H s'->Q (.bool (!o.isSome)) s'):
  wpAny ς A (compareOp .NotIn u (.ref a)) Q E s:=by
 rcases g with ⟨kvs,k,e,ey,l⟩ | ⟨kvs,k,b,e,ey,eb,l⟩
 ·subst ey;obtain⟨z,hd,vs,rel,dd⟩:=J4 I.hok e;refine wpAny_notIn_of (Zif ry) hd dd.mapOf ?_;rw[<- (rel.val k).My,<- l];exact h _ (I.tok _)
 ·subst ey;cases (show u=Value.ref b from ry);obtain⟨z,hd,xs,rel,dd⟩:=Zdp I.hok e;refine wpAny_notIn_heap (tupleKind_room_in1 hu) (ZV I.hok eb) hd dd ?_;have q:=(rel.val k).My;rw[Option.isSome_map]at q;rw[<- q,<- l];exact h _ (I.tok _)
theorem Ziu{h':Heap}{t':Nat}{ob:HO}(I:Inv X pins σ H s)(mu:Mut (H a))(hs:Heap.SameBut a s.heap h')(he:∃q,h'.get? a=some q)(new:gj X.prog X.w (upd H a ob) h' a ob):
  Inv X pins σ (upd H a ob) { s with heap:=h',toks:=t' }:=
 I.write (x:=a) (e:=a) mu (.inl rfl) (λb q hb z=>(hs.2 b hb).trans z) he new
theorem Zui{P:AM}{w:AO}{H':Hp}{h':Heap}{kvs:List (Key×V)}{vs:List (Key×AJ)}(z:kvs.length<=sizeLine)(hd:(a == sysModules)=false)(rel:KV kvs vs)(dd:h'.DictOf (dH P w) a vs):
  gj P w H' h' a (.dK kvs):=⟨z,hd,vs,rel,dd⟩
theorem Zkx{H':Hp}{Q:Unit->AK->Prop}(hu:A.units+1<cLine)(I:Inv X pins σ H s)(g:Zea H a y v H')(ry:RelV y u)(rv:RelV v r)(h:∀s',Inv X pins σ H' s'->Q () s'):
  wpAny ς A (setItem (.ref a) u r) Q E s:=by
 rcases g with ⟨kvs,k,e,ey,l,eH⟩ | ⟨kvs,k,b,e,ey,eb,l,eH⟩
 ·subst ey eH;obtain⟨z,hd,vs,rel,dd⟩:=Zrz I.hok e;have hz:vs.length<=sizeLine:=by rw[<- rel.length];exact z
  have hl:(putK kvs k v).length<=sizeLine:=by have:=Og kvs k v;omega
  refine wpAny_setItem_pairs (hsz:=hz) (Zif ry) dd λh' dd' hs=>h _ ?_;have he:∃q,h'.get? a=some q:=let ⟨q,_,_,hq,_⟩:=dd';⟨q,hq⟩
  exact Ziu I (by rw[e];exact True.intro) hs he (Zui hl hd (rel.put k rv) dd')
 ·subst ey eH;cases (show u=Value.ref b from ry);obtain⟨z,hd,xs,rel,dd⟩:=Zwl I.hok e;have hz:xs.length<=sizeLine:=by rw[<- Paired.length rel];exact z
  have hl:(putK kvs k v).length<=sizeLine:=by have:=Og kvs k v;omega
  refine wpAny_setItem_heap (hsz:=hz) (tupleKind_room_in1 hu) (ZV I.hok eb) dd λh' dd' hs=>h _ ?_;obtain⟨q,es,ep,hq,h2,h3,h4,_,h5⟩:=dd';refine Ziu I (by rw[e];exact True.intro) hs ⟨q,hq⟩ ⟨hl,hd,_,(rel.put k eb rv).keeps λc ys ec=>?_,q,es,ep,hq,h2,h3,h4,h5⟩;rw[aB (nY ec e (λz=>nomatch z))];exact ec
end
section
variable {X:Cx}{pins:At}{σ:St}{H:Hp}{s:AK}{a:AI}{kvs:List (Key×V)}{k:Key}{u:AJ}{A:Around}{E:Ap}
end
def Zrc(i:AN):Prop:=∀ov iv,subscripted i false ov iv=operate [ov,iv] (getItem ov iv)
theorem Zhp{prog:AM}{w:AO}{A:Around}{E:Ap}{s:AK}{env:Env}{value slice:AN}{pos:Pos}{T id:String}{Q:Ap}
  (hl:typeLookup (.type T) "__getitem__"=pure (some (.builtin id))) (hs:Zrc slice)
  (h:wpAny af A (eval value env) (λo s₁=>wpAny af A (eval slice env) (λi s₂=>s₂.TypeIs o T/\wpAny af A (getItem o i) Q E s₂) E s₁) E s):
  wpAny af A (eval (.Subscript value slice pos) env) Q E s:=by
 refine Subscript_ (wpAny_mono h (λo s₁ h₁=>wpAny_mono h₁ (λi s₂ h₂=>?_) λ_ _ x=>x) λ_ _ x=>x);obtain⟨hT,h₂⟩:=h₂;unfold subscriptTail;refine wpAny_bind ?_;rw[getitemInPython_of_ne hT.not_modules];refine wpAny_bind (wpAny_specialOf hT hl ?_);have fin:wpAny af A (subscripted slice false o i) (λr s₃=>wpAny af A (letTemporaryGo value o r >>= λ_=>pure r) Q E s₃) E s₂:=by
  rw[hs o i];exact wpAny_operating (wpAny_mono h₂ (λr s₃ h₃=>wpAny_bind (wpAny_letTemporaryGo (wpAny_pure h₃))) λ_ _ x=>x)
 first
  | exact wpAny_pure (wpAny_bind fin)
  | exact wpAny_bind (wpAny_pure (wpAny_bind fin))
  | exact wpAny_bind fin
theorem Zdv{X:Cx}{pins:At}{σ:St}{H:Hp}{s:AK}{a:AI}{y:V}{o:Option V}(I:Inv X pins σ H s)(g:Tu H a y o):s.TypeIs (.ref a) "dict":=by
 rcases g with ⟨kvs,k,e,_,_⟩ | ⟨kvs,k,b,e,_,_,_⟩
 ·obtain⟨_,_,vs,_,dd⟩:=J4 I.hok e;exact dd.typeIs
 ·obtain⟨_,_,xs,_,dd⟩:=Zdp I.hok e;exact dd.typeIs
def Zbe(td ty:TE):TE:=λσ H Q=>td σ H λx H1=>ty σ H1 λy H2=>∃a v,x=.ref a/\Tu H2 a y (some v)/\Q v H2
def XS(ty td:TE):TE:=λσ H Q=>ty σ H λy H1=>td σ H1 λx H2=>∃a o,x=.ref a/\Tu H2 a y o/\Q (.bl (!o.isSome)) H2
def Zhr(td ty tv:TE):TS:=λD σ H=>tv σ H λv H1=>td σ H1 λx H2=>ty σ H2 λy H3=>∃a H4,x=.ref a/\Zea H3 a y v H4/\D.nx σ H4
section
variable {X:Cx}{o i e value:AN}{pos pos' tpos:Pos}{td ty tv:TE}
theorem Zpp(hu:X.A.units+1<cLine)(ho:PE X o td)(hi:PE X i ty)(hs:Zrc i):PE X (.Subscript o i pos) (Zbe td ty):=by
 intro pins s σ H Q I h;refine Zhp PySem.F.slot_dict_getitem.lookup hs (gB (ho pins s σ H _ I h) λu s1 ⟨x,H1,I1,rx,q1⟩=>gB (hi pins s1 σ H1 _ I1 q1) λiv s2 qc=>?_);obtain⟨y,H2,I2,ry,a,v,ex,g,q2⟩:=qc;subst ex;obtain rfl:u=Value.ref a:=rx;exact⟨Zdv I2 g,Zky hu I2 g ry λw' s3 I3 rw'=>⟨v,H2,I3,rw',q2⟩⟩
theorem Zjp(hu:X.A.units+1<cLine)(hi:PE X i ty)(ho:PE X o td):PC X .NotIn i o (XS ty td):=by
 intro pins s σ H Q I h;refine gB (hi pins s σ H _ I h) λiv s1 ⟨y,H1,I1,ry,q1⟩=>gB (ho pins s1 σ H1 _ I1 q1) λu s2 qc=>?_;obtain⟨x,H2,I2,rx,a,ov,ex,g,q2⟩:=qc;subst ex;obtain rfl:u=Value.ref a:=rx;exact Ziv hu I2 g ry λs3 I3=>⟨.bl (!ov.isSome),H2,I3,rfl,q2⟩
theorem Zhw(hu:X.A.units+1<cLine)(ho:PE X o td)(hi:PE X i ty)(hv:PE X value tv)(hs:swapsWith value (some (.Subscript o i pos')) pos.line X.env=pure false):
  PS X (.Assign [.Subscript o i pos'] value pos) (Zhr td ty tv):=by
 intro pins s σ H D I h;refine wpAny_Assign_Subscript (gB (hv pins s σ H _ I h) λr s1 ⟨v,H1,I1,rv,q1⟩=>gB (ho pins s1 σ H1 _ I1 q1) λu s2 ⟨x,H2,I2,rx,q2⟩=>gB (hi pins s2 σ H2 _ I2 q2) λiv s3 qc=>?_) hs;obtain⟨y,H3,I3,ry,a,H4,ex,g,q3⟩:=qc;subst ex;obtain rfl:u=Value.ref a:=rx;exact Zkx hu I3 g ry rv λs4 I4=>⟨σ,H4,I4,q3⟩
end
theorem Zom{P:AM}{w:AO}{H:Hp}(h:Heap)(hb:sysModules<h.objs.size):gj P w H (h.push { cls:=.type "dict",data:=.dict #[] }) h.objs.size (.dK []):=
 ⟨Nat.zero_le _,beq_eq_false_iff_ne.mpr (Ne.symm (Nat.ne_of_lt hb)),[],.nil,Heap.DictOf.new h⟩
def Zek:TE:=λ_ H Q=>∀p,H p=none->Q (.ref p) (upd H p (.dK []))
section
variable {X:Cx}{pos:Pos}
theorem Zc1:PE X (.Dict [] [] pos) Zek:=λpins s σ H Q I h=>
 wpAny_Dict_empty ⟨.ref s.heap.objs.size,_,I.laid (a:=s.heap.objs.size) (o:=.dK []) (t':=s.toks) (λ_ _ q=>Heap.get?_push_of_some _ q) υ (Zom s.heap I.big),rfl,h _ (I.hok.fresh υ)⟩
end
def Zlc:List (TE×TE)->St->Hp->(List (V×V)->Hp->Prop)->Prop
 | [],_,H,Q=>Q [] H
 | (tk,tv)::r,σ,H,Q=>tk σ H λx H1=>tv σ H1 λy H2=>Zlc r σ H2 λps H3=>Q ((x,y)::ps) H3
abbrev VV:List (V×V)->List (AJ×AJ)->Prop:=Paired λp q=>RelV p.1 q.1/\RelV p.2 q.2
def PPs(X:Cx)(pos:Pos)(keys:List (Option AN))(values:AG)(trs:List (TE×TE)):Prop:=
 ∀(pins:At) (s:AK) (σ:St) (H:Hp) (Q:List (V×V)->Hp->Prop),Inv X pins σ H s->Zlc trs σ H Q->
  wpAny ς X.A (evalPairs (pairTrees keys values X.env pos)) (λvs s'=>∃ps H',Inv X pins σ H' s'/\VV ps vs/\Q ps H') X.xe s
structure M1(X:Cx)(o:AN)(m:Str)(apos:Pos)(e:AN)(cpos:Pos):Prop where
 base:attributeBase o m X.env (eval o X.env)=eval o X.env
 few:((backTo cpos (starEach [e] X.env)).all (λx=>!x.1) && (backToKw cpos (keywordEach [] X.env)).all (λx=>x.1.isSome)
  && decide (([e]:AG).length+([]:List Keyword).length+(if ([]:List Keyword).isEmpty then 0 else 1)<30))=true
 line:(apos.endLine == cpos.line)=true
 trees:backTo cpos (starEach [e] X.env)=[(false,eval e X.env)]
structure M2(X:Cx)(o:AN)(m:Str)(apos:Pos)(e f:AN)(cpos:Pos):Prop where
 base:attributeBase o m X.env (eval o X.env)=eval o X.env
 few:((backTo cpos (starEach [e,f] X.env)).all (λx=>!x.1) && (backToKw cpos (keywordEach [] X.env)).all (λx=>x.1.isSome)
  && decide (([e,f]:AG).length+([]:List Keyword).length+(if ([]:List Keyword).isEmpty then 0 else 1)<30))=true
 line:(apos.endLine == cpos.line)=true
 trees:backTo cpos (starEach [e,f] X.env)=[(false,eval e X.env),(false,eval f X.env)]
def IsD(H:Hp)(a:AI):Prop:=(∃kvs,Rd H a (.dK kvs))\/∃kvs,Rd H a (.dT kvs)
theorem Znk{X:Cx}{pins:At}{σ:St}{H:Hp}{s:AK}{a:AI}(I:Inv X pins σ H s)(d:IsD H a):
  s.TypeIs (.ref a) "dict"/\(∀b,Value.ref a=.ref b->∃ob,s.heap.get? b=some ob/\ob.dict=none)/\(a == sysModules)=false:=by
 rcases d with ⟨kvs,e⟩ | ⟨kvs,e⟩
 ·obtain⟨_,hd,vs,_,dd⟩:=J4 I.hok e;refine⟨dd.typeIs,λb q=>?_,hd⟩;cases q;obtain⟨ob,_,_,h1,h2,_⟩:=dd;exact⟨ob,h1,h2.2.1⟩
 ·obtain⟨_,hd,xs,_,dd⟩:=Zdp I.hok e;refine⟨dd.typeIs,λb q=>?_,hd⟩;cases q;obtain⟨ob,_,_,h1,h2,_⟩:=dd;exact⟨ob,h1,h2.2.1⟩
section
variable {X:Cx}{pins:At}{σ:St}{H:Hp}{s:AK}{a:AI}{y d:V}{u r:AJ}{o:Option V}{A:Around}{E:Ap}
end
section
variable {X:Cx}{o e f:AN}{apos cpos:Pos}{td ty tx:TE}
end
section
variable {X:Cx}{pins:At}{σ:St}{H:Hp}{s:AK}{a:AI}{kvs:List (Key×V)}{A:Around}{E:Ap}
end
section
variable {X:Cx}{pins:At}{σ:St}{H:Hp}{s:AK}{a:AI}{y:V}{u:AJ}{A:Around}{E:Ap}
end
end L2
namespace Att
open PySem PySem.W PySem.Calls PyProof.Rows
section
variable {prog:AM}{w:AO}{A:Around}{E:Ap}{s:AK}{K:Frag}
end
end Att
namespace L2
open PySem PySem.Spec PyProof.Rows
section
variable {X:Cx}
end
section
variable {κ:Type} [DecidableEq κ]
end
end L2
set_option maxHeartbeats 40000000
namespace G
open PySem L2
section
variable {D:Ends}{σ:St}{H H1:Hp}{Q:VK}{t u:TS}{ta tb tc te:TE}{n:ν}{r:VK}{b c:ν}
theorem Gj(h:t ⟨u ⟨n,r,b,c⟩,r,b,c⟩ σ H):aP t u ⟨n,r,b,c⟩ σ H:=h
theorem MN(h:n σ H):cu ⟨n,r,b,c⟩ σ H:=h
theorem Zqq(h:b σ H):Zem ⟨n,r,b,c⟩ σ H:=h
theorem Zu0(h:te σ H λ_ H1=>n σ H1):lJ te ⟨n,r,b,c⟩ σ H:=h
theorem Zii(h:te σ H r):bB te ⟨n,r,b,c⟩ σ H:=h
theorem Zk6{c':TT}(h:c' σ H λk H1=>if k=true then t ⟨n,r,b,c⟩ σ H1 else u ⟨n,r,b,c⟩ σ H1):dJ c' t u ⟨n,r,b,c⟩ σ H:=h
theorem Zrs{g:TG}(h:te σ H λx H1=>g x σ H1 n):bH te g ⟨n,r,b,c⟩ σ H:=h
theorem i_C{v:V}(h:Q v H):tC v σ H Q:=h
theorem Zy0{f:R2}(h:ta σ H λx H1=>tb σ H1 λy H2=>f x y H2 Q):aZ f ta tb σ H Q:=h
theorem Zxy{f:V->Hp->VK->Prop}(h:ta σ H λx H1=>f x H1 Q):Ub f ta σ H Q:=h
def kB(q:Bool->Hp->Prop):VK:=λx H'=>∃k,x=.bl k/\q k H'
theorem i_B{k:Bool}{q:Bool->Hp->Prop}(h:q k H):kB q (.bl k) H:=⟨k,rfl,h⟩
theorem Ztn{q:Bool->Hp->Prop}(h:te σ H (kB q)):bV te σ H q:=h
theorem Zvt{q:Bool->Hp->Prop}(h:te σ H (kB q)):tB te σ H q:=h
theorem Zwc{t u:TT}{q:Bool->Hp->Prop}(h:t σ H λk H1=>if k=true then u σ H1 q else q false H1):Zlg t u σ H q:=h
theorem Zvu{t u:TT}{q:Bool->Hp->Prop}(h:t σ H λk H1=>if k=true then q true H1 else u σ H1 q):Kw t u σ H q:=h
theorem Zrr{t:TT}{q:Bool->Hp->Prop}(h:t σ H λk H1=>q (!k) H1):vH t σ H q:=h
theorem Zu6(h:ta σ H (kB λk H1=>if k=true then tb σ H1 Q else Q (.bl false) H1)):Bb ta tb σ H Q:=h
theorem Ztq(h:ta σ H (kB λk H1=>Q (.bl (!k)) H1)):Zld ta σ H Q:=h
theorem Zyd{g:Int->Int->V}{i j:Int}(h:Q (g i j) H):lK g (.int i) (.int j) H Q:=⟨i,j,rfl,rfl,h⟩
theorem i_I{C:Int->Int->Prop}{g:Int->Int->V}{i j:Int}(hc:C i j)(h:Q (g i j) H):rI C g (.int i) (.int j) H Q:=⟨i,j,rfl,rfl,hc,h⟩
theorem i_U{g:Int->V}{i:Int}(h:Q (g i) H):rU g (.int i) H Q:=⟨i,rfl,h⟩
theorem Zwa{i j:Int}(h:Q (.bl (decide (i=j))) H):Fq (.int i) (.int j) H Q:=⟨rfl,by rw[show decide (V.int i=V.int j)=decide (i=j)from decide_eq_decide.mpr ⟨λe=>V.int.inj e,λe=>by rw[e]⟩];exact h⟩
theorem Zw9{i j:Str}(h:Q (.bl (decide (i=j))) H):Fq (.str i) (.str j) H Q:=⟨rfl,by rw[show decide (V.str i=V.str j)=decide (i=j)from decide_eq_decide.mpr ⟨λe=>V.str.inj e,λe=>by rw[e]⟩];exact h⟩
theorem Zwb{i j:Bool}(h:Q (.bl (decide (i=j))) H):Fq (.bl i) (.bl j) H Q:=⟨rfl,by rw[show decide (V.bl i=V.bl j)=decide (i=j)from decide_eq_decide.mpr ⟨λe=>V.bl.inj e,λe=>by rw[e]⟩];exact h⟩
theorem Zvx{i j:Int}(h:Q (.bl (!decide (i=j))) H):rNe (.int i) (.int j) H Q:=⟨rfl,by rw[show decide (V.int i=V.int j)=decide (i=j)from decide_eq_decide.mpr ⟨λe=>V.int.inj e,λe=>by rw[e]⟩];exact h⟩
theorem Zvw{i j:Str}(h:Q (.bl (!decide (i=j))) H):rNe (.str i) (.str j) H Q:=⟨rfl,by rw[show decide (V.str i=V.str j)=decide (i=j)from decide_eq_decide.mpr ⟨λe=>V.str.inj e,λe=>by rw[e]⟩];exact h⟩
def QT:R2:=λx y H Q=>y=.non/\Q (.bl (decide (x=.non))) H
def Jc:R2:=λx y H Q=>y=.non/\Q (.bl (!decide (x=.non))) H
theorem Zty(h:Q (.bl true) H):QT .non .non H Q:=⟨rfl,h⟩
theorem Ztx{i:Int}(h:Q (.bl false) H):QT (.int i) .non H Q:=⟨rfl,h⟩
theorem Ztw{i:AI}(h:Q (.bl false) H):QT (.ref i) .non H Q:=⟨rfl,h⟩
theorem Zqh(h:Q (.bl false) H):Jc .non .non H Q:=⟨rfl,h⟩
theorem Zqg{i:Int}(h:Q (.bl true) H):Jc (.int i) .non H Q:=⟨rfl,h⟩
theorem Zqf{i:AI}(h:Q (.bl true) H):Jc (.ref i) .non H Q:=⟨rfl,h⟩
theorem Zgl{A B:Prop}(h:A):if true=true then A else B:=RL h
theorem Z8{A B:Prop}(h:B):if false=true then A else B:=Vn h
theorem Zqm{A B:Prop}(h:B):if (!true)=true then A else B:=Vn h
theorem Zqn{A B:Prop}(h:A):if (!false)=true then A else B:=RL h
theorem Ai{p A B:Prop} [Decidable p](h1:p->A)(h2:¬ p->B):if decide p=true then A else B:=Ztj (λe=>h1 (of_decide_eq_true e)) (λe=>h2 (λq=>e (decide_eq_true q)))
theorem Zdc{p A B:Prop} [Decidable p](h1:¬ p->A)(h2:p->B):if (!decide p)=true then A else B:=Ztj (λe=>h1 (by simpa using e)) (λe=>h2 (by simpa using e))
theorem Zvv{q:List V->Hp->Prop}(h:q [] H):aH σ H q:=h
theorem Zu4{q:List V->Hp->Prop}{t:TA}(h:ta σ H λx H1=>t σ H1 λxs H2=>q (x::xs) H2):ak ta t σ H q:=h
theorem Zvy{t:TA}(h:t σ H λxs H1=>xs.length<=sizeLine/\∀p,H1 p=none->Q (.ref p) (upd H1 p (.lst xs))):eF t σ H Q:=h
theorem Zvr{t:TA}(h:t σ H λxs H1=>xs.length<=sizeLine/\∀p,H1 p=none->Q (.ref p) (upd H1 p (.tup xs))):fV t σ H Q:=h
theorem Zu5{t:TA}{sp:Sp}{vG:List V}{E:XK}(h:t σ H λvs H1=>sp (vs++vG) H1 Q E):aU sp vG E t σ H Q:=h
theorem Zye{t:TA}{f:List V->Hp->VK->Prop}(h:t σ H λvs H1=>f vs H1 Q):vC f t σ H Q:=h
theorem Ztu{t:TA}{sp:Sp}{vG:List V}{E:XK}{C:AI}(h:t σ H λvs H1=>∀x dx,H1 x=none->H1 dx=none->dx≠x->sp (.ref x::(vs++vG)) (upd (upd H1 dx (.own x)) x (.ins C dx [])) (λv H2=>v=.non/\Q (.ref x) H2) E):xN C sp vG E t σ H Q:=h
def Zvm(K:aG)(f:Str)(Q:VK):VK:=λx H1=>∃a C dx fs v,x=.ref a/\H1 a=some (.ins C dx fs)/\Er K C/\bA K C f/\fs.lookup f=some v/\Q v H1
theorem Zw8{K:aG}{f:Str}(h:ta σ H (Zvm K f Q)):bD K ta f σ H Q:=h
theorem aL{K:aG}{f:Str}{a C dx:AI}{fs:List (Str×V)}{v:V}(h:H a=some (.ins C dx fs))(hc:Er K C)(hn:bA K C f)(hl:fs.lookup f=some v)(q:Q v H):Zvm K f Q (.ref a) H:=⟨a,C,dx,fs,v,rfl,h,hc,hn,hl,q⟩
theorem Zto{K:aG}{f:Str}{tv:TE}(h:tv σ H λy H1=>ta σ H1 λx H2=>∃a C dx fs,x=.ref a/\H2 a=some (.ins C dx fs)/\Er K C/\bA K C f/\fs.length<1000/\n σ (upd H2 a (.ins C dx (bR f y fs)))):dW K ta tv f ⟨n,r,b,c⟩ σ H:=h
theorem Ztt{C:AI}{m:Str}{sp:Sp}{vG:List V}{E:XK}{t:TA}(h:ta σ H λx H1=>∃a dx fs,x=.ref a/\H1 a=some (.ins C dx fs)/\fs.lookup m=none/\t σ H1 λvs H2=>sp (x::(vs++vG)) H2 Q E):iK C m sp vG E ta t σ H Q:=h
theorem Zno{q:AA->Hp->Prop}(h:q none H):tO σ H q:=h
def kI(q:Int->Hp->Prop):VK:=λx H1=>∃i,x=.int i/\q i H1
theorem Ztp{q:AA->Hp->Prop}(h:te σ H (kI λi=>q (some i))):vJ te σ H q:=h
theorem Zy1{i:Int}{q:Int->Hp->Prop}(h:q i H):kI q (.int i) H:=⟨i,rfl,h⟩
theorem Zxz{f:V->AA->AA->Hp->VK->Prop}{tl th:TO}(h:te σ H λx H1=>tl σ H1 λl H2=>th σ H2 λu H3=>f x l u H3 Q):tSl f te tl th σ H Q:=h
theorem Zyc{K:aG}{T:String}{f:V->List V->Hp->VK->Prop}{to:TE}{t:TA}(h:to σ H λx H1=>tyV K T x H1/\t σ H1 λxs H2=>f x xs H2 Q):Wr K T f to t σ H Q:=h
theorem Zw7{wi:TI}{g:TG}{tb:TS}(h:wi σ H λJ H1=>∃W:Nat->Nat->ν,(∃m,W 0 m σ H1)/\∀i m σ H,W i m σ H->
 (J.stop i H/\n σ H)\/(J.go i H/\∃N:ν,(∀ σ' H',N σ' H'->∃m',m'<m/\W (i+1) m' σ' H')/\∀x H',J.yld i H x H'->g x σ H' λσ2 H2=>tb ⟨N,r,n,N⟩ σ2 H2)):Bt wi g tb ⟨n,r,b,c⟩ σ H:=h
theorem Zy4{K:aG}{R:It->Hp->Prop}(h:te σ H λx H1=>∃a,x=.ref a/\(∃xs,bO K H1 a xs)/\R (Itl K a) H1):yq K te σ H R:=h
theorem Zy3{ta:TA}{R:It->Hp->Prop}(h:ta σ H λvs H1=>∃j:Int,vs=[.int j]/\-(2 ^ 62)<=j/\j<2 ^ 62/\R (Itr 0 j.toNat) H1):R8 ta σ H R:=h
end
theorem Zxx{v:V}{l:St}{H:Hp}{Q:VK}(h:Q v H):aq 0 (some v::l) H Q:=⟨v,rfl,h⟩
theorem Zxw{x0:Option V}{v:V}{l:St}{H:Hp}{Q:VK}(h:Q v H):aq 1 (x0::some v::l) H Q:=⟨v,rfl,h⟩
theorem Zyb{x0:Option V}{y:Option V}{v:V}{l:St}{H:Hp}{Q:ν}(h:Q (x0::some v::l) H):aR 1 v (x0::y::l) H Q:=h
theorem Zxv{x0 x1:Option V}{v:V}{l:St}{H:Hp}{Q:VK}(h:Q v H):aq 2 (x0::x1::some v::l) H Q:=⟨v,rfl,h⟩
theorem Zw2{x0 x1:Option V}{y:Option V}{v:V}{l:St}{H:Hp}{Q:ν}(h:Q (x0::x1::some v::l) H):aR 2 v (x0::x1::y::l) H Q:=h
theorem Zxu{x0 x1 x2:Option V}{v:V}{l:St}{H:Hp}{Q:VK}(h:Q v H):aq 3 (x0::x1::x2::some v::l) H Q:=⟨v,rfl,h⟩
theorem Zw1{x0 x1 x2:Option V}{y:Option V}{v:V}{l:St}{H:Hp}{Q:ν}(h:Q (x0::x1::x2::some v::l) H):aR 3 v (x0::x1::x2::y::l) H Q:=h
theorem Zxt{x0 x1 x2 x3:Option V}{v:V}{l:St}{H:Hp}{Q:VK}(h:Q v H):aq 4 (x0::x1::x2::x3::some v::l) H Q:=⟨v,rfl,h⟩
theorem Zya{x0 x1 x2 x3:Option V}{y:Option V}{v:V}{l:St}{H:Hp}{Q:ν}(h:Q (x0::x1::x2::x3::some v::l) H):aR 4 v (x0::x1::x2::x3::y::l) H Q:=h
theorem Zxs{x0 x1 x2 x3 x4:Option V}{v:V}{l:St}{H:Hp}{Q:VK}(h:Q v H):aq 5 (x0::x1::x2::x3::x4::some v::l) H Q:=⟨v,rfl,h⟩
theorem Zy9{x0 x1 x2 x3 x4:Option V}{y:Option V}{v:V}{l:St}{H:Hp}{Q:ν}(h:Q (x0::x1::x2::x3::x4::some v::l) H):aR 5 v (x0::x1::x2::x3::x4::y::l) H Q:=h
theorem Zxr{x0 x1 x2 x3 x4 x5:Option V}{v:V}{l:St}{H:Hp}{Q:VK}(h:Q v H):aq 6 (x0::x1::x2::x3::x4::x5::some v::l) H Q:=⟨v,rfl,h⟩
theorem Zy8{x0 x1 x2 x3 x4 x5:Option V}{y:Option V}{v:V}{l:St}{H:Hp}{Q:ν}(h:Q (x0::x1::x2::x3::x4::x5::some v::l) H):aR 6 v (x0::x1::x2::x3::x4::x5::y::l) H Q:=h
theorem Zxq{x0 x1 x2 x3 x4 x5 x6:Option V}{v:V}{l:St}{H:Hp}{Q:VK}(h:Q v H):aq 7 (x0::x1::x2::x3::x4::x5::x6::some v::l) H Q:=⟨v,rfl,h⟩
theorem Zy7{x0 x1 x2 x3 x4 x5 x6:Option V}{y:Option V}{v:V}{l:St}{H:Hp}{Q:ν}(h:Q (x0::x1::x2::x3::x4::x5::x6::some v::l) H):aR 7 v (x0::x1::x2::x3::x4::x5::x6::y::l) H Q:=h
theorem Zxp{x0 x1 x2 x3 x4 x5 x6 x7:Option V}{v:V}{l:St}{H:Hp}{Q:VK}(h:Q v H):aq 8 (x0::x1::x2::x3::x4::x5::x6::x7::some v::l) H Q:=⟨v,rfl,h⟩
theorem Zw0{x0 x1 x2 x3 x4 x5 x6 x7:Option V}{y:Option V}{v:V}{l:St}{H:Hp}{Q:ν}(h:Q (x0::x1::x2::x3::x4::x5::x6::x7::some v::l) H):aR 8 v (x0::x1::x2::x3::x4::x5::x6::x7::y::l) H Q:=h
theorem Zxo{x0 x1 x2 x3 x4 x5 x6 x7 x8:Option V}{v:V}{l:St}{H:Hp}{Q:VK}(h:Q v H):aq 9 (x0::x1::x2::x3::x4::x5::x6::x7::x8::some v::l) H Q:=⟨v,rfl,h⟩
theorem Zy6{x0 x1 x2 x3 x4 x5 x6 x7 x8:Option V}{y:Option V}{v:V}{l:St}{H:Hp}{Q:ν}(h:Q (x0::x1::x2::x3::x4::x5::x6::x7::x8::some v::l) H):aR 9 v (x0::x1::x2::x3::x4::x5::x6::x7::x8::y::l) H Q:=h
theorem Zvq{x0 x1 x2 x3 x4 x5 x6 x7 x8 x9:Option V}{v:V}{l:St}{H:Hp}{Q:VK}(h:Q v H):aq 10 (x0::x1::x2::x3::x4::x5::x6::x7::x8::x9::some v::l) H Q:=⟨v,rfl,h⟩
theorem Zw6{x0 x1 x2 x3 x4 x5 x6 x7 x8 x9:Option V}{y:Option V}{v:V}{l:St}{H:Hp}{Q:ν}(h:Q (x0::x1::x2::x3::x4::x5::x6::x7::x8::x9::some v::l) H):aR 10 v (x0::x1::x2::x3::x4::x5::x6::x7::x8::x9::y::l) H Q:=h
theorem Zvp{x0 x1 x2 x3 x4 x5 x6 x7 x8 x9 x10:Option V}{v:V}{l:St}{H:Hp}{Q:VK}(h:Q v H):aq 11 (x0::x1::x2::x3::x4::x5::x6::x7::x8::x9::x10::some v::l) H Q:=⟨v,rfl,h⟩
theorem Zw5{x0 x1 x2 x3 x4 x5 x6 x7 x8 x9 x10:Option V}{y:Option V}{v:V}{l:St}{H:Hp}{Q:ν}(h:Q (x0::x1::x2::x3::x4::x5::x6::x7::x8::x9::x10::some v::l) H):aR 11 v (x0::x1::x2::x3::x4::x5::x6::x7::x8::x9::x10::y::l) H Q:=h
theorem Zvo{x0 x1 x2 x3 x4 x5 x6 x7 x8 x9 x10 x11:Option V}{v:V}{l:St}{H:Hp}{Q:VK}(h:Q v H):aq 12 (x0::x1::x2::x3::x4::x5::x6::x7::x8::x9::x10::x11::some v::l) H Q:=⟨v,rfl,h⟩
theorem Zw4{x0 x1 x2 x3 x4 x5 x6 x7 x8 x9 x10 x11:Option V}{y:Option V}{v:V}{l:St}{H:Hp}{Q:ν}(h:Q (x0::x1::x2::x3::x4::x5::x6::x7::x8::x9::x10::x11::some v::l) H):aR 12 v (x0::x1::x2::x3::x4::x5::x6::x7::x8::x9::x10::x11::y::l) H Q:=h
theorem Zvn{x0 x1 x2 x3 x4 x5 x6 x7 x8 x9 x10 x11 x12:Option V}{v:V}{l:St}{H:Hp}{Q:VK}(h:Q v H):aq 13 (x0::x1::x2::x3::x4::x5::x6::x7::x8::x9::x10::x11::x12::some v::l) H Q:=⟨v,rfl,h⟩
theorem Zw3{x0 x1 x2 x3 x4 x5 x6 x7 x8 x9 x10 x11 x12:Option V}{y:Option V}{v:V}{l:St}{H:Hp}{Q:ν}(h:Q (x0::x1::x2::x3::x4::x5::x6::x7::x8::x9::x10::x11::x12::some v::l) H):aR 13 v (x0::x1::x2::x3::x4::x5::x6::x7::x8::x9::x10::x11::x12::y::l) H Q:=h
theorem aK{H:Hp}{p:AI}(h:H p=none)(o:HO):aY H (upd H p o):=λb u q=>by rw[aB (aD q h)];exact q
theorem nwO{H H1:Hp}{a:AI}{o:HO}(n:H a=none)(h:upd H a o=H1):aY H H1/\H1 a=some o:=by
 subst h;exact⟨aK n o,ao⟩
def tyN(H:Hp):V->Option String
 | .non=>some "NoneType"
 | .bl _=>some "bool"
 | .int _=>some "int"
 | .str _=>some "str"
 | .ref a=>match H a with
  | some (.lst _)=>some "list"
  | some (.yL _ (.lst _))=>some "list"
  | some (.tup _)=>some "tuple"
  | some (.dK _)=>some "dict"
  | some (.dT _)=>some "dict"
  | _=>none
 | _=>none
def vD(t n:String):Option Bool:=if ["int","bool","str","list","tuple","dict"].contains n then some (t == n || (t == "bool" && n == "int"))else none
def Ti:List V->Hp->VK->Prop:=λxs H Q=>∃x n t k,xs=[x,.ty n]/\tyN H x=some t/\vD t n=some k/\Q (.bl k) H
theorem Zda:vD "int" "int"=some true:=γ
theorem JM:vD "int" "bool"=some false:=γ
theorem Zd9:vD "int" "str"=some false:=γ
theorem Z2:vD "int" "list"=some false:=γ
theorem Vu:vD "int" "tuple"=some false:=γ
theorem Z3:vD "int" "dict"=some false:=γ
theorem Z7:vD "bool" "int"=some true:=γ
theorem Gi:vD "bool" "bool"=some true:=γ
theorem Z6:vD "bool" "str"=some false:=γ
theorem Vy:vD "bool" "list"=some false:=γ
theorem RZ:vD "bool" "tuple"=some false:=γ
theorem Vz:vD "bool" "dict"=some false:=γ
theorem Zd8:vD "str" "int"=some false:=γ
theorem ZZ:vD "str" "bool"=some false:=γ
theorem Zd7:vD "str" "str"=some true:=γ
theorem ZW:vD "str" "list"=some false:=γ
theorem Vr:vD "str" "tuple"=some false:=γ
theorem ZX:vD "str" "dict"=some false:=γ
theorem MF:vD "NoneType" "int"=some false:=γ
theorem JQ:vD "NoneType" "bool"=some false:=γ
theorem Mz:vD "NoneType" "str"=some false:=γ
theorem JN:vD "NoneType" "list"=some false:=γ
theorem Hl:vD "NoneType" "tuple"=some false:=γ
theorem JP:vD "NoneType" "dict"=some false:=γ
theorem Z1:vD "list" "int"=some false:=γ
theorem Vt:vD "list" "bool"=some false:=γ
theorem Z0:vD "list" "str"=some false:=γ
theorem Gh:vD "list" "list"=some true:=γ
theorem RW:vD "list" "tuple"=some false:=γ
theorem Vs:vD "list" "dict"=some false:=γ
theorem Vq:vD "tuple" "int"=some false:=γ
theorem RV:vD "tuple" "bool"=some false:=γ
theorem Vp:vD "tuple" "str"=some false:=γ
theorem RQ:vD "tuple" "list"=some false:=γ
theorem Bo:vD "tuple" "tuple"=some true:=γ
theorem RT:vD "tuple" "dict"=some false:=γ
theorem Z5:vD "dict" "int"=some false:=γ
theorem Vx:vD "dict" "bool"=some false:=γ
theorem Z4:vD "dict" "str"=some false:=γ
theorem Vv:vD "dict" "list"=some false:=γ
theorem RX:vD "dict" "tuple"=some false:=γ
theorem Vw:vD "dict" "dict"=some true:=γ
theorem Zde{i:Int}{H:Hp}{Q:VK}(h:Q (.bl false) H):Ti [.int i,.ty "bool"] H Q:=⟨_,_,_,_,rfl,rfl,JM,h⟩
theorem Zdf{i:Bool}{H:Hp}{Q:VK}(h:Q (.bl true) H):Ti [.bl i,.ty "bool"] H Q:=⟨_,_,_,_,rfl,rfl,Gi,h⟩
theorem Dw{a:AI}{H:Hp}{Q:VK}{xs:List V}(hp:H a=some (.lst xs))(h:Q (.bl true) H):Ti [.ref a,.ty "list"] H Q:=⟨_,_,_,_,rfl,(by show(match H a with | some (.lst _)=>some "list" | some (.yL _ (.lst _))=>some "list" | some (.tup _)=>some "tuple" | some (.dK _)=>some "dict" | some (.dT _)=>some "dict" | _=>none)=some "list";rw[hp]),Gh,h⟩
theorem Z9{a:AI}{H:Hp}{Q:VK}{xs:List V}(hp:H a=some (.tup xs))(h:Q (.bl true) H):Ti [.ref a,.ty "tuple"] H Q:=⟨_,_,_,_,rfl,(by show(match H a with | some (.lst _)=>some "list" | some (.yL _ (.lst _))=>some "list" | some (.tup _)=>some "tuple" | some (.dK _)=>some "dict" | some (.dT _)=>some "dict" | _=>none)=some "tuple";rw[hp]),Bo,h⟩
def jt(K:aG):List V->Hp->VK->Prop:=λxs H Q=>∃p ys,xs=[.ref p]/\(bO K H p ys\/fc K H p ys)/\Q (.int ys.length) H
theorem fU{K:aG}{a:AI}{H:Hp}{Q:VK}{xs:List V}(hp:bO K H a xs)(h:Q (.int xs.length) H):jt K [.ref a] H Q:=⟨a,xs,rfl,.inl hp,h⟩
theorem eE{K:aG}{a:AI}{H:Hp}{Q:VK}{xs:List V}{i:Int}{v:V}(hp:bO K H a xs)(hi:atI xs i=some v)(h:Q v H):fO K (.ref a) (.int i) H Q:=⟨a,xs,i,v,rfl,rfl,hp,hi,h⟩
section
variable {K:aG}{a:AI}{xs:List V}{g:TG}{tb:TS}{σ:St}{H:Hp}{n:ν}{r:VK}
theorem forL(xs:List V)(Pv:Nat->ν)(h0:Pv 0 σ H)(hl:∀i σ H,i<=xs.length->Pv i σ H->bO K H a xs)
  (hs:∀i x σ H,xs[i]? =some x->Pv i σ H->g x σ H λσ2 H2=>tb ⟨Pv (i+1),r,n,Pv (i+1)⟩ σ2 H2) (hd:∀ σ H,Pv xs.length σ H->n σ H):
  ∃W:Nat->Nat->ν,(∃m,W 0 m σ H)/\∀i m σ H,W i m σ H->
   ((Itl K a).stop i H/\n σ H)\/((Itl K a).go i H/\∃N:ν,(∀ σ' H',N σ' H'->∃m',m'<m/\W (i+1) m' σ' H')/\∀x H',(Itl K a).yld i H x H'->g x σ H' λσ2 H2=>tb ⟨N,r,n,N⟩ σ2 H2):=
 Zo6 (D:=⟨n,r,λ_ _=>False,λ_ _=>False⟩) Pv h0 hl hs hd
theorem forR{lo:Int}{k:Nat}(Pv:Nat->ν)(h0:Pv 0 σ H)
  (hs:∀i σ H,i<k->Pv i σ H->g (.int (lo+i)) σ H λσ2 H2=>tb ⟨Pv (i+1),r,n,Pv (i+1)⟩ σ2 H2) (hd:∀ σ H,Pv k σ H->n σ H):
  ∃W:Nat->Nat->ν,(∃m,W 0 m σ H)/\∀i m σ H,W i m σ H->
   ((Itr lo k).stop i H/\n σ H)\/((Itr lo k).go i H/\∃N:ν,(∀ σ' H',N σ' H'->∃m',m'<m/\W (i+1) m' σ' H')/\∀x H',(Itr lo k).yld i H x H'->g x σ H' λσ2 H2=>tb ⟨N,r,n,N⟩ σ2 H2):=
 Zko (D:=⟨n,r,λ_ _=>False,λ_ _=>False⟩) Pv h0 hs hd
end
theorem bL{n:Nat}(h:n<=1000000):n<=sizeLine:=Nat.le_trans h ε
def Zby:R2:=λx y H Q=>∃i j,x=.str i/\y=.str j/\i.length+j.length<=sizeLine/\Q (.str (i++j)) H
theorem Za1{i j:Str}{H:Hp}{Q:VK}(hz:i.length+j.length<=sizeLine)(h:Q (.str (i++j)) H):Zby (.str i) (.str j) H Q:=⟨i,j,rfl,rfl,hz,h⟩
theorem Zvz{z:Str}{i:Int}{c:Nat}{H:Hp}{Q:VK}(hz:z.length<=sizeLine)(hi:atI z.cps.toList i=some c)(h:Q (.str ⟨#[c]⟩) H):Zly (.str z) (.int i) H Q:=⟨z,i,c,rfl,rfl,hz,hi,h⟩
theorem Znp{z:Str}{i:Int}{H:Hp}{Q:VK}(hz:z.length<=sizeLine)(h0:0<=i)(h1:i<z.length)(h:∀c:Nat,Q (.str ⟨#[c]⟩) H):Zly (.str z) (.int i) H Q:=by
 have hk:i.toNat<z.cps.toList.length:=by rw[Array.length_toList];exact(Int.toNat_lt h0).mpr h1
 have ek:i=((i.toNat:Nat):Int):=δ
 have q:atI z.cps.toList ((i.toNat:Nat):Int)=some z.cps.toList[i.toNat]:=g8 (bN hk);rw[<- ek]at q;exact Zvz hz q (h _)
def Zac(z:Str)(lo hi:AA):Str:=⟨((z.cps.toList.drop (HT.jW z.length 0 lo)).take (HT.jW z.length z.length hi - HT.jW z.length 0 lo)).toArray⟩
theorem rP(z:Str)(lo hi:AA):(Zac z lo hi).length<=z.length:=by
 show(List.toArray _).size<=z.cps.size;rw[List.size_toArray,List.length_take,List.length_drop,Array.length_toList];omega
def Zji:V->AA->AA->Hp->VK->Prop:=λx lo hi H Q=>∃z,x=.str z/\z.length<=sizeLine/\Q (.str (Zac z lo hi)) H
theorem Zih{z:Str}{lo hi:AA}{H:Hp}{Q:VK}(hz:z.length<=sizeLine)(h:Q (.str (Zac z lo hi)) H):Zji (.str z) lo hi H Q:=⟨z,rfl,hz,h⟩
theorem str_len(z:Str):z.cps.toList.length=z.length:=Array.length_toList
def pick(σ:St)(j:Nat):Option V:=match σ[j]? with
 | some v=>v
 | none=>none
def tLC(wi:TI)(caps:List Nat)(tc:TT)(te:TE):TE:=λσ H Q=>wi σ H λJ H1=>∃W:Nat->Nat->List V->Hp->Prop,(∃m,W 0 m [] H1)/\∀i m ys H,W i m ys H->
 (J.stop i H/\∀p,H p=none->Q (.ref p) (upd H p (.lst ys)))\/
 (J.go i H/\ys.length<sizeLine/\∀x H',J.yld i H x H'->tc (some x::caps.map (pick σ)) H' λk H2=>if k=true then te (some x::caps.map (pick σ)) H2 (λy H3=>∃m',m'<m/\W (i+1) m' (ys++[y]) H3)else ∃m',m'<m/\W (i+1) m' ys H2)
def FP:TT:=λ_ H Q=>Q true H
theorem R7{σ:St}{H:Hp}{Q:Bool->Hp->Prop}(h:Q true H):FP σ H Q:=h
theorem Zqo{r r':R2}{ta tb tc:TE}{σ:St}{H:Hp}{Q:VK}(h:ta σ H λx H1=>tb σ H1 λy H2=>r x y H2 (kB λk H3=>if k=true then tc σ H3 (λw H4=>r' y w H4 Q)else Q (.bl false) H3)):Zel r r' ta tb tc σ H Q:=h
structure EqD(K:aG)(C:AI):Prop where
 eq:W.findIn K (.ref C) "__eq__"=some (some (.builtin "object.__eq__"))
 ob:W.mroIn K C (.type "object")=some true
def TX(a:AI)(cls:AJ):HO:=.ext λh=>∃o vs,h.get? a=some o/\o.cls=cls/\o.data=.fields vs
def Ku(C:AI)(E:XK)(ta:TA):TS:=λ_ σ H=>ta σ H λvs H1=>vs.length<=100/\E (.ref C) none H1
def XX(sp:Sp)(vG:List V)(E:St->XK)(t:TA):TE:=λσ H Q=>t σ H λvs H1=>sp (vs++vG) H1 Q (E σ)
def Zeh(Mt:AJ->Prop)(i:Nat)(tb:(St->XK)->TS)(th:TS):TS:=λD σ H=>
 tb (λσ' cls _ H'=>Mt cls/\∀ea,H' ea=none->th ⟨λσ2 H2=>D.nx (σ2.set i none) H2,D.rt,λσ2 H2=>D.bk (σ2.set i none) H2,λσ2 H2=>D.ct (σ2.set i none) H2⟩ (σ'.set i (↑ea)) (upd H' ea (TX ea cls))) D σ H
section
variable {σ:St}{H:Hp}{Q:VK}{n:ν}{r:VK}{b c:ν}{te:TE}{t:TA}
theorem Zqd{C:AI}{E:XK}(h:t σ H λvs H1=>vs.length<=100/\E (.ref C) none H1):Ku C E t ⟨n,r,b,c⟩ σ H:=h
theorem Zqp{sp:Sp}{vG:List V}{E:St->XK}(h:t σ H λvs H1=>sp (vs++vG) H1 Q (E σ)):XX sp vG E t σ H Q:=h
theorem Zqc{Mt:AJ->Prop}{i:Nat}{tb:(St->XK)->TS}{th:TS}(h:tb (λσ' cls _ H'=>Mt cls/\∀ea,H' ea=none->th ⟨λσ2 H2=>n (σ2.set i none) H2,r,λσ2 H2=>b (σ2.set i none) H2,λσ2 H2=>c (σ2.set i none) H2⟩ (σ'.set i (↑ea)) (upd H' ea (TX ea cls))) ⟨n,r,b,c⟩ σ H):
  Zeh Mt i tb th ⟨n,r,b,c⟩ σ H:=h
end
theorem Ztz{to ti:TE}{ts:Zrb}{x:V}{σ:St}{H:Hp}{Q:ν}(h:to σ H λo H1=>ti σ H1 λi H2=>ts o i x H2 λH3=>Q σ H3):Su to ti ts x σ H Q:=h
def Xw(Cs:AF)(isk:AJ->AJ->Option Bool):List V->Hp->VK->Prop:=λxs H Q=>∃a c C k,(∃v,xs=[.ref a,v]/\RelV v c)/\C∈Cs/\H a=some (TX a (.ref C))/\isk (.ref C) c=some k/\Q (.bl k) H
def Ao(K:aG):List V->Hp->VK->Prop:=λxs H Q=>∃(p:AI) (ys:List V),xs=[.ref p]/\bO K H p ys/\∀l,H l=none->Q (.ref l) (upd H l (.lst ys))
theorem JS{K:aG}{H:Hp}{Q:VK}{p:AI}{ys:List V}(h1:bO K H p ys)(h:∀l,H l=none->Q (.ref l) (upd H l (.lst ys))):Ao K [.ref p] H Q:=⟨p,ys,rfl,h1,h⟩
def OkN(K:aG)(H:Hp)(xs:List V):Prop:=∀y∈xs,y=.non\/∃a C dx fs,y=.ref a/\H a=some (.ins C dx fs)/\Er K C/\EqD K C
def Zsm(K:aG)(neg:Bool):R2:=λx y H Q=>∃p xs,x=.non/\y=.ref p/\bO K H p xs/\OkN K H xs/\Q (.bl (if neg then !decide (V.non∈xs)else decide (V.non∈xs))) H
theorem Znn{K:aG}{H:Hp}{Q:VK}{p:AI}{xs:List V}(h1:bO K H p xs)(h2:OkN K H xs)(h:Q (.bl (!decide (V.non∈xs))) H):Zsm K true .non (.ref p) H Q:=⟨p,xs,rfl,rfl,h1,h2,h⟩
def Zht(K:aG):V->List V->Hp->VK->Prop:=λx vs H Q=>∃p xs,x=.ref p/\vs=[.non]/\bO K H p xs/\OkN K H xs/\V.non∈xs/\Q (.int (xs.idxOf V.non)) H
def eqL(xs ys:List V):Bool:=xs.length == ys.length && (xs.zip ys).all λp=>eqV p.1 p.2
def Lr(K:aG)(neg:Bool):R2:=λx y H Q=>∃p q xs ys,x=.ref p/\y=.ref q/\bO K H p xs/\bO K H q ys/\(xs.length=ys.length->xs.all iQ=true/\ys.all iQ=true)/\Q (.bl (if neg then !eqL xs ys else eqL xs ys)) H
theorem Za0{K:aG}{H:Hp}{Q:VK}{p q:AI}{xs:List V}(h1:bO K H p xs)(h2:bO K H q [])(h:Q (.bl (decide (xs=[]))) H):Lr K false (.ref p) (.ref q) H Q:=by
 refine⟨p,q,_,_,rfl,rfl,h1,h2,λe=>?_,?_⟩
 ·have:xs=[]:=List.length_eq_zero_iff.mp e;subst this;exact⟨rfl,rfl⟩
 ·have e:eqL xs []=decide (xs=[]):=by cases xs<;>rfl
  show Q (.bl (eqL xs [])) H;rw[e];exact h
def Fm(S:AF)(H H':Hp):Prop:=∀b o,H b=some o->b∉S->H' b=some o
theorem Fm.same{H H':Hp}(a:Fm [] H H'):aY H H':=λc o h=>a c o h (λz=>nomatch z)
theorem Zgk{x:V}{H:Hp}{Q:VK}(h:Q (.bl (!decide (x=.non))) H):Jc x .non H Q:=⟨rfl,h⟩
def LCg(J:It)(caps:List Nat)(tc:TT)(te:TE)(σ:St)(H:Hp)(Q:VK):Prop:=∃W:Nat->Nat->List V->Hp->Prop,(∃m,W 0 m [] H)/\∀i m ys H,W i m ys H->
 (J.stop i H/\∀p,H p=none->Q (.ref p) (upd H p (.lst ys)))\/
 (J.go i H/\ys.length<sizeLine/\∀x H',J.yld i H x H'->tc (some x::caps.map (pick σ)) H' λk H2=>if k=true then te (some x::caps.map (pick σ)) H2 (λy H3=>∃m',m'<m/\W (i+1) m' (ys++[y]) H3)else ∃m',m'<m/\W (i+1) m' ys H2)
theorem Zdd{wi:TI}{caps:List Nat}{tc:TT}{te:TE}{σ:St}{H:Hp}{Q:VK}(h:wi σ H λJ H1=>LCg J caps tc te σ H1 Q):tLC wi caps tc te σ H Q:=h
theorem Znc{J:It}{caps:List Nat}{tc:TT}{te:TE}{σ:St}{H:Hp}{Q:VK}(k:Nat)(hz:k<=1000000)(g:Nat->Option V)
  (hstop:J.stop k H) (hgo:∀i,i<k->J.go i H) (hy:∀i x H',i<k->J.yld i H x H'->H'=H/\(∀q:Bool->Hp->Prop,q (g i).isSome H->tc (some x::caps.map (pick σ)) H q)/\∀(y:V) (q:VK),g i=some y->q y H->te (some x::caps.map (pick σ)) H q)
  (q:∀p,H p=none->Q (.ref p) (upd H p (.lst ((List.range k).filterMap g)))):
  LCg J caps tc te σ H Q:=by
 refine⟨λi m ys H'=>H'=H/\i<=k/\m=k - i/\ys=(List.range i).filterMap g,⟨k,rfl,Nat.zero_le _,rfl,rfl⟩,?_⟩;rintro i m ys _ ⟨rfl,hi,rfl,rfl⟩
 by_cases hk:i=k
 ·subst hk;exact .inl ⟨hstop,q⟩
 ·have hlt:i<k:=δ
  refine .inr ⟨hgo i hlt,?_,λx H' y=>?_⟩
  ·refine Nat.lt_of_le_of_lt (Nat.le_trans (List.length_filterMap_le _ _) ?_) (show 1000000<sizeLine by decide);rw[List.length_range];omega
  ·obtain⟨rfl,h1,h2⟩:=hy i x H' hlt y;refine h1 _ ?_;have er:List.filterMap g (List.range (i+1))=List.filterMap g (List.range i)++(match g i with | some y=>[y] | none=>[]):=by
    rw[List.range_succ,List.filterMap_append];cases e:g i with
    | none=>rw[List.filterMap_cons_none e];rfl
    | some y=>rw[List.filterMap_cons_some e];rfl
   cases e:g i with
   | none=>
    rw[e]at er;dsimp only[Option.isSome];refine Vn ⟨k - (i+1),δ,rfl,δ,rfl,?_⟩;rw[er,List.append_nil]
   | some y=>
    rw[e]at er;dsimp only[Option.isSome];refine RL (h2 y _ e ⟨k - (i+1),δ,rfl,δ,rfl,?_⟩);rw[er]
theorem Za6(l:List Nat)(p:Nat->Bool)(f:Nat->V):l.filterMap (λi=>if p i=true then some (f i)else none)=(l.filter p).map f:=by
 induction l with
 | nil=>rfl
 | cons a l ih=>
  by_cases h:p a=true
  ·rw[List.filterMap_cons_some (by rw[if_pos h]),List.filter_cons_of_pos h,List.map_cons,ih]
  ·rw[List.filterMap_cons_none (by rw[if_neg h]),List.filter_cons_of_neg h,ih]
theorem Znd{caps:List Nat}{tc:TT}{te:TE}{σ:St}{H:Hp}{Q:VK}{n:Nat}{z:Int}(ez:z.toNat=n)(p:Nat->Bool)(f:Nat->V)(hz:n<=1000000)
  (htc:∀i,i<n->∀q:Bool->Hp->Prop,q (p i) H->tc (some (.int i)::caps.map (pick σ)) H q)
  (hte:∀i,i<n->p i=true->∀q:VK,q (f i) H->te (some (.int i)::caps.map (pick σ)) H q)
  (q:∀l,H l=none->Q (.ref l) (upd H l (.lst (((List.range n).filter p).map f)))):
  LCg (Itr 0 z.toNat) caps tc te σ H Q:=by
 subst ez;refine Znc z.toNat hz (λi=>if p i=true then some (f i)else none) υ (λi hi=>hi) (λi x H' hi y=>?_) ?_
 ·obtain⟨e1,e2⟩:=y;have ex:x=.int i:=by rw[e2];simp
  refine⟨e1,λq hq=>?_,λy q hy hq=>?_⟩
  ·rw[ex];refine htc i hi q ?_;cases e:p i with
   | true=>rw[e]at hq;exact hq
   | false=>rw[e]at hq;exact hq
  ·rw[ex];cases e:p i with
   | true=>
    rw[e]at hy;have ey:f i=y:=by simpa using hy
    exact hte i hi e q (by rw[ey];exact hq)
   | false=>rw[e]at hy;simp at hy
 ·rw[Za6];exact q
theorem Zid{K:aG}{a:AI}{xs:List V}{caps:List Nat}{tc:TT}{te:TE}{σ:St}{H:Hp}{Q:VK}(hs:bO K H a xs)(g:Nat->Option V)(hz:xs.length<=1000000)
  (hy:∀i x,xs[i]? =some x->(∀q:Bool->Hp->Prop,q (g i).isSome H->tc (some x::caps.map (pick σ)) H q)/\∀(y:V) (q:VK),g i=some y->q y H->te (some x::caps.map (pick σ)) H q)
  (q:∀p,H p=none->Q (.ref p) (upd H p (.lst ((List.range xs.length).filterMap g)))):
  LCg (Itl K a) caps tc te σ H Q:=by
 refine Znc xs.length hz g ⟨xs,hs,Nat.le_refl _⟩ (λi hi=>⟨xs,xs[i],hs,bN hi⟩) (λi x H' hi y=>?_) q;obtain⟨e1,e2⟩:=y;exact⟨e1,hy i x (e2 xs hs)⟩
theorem ug{n i:Nat}(h:i<n):ixN n (i:Int)=some i:=by
 unfold ixN;rw[if_pos δ,if_pos δ];simp
theorem Zqb{n:Nat}{i:Int}(h0:0<=i)(h:i.toNat<n):ixN n i=some i.toNat:=by
 have e:i=((i.toNat:Nat):Int):=δ
 have:=ug h;rw[<- e]at this;exact this
theorem mO{α:Type}{xs:List α}{i:Int}{v:α}(h0:0<=i)(h:xs[i.toNat]? =some v):atI xs i=some v:=by
 have e:i=((i.toNat:Nat):Int):=δ
 have:=g8 h;rw[<- e]at this;exact this
inductive Al{α β:Type}(P:α->β->Prop):List α->List β->Prop
 | nil:Al P [] []
 | cons {x:α}{y:β}{xs:List α}{ys:List β}:P x y->Al P xs ys->Al P (x::xs) (y::ys)
section
variable {α β:Type}{P P':α->β->Prop}{xs:List α}{ys:List β}
theorem Al.length(h:Al P xs ys):xs.length=ys.length:=by
 induction h with
 | nil=>rfl
 | cons _ _ ih=>rw[List.length_cons,List.length_cons,ih]
theorem Al.mono(h:Al P xs ys)(f:∀x y,P x y->P' x y):Al P' xs ys:=by
 induction h with
 | nil=>exact .nil
 | cons p _ ih=>exact .cons (f _ _ p) ih
theorem Al.get(h:Al P xs ys):∀{i:Nat}{y:β},ys[i]? =some y->∃x,xs[i]? =some x/\P x y:=by
 induction h with
 | nil=>intro i y e;simp at e
 | cons p _ ih=>
  intro i y e;cases i with
  | zero=>simp at e;subst e;exact⟨_,rfl,p⟩
  | succ i=>
   obtain⟨x,e1,e2⟩:=ih (i:=i) (y:=y) (by simpa using e);exact⟨x,by simpa using e1,e2⟩
theorem Al.getL(h:Al P xs ys):∀{i:Nat}{x:α},xs[i]? =some x->∃y,ys[i]? =some y/\P x y:=by
 induction h with
 | nil=>intro i y e;simp at e
 | cons p _ ih=>
  intro i y e;cases i with
  | zero=>simp at e;subst e;exact⟨_,rfl,p⟩
  | succ i=>
   obtain⟨x,e1,e2⟩:=ih (i:=i) (by simpa using e);exact⟨x,by simpa using e1,e2⟩
theorem Al.app(h:Al P xs ys){x:α}{y:β}(p:P x y):Al P (xs++[x]) (ys++[y]):=by
 induction h with
 | nil=>exact .cons p .nil
 | cons q t ih=>exact .cons q ih
theorem Al.mem(h:Al P xs ys){x:α}(hx:x∈xs):∃y,y∈ys/\P x y:=by
 induction h with
 | nil=>cases hx
 | cons q t ih=>
  rcases List.mem_cons.mp hx with e | e
  ·subst e;exact⟨_,List.mem_cons_self,q⟩
  ·obtain⟨y,h1,h2⟩:=ih e;exact⟨y,List.mem_cons_of_mem _ h1,h2⟩
end
abbrev Tg:=AI->Nat×Nat
def WT(H:Hp)(T:Tg):Prop:=∀b,H b=none->T b=(0,0)
structure cY(s:Nat)(H H':Hp)(T T':Tg):Prop where
 kp:∀b o,H b=some o->(T b).1≠s->H' b=some o
 al:∀b o,H b=some o->∃o',H' b=some o'
 tg:∀b o,H b=some o->T' b=T b
 wt:WT H' T'
def eG(T:Tg)(a:AI)(v:Nat×Nat):Tg:=λx=>if x=a then v else T x
theorem dM{T:Tg}{a:AI}{v:Nat×Nat}:eG T a v a=v:=by unfold eG;rw[if_pos rfl]
theorem gG{T:Tg}{a b:AI}{v:Nat×Nat}(h:b≠a):eG T a v b=T b:=by unfold eG;rw[if_neg h]
theorem WT.same{H H':Hp}{T:Tg}(w:WT H T)(s:aY H H'):WT H' T:=λb h=>w b (s.free h)
theorem cY.refl{s:Nat}{H:Hp}{T:Tg}(w:WT H T):cY s H H T T:=⟨λ_ _ h _=>h,λ_ o h=>⟨o,h⟩,λ_ _ _=>rfl,w⟩
theorem cY.same{s:Nat}{H H':Hp}{T:Tg}(w:WT H T)(e:aY H H'):cY s H H' T T:=⟨λb o h _=>e b o h,λb o h=>⟨o,e b o h⟩,λ_ _ _=>rfl,w.same e⟩
theorem cY.trans{s:Nat}{H H1 H2:Hp}{T T1 T2:Tg}(a:cY s H H1 T T1)(b:cY s H1 H2 T1 T2):cY s H H2 T T2 where
 kp:=λx o h n=>b.kp x o (a.kp x o h n) (by rw[a.tg x o h];exact n)
 al:=λx o h=>by
  obtain⟨o1,h1⟩:=a.al x o h;exact b.al x o1 h1
 tg:=λx o h=>by
  obtain⟨o1,h1⟩:=a.al x o h;rw[b.tg x o1 h1,a.tg x o h]
 wt:=b.wt
theorem cY.upd{s:Nat}{H:Hp}{T:Tg}{a:AI}{o o':HO}(w:WT H T)(ha:H a=some o)(ht:(T a).1=s):cY s H (L2.upd H a o') T T where
 kp:=λx u h n=>by
  have:x≠a:=λe=>n (by rw[e];exact ht);rw[aB this];exact h
 al:=λx u h=>by
  by_cases e:x=a
  ·exact⟨o',by rw[e,ao]⟩
  ·exact⟨u,by rw[aB e];exact h⟩
 tg:=λ_ _ _=>rfl
 wt:=λb h=>w b (by
  by_cases e:b=a
  ·rw[e,ao]at h;cases h
  ·rw[aB e]at h;exact h)
theorem Rr{T:Tg}{a b:AI}{x y:Nat×Nat}(ha:T a=x)(hb:T b=y)(h:x≠y):a≠b:=λe=>h (by rw[<- ha,<- hb,e])
theorem Ztb{J:It}{caps:List Nat}{tc:TT}{te:TE}{σ:St}{H:Hp}{Q:VK}(k:Nat)(hz:k<=1000000)(R:Nat->V->Hp->Prop)(mono:∀i y H1 H2,R i y H1->aY H1 H2->R i y H2)
  (hstop:∀H',aY H H'->J.stop k H') (hgo:∀i H',i<k->aY H H'->J.go i H')
  (hy:∀i x H1 H',i<k->aY H H1->J.yld i H1 x H'->H'=H1/\(∀q:Bool->Hp->Prop,q true H1->tc (some x::caps.map (pick σ)) H1 q)/\∀q:VK,(∀y H2,aY H1 H2->R i y H2->q y H2)->te (some x::caps.map (pick σ)) H1 q)
  (q:∀ys H',aY H H'->ys.length=k->(∀(i:Nat) y,ys[i]? =some y->R i y H')->∀p,H' p=none->Q (.ref p) (upd H' p (.lst ys))):
  LCg J caps tc te σ H Q:=by
 refine⟨λi m ys H'=>aY H H'/\i<=k/\m=k - i/\ys.length=i/\∀(j:Nat) y,ys[j]? =some y->R j y H',⟨k,aY.refl _,Nat.zero_le _,rfl,rfl,λj y e=>by simp at e⟩,?_⟩;rintro i m ys H1 ⟨s1,hi,rfl,hl,hr⟩
 by_cases hk:i=k
 ·subst hk;exact .inl ⟨hstop H1 s1,q ys H1 s1 hl hr⟩
 ·have hlt:i<k:=δ
  refine .inr ⟨hgo i H1 hlt s1,Nat.lt_of_le_of_lt (show ys.length<=1000000 by omega) (show 1000000<sizeLine by decide),λx H' y=>?_⟩;obtain⟨rfl,h1,h2⟩:=hy i x H1 H' hlt s1 y;refine h1 _ (RL (h2 _ λy H2 s2 r=>⟨k - (i+1),δ,s1.trans s2,δ,rfl,by rw[List.length_append,hl];rfl,λj z e=>?_⟩))
  by_cases hj:j<ys.length
  ·rw[List.getElem?_append_left hj]at e;exact mono j z _ _ (hr j z e) s2
  ·have hj':=(cZ e).1;rw[List.length_append,List.length_singleton]at hj';have ej:j=ys.length:=δ
   subst ej;rw[List.getElem?_append_right υ,Nat.sub_self]at e;cases e;rw[hl];exact r
theorem Zq8{J:It}{caps:List Nat}{tc:TT}{te:TE}{σ:St}{H:Hp}{Q:VK}(k:Nat)(hz:k<=1000000)(R:Nat->AI->Hp->Prop)(mono:∀i y H1 H2,R i y H1->aY H1 H2->R i y H2)(al:∀i y H1,R i y H1->∃o,H1 y=some o)
  (hstop:∀H',aY H H'->J.stop k H') (hgo:∀i H',i<k->aY H H'->J.go i H')
  (hy:∀i x H1 H',i<k->aY H H1->J.yld i H1 x H'->H'=H1/\(∀q:Bool->Hp->Prop,q true H1->tc (some x::caps.map (pick σ)) H1 q)/\∀q:VK,(∀r H2,aY H1 H2->H1 r=none->R i r H2->q (.ref r) H2)->te (some x::caps.map (pick σ)) H1 q)
  (q:∀(rs:AF) H',aY H H'->rs.length=k->rs.Nodup->(∀r∈rs,H r=none)->(∀(i:Nat) r,rs[i]? =some r->R i r H')->∀p,H' p=none->Q (.ref p) (upd H' p (.lst (rs.map V.ref)))):
  LCg J caps tc te σ H Q:=by
 refine⟨λi m ys H'=>∃rs:AF,ys=rs.map V.ref/\aY H H'/\i<=k/\m=k - i/\rs.length=i/\rs.Nodup/\(∀r∈rs,H r=none)/\∀(j:Nat) r,rs[j]? =some r->R j r H',⟨k,[],rfl,aY.refl _,Nat.zero_le _,rfl,rfl,List.nodup_nil,λr hr=>(nomatch hr),λj y e=>by simp at e⟩,?_⟩;rintro i m _ H1 ⟨rs,rfl,s1,hi,rfl,hl,nd,nn,hr⟩
 by_cases hk:i=k
 ·subst hk;exact .inl ⟨hstop H1 s1,q rs H1 s1 hl nd nn hr⟩
 ·have hlt:i<k:=δ
  refine .inr ⟨hgo i H1 hlt s1,Nat.lt_of_le_of_lt (show(rs.map V.ref).length<=1000000 by rw[bx];omega) (show 1000000<sizeLine by decide),λx H' y=>?_⟩;obtain⟨rfl,h1,h2⟩:=hy i x H1 H' hlt s1 y;refine h1 _ (RL (h2 _ λr H2 s2 nr rr=>⟨k - (i+1),δ,rs++[r],by rw[List.map_append];rfl,s1.trans s2,δ,rfl,by rw[List.length_append,hl];rfl,?_,λz hz=>?_,λj z e=>?_⟩))
  ·rw[List.nodup_append];refine⟨nd,ζ,λa ha b hb e=>?_⟩;rw[List.mem_singleton.mp hb]at e;subst e;obtain⟨j,hj,ej⟩:=List.getElem_of_mem ha;obtain⟨o,ho⟩:=al j a _ (hr j a (by rw[bN hj,ej]));rw[nr]at ho;cases ho
  ·rcases List.mem_append.mp hz with hz | hz
   ·exact nn z hz
   ·rw[List.mem_singleton.mp hz];exact s1.free nr
  ·by_cases hj:j<rs.length
   ·rw[List.getElem?_append_left hj]at e;exact mono j z _ _ (hr j z e) s2
   ·have hj':=(cZ e).1;rw[List.length_append,List.length_singleton]at hj';have ej:j=rs.length:=δ
    subst ej;rw[List.getElem?_append_right υ,Nat.sub_self]at e;cases e;rw[hl];exact rr
theorem Zne{K:aG}{a:AI}{xs:List V}{caps:List Nat}{tc:TT}{te:TE}{σ:St}{H:Hp}{Q:VK}(hs:bO K H a xs)(hz:xs.length<=1000000)(R:Nat->AI->Hp->Prop)(mono:∀i y H1 H2,R i y H1->aY H1 H2->R i y H2)(al:∀i y H1,R i y H1->∃o,H1 y=some o)
  (htc:∀x H1,∀q:Bool->Hp->Prop,q true H1->tc (some x::caps.map (pick σ)) H1 q)
  (hte:∀(i:Nat) x H1,xs[i]? =some x->aY H H1->∀q:VK,(∀r H2,aY H1 H2->H1 r=none->R i r H2->q (.ref r) H2)->te (some x::caps.map (pick σ)) H1 q)
  (q:∀(rs:AF) H',aY H H'->rs.length=xs.length->rs.Nodup->(∀r∈rs,H r=none)->(∀(i:Nat) r,rs[i]? =some r->R i r H')->∀p,H' p=none->Q (.ref p) (upd H' p (.lst (rs.map V.ref)))):LCg (Itl K a) caps tc te σ H Q:=by
 refine Zq8 xs.length hz R mono al (λH' s=>⟨xs,s.seq hs,Nat.le_refl _⟩) (λi H' hi s=>⟨xs,xs[i],s.seq hs,bN hi⟩) (λi x H1 H' hi s1 y=>?_) q;obtain⟨e1,e2⟩:=y;exact⟨e1,htc x H1,λq hq=>hte i x H1 (e2 xs (s1.seq hs)) s1 q hq⟩
end G
namespace G
open PySem L2 PySem.Spec PyProof.Rows
theorem boot_isinstance:bootBuiltins "isinstance"=some (.builtin "isinstance"):=γ
theorem boot_len:bootBuiltins "len"=some (.builtin "len"):=γ
theorem boot_bool:bootBuiltins "bool"=some (.type "bool"):=γ
theorem boot_list:bootBuiltins "list"=some (.type "list"):=γ
theorem boot_tuple:bootBuiltins "tuple"=some (.type "tuple"):=γ
structure Zox(K:aG)(x qual:Str)(st:Stmt)(f:AI)(fd:AL):Prop where
 ex:∃(oc:AJ) (od:Option AI) (dV kV doc pm:AJ) (an:Option AI) (cdv ct:AJ) (osl:Array AB),
  fd=W.fnOf x qual (iH st) (fj st) (aF st) dV kV doc pm an cdv ct/\K.lookup f=some ⟨oc,od,.func fd,osl⟩/\W.codeIn K cdv qual=true
 kp:W.keepIn K (.ref f)=true
section
variable {P:AM}{w:AO}{K:aG}{mg:As}{base:Heap}
theorem Zik{x qual:Str}{st:Stmt}{f:AI}{oc dV:AJ}{od an:Option AI}{osl:Array AB}{kV doc pm cdv ct:AJ}(l:K.lookup f=some ⟨oc,od,.func (W.fnOf x qual (iH st) (fj st) (aF st) dV kV doc pm an cdv ct),osl⟩)
  (c:W.codeIn K cdv qual=true) (k:W.keepIn K (.ref f)=true):Zox K x qual st f (W.fnOf x qual (iH st) (fj st) (aF st) dV kV doc pm an cdv ct):=⟨⟨oc,od,dV,kV,doc,pm,an,cdv,ct,osl,rfl,l,c⟩,k⟩
theorem Zhd{f td:AI}{oc tc:AJ}{od to_:Option AI}{osl ts:Array AB}{fd:AL}{items:Array AJ}{tn:Nat}{ps:AH}{ds:AC}(_:K.lookup f=some ⟨oc,od,.func fd,osl⟩)(t:K.lookup td=some ⟨tc,to_,.seq items tn,ts⟩)
  (h:∀us:AC,us.length+ds.length=ps.length->∃k,bindArgs fd ⟨us,[]⟩=seqItems? (.ref td) >>= k/\k (some items)=pure (ps.zip (us++ds))) (hd:fd.defaults=.ref td:=by rfl):Binds K fd ps ds:=by
 intro s us KX hl;obtain⟨k,h1,h2⟩:=h us (by rw[List.length_append]at hl;exact hl);exact BindsTo.of_defaults hd (KX _ _ t) rfl (by rw[h1,hd]) h2
end
section
variable {X:Cx}
theorem zT:yJ X (compareOp .Is) QT:=Zss
theorem Ju:yJ X (compareOp .IsNot) Jc:=Zps
theorem cJ:Ks X (.builtin "len") (jt X.K):=Zad
def kk(t n:String):Option Bool:=if (Value.type t == Value.type n)=true then some true else if W.kitMeta n=true then(fastBuiltinMro t).map (·.contains (.type n))else none
theorem Ztd(K:aG)(t n:String):W.kitOne K (.type t) (.type n)=kk t n:=rfl
theorem Zgh:kk "int" "int"=some true:=γ
theorem Zd0:kk "int" "bool"=some false:=γ
theorem Zgg:kk "int" "str"=some false:=γ
theorem Zcy:kk "int" "list"=some false:=γ
theorem ZK:kk "int" "tuple"=some false:=γ
theorem Zcz:kk "int" "dict"=some false:=γ
theorem Zd4:kk "bool" "int"=some true:=γ
theorem ZS:kk "bool" "bool"=some true:=γ
theorem Zd3:kk "bool" "str"=some false:=γ
theorem ZQ:kk "bool" "list"=some false:=γ
theorem Vm:kk "bool" "tuple"=some false:=γ
theorem ZR:kk "bool" "dict"=some false:=γ
theorem Zgf:kk "str" "int"=some false:=γ
theorem Zcv:kk "str" "bool"=some false:=γ
theorem Zge:kk "str" "str"=some true:=γ
theorem Zct:kk "str" "list"=some false:=γ
theorem ZD:kk "str" "tuple"=some false:=γ
theorem Zcu:kk "str" "dict"=some false:=γ
theorem Ph:kk "NoneType" "int"=some false:=γ
theorem Mv:kk "NoneType" "bool"=some false:=γ
theorem Pg:kk "NoneType" "str"=some false:=γ
theorem Ms:kk "NoneType" "list"=some false:=γ
theorem JH:kk "NoneType" "tuple"=some false:=γ
theorem Mu:kk "NoneType" "dict"=some false:=γ
theorem Zcx:kk "list" "int"=some false:=γ
theorem ZJ:kk "list" "bool"=some false:=γ
theorem Zcw:kk "list" "str"=some false:=γ
theorem ZF:kk "list" "list"=some true:=γ
theorem Vk:kk "list" "tuple"=some false:=γ
theorem ZG:kk "list" "dict"=some false:=γ
theorem ZC:kk "tuple" "int"=some false:=γ
theorem Vj:kk "tuple" "bool"=some false:=γ
theorem Zz:kk "tuple" "str"=some false:=γ
theorem Vh:kk "tuple" "list"=some false:=γ
theorem RD:kk "tuple" "tuple"=some true:=γ
theorem Vi:kk "tuple" "dict"=some false:=γ
theorem Zd2:kk "dict" "int"=some false:=γ
theorem ZP:kk "dict" "bool"=some false:=γ
theorem Zd1:kk "dict" "str"=some false:=γ
theorem ZL:kk "dict" "list"=some false:=γ
theorem Vl:kk "dict" "tuple"=some false:=γ
theorem ZM:kk "dict" "dict"=some true:=γ
theorem Zs7{H:Hp}{x:V}{t:String}(e:tyN H x=some t):t="int"\/t="bool"\/t="str"\/t="NoneType"\/t="list"\/t="tuple"\/t="dict":=by
 unfold tyN at e;split at e<;>(first | (cases e;simp) | (split at e<;>(first | (cases e;simp) | cases e)) | cases e)
theorem Ztk{t n:String}{k:Bool}(e:vD t n=some k):n="int"\/n="bool"\/n="str"\/n="list"\/n="tuple"\/n="dict":=by
 unfold vD at e
 by_cases h:(["int","bool","str","list","tuple","dict"].contains n)=true
 ·simpa using h
 ·rw[if_neg h]at e;cases e
theorem Zvh{H:Hp}{x:V}{t n:String}{k:Bool}(ht:tyN H x=some t)(e:vD t n=some k):kk t n=some k:=by
 rcases Zs7 ht with rfl | rfl | rfl | rfl | rfl | rfl | rfl<;>rcases Ztk e with rfl | rfl | rfl | rfl | rfl | rfl
 ·rw[Zda]at e;rw[Zgh];exact e
 ·rw[JM]at e;rw[Zd0];exact e
 ·rw[Zd9]at e;rw[Zgg];exact e
 ·rw[Z2]at e;rw[Zcy];exact e
 ·rw[Vu]at e;rw[ZK];exact e
 ·rw[Z3]at e;rw[Zcz];exact e
 ·rw[Z7]at e;rw[Zd4];exact e
 ·rw[Gi]at e;rw[ZS];exact e
 ·rw[Z6]at e;rw[Zd3];exact e
 ·rw[Vy]at e;rw[ZQ];exact e
 ·rw[RZ]at e;rw[Vm];exact e
 ·rw[Vz]at e;rw[ZR];exact e
 ·rw[Zd8]at e;rw[Zgf];exact e
 ·rw[ZZ]at e;rw[Zcv];exact e
 ·rw[Zd7]at e;rw[Zge];exact e
 ·rw[ZW]at e;rw[Zct];exact e
 ·rw[Vr]at e;rw[ZD];exact e
 ·rw[ZX]at e;rw[Zcu];exact e
 ·rw[MF]at e;rw[Ph];exact e
 ·rw[JQ]at e;rw[Mv];exact e
 ·rw[Mz]at e;rw[Pg];exact e
 ·rw[JN]at e;rw[Ms];exact e
 ·rw[Hl]at e;rw[JH];exact e
 ·rw[JP]at e;rw[Mu];exact e
 ·rw[Z1]at e;rw[Zcx];exact e
 ·rw[Vt]at e;rw[ZJ];exact e
 ·rw[Z0]at e;rw[Zcw];exact e
 ·rw[Gh]at e;rw[ZF];exact e
 ·rw[RW]at e;rw[Vk];exact e
 ·rw[Vs]at e;rw[ZG];exact e
 ·rw[Vq]at e;rw[ZC];exact e
 ·rw[RV]at e;rw[Vj];exact e
 ·rw[Vp]at e;rw[Zz];exact e
 ·rw[RQ]at e;rw[Vh];exact e
 ·rw[Bo]at e;rw[RD];exact e
 ·rw[RT]at e;rw[Vi];exact e
 ·rw[Z5]at e;rw[Zd2];exact e
 ·rw[Vx]at e;rw[ZP];exact e
 ·rw[Z4]at e;rw[Zd1];exact e
 ·rw[Vv]at e;rw[ZL];exact e
 ·rw[RX]at e;rw[Vl];exact e
 ·rw[Vw]at e;rw[ZM];exact e
theorem tyOf{K:aG}{H:Hp}{x:V}{t:String}(e:tyN H x=some t):M7 K H x (.type t):=by
 cases x with
 | non=>cases e;exact .non
 | bl y=>cases e;exact .bl y
 | int y=>cases e;exact .int y
 | str y=>cases e;exact .str y
 | byt y=>cases e
 | flt y=>cases e
 | ty y=>cases e
 | ref a=>
  have e':(match H a with | some (.lst _)=>some "list" | some (.yL _ (.lst _))=>some "list" | some (.tup _)=>some "tuple" | some (.dK _)=>some "dict" | some (.dT _)=>some "dict" | _=>none)=some t:=e;split at e'
  ·rename_i h;cases e';exact .lst h
  ·rename_i h;cases e';exact .yL h
  ·rename_i h;cases e';exact .tup h
  ·rename_i h;cases e';exact .dK h
  ·rename_i h;cases e';exact .dT h
  ·cases e'
theorem yG:Ks X (.builtin "isinstance") Ti:=by
 intro pins s σ H xs us Q I r h;obtain⟨x,n,t,k,rfl,ht,hk,q⟩:=h;obtain⟨u,w',rfl,rx,rn⟩:=vals2 r;have rn':w'=Value.type n:=rn;subst rn';exact Zk3 (t:=.type t) (b:=k) I rx (tyOf ht) ((Ztd _ _ _).trans (Zvh ht hk)) λtk=>⟨.bl k,H,I.tok _,rfl,q⟩
end
section
variable {X:Cx}
theorem J7(n:Nat)(o:AA)(d:Nat)(v:Int)(h:o=some v):max (0:Int) (min (if v<0 then v+n else v) n)=((HT.jW n d o:Nat):Int):=by
 subst h;show _=(((if v<0 then(v+(n:Int)).toNat else min v.toNat n:Nat)):Int);split<;>omega
theorem Wu(lo hi:AA)(n:Nat):Builtin.Str.strSliceIndices lo hi 1 n=Builtin.Str.strSliceIndices (some ((HT.jW n 0 lo:Nat):Int)) (some ((HT.jW n n hi:Nat):Int)) 1 n:=by
 have a1:=HT.Gz n 0 (Nat.zero_le _) lo;have a2:=HT.Gz n n υ hi;have e1:max (0:Int) (min (if ((HT.jW n 0 lo:Nat):Int)<0 then((HT.jW n 0 lo:Nat):Int)+n else((HT.jW n 0 lo:Nat):Int)) n)=((HT.jW n 0 lo:Nat):Int):=by
  rw[if_neg δ];omega
 have e2:max (0:Int) (min (if ((HT.jW n n hi:Nat):Int)<0 then((HT.jW n n hi:Nat):Int)+n else((HT.jW n n hi:Nat):Int)) n)=((HT.jW n n hi:Nat):Int):=by
  rw[if_neg δ];omega
 simp only[Builtin.Str.strSliceIndices,show((1:Int) > 0)=True from ζ,if_true];rw[e1,e2];cases lo with
 | none=>
  cases hi with
  | none=>rfl
  | some j=>dsimp only;rw[J7 n (some j) n j rfl];rfl
 | some i=>
  cases hi with
  | none=>dsimp only;rw[J7 n (some i) 0 i rfl];rfl
  | some j=>dsimp only;rw[J7 n (some j) n j rfl,J7 n (some i) 0 i rfl]
theorem Zjb(z:Str)(lo hi:AA):(Builtin.Str.strSliceIndices lo hi 1 z.length).filterMap (z.cps[·]?)=(z.cps.toList.drop (HT.jW z.length 0 lo)).take (HT.jW z.length z.length hi - HT.jW z.length 0 lo):=by
 rw[Wu]
 by_cases h:HT.jW z.length 0 lo<=HT.jW z.length z.length hi
 ·exact StrLaws.sliced_plain z h (HT.Gz _ _ υ _)
 ·have e:HT.jW z.length z.length hi - HT.jW z.length 0 lo=0:=δ
  rw[e,List.take_zero];have e2:Builtin.Str.strSliceIndices (some ((HT.jW z.length 0 lo:Nat):Int)) (some ((HT.jW z.length z.length hi:Nat):Int)) 1 z.length=[]:=by
   have a1:=HT.Gz z.length 0 (Nat.zero_le _) lo;have a2:=HT.Gz z.length z.length υ hi;simp only[Builtin.Str.strSliceIndices,sliceRange,show((1:Int) > 0)=True from ζ,if_true];rw[if_neg (by omega:¬ ((HT.jW z.length 0 lo:Nat):Int)<0),if_neg (by omega:¬ ((HT.jW z.length z.length hi:Nat):Int)<0),if_neg δ];rfl
  rw[e2];rfl
theorem part_of{v:AJ}{o:AA}(p:IsPart v o):∃q:Option (Int×Tok),v=partValue q/\q.map (·.1)=o:=by
 cases p with
 | none=>exact⟨none,rfl,rfl⟩
 | int i t=>exact⟨some (i,t),rfl,rfl⟩
theorem Yl:SlR X Zji:=by
 intro pins s σ H x v vl vu lo hi sl Q I rx hs pl pu h;obtain⟨z,rfl,hz,q⟩:=h;obtain⟨t,rfl⟩:=rx;obtain⟨ql,rfl,el⟩:=part_of pl;obtain⟨qu,rfl,eu⟩:=part_of pu;refine⟨"str",_,F.slot_str_getitem.lookup,typeIs_str _ _ _,?_⟩;refine wpAny_getItem_str_slice (l:=ql) (u:=qu) (st:=none) hs rfl ?_;have ep:(slicePicked z ql qu none).filterMap (z.cps[·]?)=(z.cps.toList.drop (HT.jW z.length 0 lo)).take (HT.jW z.length z.length hi - HT.jW z.length 0 lo):=by
  unfold slicePicked;rw[el,eu];exact Zjb z lo hi
 have em:(⟨((slicePicked z ql qu none).filterMap (z.cps[·]?)).toArray⟩:Str)=Zac z lo hi:=by
  rw[ep];rfl
 unfold sliceMade;split
 ·rename_i hw
  have hl:(slicePicked z ql qu none).length=z.length:=by
   rw[Bool.and_eq_true]at hw;exact beq_iff_eq.mp hw.2
  have hc:Zac z lo hi=z:=by
   have h1:(slicePicked z ql qu none)=Builtin.Str.strSliceIndices (some ((HT.jW z.length 0 lo:Nat):Int)) (some ((HT.jW z.length z.length hi:Nat):Int)) 1 z.length:=by
    unfold slicePicked;rw[el,eu];exact Wu lo hi z.length
   have a2:=HT.Gz z.length z.length υ hi;have a1:=HT.Gz z.length 0 (Nat.zero_le _) lo;have hz0:HT.jW z.length 0 lo<=HT.jW z.length z.length hi\/z.length=0:=by
    by_cases hle:HT.jW z.length 0 lo<=HT.jW z.length z.length hi
    ·exact .inl hle
    ·right
     rw[h1]at hl;have e2:Builtin.Str.strSliceIndices (some ((HT.jW z.length 0 lo:Nat):Int)) (some ((HT.jW z.length z.length hi:Nat):Int)) 1 z.length=[]:=by
      simp only[Builtin.Str.strSliceIndices,sliceRange,show((1:Int) > 0)=True from ζ,if_true];rw[if_neg (by omega:¬ ((HT.jW z.length 0 lo:Nat):Int)<0),if_neg (by omega:¬ ((HT.jW z.length z.length hi:Nat):Int)<0),if_neg δ];rfl
     rw[e2]at hl;exact hl.symm
   unfold Zac;rcases hz0 with hle | h0
   ·rw[h1,StrLaws.strSliceIndices_plain hle a2,bx,List.length_range]at hl;have b1:HT.jW z.length 0 lo=0:=δ
    have b2:HT.jW z.length z.length hi=z.length:=δ
    rw[b1,b2,List.drop_zero,Nat.sub_zero,<- str_len,List.take_length]
    all_goals rfl
   ·have hcz:z.cps=#[]:=Array.eq_empty_of_size_eq_zero h0;obtain⟨zc⟩:=z;dsimp only at hcz;subst hcz;simp
  rw[hc]at q;exact⟨.str z,H,I,⟨_,rfl⟩,q⟩
 ·show Str.length _<=sizeLine/\_;rw[em];exact⟨Nat.le_trans (rP z lo hi) hz,.str (Zac z lo hi),H,I.tok _,⟨_,rfl⟩,q⟩
def GC(mg:As)(x:Str)(v:V):Prop:=∃u,mg x=some u/\RelV v u
theorem GC.pe{x:Str}{v:V}{pos:Pos}(h:GC X.mg x v)(hg:Gl X x)(hd:(x == ("__debug__":Str))=false:=by decide):PE X (.Name x pos) (tC v):=by
 obtain⟨u,hm,r⟩:=h;exact Ji hg hm r hd
end
section
variable {X:Cx}
end
end G
namespace G
open PySem L2
end G
namespace G
open PySem L2 PySem.Spec PyProof.Rows
section
variable {X:Cx}{pins:At}{σ:L2.St}{H:Hp}{s:AK}{acc:AI}{ys:List V}{its:AC}{n:Nat}
theorem adopt(I:Inv X pins σ H s)(hf:vA X pins H acc)(ho:s.heap.get? acc=some { cls:=.type "list",data:=.seq its.toArray n })(hv:Vals ys its)(hz:ys.length<=sizeLine):Inv X pins σ (upd H acc (.lst ys)) s:=by
 obtain⟨f0,f1,f2,f3,f4,f5⟩:=hf;have ne:∀b u,H b=some u->b≠acc:=λb u e=>aD e f0;refine I.step (h':=s.heap) (g':=s.gens) (t':=s.toks) (d':=s.drawn) (ch:=[acc]) (λb hb=>?_) (λ_ _ _ _ _ e _=>e) (λb o _ _ _ e _=>⟨o.slots,e⟩) (λb o hb e h0=>?_) (λb o _ e=>⟨o,e⟩)
  (λb xs e=>by rw[aB (ne b _ e)];exact e) (λb o u e=>by rw[aB (ne b _ e)];exact e) (λb ps e=>⟨#[],by rw[aB (ne b _ e),e];simp⟩) (λm hm=>hm) (λb u e=>?_) I.bare
 ·have e:b=acc:=by simpa using hb
  subst e;exact⟨f3,f1,f4,f5⟩
 ·have e:b≠acc:=by simpa using hb
  rw[aB e];exact h0
 ·by_cases hb:b=acc
  ·subst hb;rw[ao]at e;cases e;exact⟨hz,its,n,hv,ho⟩
  ·rw[aB hb]at e;exact(I.hok b u e).stay (λ_ _ _ q=>q) (λc q=>by rw[aB (ne c _ q)];exact q) λc xs q=>by rw[aB (ne c _ q)];exact q
theorem disown(I:Inv X pins σ (upd H acc (.lst ys)) s)(hf:vA X pins H acc):Inv X pins σ H s:=by
 obtain⟨f0,f1,f2,f3,f4,f5⟩:=hf;have back:∀b u,upd H acc (.lst ys) b=some u->u≠.lst ys->H b=some u:=λb u e hne=>by
  by_cases hb:b=acc
  ·subst hb;rw[ao]at e;cases e;exact absurd rfl hne
  ·rw[aB hb]at e;exact e
 refine I.step (h':=s.heap) (g':=s.gens) (t':=s.toks) (d':=s.drawn) (ch:=[acc]) (λb hb=>?_) (λ_ _ _ _ _ e _=>e) (λb o _ _ _ e _=>⟨o.slots,e⟩) (λb o hb e h0=>?_) (λb o _ e=>⟨o,e⟩)
  (λb xs e=>back b _ e (λz=>nomatch z)) (λb o u e=>back b _ e (λz=>nomatch z)) (λb ps e=>⟨#[],by rw[back b _ e (λz=>nomatch z)];simp⟩) (λm hm=>hm) (λb u e=>?_) I.bare
 ·have e:b=acc:=by simpa using hb
  subst e;exact⟨f3,f1,f4,f5⟩
 ·have e:b≠acc:=by simpa using hb
  rw[aB e]at h0;exact h0
 ·have hb:b≠acc:=aD e f0;have e':upd H acc (.lst ys) b=some u:=by rw[aB hb];exact e
  exact(I.hok b u e').stay (λ_ _ _ q=>q) (λc q=>back c _ q (λz=>nomatch z)) λc xs q=>back c _ q (λz=>nomatch z)
end
def PF(X:Cx)(ifs:AG)(t:TT):Prop:=
 ∀(pins:At) (s:AK) (σ:L2.St) (H:Hp) (Q:Bool->Hp->Prop),Inv X pins σ H s->t σ H Q->
  wpAny ς X.A (forIn ifs true λc r=>if r=true then do let ok <- isTrue c X.env (eval c X.env);pure (ForInStep.yield ok)else pure (ForInStep.yield r)) (TP X pins σ Q) X.xe s
theorem Y6{X:Cx}:PF X [] FP:=λ_ _ _ H _ I h=>wpAny_tests_nil ⟨H,I,h⟩
theorem Y5{X:Cx}{c:AN}{t:TT}(h:PT X c t):PF X [c] t:=λpins s σ H Q I q=>wpAny_tests_one (h pins s σ H Q I q)
def S6(X:Cx)(scope:Scope)(cl:List (Str×AI))(N:AH)(C:AI)(s:AK)(H:Hp)(ex:AF)(pn:At):Cx:=
 { X with N:=N,s₀:=s,H₀:=H,env:=compEnvC scope cl C X.env,outer:=X.stack,ex:=ex,fn:=λ_=>false,pn:=pn,xe:=λ_ _=>False }
def AllIn(cells:List (Str×AI)):List (Str×AI)->Prop
 | []=>True
 | p::r=>cells.lookup p.1=some p.2/\AllIn cells r
theorem AllIn.get{cells:List (Str×AI)}:∀{cl:List (Str×AI)},AllIn cells cl->∀{x:Str}{c:AI},cl.lookup x=some c->cells.lookup x=some c
 | [],_,x,c,h=>by cases h
 | (y,d)::r,a,x,c,h=>by
  cases e:(x == y)with
  | true=>
   rw[List.lookup_cons,e]at h;have e':x=y:=beq_iff_eq.mp e;subst e';cases h;exact a.1
  | false=>
   rw[List.lookup_cons,e]at h;exact AllIn.get a.2 h
def Es(X:Cx):AH->List Nat->Prop
 | [],[]=>True
 | y::r,j::js=>X.N[j]? =some y/\X.env.kindOf y=some .cell/\Es X r js
 | _,_=>False
theorem Es.len{X:Cx}:∀{ns:AH}{js:List Nat},Es X ns js->ns.length=js.length
 | [],[],_=>rfl
 | [],_::_,h=>h.elim
 | _::_,[],h=>h.elim
 | _::r,_::js,h=>by rw[List.length_cons,List.length_cons,Es.len h.2.2]
theorem Es.get{X:Cx}{σ:L2.St}:∀{ns:AH}{js:List Nat},Es X ns js->∀{i:Nat}{x:Str}{v:V},ns[i]? =some x->(js.map (pick σ))[i]? =some (some v)->∃j:Nat,X.N[j]? =some x/\X.env.kindOf x=some .cell/\σ[j]? =some (some v)
 | [],_,_,i,x,v,h,_=>by simp at h
 | _::_,[],h,_,_,_,_,_=>h.elim
 | y::r,j::js,h,0,x,v,h1,h2=>by
  simp at h1 h2;subst h1;refine⟨j,h.1,h.2.1,?_⟩;unfold pick at h2;split at h2
  ·rename_i e;rw[e,h2]
  ·cases h2
 | y::r,j::js,h,i+1,x,v,h1,h2=>Es.get (i:=i) h.2.2 (by simpa using h1) (by simpa using h2)
theorem Zn8{x n:Str}{k:NameKind}{r:List (Str×NameKind)}(h:(x == n)=false):List.lookup x ((n,k)::r)=List.lookup x r:=by rw[List.lookup_cons,h]
theorem Zn9{x n:Str}{k:NameKind}{r:List (Str×NameKind)}(h:(x == n)=true):List.lookup x ((n,k)::r)=some k:=by rw[List.lookup_cons,h]
def QL(env:Env)(x:Str)(k:NameKind):NameKind:=if (k == NameKind.free && env.scope.kind == .function && env.kindOf x == some .cell)=true then .cell else k
theorem uW{env:Env}{x:Str}:∀{names:List (Str×NameKind)},
  (names.map λ(n,k)=>if (k == NameKind.free && env.scope.kind == .function && env.kindOf n == some .cell)then(n,NameKind.cell)else(n,k)).lookup x=(names.lookup x).map (QL env x)
 | []=>rfl
 | (n,k')::r=>by
  have ih:=@uW env x r;show List.lookup x ((if (k' == NameKind.free && env.scope.kind == .function && env.kindOf n == some .cell)=true then(n,NameKind.cell)else(n,k'))::r.map λ(n,k)=>if (k == NameKind.free && env.scope.kind == .function && env.kindOf n == some .cell)then(n,NameKind.cell)else(n,k))=_;cases hx:x == n with
  | true=>
   have e:=beq_iff_eq.mp hx;subst e;rw[Zn9 (k:=k') hx]
   by_cases hc:(k' == NameKind.free && env.scope.kind == .function && env.kindOf x == some .cell)=true
   ·rw[if_pos hc,Zn9 hx];show some NameKind.cell=some (QL env x k');unfold QL;rw[if_pos hc]
   ·rw[if_neg hc,Zn9 hx];show some k'=some (QL env x k');unfold QL;rw[if_neg hc]
  | false=>
   rw[Zn8 (k:=k') (r:=r) hx]
   by_cases hc:(k' == NameKind.free && env.scope.kind == .function && env.kindOf n == some .cell)=true
   ·rw[if_pos hc,Zn8 hx];exact ih
   ·rw[if_neg hc,Zn8 hx];exact ih
theorem lookup_all{names:List (Str×NameKind)}{p:Str×NameKind->Bool}:∀{x:Str}{k:NameKind},names.all p=true->names.lookup x=some k->p (x,k)=true:=by
 induction names with
 | nil=>intro x k _ h;simp at h
 | cons y r ih=>
  intro x k ha h;obtain⟨n,k'⟩:=y;rw[List.all_cons,Bool.and_eq_true]at ha;cases hx:x == n with
  | true=>
   rw[List.lookup_cons,hx]at h;have e1:x=n:=beq_iff_eq.mp hx;have e2:k'=k:=Option.some.inj h;rw[e1,<- e2];exact ha.1
  | false=>
   rw[List.lookup_cons,hx]at h;exact ih ha.2 h
theorem Zdx{prog:AM}{w:AO}{A:Around}{R:Result->AK->Prop}{s:AK}{elt target iter:AN}{ifs:AG}{scope:Scope}{pos:Pos}{it acc:AJ}{env:Env}(I:Nat->AK->Prop)
  (turn:∀n s,I n s->wpAny af A (pyNext it) (λr s₁=>match r with
   | none=>R (.ok .next) s₁
   | some v=>wpAny af A (letOwnedTupleGo target it v) (λ_ s₁'=>wpAny af A (assign target env v) (λ_ s₂=>
     wpAny af A (forIn ifs true λc r=>if r=true then do let ok <- isTrue c env (eval c env);pure (ForInStep.yield ok)else pure (ForInStep.yield r)) (λok s₃=>
      if ok=true then wpAny af A (eval elt env) (λx s₄=>
       wpAny af A (call (.builtin "list.append") [acc,x]) (λ_ s₅=>∃m,m<n/\I m s₅) (λ_ _=>False) s₄) (λ_ _=>False) s₃
      else ∃m,m<n/\I m s₃) (λ_ _=>False) s₂) (λ_ _=>False) s₁') (λ_ _=>False) s₁) (λ_ _=>False) s)
  (n:Nat) (h:I n s):
  codeAny af A (.compLoop (.ListComp elt [⟨target,iter,ifs,0⟩] scope pos) 0 it acc env) R s:=by
 refine codeAny_loop rfl I (λn s hI=>?_) n h;show wpAny _ A ((compTurn (.ListComp elt [⟨target,iter,ifs,0⟩] scope pos) 0 it acc env).onRaise (λx=>do noteFrame x env;theTreesLotGoes x)) _ _ s;refine wpAny_noted ?_;rw[compTurn_list];refine wpAny_bind (wpAny_standAt (wpAny_bind (wpAny_mono (turn n s hI) (λr s₁ h₁=>?_) λ_ _ h'=>h'.elim)));cases r with
 | none=>exact wpAny_pure h₁
 | some v=>
  refine wpAny_bind (wpAny_mono h₁ (λ_ s₁' h₁'=>?_) λ_ _ h'=>h'.elim);refine wpAny_bind (wpAny_mono h₁' (λ_ s₂ h₂=>wpAny_bind (wpAny_mono h₂ (λok s₃ h₃=>?_) λ_ _ h'=>h'.elim)) λ_ _ h'=>h'.elim);cases ok with
  | false=>exact wpAny_pure ⟨rfl,h₃⟩
  | true=>
   exact wpAny_bind (wpAny_bind (wpAny_mono h₃ (λx s₄ h₄=>wpAny_bind (wpAny_mono h₄ (λ_ s₅ h₅=>wpAny_pure (wpAny_pure ⟨rfl,h₅⟩)) λ_ _ h'=>h'.elim)) λ_ _ h'=>h'.elim))
theorem Zqa{X:Cx}{elt iter tg:AN}{pos:Pos}{ifs:AG}{scope:Scope}{cl:List (Str×AI)}{wi:TI}{tc:TT}{te:TE}{cns:AH}{ns:AH}{gt:TG}{R:It->L2.St->Hp->VK->Prop}{use:Option (AJ->Sem Unit)}{Q0:Ap}{pins:At}{s:AK}{σ:L2.St}{H:Hp}{Q:VK}(caps:List Nat)
  (hR:∀J σ H Q,R J σ H Q->∃W:Nat->Nat->List V->Hp->Prop,(∃m,W 0 m [] H)/\∀i m ys H,W i m ys H->
   (J.stop i H/\∀p,H p=none->Q (.ref p) (upd H p (.lst ys)))\/
   (J.go i H/\ys.length<sizeLine/\∀x H',J.yld i H x H'->∀vs:L2.St,vs.length=ns.length->∃us:L2.St,us.length=ns.length/\gt x (vs++caps.map (pick σ)) H' (λσ2 H2=>σ2=us++caps.map (pick σ)/\H2=H')/\tc (us++caps.map (pick σ)) H' λk H2=>if k=true then te (us++caps.map (pick σ)) H2 (λy H3=>∃m',m'<m/\W (i+1) m' (ys++[y]) H3)else ∃m',m'<m/\W (i+1) m' ys H2))
  (hi:PI X tg iter wi) (hg:∀C s H ex pn,PG (S6 X scope cl (ns++cns) C s H ex pn) tg gt)
  (hf:∀C s H ex pn,PF (S6 X scope cl (ns++cns) C s H ex pn) ifs tc) (he:∀C s H ex pn,PE (S6 X scope cl (ns++cns) C s H ex pn) elt te) (hc:X.calm=true)
  (hclos:closureFor scope X.env=pure cl) (hcl:AllIn X.env.cells cl) (hcap:Es X cns caps)
  (hkind:scope.kind=.function) (hcell:(scope.names.all λp=>p.2 != .cell)=true) (hfree:(scope.names.all λp=>p.2 != .free || (cl.lookup p.1).isSome)=true)
  (hcf:(cns.all λy=>scope.names.lookup y == some .free)=true) (hnames:∀y∈scope.names,y.2=.local->scope.names.lookup y.1=some .local)
  (hs:∀v,foldedSetIterable iter X.env v=pure v)
  (I:Inv X pins σ H s) (h:wi σ H λJ H1=>R J σ H1 Q)
  (hend:∀(acc C:AI) (s6:AK) (m:As) r0,s6.heap.Ns C m->(∀{Hf:Hp},Hf C=none->vA X pins Hf C)->(∀h',Heap.SameBut C s6.heap h'->EP X pins σ (λv Hf=>Q v Hf/\Hf C=none) (.ref acc) { s6 with heap:=h' })->compPost ς X.A X.xe use Q0 (.ref acc) C (.ok r0) s6):
  wpAny ς X.A (comprehension (.ListComp elt [⟨tg,iter,ifs,0⟩] scope pos) scope X.env (firstIterPos [⟨tg,iter,ifs,0⟩] pos) (newList []) (firstAsync [⟨tg,iter,ifs,0⟩]) (firstIter [⟨tg,iter,ifs,0⟩] X.env) use) Q0 X.xe s:=by
 refine wpAny_comprehension_free rfl hs hclos hkind hnames (gB (hi pins s σ H _ I h) λxv s1 h1=>gB h1 λitv s2 h2=>?_);obtain⟨it,fp,tn,J,H2,rfl,I2,T,st2,f2,hr⟩:=h2;obtain⟨W,⟨m0,w0⟩,turn⟩:=hR _ _ _ _ hr;have hne:∀y∈scope.names,y.2≠.cell:=λy hy e=>by
  have:=List.all_eq_true.mp hcell y hy;rw[e]at this;simp at this
 refine wpAny_newObj_type (wpAny_newFunctionEnv hne (by intro y hy;simp at hy) (λh₁ hns₁ hsb₁=>?_) hkind);dsimp only at hns₁ hsb₁ ⊢;generalize hacc:s2.heap.objs.size=acc;generalize hH3:s2.heap.push { cls:=.type "list",dict:=none,data:=.seq ([]:AC).toArray }=h3 at hns₁ hsb₁ ⊢;have hC:h3.objs.size=acc+1:=by rw[<- hH3,Heap.size_push,hacc]
 have k23:∀b o,s2.heap.get? b=some o->h3.get? b=some o:=λb o e=>hH3 ▸ Heap.get?_push_of_some _ e;have k34:∀b o,h3.get? b=some o->h₁.get? b=some o:=λb o e=>hsb₁.extBut b o (Nat.ne_of_lt (Heap.lt_size e)) (Heap.get?_push_of_some _ e);have Zxh:h3.get? acc=some { cls:=.type "list",dict:=none,data:=.seq ([]:AC).toArray }:=by
  rw[<- hH3,<- hacc];exact Heap.get?_push_size _ rfl
 have I3:Inv X pins σ H2 { s2 with heap:=h3 }:=I2.kept (t':=s2.toks) k23;have Zuc:vA X pins H2 acc:=I2.Zgs (Nat.le_of_eq hacc) (I2.hok.fresh (Nat.le_of_eq hacc));have fpl:∀b∈fp,b<acc:=λb hb=>by
  obtain⟨o,e,_⟩:=T.obj _ _ st2 b hb;rw[<- hacc];exact Heap.lt_size e
 have Zkp:∀b∈acc::fp,vA X pins H2 b:=λb hb=>(List.mem_cons.mp hb).elim (λe=>e ▸ Zuc) (f2 b);have exC:∀b∈acc::fp,b≠h3.objs.size:=λb hb=>by
  rcases List.mem_cons.mp hb with e | hb
  ·rw[hC,e];exact Nat.ne_of_lt (Nat.lt_succ_self _)
  ·rw[hC];exact Nat.ne_of_lt (Nat.lt_succ_of_lt (fpl b hb))
 have Zen:∀b∈acc::fp,b∉frs X.stack:=λb hb hm=>by
  obtain⟨_,g1,g2,_⟩:=Zkp b hb;exact(List.mem_cons.mp (I2.KC b hm)).elim g1 g2
 let Y:Cx:=S6 X scope cl (ns++cns) h3.objs.size { s2 with heap:=h3 } H2 (acc::fp) (X.pn++pins)
 have cellsOf:∀y c,cl.lookup y=some c->X.env.cells.lookup y=some c:=λy c e=>hcl.get e;have Zie:∀y k,Y.env.kindOf y=some k->(k=.cell\/k=.free)->∃c,cl.lookup y=some c:=λy k e hk=>by
  have e0:(scope.names.lookup y).map (QL X.env y)=some k:=uW.symm.trans e;obtain⟨k0,e1,e2⟩:=Option.map_eq_some_iff.mp e0;have e3:=lookup_all hfree e1;have e4:=lookup_all hcell e1
  by_cases hf:k0=.free
  ·subst hf;rw[Bool.or_eq_true]at e3;rcases e3 with e3 | e3
   ·exact absurd rfl (bne_iff_ne.mp e3)
   ·exact Option.isSome_iff_exists.mp e3
  ·exfalso
   have e5:QL X.env y k0=k0:=by
    unfold QL;rw[if_neg];intro z;rw[Bool.and_eq_true,Bool.and_eq_true]at z;exact hf (beq_iff_eq.mp z.1.1)
   rw[e5]at e2;subst e2;rcases hk with rfl | rfl
   ·simp at e4
   ·exact hf rfl
 have okY:Y.Ok:={
  mod:=I2.ok.mod
  kind:=hkind
  glob:=I2.ok.glob
  blt:=I2.ok.blt
  above:=Nat.le_refl _
  inj:=λa b c e1 e2=>I2.ok.inj a b c (cellsOf _ _ e1) (cellsOf _ _ e2)
  has:=λy hy=>hy.elim (λe=>Zie y _ e (.inl rfl)) (λe=>Zie y _ e (.inr rfl))
  cab:=λy c e=>nomatch e
  hd:=I2.ok.hd
  frames:=I2.ok.frames
  stk:=.inl rfl
  exf:=λb hb=>⟨exC b hb,λy c e=>(Zkp b hb).2.2.2.2.1 y c (cellsOf _ _ e)⟩
  bs:=λb o e=>⟨k23 b o (I2.bs b o e).1,(I2.bs b o e).2⟩
  bsz:=by
   show X.base.objs.size<=h3.objs.size;rw[hC,<- hacc];exact Nat.le_succ_of_le (Nat.le_trans I2.ok.bsz I2.sz)
  Zcj:=λb o e hb=>by
   rcases(Zkp b hb).2.2.2.1 with z | z
   ·exact I2.ok.Zcj b o e z
   ·exact absurd (Nat.lt_of_lt_of_le (Heap.lt_size e) (Nat.le_trans I2.ok.bsz z)) (Nat.lt_irrefl _)
  Zgt:=Zen
  yu:=I3.stack
  frf:=I3.X4 }
 have Zxm:(List.replicate ns.length none++caps.map (pick σ):L2.St).length=(ns++cns).length:=by rw[List.length_append,List.length_append,List.length_replicate,bx,hcap.len]
 have I4:Inv Y [] (List.replicate ns.length none++caps.map (pick σ)) H2 { s2 with heap:=h₁,toks:=s2.toks+([]:List (Str×AJ)).length }:={
  ok:=okY
  os:=rfl
  bare:=I2.bare
  base:=Un.kept k34
  loc:=by
   refine⟨_,hns₁,λi y v e1 e2 e3=>?_⟩
   by_cases hlt:i<ns.length
   ·have e2:(List.replicate ns.length none++caps.map (pick σ):L2.St)[i]? =some (some v):=e2;rw[List.getElem?_append_left (by rw[List.length_replicate];exact hlt),List.getElem?_replicate,if_pos hlt]at e2;cases e2
   ·have e1':cns[i - ns.length]? =some y:=by
     have e1':(ns++cns)[i]? =some y:=e1;rw[List.getElem?_append_right δ]at e1';exact e1'
    have e2':(caps.map (pick σ):L2.St)[i - ns.length]? =some (some v):=by
     have e2:(List.replicate ns.length none++caps.map (pick σ):L2.St)[i]? =some (some v):=e2;rw[List.getElem?_append_right (by rw[List.length_replicate];omega),List.length_replicate]at e2;exact e2
    obtain⟨j,j1,j2,j3⟩:=hcap.get (σ:=σ) (i:=i - ns.length) (x:=y) (v:=v) e1' e2';obtain⟨m,hn,hl⟩:=I2.loc;obtain⟨u,r,l⟩:=hl j y v j1 j3 (.inr (.inl j2));rcases l with ⟨l,_⟩ | ⟨_,c,l1,l2⟩
    ·rw[j2]at l;cases l
    ·refine⟨u,r,.inr ?_⟩;rcases e3 with e3 | e3 | e3
     ·exfalso
      have hm:y∈cns:=List.mem_of_getElem? e1';have hl:scope.names.lookup y=some .free:=beq_iff_eq.mp (List.all_eq_true.mp hcf y hm);have e0:(scope.names.lookup y).map (QL X.env y)=some .local:=uW.symm.trans e3;rw[hl]at e0;have e5:QL X.env y .free=.local:=Option.some.inj e0;unfold QL at e5;split at e5<;>cases e5
     ·obtain⟨c',hc'⟩:=Zie y _ e3 (.inl rfl);have:=cellsOf _ _ hc';rw[l1]at this;cases this;exact⟨.inl e3,c,hc',l2.keeps λb o e=>k34 _ _ (k23 _ _ e)⟩
     ·obtain⟨c',hc'⟩:=Zie y _ e3 (.inr rfl);have:=cellsOf _ _ hc';rw[l1]at this;cases this;exact⟨.inr e3,c,hc',l2.keeps λb o e=>k34 _ _ (k23 _ _ e)⟩
  cell:=λy c e=>by
   obtain⟨v,z⟩:=I2.cell y c (cellsOf _ _ e);exact⟨v,z.keeps λb o e=>k34 _ _ (k23 _ _ e)⟩
  free:=I2.hok.fresh (by rw[hacc];show acc<=h3.objs.size;rw[hC];exact Nat.le_succ _)
  qX:=λy c e=>I2.qX y c (cellsOf _ _ e)
  pin:=λp hp=>by
   have hp2:p∈(X.pn++pins)++[]:=hp;have hp':p∈X.pn++pins:=by rw[List.append_nil]at hp2;exact hp2
   obtain⟨p1,p2,p3,p4,p5⟩:=I2.pin p hp';refine⟨k34 _ _ (k23 _ _ p1),p2,?_,λhm=>(List.mem_cons.mp (I2.KC _ hm)).elim p3 p4,p5⟩;exact Nat.ne_of_lt (by show p.1<h3.objs.size;exact Heap.lt_size (k23 _ _ p1))
  hok:=I2.hok.kept λb u e=>k34 _ _ (k23 _ _ e)
  len:=Zxm }
 have fpY:∀{H':Hp}{pl:At}{b:AI},b∈acc::fp->H' b=none->(∀p∈pl,p.1≠b)->vA Y pl H' b:=λ{H' pl b} hb hn hp=>
  ⟨hn,exC b hb,Zen b hb,.inl hb,λy c e=>(Zkp b hb).2.2.2.2.1 y c (cellsOf _ _ e),λp hm=>(List.mem_append.mp hm).elim (λz=>(Zkp b hb).2.2.2.2.2 p z) (hp p)⟩
 have fin:∀{σ':L2.St}{H':Hp}{s':AK}{ys:List V}{its:AC}{kk:Nat}{pl:At},Inv Y pl σ' H' s'->H' acc=none->Vals ys its->ys.length<=sizeLine->
   s'.heap.get? acc=some { cls:=.type "list",data:=.seq its.toArray kk }->(∀p,H' p=none->Q (.ref p) (upd H' p (.lst ys)))->
   ∀h',Heap.SameBut h3.objs.size s'.heap h'->EP X pins σ (λv Hf=>Q v Hf/\Hf h3.objs.size=none) (.ref acc) { s' with heap:=h' }:=λ{σ' H' s' ys its kk pl} J ha hv hz ho hq h' hs'=>by
  have Zwi:acc≠h3.objs.size:=exC acc (List.mem_cons_self);have Zd5:∀b o,b≠h3.objs.size->s'.heap.get? b=some o->h'.get? b=some o:=λb o hb e=>hs'.extBut b o hb e;have ltC:∀b o,s2.heap.get? b=some o->b≠h3.objs.size:=λb o e=>Nat.ne_of_lt (Heap.lt_size (k23 b o e));have Zgn:H' h3.objs.size=none:=J.free;have un:Un (frs X.stack) (acc::fp) H2 H' s2.heap h':={
   keep:=λb o e n hb hx=>Zd5 b o (ltC b o e) (J.base.keep b o (k23 b o e) n hb hx)
   slot:=λb o e n hb hx=>by
    obtain⟨sl,q⟩:=J.base.slot b o (k23 b o e) n hb hx;exact⟨sl,Zd5 b _ (ltC b o e) q⟩
   free:=λb o e n hx=>J.base.free b o (k23 b o e) n hx
   there:=λb o e hx=>by
    obtain⟨o',q⟩:=J.base.there b o (k23 b o e) hx;exact⟨o',Zd5 b o' (ltC b o e) q⟩
   tups:=J.base.tups
   Hr:=J.base.Hr
   HW:=J.base.HW }
  have hok:Eo X.prog X.w H' h':=λb u e=>by
   refine(J.hok b u e).stay (λc v hc q=>Zd5 c v ?_ q) (λ_ q=>q) λ_ _ q=>q;rintro rfl;rcases hc with rfl | hc
   ·rw[Zgn]at e;cases e
   ·rw[Zgn]at hc;cases hc
  have I5:Inv X pins σ H' { s' with heap:=h' }:=I2.call' (ch:=acc::fp) J.os un hok J.bare λb hb=>by
   obtain⟨g0,g1,g2,g3,g4,g5⟩:=Zkp b hb;exact⟨g3,g1,g4,g5⟩
  refine⟨.ref acc,_,adopt (acc:=acc) I5 ?_ (Zd5 _ _ Zwi ho) hv hz,rfl,hq acc ha,by rw[aB Zwi.symm];exact Zgn⟩;obtain⟨g0,g1,g2,g3,g4,g5⟩:=Zuc;exact⟨ha,g1,g2,g3,g4,g5⟩
 have loop:codeAny ς X.A (.compLoop (.ListComp elt [⟨tg,iter,ifs,0⟩] scope pos) 0 (.ref it) (.ref acc) Y.env) (compPost ς X.A X.xe use Q0 (.ref acc) h3.objs.size)
   { s2 with heap:=h₁,toks:=s2.toks+([]:List (Str×AJ)).length }:=by
  refine Zdx (λn s'=>∃(i:Nat) (v:L2.St) (ys:List V) (its:AC) (kk:Nat) (H':Hp),v.length=ns.length/\Inv Y [] (v++caps.map (pick σ)) H' s'/\tn i s'.heap/\(∀b∈fp,H' b=none)/\H' acc=none/\Vals ys its/\ys.length<=sizeLine/\
   s'.heap.get? acc=some { cls:=.type "list",data:=.seq its.toArray kk }/\W i n ys H') ?_ m0 ⟨0,List.replicate ns.length none,[],[],0,H2,List.length_replicate,I4,T.keep _ _ _ st2 (λb _ o e=>k34 _ _ (k23 _ _ e)),λb hb=>(f2 b hb).1,Zuc.1,.nil,Nat.zero_le _,k34 _ _ Zxh,w0⟩
  rintro n s5 ⟨i,v,ys,its,kk,H5,lv,I5,st5,fr5,ha5,hv5,hz5,ho5,w5⟩;have Zv7:Inv Y [(acc,{ cls:=.type "list",data:=.seq its.toArray kk })] (v++caps.map (pick σ)) H5 s5:=I5.Jg λp hp=>by
   have e:p=(acc,{ cls:=.type "list",data:=.seq its.toArray kk }):=by simpa using hp
   subst e;exact⟨ho5,ha5,exC acc List.mem_cons_self,Zen acc List.mem_cons_self,λv=>by intro z;cases z⟩
  have fpA:∀{H':Hp},(∀b∈fp,H' b=none)->∀b∈fp,vA Y [(acc,{ cls:=.type "list",data:=.seq its.toArray kk })] H' b:=λhn b hb=>fpY (List.mem_cons_of_mem _ hb) (hn b hb) λp hp=>by
   have e:p=(acc,{ cls:=.type "list",data:=.seq its.toArray kk }):=by simpa using hp
   subst e;exact(Nat.ne_of_lt (fpl b hb)).symm
  rcases turn i n ys H5 w5 with ⟨stop,qn⟩ | ⟨go,hlt,step⟩
  ·refine gB (T.done Y rfl rfl rfl hc i _ s5 _ H5 (λ_ _=>False) Zv7 (fpA fr5) st5 stop) λr s6 qc=>?_;obtain⟨hr,I6⟩:=qc;subst hr;obtain⟨m,hm,_⟩:=I6.loc;have ho6:=(I6.pin (acc,{ cls:=.type "list",data:=.seq its.toArray kk }) (List.mem_append_right _ List.mem_cons_self)).1;exact hend acc h3.objs.size s6 m _ hm (λhf=>I2.Zgs (by rw[hC,hacc];exact Nat.le_succ _) hf) (fin I6 ha5 hv5 hz5 ho6 qn)
  ·refine gB (T.item Y rfl rfl rfl hc i _ s5 _ H5 (λ_ _=>False) Zv7 (fpA fr5) st5 go) λr s6 qc=>?_;obtain⟨u,hr,h6⟩:=qc;subst hr;refine gB h6 λ_ s7 qc=>?_;obtain⟨z,H7,I7,r7,y7,st7,fr7⟩:=qc;have I7':=I7.pinned (fpA fr7) (T.obj _ _ st7);obtain⟨us,lu,hgt,step⟩:=step z H7 y7 v lv;have pg:PG Y tg gt:=hg _ _ _ _ _;refine gB (pg _ s7 _ H7 z u (λσ2 H2'=>σ2=us++caps.map (pick σ)/\H2'=H7) I7' r7 hgt) λ_ s8 qc=>?_;obtain⟨σ8,H8,I8,e8,e8'⟩:=qc;subst e8 e8';refine gB (hf _ _ _ _ _ _ s8 _ H8 _ I8 step) λok s9 qc=>?_;obtain⟨H9,I9,q9⟩:=qc;have stat:∀{H':Hp}{s':AK}{σ':L2.St},Inv Y ([(acc,{ cls:=.type "list",data:=.seq its.toArray kk })]++G7 fp s7.heap) σ' H' s'->tn (i+1) s'.heap/\(∀b∈fp,H' b=none)/\H' acc=none/\s'.heap.get? acc=some { cls:=.type "list",data:=.seq its.toArray kk }:=λ{H' s' σ'} J=>by
    have pa:=J.pin (acc,{ cls:=.type "list",data:=.seq its.toArray kk }) (List.mem_append_right _ (List.mem_append_left _ List.mem_cons_self));refine⟨T.keep _ _ _ st7 λb hb o e=>(J.pin (b,o) (List.mem_append_right _ (List.mem_append_right _ (uM hb e)))).1,λb hb=>?_,pa.2.1,pa.1⟩;obtain⟨o,e,d⟩:=T.obj _ _ st7 b hb;exact(J.pin (b,o) (List.mem_append_right _ (List.mem_append_right _ (uM hb e)))).2.1
   have Zrp:∀{H':Hp}{s':AK}{σ':L2.St}{pl:At},Inv Y pl σ' H' s'->Inv Y [] σ' H' s':=λJ=>J.Jg λp hp=>nomatch hp;cases ok with
   | false=>
    obtain⟨m',hm,w9⟩:=q9;obtain⟨t1,t2,t3,t4⟩:=stat I9;exact⟨m',hm,i+1,us,ys,its,kk,H9,lu,Zrp I9,t1,t2,t3,hv5,hz5,t4,w9⟩
   | true=>
    show wpAny _ _ (eval elt Y.env) _ _ s9;refine gB (he _ _ _ _ _ _ s9 _ H9 _ I9 q9) λy s10 qc=>?_;obtain⟨yv,XJ,I10,r10,m',hm,w10⟩:=qc;obtain⟨t1,t2,t3,t4⟩:=stat I10;have ZD1:Inv Y (G7 fp s7.heap) (us++caps.map (pick σ)) XJ s10:=I10.Jg λp hp=>I10.pin p (List.mem_append_right _ (List.mem_append_right _ hp));have fA:vA Y (G7 fp s7.heap) XJ acc:=fpY List.mem_cons_self t3 λp hp=>Nat.ne_of_lt (fpl _ (W7 hp).1);have Ja:=adopt ZD1 fA t4 hv5 hz5;refine gB (gq (X:=Y) _ s10 _ _ (.ref acc) [yv] (.ref acc) [y] (λ_ H'=>H'=upd (upd XJ acc (.lst ys)) acc (.lst (ys++[yv]))) Ja rfl (.cons r10 .nil) ⟨acc,ys,yv,rfl,rfl,ao,hlt,rfl⟩) λ_ s11 qc=>?_;obtain⟨_,H11,I11,_,e11⟩:=qc;rw[dg]at e11;subst e11;obtain⟨Zyf,its',kk',Zyg,Zyj⟩:=I11.hok acc _ ao;have Jd:=disown I11 fA;have Zxa:tn (i+1) s11.heap:=T.keep _ _ _ st7 λb hb o e=>(Jd.pin (b,o) (List.mem_append_right _ (uM hb e))).1;exact⟨m',hm,i+1,us,ys++[yv],its',kk',XJ,lu,Zrp Jd,Zxa,t2,t3,Zyg,Zyf,Zyj,w10⟩
 exact codeAny_compStart_list loop (T.self X.A 0 _ _ _ (T.keep _ _ _ st2 (λb _ o e=>k34 _ _ (k23 _ _ e))) loop)
theorem Zm8{X:Cx}{elt iter tg:AN}{pos:Pos}{ifs:AG}{scope:Scope}{cl:List (Str×AI)}{wi:TI}{tc:TT}{te:TE}{cns:AH}{ns:AH}{gt:TG}{R:It->L2.St->Hp->VK->Prop}(caps:List Nat)
  (hR:∀J σ H Q,R J σ H Q->∃W:Nat->Nat->List V->Hp->Prop,(∃m,W 0 m [] H)/\∀i m ys H,W i m ys H->
   (J.stop i H/\∀p,H p=none->Q (.ref p) (upd H p (.lst ys)))\/
   (J.go i H/\ys.length<sizeLine/\∀x H',J.yld i H x H'->∀vs:L2.St,vs.length=ns.length->∃us:L2.St,us.length=ns.length/\gt x (vs++caps.map (pick σ)) H' (λσ2 H2=>σ2=us++caps.map (pick σ)/\H2=H')/\tc (us++caps.map (pick σ)) H' λk H2=>if k=true then te (us++caps.map (pick σ)) H2 (λy H3=>∃m',m'<m/\W (i+1) m' (ys++[y]) H3)else ∃m',m'<m/\W (i+1) m' ys H2))
  (hi:PI X tg iter wi) (hg:∀C s H ex pn,PG (S6 X scope cl (ns++cns) C s H ex pn) tg gt)
  (hf:∀C s H ex pn,PF (S6 X scope cl (ns++cns) C s H ex pn) ifs tc) (he:∀C s H ex pn,PE (S6 X scope cl (ns++cns) C s H ex pn) elt te) (hc:X.calm=true)
  (hclos:closureFor scope X.env=pure cl) (hcl:AllIn X.env.cells cl) (hcap:Es X cns caps)
  (hkind:scope.kind=.function) (hcell:(scope.names.all λp=>p.2 != .cell)=true) (hfree:(scope.names.all λp=>p.2 != .free || (cl.lookup p.1).isSome)=true)
  (hcf:(cns.all λy=>scope.names.lookup y == some .free)=true) (hnames:∀y∈scope.names,y.2=.local->scope.names.lookup y.1=some .local)
  (hs:∀v,foldedSetIterable iter X.env v=pure v):
  PE X (.ListComp elt [⟨tg,iter,ifs,0⟩] scope pos) (λσ H Q=>wi σ H λJ H1=>R J σ H1 Q):=by
 intro pins s σ H Q I h;rw[eval_ListComp];refine Zqa caps hR hi hg hf he hc hclos hcl hcap hkind hcell hfree hcf hnames hs I h λacc C s6 m r0 hm fC fin=>⟨m,hm,λh' hs'=>?_⟩;obtain⟨v,Hf,If,rf,qf,_⟩:=fin h' hs';exact⟨v,Hf,If,rf,qf⟩
theorem Zc0{X:Cx}{elt iter:AN}{x:Str}{px pos:Pos}{ifs:AG}{scope:Scope}{cl:List (Str×AI)}{wi:TI}{tc:TT}{te:TE}{cns:AH}(caps:List Nat)
  (hi:PI X (.Name x px) iter wi)
  (hf:∀C s H ex pn,PF (S6 X scope cl (x::cns) C s H ex pn) ifs tc) (he:∀C s H ex pn,PE (S6 X scope cl (x::cns) C s H ex pn) elt te) (hc:X.calm=true)
  (hclos:closureFor scope X.env=pure cl) (hcl:AllIn X.env.cells cl) (hcap:Es X cns caps)
  (hkind:scope.kind=.function) (hcell:(scope.names.all λp=>p.2 != .cell)=true) (hfree:(scope.names.all λp=>p.2 != .free || (cl.lookup p.1).isSome)=true)
  (hcf:(cns.all λy=>scope.names.lookup y == some .free)=true) (hnames:∀y∈scope.names,y.2=.local->scope.names.lookup y.1=some .local) (hx:scope.names.lookup x=some .local) (hnd:(x::cns).Nodup)
  (hs:∀v,foldedSetIterable iter X.env v=pure v:=by intro _;rfl):
  PE X (.ListComp elt [⟨.Name x px,iter,ifs,0⟩] scope pos) (tLC wi caps tc te):=by
 refine Zm8 (ns:=[x]) (gt:=aR 0) caps (λJ σ H Q h=>?_) hi (λC s H ex pn=>eO hnd rfl (.inl (lookup_relabel_local hx)) (.inr (lookup_relabel_local hx))) hf he hc hclos hcl hcap hkind hcell hfree hcf hnames hs;obtain⟨W,w0,turn⟩:=h;refine⟨W,w0,λi m ys H hw=>(turn i m ys H hw).imp id λ⟨g,l,st⟩=>⟨g,l,λz H' y vs hv=>?_⟩⟩
 match vs,hv with
 | [v],_=>exact⟨[some z],rfl,⟨rfl,rfl⟩,st z H' y⟩
theorem Lz{P:AM}{w:AO}{H:Hp}{h:Heap}{a:AI}{o:HO}(x:gj P w H h a o):∃ob,h.get? a=some ob:=by
 induction o with
 | lst xs=>obtain⟨_,_,_,_,e⟩:=x;exact⟨_,e⟩
 | tup xs=>obtain⟨_,_,_,ob,e,_⟩:=x;exact⟨ob,e⟩
 | dK kvs=>obtain⟨_,_,_,_,ob,_,_,e,_⟩:=x;exact⟨ob,e⟩
 | dT kvs=>obtain⟨_,_,_,_,ob,_,_,e,_⟩:=x;exact⟨ob,e⟩
 | set S n=>obtain⟨ob,_,_,_,e,_⟩:=x;exact⟨ob,e⟩
 | ins C dx fs=>obtain⟨_,_,_,e,_⟩:=x;exact⟨_,e⟩
 | own y=>exact x
 | xd fs=>obtain⟨_,⟨ob,_,_,e,_⟩,_⟩:=x;exact⟨ob,e⟩
 | rng lo hi=>obtain⟨_,_,_,e⟩:=x;exact⟨_,e⟩
 | yL ob u ih=>exact⟨_,x.1⟩
 | Qi ps=>exact⟨_,x⟩
 | met f y=>exact⟨_,x⟩
 | ext φ=>obtain⟨_,e,_⟩:=x;exact e
theorem XN{P:AM}{w:AO}{fs:AF}{H0 H1:Hp}{h0 h1 h2:Heap}(u:Un fs [] H0 H1 h0 h1)(ok:Eo P w H1 h1)(fr:∀b∈fs,H1 b=none)
  (kp:∀b o,h1.get? b=some o->((∃v,h0.get? b=some v)\/∃v,H1 b=some v)->b∉fs->h2.get? b=some o) (sl:∀b o,h1.get? b=some o->b∈fs->∃z,h2.get? b=some { o with slots:=z }):
  Un fs [] H0 H1 h0 h2/\Eo P w H1 h2:=by
 refine⟨⟨λb o e n hb hx=>kp b o (u.keep b o e n hb hx) (.inl ⟨o,e⟩) hb,λb o e n hb hx=>?_,u.free,λb o e hx=>?_,u.tups,u.Hr,u.HW⟩,λa o e=>?_⟩
 ·obtain⟨z,e1⟩:=u.slot b o e n hb hx;obtain⟨z2,e2⟩:=sl b _ e1 hb;exact⟨z2,e2⟩
 ·obtain⟨o',e1⟩:=u.there b o e hx
  by_cases hb:b∈fs
  ·obtain⟨z,e2⟩:=sl b _ e1 hb;exact⟨_,e2⟩
  ·exact⟨o',kp b o' e1 (.inl ⟨o,e⟩) hb⟩
 ·refine(ok a o e).stay (λb v hb q=>?_) (λ_ q=>q) λ_ _ q=>q;have hs:∃v,H1 b=some v:=by
   rcases hb with z | z
   ·exact⟨o,by rw[z];exact e⟩
   ·exact⟨_,z⟩
  refine kp b v q (.inr hs) λz=>?_;obtain⟨v',e'⟩:=hs;rw[fr b z]at e';cases e'
def FJ(P:AM)(w:AO):CXT:=λouter H s E e s'=>
 ∃(ea:AI) (cls a0:AJ) (B:Heap) (H':Hp),e=.ref ea/\s'.os=s.os/\AllBare s'.gens/\Un (frs outer) [] H H' s.heap s'.heap/\Eo P w H' s'.heap/\Heap.FlyingW B outer ea cls a0 s'.heap/\
  (∀b o,s'.heap.get? b=some o->((∃v,s.heap.get? b=some v)\/∃v,H' b=some v)->b∉frs outer->B.get? b=some o)/\E cls none H'
theorem dF{P:AM}{w:AO}{X:Cx}:Passes (FJ P w) X E0:=λ_ _ _ _ _ _ _ h=>by
 obtain⟨_,_,_,_,_,_,_,_,_,_,_,_,z⟩:=h;exact z.elim
section
variable {P:AM}{w:AO}{K:aG}{mg:As}{base:Heap}{N:AH}{qual:Str}{scope:Scope}{f:AI}{cd:AJ}{A:Around}{outer:List Env}{s:AK}{H:Hp}{E:XK}
theorem Jk:Passes (FJ P w) (DQ (FJ P w) P w K mg base N qual scope f cd A outer s H E) E:=by
 intro pins σ H1 s1 e s2 I h;obtain⟨ea,cls,a0,B,H2,rfl,os,bare,un,ok,fl,hB,hE⟩:=h;have J:Inv (DQ (FJ P w) P w K mg base N qual scope f cd A outer s H E) pins σ H2 s2:=I.call' os un ok bare (λb z=>nomatch z);have L0:∀b o,s.heap.get? b=some o->b≠(envOfC qual scope s.heap.objs.size f cd).locals:=λb o e=>Nat.ne_of_lt (Nat.lt_of_lt_of_le (Heap.lt_size e) I.ok.above);have nin:∀b,((∃v,s.heap.get? b=some v)\/∃v,H2 b=some v)->b∉frs outer->b∉frs (envOfC qual scope s.heap.objs.size f cd::outer):=λb hb hn hm=>by
  rcases List.mem_cons.mp (J.KC b hm)with z | z
  ·rcases hb with ⟨v,e⟩ | ⟨v,e⟩
   ·exact L0 b v e z
   ·rw[z]at e;have:=J.free;rw[e]at this;cases this
  ·exact hn z
 have was:∀b,((∃v,s.heap.get? b=some v)\/∃v,H2 b=some v)->(∃v,s1.heap.get? b=some v)\/∃v,H2 b=some v:=λb hb=>by
  rcases hb with ⟨v,e⟩ | hb
  ·exact .inl (I.base.there b v e (λz=>nomatch z))
  ·exact .inr hb
 refine wpAny_leaves_onW I.ok.frames rfl fl λh' fl' sm=>?_;have dat:∀b o,s2.heap.get? b=some o->b∈frs outer->∀vs,o.data≠.fields vs:=λb o e hb=>by
  obtain⟨_,o',ho',hd⟩:=J.yu.mem hb;rw[e]at ho';cases ho';exact hd
 have inB:∀b o,s2.heap.get? b=some o->((∃v,s.heap.get? b=some v)\/∃v,H2 b=some v)->b∉frs outer->B.get? b=some o:=λb o e hb hn=>hB b o e (was b hb) (nin b hb hn);have U:=XN (P:=P) (w:=w) (h2:=h') J.base J.hok (λb hb=>by
   obtain⟨_,o,ho,_⟩:=J.ok.yu.mem hb;exact J.base.free b o ho (J.ok.frf b hb) (λz=>nomatch z)) (λb o e hb hn=>fl'.1 _ _ (inB b o e hb hn)) λb o e hb=>sm b o e (dat b o e hb)
 refine⟨ea,cls,a0,B,H2,rfl,J.os,J.bare,U.1,U.2,fl',λb o e hb hn=>?_,hE⟩;have there:∃v,s2.heap.get? b=some v:=by
  rcases hb with ⟨v,z⟩ | ⟨v,z⟩
  ·exact J.base.there b v z (λz=>nomatch z)
  ·exact Lz (J.hok b v z)
 obtain⟨v,z⟩:=there;have q:=inB b v z hb hn;have:=fl'.1 _ _ q;rw[e]at this;cases this;exact q
theorem YW{pins:At}{σ:L2.St}{H1:Hp}{s1:AK}{C e:AI}{vs:AC}{h1:Heap}(I:Inv (DQ (FJ P w) P w K mg base N qual scope f cd A outer s H E) pins σ H1 s1)
  (hx:Heap.MadeExcOf s1.heap h1 e (.ref C) vs) (hE:E (.ref C) none H1):(DQ (FJ P w) P w K mg base N qual scope f cd A outer s H E).xe (.ref e) { s1 with heap:=h1 }:=by
 have L0:∀b o,s.heap.get? b=some o->b≠(envOfC qual scope s.heap.objs.size f cd).locals:=λb o e=>Nat.ne_of_lt (Nat.lt_of_lt_of_le (Heap.lt_size e) I.ok.above);have nin:∀b,((∃v,s.heap.get? b=some v)\/∃v,H1 b=some v)->b∉frs outer->b∉frs (envOfC qual scope s.heap.objs.size f cd::outer):=λb hb hn hm=>by
  rcases List.mem_cons.mp (I.KC b hm)with z | z
  ·rcases hb with ⟨v,e⟩ | ⟨v,e⟩
   ·exact L0 b v e z
   ·rw[z]at e;have:=I.free;rw[e]at this;cases this
  ·exact hn z
 have fh:s1.heap.FunFrames (W.hideAll s1.heap (frs (envOfC qual scope s.heap.objs.size f cd::outer))) (envOfC qual scope s.heap.objs.size f cd::outer):=
  W.funFrames_hide I.stack λenv he b hb=>List.mem_filterMap.mpr ⟨env,he,hb⟩
 refine wpAny_leaves_madeW (s:={ s1 with heap:=h1 }) I.ok.frames rfl (λb o q=>W.of_hideAll _ q) fh hx λh' t fl _ _ sm=>?_;have inB:∀b o,s1.heap.get? b=some o->((∃v,s.heap.get? b=some v)\/∃v,H1 b=some v)->b∉frs outer->(W.hideAll s1.heap (frs (envOfC qual scope s.heap.objs.size f cd::outer))).get? b=some o:=
  λb o e hb hn=>W.hideAll_get _ e (nin b hb hn)
 have dat:∀b o,s1.heap.get? b=some o->b∈frs outer->∀vs,o.data≠.fields vs:=λb o e hb=>by
  obtain⟨_,o',ho',hd⟩:=I.yu.mem hb;rw[e]at ho';cases ho';exact hd
 have U:=XN (P:=P) (w:=w) (h2:=h') I.base I.hok (λb hb=>by
   obtain⟨_,o,ho,_⟩:=I.ok.yu.mem hb;exact I.base.free b o ho (I.ok.frf b hb) (λz=>nomatch z)) (λb o e hb hn=>fl.1 _ _ (inB b o e hb hn)) λb o e hb=>sm b o (hx.keeps b o e) (dat b o e hb)
 refine⟨e,.ref C,.ref t,_,H1,rfl,I.os,I.bare,U.1,U.2,fl,λb o q hb hn=>?_,hE⟩;have there:∃v,s1.heap.get? b=some v:=by
  rcases hb with ⟨v,z⟩ | ⟨v,z⟩
  ·exact I.base.there b v z (λz=>nomatch z)
  ·exact Lz (I.hok b v z)
 obtain⟨v,z⟩:=there;have q2:=inB b v z hb hn;have:=fl.1 _ _ q2;rw[q]at this;cases this;exact q2
end
abbrev Zoy(K:aG)(C:AI):Prop:=W.excIn K C [.type "ValueError",.type "Exception",.type "BaseException",.type "object"] "ValueError.__new__"=true
theorem Zqy{K:aG}{h:Heap}{C:AI}{ms:AC}{ni:String}(X:K.In h)(q:W.excIn K C ms ni=true):
  ∃tl N nm ql bs hd sn sub ab col dd j0 j1 j2 j3 j5 mN,h.get? C=some (excClassObj nm ql C N bs tl hd sn sub ab col dd j0 j1 j2 j3 j5 ni)/\h.Ns N mN/\mN "__init__"=none/\OwnTail h ms tl:=by
 unfold W.excIn at q;split at q
 ·rename_i dd ZCx slots hob
  split at q
  ·rename_i C2 tl j0 j1 j2 j3 n2 j5 em es
   simp only[Bool.and_eq_true,beq_iff_eq,Bool.not_eq_true']at q;obtain⟨⟨⟨⟨⟨e1,e2⟩,e3⟩,e4⟩,e5⟩,e6⟩:=q;subst e1 e2;obtain⟨c1,c2,c3,c4,c5,c6,c7,c8,c9,c10,c11⟩:=ZCx;dsimp only at em e3 e5 e6;subst em e3;have Zue:slots=#[j0,j1,j2,j3,some (.builtin n2),j5]:=by
    obtain⟨ls⟩:=slots;simp only at es;rw[es]
   subst Zue;refine⟨tl,c4,c1,c5,c2,c6,c7,c8,c9,c10,dd,j0,j1,j2,j3,j5,h.nsMap c4,X _ _ hob,?_,W.nsMap_none_of_in X e5 e6,W.tail_of_in X e4⟩;exact .of_isNs (W.isNs_of_in X e5)
  ·cases q
 ·cases q
section
variable {X:Cx}{x:Str}{C:AI}{np cpos pos:Pos}{e:AN}{es:AG}{ta:TA}{E:XK}
theorem Jf(hc:X.calm=true)(hg:Gl X x)(hm:X.mg x=↑C)(hx:Zoy X.K C)(ha:PA X (e::es) ta)
  (hE:∀(pins:At) (σ:L2.St) (H:Hp) (s:AK) (ea:AI) (vs:AC) (h1:Heap),Inv X pins σ H s->Heap.MadeExcOf s.heap h1 ea (.ref C) vs->E (.ref C) none H->X.xe (.ref ea) { s with heap:=h1 })
  (hs:starEach (e::es) X.env=(false,eval e X.env)::starEach es X.env:=by rfl) (hpl:(backTo cpos (starEach es X.env)).any (·.1)=false:=by rfl) (hd:(x == ("__debug__":Str))=false:=by decide):
  PS X (.Raise (some (.Call (.Name x np) (e::es) [] cpos)) none pos) (Ku C E ta):=by
 intro pins s σ H D I h;obtain⟨tl,N,nm,ql,bs,hdd,sn,sub,ab,col,dd,j0,j1,j2,j3,j5,mN,hC,hN,hni,T⟩:=Zqy I.ok.mod.kin hx;refine wpAny_Raise_call_subT (C:=C) (nm:=nm) (q:=ql) (N:=N) (bs:=bs) (bm:=tl) (hdct:=hdd) (sn:=sn) (sub:=sub) (ab:=ab) (col:=col) (dd:=dd) (k0:=j0) (k1:=j1) (k2:=j2) (k3:=j3) (k5:=j5) PySem.F.excBase_ValueError (mN:=mN)
  (T.hasType PySem.F.excBase_ValueError.hasBase) (I.ok.hd hc) ?_ hni (fL I hg hm ⟨rfl,?_⟩ hd)
 ·rw[hs];show(false || (backTo cpos (starEach es X.env)).any (·.1))=false;rw[hpl];rfl
 ·have q:=ha cpos pins s σ H _ I h;rw[hs]at q ⊢;refine Calls.evalArgs_plain (gB q λus s1 ⟨vs,H1,I1,r,l1,hE1⟩=>⟨rfl,?_,I1.bk _ _ hC,hN.keeps I1.bk,T.keeps I1.bk,λh1 ea hmade=>hE pins σ H1 s1 ea _ h1 I1 hmade hE1⟩);rw[<- r.length];exact Nat.le_trans l1 ε
end
def XD(CX:CXT)(X:Cx)(E:L2.St->XK):Prop:=∀(pins:At) (σ:L2.St) (H:Hp) (s:AK) (e:AJ) (s':AK),Inv X pins σ H s->CX X.stack H s (E σ) e s'->X.xe e s'
section
variable {X:Cx}{CX:CXT}{k:Nat}{f C:AI}{fd:AL}{ps:AH}{sp:Sp}{vG:List V}{ds:AC}{E:L2.St->XK}{x m:Str}{p pos apos:Pos}{e o:AN}{es:AG}{ta:TE}{t:TA}
theorem Zpf{pins:At}{σ:L2.St}{H:Hp}{s:AK}{Q:VK}{us:AC}{vs:List V}(F:vB X.prog X.w X.K X.mg X.base CX k f fd ps sp)(hr:Room k X.A)(hb:Binds X.K fd ps ds)(hd:Vals vG ds)(hx:XD CX X E)
  (I:Inv X pins σ H s) (r:Vals vs us) (h:sp (vs++vG) H Q (E σ)):wpAny ς X.A (call (.ref f) us) (EP X pins σ Q) X.xe s:=by
 have r2:Vals (vs++vG) (us++ds):=r.append hd;have hl:(us++ds).length=ps.length:=by rw[<- r2.length];exact F.len _ _ _ _ h
 refine wpAny_call (codeAny_mono (F.run X.A X.stack s H ⟨us,[]⟩ (us++ds) (vs++vG) Q (E σ) hr I.env0 (hb s us I.um hl) r2 h) λr s' hq=>?_);cases r with
 | error e=>exact hx pins σ H s e s' I hq
 | ok fl=>
  cases fl with
  | ret u=>exact I.after hq
  | next=>exact False.elim hq
  | brk=>exact False.elim hq
  | cont=>exact False.elim hq
theorem Zc2(F:vB X.prog X.w X.K X.mg X.base CX k f fd ps sp)(hr:Room k X.A)(hg:Gl X x)(hm:X.mg x=↑f)(hk:W.keepIn X.K (.ref f)=true)(hb:Binds X.K fd ps ds)(hd:Vals vG ds)(hx:XD CX X E)
  (ha:PA X (e::es) t) (hdb:(x == ("__debug__":Str))=false:=by decide) (he:starEach (e::es) X.env=(false,eval e X.env)::starEach es X.env:=by rfl) (hpl:(backTo pos (starEach es X.env)).any (·.1)=false:=by rfl):
  PE X (.Call (.Name x p) (e::es) [] pos) (XX sp vG E t):=by
 intro pins s σ H Q I h;refine wpAny_Call_Name_kw (fL I hg hm ?_ hdb);refine W.callWith_K (h₀:=X.base) I.ok.mod.kin hk (gB (ha pos pins s σ H _ I h) λus s1 ⟨vs,H1,I1,r,q⟩=>⟨I1.um,?_⟩) he hpl;exact Zpf F hr hb hd hx I1 r q
end
abbrev cxB(X:Cx)(pn:At)(xe:Ap):Cx:={ X with pn:=pn,xe:=xe }
abbrev M5(X:Cx)(ea:AJ)(pn:At):Cx:={ X with A:=X.A.mark (some ea),calm:=false,pn:=pn,xe:=λ_ _=>False }
section
variable {X:Cx}{pins:At}{σ:L2.St}{H:Hp}{s:AK}
theorem Zsw(ok:X.Ok)(pn:At)(xe:Ap):(cxB X pn xe).Ok:=
 ⟨ok.mod,ok.kind,ok.glob,ok.blt,ok.above,ok.inj,ok.has,ok.cab,ok.hd,ok.frames,ok.stk,ok.exf,ok.bs,ok.bsz,ok.Zcj,ok.Zgt,ok.yu,ok.frf⟩
theorem Zsv(ok:X.Ok)(ea:AJ)(pn:At):(M5 X ea pn).Ok:=
 ⟨ok.mod,ok.kind,ok.glob,ok.blt,ok.above,ok.inj,ok.has,ok.cab,λz=>(nomatch z),ok.frames,ok.stk,ok.exf,ok.bs,ok.bsz,ok.Zcj,ok.Zgt,ok.yu,ok.frf⟩
theorem Zl8(I:Inv X pins σ H s)(xe:Ap):Inv (cxB X (X.pn++pins) xe) [] σ H s:=
 ⟨Zsw I.ok _ _,I.os,I.bare,I.base,I.loc,I.cell,I.free,I.qX,λp hp=>I.pin p (by simpa using hp),I.hok,I.len⟩
theorem Ly{xe:Ap}{pl:At}(ok:X.Ok)(I:Inv (cxB X (X.pn++pins) xe) pl σ H s):Inv X pins σ H s:=
 ⟨ok,I.os,I.bare,I.base,I.loc,I.cell,I.free,I.qX,λp hp=>I.pin p (List.mem_append_left _ hp),I.hok,I.len⟩
theorem jU(I:Inv X pins σ H s)(ea:AJ):Inv (M5 X ea (X.pn++pins)) [] σ H s:=
 ⟨Zsv I.ok _ _,I.os,I.bare,I.base,I.loc,I.cell,I.free,I.qX,λp hp=>I.pin p (by simpa using hp),I.hok,I.len⟩
theorem Zm{ea:AJ}{pl:At}(ok:X.Ok)(I:Inv (M5 X ea (X.pn++pins)) pl σ H s):Inv X pins σ H s:=
 ⟨ok,I.os,I.bare,I.base,I.loc,I.cell,I.free,I.qX,λp hp=>I.pin p (List.mem_append_left _ hp),I.hok,I.len⟩
theorem Zln{xe:Ap}{D:Ends}{f:Flow}(ok:X.Ok)(h:SP (cxB X (X.pn++pins) xe) [] D f s):SP X pins D f s:=by
 cases f with
 | next=>obtain⟨σ',H',I,q⟩:=h;exact⟨σ',H',Ly ok I,q⟩
 | brk=>obtain⟨σ',H',I,q⟩:=h;exact⟨σ',H',Ly ok I,q⟩
 | cont=>obtain⟨σ',H',I,q⟩:=h;exact⟨σ',H',Ly ok I,q⟩
 | ret u=>obtain⟨v,σ',H',I,r,q⟩:=h;exact⟨v,σ',H',Ly ok I,r,q⟩
theorem Qs{ea:AJ}{D:Ends}{f:Flow}(ok:X.Ok)(h:SP (M5 X ea (X.pn++pins)) [] D f s):SP X pins D f s:=by
 cases f with
 | next=>obtain⟨σ',H',I,q⟩:=h;exact⟨σ',H',Zm ok I,q⟩
 | brk=>obtain⟨σ',H',I,q⟩:=h;exact⟨σ',H',Zm ok I,q⟩
 | cont=>obtain⟨σ',H',I,q⟩:=h;exact⟨σ',H',Zm ok I,q⟩
 | ret u=>obtain⟨v,σ',H',I,r,q⟩:=h;exact⟨v,σ',H',Zm ok I,r,q⟩
theorem flown{ea:AI}{cls a0:AJ}{B:Heap}{H2:Hp}{s2:AK}{h3:Heap}(I:Inv X pins σ H s)(os:s2.os=s.os)(bare:AllBare s2.gens)(un:Un (frs X.stack) [] H H2 s.heap s2.heap)(ok:Eo X.prog X.w H2 s2.heap)
  (fl:Heap.FlyingW B X.stack ea cls a0 s2.heap) (hB:∀b o,s2.heap.get? b=some o->((∃v,s.heap.get? b=some v)\/∃v,H2 b=some v)->b∉frs X.stack->B.get? b=some o)
  (st:B.StaysIn h3) (sm:s2.heap.UpToSlots h3):Inv X pins σ H2 { s2 with heap:=h3 }:=by
 have fr:∀b∈frs X.stack,H2 b=none:=λb hb=>by
  obtain⟨_,o,ho,_⟩:=I.stack.mem hb;exact un.free b o ho (I.X4 b hb) (λz=>nomatch z)
 have U:=XN (P:=X.prog) (w:=X.w) (h2:=h3) un ok fr (λb o e hb hn=>st _ _ (hB b o e hb hn)) λb o e hb=>by
  obtain⟨_,o',ho',hd⟩:=fl.2.2.1.mem hb;rw[e]at ho';cases ho';exact sm b o e hd
 exact I.call' (s':={ s2 with heap:=h3 }) (ch:=[]) os U.1 U.2 bare (λb z=>nomatch z)
end
section
variable {X:Cx}{x:Str}{C:AI}{np pos hpos:Pos}{body suite:List Stmt}{b₀:Stmt}{Mt:AJ->Prop}{tb:(L2.St->XK)->TS}{th:TS}
theorem Zup{pins:At}{σ:L2.St}{H:Hp}{s:AK}{ea:AI}{o:HO}(I:Inv X pins σ H s)(h0:H ea=none)(hn:X.s₀.heap.get? ea=none)(hl:ea≠X.env.locals)(hc:∀y c,X.env.cells.lookup y=some c->c≠ea)
  (hp:∀p∈X.pn++pins,p.1≠ea) (ok:gj X.prog X.w (upd H ea o) s.heap ea o):Inv X pins σ (upd H ea o) s:=by
 have ne:∀b u,H b=some u->b≠ea:=λb u e=>aD e h0;refine⟨I.ok,I.os,I.bare,⟨I.base.keep,I.base.slot,λb u e n hx=>?_,I.base.there,λb xs e=>?_,λb u xs e=>?_,λb ps e=>?_⟩,I.loc,I.cell,?_,λy c e=>?_,λp hm=>?_,λb u e=>?_,I.len⟩
 ·have:b≠ea:=λz=>by rw[z,hn]at e;cases e
  rw[aB this];exact I.base.free b u e n hx
 ·have:=I.base.tups b xs e;rw[aB (ne _ _ this)];exact this
 ·have:=I.base.Hr b u xs e;rw[aB (ne _ _ this)];exact this
 ·obtain⟨more,this⟩:=I.base.HW b ps e;exact⟨more,by rw[aB (ne _ _ this)];exact this⟩
 ·rw[aB hl.symm];exact I.free
 ·rw[aB (hc y c e)];exact I.qX y c e
 ·obtain⟨p1,p2,p3⟩:=I.pin p hm;exact⟨p1,by rw[aB (hp p hm)];exact p2,p3⟩
 ·by_cases z:b=ea
  ·subst z;rw[ao]at e;cases e;exact ok
  ·rw[aB z]at e;exact(I.hok b u e).stay (λ_ _ _ q=>q) (λc q=>by rw[aB (ne _ _ q)];exact q) λc xs q=>by rw[aB (ne _ _ q)];exact q
theorem PX{pins:At}{σ:L2.St}{H:Hp}{s:AK}{i:Nat}{x:Str}{pos:Pos}{M:Model}{A:Around}{E:Ap}{Q:Unit->AK->Prop}(I:Inv X pins σ H s)(hN:X.N.Nodup)(hi:X.N[i]? =some x)(hk:X.env.scope.names.lookup x=some .local)
  (h:∀s',Inv X pins (σ.set i none) H s'->Q () s'):wpAny M A (do bindName X.env x .none;unbindBehindTheSuite X.env x pos) Q E s:=by
 obtain⟨m,hn,hl⟩:=id I.loc;have hcls:(X.env.scope.kind == .class || (X.env.scope.kind == .module && X.env.locals != X.env.globals))=false:=by rw[I.ok.kind];rfl
 refine wpAny_nameGoes_keeps hk hn hcls λh' v hn' hs=>h _ ?_;have neL:∀b o,X.s₀.heap.get? b=some o->b≠X.env.locals:=λb o e=>Nat.ne_of_lt (Nat.lt_of_lt_of_le (Heap.lt_size e) I.ok.above);refine⟨I.ok,I.os,I.bare,⟨λb o e n hb hx=>(hs.2 b (neL b o e)).trans (I.base.keep b o e n hb hx),λb o e n hb hx=>?_,I.base.free,λb o e hx=>?_,I.base.tups,I.base.Hr,I.base.HW⟩,⟨_,hn',λj y v' e1 e2 e3=>?_⟩,λy c e=>?_,I.free,I.qX,λp hp=>?_,λb u e=>?_,by rw[List.length_set];exact I.len⟩
 ·obtain⟨sl,e1⟩:=I.base.slot b o e n hb hx;exact⟨sl,(hs.2 b (neL b o e)).trans e1⟩
 ·obtain⟨o',e1⟩:=I.base.there b o e hx;exact⟨o',(hs.2 b (neL b o e)).trans e1⟩
 ·by_cases hj:i=j
  ·subst hj
   by_cases hiσ:i < σ.length
   ·rw[List.getElem?_set_self hiσ]at e2;cases e2
   ·rw[List.getElem?_eq_none_iff.mpr (by rw[List.length_set];omega)]at e2;cases e2
  ·rw[List.getElem?_set_ne hj]at e2;obtain⟨u',r',q⟩:=hl j y v' e1 e2 e3;refine⟨u',r',?_⟩;rcases q with ⟨k,e⟩ | ⟨k,c,e,z⟩
   ·refine .inl ⟨k,?_⟩;have:y≠x:=λe=>hj (Rp hN hi (e ▸ e1));simp[this,e]
   ·exact .inr ⟨k,c,e,z.sameBut hs (I.cne y c e)⟩
 ·obtain⟨w',z⟩:=I.cell y c e;exact⟨w',z.sameBut hs (I.cne y c e)⟩
 ·obtain⟨e,n,ne,nf,d⟩:=I.pin p hp;exact⟨(hs.2 p.1 ne).trans e,n,ne,nf,d⟩
 ·refine(I.hok b u e).stay (λc w' hc q=>(hs.2 c ?_).trans q) (λ_ q=>q) λ_ _ q=>q;rintro rfl;rcases hc with rfl | hc
  ·rw[I.free]at e;cases e
  ·rw[I.free]at hc;cases hc
theorem Zm3{i:Nat}{nm:Str}(hex:X.ex=[])(hst:X.stack=X.env::X.outer/\X.env.frame=some X.env.locals)(hN:X.N.Nodup)(hi:X.N[i]? =some nm)(hk:X.env.scope.names.lookup nm=some .local)(hg:Gl X x)(hm:X.mg x=↑C)(hMt:∀c,Mt c->W.exmOne X.K c (.ref C)=some true)
  (hb:∀(E:L2.St->XK) (pn:At) (xe:Ap),XD (FJ X.prog X.w) (cxB X pn xe) E->Px (cxB X pn xe) body (tb E))
  (hs:∀(ea:AJ) (pn:At),Px (M5 X ea pn) (b₀::suite) th) (hd:(x == ("__debug__":Str))=false:=by decide):
  PS X (.Try body [.ExceptHandler (some (.Name x np)) (some nm) (b₀::suite) hpos] [] [] pos) (Zeh Mt i tb th):=by
 intro pins s σ H D I h;refine wpAny_Try_except ?_
 let D':Ends:=⟨λσ2 H2=>D.nx (σ2.set i none) H2,D.rt,λσ2 H2=>D.bk (σ2.set i none) H2,λσ2 H2=>D.ct (σ2.set i none) H2⟩
 have hx:XD (FJ X.prog X.w) (cxB X (X.pn++pins) λe s'=>∃ σ H s,Inv X pins σ H s/\FJ X.prog X.w X.stack H s (λcls _ H'=>Mt cls/\∀ea,H' ea=none->th D' (σ.set i (↑ea)) (upd H' ea (TX ea cls))) e s')
   (λσ' cls _ H'=>Mt cls/\∀ea,H' ea=none->th D' (σ'.set i (↑ea)) (upd H' ea (TX ea cls))):=
  λpl σ H s e s' J z=>⟨σ,H,s,Ly I.ok J,z⟩
 refine wpAny_mono (hb _ _ _ hx [] s σ H D (Zl8 I _) h) (λf s1 q=>?_) λe s1 q=>?_
 ·have q:=Zln I.ok q;cases f with
  | next=>exact wpAny_execs_nil q
  | ret v=>exact q
  | brk=>exact q
  | cont=>exact q
 ·obtain⟨σ1,H1,s0,J,ea,cls,a0,B,H2,rfl,os,bare,un,ok,fl,hB,hM,hth⟩:=q;have fl0:=fl;rw[hst.1]at fl0;refine wpAny_looks_onW (hst.1 ▸ J.ok.frames) hst.2 fl0 λh4 Znw sm4=>?_;refine wpAny_landsW Znw λh5 fl5 sm5=>?_;have Zbk:s1.heap.UpToSlots h5:=sm4.trans sm5;have J5:=flown J os bare un ok fl hB fl5.1 Zbk;refine wpAny_handleBy_cons (codeAny_handlers_test (fL (X:=M5 X (.ref ea) (X.pn++pins)) (jU J5 (.ref ea)) hg hm ?_ hd)) (by intro z;cases z);obtain⟨ob,hob,hoc⟩:=fl5.there;have LT:W.Looks ς h5 (typeOf (.ref ea)) cls:=hoc ▸ (W.Looks.ld hob).andThen .now;refine(W.exm_one J5.um LT (hMt cls hM)).here ?_;refine codeAny_handlers_suite_as ?_;refine lands_againW fl5 λh6 fl6 sm6=>?_;have J6:=flown J os bare un ok fl hB fl6.1 (Zbk.trans sm6);obtain⟨oe,vs,e1,e2,e3,_⟩:=fl6.first;have nfr:ea∉frs X.stack:=λz=>by
   obtain⟨_,o',ho',hd'⟩:=fl6.2.2.1.mem (show ea∈(X.env::X.outer).filterMap (·.frame) by rw[<- hst.1];exact z);rw[e1]at ho';cases ho';exact hd' _ e3
  obtain⟨o1,eo1,_⟩:=fl.there;have Zve:s0.heap.get? ea=none:=by
   cases z:s0.heap.get? ea with
   | none=>rfl
   | some v=>
    have:=hB ea o1 eo1 (.inl ⟨v,z⟩) nfr;rw[fl.2.1]at this;cases this
  have new1:H2 ea=none:=by
   cases z:H2 ea with
   | none=>rfl
   | some v=>
    have:=hB ea o1 eo1 (.inr ⟨v,z⟩) nfr;rw[fl.2.1]at this;cases this
  have A6:Inv X pins σ1 (upd H2 ea (TX ea cls)) { s1 with heap:=h6 }:=by
   refine Zup J6 new1 ?_ ?_ ?_ ?_ ?_
   ·cases z:X.s₀.heap.get? ea with
    | none=>rfl
    | some v=>
     obtain⟨o',e'⟩:=J.base.there ea v z (λw=>by rw[hex]at w;cases w);rw[Zve]at e';cases e'
   ·intro z;obtain⟨m,⟨ol,esl,epl,hol,hdl,_⟩,_⟩:=J6.loc;have hol':h6.get? X.env.locals=some ol:=hol;rw[<- z,e1]at hol';cases hol';rw[e3]at hdl;cases hdl
   ·intro y c e z;obtain⟨w',oc,Zyi,hdc⟩:=J6.cell y c e;have Zwf:h6.get? c=some oc:=Zyi;rw[z,e1]at Zwf;cases Zwf;rw[e3]at hdc;cases hdc
   ·intro p hp z;have:=(J.pin p hp).1;rw[z,Zve]at this;cases this
   ·exact⟨⟨oe,vs,e1,e2,e3⟩,⟨oe,e1⟩,(by rintro h1 h2 ⟨o2,v2,a1,a2,a3⟩ k;exact⟨o2,v2,k _ a1,a2,a3⟩)⟩
  refine Ql (X:=M5 X (.ref ea) (X.pn++pins)) (v:=.ref ea) (i:=i) (jU A6 (.ref ea)) hN hi (.inl hk) rfl (λs7 I7=>?_) (.inr hk);refine wpAny_mono (hs (.ref ea) (X.pn++pins) [] s7 _ _ D' I7 (hth ea new1)) (λf s8 q=>?_) λ_ _ z=>z.elim;have q:=Qs I.ok q;cases f with
  | next=>
   obtain⟨σ8,H8,I8,q⟩:=q;exact PX I8 hN hi hk λs9 I9=>⟨_,H8,I9,q⟩
  | brk=>
   obtain⟨σ8,H8,I8,q⟩:=q;exact PX I8 hN hi hk λs9 I9=>⟨_,H8,I9,q⟩
  | cont=>
   obtain⟨σ8,H8,I8,q⟩:=q;exact PX I8 hN hi hk λs9 I9=>⟨_,H8,I9,q⟩
  | ret u=>
   obtain⟨v,σ8,H8,I8,r,q⟩:=q;exact PX I8 hN hi hk λs9 I9=>⟨v,_,H8,I9,r,q⟩
end
section
variable {P:AM}{w:AO}{K:aG}{mg:As}{base:Heap}{x qual:Str}{st:Stmt}{f:AI}{fd:AL}{N ps:AH}{k:Nat}{sp:Sp}
theorem fok(F:Fun K x qual st f fd)(S:aO N ps (aF st))(len:∀vs H Q E,sp vs H Q E->vs.length=ps.length)
  (hbody:∀(cdv:AJ) (A:Around) (outer:List Env) (s:AK) (H:Hp) (vs:List V) (Q:VK) (E:XK),Room k (A.deeper (envOfC qual (aF st) s.heap.objs.size f cdv))->sp vs H Q E->
   ∃t,Px (DQ (FJ P w) P w K mg base N qual (aF st) f cdv A outer s H E).nox (fj st) t/\t { nx:=λ_ H'=>Q .non H',rt:=Q } (start N vs) H):vB P w K mg base (FJ P w) (k+1) f fd ps sp:=by
 obtain⟨oc,od,kV,doc,pm,an,cdv,ct,osl,rfl,lk,hcd⟩:=F.ex;refine Zim lk hcd S len λA outer s H vs Q E hr hsp=>?_;obtain⟨t,h,q⟩:=hbody cdv A outer s H vs Q E hr hsp;exact⟨t,h.nox,q⟩
theorem ZCs(F:Fun K x qual st f fd)(S:aO N ps (aF st))(len:∀vs H Q E,sp vs H Q E->vs.length=ps.length)
  (hbody:∀(cdv:AJ) (A:Around) (outer:List Env) (s:AK) (H:Hp) (vs:List V) (Q:VK) (E:XK),Room k (A.deeper (envOfC qual (aF st) s.heap.objs.size f cdv))->sp vs H Q E->
   ∃t,Px (DQ (FJ P w) P w K mg base N qual (aF st) f cdv A outer s H E) (fj st) t/\t { nx:=λ_ H'=>Q .non H',rt:=Q } (start N vs) H):vB P w K mg base (FJ P w) (k+1) f fd ps sp:=by
 obtain⟨oc,od,kV,doc,pm,an,cdv,ct,osl,rfl,lk,hcd⟩:=F.ex;exact Zim lk hcd S len λA outer s H vs Q E hr hsp=>hbody cdv A outer s H vs Q E hr hsp
theorem ZCu(F:Zox K x qual st f fd)(S:aO N ps (aF st))(len:∀vs H Q E,sp vs H Q E->vs.length=ps.length)
  (hbody:∀(cdv:AJ) (A:Around) (outer:List Env) (s:AK) (H:Hp) (vs:List V) (Q:VK) (E:XK),Room k (A.deeper (envOfC qual (aF st) s.heap.objs.size f cdv))->sp vs H Q E->
   ∃t,Px (DQ (FJ P w) P w K mg base N qual (aF st) f cdv A outer s H E).nox (fj st) t/\t { nx:=λ_ H'=>Q .non H',rt:=Q } (start N vs) H):vB P w K mg base (FJ P w) (k+1) f fd ps sp:=by
 obtain⟨oc,od,dV,kV,doc,pm,an,cdv,ct,osl,rfl,lk,hcd⟩:=F.ex;refine Zim lk hcd S len λA outer s H vs Q E hr hsp=>?_;obtain⟨t,h,q⟩:=hbody cdv A outer s H vs Q E hr hsp;exact⟨t,h.nox,q⟩
theorem Zwk(F:Zox K x qual st f fd)(S:aO N ps (aF st))(len:∀vs H Q E,sp vs H Q E->vs.length=ps.length)
  (hbody:∀(cdv:AJ) (A:Around) (outer:List Env) (s:AK) (H:Hp) (vs:List V) (Q:VK) (E:XK),Room k (A.deeper (envOfC qual (aF st) s.heap.objs.size f cdv))->sp vs H Q E->
   ∃t,Px (DQ (FJ P w) P w K mg base N qual (aF st) f cdv A outer s H E) (fj st) t/\t { nx:=λ_ H'=>Q .non H',rt:=Q } (start N vs) H):vB P w K mg base (FJ P w) (k+1) f fd ps sp:=by
 obtain⟨oc,od,dV,kV,doc,pm,an,cdv,ct,osl,rfl,lk,hcd⟩:=F.ex;exact Zim lk hcd S len λA outer s H vs Q E hr hsp=>hbody cdv A outer s H vs Q E hr hsp
end
structure Kp(K:aG)(C:AI):Prop where
 ga:W.findIn K (.ref C) "__getattribute__"=some (some (.builtin "BaseException.__getattribute__"))
 no:W.findIn K (.ref C) "__getattr__"=some none
 cl:W.findIn K (.ref C) "__class__"=some (some (.builtin "object.__class__"))
 so:W.mroIn K C (.type "object")=some true
 sb:W.mroIn K C (.type "BaseException")=some true
 is:W.hasDictIn K C=true
section
variable {prog:AM}{w:AO}{A:Around}{E:Ap}{h:Heap}{g:Array GenState}{d:Drawn}{t:Nat}{os:OsState}{a:AI}{o:Obj}{C:AI}{K:aG}
theorem Zs4(X:K.In h)(F:Kp K C){M:Model}{Q:Bool->AK->Prop}(q:Q true ⟨h,g,d,t,os⟩):wpAny M A (isSubtype (.ref C) (.type (".".intercalate ("object.__class__".cutAt '.').dropLast))) Q E ⟨h,g,d,t,os⟩:=by
 rw[PySem.F.owner_object_class];exact(W.looks_mroIn X F.so).here q
theorem Zp0(X:K.In h)(F:Kp K C){M:Model}{Q:Bool->AK->Prop}(q:Q true ⟨h,g,d,t,os⟩):wpAny M A (isSubtype (.ref C) (.type "BaseException")) Q E ⟨h,g,d,t,os⟩:=(W.looks_mroIn X F.sb).here q
theorem Zl2{n:Str}{r:AB}(X:K.In h)(e:W.findIn K (.ref C) n=some r){M:Model}{Q:AB->AK->Prop}(q:Q r ⟨h,g,d,t,os⟩):wpAny M A (typeLookup (.ref C) n) Q E ⟨h,g,d,t,os⟩:=(W.looks_findIn X e).here q
theorem Zs5{R:Result->AK->Prop}(X:K.In h)(F:Kp K C)(hx:h.get? a=some o)(hc:o.cls=.ref C)(hq:R (.ok (.ret (.ref C))) ⟨h,g,d,t,os⟩):
  codeAny af A (.call (.builtin "getset_descriptor.__get__") ⟨[.builtin "object.__class__",.ref a,.ref C],[]⟩) R ⟨h,g,d,t,os⟩:=by
 have h5:(⟨h,g,d,t,os⟩:AK).TypeIs (.builtin "object.__class__") "getset_descriptor":=PySem.F.typeOf_object_class;refine codeAny_call_builtin PySem.F.slot_gs_get.plain PySem.F.entry_gs_get (PySem.F.slot_gs_get.check _ _ _ _ _ _ _ _ h5 (PySem.F.args_gs_get _ _ _) ?_)
 repeat any_goals (first | assumption | (with_reducible refine wpAny_loadPart_at hx ?_;rw[hc]) | with_reducible refine Zs4 X F ?_ | wp_step)
 refine⟨Code.quiet_builtin _ γ,codeAny_builtin PySem.F.entry_object_class ?_⟩
 repeat any_goals (first | assumption | (with_reducible refine wpAny_loadPart_at hx ?_;rw[hc]) | wp_step)
theorem Zl3{tk:Tok}{Q:Fin->AK->Prop}(X:K.In h)(F:Kp K C)(hx:h.get? a=some o)(hc:o.cls=.ref C)(hq:Q (.done (.ret (.ref C))) ⟨h,g,d,t,os⟩):
  wpAny af A (Builtin.«object.__getattribute__» ⟨[.ref a,.str "__class__" tk],[]⟩) Q E ⟨h,g,d,t,os⟩:=by
 have h5:(⟨h,g,d,t,os⟩:AK).TypeIs (.builtin "object.__class__") "getset_descriptor":=PySem.F.typeOf_object_class;have f5:=PySem.F.typeOf_object_class;have f6:=PySem.F.slot_gs_get.lookup;have f7:=PySem.F.slot_gs_set.lookup
 repeat any_goals (first | assumption | (with_reducible refine wpAny_loadPart_at hx ?_;rw[hc]) | with_reducible refine Zl2 X F.cl ?_ | wp_step)
 refine Zs5 X F hx hc ?_
 repeat any_goals (first | assumption | wp_step)
theorem Zl4{M:Model}{nameV:AJ}{Q:Unit->AK->Prop}(X:K.In h)(F:Kp K C)(hx:h.get? a=some o)(hc:o.cls=.ref C)(hq:Q () ⟨h,g,d,t,os⟩):wpAny M A (checkBuiltinCall "BaseException.__getattribute__" ⟨[.ref a,nameV],[]⟩) Q E ⟨h,g,d,t,os⟩:=by
 have e1:builtinKind "BaseException.__getattribute__"=some .slot:=γ
 have e2:splitId "BaseException.__getattribute__"=some ("BaseException","__getattribute__"):=γ
 have ha:=PySem.F.args_bexc_ga (.ref a) nameV;simp only[checkBuiltinCall,e1,e2];refine wpAny_bind ?_;unfold isInstance
 repeat (first | (with_reducible refine wpAny_loadPart_at hx ?_;rw[hc]) | with_reducible refine Zp0 X F ?_ | wp_step)
 exact hq
theorem Zv0{tk:Tok}{Q:Ap}(X:K.In h)(F:Kp K C)(hx:h.get? a=some o)(hc:o.cls=.ref C)(hq:Q (.ref C) ⟨h,g,d,t,os⟩):wpAny af A (getAttrBy (.ref a) (.str "__class__" tk) false) Q E ⟨h,g,d,t,os⟩:=by
 have f3:=PySem.F.attr_ValueError.ga.bind (.ref a);have e1:(onTheHeap (Value.ref C) && Value.builtin "BaseException.__getattribute__" == Value.builtin "object.__getattribute__")=false:=by
  rw[show(Value.builtin "BaseException.__getattribute__" == Value.builtin "object.__getattribute__")=false by decide +kernel];rfl
 repeat any_goals (first | assumption | (with_reducible refine wpAny_loadPart_at hx ?_;rw[hc]) | with_reducible refine Zl2 X F.ga ?_ | with_reducible refine Zl2 X F.no ?_ | wp_step)
 refine codeAny_call_builtin PySem.F.attr_ValueError.ga.plain PySem.F.entry_bexc_ga (Zl4 X F hx hc (Zl3 X F hx hc ?_))
 repeat any_goals (first | assumption | wp_step)
theorem Zp1{Q:AB->AK->Prop}(X:K.In h)(F:Kp K C)(hx:h.get? a=some o)(hc:o.cls=.ref C)(hq:Q (↑C) ⟨h,g,d,t+1,os⟩):wpAny af A (getAttr? (.ref a) "__class__") Q E ⟨h,g,d,t,os⟩:=by
 unfold getAttr? getAttrBy?
 repeat any_goals (first | assumption | with_reducible apply Zv0 X F hx hc | wp_step)
end
def atX(a C:AI)(h:Heap):Prop:=∃o,h.get? a=some o/\o.cls=.ref C
theorem Zng{K:aG}{a C:AI}(F:Kp K C):W.KitX K (.ref a) (.ref C) (atX a C) where
 ty:=λ_ _ _ ⟨o,h1,h2⟩=>h2 ▸ (W.Looks.ld h1).andThen .now
 it:=λ_ _ X _=>by
  obtain⟨cd,hc,_⟩:=W.any_some F.is;unfold W.clsIn at hc;split at hc
  ·rename_i hob
   intro A' Q' E' s' k q;unfold isType loadHead;exact wpAny_bind (wpAny_loadPart (k _ _ (X _ _ hob)) (wpAny_pure q))
  ·cases hc
 ne:=λh tp dd its n sl X htp=>by
  obtain⟨cd,hc,_⟩:=W.any_some F.is;refine Bool.eq_false_iff.mpr λq=>?_;have e:C=tp:=Value.ref.inj (beq_iff_eq.mp q);subst e;unfold W.clsIn at hc;split at hc
  ·rename_i hob
   have z:=(X _ _ hob).symm.trans htp;cases z
  ·cases hc
 ca:=λ{prog w A E Q s} X ⟨o,h1,h2⟩ k=>by
  obtain⟨h,g,d,t,os⟩:=s;exact Zp1 X F h1 h2 k
section
variable {X:Cx}
def Zhn(K:aG)(Cs:AF):Prop:=∀C∈Cs,Kp K C
theorem Ff{Cs:AF}(F:Zhn X.K Cs):Ks X (.builtin "isinstance") (Xw Cs (W.kitOne X.K)):=by
 intro pins s σ H xs us Q I r h;obtain⟨a,c,C,k,⟨v,rfl,rv⟩,hC,ha,hk,q⟩:=h;obtain⟨u,w',rfl,rx,rn⟩:=vals2 r;obtain rfl:u=Value.ref a:=rx;have ew:w'=c:=by
  cases v with
  | ref b=>exact(show w'=Value.ref b from rn).trans (show c=Value.ref b from rv).symm
  | ty n=>exact(show w'=Value.type n from rn).trans (show c=Value.type n from rv).symm
  | non=>exact(show w'=Value.none from rn).trans (show c=Value.none from rv).symm
  | bl b=>exact(show w'=Value.bool b from rn).trans (show c=Value.bool b from rv).symm
  | int i=>
   obtain⟨t1,e1⟩:=(show ∃t,c=Value.int i t from rv);subst e1;exact absurd hk (by unfold W.kitOne W.kitCls;rw[if_neg ζ];simp)
  | str i=>
   obtain⟨t1,e1⟩:=(show ∃t,c=Value.str i t from rv);subst e1;exact absurd hk (by unfold W.kitOne W.kitCls;rw[if_neg ζ];simp)
  | byt i=>
   obtain⟨t1,e1⟩:=(show ∃t,c=Value.bytes i t from rv);subst e1;exact absurd hk (by unfold W.kitOne W.kitCls;rw[if_neg ζ];simp)
  | flt i=>
   obtain⟨t1,e1⟩:=(show ∃t,c=Value.float i t from rv);subst e1;exact absurd hk (by unfold W.kitOne W.kitCls;rw[if_neg ζ];simp)
 subst ew;obtain⟨⟨o,vs,h1,h2,h3⟩,_⟩:=I.hok a _ ha;exact W.kia_one (Zng (F C hC)) I.um ⟨o,h1,h2⟩ hk (λz=>nomatch z) λtk=>⟨.bl k,H,I.tok _,rfl,q⟩
theorem m6:Ks X (.type "list") (Ao X.K):=by
 intro pins s σ H xs us Q I r h;obtain⟨p,ys,rfl,hs,q⟩:=h;exact Ka pins s σ H [.ref p] us Q I r ⟨p,ys,rfl,.inl hs,q⟩
theorem Xu{xs ys:List V}{us ws:AC}(rx:Vals xs us)(ry:Vals ys ws)(fx:xs.all iQ=true)(fy:ys.all iQ=true)(hl:xs.length=ys.length):
  (∀(A:Around) (s:AK) (j:Nat) (h1:j<us.toArray.size) (h2:j<ws.toArray.size),SeqAt.EqAt A s us.toArray[j] ws.toArray[j] (match xs[j]?,ys[j]? with | some a,some b=>eqV a b | _,_=>false))/\
  (List.range us.toArray.size).all (λj=>match xs[j]?,ys[j]? with | some a,some b=>eqV a b | _,_=>false)=eqL xs ys:=by
 refine⟨λA s j h1 h2=>?_,?_⟩
 ·rw[List.size_toArray]at h1 h2;have l1:=rx.length;have l2:=ry.length;have a1:xs[j]? =some xs[j]:=bN δ;have a2:ys[j]? =some ys[j]:=bN δ;obtain⟨u,e1,r1⟩:=rx.get a1;obtain⟨w',e2,r2⟩:=ry.get a2;rw[bN h1]at e1;rw[bN h2]at e2;cases e1;cases e2;rw[a1,a2];exact Am r1 r2 (List.all_eq_true.mp fx _ (List.getElem_mem δ)) (List.all_eq_true.mp fy _ (List.getElem_mem δ))
 ·rw[List.size_toArray,<- rx.length];unfold eqL;rw[beq_iff_eq.mpr hl,Bool.true_and,Bool.eq_iff_iff,List.all_eq_true,List.all_eq_true];constructor
  ·intro h p hp;obtain⟨j,hj,e⟩:=List.getElem_of_mem hp;rw[List.length_zip]at hj;have:=h j (List.mem_range.mpr δ);rw[bN (show j<xs.length by omega),bN (show j<ys.length by omega)]at this;rw[List.getElem_zip]at e;rw[<- e];exact this
  ·intro h j hj;have hj:=List.mem_range.mp hj;rw[bN (show j<xs.length by omega),bN (show j<ys.length by omega)];have hz:j<(xs.zip ys).length:=by rw[List.length_zip];omega
   have:=h _ (List.getElem_mem hz);rw[List.getElem_zip]at this;exact this
theorem Zin{xs ys:List V}(h:xs.length≠ys.length):eqL xs ys=false:=by
 unfold eqL;rw[show(xs.length == ys.length)=false by simpa using h,Bool.false_and]
theorem Zfw(hu:X.A.units+1<cLine):yJ X (compareOp .Eq) (Lr X.K false):=by
 intro pins s σ H x y v u Q I rx ry h;obtain⟨p,q',xs,ys,rfl,rfl,hx,hy,ff,q⟩:=h;cases rx;cases ry;obtain⟨us,r1,pl1,_⟩:=I.list hx;obtain⟨ws,r2,Y4,_⟩:=I.list hy;have hu':X.A.units<cLine:=δ
 by_cases hl:xs.length=ys.length
 ·obtain⟨e1,e2⟩:=Xu r1 r2 (ff hl).1 (ff hl).2 hl;refine SeqAt.eq_listAt pl1.isList Y4.isList (by rw[List.size_toArray,List.size_toArray,<- r1.length,<- r2.length];exact hl) hu' (λj h1 h2=>e1 _ _ j h1 h2) ?_;rw[e2];exact⟨.bl _,H,I,rfl,q⟩
 ·refine SeqAt.eq_list_lengthsAt pl1.isList Y4.isList ?_ hu' ?_
  ·rw[List.size_toArray,List.size_toArray,<- r1.length,<- r2.length];simpa using hl
  ·refine⟨.bl _,H,I,rfl,?_⟩;have:=q;rw[Zin hl]at this;exact this
end
theorem Zmn:fastBuiltinMro "NoneType"=some [.type "NoneType",.type "object"]:=γ
section
variable {K:aG}{A:Around}{a C:AI}{o:Obj}
theorem Zuf{M:Model}{E:Ap}{s:AK}{Q:Unit->AK->Prop}(LI:W.Looks M s.heap (isInstance (.ref a) (.type "object")) true)(hq:Q () s):wpAny M A (checkBuiltinCall "object.__eq__" ⟨[.ref a,.none],[]⟩) Q E s:=by
 have ha:=PySem.F.cmpArgs_eq (.ref a) .none;simp only[checkBuiltinCall,PySem.F.cmpKind_eq,PySem.F.cmpSplit_eq];refine wpAny_bind (LI.here ?_);simp only[Bool.not_true,Bool.false_eq_true,if_false];cases hsig:Manifest.signature? "object.__eq__" with
 | none=>exact wpAny_pure hq
 | some sig=>
  simp only[argsOk,hsig]at ha;have h2:Bind.checkArgs "object.__eq__" sig ⟨[.ref a,.none],[]⟩=pure ():=ha;show wpAny M A (Bind.checkArgs "object.__eq__" sig ⟨[.ref a,.none],[]⟩) Q E _;rw[h2];exact wpAny_pure hq
theorem Zr1{prog:AM}{w:AO}{E:Ap}{s:AK}{Q:Ap}(LI:W.Looks af s.heap (isInstance (.ref a) (.type "object")) true)(hq:Q .notImplemented s):
  wpAny af A (call (.builtin "object.__eq__") [.ref a,.none]) Q E s:=by
 refine wpAny_call (codeAny_call_builtin PySem.F.cmp_object.eq.plain PySem.F.cmpEntry_eq (Zuf LI ?_));obtain⟨h,g,d,t,os⟩:=s;unfold Builtin.«object.__eq__»
 repeat (first | with_reducible refine wpAny_bind (m:=isSame (.ref a) .none) (wpAny_pure ?_) | wp_step)
 exact hq
theorem Zs8{prog:AM}{w:AO}{E:Ap}{s:AK}{Q:AB->AK->Prop}(X:K.In s.heap)(hx:s.heap.get? a=some o)(hc:o.cls=.ref C)(hE:EqD K C)(hq:Q none s):
  wpAny af A (tryCompare (.ref a) "__eq__" .none) Q E s:=by
 have LT:W.Looks af s.heap (typeOf (.ref a)) (.ref C):=hc ▸ (W.Looks.ld hx).andThen .now;have LI:W.Looks af s.heap (isInstance (.ref a) (.type "object")) true:=LT.andThen (W.looks_mroIn X hE.ob);have LS:W.Looks af s.heap (specialOf (.ref a) "__eq__") (some (.builtin "object.__eq__")):=LT.andThen (W.looks_findIn X hE.eq);simp only[tryCompare];refine wpAny_bind ?_;simp only[callSpecialIfBound?,bindSpecialIfBound?];refine wpAny_holding (wpAny_bind (wpAny_bind (LS.here ?_)));simp only[PySem.F.cmp_object.eq.bind];have fin:wpAny af A (call (.builtin "object.__eq__") ([.ref a]++[.none]) >>= λv=>pure (some v)) (λr s'=>wpAny af A (match r with | some .notImplemented | none=>pure none | some v=>pure (some v)) Q E s') E s:=
  wpAny_bind (Zr1 LI (wpAny_pure (wpAny_pure hq)))
 refine wpAny_bind (wpAny_askSetting (wpAny_ite ?_));split
 ·exact wpAny_bind (wpAny_pure (wpAny_pure fin))
 ·exact wpAny_tryCatch (wpAny_bind (wpAny_pure (wpAny_pure fin)))
theorem Zpg{s:AK}(X:K.In s.heap)(hx:s.heap.get? a=some o)(hc:o.cls=.ref C)(hE:EqD K C)(hu:A.units<cLine):SeqAt.RcAt A s (.ref a) .none false:=λprog w E Q h=>by
 have LT:W.Looks af s.heap (typeOf (.ref a)) (.ref C):=hc ▸ (W.Looks.ld hx).andThen .now;have hi:cmpInfo CmpOp.Eq=("==",("__eq__":Str),("__eq__":Str)):=rfl;have ho:oneThing? .Eq (.ref a) .none=none:=rfl;simp only[richCompare,hi,ho]
 try with_reducible refine wpAny_holding ?_
 refine wpAny_bind (wpAny_cRoomFor_or (.inr hu) ?_);refine wpAny_bind (LT.here (wpAny_bind (m:=typeOf .none) (wpAny_pure ?_)));have hne:(Value.ref C != Value.type "NoneType")=true:=ζ
 simp only[hne,if_true];have hs:isSubtype (.type "NoneType") (.ref C)=pure false:=by
  rw[isSubtype_type,Zmn];rfl
 refine wpAny_bind (wpAny_of_eq hs ?_);simp only[Bool.false_eq_true,if_false,Bool.not_false,if_true];refine wpAny_bind (m:=tryCompare (.ref a) _ .none) (Zs8 X hx hc hE ?_);refine wpAny_bind (m:=tryCompare .none _ (.ref a)) (wpAny_tryCompare_declines (T:="NoneType") rfl PySem.F.slot_NoneType_eq_refl (call_gives PySem.F.slot_NoneType_eq_refl rfl PySem.F.entry_NoneType_eq (PySem.F.args_NoneType_eq_2 _ _) (SeqAt.NoneType___eq___none_ref_0 a) ⟨rfl,?_⟩));exact wpAny_bind (wpAny_rule (wpAny_bind (wpAny_of_eq (rfl:isSame (.ref a) .none=pure false) (wpAny_pure h))))
theorem Zr0{s:AK}(X:K.In s.heap)(hx:s.heap.get? a=some o)(hc:o.cls=.ref C)(hE:EqD K C)(hu:A.units<cLine):SeqAt.EqAt A s (.ref a) .none false:=λprog w E Q h=>by
 unfold eqBool;refine wpAny_holding ?_;refine wpAny_ite_split (λhab=>absurd (eq_of_beq hab) nofun) (λ_=>?_);exact wpAny_bind (Zpg X hx hc hE hu prog w E _ (wpAny_truthy_bool h))
end
section
variable {X:Cx}
def Di(u:AJ):Bool:=match u with
 | .none=>true
 | _=>false
theorem Zci{H:Hp}{y:V}{u:AJ}(r:RelV y u)(h:y=.non\/∃a C dx fs,y=.ref a/\H a=some (.ins C dx fs)/\Er X.K C/\EqD X.K C):Di u=decide (y=.non):=by
 rcases h with rfl | ⟨a,_,_,_,rfl,_⟩
 ·obtain rfl:u=Value.none:=r;rfl
 ·obtain rfl:u=Value.ref a:=r;rfl
theorem Zmp{pins:At}{σ:L2.St}{H:Hp}{s:AK}{A:Around}{y:V}{u:AJ}(I:Inv X pins σ H s)(hu:A.units<cLine)(r:RelV y u)(h:y=.non\/∃a C dx fs,y=.ref a/\H a=some (.ins C dx fs)/\Er X.K C/\EqD X.K C):SeqAt.EqAt A s u .none (Di u):=by
 rcases h with rfl | ⟨a,C,dx,fs,rfl,ha,hc,he⟩
 ·obtain rfl:u=Value.none:=r;exact SeqAt.EqAt.same .none
 ·obtain rfl:u=Value.ref a:=r;obtain⟨_,_,_,e,_⟩:=(show gj X.prog X.w H s.heap a (.ins C dx fs)from I.hok a _ ha);exact Zr0 I.um e rfl he hu
theorem Zch{H:Hp}:∀{xs:List V}{us:AC},Vals xs us->OkN X.K H xs->us.any Di=decide (V.non∈xs)
 | _,_,.nil,_=>rfl
 | y::xs,u::us,.cons r t,h=>by
  rw[List.any_cons,Zch t λz hz=>h z (List.mem_cons_of_mem _ hz),Zci r (h y List.mem_cons_self),Bool.eq_iff_iff];simp only[Bool.or_eq_true,decide_eq_true_eq,List.mem_cons];constructor
  ·rintro(z | z)
   ·exact .inl z.symm
   ·exact .inr z
  ·rintro(z | z)
   ·exact .inl z.symm
   ·exact .inr z
theorem Zcf{H:Hp}{pins:At}{σ:L2.St}{s:AK}{A:Around}{xs:List V}{us:AC}(I:Inv X pins σ H s)(hu:A.units<cLine)(r:Vals xs us)(h:OkN X.K H xs):∀u∈us,SeqAt.EqAt A s u .none (Di u):=by
 intro u hm;obtain⟨i,hi,rfl⟩:=List.getElem_of_mem hm;have hl:=r.length;have hx:xs[i]? =some xs[i]:=bN δ;obtain⟨u',e,ru⟩:=r.get hx;rw[bN hi]at e;cases e;exact Zmp I hu ru (h _ (List.getElem_mem δ))
theorem Zjr(hu:X.A.units+1<cLine):yJ X (compareOp .NotIn) (Zsm X.K true):=by
 intro pins s σ H x y v u Q I rx ry h;obtain⟨p,xs,rfl,rfl,hs,hk,q⟩:=h;obtain rfl:v=Value.none:=rx;cases ry;obtain⟨us,r,pl,_⟩:=I.list hs;refine SeqAt.notIn_listAt Di pl.isList (λw hw=>Zcf I (by show X.A.units+1<cLine;exact hu) r hk w (by simpa using hw)) ⟨.bl _,H,I,rfl,?_⟩;rw[show us.toArray.any Di=us.any Di by simp,Zch r hk];exact q
theorem Zcg{H:Hp}{xs:List V}{us:AC}(r:Vals xs us)(h:OkN X.K H xs)(j:Nat)(hj:j<us.length)(hj':j<xs.length):Di us[j]=decide (xs[j]=V.non):=by
 obtain⟨u',e,ru⟩:=r.get (bN hj');rw[bN hj]at e;cases e;exact Zci ru (h _ (List.getElem_mem hj'))
theorem Zjw(hu:X.A.units+1<cLine):MtR X "list.index" (Zht X.K):=by
 intro pins s σ H x xs v us Q I rx rs h;obtain⟨p,ys,rfl,rfl,hs,hk,hn,q⟩:=h;obtain rfl:v=Value.ref p:=rx;obtain⟨u,rfl,ru⟩:=Vals.one rs;obtain rfl:u=Value.none:=ru;obtain⟨ws,r,pl,hz⟩:=I.list hs;obtain⟨⟨cls,dd,data,sl⟩,ho,hc,n,hd⟩:=pl.isList;simp only at hc hd;subst hc hd;have hl:=r.length;have hj:ys.idxOf V.non<ys.length:=List.idxOf_lt_length_iff.mpr hn;have hz2:ys.length<2 ^ 62:=Nat.lt_of_le_of_lt hz ε;refine call_meets PySem.F.slot_list_index ⟨_,ho,rfl⟩ PySem.F.entry_list_index (PySem.F.args_list_index_2 _ _)
  (SeqAt.list_indexAt p ws.toArray n dd sl .none Di (ys.idxOf V.non) (by simpa[hl]using hj) δ ?_ ?_) ⟨ho,λy hy=>Zcf I (by show X.A.units+1<cLine;exact hu) r hk y (by simpa using hy),⟨.int _,H,I.tok _,⟨_,rfl⟩,q⟩⟩
 ·show Di ws[ys.idxOf V.non]=true;rw[Zcg r hk _ δ hj,decide_eq_true_eq];exact List.getElem_idxOf hj
 ·intro j hjs hlt;show Di ws[j]=false;rw[Zcg r hk j (by simpa using hjs) δ,decide_eq_false_iff_not];intro e;have:=List.not_of_lt_findIdx (p:=(· == V.non)) (xs:=ys) hlt;simp[e]at this
theorem Zsr(hu:X.A.units+1<cLine):yJ X (compareOp .NotEq) (Lr X.K true):=by
 intro pins s σ H x y v u Q I rx ry h;obtain⟨p,q',xs,ys,rfl,rfl,hx,hy,ff,q⟩:=h;cases rx;cases ry;obtain⟨us,r1,pl1,_⟩:=I.list hx;obtain⟨ws,r2,Y4,_⟩:=I.list hy;have hu':X.A.units<cLine:=δ
 by_cases hl:xs.length=ys.length
 ·obtain⟨e1,e2⟩:=Xu r1 r2 (ff hl).1 (ff hl).2 hl;refine SeqAt.RcNeAt.lists pl1.isList Y4.isList (by rw[List.size_toArray,List.size_toArray,<- r1.length,<- r2.length];exact hl) hu' (λj h1 h2=>e1 _ _ j h1 h2) X.prog X.w X.xe _ ?_;rw[e2];exact⟨.bl _,H,I,rfl,q⟩
 ·refine SeqAt.RcNeAt.lists_lengths pl1.isList Y4.isList ?_ hu' X.prog X.w X.xe _ ?_
  ·rw[List.size_toArray,List.size_toArray,<- r1.length,<- r2.length];simpa using hl
  ·refine⟨.bl _,H,I,rfl,?_⟩;have:=q;rw[Zin hl]at this;exact this
end
end G
namespace G
open PySem L2
def Zlx:R2:=λx y H Q=>∃b,y=.bl b/\Q (.bl (!decide (x=.bl b))) H
theorem Ztr{x:V}{b:Bool}{H:Hp}{Q:VK}(h:Q (.bl (!decide (x=.bl b))) H):Zlx x (.bl b) H Q:=⟨b,rfl,h⟩
def Ky(C:AI):TE:=λ_ H Q=>∀x dx,H x=none->H dx=none->dx≠x->Q (.ref x) (upd (upd H dx (.own x)) x (.ins C dx []))
theorem Zqi{C:AI}{σ:St}{H:Hp}{Q:VK}(h:∀x dx,H x=none->H dx=none->dx≠x->Q (.ref x) (upd (upd H dx (.own x)) x (.ins C dx []))):Ky C σ H Q:=h
def Kv(t u:TE):TE:=λσ H Q=>t σ H Q\/u σ H Q
theorem Xd{t u:TE}{σ:St}{H:Hp}{Q:VK}(h:t σ H Q):Kv t u σ H Q:=.inl h
theorem JR{t u:TE}{σ:St}{H:Hp}{Q:VK}(h:u σ H Q):Kv t u σ H Q:=.inr h
end G
namespace G
open PySem L2 PySem.Spec PyProof.Rows
section
variable {X:Cx}
theorem Zpt:yJ X (compareOp .IsNot) Zlx:=by
 intro pins s σ H x y v u Q I rx ry h;obtain⟨b,rfl,q⟩:=h;cases ry;cases x with
 | bl c=>
  cases rx;refine wpAny_isNot_plain rfl (cV I q ?_);cases b<;>cases c<;>rfl
 | non=>cases rx;exact wpAny_isNot_plain rfl (cV I q rfl)
 | ref a=>cases rx;exact wpAny_isNot_plain rfl (cV I q rfl)
 | ty a=>cases rx;exact wpAny_isNot_plain rfl (cV I q rfl)
 | _=>obtain⟨t,rfl⟩:=rx;exact wpAny_isNot_plain rfl (cV I q rfl)
theorem vP{e:AN}{t u:TE}(h1:PE X e t)(h2:PE X e u):PE X e (Kv t u):=by
 intro pins s σ H Q I h;rcases h with h | h
 ·exact h1 pins s σ H Q I h
 ·exact h2 pins s σ H Q I h
structure Mk0(K:aG)(C:AI):Prop where
 makes:W.makesIn K C=true
 init:W.findIn K (.ref C) "__init__"=some (some (.builtin "object.__init__"))
 kp:W.keepIn K (.ref C)=true
theorem Zfk{C:AI}{pins:At}{σ:L2.St}{H:Hp}{s:AK}{Q:VK}(M:Mk0 X.K C)(I:Inv X pins σ H s)
  (h:∀x dx,H x=none->H dx=none->dx≠x->Q (.ref x) (upd (upd H dx (.own x)) x (.ins C dx []))):wpAny ς X.A (call (.ref C) []) (EP X pins σ Q) X.xe s:=by
 have hq:=h ai s.heap.objs.size (I.hok.fresh (Nat.le_succ _)) (I.hok.fresh υ) (Nat.ne_of_lt (Nat.lt_succ_self _));have I2:=Inv.made (C:=C) I;have Y:=W.makes_of (M:=model X.prog X.w) I.um M.makes;refine wpAny_call (Zjx I.um M.makes M.init (λself=>W.Looks.of_pure (W.oi_bind self)) ?_);have e2:((s.heap.push W.emptyDict).push (W.instObj C s.heap.objs.size)).get? (s.heap.objs.size+1)=some (W.instObj C s.heap.objs.size):=by
  have:=Heap.get?_push_size (s.heap.push W.emptyDict) (o:=W.instObj C s.heap.objs.size) rfl;rw[Heap.size_push]at this;exact this
 have t1:W.Looks ς ((s.heap.push W.emptyDict).push (W.instObj C s.heap.objs.size)) (typeOf (.ref ai)) (.ref C):=(W.Looks.ld e2).andThen .now;have t2:W.Looks ς ((s.heap.push W.emptyDict).push (W.instObj C s.heap.objs.size)) (isInstance (.ref ai) (.type "object")) true:=t1.andThen (Y.top.keeps λb o e=>Heap.get?_push_of_some _ (Heap.get?_push_of_some _ e));refine codeAny_call_builtin W.oi_plain W.entry_oi (@W.check_slot ς _ _ _ "object.__init__" "object" "__init__" (.ref ai) [] [] _ W.oi_kind W.oi_split t2 (W.oi_args (.ref ai)) ?_);rw[W.oi_run];exact wpAny_pure (And.intro rfl ⟨V.ref ai,_,I2,rfl,hq⟩)
theorem Lw{C:AI}{x:Str}{p pos:Pos}(M:Mk0 X.K C)(hg:Gl X x)(hm:X.mg x=↑C)(hdb:(x == ("__debug__":Str))=false:=by decide):PE X (.Call (.Name x p) [] [] pos) (Ky C):=by
 intro pins s σ H Q I h;refine wpAny_Call_Name_kw (fL I hg hm ?_ hdb);exact W.callWith_K0 I.um M.kp (Zfk M I h)
structure ZD9(K:aG)(C:AI):Prop where
 pg:W.plainGet K C "__class__"=true
 hd:W.hasDictIn K C=true
 cl:W.findIn K (.ref C) "__class__"=some (some (.builtin "object.__class__"))
 sp:W.specialIn K (.builtin "object.__class__") "__get__"=some (some (.builtin "getset_descriptor.__get__"))
 tk:W.takesIn K (.builtin "object.__class__")=some true
 so:W.mroIn K C (.type "object")=some true
end
end G
namespace G
open PySem L2
end G
namespace G
open PySem L2 PySem.Spec PyProof.Rows
def Ze6(w:AO):List DictEntry->List (Str×AI)->Prop
 | [],[]=>True
 | e::es,p::t=>e.hash=hashStr w p.1/\(∃tk,e.key=.str p.1 tk)/\e.val=.ref p.2/\Ze6 w es t
 | _,_=>False
def Tab(K:aG)(w:AO)(mg:As)(nm:Str)(Qi:List (Str×AI)):Prop:=
 ∃dd o es ep,mg nm=↑dd/\K.lookup dd=some o/\o.ExactDict/\o.data=.dict es ep/\Ze6 w es.toList Qi
theorem Ze6.keys{prog:AM}{w:AO}:∀{es:List DictEntry}{Qi:List (Str×AI)},Ze6 w es Qi->∀e∈es,∃k,(strKind prog w).is k e.key=true/\e.hash=(strKind prog w).hash k
 | [],_,_=>λe he=>absurd he List.not_mem_nil
 | e::es,[],h=>h.elim
 | e::es,p::t,h=>λx hx=>by
  obtain⟨h1,⟨tk,h2⟩,_,h4⟩:=h;rcases List.mem_cons.mp hx with rfl | hx
  ·refine⟨p.1,?_,h1⟩;rw[h2];show Value.isStrOf p.1 (.str p.1 tk)=true;simp[Value.isStrOf]
  ·exact Ze6.keys h4 x hx
theorem Ze6.find{w:AO}:∀{es:List DictEntry}{Qi:List (Str×AI)}{k:Str}{f:AI},Ze6 w es Qi->Qi.lookup k=some f->(es.find? λe=>Value.isStrOf k e.key).map (·.val)=↑f
 | [],[],_,_,_,h=>by cases h
 | [],_::_,_,_,h,_=>h.elim
 | _::_,[],_,_,h,_=>h.elim
 | e::es,p::t,k,f,h,hl=>by
  obtain⟨_,⟨tk,h2⟩,h3,h4⟩:=h;rw[List.find?_cons,h2]
  by_cases hk:k=p.1
  ·subst hk;have e1:Value.isStrOf p.1 (.str p.1 tk)=true:=by simp[Value.isStrOf]
   rw[e1];have e2:List.lookup p.1 (p::t)=some p.2:=by
    obtain⟨a,b⟩:=p;simp[List.lookup]
   rw[e2]at hl;cases hl;show some e.val=_;rw[h3]
  ·have e1:Value.isStrOf k (.str p.1 tk)=false:=by
    simp only[Value.isStrOf,beq_eq_false_iff_ne,ne_eq];exact λz=>hk z.symm
   rw[e1];have e2:List.lookup k (p::t)=List.lookup k t:=by
    obtain⟨a,b⟩:=p;simp only[List.lookup];rw[beq_eq_false_iff_ne.mpr hk]
   rw[e2]at hl;exact Ze6.find h4 hl
def Zp4(Qi:List (Str×AI))(ti:TE):TE:=λσ H Q=>ti σ H λy H1=>∃k f,y=.str k/\Qi.lookup k=some f/\Q (.ref f) H1
theorem Zvs{Qi:List (Str×AI)}{ti:TE}{σ:L2.St}{H:Hp}{Q:VK}(h:ti σ H λy H1=>∃k f,y=.str k/\Qi.lookup k=some f/\Q (.ref f) H1):Zp4 Qi ti σ H Q:=h
theorem Zm6{X:Cx}{nm:Str}{Qi:List (Str×AI)}{i:AN}{ti:TE}{p pos:Pos}(T:Tab X.K X.w X.mg nm Qi)(hg:Gl X nm)(hi:PE X i ti)(hs:Zrc i)(hd:(nm == ("__debug__":Str))=false:=by decide):
  PE X (.Subscript (.Name nm p) i pos) (Zp4 Qi ti):=by
 intro pins s σ H Q I h;obtain⟨dd,o,es,ep,hm,hk,ho,hda,te⟩:=T;refine Zhp PySem.F.slot_dict_getitem.lookup hs (fL I hg hm ?_ hd);refine gB (hi pins s σ H _ I h) λiv s2 qc=>?_;obtain⟨y,H2,I2,ry,k,f,ey,l,q2⟩:=qc;subst ey;have hh:=I2.um dd o hk;refine⟨⟨o,hh,ho.1⟩,?_⟩;obtain⟨tk,rfl⟩:∃tk,iv=.str k tk:=ry;refine wpAny_getItem_of (knd:=strKind X.prog X.w) (k:=k) (f:=λk=>findBy Value.isStrOf es k) (by show Value.isStrOf k (.str k tk)=true;simp[Value.isStrOf]) ⟨o,es,ep,hh,ho,hda,λe he=>te.keys e (by simpa using he),λ_=>rfl⟩ (v:=.ref f) ?_ ⟨.ref f,H2,I2.tok _,rfl,q2⟩;show Option.map (λx=>x.val) (Array.find? (λe=>Value.isStrOf k e.key) es)=_;rw[<- Array.find?_toList];exact te.find l
def TQ(P:AM)(w:AO)(K:aG)(mg:As)(base:Heap)(CX:CXT)(k:Nat)(ps:AH)(L:List (AI×Sp)):Prop:=
 ∀f sp,(f,sp)∈L->∃k' fd,k'<=k/\vB P w K mg base CX k' f fd ps sp/\W.keepIn K (.ref f)=true/\L2.Binds K fd ps []
theorem TQ.nil{P:AM}{w:AO}{K:aG}{mg:As}{base:Heap}{CX:CXT}{k:Nat}{ps:AH}:TQ P w K mg base CX k ps []:=λ_ _ h=>absurd h List.not_mem_nil
theorem TQ.cons{P:AM}{w:AO}{K:aG}{mg:As}{base:Heap}{CX:CXT}{k k':Nat}{ps:AH}{L:List (AI×Sp)}{f:AI}{fd:AL}{sp:Sp}(hk:k'<=k)(F:vB P w K mg base CX k' f fd ps sp)(hb:L2.Binds K fd ps [])(hp:W.keepIn K (.ref f)=true)(t:TQ P w K mg base CX k ps L):TQ P w K mg base CX k ps ((f,sp)::L):=λg sp' h=>by
 rcases List.mem_cons.mp h with e | h
 ·cases e;exact⟨k',fd,hk,F,hp,hb⟩
 ·exact t g sp' h
def X3(i:Nat)(L:List (AI×Sp))(E:XK)(t:TA):TE:=λσ H Q=>∃f sp,σ[i]? =some (↑f)/\(f,sp)∈L/\t σ H λvs H1=>sp vs H1 Q E
theorem jQ{i:Nat}{L:List (AI×Sp)}{E:XK}{t:TA}{σ:L2.St}{H:Hp}{Q:VK}{f:AI}(sp:Sp)(hf:σ[i]? =some (↑f))(hm:(f,sp)∈L)(h:t σ H λvs H1=>sp vs H1 Q E):X3 i L E t σ H Q:=⟨f,sp,hf,hm,h⟩
theorem Zc3{X:Cx}{CX:CXT}{k i:Nat}{ps:AH}{L:List (AI×Sp)}{x:Str}{E:XK}{e:AN}{es:AG}{t:TA}{p pos:Pos}(F:TQ X.prog X.w X.K X.mg X.base CX k ps L)(hr:Room k X.A)(hN:X.N[i]? =some x)(hv:Vis X.env.scope x)(hx:Passes CX X E)
  (ha:PA X (e::es) t) (hd:(x == ("__debug__":Str))=false:=by decide) (hcd:(x == ("__classdict__":Str))=false:=by decide) (he:starEach (e::es) X.env=(false,eval e X.env)::starEach es X.env:=by rfl) (hpl:(backTo pos (starEach es X.env)).any (·.1)=false:=by rfl):
  PE X (.Call (.Name x p) (e::es) [] pos) (X3 i L E t):=by
 intro pins s σ H Q I h;obtain⟨f,sp,ef,hm,h⟩:=h;obtain⟨k',fd,hk,FO,hp,hb⟩:=F f sp hm;refine wpAny_Call_Name_kw (gB (Zm5 hN hv hd hcd pins s σ H (λv H'=>v=.ref f/\H'=H) I ⟨_,ef,rfl,rfl⟩) λu s1 qc=>?_);obtain⟨v,H1,I1,r,e1,e2⟩:=qc;subst e1 e2;obtain rfl:u=Value.ref f:=r;refine W.callWith_K (h₀:=X.base) I1.ok.mod.kin hp (gB (ha pos pins s1 σ H1 _ I1 h) λus s2 ⟨vs,H2,I2,r2,q2⟩=>⟨I2.um,?_⟩) he hpl;refine YK (vG:=[]) FO (hr.mono hk) hb .nil hx I2 r2 ?_;rw[List.append_nil];exact q2
section
variable {σ:L2.St}{H:Hp}{Q:VK}{td ty tv:TE}{n bk ct:L2.St->Hp->Prop}{r:VK}
theorem Zu3(h:td σ H λx H1=>ty σ H1 λy H2=>∃a v,x=.ref a/\Tu H2 a y (some v)/\Q v H2):Zbe td ty σ H Q:=h
theorem Znq(h:ty σ H λy H1=>td σ H1 λx H2=>∃a o,x=.ref a/\Tu H2 a y o/\Q (.bl (!o.isSome)) H2):XS ty td σ H Q:=h
theorem Zu1(h:tv σ H λv H1=>td σ H1 λx H2=>ty σ H2 λy H3=>∃a H4,x=.ref a/\Zea H3 a y v H4/\n σ H4):Zhr td ty tv ⟨n,r,bk,ct⟩ σ H:=h
theorem Zon{a:AI}{kvs:List (L2.Key×V)}{z:Str}(e:H a=some (.dK kvs)):Tu H a (.str z) (rW kvs (Sum.inr z)):=Tu.k (k:=Sum.inr z) e
theorem Zwn{a:AI}{kvs:List (L2.Key×V)}{z:Str}{v:V}(e:H a=some (.dK kvs))(hl:kvs.length<sizeLine):Zea H a (.str z) v (upd H a (.dK (putK kvs (Sum.inr z) v))):=Zea.k (k:=Sum.inr z) e hl
end
def Zrd(K:aG)(J:It)(caps:List Nat)(tc:TT)(te:TE)(σ:L2.St)(H1:Hp)(Q:VK):Prop:=∃W:Nat->Nat->List V->Hp->Prop,(∃m,W 0 m [] H1)/\∀i m ys H,W i m ys H->
 (J.stop i H/\∀p,H p=none->Q (.ref p) (upd H p (.lst ys)))\/
 (J.go i H/\ys.length<sizeLine/\∀x H',J.yld i H x H'->∃a u v,x=.ref a/\fc K H' a [u,v]/\tc (some u::some v::caps.map (pick σ)) H' λk H2=>if k=true then te (some u::some v::caps.map (pick σ)) H2 (λy H3=>∃m',m'<m/\W (i+1) m' (ys++[y]) H3)else ∃m',m'<m/\W (i+1) m' ys H2)
def Zle(K:aG)(wi:TI)(caps:List Nat)(tc:TT)(te:TE):TE:=λσ H Q=>wi σ H λJ H1=>Zrd K J caps tc te σ H1 Q
theorem Ztv{K:aG}{wi:TI}{caps:List Nat}{tc:TT}{te:TE}{σ:L2.St}{H:Hp}{Q:VK}(h:wi σ H λJ H1=>Zrd K J caps tc te σ H1 Q):Zle K wi caps tc te σ H Q:=h
def Zx9(K:aG)(te:TE):TE:=λσ H Q=>∃a u v r,σ=↑a::r/\fc K H a [u,v]/\te (some u::some v::r) H Q
theorem Zic{K:aG}{J:It}{caps:List Nat}{te:TE}{σ:L2.St}{H:Hp}{Q:VK}(h:LCg J caps FP (Zx9 K te) σ H Q):Zrd K J caps FP te σ H Q:=by
 obtain⟨W,w0,step⟩:=h;refine⟨W,w0,λi m ys H hw=>?_⟩;rcases step i m ys H hw with z | ⟨g,l,st⟩
 ·exact .inl z
 ·refine .inr ⟨g,l,λx H' y=>?_⟩;have h1:=st x H' y;simp only[FP,↓reduceIte]at h1;obtain⟨a,u,v,r,e,hs,q⟩:=h1;cases e;refine⟨a,u,v,rfl,hs,?_⟩;simp only[FP,↓reduceIte];exact q
theorem Zft{X:Cx}{elt iter:AN}{x y:Str}{px py pt pos:Pos}{kt:Nat}{ifs:AG}{scope:Scope}{cl:List (Str×AI)}{wi:TI}{tc:TT}{te:TE}{cns:AH}(caps:List Nat)
  (hi:PI X (.Tuple [.Name x px,.Name y py] kt pt) iter wi)
  (hf:∀C s H ex pn,PF (S6 X scope cl (x::y::cns) C s H ex pn) ifs tc) (he:∀C s H ex pn,PE (S6 X scope cl (x::y::cns) C s H ex pn) elt te) (hc:X.calm=true)
  (hclos:closureFor scope X.env=pure cl) (hcl:AllIn X.env.cells cl) (hcap:Es X cns caps)
  (hkind:scope.kind=.function) (hcell:(scope.names.all λp=>p.2 != .cell)=true) (hfree:(scope.names.all λp=>p.2 != .free || (cl.lookup p.1).isSome)=true)
  (hcf:(cns.all λy=>scope.names.lookup y == some .free)=true) (hnames:∀y∈scope.names,y.2=.local->scope.names.lookup y.1=some .local) (hx:scope.names.lookup x=some .local) (hy:scope.names.lookup y=some .local) (hnd:(x::y::cns).Nodup)
  (hs:∀v,foldedSetIterable iter X.env v=pure v:=by intro _;rfl):
  PE X (.ListComp elt [⟨.Tuple [.Name x px,.Name y py] kt pt,iter,ifs,0⟩] scope pos) (Zle X.K wi caps tc te):=by
 refine Zm8 (ns:=[x,y]) (gt:=Zgp X.K 2 (yt (aR 0) (yt (aR 1) Zgq))) caps (λJ σ H Q h=>?_) hi (λC s H ex pn=>Ls hc (jG (eO hnd rfl (.inl (lookup_relabel_local hx)) (.inr (lookup_relabel_local hx))) (jG (eO hnd rfl (.inl (lookup_relabel_local hy)) (.inr (lookup_relabel_local hy))) Ey))) hf he hc hclos hcl hcap hkind hcell hfree hcf hnames hs;obtain⟨W,w0,turn⟩:=h;refine⟨W,w0,λi m ys H hw=>(turn i m ys H hw).imp id λ⟨g,l,st⟩=>⟨g,l,λz H' y vs hv=>?_⟩⟩;obtain⟨ta,u1,u2,ez,hst,st⟩:=st z H' y
 match vs,hv with
 | [v,v'],_=>exact⟨[some u1,some u2],rfl,⟨ta,_,ez,hst,rfl,_,_,rfl,_,_,rfl,rfl,rfl,rfl⟩,st⟩
end G
namespace G
open PySem L2
def Ite(K:aG)(a:AI):It:=
 ⟨λi H=>∃xs x,bO K H a xs/\xs[i]? =some x,λi H x H'=>∃t v,x=.ref t/\H t=none/\H'=upd H t (.tup [.int i,v])/\∀xs,bO K H a xs->xs[i]? =some v,λi H=>∃xs,bO K H a xs/\xs.length<=i⟩
def R9(K:aG)(ta:TA):TI:=λσ H R=>ta σ H λvs H1=>∃a,vs=[.ref a]/\(∃xs,bO K H1 a xs)/\R (Ite K a) H1
theorem Zy5{K:aG}{ta:TA}{σ:L2.St}{H:Hp}{R:It->Hp->Prop}(h:ta σ H λvs H1=>∃a,vs=[.ref a]/\(∃xs,bO K H1 a xs)/\R (Ite K a) H1):R9 K ta σ H R:=h
def Mx(v d:AI):HO:=.ext λh=>h.IsItemsView v d
def Zej(td:TE):TE:=λσ H Q=>td σ H λx H1=>∃a kvs,x=.ref a/\Rd H1 a (.dK kvs)/\∀v,H1 v=none->Q (.ref v) (upd H1 v (Mx v a))
theorem Zql{td:TE}{σ:L2.St}{H:Hp}{Q:VK}(h:td σ H λx H1=>∃a kvs,x=.ref a/\Rd H1 a (.dK kvs)/\∀v,H1 v=none->Q (.ref v) (upd H1 v (Mx v a))):Zej td σ H Q:=h
def Ze7(H:Hp):AF->List (Key×V)->Prop
 | [],[]=>True
 | t::ts,kv::kvs=>H t=some (.tup [kV kv.1,kv.2])/\Ze7 H ts kvs
 | _,_=>False
def Zhc:List V->Hp->VK->Prop:=λxs H Q=>∃v a kvs,xs=[.ref v]/\H v=some (Mx v a)/\Rd H a (.dK kvs)/\∀l ts H',H l=none->aY H H'->H' l=some (.lst (ts.map V.ref))->Ze7 H' ts kvs->Q (.ref l) H'
theorem Zqk{H:Hp}{Q:VK}{v a:AI}{kvs:List (Key×V)}(h1:H v=some (Mx v a))(h2:Rd H a (.dK kvs))(h:∀l ts H',H l=none->aY H H'->H' l=some (.lst (ts.map V.ref))->Ze7 H' ts kvs->Q (.ref l) H'):Zhc [.ref v] H Q:=⟨v,a,kvs,rfl,h1,h2,h⟩
def Zqs(kvs:List (Key×V)):V->Option Bool
 | .int i=>some (rW kvs (.inl i)).isSome
 | .str x=>some (rW kvs (.inr x)).isSome
 | .non=>some false
 | _=>none
def Zlf(neg:Bool)(ty td:TE):TE:=λσ H Q=>ty σ H λy H1=>td σ H1 λx H2=>∃a kvs b,x=.ref a/\Rd H2 a (.dK kvs)/\Zqs kvs y=some b/\Q (.bl (if neg then !b else b)) H2
theorem Zu2{neg:Bool}{ty td:TE}{σ:L2.St}{H:Hp}{Q:VK}(h:ty σ H λy H1=>td σ H1 λx H2=>∃a kvs b,x=.ref a/\Rd H2 a (.dK kvs)/\Zqs kvs y=some b/\Q (.bl (if neg then !b else b)) H2):Zlf neg ty td σ H Q:=h
section
variable {K:aG}{a:AI}{g:TG}{tb:TS}{σ:L2.St}{H:Hp}{n:L2.St->Hp->Prop}{r:VK}
theorem Zqx(xs:List V)(Pv:Nat->L2.St->Hp->Prop)(h0:Pv 0 σ H)(hl:∀i σ H,i<=xs.length->Pv i σ H->bO K H a xs)
  (hs:∀i x t σ H,xs[i]? =some x->Pv i σ H->H t=none->g (.ref t) σ (upd H t (.tup [.int i,x])) λσ2 H2=>tb ⟨Pv (i+1),r,n,Pv (i+1)⟩ σ2 H2) (hd:∀ σ H,Pv xs.length σ H->n σ H):
  ∃W:Nat->Nat->L2.St->Hp->Prop,(∃m,W 0 m σ H)/\∀i m σ H,W i m σ H->
   ((Ite K a).stop i H/\n σ H)\/((Ite K a).go i H/\∃N:L2.St->Hp->Prop,(∀ σ' H',N σ' H'->∃m',m'<m/\W (i+1) m' σ' H')/\∀x H',(Ite K a).yld i H x H'->g x σ H' λσ2 H2=>tb ⟨N,r,n,N⟩ σ2 H2):=by
 refine⟨λi m σ H=>i<=xs.length/\m=xs.length - i/\Pv i σ H,⟨xs.length,Nat.zero_le _,rfl,h0⟩,?_⟩;rintro i m σ H ⟨hi,rfl,p⟩;have hq:=hl i σ H hi p
 by_cases hk:i=xs.length
 ·subst hk;exact .inl ⟨⟨xs,hq,Nat.le_refl _⟩,hd σ H p⟩
 ·have hlt:i<xs.length:=δ
  have hx:xs[i]? =some xs[i]:=bN hlt;refine .inr ⟨⟨xs,_,hq,hx⟩,Pv (i+1),λσ' H' p'=>⟨xs.length - (i+1),δ,δ,rfl,p'⟩,?_⟩;rintro x H' ⟨t,v,rfl,ht,rfl,hv⟩;exact hs i v t σ H (hv xs hq) p ht
theorem Zq9{caps:List Nat}{tc:TT}{te:TE}{Q:VK}{xs:List V}(hs:bO K H a xs)(hz:xs.length<=1000000)(W:Nat->List V->Hp->Prop)(h0:W 0 [] H)(hst:∀i ys H1,W i ys H1->aY H H1/\ys.length<=i)
  (step:∀i x ys H1 t (C:List V->Hp->Prop),(∀zs H3,W (i+1) zs H3->C zs H3)->xs[i]? =some x->W i ys H1->H1 t=none->tc (some (.int i)::some x::caps.map (pick σ)) (upd H1 t (.tup [.int i,x])) λk H2=>if k=true then te (some (.int i)::some x::caps.map (pick σ)) H2 (λy H3=>C (ys++[y]) H3)else C ys H2)
  (q:∀ys H1,W xs.length ys H1->∀p,H1 p=none->Q (.ref p) (upd H1 p (.lst ys))):Zrd K (Ite K a) caps tc te σ H Q:=by
 refine⟨λi m ys H1=>i<=xs.length/\m=xs.length - i/\W i ys H1,⟨xs.length,Nat.zero_le _,rfl,h0⟩,?_⟩;rintro i m ys H1 ⟨hi,rfl,w⟩;obtain⟨sm,hl⟩:=hst i ys H1 w;have hq:bO K H1 a xs:=sm.seq hs
 by_cases hk:i=xs.length
 ·subst hk;exact .inl ⟨⟨xs,hq,Nat.le_refl _⟩,q ys H1 w⟩
 ·have hlt:i<xs.length:=δ
  refine .inr ⟨⟨xs,_,hq,bN hlt⟩,Nat.lt_of_le_of_lt (show ys.length<=1000000 by omega) (show 1000000<sizeLine by decide),?_⟩;rintro x H' ⟨t,v,rfl,ht,rfl,hv⟩;exact⟨t,_,_,rfl,fc.of ao,step i v ys H1 t (λzs H3=>∃m',m'<xs.length - i/\i+1<=xs.length/\m'=xs.length - (i+1)/\W (i+1) zs H3) (λzs H3 w'=>⟨xs.length - (i+1),δ,δ,rfl,w'⟩) (hv xs hq) w ht⟩
end
end G
namespace G
open PySem L2 PySem.Spec PyProof.Rows
theorem Zk4{X:Cx}{pins:At}{σ:L2.St}{H:Hp}{s:AK}{h':Heap}{t':Nat}{e it:AI}(I:Inv X pins σ H s)(k:∀b u,b≠e->b≠it->s.heap.get? b=some u->h'.get? b=some u)(fe:vA X pins H e)(fi:vA X pins H it):
  Inv X pins σ H { s with heap:=h',toks:=t' }:=by
 have ne:∀b u,H b=some u->b≠e:=λb u q z=>by rw[z,fe.1]at q;cases q
 have ni:∀b u,H b=some u->b≠it:=λb u q z=>by rw[z,fi.1]at q;cases q
 have nm:∀b,b∉[e,it]->b≠e/\b≠it:=λb hb=>⟨λz=>hb (by simp[z]),λz=>hb (by simp[z])⟩;refine I.step (g':=s.gens) (d':=s.drawn) (ch:=[e,it]) (λb hb=>?_) (λb o _ _ hc q _=>k b o (nm b hc).1 (nm b hc).2 q) (λb o _ _ hc q _=>⟨o.slots,k b o (nm b hc).1 (nm b hc).2 q⟩) (λ_ _ _ _ n=>n)
  (λb o hc q=>⟨o,k b o (nm b hc).1 (nm b hc).2 q⟩) (λ_ _ q=>q) (λ_ _ _ q=>q) (λb ps q=>⟨#[],by rw[q];simp⟩) (λm hm=>?_) (λb u q=>?_) I.bare
 ·rcases List.mem_cons.mp hb with z | z
  ·rw[z];exact⟨fe.2.2.2.1,fe.2.1,fe.2.2.2.2.1,fe.2.2.2.2.2⟩
  ·have z':b=it:=by simpa using z
   rw[z'];exact⟨fi.2.2.2.1,fi.2.1,fi.2.2.2.2.1,fi.2.2.2.2.2⟩
 ·obtain⟨o,es,ep,ho,r⟩:=hm;exact⟨o,es,ep,k _ o (Ne.symm fe.2.1) (Ne.symm fi.2.1) ho,r⟩
 ·refine(I.hok b u q).stay (λc v hc z=>?_) (λ_ z=>z) λ_ _ z=>z;rcases hc with y | y
  ·rw[y]at z ⊢;exact k b v (ne b u q) (ni b u q) z
  ·exact k c v (ne c _ y) (ni c _ y) z
theorem R5{X:Cx}{pins:At}{σ:L2.St}{H:Hp}{s:AK}{h':Heap}{t':Nat}{e it a:AI}{o:HO}(I:Inv X pins σ H s)(k:∀b u,b≠e->b≠it->s.heap.get? b=some u->h'.get? b=some u)(fe:vA X pins H e)(fi:vA X pins H it)
  (ha:s.heap.objs.size<=a) (new:gj X.prog X.w (upd H a o) h' a o):Inv X pins σ (upd H a o) { s with heap:=h',toks:=t' }:=by
 have hn:=I.hok.fresh ha;have ne:∀b u,H b=some u->b≠e:=λb u q z=>by rw[z,fe.1]at q;cases q
 have ni:∀b u,H b=some u->b≠it:=λb u q z=>by rw[z,fi.1]at q;cases q
 have nm:∀b,b∉[e,it]->b≠e/\b≠it:=λb hb=>⟨λz=>hb (by simp[z]),λz=>hb (by simp[z])⟩;have na:∀b u,s.heap.get? b=some u->b≠a:=λb u q=>Nat.ne_of_lt (Nat.lt_of_lt_of_le (Heap.lt_size q) ha);refine I.step (g':=s.gens) (d':=s.drawn) (ch:=[e,it]) (λb hb=>?_) (λb o _ _ hc q _=>k b o (nm b hc).1 (nm b hc).2 q) (λb o _ _ hc q _=>⟨o.slots,k b o (nm b hc).1 (nm b hc).2 q⟩) (λb u _ q n=>(aB (na b u q)).trans n)
  (λb o hc q=>⟨o,k b o (nm b hc).1 (nm b hc).2 q⟩) (λb xs q=>(aB (aD q hn)).trans q) (λb o xs q=>(aB (aD q hn)).trans q) (λb ps q=>⟨#[],by rw[aB (aD q hn),q];simp⟩) (λm hm=>?_) (λb u q=>?_) I.bare
 ·rcases List.mem_cons.mp hb with z | z
  ·rw[z];exact⟨fe.2.2.2.1,fe.2.1,fe.2.2.2.2.1,fe.2.2.2.2.2⟩
  ·have z':b=it:=by simpa using z
   rw[z'];exact⟨fi.2.2.2.1,fi.2.1,fi.2.2.2.2.1,fi.2.2.2.2.2⟩
 ·obtain⟨o,es,ep,ho,r⟩:=hm;exact⟨o,es,ep,k _ o (Ne.symm fe.2.1) (Ne.symm fi.2.1) ho,r⟩
 ·by_cases hb:b=a
  ·subst hb;rw[ao]at q;cases q;exact new
  ·rw[aB hb]at q;refine(I.hok b u q).stay (λc v hc z=>?_) (λc z=>by rw[aB (aD z hn)];exact z) λc xs z=>by rw[aB (aD z hn)];exact z
   rcases hc with y | y
   ·rw[y]at z ⊢;exact k b v (ne b u q) (ni b u q) z
   ·exact k c v (ne c _ y) (ni c _ y) z
theorem Zj3{P:AM}{w:AO}{K:aG}{elts:AG}{x1:Nat}{pt:Pos}(a e it:AI)(hne:e≠it):
    Turn P w K (.Tuple elts x1 pt) (Ite K a) [e,it] e (λi h=>(∃old,IsEnum h e it ((i:Nat):Int) old)/\h.IsListIter it a i) where
  mem:=ζ
  obj:=λi h st b hb=>by
    obtain⟨⟨old,he⟩,o,ho,c,d⟩:=st;rcases List.mem_cons.mp hb with z | z
    · rw[z];exact⟨_,he,λv z=>by cases z⟩
    · have z':b=it:=by simpa using z
      rw[z'];exact⟨o,ho,λv z=>by rw[d]at z;cases z⟩
  keep:=λi h h' st k=>⟨let ⟨old,he⟩:=st.1;⟨old,k e ζ _ he⟩,st.2.at λo q=>k it ζ o q⟩
  item:=by
    intro X hP hw hK hc i pins s σ H E I hf st hg;subst hP hw hK;obtain⟨xs,x,hq,hx⟩:=hg;obtain⟨its,rv,p,hz⟩:=I.list hq;obtain⟨u,hu,ru⟩:=rv.get hx;obtain⟨⟨old,he⟩,hit⟩:=st;have fe:=hf e ζ;have fi:=hf it ζ;have hes:e<s.heap.objs.size:=Heap.lt_size he;have his:it<s.heap.objs.size:=by obtain⟨o,q,_⟩:=hit;exact Heap.lt_size q
    refine wpAny_pyNext_enum_item he hit p.isList (x:=u) (by simpa using hu) hne λh1 ho1 hit1 ht1 hz1 hk1=>?_;refine⟨_,rfl,wpAny_letOwnedTupleGo_enum (s:={ s with heap:=h1,toks:=s.toks+1 }) ho1 λh2 he2 hs2=>?_⟩
    replace hs2:Heap.SameBut e h1 h2:=hs2
    have hn:H s.heap.objs.size=none:=I.hok.fresh υ;have I2:Inv X pins σ (upd H s.heap.objs.size (.tup [.int ((i:Nat):Int),x])) { s with heap:=h2,toks:=s.toks+1 }:=by
      refine R5 I (λb v hb hb' q=>hs2.extBut b v hb (hk1 b v hb hb' q)) fe fi υ ?_;refine⟨by show 2<=sizeLine;decide,[.int ((i:Nat):Int) s.toks,u],.cons ⟨_,rfl⟩ (.cons ru .nil),⟨_,hs2.extBut _ _ (Nat.ne_of_gt hes) ht1,rfl,_,rfl⟩⟩
    refine⟨.ref s.heap.objs.size,_,I2,rfl,⟨_,x,rfl,hn,rfl,λys hy=>by rw[I.Zcr hy hq];exact hx⟩,⟨⟨u,?_⟩,hit1.extBut hs2.extBut (Ne.symm hne)⟩,λb hb=>?_⟩
    · have e1:(((i+1:Nat)):Int)=(i:Int)+1:=δ
      show IsEnum h2 e it (((i+1:Nat)):Int) u;rw[e1];exact he2
    · rcases List.mem_cons.mp hb with z | z
      · rw[z,aB (Nat.ne_of_lt hes)];exact fe.1
      · have z':b=it:=by simpa using z
        rw[z',aB (Nat.ne_of_lt his)];exact fi.1
  done:=by
    intro X hP hw hK hc i pins s σ H E I hf st hg;subst hP hw hK;obtain⟨xs,hq,hx⟩:=hg;obtain⟨its,rv,p,hz⟩:=I.list hq;obtain⟨⟨old,he⟩,hit⟩:=st;have hl:=rv.length;exact wpAny_pyNext_enum_end (I.ok.hd hc) he hit p.isList (by simp;omega) λh' hx'=>⟨rfl,Zk4 (t':=s.toks) I (λb o _ hb' q=>hx' b o hb' q) (hf e ζ) (hf it ζ)⟩
  self:=λA i s Q E st h=>let ⟨_,he⟩:=st.1;wpAny_pyIter_enum he h
theorem Jh{X:Cx}{elts:AG}{x1:Nat}{pt:Pos}{l:AN}{ta:TA}{p pos:Pos}(hg:Gl X "enumerate")(hm:X.mg "enumerate"=none)(ha:PA X [l] ta)(hs:starEach [l] X.env=[(false,eval l X.env)]:=by rfl):
  PI X (.Tuple elts x1 pt) (.Call (.Name "enumerate" p) [l] [] pos) (R9 X.K ta):=by
 intro pins s σ H R I h;refine Call_ (Mr I hg hm boot_enumerate (PyProof.Rows.callWith_type1 (gB (ha pos pins s σ H _ I h) λus s1 qc=>?_) hs rfl));obtain⟨vs,H1,I1,r1,q1⟩:=qc;obtain⟨a,e,⟨xs,hq⟩,q⟩:=q1;subst e;cases r1 with
 | cons r rr=>
  cases rr;obtain rfl:_=Value.ref a:=r;obtain⟨its,rv,pl,hz⟩:=I1.list hq;refine call_enumerate_list pl.isList λh' he hit hsz hk=>?_;have I2:Inv X pins σ H1 { s1 with heap:=h' }:=I1.kept (t':=s1.toks) hk
  refine wpAny_pyIter_enum (s:={ s1 with heap:=h' }) he ?_;have hf:∀b,s1.heap.objs.size<=b->vA X pins H1 b:=λb hb=>I1.Zgs hb (I1.hok.fresh hb);refine⟨_,[s1.heap.objs.size+1,s1.heap.objs.size],_,_,H1,rfl,I2,Zj3 a _ _ (Nat.succ_ne_self _),⟨⟨_,he⟩,hit⟩,λb hb=>?_,q⟩;rcases List.mem_cons.mp hb with z | z
  ·rw[z];exact hf _ (Nat.le_succ _)
  ·have z':b=s1.heap.objs.size:=by simpa using z
   rw[z'];exact hf _ υ
theorem Zk5{X:Cx}{pins:At}{σ:L2.St}{H:Hp}{s:AK}{a:AI}{o:HO}(I:Inv X pins σ H s)(f:vA X pins H a)(new:gj X.prog X.w (upd H a o) s.heap a o):Inv X pins σ (upd H a o) s:=by
 have hn:=f.1;have r:Inv X pins σ (upd H a o) { s with heap:=s.heap,gens:=s.gens,drawn:=s.drawn,toks:=s.toks }:=by
  refine I.step (g':=s.gens) (t':=s.toks) (d':=s.drawn) (ch:=[a]) (λb hb=>?_) (λb u _ _ _ q _=>q) (λb u _ _ _ q _=>⟨u.slots,q⟩) (λb u hc q n=>(aB (λz=>hc (by simp[z]))).trans n) (λb u _ q=>⟨u,q⟩)
   (λb xs q=>(aB (aD q hn)).trans q) (λb u xs q=>(aB (aD q hn)).trans q) (λb ps q=>⟨#[],by rw[aB (aD q hn),q];simp⟩) (λm hm=>hm) (λb u q=>?_) I.bare
  ·have z:b=a:=by simpa using hb
   rw[z];exact⟨f.2.2.2.1,f.2.1,f.2.2.2.2.1,f.2.2.2.2.2⟩
  ·by_cases hb:b=a
   ·subst hb;rw[ao]at q;cases q;exact new
   ·rw[aB hb]at q;exact(I.hok b u q).stay (λc v _ z=>z) (λc z=>by rw[aB (aD z hn)];exact z) λc xs z=>by rw[aB (aD z hn)];exact z
 exact r
theorem Zgr{X:Cx}{pins:At}{H:Hp}{a b:AI}{o:HO}(f:vA X pins H b)(h:b≠a):vA X pins (upd H a o) b:=⟨(aB h).trans f.1,f.2⟩
theorem Zvj{P:AM}{w:AO}{k:Key}{u:AJ}(h:(dH P w).is k u=true):RelV (kV k) u:=by
 rcases dI h with ⟨i,t,rfl,rfl⟩ | ⟨x,t,rfl,rfl⟩
 ·exact⟨t,rfl⟩
 ·exact⟨t,rfl⟩
theorem Zm9{X:Cx}{o:AN}{td:TE}{apos cpos:Pos}(ho:PE X o td)(hbase:attributeBase o "items" X.env (eval o X.env)=eval o X.env:=by rfl)(hline:(apos.endLine == cpos.line)=true:=by rfl):
  PE X (.Call (.Attribute o "items" apos) [] [] cpos) (Zej td):=by
 intro pins s σ H Q I h;refine wpAny_Call_method0_late hbase hline (gB (ho pins s σ H _ I h) λu s1 qc=>?_);obtain⟨x,H1,I1,rx,a,kvs,ex,rd,q⟩:=qc;subst ex;obtain rfl:u=Value.ref a:=rx;obtain⟨t1,t2,hd⟩:=Znk I1 (.inl ⟨kvs,rd⟩);obtain⟨z,_,vs,rel,dd⟩:=J4 I1.hok rd;refine⟨"dict","dict.items",PySem.F.plainAttrs_dict,PySem.F.slot_dict_items,PySem.F.type_dict_items,t1,t2,Calls.callWith_builtin rfl (PySem.evalArgs_none ?_)⟩;refine call_meetsIn PySem.F.slot_dict_items t1 PySem.F.entry_dict_items (PySem.F.args_dict_items_1 _) (meets_dict_items (dH X.prog X.w) a hd) ⟨⟨vs,dd⟩,?_⟩;have hn:=I1.hok.fresh υ;refine⟨.ref s1.heap.objs.size,_,I1.laid (t':=s1.toks) (λb u e=>Heap.get?_push_of_some _ e) υ ?_,rfl,q _ hn⟩;exact⟨⟨_,Heap.get?_push_size _ rfl,rfl,rfl⟩,⟨_,Heap.get?_push_size _ rfl⟩,(by rintro h1 h2 ⟨o,ho,r⟩ k;exact⟨o,k o ho,r⟩)⟩
theorem Nm{X:Cx}{pins:At}{σ:L2.St}{s:AK}:∀(as:AF) (kvs:List (Key×V)) (vs:List (Key×AJ)) (H:Hp),Inv X pins σ H s->as.Nodup->(∀a∈as,vA X pins H a)->as.length=kvs.length->KV kvs vs->
  (∀(j:Nat) (a:AI),as[j]? =some a->∃key k x,vs[j]? =some (k,x)/\(dH X.prog X.w).is k key=true/\s.heap.get? a=some { cls:=.type "tuple",data:=.seq #[key,x] })->
  ∃H',Inv X pins σ H' s/\aY H H'/\Ze7 H' as kvs
 | [],[],_,H,I,_,_,_,_,_=>⟨H,I,λ_ _ h=>h,trivial⟩
 | [],_::_,_,_,_,_,_,hl,_,_=>by simp at hl
 | _::_,[],_,_,_,_,_,hl,_,_=>by simp at hl
 | a::as,kv::kvs,vs,H,I,nd,fp,hl,r,pr=>by
  cases r with
  | cons rv rs=>
   rename_i q ws
   obtain⟨key,k,x,e,hk,hg⟩:=pr 0 a rfl;have e':q=(k,x):=by simpa using e
   subst e';obtain⟨rk,rx⟩:=rv;have fa:=fp a ζ;have na:a∉as:=(List.nodup_cons.mp nd).1;have rk':kv.1=k:=rk;have I1:Inv X pins σ (L2.upd H a (.tup [kV kv.1,kv.2])) s:=Zk5 I fa ⟨by show 2<=sizeLine;decide,[key,x],.cons (by rw[rk'];exact Zvj hk) (.cons rx .nil),⟨_,hg,rfl,_,rfl⟩⟩;obtain⟨H',I',sm,ps⟩:=Nm as kvs ws _ I1 (List.nodup_cons.mp nd).2 (λb hb=>Zgr (fp b (by simp[hb])) λz=>na (z ▸ hb)) (by simpa using hl) rs (λj b hb=>by simpa using pr (j+1) b (by simpa using hb));refine⟨H',I',λb o hb=>sm b o ?_,sm _ _ ao,ps⟩;rw[aB (aD hb fa.1)];exact hb
theorem Wv:∀as:AF,Vals (as.map V.ref) (as.map Value.ref)
 | []=>.nil
 | _::as=>.cons rfl (Wv as)
theorem Zhb{X:Cx}(hc:X.calm=true):Ks X (.type "list") Zhc:=by
 intro pins s σ H xs us Q I r h;obtain⟨v,a,kvs,rfl,hv,rd,q⟩:=h;obtain⟨u,rfl,ru⟩:=Vals.one r;obtain rfl:u=Value.ref v:=ru;have hvw:s.heap.IsItemsView v a:=(show gj X.prog X.w H s.heap v (Mx v a)from I.hok v _ hv).1;obtain⟨z,hd,vs,rel,dd⟩:=J4 I.hok rd;obtain⟨ep,hm⟩:=dd.dictAt;have hl:=rel.length;refine W.kdx_call (I.ok.hd hc) hvw hm (by rw[<- hl];exact z) λh' tk acc c as hk hS hal hG hacc=>?_;have hn:=I.hok.fresh (Nat.le_refl s.heap.objs.size);have I1:Inv X pins σ (upd H s.heap.objs.size (.lst (as.map V.ref))) { s with heap:=h',toks:=tk }:=by
  refine I.laid hk υ ⟨by rw[bx,hal,<- hl];exact z,acc.toList,c,by rw[hacc];exact Wv as,by rw[Array.toArray_toList];exact hS⟩
 have nd:as.Nodup:=hG.rise.imp λh=>Nat.ne_of_lt h;obtain⟨H',I',sm,ps⟩:=Nm as kvs vs _ I1 nd (λb hb=>Zgr (I.Zgs (Nat.le_of_lt (hG.above b hb)) (I.hok.fresh (Nat.le_of_lt (hG.above b hb)))) (Nat.ne_of_gt (hG.above b hb))) (by rw[hal,hl]) rel (λj b hb=>hG.pairs j b hb);refine⟨.ref s.heap.objs.size,H',I',rfl,q _ as H' hn (λb o hb=>sm b o ?_) (sm _ _ ao) ps⟩;rw[aB (aD hb hn)];exact hb
theorem Zo5{X:Cx}{pins:At}{σ:L2.St}{H:Hp}{s:AK}{a:AI}{o:Obj}{kvs:List (Key×V)}(I:Inv X pins σ H s)(h:H a=some (.dK kvs))(ho:s.heap.get? a=some o):Inv X pins σ (upd H a (.yL o (.dK kvs))) s:=by
 have ne:∀b u,H b=some u->u≠.dK kvs->b≠a:=λb u q n z=>n (by rw[z,h]at q;exact(Option.some.inj q).symm);have r:Inv X pins σ (upd H a (.yL o (.dK kvs))) { s with heap:=s.heap,gens:=s.gens,drawn:=s.drawn,toks:=s.toks }:=by
  refine I.step (g':=s.gens) (t':=s.toks) (d':=s.drawn) (ch:=[]) (λb hb=>nomatch hb) (λb u _ _ _ q _=>q) (λb u _ _ _ q _=>⟨u.slots,q⟩) (λb u hc q n=>(aB (λz=>by rw[z,h]at n;cases n)).trans n) (λb u _ q=>⟨u,q⟩)
   (λb xs q=>(aB (ne b _ q (λz=>by cases z))).trans q) (λb u xs q=>(aB (ne b _ q (λz=>by cases z))).trans q) (λb ps q=>⟨#[],by rw[aB (ne b _ q (λz=>by cases z)),q];simp⟩) (λm hm=>hm) (λb u q=>?_) I.bare
  have hs:∀c u,H c=some u->u≠.dK kvs->upd H a (.yL o (.dK kvs)) c=some u:=λc u z n=>by rw[aB (ne c u z n)];exact z
  by_cases hb:b=a
  ·subst hb;rw[ao]at q;cases q;exact⟨ho,(I.hok b _ h).stay (λc v _ z=>z) (λc z=>hs c _ z (λy=>by cases y)) λc xs z=>hs c _ z (λy=>by cases y)⟩
  ·rw[aB hb]at q;exact(I.hok b u q).stay (λc v _ z=>z) (λc z=>hs c _ z (λy=>by cases y)) λc xs z=>hs c _ z (λy=>by cases y)
 exact r
def Zti:Option Key->AJ->Bool
 | none,.none=>true
 | none,_=>false
 | some k,v=>JK k v
theorem jA{k:Option Key}{v:AJ}(h:Zti k v=true):(k=none/\v=.none)\/∃j,k=some j/\JK j v=true:=by
 cases k with
 | none=>cases v<;>first | exact .inl ⟨rfl,rfl⟩ | cases h
 | some j=>exact .inr ⟨j,rfl,h⟩
theorem RK{j:Key}(h:JK j Value.none=true):False:=by
 rcases dI h with ⟨i,t,_,e⟩ | ⟨x,t,_,e⟩<;>cases e
def Zt7(P:AM)(w:AO):PySem.KeyKind P w (Option Key) where
  is:=Zti
  hash:=λk=>match k with | none=>reduceHash 0xFCA86420 | some k=>Zvi w k
  inj:=λv a b ha hb=>by
    rcases jA ha with ⟨rfl,rfl⟩ | ⟨i,rfl,h1⟩
    · rcases jA hb with ⟨rfl,_⟩ | ⟨j,rfl,h2⟩
      · rfl
      · exact(RK h2).elim
    · rcases jA hb with ⟨rfl,rfl⟩ | ⟨j,rfl,h2⟩
      · exact(RK h1).elim
      · rw[(dH P w).inj v i j h1 h2]
  byValue:=λk v h=>by
    rcases jA h with ⟨rfl,rfl⟩ | ⟨i,rfl,h1⟩
    · rfl
    · exact(dH P w).byValue i v h1
  pyHash:=λ{A E s k v Q} hv h=>by
    rcases jA hv with ⟨rfl,rfl⟩ | ⟨i,rfl,h1⟩
    · exact W.pyHash_slot (T:="NoneType") rfl F.slot_NoneType_hash F.entry_NoneType_hash (F.args_NoneType_hash_1 _) (beq_builtin_none _) (.inl rfl) (wpAny_bind (wpAny_pure (wpAny_bind (wpAny_mkInt (wpAny_pure ⟨_,_,rfl,h⟩)))))
    · exact(dH P w).pyHash h1 h
  eqBool:=λ{A E s a b u v Q} hu hv h=>by
    rcases jA hu with ⟨rfl,rfl⟩ | ⟨i,rfl,h1⟩
    · rcases jA hv with ⟨rfl,rfl⟩ | ⟨j,rfl,h2⟩
      · exact Am (A:=A) (s:=s) (y:=.non) (x:=.non) rfl rfl rfl rfl P w E Q h
      · rcases dI h2 with ⟨n,t,rfl,rfl⟩ | ⟨x,t,rfl,rfl⟩
        · exact Am (A:=A) (s:=s) (y:=.non) (x:=.int n) rfl ⟨t,rfl⟩ rfl rfl P w E Q h
        · exact Am (A:=A) (s:=s) (y:=.non) (x:=.str x) rfl ⟨t,rfl⟩ rfl rfl P w E Q h
    · rcases jA hv with ⟨rfl,rfl⟩ | ⟨j,rfl,h2⟩
      · rcases dI h1 with ⟨n,t,rfl,rfl⟩ | ⟨x,t,rfl,rfl⟩
        · exact Am (A:=A) (s:=s) (y:=.int n) (x:=.non) ⟨t,rfl⟩ rfl rfl rfl P w E Q h
        · exact Am (A:=A) (s:=s) (y:=.str x) (x:=.non) ⟨t,rfl⟩ rfl rfl rfl P w E Q h
      · refine(dH P w).eqBool h1 h2 ?_
        have e:decide (i=j)=decide (some i=some j):=by
          by_cases z:i=j
          · subst z;simp
          · rw[decide_eq_false z,decide_eq_false (λy=>z (Option.some.inj y))]
        rw[e];exact h
  «strs»:=λk x t v h=>by
    rcases jA h with ⟨_,e⟩ | ⟨i,rfl,h1⟩
    · cases e
    · exact(dH P w).strs i x t v h1
theorem Zmo{P:AM}{w:AO}{h:Heap}{a:AI}{vs:List (Key×AJ)}(dd:h.DictOf (dH P w) a vs):∃f,h.MapOf (Zt7 P w) a f/\f none=none:=by
 obtain⟨o,es,ep,ho,hc,hd,hk,hp,hn⟩:=dd;refine⟨λk=>findBy (Zt7 P w).is es k,⟨o,es,ep,ho,hc,hd,λe he=>?_,λ_=>rfl⟩,?_⟩
 ·obtain⟨k,h1,h2⟩:=hk e he;exact⟨some k,h1,h2⟩
 ·show Option.map (λx=>x.val) (Array.find? (λe=>Zti none e.key) es)=none;rw[Option.map_eq_none_iff,Array.find?_eq_none];intro e he;obtain⟨k,h1,_⟩:=hk e he;rcases dI h1 with ⟨n,t,_,z⟩ | ⟨x,t,_,z⟩<;>rw[z]<;>exact λy=>nomatch y
section
variable {X:Cx}{i o:AN}{ty td:TE}
theorem Zgm{kvs:List (Key×V)}{y:V}{b:Bool}(h:Zqs kvs y=some b):(∃k,y=kV k/\b=(rW kvs k).isSome)\/(y=.non/\b=false):=by
 cases y<;>simp only[Zqs,Option.some.injEq]at h<;>first | cases h
 ·exact .inr ⟨rfl,rfl⟩
 ·exact .inl ⟨.inl _,rfl,rfl⟩
 ·exact .inl ⟨.inr _,rfl,rfl⟩
theorem Zfu(hu:X.A.units+1<cLine)(hi:PE X i ty)(ho:PE X o td):PC X .NotIn i o (Zlf true ty td):=by
 intro pins s σ H Q I h;refine gB (hi pins s σ H _ I h) λiv s1 qc=>?_;obtain⟨y,H1,I1,ry,h1⟩:=qc;refine gB (ho pins s1 σ H1 _ I1 h1) λov s2 qc=>?_;obtain⟨x,H2,I2,rx,a,kvs,b,ex,rd,hb,q⟩:=qc;subst ex;obtain rfl:ov=Value.ref a:=rx;rcases Zgm hb with ⟨k,rfl,rfl⟩ | ⟨rfl,rfl⟩
 ·exact Ziv hu I2 (.inl ⟨kvs,k,rd,rfl,rfl⟩) ry λs' I'=>⟨.bl _,H2,I',rfl,q⟩
 ·obtain rfl:iv=Value.none:=ry;obtain⟨z,hd,vs,rel,dd⟩:=J4 I2.hok rd;obtain⟨f,hm,hf⟩:=Zmo dd;refine wpAny_notIn_of (knd:=Zt7 X.prog X.w) (k:=none) rfl hd hm ?_;rw[hf];exact⟨.bl _,H2,I2.tok _,rfl,q⟩
end
section
variable {X:Cx}
end
def Zla(M1 M2 M3 M4:AJ->Prop)(tb:(L2.St->XK)->TS)(t1 t2 t3 t4:TS):TS:=λD σ H=>tb (λσ' cls _ H'=>(M1 cls/\t1 D σ' H')\/(M2 cls/\t2 D σ' H')\/(M3 cls/\t3 D σ' H')\/(M4 cls/\t4 D σ' H')) D σ H
theorem Znm{M1 M2 M3 M4:AJ->Prop}{tb:(L2.St->XK)->TS}{t1 t2 t3 t4:TS}{σ:L2.St}{H:Hp}{n:L2.St->Hp->Prop}{r:VK}{b c:L2.St->Hp->Prop}(h:tb (λσ' cls _ H'=>(M1 cls/\t1 ⟨n,r,b,c⟩ σ' H')\/(M2 cls/\t2 ⟨n,r,b,c⟩ σ' H')\/(M3 cls/\t3 ⟨n,r,b,c⟩ σ' H')\/(M4 cls/\t4 ⟨n,r,b,c⟩ σ' H')) ⟨n,r,b,c⟩ σ H):Zla M1 M2 M3 M4 tb t1 t2 t3 t4 ⟨n,r,b,c⟩ σ H:=h
section
variable {X:Cx}{x1 x2 x3 x4:Str}{C1 C2 C3 C4:AI}{pos np1 np2 np3 np4 hp1 hp2 hp3 hp4:Pos}{body su1 su2 su3 su4:List Stmt}{b1 b2 b3 b4:Stmt}{M1 M2 M3 M4:AJ->Prop}{tb:(L2.St->XK)->TS}{t1 t2 t3 t4:TS}
theorem Zpm(hst:X.stack=X.env::X.outer/\X.env.frame=some X.env.locals)(hg1:Gl X x1)(hm1:X.mg x1=↑C1)(hg2:Gl X x2)(hm2:X.mg x2=↑C2)(hg3:Gl X x3)(hm3:X.mg x3=↑C3)(hg4:Gl X x4)(hm4:X.mg x4=↑C4)(hM1:∀c,M1 c->W.exmOne X.K c (.ref C1)=some true)(hM2:∀c,M2 c->W.exmOne X.K c (.ref C1)=some false/\W.exmOne X.K c (.ref C2)=some true)(hM3:∀c,M3 c->W.exmOne X.K c (.ref C1)=some false/\W.exmOne X.K c (.ref C2)=some false/\W.exmOne X.K c (.ref C3)=some true)(hM4:∀c,M4 c->W.exmOne X.K c (.ref C1)=some false/\W.exmOne X.K c (.ref C2)=some false/\W.exmOne X.K c (.ref C3)=some false/\W.exmOne X.K c (.ref C4)=some true)
  (hb:∀(E:L2.St->XK) (pn:At) (xe:Ap),XD (FJ X.prog X.w) (cxB X pn xe) E->Px (cxB X pn xe) body (tb E))
  (hs1:∀(ea:AJ) (pn:At),Px (M5 X ea pn) (b1::su1) t1) (hs2:∀(ea:AJ) (pn:At),Px (M5 X ea pn) (b2::su2) t2) (hs3:∀(ea:AJ) (pn:At),Px (M5 X ea pn) (b3::su3) t3) (hs4:∀(ea:AJ) (pn:At),Px (M5 X ea pn) (b4::su4) t4) (hd1:(x1 == ("__debug__":Str))=false:=by decide) (hd2:(x2 == ("__debug__":Str))=false:=by decide) (hd3:(x3 == ("__debug__":Str))=false:=by decide) (hd4:(x4 == ("__debug__":Str))=false:=by decide):
  PS X (.Try body [.ExceptHandler (some (.Name x1 np1)) none (b1::su1) hp1,.ExceptHandler (some (.Name x2 np2)) none (b2::su2) hp2,.ExceptHandler (some (.Name x3 np3)) none (b3::su3) hp3,.ExceptHandler (some (.Name x4 np4)) none (b4::su4) hp4] [] [] pos) (Zla M1 M2 M3 M4 tb t1 t2 t3 t4):=by
 intro pins s σ H D I h;refine wpAny_Try_except ?_;have hx:XD (FJ X.prog X.w) (cxB X (X.pn++pins) λe s'=>∃ σ H s,Inv X pins σ H s/\FJ X.prog X.w X.stack H s (λcls _ H'=>(M1 cls/\t1 D σ H')\/(M2 cls/\t2 D σ H')\/(M3 cls/\t3 D σ H')\/(M4 cls/\t4 D σ H')) e s') (λσ' cls _ H'=>(M1 cls/\t1 D σ' H')\/(M2 cls/\t2 D σ' H')\/(M3 cls/\t3 D σ' H')\/(M4 cls/\t4 D σ' H')):=
  λpl σ H s e s' J z=>⟨σ,H,s,Ly I.ok J,z⟩
 refine wpAny_mono (hb _ _ _ hx [] s σ H D (Zl8 I _) h) (λf s1 q=>?_) λe s1 q=>?_
 ·have q:=Zln I.ok q;cases f with
  | next=>exact wpAny_execs_nil q
  | ret v=>exact q
  | brk=>exact q
  | cont=>exact q
 ·obtain⟨σ1,H1,s0,J,ea,cls,a0,B,H2,rfl,os,bare,un,ok,fl,hB,hM⟩:=q;have fl0:=fl;rw[hst.1]at fl0;refine wpAny_looks_onW (hst.1 ▸ J.ok.frames) hst.2 fl0 λh4 Znw sm4=>?_;refine wpAny_landsW Znw λh5 fl5 sm5=>?_;have Zbk:s1.heap.UpToSlots h5:=sm4.trans sm5;have J5:=flown J os bare un ok fl hB fl5.1 Zbk;obtain⟨ob,hob,hoc⟩:=id fl5.there;have LT:W.Looks ς h5 (typeOf (.ref ea)) cls:=hoc ▸ (W.Looks.ld hob).andThen .now;rcases hM with ⟨hM,hth⟩ | ⟨hM,hth⟩ | ⟨hM,hth⟩ | ⟨hM,hth⟩
  ·have m1:=hM1 cls hM;refine wpAny_handleBy_cons (codeAny_handlers_test (fL (X:=M5 X (.ref ea) (X.pn++pins)) (jU J5 (.ref ea)) hg1 hm1 ?_ hd1)) (by intro z;cases z);refine(W.exm_one J5.um LT m1).here ?_;refine codeAny_handlers_suite ?_;refine lands_againW fl5 λh6 fl6 sm6=>?_;have J6:=flown J os bare un ok fl hB fl6.1 (Zbk.trans sm6);refine wpAny_mono (hs1 (.ref ea) (X.pn++pins) [] _ σ1 H2 D (jU J6 (.ref ea)) hth) (λf s2 q=>Qs I.ok q) λ_ _ z=>z.elim
  ·obtain⟨m1,m2⟩:=hM2 cls hM;refine wpAny_handleBy_cons (codeAny_handlers_test (fL (X:=M5 X (.ref ea) (X.pn++pins)) (jU J5 (.ref ea)) hg1 hm1 ?_ hd1)) (by intro z;cases z);refine(W.exm_one J5.um LT m1).here ?_;refine wpAny_handleBy_cons (codeAny_handlers_test (fL (X:=M5 X (.ref ea) (X.pn++pins)) (jU J5 (.ref ea)) hg2 hm2 ?_ hd2)) (by intro z;cases z);refine(W.exm_one J5.um LT m2).here ?_;refine codeAny_handlers_suite ?_;refine lands_againW fl5 λh6 fl6 sm6=>?_;have J6:=flown J os bare un ok fl hB fl6.1 (Zbk.trans sm6);refine wpAny_mono (hs2 (.ref ea) (X.pn++pins) [] _ σ1 H2 D (jU J6 (.ref ea)) hth) (λf s2 q=>Qs I.ok q) λ_ _ z=>z.elim
  ·obtain⟨m1,m2,m3⟩:=hM3 cls hM;refine wpAny_handleBy_cons (codeAny_handlers_test (fL (X:=M5 X (.ref ea) (X.pn++pins)) (jU J5 (.ref ea)) hg1 hm1 ?_ hd1)) (by intro z;cases z);refine(W.exm_one J5.um LT m1).here ?_;refine wpAny_handleBy_cons (codeAny_handlers_test (fL (X:=M5 X (.ref ea) (X.pn++pins)) (jU J5 (.ref ea)) hg2 hm2 ?_ hd2)) (by intro z;cases z);refine(W.exm_one J5.um LT m2).here ?_;refine wpAny_handleBy_cons (codeAny_handlers_test (fL (X:=M5 X (.ref ea) (X.pn++pins)) (jU J5 (.ref ea)) hg3 hm3 ?_ hd3)) (by intro z;cases z);refine(W.exm_one J5.um LT m3).here ?_;refine codeAny_handlers_suite ?_;refine lands_againW fl5 λh6 fl6 sm6=>?_;have J6:=flown J os bare un ok fl hB fl6.1 (Zbk.trans sm6);refine wpAny_mono (hs3 (.ref ea) (X.pn++pins) [] _ σ1 H2 D (jU J6 (.ref ea)) hth) (λf s2 q=>Qs I.ok q) λ_ _ z=>z.elim
  ·obtain⟨m1,m2,m3,m4⟩:=hM4 cls hM;refine wpAny_handleBy_cons (codeAny_handlers_test (fL (X:=M5 X (.ref ea) (X.pn++pins)) (jU J5 (.ref ea)) hg1 hm1 ?_ hd1)) (by intro z;cases z);refine(W.exm_one J5.um LT m1).here ?_;refine wpAny_handleBy_cons (codeAny_handlers_test (fL (X:=M5 X (.ref ea) (X.pn++pins)) (jU J5 (.ref ea)) hg2 hm2 ?_ hd2)) (by intro z;cases z);refine(W.exm_one J5.um LT m2).here ?_;refine wpAny_handleBy_cons (codeAny_handlers_test (fL (X:=M5 X (.ref ea) (X.pn++pins)) (jU J5 (.ref ea)) hg3 hm3 ?_ hd3)) (by intro z;cases z);refine(W.exm_one J5.um LT m3).here ?_;refine wpAny_handleBy_cons (codeAny_handlers_test (fL (X:=M5 X (.ref ea) (X.pn++pins)) (jU J5 (.ref ea)) hg4 hm4 ?_ hd4)) (by intro z;cases z);refine(W.exm_one J5.um LT m4).here ?_;refine codeAny_handlers_suite ?_;refine lands_againW fl5 λh6 fl6 sm6=>?_;have J6:=flown J os bare un ok fl hB fl6.1 (Zbk.trans sm6);refine wpAny_mono (hs4 (.ref ea) (X.pn++pins) [] _ σ1 H2 D (jU J6 (.ref ea)) hth) (λf s2 q=>Qs I.ok q) λ_ _ z=>z.elim
end
end G
namespace G
open PySem L2
end G
namespace G
open PySem L2 PySem.Spec PyProof.Rows
def Nk(v d:AI):HO:=.ext λh=>h.IsValuesView v d
def Zl9(td:TE):TE:=λσ H Q=>td σ H λx H1=>∃a kvs,x=.ref a/\Rd H1 a (.dK kvs)/\∀v,H1 v=none->Q (.ref v) (upd H1 v (Nk v a))
theorem Ztl{td:TE}{σ:L2.St}{H:Hp}{Q:VK}(h:td σ H λx H1=>∃a kvs,x=.ref a/\Rd H1 a (.dK kvs)/\∀v,H1 v=none->Q (.ref v) (upd H1 v (Nk v a))):Zl9 td σ H Q:=h
theorem Zjo{X:Cx}{o:AN}{td:TE}{apos cpos:Pos}(ho:PE X o td)(hbase:attributeBase o "values" X.env (eval o X.env)=eval o X.env:=by rfl)(hline:(apos.endLine == cpos.line)=true:=by rfl):
  PE X (.Call (.Attribute o "values" apos) [] [] cpos) (Zl9 td):=by
 intro pins s σ H Q I h;refine wpAny_Call_method0_late hbase hline (gB (ho pins s σ H _ I h) λu s1 qc=>?_);obtain⟨x,H1,I1,rx,a,kvs,ex,rd,q⟩:=qc;subst ex;obtain rfl:u=Value.ref a:=rx;obtain⟨t1,t2,hd⟩:=Znk I1 (.inl ⟨kvs,rd⟩);obtain⟨z,_,vs,rel,dd⟩:=J4 I1.hok rd;refine⟨"dict","dict.values",PySem.F.plainAttrs_dict,PySem.F.slot_dict_values,PySem.F.type_dict_values,t1,t2,Calls.callWith_builtin rfl (PySem.evalArgs_none ?_)⟩;refine call_meetsIn PySem.F.slot_dict_values t1 PySem.F.entry_dict_values (PySem.F.args_dict_values_1 _) (meets_dict_values (dH X.prog X.w) a hd) ⟨⟨vs,dd⟩,?_⟩;have hn:=I1.hok.fresh υ;refine⟨.ref s1.heap.objs.size,_,I1.laid (t':=s1.toks) (λb u e=>Heap.get?_push_of_some _ e) υ ?_,rfl,q _ hn⟩;exact⟨⟨_,Heap.get?_push_size _ rfl,rfl,rfl⟩,⟨_,Heap.get?_push_size _ rfl⟩,(by rintro h1 h2 ⟨o,ho,r⟩ k;exact⟨o,k o ho,r⟩)⟩
def Itv(a:AI)(o:Obj)(kvs:List (Key×V)):It:=
 ⟨λi H=>H a=some (.yL o (.dK kvs))/\i<kvs.length,λi H x H'=>H'=H/\∃kv,kvs[i]? =some kv/\x=kv.2,λi H=>H a=some (.yL o (.dK kvs))/\kvs.length<=i⟩
def Znr(te:TE):TI:=λσ H R=>te σ H λx H1=>∃v a kvs,x=.ref v/\H1 v=some (Nk v a)/\H1 a=some (.dK kvs)/\∀o,R (Itv a o kvs) (upd H1 a (.yL o (.dK kvs)))
theorem Zy2{te:TE}{σ:L2.St}{H:Hp}{R:It->Hp->Prop}(h:te σ H λx H1=>∃v a kvs,x=.ref v/\H1 v=some (Nk v a)/\H1 a=some (.dK kvs)/\∀o,R (Itv a o kvs) (upd H1 a (.yL o (.dK kvs)))):Znr te σ H R:=h
theorem Ww{α β:Type}{R:α->β->Prop}:∀{xs:List α}{ys:List β},Paired R xs ys->∀(i:Nat) x y,xs[i]? =some x->ys[i]? =some y->R x y
 | _,_,.nil,_,_,_,h,_=>by simp at h
 | _,_,.cons r rs,0,_,_,h1,h2=>by
  cases h1;cases h2;exact r
 | _,_,.cons r rs,i+1,_,_,h1,h2=>Ww rs i _ _ (by simpa using h1) (by simpa using h2)
theorem Zj1{P:AM}{w:AO}{K:aG}{tg:AN}(a it:AI)(o:Obj)(kvs:List (Key×V))(ep:Nat)(hep:∃es,o.data=.dict es ep):Turn P w K tg (Itv a o kvs) [it] it (λi h=>h.IsValIter it a i kvs.length ep) where
  mem:=ζ
  obj:=λi h st b hb=>by
    have e:b=it:=by simpa using hb
    subst e;obtain⟨o,e,c,d⟩:=st;exact⟨o,e,λv z=>by rw[d]at z;cases z⟩
  keep:=λi h h' st k=>by
    obtain⟨o,e,r⟩:=st;exact⟨o,k it ζ o e,r⟩
  item:=by
    intro X hP hw hK hc i pins s σ H E I hf st hg;subst hP hw hK;obtain⟨hz,hi⟩:=hg;obtain⟨ho,z,hd,vs,rel,dd⟩:s.heap.get? a=some o/\kvs.length<=sizeLine/\(a == sysModules)=false/\∃vs,KV kvs vs/\s.heap.DictOf (dH X.prog X.w) a vs:=I.hok a _ hz;obtain⟨ep',hm⟩:=dd.dictAt;obtain⟨es,hes⟩:=hep;have he:ep'=ep:=by
      obtain⟨o',es',ho',_,hd',_⟩:=id hm;rw[ho]at ho';cases ho';rw[hes]at hd';injection hd' with _ e;exact e.symm
    subst he;have hl:=rel.length;have hv:vs[i]? =some vs[i]:=bN δ;have hv2:kvs[i]? =some kvs[i]:=bN hi;have hk:RelV kvs[i].2 vs[i].2:=(Ww rel i _ _ hv2 hv).2;obtain⟨f0,f1,f2,f3,f4,f5⟩:=hf it ζ;rw[hl]at st;refine wpAny_pyNext_values_item st hm (k:=vs[i].1) (v:=vs[i].2) (by rw[hv]) λh' st' sb=>?_;have I1:Inv X pins σ H { s with heap:=h' }:=I.turned (t':=s.toks) (λb o hb e=>(sb.2 b hb).trans e) f0 f1 f3 f4 f5;obtain⟨oi,e,c,d⟩:=id st';exact⟨_,rfl,Zo1 (s:={ s with heap:=h' }) e c d ε ⟨kvs[i].2,H,I1,hk,⟨rfl,_,hv2,rfl⟩,by rw[hl];exact st',λb hb=>(hf b hb).1⟩⟩
  done:=by
    intro X hP hw hK hc i pins s σ H E I hf st hg;subst hP hw hK;obtain⟨hz,hi⟩:=hg;obtain⟨ho,z,hd,vs,rel,dd⟩:s.heap.get? a=some o/\kvs.length<=sizeLine/\(a == sysModules)=false/\∃vs,KV kvs vs/\s.heap.DictOf (dH X.prog X.w) a vs:=I.hok a _ hz;obtain⟨ep',hm⟩:=dd.dictAt;obtain⟨es,hes⟩:=hep;have he:ep'=ep:=by
      obtain⟨o',es',ho',_,hd',_⟩:=id hm;rw[ho]at ho';cases ho';rw[hes]at hd';injection hd' with _ e;exact e.symm
    subst he;have hl:=rel.length;obtain⟨f0,f1,f2,f3,f4,f5⟩:=hf it ζ;rw[hl]at st;exact wpAny_pyNext_values_end (I.ok.hd hc) st hm (by rw[List.getElem?_eq_none];omega) λh' eb=>⟨rfl,I.turned (t':=s.toks) (λb o hb e=>eb b o hb e) f0 f1 f3 f4 f5⟩
  self:=λ_ _ _ _ _ st h=>wpAny_pyIter_valiter st h
theorem Zpn{X:Cx}{tg:AN}{e:AN}{te:TE}(he:PE X e te):PI X tg e (Znr te):=by
 intro pins s σ H R I h;refine gB (he pins s σ H _ I h) λu s1 qc=>?_;obtain⟨x,H1,I1,r1,q1⟩:=qc;obtain⟨v,a,kvs,e,hv,hq,q⟩:=q1;subst e;obtain rfl:u=Value.ref v:=r1;have Zwd:s1.heap.IsValuesView v a:=(I1.hok v _ hv).1;obtain⟨z,hs,vs,rel,dd⟩:=Zrz I1.hok hq;obtain⟨ep,hm⟩:=dd.dictAt;obtain⟨o,es,ho,_,hes,_⟩:=id hm;refine wpAny_pyIter_values Zwd hm ?_;have I2:=Zo5 I1 hq ho;have hne:s1.heap.objs.size≠a:=Nat.ne_of_gt (Heap.lt_size ho);refine⟨s1.heap.objs.size,[s1.heap.objs.size],_,_,_,rfl,I2.kept (t':=s1.toks) λb o e=>Heap.get?_push_of_some _ e,Zj1 a _ o kvs ep ⟨es,hes⟩,?_,λb hb=>?_,q o⟩
 ·rw[rel.length];exact⟨_,Heap.get?_push_size _ rfl,rfl,rfl⟩
 ·have e:b=s1.heap.objs.size:=by simpa using hb
  subst e;exact Zgr (I1.Zgs υ (I1.hok.fresh υ)) hne
theorem Zj4{X:Cx}{pins:At}{σ:L2.St}{H:Hp}{s:AK}{a:AI}{o:Obj}{kvs:List (Key×V)}(I:Inv X pins σ H s)(h:H a=some (.yL o (.dK kvs)))(hn:∀o' u,X.H₀ a≠some (.yL o' u)):Inv X pins σ (upd H a (.dK kvs)) s:=by
 have ne:∀b u,H b=some u->u≠.yL o (.dK kvs)->b≠a:=λb u q n z=>n (by rw[z,h]at q;exact(Option.some.inj q).symm);have n0:∀b,H b=none->upd H a (.dK kvs) b=none:=λb q=>(aB (λz=>by rw[z,h]at q;cases q)).trans q;have hs:∀c u,H c=some u->u≠.yL o (.dK kvs)->upd H a (.dK kvs) c=some u:=λc u z n=>by rw[aB (ne c u z n)];exact z
 obtain⟨i1,i2,i3,i4,i5,i6,i7,i8,i9,i10,i11⟩:=I;refine⟨i1,i2,i3,⟨i4.keep,i4.slot,λb ob e n hx=>n0 b (i4.free b ob e n hx),i4.there,λb xs e=>hs b _ (i4.tups b xs e) (λz=>by cases z),λb ob u e=>(aB (a:=a) (b:=b) (λz=>hn ob u (by rw[<- z];exact e))).trans (i4.Hr b ob u e),λb ps e=>?_⟩,i5,i6,n0 _ i7,λx c e=>n0 _ (i8 x c e),λp hp=>?_,λb u q=>?_,i11⟩
 ·obtain⟨more,q⟩:=i4.HW b ps e;exact⟨more,hs b _ q (λz=>by cases z)⟩
 ·obtain⟨p1,p2,p3⟩:=i9 p hp;exact⟨p1,n0 _ p2,p3⟩
 ·by_cases hb:b=a
  ·subst hb;rw[ao]at q;cases q;exact(i10 b _ h).2.stay (λc v _ z=>z) (λc z=>hs c _ z (λy=>by cases y)) λc xs z=>hs c _ z (λy=>by cases y)
  ·rw[aB hb]at q;exact(i10 b u q).stay (λc v _ z=>z) (λc z=>hs c _ z (λy=>by cases y)) λc xs z=>hs c _ z (λy=>by cases y)
def Zlb(H0:Hp)(te:TE):TE:=λσ H Q=>te σ H λx H1=>∃a o kvs,H1 a=some (.yL o (.dK kvs))/\(∀o' u,H0 a≠some (.yL o' u))/\Q x (upd H1 a (.dK kvs))
theorem Ztm{H0:Hp}{te:TE}{σ:L2.St}{H:Hp}{Q:VK}(h:te σ H λx H1=>∃a o kvs,H1 a=some (.yL o (.dK kvs))/\(∀o' u,H0 a≠some (.yL o' u))/\Q x (upd H1 a (.dK kvs))):Zlb H0 te σ H Q:=h
theorem Zpo{X:Cx}{e:AN}{te:TE}(he:PE X e te):PE X e (Zlb X.H₀ te):=by
 intro pins s σ H Q I h;refine gB (he pins s σ H _ I h) λu s1 qc=>?_;obtain⟨x,H1,I1,r1,a,o,kvs,ha,hn,q⟩:=qc;exact⟨x,_,Zj4 I1 ha hn,r1,q⟩
def Zsb(K:aG)(te:TE):TT:=λσ H Q=>te σ H λx H'=>∃k,Zou K x H' k/\Q k H'
theorem Zrq{K:aG}{te:TE}{σ:L2.St}{H:Hp}{Q:Bool->Hp->Prop}(h:te σ H λx H'=>∃k,Zou K x H' k/\Q k H'):Zsb K te σ H Q:=h
theorem Zv2{K:aG}{H:Hp}{a:AI}{xs:List V}{P:Bool->Prop}(h:bO K H a xs)(q:P (!xs.isEmpty)):∃k,Zou K (.ref a) H k/\P k:=⟨_,.inl ⟨xs,h,rfl⟩,q⟩
def Zor(K:aG):List V->Hp->VK->Prop:=λxs H Q=>∃p ys,xs=[.ref p]/\(bO K H p ys\/fc K H p ys)/\∀l,H l=none->Q (.ref l) (upd H l (.lst ys))
theorem Zqj{K:aG}{H:Hp}{Q:VK}{p:AI}{ys:List V}(h1:fc K H p ys)(h:∀l,H l=none->Q (.ref l) (upd H l (.lst ys))):Zor K [.ref p] H Q:=⟨p,ys,rfl,.inr h1,h⟩
def Dq(K:aG)(H:Hp):Nat->V->V->Prop
 | 0,x,y=>x=y/\iQ x=true
 | d+1,x,y=>(x=y/\iQ x=true)\/∃a b,x=.ref a/\y=.ref b/\(a=b\/∃xs ys,((bO K H a xs/\bO K H b ys)\/(fc K H a xs/\fc K H b ys))/\Al (Dq K H d) xs ys)
theorem Zab{K:aG}{H:Hp}{d:Nat}{x:V}(h:iQ x=true):Dq K H d x x:=by
 cases d with
 | zero=>exact⟨rfl,h⟩
 | succ d=>exact .inl ⟨rfl,h⟩
theorem Zdr{K:aG}{H:Hp}{d:Nat}:∀{xs:List V},xs.all iQ=true->Al (Dq K H d) xs xs
 | [],_=>.nil
 | x::xs,h=>by
  rw[List.all_cons,Bool.and_eq_true]at h;exact .cons (Zab h.1) (Zdr h.2)
def Lq(K:aG)(neg:Bool):R2:=λx y H Q=>∃a b xs ys,x=.ref a/\y=.ref b/\((bO K H a xs/\bO K H b ys)\/(fc K H a xs/\fc K H b ys))/\Al (Dq K H 6) xs ys/\Q (.bl (!neg)) H
section
variable {X:Cx}
theorem Zdm:∀{x:V},iQ x=true->eqV x x=true
 | .non,_=>rfl
 | .bl b,_=>by cases b<;>rfl
 | .int i,_=>by simp[eqV]
 | .str z,_=>by simp[eqV]
theorem Zwm{pins:At}{σ:L2.St}{H:Hp}{s:AK}(I:Inv X pins σ H s):∀(d:Nat) {A:Around}{x y:V}{u v:AJ},A.units+d<cLine->RelV x u->RelV y v->Dq X.K H d x y->SeqAt.EqAt A s u v true:=by
 intro d
 induction d with
 | zero=>
  intro A x y u v hu rx ry h;obtain⟨rfl,hf⟩:=h;have:=Am (A:=A) (s:=s) rx ry hf hf;rw[Zdm hf]at this;exact this
 | succ d ih=>
  intro A x y u v hu rx ry h;rcases h with ⟨rfl,hf⟩ | ⟨a,b,rfl,rfl,h⟩
  ·have:=Am (A:=A) (s:=s) rx ry hf hf;rw[Zdm hf]at this;exact this
  ·obtain rfl:u=Value.ref a:=rx;obtain rfl:v=Value.ref b:=ry
   by_cases e:a=b
   ·subst e;exact SeqAt.EqAt.same _
   rcases h with rfl | ⟨xs,ys,hs,al⟩
   ·exact absurd rfl e
   ·refine SeqAt.EqAt.of_refs e ?_;have hl:=al.length;have hu':A.units<cLine:=δ
    have item:∀{us ws:AC},Vals xs us->Vals ys ws->∀(j:Nat) (h1:j<us.toArray.size) (h2:j<ws.toArray.size),SeqAt.EqAt A.in1 s us.toArray[j] ws.toArray[j] true:=by
     intro us ws r1 r2 j h1 h2;rw[List.size_toArray]at h1 h2;have l1:=r1.length;have l2:=r2.length;have a1:xs[j]? =some xs[j]:=bN δ;have a2:ys[j]? =some ys[j]:=bN δ;obtain⟨u',e1,q1⟩:=r1.get a1;obtain⟨w',e2,q2⟩:=r2.get a2;rw[bN h1]at e1;rw[bN h2]at e2;cases e1;cases e2;obtain⟨x',e3,dq⟩:=al.get a2;rw[a1]at e3;cases e3;exact ih (A:=A.in1) (by show A.units+1+d<cLine;omega) q1 q2 dq
    rcases hs with ⟨ha,hb⟩ | ⟨ha,hb⟩
    ·obtain⟨us,r1,pl1,_⟩:=I.list ha;obtain⟨ws,r2,Y4,_⟩:=I.list hb;have:=SeqAt.RcAt.lists (A:=A) (e:=λ_=>true) pl1.isList Y4.isList (by rw[List.size_toArray,List.size_toArray,<- r1.length,<- r2.length];exact hl) hu' (λj h1 h2=>item r1 r2 j h1 h2);rw[show(List.range us.toArray.size).all (λ_=>true)=true from by rw[List.all_eq_true];intros;rfl]at this;exact this
    ·obtain⟨us,r1,pl1,_⟩:=I.tuple ha;obtain⟨ws,r2,Y4,_⟩:=I.tuple hb;have e0:us.toArray.size=ws.toArray.size:=by rw[List.size_toArray,List.size_toArray,<- r1.length,<- r2.length];exact hl
     have:=SeqAt.RcAt.tuples (A:=A) (e:=λ_=>true) pl1 Y4 hu' (λj h1 h2=>item r1 r2 j h1 h2);rw[show(List.range (min us.toArray.size ws.toArray.size)).all (λ_=>true)=true from by rw[List.all_eq_true];intros;rfl,e0]at this;simpa using this
theorem Fe{pins:At}{σ:L2.St}{H:Hp}{s:AK}(I:Inv X pins σ H s){A:Around}(hu:A.units+8<cLine){xs ys:List V}{us ws:AC}(al:Al (Dq X.K H 6) xs ys)(r1:Vals xs us)(r2:Vals ys ws)(j:Nat)(h1:j<us.toArray.size)(h2:j<ws.toArray.size):SeqAt.EqAt A.in1 s us.toArray[j] ws.toArray[j] true:=by
 rw[List.size_toArray]at h1 h2;have l1:=r1.length;have l2:=r2.length;have a1:xs[j]? =some xs[j]:=bN δ;have a2:ys[j]? =some ys[j]:=bN δ;obtain⟨u',e1,q1⟩:=r1.get a1;obtain⟨w',e2,q2⟩:=r2.get a2;rw[bN h1]at e1;rw[bN h2]at e2;cases e1;cases e2;obtain⟨x',e3,dq⟩:=al.get a2;rw[a1]at e3;cases e3;exact Zwm I 6 (A:=A.in1) (by show A.units+1+6<cLine;omega) q1 q2 dq
theorem Za(hu:X.A.units+64<cLine):yJ X (compareOp .Eq) (Lq X.K false):=by
 intro pins s σ H x y v u Q I rx ry h;obtain⟨p,q',xs,ys,rfl,rfl,hs,al,q⟩:=h;obtain rfl:v=Value.ref p:=rx;obtain rfl:u=Value.ref q':=ry;have hl:=al.length;rcases hs with ⟨ha,hb⟩ | ⟨ha,hb⟩
 ·obtain⟨us,r1,pl1,_⟩:=I.list ha;obtain⟨ws,r2,Y4,_⟩:=I.list hb;refine SeqAt.eq_listAt (e:=λ_=>true) pl1.isList Y4.isList (by rw[List.size_toArray,List.size_toArray,<- r1.length,<- r2.length];exact hl) δ (Fe I δ al r1 r2) ?_;rw[show(List.range us.toArray.size).all (λ_=>true)=true from by rw[List.all_eq_true];intros;rfl];exact⟨.bl _,H,I,rfl,q⟩
 ·obtain⟨us,r1,pl1,_⟩:=I.tuple ha;obtain⟨ws,r2,Y4,_⟩:=I.tuple hb;have e0:us.toArray.size=ws.toArray.size:=by rw[List.size_toArray,List.size_toArray,<- r1.length,<- r2.length];exact hl
  refine SeqAt.eq_tupleAt (e:=λ_=>true) pl1 Y4 δ (Fe I δ al r1 r2) ?_;rw[show(List.range (min us.toArray.size ws.toArray.size)).all (λ_=>true)=true from by rw[List.all_eq_true];intros;rfl,e0];simp only[beq_self_eq_true,Bool.and_self];exact⟨.bl _,H,I,rfl,q⟩
theorem Q8(hu:X.A.units+64<cLine):yJ X (compareOp .NotEq) (Lq X.K true):=by
 intro pins s σ H x y v u Q I rx ry h;obtain⟨p,q',xs,ys,rfl,rfl,hs,al,q⟩:=h;obtain rfl:v=Value.ref p:=rx;obtain rfl:u=Value.ref q':=ry;have hl:=al.length;rcases hs with ⟨ha,hb⟩ | ⟨ha,hb⟩
 ·obtain⟨us,r1,pl1,_⟩:=I.list ha;obtain⟨ws,r2,Y4,_⟩:=I.list hb;have:=SeqAt.RcNeAt.lists (A:=X.A) (s:=s) (e:=λ_=>true) pl1.isList Y4.isList (by rw[List.size_toArray,List.size_toArray,<- r1.length,<- r2.length];exact hl) δ (Fe I δ al r1 r2);rw[show(List.range us.toArray.size).all (λ_=>true)=true from by rw[List.all_eq_true];intros;rfl]at this;exact this _ _ _ _ ⟨.bl _,H,I,rfl,q⟩
 ·obtain⟨us,r1,pl1,_⟩:=I.tuple ha;obtain⟨ws,r2,Y4,_⟩:=I.tuple hb;have e0:us.toArray.size=ws.toArray.size:=by rw[List.size_toArray,List.size_toArray,<- r1.length,<- r2.length];exact hl
  have:=SeqAt.RcNeAt.tuples (A:=X.A) (s:=s) (e:=λ_=>true) pl1 Y4 δ (Fe I δ al r1 r2);rw[show(List.range (min us.toArray.size ws.toArray.size)).all (λ_=>true)=true from by rw[List.all_eq_true];intros;rfl,e0]at this;simp only[beq_self_eq_true,Bool.and_self]at this;exact this _ _ _ _ ⟨.bl _,H,I,rfl,q⟩
end
def Zei(t:TE):TO:=λσ H Q=>t σ H λx H1=>(x=.non/\Q none H1)\/∃i,x=.int i/\Q (some i) H1
theorem Zqe{te:TE}{σ:L2.St}{H:Hp}{Q:AA->Hp->Prop}(h:te σ H λx H1=>(x=.non/\Q none H1)\/∃i,x=.int i/\Q (some i) H1):Zei te σ H Q:=h
theorem Zsp{X:Cx}{e:AN}{te:TE}(h:PE X e te):PO X (some e) (Zei te):=by
 intro pins s σ H Q I hw;rw[evalPart_some];refine gB (h pins s σ H _ I hw) λu s1 qc=>?_;obtain⟨x,H1,I1,r1,q1⟩:=qc;rcases q1 with ⟨rfl,q⟩ | ⟨i,rfl,q⟩
 ·cases r1;exact⟨none,H1,I1,.none,q⟩
 ·obtain⟨t,rfl⟩:=r1;exact⟨some i,H1,I1,.int i t,q⟩
structure FnH(P:AM)(w:AO)(K:aG)(mg:As)(base:Heap)(CX:CXT)(k:Nat)(f:AI)(fd:AL)(ps:AH)(sp:Sp):Prop where
 len:∀vs H Q E,sp vs H Q E->vs.length=ps.length
 run:∀(A:Around) (ea:AJ) (outer:List Env) (s:AK) (H:Hp) (args:Args) (us:AC) (vs:List V) (Q:VK) (E:XK),Room k A->Zbc P w K mg base (A.mark (some ea)) outer s H->BindsTo s fd args (ps.zip us)->Vals vs us->sp vs H Q E->
  codeAny (model P w) (A.mark (some ea)) (.call (.ref f) args) (CR CX outer P w H s Q E) s
structure HhH(P:AM)(w:AO)(K:aG)(mg:As)(base:Heap)(n:Nat)(f:AI)(fd:AL)(ps:AH)(sp:Sp):Prop where
 g:FnH P w K mg base (FJ P w) n f fd ps sp
 b:Binds K fd ps []
 k:W.keepIn K (.ref f)=true
theorem ZCt{P:AM}{w:AO}{K:aG}{mg:As}{base:Heap}{x qual:Str}{st:Stmt}{f:AI}{fd:AL}{N ps:AH}{k:Nat}{sp:Sp}(F:Fun K x qual st f fd)(S:aO N ps (aF st))(len:∀vs H Q E,sp vs H Q E->vs.length=ps.length)
  (hbody:∀(cdv ea:AJ) (A:Around) (outer:List Env) (s:AK) (H:Hp) (vs:List V) (Q:VK) (E:XK),Room k (A.deeper (envOfC qual (aF st) s.heap.objs.size f cdv))->sp vs H Q E->
   ∃t,Px (M5 (DQ (FJ P w) P w K mg base N qual (aF st) f cdv A outer s H E) ea []) (fj st) t/\t { nx:=λ_ H'=>Q .non H',rt:=Q } (start N vs) H):FnH P w K mg base (FJ P w) (k+1) f fd ps sp:=by
 obtain⟨oc,od,kV,doc,pm,an,cdv,ct,osl,rfl,lk,hcd⟩:=F.ex;refine⟨len,λA ea outer s H args us vs Q E hr e0 hb r hsp=>?_⟩;have hl:=len _ _ _ _ hsp;have KX:K.In s.heap:=e0.mod.kin.keeps λb o e=>(e0.bs b o e).1;have lim:s.heap.NoLimit:=e0.mod.nolimit.keeps λb o e=>(e0.bs b o e).1;have hkind:∀y∈ps.zip us,(aF st).names.lookup y.1=some .local\/((aF st).names.lookup y.1=some .cell/\((cellsFrom ai (aF st).names []).lookup y.1).isSome=true):=λ⟨n,v⟩ hy=>by
  rcases S.par n (List.of_mem_zip hy).1 with q | q
  ·exact .inl q
  ·exact .inr ⟨q,W.cellsFrom_some _ _ _ (.inl q)⟩
 refine codeAny_call_function (show(A.mark (some ea)).depth<recursionLimit from hr.depth) (KX _ _ lk) rfl S.co S.gen rfl (W.codeRec_of KX hcd) (hb _ _ _ _ ?_);refine wpAny_newFunctionEnv_cells S.kind hkind λenv he s1 y=>?_;subst he;refine⟨lim.keeps y.toInCall.keep,codeAny_func ?_⟩;obtain⟨t,ht,hq⟩:=hbody cdv ea A outer s H vs Q E (hr.deeper _) hsp;have e1:Zbc P w K mg base A outer s H:=⟨e0.frames,e0.mod,e0.bs,e0.bsz,e0.yu,e0.frf,e0.hok,e0.bare⟩;have I:Inv (M5 (DQ (FJ P w) P w K mg base N qual (aF st) f cdv A outer s H E) ea []) [] (start N vs) H s1:=jU (pins:=[]) (Xc S hr.hd e1 hl r y) ea;refine wpAny_mono (ht [] s1 (start N vs) H _ I hq) (λfl s' hs=>?_) λe s' hs=>hs.elim;have fin:∀{σ':L2.St}{H':Hp}{v:V}{u:AJ},Inv (M5 (DQ (FJ P w) P w K mg base N qual (aF st) f cdv A outer s H E) ea []) [] σ' H' s'->RelV v u->Q v H'->CE outer P w H s Q u s':=
  λ{σ' H' v u} J rv q=>⟨v,H',J.os,J.bare,J.base,J.hok,rv,q⟩
 cases fl with
 | ret u=>
  obtain⟨v,σ',H',J,rv,q⟩:=hs;exact fin J rv q
 | next=>
  obtain⟨σ',H',J,q⟩:=hs;exact fin (v:=V.non) (u:=Value.none) J rfl q
 | brk=>
  obtain⟨_,_,_,q⟩:=hs;exact False.elim q
 | cont=>
  obtain⟨_,_,_,q⟩:=hs;exact False.elim q
theorem Jj{X:Cx}{n k:Nat}{f:AI}{fd:AL}{ps:AH}{sp:Sp}{x:Str}{p pos:Pos}{e:AN}{es:AG}{t:TA}{ea:AJ}{pn:At}(F:HhH X.prog X.w X.K X.mg X.base n f fd ps sp)(hr:Room k X.A)(hm:X.mg x=↑f)
  (ha:PA (M5 X ea pn) (e::es) t) (hn:n<=k:=by decide) (hg:X.env.kindOf x=some .globalImplicit:=by rfl) (hdb:(x == ("__debug__":Str))=false:=by decide) (he:starEach (e::es) X.env=(false,eval e X.env)::starEach es X.env:=by rfl) (hpl:(backTo pos (starEach es X.env)).any (·.1)=false:=by rfl):
  PE (M5 X ea pn) (.Call (.Name x p) (e::es) [] pos) (aU sp [] E0 t):=by
 intro pins s σ H Q I h;refine wpAny_Call_Name_kw (fL I hg hm ?_ hdb);refine W.callWith_K (h₀:=X.base) I.ok.mod.kin F.k (gB (ha pos pins s σ H _ I h) λus s1 ⟨vs,H1,I1,r,q⟩=>⟨I1.um,?_⟩) he hpl;have r2:Vals (vs++[]) (us++[]):=r.append .nil;have hl:(us++[]).length=ps.length:=by rw[<- r2.length];exact F.g.len _ _ _ _ q
 refine wpAny_call (codeAny_mono (F.g.run X.A ea X.stack s1 H1 ⟨us,[]⟩ (us++[]) (vs++[]) _ E0 (hr.mono hn) I1.env0 (F.b s1 us I1.um hl) r2 q) λr s' hq=>?_);cases r with
 | error e=>exact dF (X:=M5 X ea pn) pins σ H1 s1 e s' I1 hq
 | ok fl=>
  cases fl with
  | ret u=>exact I1.after hq
  | next=>exact False.elim hq
  | brk=>exact False.elim hq
  | cont=>exact False.elim hq
end G
local macro_rules|`(tactic|walk_at"g2")=>`(tactic|with_reducible refine G.Zqe ?_)
local macro_rules|`(tactic|walk_at"g2")=>`(tactic|with_reducible first|refine G.Zy2 ?_|refine G.Ztm ?_|refine G.Zrq ?_|refine G.Zy5 ?_|refine G.Zql ?_|refine G.Zu2 ?_)
local macro_rules|`(tactic|walk_at"g2")=>`(tactic|with_reducible first|refine G.Zu1 ?_|refine G.Ztv ?_|refine G.Zde ?_|refine G.Zdf ?_|refine G.Znm ?_|refine G.Ztl ?_)
local macro_rules|`(tactic|walk_at"g2")=>`(tactic|with_reducible first|refine G.Ztz ?_|refine G.Ztr ?_|refine G.Zqi ?_|refine G.Zvs ?_|refine G.Zu3 ?_|refine G.Znq ?_)
local macro_rules|`(tactic|walk_at"g2")=>`(tactic|with_reducible first|refine G.Zw3 ?_|refine G.R7 ?_|refine G.Zqo ?_|refine G.Zqd ?_|refine G.Zqp ?_|refine G.Zqc ?_)
local macro_rules|`(tactic|walk_at"g2")=>`(tactic|with_reducible first|refine G.Zy7 ?_|refine G.Zw0 ?_|refine G.Zy6 ?_|refine G.Zw6 ?_|refine G.Zw5 ?_|refine G.Zw4 ?_)
local macro_rules|`(tactic|walk_at"g2")=>`(tactic|with_reducible first|refine G.Zyb ?_|refine G.Zw2 ?_|refine G.Zw1 ?_|refine G.Zya ?_|refine G.Zy9 ?_|refine G.Zy8 ?_)
local macro_rules|`(tactic|walk_at"g2")=>`(tactic|with_reducible first|refine G.Zxp ?_|refine G.Zxo ?_|refine G.Zvq ?_|refine G.Zvp ?_|refine G.Zvo ?_|refine G.Zvn ?_)
local macro_rules|`(tactic|walk_at"g2")=>`(tactic|with_reducible first|refine G.Zxv ?_|refine G.Zxu ?_|refine G.Zxt ?_|refine G.Zxs ?_|refine G.Zxr ?_|refine G.Zxq ?_)
local macro_rules|`(tactic|walk_at"g2")=>`(tactic|with_reducible first|refine G.Zyc ?_|refine G.Zw7 ?_|refine G.Zy4 ?_|refine G.Zy3 ?_|refine G.Zxx ?_|refine G.Zxw ?_)
local macro_rules|`(tactic|walk_at"g2")=>`(tactic|with_reducible first|refine G.Zto ?_|refine G.Ztt ?_|refine G.Zno ?_|refine G.Ztp ?_|refine G.Zy1 ?_|refine G.Zxz ?_)
local macro_rules|`(tactic|walk_at"g2")=>`(tactic|with_reducible first|refine G.Zvy ?_|refine G.Zvr ?_|refine G.Zu5 ?_|refine G.Zye ?_|refine G.Ztu ?_|refine G.Zw8 ?_)
local macro_rules|`(tactic|walk_at"g2")=>`(tactic|with_reducible first|refine G.Zgl ?_|refine G.Z8 ?_|refine G.Zqm ?_|refine G.Zqn ?_|refine G.Zvv ?_|refine G.Zu4 ?_)
local macro_rules|`(tactic|walk_at"g2")=>`(tactic|with_reducible first|refine G.Zty ?_|refine G.Ztx ?_|refine G.Ztw ?_|refine G.Zqh ?_|refine G.Zqg ?_|refine G.Zqf ?_)
local macro_rules|`(tactic|walk_at"g2")=>`(tactic|with_reducible first|refine G.i_U ?_|refine G.Zwa ?_|refine G.Zw9 ?_|refine G.Zwb ?_|refine G.Zvx ?_|refine G.Zvw ?_)
local macro_rules|`(tactic|walk_at"g2")=>`(tactic|with_reducible first|refine G.Zwc ?_|refine G.Zvu ?_|refine G.Zrr ?_|refine G.Zu6 ?_|refine G.Ztq ?_|refine G.Zyd ?_)
local macro_rules|`(tactic|walk_at"g2")=>`(tactic|with_reducible first|refine G.i_C ?_|refine G.Zy0 ?_|refine G.Zxy ?_|refine G.i_B ?_|refine G.Ztn ?_|refine G.Zvt ?_)
local macro_rules|`(tactic|walk_at"g2")=>`(tactic|with_reducible first|refine G.MN ?_|refine G.Zqq ?_|refine G.Zu0 ?_|refine G.Zii ?_|refine G.Zk6 ?_|refine G.Zrs ?_)
local macro_rules|`(tactic|walk_at"g1")=>`(tactic|walk_at"g2")
local macro_rules|`(tactic|walk_at"g1")=>`(tactic|with_reducible refine G.Gj ?_)
local macro_rules | `(tactic| walk_at "ne")=>`(tactic| first | assumption | (exact Ne.symm (by assumption)) | exact L2.aD (by assumption) (by assumption) | exact Ne.symm (L2.aD (by assumption) (by assumption)) | exact Nat.ne_of_lt (by assumption))
local macro_rules | `(tactic| walk_at "hp")=>`(tactic| first | assumption | exact L2.ao | (refine Eq.trans (L2.aB ?hne) ?_;(case hne=>walk_at "ne");walk_at "hp"))
local macro_rules | `(tactic| walk_at"d")=>`(tactic| first | omega | decide | (show (_:Int)<_;decide) | exact ⟨ε,ε⟩ | exact ⟨ε,ε,ε⟩ | (unfold L2.FN;omega) | exact .inl (by unfold L2.FN;omega))
local macro_rules | `(tactic| walk_at"e")=>`(tactic| repeat (first | walk_at "g1" | ((with_reducible refine G.i_I ?hc ?_);(case hc=>walk_at"d"))))
local macro_rules | `(tactic| walk_at"s")=>`(tactic| repeat (first | walk_at "g2" | ((with_reducible refine G.i_I ?hc ?_);(case hc=>walk_at"d"))))
local macro_rules | `(tactic| walk_at"c")=>`(tactic| simp only [List.map_cons,List.map_nil,G.pick,List.getElem?_cons_zero,List.getElem?_cons_succ])
local macro_rules | `(tactic| apply $e)=>`(tactic| (walk_at"e";refine $e))
local macro_rules | `(tactic| exists $e,*)=>`(tactic| (walk_at"e";refine⟨$e,*, ?_⟩))
local macro_rules | `(tactic| ext)=>`(tactic| walk_at"e")
local macro_rules | `(tactic| left)=>`(tactic| walk_at"s")
local macro_rules | `(tactic| right)=>`(tactic| (have h2:=(Except.ok.inj h);rw[<- (Prod.mk.inj h2).2]))
namespace TJ
open PySem L2 G
def jT(birth:Int)(bulk:Int)(tone:Int)(load:Int)(fa:AI):List (Str×V):=[("birth",.int birth),("bulk",.int bulk),("tone",.int tone),("load",.int load),("fields",.ref fa)]
theorem fJ{birth:Int}{bulk:Int}{tone:Int}{load:Int}{fa:AI}:List.lookup ("birth":Str) (jT birth bulk tone load fa)=some (.int birth:V):=rfl
theorem VN{birth:Int}{bulk:Int}{tone:Int}{load:Int}{fa:AI}:List.lookup ("bulk":Str) (jT birth bulk tone load fa)=some (.int bulk:V):=rfl
theorem VM{birth:Int}{bulk:Int}{tone:Int}{load:Int}{fa:AI}:List.lookup ("tone":Str) (jT birth bulk tone load fa)=some (.int tone:V):=rfl
theorem Gm{birth:Int}{bulk:Int}{tone:Int}{load:Int}{fa:AI}:List.lookup ("load":Str) (jT birth bulk tone load fa)=some (.int load:V):=rfl
theorem jJ{birth:Int}{bulk:Int}{tone:Int}{load:Int}{fa:AI}:List.lookup ("fields":Str) (jT birth bulk tone load fa)=some (.ref fa:V):=rfl
theorem S8{birth:Int}{bulk:Int}{tone:Int}{load:Int}{fa:AI}(y:Int):bR "tone" (.int y) (jT birth bulk tone load fa)=jT birth bulk y load fa:=rfl
theorem S9{birth:Int}{bulk:Int}{tone:Int}{load:Int}{fa:AI}(y:Int):bR "load" (.int y) (jT birth bulk tone load fa)=jT birth bulk tone y fa:=rfl
theorem Zoq{birth:Int}{bulk:Int}{tone:Int}{load:Int}{fa:AI}:(bR "fields" (.ref fa) (bR "load" (.int load) (bR "tone" (.int tone) (bR "bulk" (.int bulk) (bR "birth" (.int birth) [])))))=jT birth bulk tone load fa:=rfl
theorem vg{birth:Int}{bulk:Int}{tone:Int}{load:Int}{fa:AI}:List.lookup ("units":Str) (jT birth bulk tone load fa)=none:=rfl
theorem Hs{birth:Int}{bulk:Int}{tone:Int}{load:Int}{fa:AI}:List.lookup ("has_field":Str) (jT birth bulk tone load fa)=none:=rfl
def gM(room:Int)(ca:AI)(used:Int)(born:Int):List (Str×V):=[("room",.int room),("cells",.ref ca),("used",.int used),("born",.int born)]
theorem VH{room:Int}{ca:AI}{used:Int}{born:Int}:List.lookup ("room":Str) (gM room ca used born)=some (.int room:V):=rfl
theorem bU{room:Int}{ca:AI}{used:Int}{born:Int}:List.lookup ("cells":Str) (gM room ca used born)=some (.ref ca:V):=rfl
theorem xH{room:Int}{ca:AI}{used:Int}{born:Int}:List.lookup ("used":Str) (gM room ca used born)=some (.int used:V):=rfl
theorem VJ{room:Int}{ca:AI}{used:Int}{born:Int}:List.lookup ("born":Str) (gM room ca used born)=some (.int born:V):=rfl
theorem DK{room:Int}{ca:AI}{used:Int}{born:Int}(y:Int):bR "used" (.int y) (gM room ca used born)=gM room ca y born:=rfl
theorem Sh{room:Int}{ca:AI}{used:Int}{born:Int}(y:Int):bR "born" (.int y) (gM room ca used born)=gM room ca used y:=rfl
theorem Znx{room:Int}{ca:AI}{used:Int}{born:Int}:(bR "born" (.int born) (bR "used" (.int used) (bR "cells" (.ref ca) (bR "room" (.int room) []))))=gM room ca used born:=rfl
theorem VD{room:Int}{ca:AI}{used:Int}{born:Int}:List.lookup ("make":Str) (gM room ca used born)=none:=rfl
theorem Za4{room:Int}{ca:AI}{used:Int}{born:Int}:List.lookup ("lay":Str) (gM room ca used born)=none:=rfl
theorem VG{room:Int}{ca:AI}{used:Int}{born:Int}:List.lookup ("back":Str) (gM room ca used born)=none:=rfl
theorem VF{room:Int}{ca:AI}{used:Int}{born:Int}:List.lookup ("free":Str) (gM room ca used born)=none:=rfl
theorem Sq{room:Int}{ca:AI}{used:Int}{born:Int}:List.lookup ("there":Str) (gM room ca used born)=none:=rfl
def RJ(lk:AI)(tl:Int):List (Str×V):=[("looking",.ref lk),("tells",.int tl)]
theorem lE{lk:AI}{tl:Int}:List.lookup ("looking":Str) (RJ lk tl)=some (.ref lk:V):=rfl
theorem Dv{lk:AI}{tl:Int}:List.lookup ("tells":Str) (RJ lk tl)=some (.int tl:V):=rfl
theorem Znh{lk:AI}{tl:Int}:(bR "tells" (.int tl) (bR "looking" (.ref lk) []))=RJ lk tl:=rfl
def Zdh(nm:Str)(sa:AI):List (Str×V):=[("name",.str nm),("slots",.ref sa)]
theorem uX{nm:Str}{sa:AI}:List.lookup ("slots":Str) (Zdh nm sa)=some (.ref sa:V):=rfl
theorem Zny{nm:Str}{sa:AI}:(bR "slots" (.ref sa) (bR "name" (.str nm) []))=Zdh nm sa:=rfl
def Br(hp:AI)(ki:AI)(hl:AI)(nm:AI)(sw:AI):List (Str×V):=[("heap",.ref hp),("kind",.ref ki),("hands",.ref hl),("names",.ref nm),("sweeper",.ref sw)]
theorem bJ{hp:AI}{ki:AI}{hl:AI}{nm:AI}{sw:AI}:List.lookup ("heap":Str) (Br hp ki hl nm sw)=some (.ref hp:V):=rfl
theorem iJ{hp:AI}{ki:AI}{hl:AI}{nm:AI}{sw:AI}:List.lookup ("kind":Str) (Br hp ki hl nm sw)=some (.ref ki:V):=rfl
theorem dO{hp:AI}{ki:AI}{hl:AI}{nm:AI}{sw:AI}:List.lookup ("hands":Str) (Br hp ki hl nm sw)=some (.ref hl:V):=rfl
theorem jE{hp:AI}{ki:AI}{hl:AI}{nm:AI}{sw:AI}:List.lookup ("names":Str) (Br hp ki hl nm sw)=some (.ref nm:V):=rfl
theorem bu{hp:AI}{ki:AI}{hl:AI}{nm:AI}{sw:AI}:List.lookup ("sweeper":Str) (Br hp ki hl nm sw)=some (.ref sw:V):=rfl
theorem Zj0{hp:AI}{ki:AI}{hl:AI}{nm:AI}{sw:AI}:(bR "sweeper" (.ref sw) (bR "names" (.ref nm) (bR "hands" (.ref hl) (bR "kind" (.ref ki) (bR "heap" (.ref hp) [])))))=Br hp ki hl nm sw:=rfl
def bT(se:Int)(ph:Str)(gr:AI)(lo:Int)(tu:Int)(at_:Int)(st:Int)(wa:Int)(ls:Int)(pa:Int)(lx:V):List (Str×V):=[("sense",.int se),("phase",.str ph),("grey",.ref gr),("looked",.int lo),("turn",.int tu),("at",.int at_),("stop",.int st),("walks",.int wa),("looks",.int ls),("passes",.int pa),("loss",lx)]
theorem mC{se:Int}{ph:Str}{gr:AI}{lo:Int}{tu:Int}{at_:Int}{st:Int}{wa:Int}{ls:Int}{pa:Int}{lx:V}:List.lookup ("sense":Str) χ=some (.int se:V):=rfl
theorem jF{se:Int}{ph:Str}{gr:AI}{lo:Int}{tu:Int}{at_:Int}{st:Int}{wa:Int}{ls:Int}{pa:Int}{lx:V}:List.lookup ("phase":Str) χ=some (.str ph:V):=rfl
theorem uq{se:Int}{ph:Str}{gr:AI}{lo:Int}{tu:Int}{at_:Int}{st:Int}{wa:Int}{ls:Int}{pa:Int}{lx:V}:List.lookup ("grey":Str) χ=some (.ref gr:V):=rfl
theorem gk{se:Int}{ph:Str}{gr:AI}{lo:Int}{tu:Int}{at_:Int}{st:Int}{wa:Int}{ls:Int}{pa:Int}{lx:V}:List.lookup ("looked":Str) χ=some (.int lo:V):=rfl
theorem uo{se:Int}{ph:Str}{gr:AI}{lo:Int}{tu:Int}{at_:Int}{st:Int}{wa:Int}{ls:Int}{pa:Int}{lx:V}:List.lookup ("turn":Str) χ=some (.int tu:V):=rfl
theorem HX{se:Int}{ph:Str}{gr:AI}{lo:Int}{tu:Int}{at_:Int}{st:Int}{wa:Int}{ls:Int}{pa:Int}{lx:V}:List.lookup ("at":Str) χ=some (.int at_:V):=rfl
theorem Qj{se:Int}{ph:Str}{gr:AI}{lo:Int}{tu:Int}{at_:Int}{st:Int}{wa:Int}{ls:Int}{pa:Int}{lx:V}:List.lookup ("stop":Str) χ=some (.int st:V):=rfl
theorem Bc{se:Int}{ph:Str}{gr:AI}{lo:Int}{tu:Int}{at_:Int}{st:Int}{wa:Int}{ls:Int}{pa:Int}{lx:V}:List.lookup ("walks":Str) χ=some (.int wa:V):=rfl
theorem rZ{se:Int}{ph:Str}{gr:AI}{lo:Int}{tu:Int}{at_:Int}{st:Int}{wa:Int}{ls:Int}{pa:Int}{lx:V}:List.lookup ("looks":Str) χ=some (.int ls:V):=rfl
theorem xP{se:Int}{ph:Str}{gr:AI}{lo:Int}{tu:Int}{at_:Int}{st:Int}{wa:Int}{ls:Int}{pa:Int}{lx:V}:List.lookup ("passes":Str) χ=some (.int pa:V):=rfl
theorem Qk{se:Int}{ph:Str}{gr:AI}{lo:Int}{tu:Int}{at_:Int}{st:Int}{wa:Int}{ls:Int}{pa:Int}{lx:V}:List.lookup ("loss":Str) χ=some (lx:V):=rfl
theorem Kz{se:Int}{ph:Str}{gr:AI}{lo:Int}{tu:Int}{at_:Int}{st:Int}{wa:Int}{ls:Int}{pa:Int}{lx:V}(y:Int):bR "sense" (.int y) χ=bT y ph gr lo tu at_ st wa ls pa lx:=rfl
theorem lq{se:Int}{ph:Str}{gr:AI}{lo:Int}{tu:Int}{at_:Int}{st:Int}{wa:Int}{ls:Int}{pa:Int}{lx:V}(y:Str):bR "phase" (.str y) χ=bT se y gr lo tu at_ st wa ls pa lx:=rfl
theorem Ov{se:Int}{ph:Str}{gr:AI}{lo:Int}{tu:Int}{at_:Int}{st:Int}{wa:Int}{ls:Int}{pa:Int}{lx:V}(y:AI):bR "grey" (.ref y) χ=bT se ph y lo tu at_ st wa ls pa lx:=rfl
theorem vL{se:Int}{ph:Str}{gr:AI}{lo:Int}{tu:Int}{at_:Int}{st:Int}{wa:Int}{ls:Int}{pa:Int}{lx:V}(y:Int):bR "looked" (.int y) χ=bT se ph gr y tu at_ st wa ls pa lx:=rfl
theorem Oq{se:Int}{ph:Str}{gr:AI}{lo:Int}{tu:Int}{at_:Int}{st:Int}{wa:Int}{ls:Int}{pa:Int}{lx:V}(y:Int):bR "turn" (.int y) χ=bT se ph gr lo y at_ st wa ls pa lx:=rfl
theorem FQ{se:Int}{ph:Str}{gr:AI}{lo:Int}{tu:Int}{at_:Int}{st:Int}{wa:Int}{ls:Int}{pa:Int}{lx:V}(y:Int):bR "at" (.int y) χ=bT se ph gr lo tu y st wa ls pa lx:=rfl
theorem Ot{se:Int}{ph:Str}{gr:AI}{lo:Int}{tu:Int}{at_:Int}{st:Int}{wa:Int}{ls:Int}{pa:Int}{lx:V}(y:Int):bR "stop" (.int y) χ=bT se ph gr lo tu at_ y wa ls pa lx:=rfl
theorem xO{se:Int}{ph:Str}{gr:AI}{lo:Int}{tu:Int}{at_:Int}{st:Int}{wa:Int}{ls:Int}{pa:Int}{lx:V}(y:Int):bR "walks" (.int y) χ=bT se ph gr lo tu at_ st y ls pa lx:=rfl
theorem pM{se:Int}{ph:Str}{gr:AI}{lo:Int}{tu:Int}{at_:Int}{st:Int}{wa:Int}{ls:Int}{pa:Int}{lx:V}(y:Int):bR "looks" (.int y) χ=bT se ph gr lo tu at_ st wa y pa lx:=rfl
theorem vK{se:Int}{ph:Str}{gr:AI}{lo:Int}{tu:Int}{at_:Int}{st:Int}{wa:Int}{ls:Int}{pa:Int}{lx:V}(y:Int):bR "passes" (.int y) χ=bT se ph gr lo tu at_ st wa ls y lx:=rfl
theorem Ou{se:Int}{ph:Str}{gr:AI}{lo:Int}{tu:Int}{at_:Int}{st:Int}{wa:Int}{ls:Int}{pa:Int}{lx:V}(y:V):bR "loss" (y) χ=bT se ph gr lo tu at_ st wa ls pa y:=rfl
theorem Zj6{se:Int}{ph:Str}{gr:AI}{lo:Int}{tu:Int}{at_:Int}{st:Int}{wa:Int}{ls:Int}{pa:Int}{lx:V}:(bR "loss" (lx) (bR "passes" (.int pa) (bR "looks" (.int ls) (bR "walks" (.int wa) (bR "stop" (.int st) (bR "at" (.int at_) (bR "turn" (.int tu) (bR "looked" (.int lo) (bR "grey" (.ref gr) (bR "phase" (.str ph) (bR "sense" (.int se) [])))))))))))=bT se ph gr lo tu at_ st wa ls pa lx:=rfl
def uw(rm:Int)(kd:AI)(hd:AI)(rw:AI):List (Str×V):=[("room",.int rm),("kind",.ref kd),("hands",.ref hd),("rows",.ref rw)]
theorem Qt{rm:Int}{kd:AI}{hd:AI}{rw:AI}:List.lookup ("room":Str) (uw rm kd hd rw)=some (.int rm:V):=rfl
theorem Qu{rm:Int}{kd:AI}{hd:AI}{rw:AI}:List.lookup ("kind":Str) (uw rm kd hd rw)=some (.ref kd:V):=rfl
theorem Bd{rm:Int}{kd:AI}{hd:AI}{rw:AI}:List.lookup ("hands":Str) (uw rm kd hd rw)=some (.ref hd:V):=rfl
theorem Bv{rm:Int}{kd:AI}{hd:AI}{rw:AI}:List.lookup ("rows":Str) (uw rm kd hd rw)=some (.ref rw:V):=rfl
theorem Zjd{rm:Int}{kd:AI}{hd:AI}{rw:AI}:(bR "rows" (.ref rw) (bR "hands" (.ref hd) (bR "kind" (.ref kd) (bR "room" (.int rm) []))))=uw rm kd hd rw:=rfl
def qd(K:aG):TS:=
 (aP (dW K ρ ψ "birth")
   (aP (dW K ρ (aq 3) "bulk")
   (aP (dW K ρ (aq 4) "tone")
   (aP (dW K ρ Γ "load")
   (dW K ρ (aZ (Zsl) (eF (ak (tC .non) aH)) Ω) "fields")))))
def xr(K:aG):TS:=
 (bB (aZ Θ (aZ Θ τ (vC (G.jt K) (ak (bD K ρ "fields") aH))) (bD K ρ "bulk")))
def nQ(K:aG):TS:=
 (bB (Zel (lK λi j=>.bl (decide (i<=j))) (lK λi j=>.bl (decide (i<j))) Γ ψ (vC (G.jt K) (ak (bD K ρ "fields") aH))))
def p8(K:aG):TS:=
 (aP (dW K ρ ψ "room")
   (aP (dW K ρ (eF aH) "cells")
   (aP (dW K ρ Γ "used")
   (dW K ρ Γ "born"))))
def zM(K:aG)(bI bF bG:AI)(KN qy Yi Zbj:Sp)(E:XK):TS:=
 (aP (bH (xN bI KN [] E0 (ak (aZ Θ (bD K ρ "born") τ) (ak ψ (ak Ω (ak (aq 3) aH))))) (aR 4))
   (aP (dJ (bV (aZ (lK λi j=>.bl (decide (j<i))) (iK bI "units" qy [] E0 (aq 4) aH) (iK bG "free" Yi [] E0 ρ aH))) (G.Ku bF E (ak (tC (.str "the room does not suffice")) aH)) cu)
   (aP (dW K ρ (bD K (aq 4) "birth") "born")
   (aP (dW K ρ (aZ Θ (bD K ρ "used") (iK bI "units" qy [] E0 (aq 4) aH)) "used")
   (bB (iK bG "lay" Zbj [] E0 ρ (ak (aq 4) aH)))))))
def CJ(K:aG):TS:=
 (aP (dJ (bV (aZ (G.Zsm K true) (tC .non) (bD K ρ "cells"))) (aP (lJ (Wr K "list" jN (bD K ρ "cells") (ak ψ aH)))
   (bB (aZ (lK λi j=>.int (i - j)) (vC (G.jt K) (ak (bD K ρ "cells") aH)) τ))) cu)
   (aP (bH (Wr K "list" (G.Zht K) (bD K ρ "cells") (ak (tC .non) aH)) (aR 2))
   (aP (bH ψ (Su (bD K ρ "cells") Ω FW))
   (bB Ω))))
def zO(K:aG)(bI:AI)(qy:Sp):TS:=
 (aP (bH (aZ (fO K) (bD K ρ "cells") ψ) (aR 2))
   (aP (dW K ρ (aZ (lK λi j=>.int (i - j)) (bD K ρ "used") (iK bI "units" qy [] E0 Ω aH)) "used")
   (aP (bH (tC .non) (Su (bD K ρ "cells") ψ FW))
   (bB (bD K Ω "birth")))))
def zN(K:aG):TS:=
 (bB (aZ (lK λi j=>.int (i - j)) (bD K ρ "room") (bD K ρ "used")))
def xq(K:aG):TS:=
 (bB (G.tLC (R8 (ak (vC (G.jt K) (ak (bD K ρ "cells") aH)) aH)) [0] (bV (aZ (G.Jc) (aZ (fO K) (bD K ψ "cells") ρ) (tC .non))) ρ))
def G6(K:aG):TS:=
 (aP (dJ ((Kw (bV (aZ (G.QT) ψ (tC .non))) (Kw (bV (aZ (lK λi j=>.bl (decide (i<j))) ψ Γ)) (bV (aZ (lK λi j=>.bl (decide (j<=i))) ψ (vC (G.jt K) (ak (bD K ρ "cells") aH))))))) (bB (tC .non)) cu)
   (bB (aZ (fO K) (bD K ρ "cells") ψ)))
def Cz(K:aG)(gC:Sp):TS:=
 (aP (bH (aU gC [] E0 (ak ρ (ak ψ aH))) (aR 2))
   (aP (dJ (bV (aZ (G.QT) Ω (tC .non))) (bB (tC .non)) cu)
   (bB (bD K Ω "birth"))))
def Lp:TS:=
 (bB (aZ (lK λi j=>.int (i - j)) (aZ (rI Tz λi j=>.int (i * 2 ^ j.toNat)) τ ρ) τ))
def lR:TS:=
 (bB Γ)
def jX:TS:=
 (bB Γ)
def p6:TS:=
 (bB (tC (.bl true)))
def nO(KD:Sp):TS:=
 (bB (aU KD [] E0 (ak ψ aH)))
def nP:TS:=
 (aP (Bt (R8 (ak Ω aH)) (aR 3)
   (dJ (bV (aZ (Fq) (aZ (lK λi j=>.int (Builtin.bitAnd i j)) (aZ (rI (λ_ j=>0<=j) λi j=>.int (i / 2 ^ j.toNat)) ψ (aq 3)) τ) Γ)) (bB (aZ (rI Tz λi j=>.int (i * 2 ^ j.toNat)) τ (aq 3))) cu))
   (bB Γ))
def nJ(KD:Sp):TS:=
 (bB (aU KD [] E0 (ak Ω aH)))
def xm:TS:=
 (bB (tC (.bl false)))
def p7(K:aG):TS:=
 (aP (dW K ρ ψ "looking")
   (dW K ρ Ω "tells"))
def qb(K:aG):TS:=
 (aP (dW K ρ ψ "name")
   (dW K ρ (aZ (Zsl) (eF (ak (tC .non) aH)) Ω) "slots"))
def lQ(K:aG):TS:=
 (aP (dW K ρ Γ "sense")
   (aP (dW K ρ (tC (.str "rest")) "phase")
   (aP (dW K ρ (eF aH) "grey")
   (aP (dW K ρ Γ "looked")
   (aP (dW K ρ Γ "turn")
   (aP (dW K ρ Γ "at")
   (aP (dW K ρ Γ "stop")
   (aP (dW K ρ Γ "walks")
   (aP (dW K ρ Γ "looks")
   (aP (dW K ρ Γ "passes")
   (dW K ρ (tC .non) "loss")))))))))))
def nG(K:aG)(Et bG d8:AI)(KJ KH Fj:Sp):TS:=
 (aP (dW K ρ (xN bG KH [] E0 (ak ψ aH)) "heap")
   (aP (dW K ρ Ω "kind")
   (aP (dW K ρ (G.Zle K (yq K (aq 3)) [] G.FP (xN Et KJ [] E0 (ak ρ (ak ψ aH)))) "hands")
   (aP (dW K ρ (Zek) "names")
   (dW K ρ (xN d8 Fj [] E0 aH) "sweeper")))))
def YS(K:aG):TS:=
 (bB (G.tLC (yq K (bD K ρ "hands")) [] G.FP (vC (G.Ao K) (ak (bD K ρ "slots") aH))))
def zx(K:aG)(di:Sp):TS:=
 (bB (G.tLC (yq K ψ) [0] G.FP (aU di [] E0 (ak ψ (ak ρ aH)))))
def zp(K:aG):TS:=
 (bB (aZ (Fq) (aZ (lK λi j=>.int (Builtin.bitAnd i j)) (aZ (rI (λ_ j=>0<=j) λi j=>.int (i / 2 ^ j.toNat)) (bD K (bD K ρ "sweeper") "looked") ψ) τ) τ))
def zq(K:aG):TS:=
 (bB (aZ (Fq) (bD K ψ "tone") (bD K (bD K ρ "sweeper") "sense")))
def wW(K:aG):TS:=
 (bB (aZ (rIn K false) (bD K (bD K ρ "sweeper") "phase") (fV (ak (tC (.str "walk")) (ak (tC (.str "lost")) aH)))))
def QS(K:aG)(jD gK kZ:AI)(Ik tD:Sp):TS:=
 (aP (bH (bD K ρ "sweeper") (aR 1))
   (aP (dW K ψ (aZ (lK λi j=>.int (i - j)) τ (bD K ψ "sense")) "sense")
   (aP (dW K ψ (aZ Θ (bD K ψ "turn") τ) "turn")
   (aP (dW K ψ (tC (.str "walk")) "phase")
   (aP (dW K ψ (eF aH) "grey")
   (aP (dW K ψ (G.Kv (iK gK "at_begin" Ik [] E0 (bD K (bD K ρ "kind") "looking") (ak (vC (G.jt K) (ak (bD K ρ "hands") aH)) aH)) (G.Kv (iK jD "at_begin" tD [] E0 (bD K (bD K ρ "kind") "looking") (ak (vC (G.jt K) (ak (bD K ρ "hands") aH)) aH)) (iK kZ "at_begin" tD [] E0 (bD K (bD K ρ "kind") "looking") (ak (vC (G.jt K) (ak (bD K ρ "hands") aH)) aH)))) "looked")
   (aP (dW K ψ Γ "walks")
   (aP (dW K ψ Γ "looks")
   (dW K ψ Γ "passes")))))))))
def YQ(K:aG)(gC eN:Sp):TS:=
 (aP (bH (bD K ρ "sweeper") (aR 2))
   (aP (bH (aU gC [] E0 (ak (bD K ρ "heap") (ak ψ aH))) (aR 3))
   (aP (dJ ((Kw (bV (aZ (rNe) (bD K Ω "phase") (tC (.str "walk")))) (Kw (bV (aZ (G.QT) (aq 3) (tC .non))) (tB (aU eN [] E0 (ak ρ (ak (aq 3) aH))))))) (bB (tC .non)) cu)
   (aP (dW K (aq 3) (bD K Ω "sense") "tone")
   (aP (lJ (Wr K "list" jN (bD K Ω "grey") (ak ψ aH)))
   (bB (bD K (aq 3) "birth")))))))
def Cv(K:aG)(Zp7:Sp):TS:=
 (aP (bH (eF aH) (aR 2))
   (aP (Bt (yq K ψ) (aR 3)
   (aP (bH (aU Zp7 [] E0 (ak ρ (ak (aq 3) aH))) (aR 4))
   (dJ (bV (aZ (G.Jc) (aq 4) (tC .non))) (lJ (Wr K "list" jN Ω (ak (aq 4) aH))) cu)))
   (bB Ω)))
def YT(K:aG)(gC eN:Sp):TS:=
 (aP (bH (aU gC [] E0 (ak (bD K ρ "heap") (ak ψ aH))) (aR 3))
   (aP (dJ ((Kw (bV (aZ (G.QT) (aq 3) (tC .non))) (bV (aZ (rNe) (bD K (aq 3) "birth") Ω)))) (bB (tC (.bl true))) cu)
   (bB ((Bb (aZ (Fq) (bD K (bD K ρ "sweeper") "phase") (tC (.str "give"))) (Zld (aU eN [] E0 (ak ρ (ak (aq 3) aH)))))))))
def QM(K:aG)(Zp8 Zeq:Sp)(H0:Hp):TS:=
 (bB (aZ (Zsn) (aU Zp8 [] E0 (ak ρ aH)) (eF (ak (G.Zlb H0 (G.Zle K (G.Znr (G.Zl9 (bD K ρ "names"))) [0] G.FP (aU Zeq [] E0 (ak Ω (ak ρ (ak ψ aH)))))) aH))))
def GF(K:aG)(X6 eN Ue:Sp):TS:=
 (aP (dJ (tB (aU X6 [] E0 (ak ρ (ak ψ (ak Ω aH))))) (bB (tC .non)) cu)
   (aP (dJ ((Zlg (tB (aU Ue [] E0 (ak ρ aH))) (vH (tB (aU eN [] E0 (ak ρ (ak (aZ (fO K) (bD K (bD K ρ "heap") "cells") ψ) aH))))))) (bB (tC .non)) cu)
   (bB ψ)))
def Cu(K:aG):TS:=
 (bB (bD K (aZ (fO K) (bD K ρ "hands") ψ) "slots"))
def G5(K:aG)(aJ:AI)(gC cL:Sp)(E:XK):TS:=
 (aP (bH (aU gC [] E0 (ak (bD K ρ "heap") (ak (aZ (fO K) (aU cL [] E0 (ak ρ (ak ψ aH))) Ω) aH))) (aR 3))
   (aP (dJ (bV (aZ (G.QT) (aq 3) (tC .non))) (G.Ku aJ E (ak (tC (.str "the slot holds no cell")) aH)) cu)
   (bB (aq 3))))
def zu(K:aG)(bI aQ:AI)(Im mU:Sp)(E:XK):TS:=
 (aP (bH (aU mU [] E (ak ρ (ak ψ (ak Ω aH)))) (aR 4))
   (aP (dJ (vH (tB (iK bI "has_field" Im [] E0 (aq 4) (ak (aq 3) aH)))) (G.Ku aQ E (ak (tC (.str "the cell does not have the field")) aH)) cu)
   (bB (bD K (aq 4) "fields"))))
def uE(K:aG):TS:=
 (aP (dJ (bV (aZ (Fq) (aZ (lK λi j=>.int (Builtin.bitAnd i j)) (bD K (bD K ρ "kind") "tells") τ) Γ)) (bB (eF aH)) cu)
   (bB (eF (ak ψ aH))))
def uF(K:aG)(X5:Sp):TS:=
 (aP (dJ ((Kw (bV (aZ (Fq) (aZ (lK λi j=>.int (Builtin.bitAnd i j)) (bD K (bD K ρ "kind") "tells") (tC (.int 2))) Γ)) (tB (aU X5 [] E0 (ak ρ (ak ψ aH)))))) (bB (eF aH)) cu)
   (bB (eF (ak Ω aH))))
def GX(K:aG)(bG:AI)(Yh di cL:Sp)(E:XK):TS:=
 (aP (bH (aU cL [] E0 (ak ρ (ak (aZ (dX K) ψ τ) aH))) (aR 2))
   (aP (bH (aZ (dX K) ψ (tC (.int 3))) (aR 3))
   (aP (bH (aZ (dX K) ψ (tC (.int 4))) (aR 4))
   (aP (bH (iK bG "make" Yh [] E (bD K ρ "heap") (ak (aq 3) (ak (aq 4) (ak (bD K (bD K ρ "sweeper") "sense") aH)))) (aR 5))
   (aP (bH (aq 5) (Su Ω (aZ (dX K) ψ (tC (.int 2))) FW))
   (bB (fV (ak (tC (.str "made")) (ak (aU di [] E0 (ak (bD K ρ "heap") (ak (aq 5) aH))) (ak (eF aH) aH))))))))))
def Ln(K:aG)(di yN cL:Sp)(E:XK):TS:=
 (aP (bH (aZ (dX K) ψ τ) (aR 2))
   (aP (bH (aZ (dX K) ψ (tC (.int 3))) (aR 3))
   (aP (bH (aZ (dX K) ψ (tC (.int 4))) (aR 4))
   (aP (bH (aZ (fO K) (aU yN [] E (ak ρ (ak Ω (ak (aq 3) (ak (aq 4) aH))))) (aq 4)) (aR 5))
   (aP (bH (aq 5) (Su (aU cL [] E0 (ak ρ (ak Ω aH))) (aZ (dX K) ψ (tC (.int 2))) FW))
   (bB (fV (ak (tC (.str "got")) (ak (aU di [] E0 (ak (bD K ρ "heap") (ak (aq 5) aH))) (ak (eF aH) aH))))))))))
def Lj(K:aG)(di yN gU cL uv Qo:Sp)(E:XK):TS:=
 (aP (bH (aZ (dX K) ψ τ) (aR 2))
   (aP (bH (aZ (dX K) ψ (tC (.int 3))) (aR 3))
   (aP (bH (aU yN [] E (ak ρ (ak Ω (ak (aZ (dX K) ψ (tC (.int 2))) (ak (aq 3) aH))))) (aR 4))
   (aP (bH (aZ (fO K) (aq 4) (aq 3)) (aR 5))
   (aP (bH (aZ (fO K) (aU cL [] E0 (ak ρ (ak Ω aH))) (aZ (dX K) ψ (tC (.int 4)))) (aR 6))
   (aP (bH (aq 6) (Su (aq 4) (aq 3) FW))
   (aP (bH (aU gU [] E0 (ak ρ (ak (aZ (Zsn) (aU Qo [] E0 (ak ρ (ak (aq 5) aH))) (aU uv [] E0 (ak ρ (ak Ω (ak (aq 6) aH))))) aH))) (aR 7))
   (bB (fV (ak (tC (.str "put")) (ak (aU di [] E0 (ak (bD K ρ "heap") (ak (aq 5) aH))) (ak (aq 7) aH))))))))))))
def G4(K:aG)(di cL:Sp):TS:=
 (aP (bH (aU cL [] E0 (ak ρ (ak (aZ (dX K) ψ τ) aH))) (aR 2))
   (aP (bH (aZ (fO K) Ω (aZ (dX K) ψ (tC (.int 3)))) (aR 3))
   (aP (bH (aq 3) (Su Ω (aZ (dX K) ψ (tC (.int 2))) FW))
   (bB (fV (ak (tC (.str "copied")) (ak (aU di [] E0 (ak (bD K ρ "heap") (ak (aq 3) aH))) (ak (eF aH) aH))))))))
def G3(K:aG)(di cL:Sp):TS:=
 (aP (bH (aU cL [] E0 (ak ρ (ak (aZ (dX K) ψ τ) aH))) (aR 2))
   (aP (bH (aZ (fO K) Ω (aZ (dX K) ψ (tC (.int 2)))) (aR 3))
   (aP (bH (tC .non) (Su Ω (aZ (dX K) ψ (tC (.int 2))) FW))
   (bB (fV (ak (tC (.str "dropped")) (ak (aU di [] E0 (ak (bD K ρ "heap") (ak (aq 3) aH))) (ak (eF aH) aH))))))))
def GZ(K:aG)(di gU cL uv:Sp):TS:=
 (aP (bH (aZ (dX K) ψ τ) (aR 2))
   (aP (bH (aZ (dX K) ψ (tC (.int 3))) (aR 3))
   (aP (bH (aZ (fO K) (aU cL [] E0 (ak ρ (ak Ω aH))) (aZ (dX K) ψ (tC (.int 2)))) (aR 4))
   (aP (bH (aq 4) (Su (aU cL [] E0 (ak ρ (ak (aq 3) aH))) (aZ (dX K) ψ (tC (.int 4))) FW))
   (aP (bH (aU gU [] E0 (ak ρ (ak (aU uv [] E0 (ak ρ (ak Ω (ak (aq 4) aH)))) aH))) (aR 5))
   (bB (fV (ak (tC (.str "given")) (ak (aU di [] E0 (ak (bD K ρ "heap") (ak (aq 4) aH))) (ak (aq 5) aH))))))))))
def Cy(K:aG)(mU:Sp)(E:XK):TS:=
 (aP (bH (aU mU [] E (ak ρ (ak (aZ (dX K) ψ τ) (ak (aZ (dX K) ψ (tC (.int 2))) aH)))) (aR 2))
   (aP (bH (bD K Ω "load") (aR 3))
   (aP (dW K Ω (aZ (dX K) ψ (tC (.int 3))) "load")
   (bB (fV (ak (tC (.str "wrote")) (ak (aq 3) (ak (eF aH) aH))))))))
def GQ(K:aG)(mU:Sp)(E:XK):TS:=
 (aP (bH (aU mU [] E (ak ρ (ak (aZ (dX K) ψ τ) (ak (aZ (dX K) ψ (tC (.int 2))) aH)))) (aR 2))
   (bB (fV (ak (tC (.str "read")) (ak (bD K Ω "load") (ak (eF aH) aH))))))
def GR(K:aG)(mU cL:Sp)(E:XK):TS:=
 (aP (bH (aZ (dX K) ψ τ) (aR 2))
   (aP (bH (aZ (dX K) ψ (tC (.int 2))) (aR 3))
   (aP (bH (bD K (aU mU [] E (ak ρ (ak Ω (ak (aq 3) aH)))) "birth") (aR 4))
   (aP (Zhr (bD K ρ "names") (aZ (dX K) ψ (tC (.int 3))) (fV (ak (aZ (fO K) (aU cL [] E0 (ak ρ (ak Ω aH))) (aq 3)) (ak (aq 4) aH))))
   (bB (fV (ak (tC (.str "named")) (ak (aq 4) (ak (eF aH) aH)))))))))
def GP(K:aG)(di gU Qp cL:Sp)(E:XK):TS:=
 (aP (bH (aU Qp [] E (ak ρ (ak (aZ (dX K) ψ (tC (.int 3))) aH))) (aR 2))
   (aP (bH Ω (Su (aU cL [] E0 (ak ρ (ak (aZ (dX K) ψ τ) aH))) (aZ (dX K) ψ (tC (.int 2))) FW))
   (aP (bH (aU gU [] E0 (ak ρ (ak (eF (ak Ω aH)) aH))) (aR 3))
   (bB (fV (ak (tC (.str "sought")) (ak (aU di [] E0 (ak (bD K ρ "heap") (ak Ω aH))) (ak (aq 3) aH))))))))
def uG(K:aG)(aV:AI)(X6:Sp)(E:XK):TS:=
 (aP (dJ (tB (XS ψ (bD K ρ "names"))) (G.Ku aV E (ak (tC (.str "the weak name was never given")) aH)) cu)
   (aP (bH (aZ (dX K) (Zbe (bD K ρ "names") ψ) Γ) (aR 2))
   (aP (bH (aZ (dX K) (Zbe (bD K ρ "names") ψ) τ) (aR 3))
   (aP (dJ (tB (aU X6 [] E0 (ak ρ (ak Ω (ak (aq 3) aH))))) (bB (tC .non)) cu)
   (bB Ω)))))
def Zlv(K:aG)(iZ iY kJ iW iV iU kE iT iR gD:AI)(Zey Zex Zj9 Zew Zev Zeu Zj8 Zet Zes Zbh:Sp)(E:XK):TS:=
 (aP (bH (G.Zp4 [("make",iV),("get",kJ),("put",kE),("copy",iZ),("drop",iY),("give",iW),("write",gD),("read",iT),("name",iU),("seek",iR)] (aZ (dX K) ψ Γ)) (aR 2))
   (bB (G.X3 2 [(iV,Zev),(kJ,Zj9),(kE,Zj8),(iZ,Zey),(iY,Zex),(iW,Zew),(gD,Zbh),(iT,Zet),(iU,Zeu),(iR,Zes)] E (ak ρ (ak ψ aH)))))
def nH(K:aG):TS:=
 (aP (dW K ρ ψ "room")
   (aP (dW K ρ Ω "kind")
   (aP (dW K ρ (vC (G.Ao K) (ak (aq 3) aH)) "hands")
   (dW K ρ (vC (G.Ao K) (ak (aq 4) aH)) "rows"))))
def Cq(K:aG)(pI:AI)(Ih:Sp):TS:=
 (bB (xN pI Ih [] E0 (ak (bD K ρ "room") (ak (bD K ρ "kind") (ak (bD K ρ "hands") aH)))))
def zm(K:aG)(Wt:Sp):TS:=
 (aP (bH (eF aH) (aR 2))
   (aP (Bt (G.R9 K (ak ψ aH)) (Zgp K 2 (yt (aR 3) (yt (aR 4) Zgq)))
   (lJ (Wr K "list" PB Ω (ak (aU Wt [] E0 (ak ρ (ak (aq 4) (ak (fV (ak (aq 3) aH)) aH)))) aH))))
   (aP (bH (Zek) (aR 5))
   (aP (bH Γ (aR 6))
   (aP (XR (bV (aZ (lK λi j=>.bl (decide (i<j))) (aq 6) (vC (G.jt K) (ak Ω aH)))) (aP (bH (aZ (dX K) (aZ (fO K) Ω (aq 6)) Γ) (aR 7))
   (aP (bH (aZ (dX K) (aZ (fO K) Ω (aq 6)) τ) (aR 8))
   (aP (bH (aZ Θ (aq 6) τ) (aR 6))
   (dJ (tB (G.Zlf true (aq 7) (aq 5))) (aP (Zhr (aq 5) (aq 7) (aq 8))
   (lJ (Wr K "list" PB Ω (ak (aU Wt [] E0 (ak ρ (ak (bD K (aZ (fO K) (bD K ρ "cells") (aq 7)) "fields") (ak (aq 8) aH)))) aH)))) cu)))))
   (bB (vC (G.Zhc) (ak (G.Zej (aq 5)) aH))))))))
def Ew(K:aG)(gC:Sp):TS:=
 (bB (G.Zle K (G.R9 K (ak ψ aH)) [0,2] (bV (aZ (G.Jc) (aU gC [] E0 (ak Ω (ak ψ aH))) (tC .non))) (fV (ak ψ (ak (aZ (Zrl K) (aq 3) (fV (ak ρ aH))) aH)))))
def wV(K:aG)(gU:Sp):TS:=
 (aP (bH (eF aH) (aR 2))
   (aP (Bt (G.R9 K (ak (bD K ρ "hands") aH)) (Zgp K 2 (yt (aR 3) (yt (aR 4) Zgq)))
   (dJ (bV (aZ (Fq) (aZ (lK λi j=>.int (Builtin.bitAnd i j)) (aZ (rI (λ_ j=>0<=j) λi j=>.int (i / 2 ^ j.toNat)) ψ (aq 3)) τ) τ)) (lJ (Wr K "list" PB Ω (ak (aU gU [] E0 (ak ρ (ak (bD K (aq 4) "slots") aH))) aH))) cu))
   (bB Ω)))
def sU(K:aG)(Zlo lV:Sp):TS:=
 (aP (lJ (aU Zlo [] E0 (ak ρ aH)))
   (aP (bH (aU lV [] E0 (ak ρ (ak (bD K (bD K ρ "sweeper") "looked") aH))) (aR 1))
   (bB (fV (ak (tC (.str "begin")) (ak (bD K (bD K ρ "sweeper") "turn") (ak ψ aH)))))))
def sO(K:aG)(Qq Zp6:Sp):TS:=
 (aP (dJ (G.Zsb K (bD K (bD K ρ "sweeper") "grey")) (bB (aU Zp6 [] E0 (ak ρ aH))) cu)
   (bB (aU Qq [] E0 (ak ρ aH))))
def YL(K:aG)(gU:Sp):TS:=
 (aP (bH (bD K ρ "sweeper") (aR 1))
   (aP (bH (aZ (fO K) (bD K (bD K ρ "heap") "cells") (Wr K "list" Zlw (bD K ψ "grey") (ak Γ aH))) (aR 2))
   (aP (dW K ψ (aZ Θ (bD K ψ "walks") τ) "walks")
   (bB (fV (ak (tC (.str "walk")) (ak (bD K Ω "birth") (ak (aU gU [] E0 (ak ρ (ak (bD K Ω "fields") aH))) aH))))))))
def lO(K:aG)(jD gK kZ:AI)(qx gm Zez lV:Sp):TS:=
 (aP (bH (aU lV [] E0 (ak ρ (ak (aq 3) aH))) (aR 4))
   (aP (dJ ((Kw (bV (aZ (Fq) (aq 3) Γ)) (vH ((Kw (tB (G.Kv (iK gK "stays" gm [] E0 Ω aH) (G.Kv (iK jD "stays" gm [] E0 Ω aH) (iK kZ "stays" qx [] E0 Ω aH)))) (G.Zsb K (aq 4))))))) (bB (aU Zez [] E0 (ak ρ aH))) cu)
   (aP (dW K ψ (aZ Θ (bD K ψ "looks") τ) "looks")
   (aP (dJ (tB (G.Kv (iK gK "stays" gm [] E0 Ω aH) (G.Kv (iK jD "stays" gm [] E0 Ω aH) (iK kZ "stays" qx [] E0 Ω aH)))) (dW K ψ (aZ (lK λi j=>.int (Builtin.bitOr i j)) (bD K ψ "looked") (aq 3)) "looked") cu)
   (bB (fV (ak (tC (.str "look")) (ak (aq 3) (ak (aq 4) aH)))))))))
def uH(K:aG)(jD gK kZ:AI)(Il Ij qx Bu gm Zez lV:Sp):TS:=
 (aP (bH (bD K ρ "sweeper") (aR 1))
   (aP (bH (bD K (bD K ρ "kind") "looking") (aR 2))
   (aP (bH (G.Kv (iK gK "next_look" Bu [] E0 Ω (ak (bD K ψ "looked") (ak (vC (G.jt K) (ak (bD K ρ "hands") aH)) aH))) (G.Kv (iK jD "next_look" Il [] E0 Ω (ak (bD K ψ "looked") (ak (vC (G.jt K) (ak (bD K ρ "hands") aH)) aH))) (iK kZ "next_look" Ij [] E0 Ω (ak (bD K ψ "looked") (ak (vC (G.jt K) (ak (bD K ρ "hands") aH)) aH))))) (aR 3))
   (lO K jD gK kZ qx gm Zez lV))))
def Zfr(K:aG)(X7 Ug Zbg wI:Sp):TS:=
 (aP (bH (bD K ρ "sweeper") (aR 1))
   (aP (dW K ψ (vC (G.jt K) (ak (bD K (bD K ρ "heap") "cells") aH)) "stop")
   (aP (dW K ψ Γ "at")
   (aP (bH (aU Ug [] E0 (ak ρ aH)) (aR 2))
   (aP (dJ (bV (aZ (G.Jc) Ω (tC .non))) (aP (dW K ψ (tC (.str "lost")) "phase")
   (aP (dW K ψ Ω "loss")
   (bB (aU wI [] E0 (ak Ω aH))))) cu)
   (aP (dW K ψ (tC (.str "give")) "phase")
   (aP (bH (aU X7 [] E0 (ak (bD K ρ "heap") (ak (aU Zbg [] E0 (ak ρ aH)) aH))) (aR 3))
   (bB (fV (ak (tC (.str "cut")) (ak (vC (G.jt K) (ak (aq 3) aH)) (ak (aq 3) aH))))))))))))
def wX(K:aG)(eN Zer Zll:Sp):TS:=
 (aP (Bt (yq K (aU Zer [] E0 (ak (bD K ρ "heap") (ak (aU Zll [] E0 (ak ρ aH)) aH)))) (Zgp K 2 (yt (aR 1) (yt (aR 2) Zgq)))
   (aP (bH (aZ (fO K) (bD K (bD K ρ "heap") "cells") ψ) (aR 3))
   (dJ (vH (tB (aU eN [] E0 (ak ρ (ak (aq 3) aH))))) (bB (fV (ak (tC (.str "lost")) (ak (bD K (aq 3) "birth") (ak (vC (G.Zor K) (ak Ω aH)) aH))))) cu)))
   (bB (tC .non)))
def Cw(K:aG)(bG:AI)(Ul eN:Sp):TS:=
 (aP (bH (bD K ρ "heap") (aR 1))
   (bB (G.tLC (yq K (iK bG "there" Ul [] E0 ψ aH)) [0,1] (vH (tB (aU eN [] E0 (ak ψ (ak (aZ (fO K) (bD K Ω "cells") ρ) aH))))) ρ)))
def wQ(K:aG):TS:=
 (bB (fV (ak (aZ (dX K) ρ Γ) (ak (aZ (dX K) ρ τ) (ak (vC (G.Ao K) (ak (aZ (dX K) ρ (tC (.int 2))) aH)) aH)))))
def sS(K:aG)(Zsc Ud:Sp):TS:=
 (aP (dJ (bV (aZ (lK λi j=>.bl (decide (i<j))) (bD K (bD K ρ "sweeper") "at") (bD K (bD K ρ "sweeper") "stop"))) (bB (aU Ud [] E0 (ak ρ aH))) cu)
   (bB (aU Zsc [] E0 (ak ρ aH))))
def wU(K:aG)(bG:AI)(Yj gC eN:Sp):TS:=
 (aP (bH (bD K ρ "sweeper") (aR 1))
   (aP (bH (bD K ψ "at") (aR 2))
   (aP (dW K ψ (aZ Θ Ω τ) "at")
   (aP (dW K ψ (aZ Θ (bD K ψ "passes") τ) "passes")
   (aP (bH (aU gC [] E0 (ak (bD K ρ "heap") (ak Ω aH))) (aR 3))
   (aP (dJ ((Kw (bV (aZ (G.QT) (aq 3) (tC .non))) (tB (aU eN [] E0 (ak ρ (ak (aq 3) aH)))))) (bB (fV (ak (tC (.str "pass")) (ak Ω (ak (eF aH) aH))))) cu)
   (bB (fV (ak (tC (.str "back")) (ak (iK bG "back" Yj [] E0 (bD K ρ "heap") (ak Ω aH)) (ak (eF (ak Ω aH)) aH)))))))))))
def Zfq(K:aG):TS:=
 (aP (bH (bD K ρ "sweeper") (aR 1))
   (aP (dW K ψ (tC (.str "rest")) "phase")
   (bB (fV (ak (tC (.str "end")) (ak (bD K ψ "turn") (ak (eF (ak (bD K ψ "walks") (ak (bD K ψ "looks") (ak (bD K ψ "passes") aH)))) aH)))))))
def nD(K:aG)(wI:Sp):TS:=
 (bB (aU wI [] E0 (ak (bD K (bD K ρ "sweeper") "loss") aH)))
def YM(K:aG)(dz dm dj cM:AI)(O1 OJ OD Ib:Sp):TS:=
 (aP (bH (G.Zp4 [("rest",dz),("walk",dj),("give",dm),("lost",cM)] (bD K (bD K ρ "sweeper") "phase")) (aR 1))
   (bB (G.X3 1 [(dz,O1),(dj,OD),(dm,OJ),(cM,Ib)] E0 (ak ρ aH))))
def GD(K:aG)(Ie:Sp):TS:=
 (aP (bH Γ (aR 1))
   (aP (XR (bV (aZ (rIn K true) (bD K (bD K ρ "sweeper") "phase") (fV (ak (tC (.str "rest")) (ak (tC (.str "lost")) aH))))) (aP (lJ (aU Ie [] E0 (ak ρ aH)))
   (bH (aZ Θ ψ τ) (aR 1))))
   (bB ψ)))
def Jb(K:aG)(Zlk Uc:Sp):TS:=
 (aP (dJ (bV (aZ (Fq) (aZ (dX K) ψ Γ) (tC (.str "sweep")))) (bB (aU Zlk [] E0 (ak ρ (ak (aZ (dX K) ψ τ) aH)))) cu)
   (bB (eF (ak (aU Uc [] E0 (ak ρ (ak ψ aH))) aH))))
def Cr(K:aG)(Ie wJ:Sp):TS:=
 (aP (bH (eF aH) (aR 2))
   (aP (XR ((Zlg (bV (aZ (lK λi j=>.bl (decide (i<j))) (vC (G.jt K) (ak Ω aH)) ψ)) (vH (tB (aU wJ [] E0 (ak Ω aH)))))) (lJ (Wr K "list" jN Ω (ak (aU Ie [] E0 (ak ρ aH)) aH))))
   (bB Ω)))
def wR(K:aG):TS:=
 (bB ((Bb (aZ (lK λi j=>.bl (decide (j<i))) (vC (G.jt K) (ak ρ aH)) Γ) (aZ (Fq) (aZ (dX K) (aZ (fO K) ρ ah) Γ) (tC (.str "lost"))))))
def wO(aJ bF aQ aV:AI)(Zlm yM:Sp):TS:=
 (G.Zla (λcls=>cls=Value.ref aJ) (λcls=>cls=Value.ref aQ) (λcls=>cls=Value.ref bF) (λcls=>cls=Value.ref aV) (λEx=>(bB (G.XX Zlm [] Ex (ak ρ (ak ψ aH))))) (bB (aU yM [] E0 (ak (tC (.str "empty")) aH))) (bB (aU yM [] E0 (ak (tC (.str "field")) aH))) (bB (aU yM [] E0 (ak (tC (.str "full")) aH))) (bB (aU yM [] E0 (ak (tC (.str "name")) aH))))
def GJ:TS:=
 (bB (fV (ak (tC (.str "refused")) (ak ρ (ak (eF aH) aH)))))
def Zfo(K:aG)(mR ur vM:Sp):TS:=
 (aP (bH (aU vM [] E0 (ak ρ aH)) (aR 2))
   (aP (bH (eF aH) (aR 3))
   (aP (Bt (yq K (tSl (U0 K) (bD K ρ "rows") tO (G.Zei ψ))) (aR 4)
   (aP (lJ (Wr K "list" jN (aq 3) (ak (aU ur [] E0 (ak Ω (ak (aq 4) aH))) aH)))
   (dJ (tB (aU mR [] E0 (ak (aq 3) aH))) (Zem) cu)))
   (bB (aq 3)))))
def GK(K:aG)(wJ:Sp):TS:=
 (bB ((Bb (aZ (lK λi j=>.bl (decide (j<i))) (vC (G.jt K) (ak ρ aH)) Γ) (aU wJ [] E0 (ak (aZ (fO K) ρ ah) aH)))))
def zL(K:aG):TS:=
 (aP (dJ (bV (aZ (lK λi j=>.bl (decide (i<j))) ψ (vC (G.jt K) (ak ρ aH)))) (bB (aZ (fO K) ρ ψ)) cu)
   (bB Γ))
def zJ:TS:=
 (aP (bH (aZ Θ (aZ ο ρ ψ) (tC (.int 11))) (aR 3))
   (bB (aZ ο (aZ ο (aZ (rI FN λi j=>.int (i * j)) (aZ ο (aZ (rI FN λi j=>.int (i * j)) (aq 3) (aq 3)) ψ) (tC (.int 16807))) ψ) Ω)))
def xg(K:aG):TS:=
 (aP (bH (tC (.str "abcdefghijklmnopqrstuvwxyz")) (aR 1))
   (aP (bH (eF aH) (aR 2))
   (aP (Bt (R8 (ak (aZ Θ τ (aZ ο ρ (tC (.int 5)))) aH)) (aR 3)
   (aP (bH (aZ (Zly) ψ (aZ ο (aZ Θ (aZ ae ρ (tC (.int 5))) (aZ (rI FN λi j=>.int (i * j)) (tC (.int 5)) (aq 3))) (tC (.int 26)))) (aR 4))
   (aP (bH (aZ (G.Zby) (aZ (G.Zby) (tSl (G.Zji) (tC (.str "loom")) tO (vJ (aZ ο (aZ ae ρ (tC (.int 7))) (tC (.int 5))))) (aq 4)) (tSl (G.Zji) (tC (.str "fernway")) tO (vJ (aZ ο (aZ ae ρ (tC (.int 11))) (tC (.int 8)))))) (aR 5))
   (lJ (Wr K "list" jN Ω (ak (fV (ak (aq 5) (ak (aZ Θ (tC (.int 3)) (aZ (rI FN λi j=>.int (i * j)) (aZ ο (aZ Θ (aZ ae ρ (tC (.int 3))) (aZ (rI FN λi j=>.int (i * j)) (aZ (rI FN λi j=>.int (i * j)) (tC (.int 2)) (aq 3)) (aq 3))) (tC (.int 7))) (aZ ο (aZ ae ρ (tC (.int 17))) (tC (.int 2))))) aH))) aH))))))
   (bB Ω))))
def zF:TS:=
 (aP (dJ (bV (aZ (Fq) (aZ ο ρ (tC (.int 3))) Γ)) (bB (aZ Θ (tC (.int 4)) (aZ ο (aZ ae ρ (tC (.int 3))) (tC (.int 60))))) cu)
   (aP (dJ (bV (aZ (Fq) (aZ ο ρ (tC (.int 3))) τ)) (bB (aZ (lK λi j=>.int (i - j)) (aZ (rI Tz λi j=>.int (i ^ j.toNat)) (tC (.int 10)) (tC (.int 15))) (aZ ο (aZ ae ρ (tC (.int 3))) (aZ (rI Tz λi j=>.int (i ^ j.toNat)) (tC (.int 10)) (tC (.int 12)))))) cu)
   (bB (aZ Θ (tC (.int 4)) (aZ ο (aZ ο (aZ (rI FN λi j=>.int (i * j)) ρ (tC (.int 48271))) (tC (.int 1000000000000037))) (aZ (lK λi j=>.int (i - j)) (aZ (rI Tz λi j=>.int (i ^ j.toNat)) (tC (.int 10)) (tC (.int 15))) (tC (.int 3))))))))
def zB:TS:=
 (aP (dJ (bV (aZ (Fq) (aZ ο ρ (tC (.int 5))) Γ)) (bB (aZ ο (aZ ae ρ (tC (.int 5))) ψ)) cu)
   (bB (aZ ο (aZ ae ρ (tC (.int 5))) (tC (.int 3)))))
def zy:TS:=
 (aP (bH (tC (.str "abcdefghijklmnopqrstuvwxyz")) (aR 2))
   (aP (bH (aZ (Zly) Ω (aZ ο (aZ Θ (aZ ae ρ (tC (.int 3))) (aZ (rI FN λi j=>.int (i * j)) (tC (.int 7)) ψ)) (tC (.int 26)))) (aR 3))
   (bB (aZ (G.Zby) (aZ (G.Zby) (tSl (G.Zji) (tC (.str "knot")) tO (vJ (aZ ο ρ (tC (.int 5))))) (aq 3)) (tSl (G.Zji) (tC (.str "ted")) tO (vJ (aZ ο (aZ ae ρ (tC (.int 5))) (tC (.int 4)))))))))
def zG(K:aG)(cQ:Sp):TS:=
 (aP (bH (aZ (fO K) (eF (ak τ (ak τ (ak τ (ak (tC (.int 2)) (ak (tC (.int 2)) (ak (tC (.int 2)) (ak (tC (.int 2)) (ak (tC (.int 3)) (ak Γ (ak (tC (.int 8)) aH))))))))))) (aU cQ [] E0 (ak ρ (ak (tC (.int 998717)) (ak (tC (.int 10)) aH))))) (aR 3))
   (aP (bH (aZ ο ρ (tC (.int 3))) (aR 4))
   (aP (dJ (bV (aZ (Fq) (aU cQ [] E0 (ak ρ (ak (tC (.int 998749)) (ak (tC (.int 8)) aH)))) τ)) (bH (aZ ο ρ (aZ Θ (aZ (rI Tz λi j=>.int (i ^ j.toNat)) (tC (.int 10)) (tC (.int 12))) τ)) (aR 4)) cu)
   (bB (fV (ak (tC (.str "make")) (ak ψ (ak Ω (ak (aq 3) (ak (aq 4) aH))))))))))
def wY(cQ:Sp):TS:=
 (aP (bH (aU cQ [] E0 (ak ρ (ak (tC (.int 998759)) (ak (tC (.int 1000)) aH)))) (aR 2))
   (aP (dJ (bV (aZ (Fq) (aZ ο Ω (tC (.int 2))) Γ)) (bB (fV (ak (tC (.str "sweep")) (ak (aZ Θ τ (aZ ο (aZ ae Ω (tC (.int 2))) (tC (.int 4)))) aH)))) cu)
   (bB (fV (ak (tC (.str "sweep")) (ak (aZ Θ τ (aZ ο (aZ ae Ω (tC (.int 2))) ψ)) aH))))))
def wZ(K:aG)(cQ tR X8:Sp):TS:=
 (aP (bH (aZ ο ρ (tC (.int 16))) (aR 5))
   (aP (bH (aU X8 [] E0 (ak (aq 4) (ak (aU cQ [] E0 (ak ρ (ak (tC (.int 998779)) (ak (tC (.int 3)) aH)))) aH))) (aR 6))
   (aP (dJ (bV (aZ (Fq) (aq 5) (tC (.int 9)))) (aP (bH (aU cQ [] E0 (ak ρ (ak (tC (.int 998813)) (ak (vC (G.jt K) (ak (aq 3) aH)) aH)))) (aR 7))
   (aP (bH (aZ (dX K) (aZ (fO K) (aq 3) (aq 7)) τ) (aR 8))
   (bB (fV (ak (tC (.str "give")) (ak ψ (ak Ω (ak (aq 7) (ak (aU tR [] E0 (ak (aU cQ [] E0 (ak ρ (ak (tC (.int 998819)) (ak (tC (.int 5000)) aH)))) (ak (aq 8) aH))) aH))))))))) cu)
   (aP (dJ (bV (aZ (Fq) (aq 5) (tC (.int 10)))) (bB (fV (ak (tC (.str "name")) (ak ψ (ak Ω (ak (aq 6) aH)))))) cu)
   (aP (dJ (bV (aZ (Fq) (aq 5) (tC (.int 11)))) (bB (fV (ak (tC (.str "seek")) (ak ψ (ak Ω (ak (aq 6) aH)))))) cu)
   (aP (dJ (bV (aZ (Fq) (aZ ο (aZ ae ρ (tC (.int 16))) (tC (.int 3))) Γ)) (bB (fV (ak (tC (.str "read")) (ak ψ (ak Ω aH))))) cu)
   (aP (dJ (bV (aZ (Fq) (aZ ο (aZ ae ρ (tC (.int 16))) (tC (.int 3))) τ)) (bB (fV (ak (tC (.str "write")) (ak ψ (ak Ω (ak (aZ ο ρ (aZ (rI Tz λi j=>.int (i ^ j.toNat)) (tC (.int 10)) (tC (.int 60)))) aH)))))) cu)
   (bB (fV (ak (tC (.str "write")) (ak ψ (ak Ω (ak (Ub (rU λi=>.int (-i)) (aZ ο (aZ (rI FN λi j=>.int (i * j)) ρ (tC (.int 48271))) (aZ (rI Tz λi j=>.int (i ^ j.toNat)) (tC (.int 10)) (tC (.int 60))))) aH)))))))))))))
def CG(K:aG)(cQ Yd Ui tR Uh:Sp):TS:=
 (aP (bH (aU cQ [] E0 (ak ρ (ak (tC (.int 999983)) (ak (vC (G.jt K) (ak ψ aH)) aH)))) (aR 4))
   (aP (bH (aU tR [] E0 (ak (aU cQ [] E0 (ak ρ (ak (tC (.int 1000003)) (ak (tC (.int 5000)) aH)))) (ak (aZ (dX K) (aZ (fO K) ψ (aq 4)) τ) aH))) (aR 5))
   (aP (bH (aU tR [] E0 (ak (aU cQ [] E0 (ak ρ (ak (tC (.int 1000033)) (ak (tC (.int 5000)) aH)))) (ak (aZ (dX K) (aZ (fO K) ψ (aq 4)) τ) aH))) (aR 6))
   (aP (bH (aU cQ [] E0 (ak ρ (ak (tC (.int 1000037)) (ak (tC (.int 3)) aH)))) (aR 7))
   (aP (bH (aZ ο ρ (tC (.int 16))) (aR 8))
   (aP (dJ (bV (aZ (lK λi j=>.bl (decide (i<j))) (aq 8) (tC (.int 3)))) (bB (aU Yd [] E0 (ak ρ (ak (aq 4) (ak (aq 5) aH))))) cu)
   (aP (dJ (bV (aZ (lK λi j=>.bl (decide (i<j))) (aq 8) (tC (.int 5)))) (bB (fV (ak (tC (.str "get")) (ak (aq 4) (ak (aq 5) (ak (aq 6) (ak (aq 7) aH))))))) cu)
   (aP (dJ (bV (aZ (lK λi j=>.bl (decide (i<j))) (aq 8) (tC (.int 7)))) (bB (fV (ak (tC (.str "put")) (ak (aq 4) (ak (aq 5) (ak (aq 7) (ak (aq 6) aH))))))) cu)
   (aP (dJ (bV (aZ (Fq) (aq 8) (tC (.int 7)))) (bB (fV (ak (tC (.str "drop")) (ak (aq 4) (ak (aq 5) aH))))) cu)
   (aP (dJ (bV (aZ (Fq) (aq 8) (tC (.int 8)))) (bB (fV (ak (tC (.str "copy")) (ak (aq 4) (ak (aq 5) (ak (aq 6) aH)))))) cu)
   (aP (dJ (bV (aZ (lK λi j=>.bl (decide (j<i))) (aq 8) (tC (.int 12)))) (bB (aU Uh [] E0 (ak ρ (ak (aq 3) aH)))) cu)
   (bB (aU Ui [] E0 (ak ρ (ak (aq 4) (ak (aq 5) (ak ψ (ak Ω aH))))))))))))))))))
def zE(K:aG)(Zbi:Sp):TS:=
 (aP (bH (eF aH) (aR 4))
   (aP (Bt (G.R9 K (ak ρ aH)) (Zgp K 2 (yt (aR 5) (yt (aR 6) Zgq)))
   (lJ (Wr K "list" jN (aq 4) (ak (aU Zbi [] E0 (ak (aZ Θ (aq 6) (aZ (rI FN λi j=>.int (i * j)) (aZ (rI FN λi j=>.int (i * j)) (tC (.int 10007)) (aq 5)) (aq 5))) (ak ψ (ak Ω (ak (aq 3) aH))))) aH))))
   (bB (aq 4))))
def zH(jD gK xM kZ:AI)(pN:Sp):TS:=
 (aP (bH (aZ ο (aZ ae ρ (tC (.int 3))) (tC (.int 4))) (aR 1))
   (aP (dJ (bV (aZ (Fq) (aZ ο ρ (tC (.int 3))) Γ)) (bB (xN xM pN [] E0 (ak (G.Ky gK) (ak ψ aH)))) cu)
   (aP (dJ (bV (aZ (Fq) (aZ ο ρ (tC (.int 3))) τ)) (bB (xN xM pN [] E0 (ak (G.Ky jD) (ak ψ aH)))) cu)
   (bB (xN xM pN [] E0 (ak (G.Ky kZ) (ak ψ aH)))))))
def sV(K:aG):TS:=
 (aP (bH (eF (ak (tC (.str "empty")) (ak (tC (.str "field")) (ak (tC (.str "full")) (ak (tC (.str "name")) aH))))) (aR 1))
   (bB (G.tLC (R8 (ak (tC (.int 4)) aH)) [0,1] (tB (aZ (fO K) ψ ρ)) (fV (ak (tC (.str "refused")) (ak (aZ (fO K) Ω ρ) (ak (eF aH) aH)))))))
def zK(K:aG)(aJ bF aQ aV:AI)(O2 Zlm Ie:Sp)(isk:AJ->AJ->Option Bool):TS:=
 (aP (bH (eF aH) (aR 2))
   (aP (dJ (bV (aZ (Fq) (aZ (dX K) ψ Γ) (tC (.str "sweep")))) (aP (Bt (R8 (ak (aZ (dX K) ψ τ) aH)) (aR 3)
   (dJ ((Kw (bV (aZ (G.Lr K false) Ω (eF aH))) (bV (aZ (rNe) (aZ (dX K) (aZ (fO K) Ω ah) Γ) (tC (.str "lost")))))) (lJ (Wr K "list" jN Ω (ak (aU Ie [] E0 (ak ρ aH)) aH))) cu))
   (bB Ω)) cu)
   (aP (bH (tC .non) (aR 4))
   (aP (bH (tC .non) (aR 5))
   (aP (G.Zeh (λcls=>cls=Value.ref aJ\/cls=Value.ref aQ\/cls=Value.ref bF\/cls=Value.ref aV) 6 (λEx=>(bH (G.XX Zlm [] Ex (ak ρ (ak ψ aH))) (aR 5))) (bH (eF (ak (vC (G.Xw [aJ,aQ,bF,aV] isk) (ak (aq 6) (ak (tC (.ref aJ)) aH))) (ak (vC (G.Xw [aJ,aQ,bF,aV] isk) (ak (aq 6) (ak (tC (.ref aQ)) aH))) (ak (vC (G.Xw [aJ,aQ,bF,aV] isk) (ak (aq 6) (ak (tC (.ref bF)) aH))) (ak (vC (G.Xw [aJ,aQ,bF,aV] isk) (ak (aq 6) (ak (tC (.ref aV)) aH))) aH))))) (aR 4)))
   (aP (dJ (bV (aZ (G.QT) (aq 4) (tC .non))) (bB (eF (ak (aq 5) aH))) cu)
   (bB (aU O2 [] E0 (ak (aq 4) aH)))))))))
def w6(K:aG):TS:=
 (aP (dJ (vH (tB (vC (G.Ti) (ak ρ (ak (tC (.ty "list")) aH))))) (bB (tC (.bl false))) cu)
   (aP (Bt (yq K ρ) (aR 1)
   (aP (dJ (vH (tB (vC (G.Ti) (ak ψ (ak (tC (.ty "list")) aH))))) (bB (tC (.bl false))) cu)
   (Bt (yq K ψ) (aR 2)
   (dJ ((Kw (vH (tB (vC (G.Ti) (ak Ω (ak (tC (.ty "tuple")) aH))))) (Kw (bV (aZ (rNe) (vC (G.jt K) (ak Ω aH)) (tC (.int 3)))) (vH (tB (vC (G.Ti) (ak (aZ (dX K) Ω (tC (.int 2))) (ak (tC (.ty "list")) aH)))))))) (bB (tC (.bl false))) cu))))
   (bB (tC (.bl true)))))
def zA:TS:=
 (bB ((Bb (vC (G.Ti) (ak ρ (ak (tC (.ty "bool")) aH))) (aZ (Fq) ρ ψ))))
def sW(K:aG):TS:=
 (Bt (yq K ρ) (aR 1)
   (lJ (Wr K "list" jN (aZ (dX K) ψ (tC (.int 2))) (ak (tC (.int 7)) aH))))
def xj(K:aG)(sr lW Zeo ur:Sp):TS:=
 (aP (bH (fV (ak (aZ (dX K) ψ Γ) (ak (aZ (dX K) ψ τ) (ak (vC (G.Ao K) (ak (aZ (dX K) ψ (tC (.int 2))) aH)) aH)))) (aR 2))
   (aP (bH (aU Zeo [] E0 (ak ρ aH)) (aR 3))
   (aP (dJ ((Kw (tB (vC (G.Ti) (ak (aq 3) (ak (tC (.ty "bool")) aH)))) (bV (aZ (rNe) (aq 3) Γ)))) (bB (tC (.bl false))) cu)
   (aP (bH (aU ur [] E0 (ak ρ (ak (fV (ak (tC (.str "sweep")) (ak (tC (.int 3)) aH))) aH))) (aR 4))
   (aP (dJ ((Kw (vH (tB (aU lW [] E0 (ak (eF (ak (aq 4) aH)) aH)))) (bV (aZ (G.Lq K true) (aq 4) (eF (ak Ω aH)))))) (bB (tC (.bl false))) cu)
   (aP (lJ (aU sr [] E0 (ak (aq 4) aH)))
   (bB ((Bb (aZ (G.Lq K false) (aU ur [] E0 (ak ρ (ak (fV (ak (tC (.str "sweep")) (ak τ aH))) aH))) (eF (ak Ω aH))) (aZ (G.Lq K false) (aU ur [] E0 (ak ρ (ak (fV (ak (tC (.str "sweep")) (ak (tC (.int 2)) aH))) aH))) (eF (ak Ω aH))))))))))))
def sX(K:aG):TS:=
 (aP (bH (eF aH) (aR 1))
   (aP (Bt (G.R9 K (ak ρ aH)) (Zgp K 2 (yt (aR 2) (yt (aR 3) Zgq)))
   (aP (dJ ((Kw (bV (aZ (G.Lr K false) ψ (eF aH))) (bV (aZ (lK λi j=>.bl (decide (j<i))) (aZ ο (aq 3) (tC (.int 3))) Γ)))) (lJ (Wr K "list" jN ψ (ak (eF aH) aH))) cu)
   (lJ (Wr K "list" jN (aZ (fO K) ψ ah) (ak (fV (ak (aZ (fO K) (eF (ak (tC (.str "lost")) (ak (tC (.str "made")) (ak (tC (.str "end")) (ak (tC (.str "lost")) (ak (tC (.str "pass")) aH)))))) (aZ ο (aZ ae (aq 3) (tC (.int 3))) (tC (.int 5)))) (ak Ω (ak (eF (ak (aZ ο (aq 3) (tC (.int 9))) aH)) aH)))) aH)))))
   (bB ψ)))
def nF(K:aG)(O3 tQ mR:Sp):TS:=
 (aP (bH (aU O3 [] E0 (ak ρ aH)) (aR 1))
   (aP (Bt (Zns (ak τ (ak (aZ Θ (vC (G.jt K) (ak ψ aH)) τ) aH))) (aR 2)
   (dJ (vH (tB (aU tQ [] E0 (ak (aU mR [] E0 (ak (tSl (U0 K) ψ tO (vJ Ω)) aH)) (ak (aZ (Fq) (aZ (dX K) (aZ (fO K) (aZ (fO K) ψ (aZ (lK λi j=>.int (i - j)) Ω τ)) ah) Γ) (tC (.str "lost"))) aH))))) (bB (tC (.bl false))) cu))
   (bB (tC (.bl true)))))
def Zfp(K:aG)(bw:AI)(Ii Uk nC sr Yg cQ Ig Uj Ye lW Yc Yb tQ mR Zep ur vM:Sp):TS:=
 (aP (bH (aU Uj [] E0 (ak (aU nC [] E0 (ak ρ (ak τ aH))) aH)) (aR 1))
   (aP (bH (aU Yb [] E0 (ak (tSl (U0 K) ρ (vJ (tC (.int 3))) (vJ (tC (.int 43)))) (ak ψ (ak (aU nC [] E0 (ak ρ (ak (tC (.int 2)) aH))) (ak (tC (.int 12)) aH))))) (aR 2))
   (aP (bH (aU Ye [] E0 (ak (aU nC [] E0 (ak ρ (ak Γ aH))) aH)) (aR 3))
   (aP (bH (xN bw Ii [] E0 (ak (aU Yc [] E0 (ak (aU nC [] E0 (ak ρ (ak (tC (.int 2)) aH))) aH)) (ak (aq 3) (ak (vC (G.Ao K) (ak ψ aH)) (ak (vC (G.Ao K) (ak Ω aH)) aH))))) (aR 4))
   (aP (bH (aU vM [] E0 (ak (aq 4) aH)) (aR 5))
   (aP (bH (aU vM [] E0 (ak (aq 4) aH)) (aR 6))
   (aP (bH (eF aH) (aR 7))
   (aP (Bt (yq K Ω) (aR 8)
   (dJ ((Kw (bV (aZ (G.Lr K false) (aq 7) (eF aH))) (bV (aZ (rNe) (aZ (dX K) (aZ (fO K) (aZ (fO K) (aq 7) ah) ah) Γ) (tC (.str "lost")))))) (aP (lJ (Wr K "list" jN (aq 7) (ak (aU Yg [] E0 (ak (aq 5) (ak (aq 8) aH))) aH)))
   (aP (bH (aU ur [] E0 (ak (aq 6) (ak (aq 8) aH))) (aR 9))
   (aP (dJ ((Kw (vH (tB (aU lW [] E0 (ak (eF (ak (aq 9) aH)) aH)))) (bV (aZ (G.Lq K true) (aq 9) (aZ (fO K) (aq 7) ah))))) (bB (tC (.bl false))) cu)
   (lJ (aU sr [] E0 (ak (aq 9) aH)))))) cu))
   (aP (bH (aU Zep [.non] E0 (ak (aq 4) aH)) (aR 10))
   (aP (dJ ((Kw (vH (tB (aU lW [] E0 (ak (aq 10) aH)))) (Kw (bV (aZ (G.Lq K true) (aq 10) (aq 7))) (bV (aZ (G.Zlx) (aU mR [] E0 (ak (eF aH) aH)) (tC (.bl false))))))) (bB (tC (.bl false))) cu)
   (aP (bH (aU cQ [] E0 (ak (aU nC [] E0 (ak ρ (ak τ aH))) (ak (tC (.int 1000003)) (ak (aZ Θ (vC (G.jt K) (ak Ω aH)) (tC (.int 3))) aH)))) (aR 11))
   (aP (bH (aU Zep [] E0 (ak (aq 4) (ak (aq 11) aH))) (aR 12))
   (aP (dJ ((Kw (vH (tB (aU lW [] E0 (ak (aq 12) aH)))) (Kw (bV (aZ (G.Lq K true) (aq 12) (tSl (U0 K) (aq 7) tO (vJ (aq 11))))) (bV (aZ (G.Lq K true) (aU Zep [] E0 (ak (aq 4) (ak (tC .non) aH))) (aq 7)))))) (bB (tC (.bl false))) cu)
   (aP (bH ((Bb (aZ (G.Lr K true) (aq 7) (eF aH)) (aZ (Fq) (aZ (dX K) (aZ (fO K) (aZ (fO K) (aq 7) ah) ah) Γ) (tC (.str "lost"))))) (aR 13))
   (aP (dJ ((Kw (vH (tB (aU tQ [] E0 (ak (aU mR [] E0 (ak (aq 10) aH)) (ak (aq 13) aH))))) (vH (tB (aU tQ [] E0 (ak (aU mR [] E0 (ak (aq 12) aH)) (ak ((Bb (aq 13) (aZ (lK λi j=>.bl (decide (j<=i))) (aq 11) (vC (G.jt K) (ak (aq 7) aH))))) aH))))))) (bB (tC (.bl false))) cu)
   (aP (dJ ((Zlg (tB (aq 13)) (vH (tB (aU Uk [] E0 (ak (aq 6) (ak (aZ (fO K) (aZ (fO K) (aq 7) ah) ah) aH))))))) (bB (tC (.bl false))) cu)
   (aP (dJ (vH (tB (aU Ig [] E0 (ak (tSl (U0 K) ρ (vJ (tC (.int 3))) (vJ (tC (.int 43)))) aH)))) (bB (tC (.bl false))) cu)
   (bB ((Bb (aZ (G.Lq K false) (bD K (aq 4) "rows") Ω) (aZ (G.Lq K false) (bD K (aq 4) "hands") ψ)))))))))))))))))))))
structure TxC(K:aG)(bI bG:AI):Prop where
 cN:Er K bI
 cX:bA K bI "birth"
 kh:bA K bI "bulk"
 jq:bA K bI "tone"
 gZ:bA K bI "load"
 dN:bA K bI "fields"
 cC:Er K bG
 j7:bA K bG "room"
 bK:bA K bG "cells"
 fH:bA K bG "used"
 jo:bA K bG "born"
 P0:EqD K bI
structure yK(CC:AI)(H:Hp)(p fa:AI)(birth bulk tone load:Int)(fl:List V):Prop where
 o:∃dx,H p=some (.ins CC dx (jT birth bulk tone load fa))
 f:H fa=some (.lst fl)
theorem yK.same{CC:AI}{H H':Hp}{p fa:AI}{birth bulk tone load:Int}{fl:List V}(h:yK CC H p fa birth bulk tone load fl)(s:aY H H'):yK CC H' p fa birth bulk tone load fl:=by
 obtain⟨⟨dx,h1⟩,h2⟩:=h;exact⟨⟨dx,s _ _ h1⟩,s _ _ h2⟩
structure HpO(CH:AI)(H:Hp)(hp ca:AI)(room used born:Int)(cs:List V):Prop where
 o:∃dx,H hp=some (.ins CH dx (gM room ca used born))
 c:H ca=some (.lst cs)
theorem Tc{a b c d e f g:Int}{x y:AI}:jT a b c d x≠gM e y f g:=λz=>by
 have:=congrArg List.length z;cases this
def Ek(CC:AI):Sp:=λvs H Q E=>∃p birth many bulk tone,vs=[.ref p,.int birth,.int many,.int bulk,.int tone]/\∃dx,H p=some (.ins CC dx [])/\0<=many/\many<=1000/\
 ∀fa H',H fa=none->H' p=some (.ins CC dx (jT birth bulk tone 0 fa))->H' fa=some (.lst (List.replicate many.toNat V.non))->(∀b o,H b=some o->b≠p->H' b=some o)->Q .non H'
def pH(CC:AI):Sp:=λvs H Q E=>∃p,vs=[.ref p]/\∃fa birth bulk tone load fl,yK CC H p fa birth bulk tone load fl/\Q (.int (1+fl.length+bulk)) H
def Eh(CH:AI):Sp:=λvs H Q E=>∃p room,vs=[.ref p,.int room]/\∃dx,H p=some (.ins CH dx [])/\
 ∀ca H',H ca=none->H' p=some (.ins CH dx (gM room ca 0 0))->H' ca=some (.lst [])->(∀b o,H b=some o->b≠p->H' b=some o)->Q .non H'
def Ei(CH:AI):Sp:=λvs H Q E=>∃hp,vs=[.ref hp]/\∃ca room used born cs,HpO CH H hp ca room used born cs/\Q (.int (room - used)) H
def plc(cs:List V):AE:=((List.range cs.length).filter λi=>!decide (cs[i]? =some V.non)).map λ(i:Nat)=>(i:Int)
def Az(CH:AI):Sp:=λvs H Q E=>∃hp,vs=[.ref hp]/\∃ca room used born cs,HpO CH H hp ca room used born cs/\cs.length<=1000/\∀l,H l=none->Q (.ref l) (upd H l (.lst ((plc cs).map V.int)))
def putN(cs:List V)(v:V):List V:=if V.non∈cs then cs.set (cs.idxOf V.non) v else cs++[v]
def HF(K:aG)(CH:AI):Sp:=λvs H Q E=>∃hp v,vs=[.ref hp,v]/\∃ca room used born cs,HpO CH H hp ca room used born cs/\OkN K H cs/\cs.length<=1000/\Q (.int (cs.idxOf V.non)) (upd H ca (.lst (putN cs v)))
def wH(CC CH:AI):Sp:=λvs H Q E=>∃hp i,vs=[.ref hp,.int i]/\∃ca dx room used born cs p fa birth bulk tone load fl,0<=i/\H hp=some (.ins CH dx (gM room ca used born))/\H ca=some (.lst cs)/\cs[i.toNat]? =↑p/\yK CC H p fa birth bulk tone load fl/\
 Q (.int birth) (upd (upd H hp (.ins CH dx (gM room ca (used - (1+fl.length+bulk)) born))) ca (.lst (cs.set i.toNat V.non)))
def Eg(K:aG)(CC CH CF:AI):Sp:=λvs H Q E=>∃hp many bulk tone,vs=[.ref hp,.int many,.int bulk,.int tone]/\∃ca dx room used born cs,H hp=some (.ins CH dx (gM room ca used born))/\H ca=some (.lst cs)/\OkN K H cs/\cs.length<=1000/\0<=many/\many<=1000/\
 (room - used<1+many+bulk->∀H',aY H H'->E (.ref CF) none H')/\
 (1+many+bulk<=room - used->∀p fa H',H p=none->H fa=none->Fm [hp,ca] H H'->H' hp=some (.ins CH dx (gM room ca (used+(1+many+bulk)) (born+1)))->H' ca=some (.lst (putN cs (.ref p)))->
  yK CC H' p fa (born+1) bulk tone 0 (List.replicate many.toNat V.non)->Q (.int (cs.idxOf V.non)) H')
section
variable {K:aG}{bI bG bF:AI}{H:Hp}{Q:VK}{E:XK}{n:ν}{bk ct:ν}
theorem V6{p:AI}(T:TxC K bI bG)(q:∃fa birth bulk tone load fl,yK bI H p fa birth bulk tone load fl/\Q (.int (1+fl.length+bulk)) H):xr K ξ [↑p] H:=by
 obtain⟨fa,birth,bulk,tone,load,fl,⟨⟨dx,h1⟩,h2⟩,h⟩:=q;unfold xr;apply aL h1 T.cN T.dN jJ ?_;apply fU (bO.of h2) ?_;apply aL h1 T.cN T.kh VN ?_;apply h
theorem Nj{p:AI}{birth many bulk tone:Int}(T:TxC K bI bG)(q:∃dx,H p=some (.ins bI dx [])/\0<=many/\many<=1000/\
 ∀fa H',H fa=none->H' p=some (.ins bI dx (jT birth bulk tone 0 fa))->H' fa=some (.lst (List.replicate many.toNat V.non))->(∀b o,H b=some o->b≠p->H' b=some o)->Q .non H'):
  qd K ⟨λ_ H'=>Q .non H',Q,bk,ct⟩ [↑p,some (.int birth),some (.int many),some (.int bulk),some (.int tone)] H:=by
 obtain⟨dx,hp,h0,h1,h⟩:=q;unfold qd;exists p,bI,dx,[],rfl,hp,T.cN,T.cX,ε;apply⟨p,bI,dx,_,rfl,ao,T.cN,T.kh,by show 1<1000;decide,?_⟩;rw[dg];apply⟨p,bI,dx,_,rfl,ao,T.cN,T.jq,by show 2<1000;decide,?_⟩;rw[dg];apply⟨p,bI,dx,_,rfl,ao,T.cN,T.gZ,by show 3<1000;decide,?_⟩;rw[dg];apply⟨ε,λl0 hl0=>?_⟩;apply⟨l0,many,_,rfl,rfl,ao,δ,δ,?_,λfa hfa=>?_⟩
 ·show 1 * many.toNat<=sizeLine;exact bL δ
 have npl:p≠l0:=aD ao hl0;have npf:p≠fa:=aD ((aB npl).trans ao) hfa;apply⟨p,bI,dx,_,rfl,(aB npf).trans ((aB npl).trans ao),T.cN,T.dN,by show 4<1000;decide,?_⟩;have nfa:H fa=none:=by
  have e:=hfa;have n1:fa≠l0:=λz=>by rw[z,ao]at e;cases e
  rw[aB n1,aB npf.symm]at e;exact e
 refine h fa _ nfa (ao.trans (congrArg (λl=>some (HO.ins bI dx l)) Zoq)) ?_ λb o hb hne=>?_
 ·rw[aB npf.symm,ao];have e:(List.replicate many.toNat [V.non]).flatten=List.replicate many.toNat V.non:=by
   generalize many.toNat=k
   induction k with
   | zero=>rfl
   | succ k ih=>rw[List.replicate_succ,List.replicate_succ,List.flatten_cons,ih];rfl
  rw[e]
 ·have e1:upd H p (HO.ins bI dx (bR "load" (V.int 0) (bR "tone" (V.int tone) (bR "bulk" (V.int bulk) (bR "birth" (V.int birth) []))))) b=some o:=(aB hne).trans hb;have n1:b≠l0:=aD e1 hl0;have n2:b≠fa:=aD ((aB n1).trans e1) hfa;rw[aB hne,aB n2,aB n1];exact e1
theorem Nh{p:AI}{room:Int}(T:TxC K bI bG)(q:∃dx,H p=some (.ins bG dx [])/\
 ∀ca H',H ca=none->H' p=some (.ins bG dx (gM room ca 0 0))->H' ca=some (.lst [])->(∀b o,H b=some o->b≠p->H' b=some o)->Q .non H'):
  p8 K ⟨λ_ H'=>Q .non H',Q,bk,ct⟩ [↑p,some (.int room)] H:=by
 obtain⟨dx,hp,h⟩:=q;unfold p8;exists p,bG,dx,[],rfl,hp,T.cC,T.j7,ε;apply⟨ε,λca hca=>?_⟩;ext;have npc:p≠ca:=aD ao hca;refine⟨p,bG,dx,_,rfl,(aB npc).trans ao,T.cC,T.bK,by show 1<1000;decide,?_⟩;apply⟨p,bG,dx,_,rfl,ao,T.cC,T.fH,by show 2<1000;decide,?_⟩;rw[dg];apply⟨p,bG,dx,_,rfl,ao,T.cC,T.jo,by show 3<1000;decide,?_⟩;rw[dg];have nca:H ca=none:=by
  have e:=hca;rw[aB npc.symm]at e;exact e
 refine h ca _ nca (ao.trans (congrArg (λl=>some (HO.ins bG dx l)) Znx)) ?_ λb o hb hne=>?_
 ·rw[aB npc.symm,ao]
 ·rw[aB hne,aB (aD ((aB hne).trans hb) hca),aB hne];exact hb
theorem Zba{hp:AI}(T:TxC K bI bG)(q:∃ca room used born cs,HpO bG H hp ca room used born cs/\Q (.int (room - used)) H):zN K ξ [↑hp] H:=by
 obtain⟨ca,room,used,born,cs,⟨⟨dx,h1⟩,h2⟩,h⟩:=q;unfold zN;apply aL h1 T.cC T.j7 VH ?_;apply aL h1 T.cC T.fH xH ?_;apply h
theorem V5{hp:AI}(T:TxC K bI bG)(q:∃ca room used born cs,HpO bG H hp ca room used born cs/\cs.length<=1000/\∀l,H l=none->Q (.ref l) (upd H l (.lst ((plc cs).map V.int)))):xq K ξ [↑hp] H:=by
 obtain⟨ca,room,used,born,cs,⟨⟨dx,h1⟩,h2⟩,hl,h⟩:=q;unfold xq;apply Zdd ?_;apply aL h1 T.cC T.bK bU ?_;apply fU (bO.of h2) ?_;exists _,rfl,δ,δ;refine Znd (n:=cs.length) δ (p:=λi=>!decide (cs[i]? =some V.non)) (f:=λi=>.int i) δ ?_ ?_ ?_
 ·intro i hi k hk;walk_at"c";apply aL h1 T.cC T.bK bU ?_;apply eE (bO.of h2) (g8 (bN hi)) ?_;apply Zgk ?_;rw[bN hi]at hk;ext;simpa using hk
 ·intro i hi _ k hk;walk_at"c";apply hk
 ·have e:((plc cs).map V.int)=((List.range cs.length).filter λi=>!decide (cs[i]? =some V.non)).map λ(i:Nat)=>V.int i:=by
   unfold plc;rw[List.map_map];rfl
  rw[<- e];exact h
theorem Ze9{hp:AI}{v:V}(T:TxC K bI bG)(q:∃ca room used born cs,HpO bG H hp ca room used born cs/\OkN K H cs/\cs.length<=1000/\Q (.int (cs.idxOf V.non)) (upd H ca (.lst (putN cs v)))):CJ K ξ [↑hp,some v,none] H:=by
 obtain⟨ca,room,used,born,cs,⟨⟨dx,h1⟩,h2⟩,ho,hl,h⟩:=q;unfold CJ;apply aL h1 T.cC T.bK bU ?_;apply Znn (bO.of h2) ho ?_;apply Zdc (λhn=>?_) (λhn=>?_)
 ·apply aL h1 T.cC T.bK bU ?_;refine⟨.inl ⟨rfl,_,bO.of h2⟩,?_⟩;exists ca,cs,v,rfl,rfl,h2,Nat.lt_of_le_of_lt hl ε;ext;have hne:hp≠ca:=nY h1 h2 (λz=>by cases z);refine aL ((aB hne).trans h1) T.cC T.bK bU ?_;apply fU (bO.of ao) ?_;ext;have e1:(((cs++[v]).length:Int) - 1)=(cs.idxOf V.non:Nat):=by
   rw[List.length_append,List.idxOf_eq_length hn];simp
  have e2:putN cs v=cs++[v]:=by unfold putN;rw[if_neg hn]
  rw[e1,<- e2];exact h
 ·apply aL h1 T.cC T.bK bU ?_;refine⟨.inl ⟨rfl,_,bO.of h2⟩,?_⟩;exists ca,cs,rfl,rfl,bO.of h2,ho,hn;apply aL h1 T.cC T.bK bU ?_;ext;have hi:cs.idxOf V.non<cs.length:=List.idxOf_lt_length_iff.mpr hn;refine⟨ca,cs,_,_,rfl,rfl,h2,ug hi,?_⟩;have e2:putN cs v=cs.set (cs.idxOf V.non) v:=by unfold putN;rw[if_pos hn]
  rw[<- e2];apply h
theorem Zbb{hp:AI}{i:Int}(T:TxC K bI bG)(q:∃ca dx room used born cs p fa birth bulk tone load fl,0<=i/\H hp=some (.ins bG dx (gM room ca used born))/\H ca=some (.lst cs)/\cs[i.toNat]? =↑p/\yK bI H p fa birth bulk tone load fl/\
 Q (.int birth) (upd (upd H hp (.ins bG dx (gM room ca (used - (1+fl.length+bulk)) born))) ca (.lst (cs.set i.toNat V.non)))):zO K bI (pH bI) ξ [↑hp,some (.int i),none] H:=by
 obtain⟨ca,dx,room,used,born,cs,p,fa,birth,bulk,tone,load,fl,h0,h1,h2,hi,co,h⟩:=q;obtain⟨⟨dp,c1⟩,c2⟩:=id co;unfold zO;apply aL h1 T.cC T.bK bU ?_;apply eE (bO.of h2) (mO h0 hi) ?_;apply aL h1 T.cC T.fH xH ?_;exists p,dp,_,rfl,c1,vg;exists p,rfl,fa,birth,bulk,tone,load,fl,co;apply⟨hp,bG,dx,_,rfl,h1,T.cC,T.fH,by show 4<1000;decide,?_⟩;rw[DK];have hne:hp≠ca:=nY h1 h2 (λz=>by cases z);apply aL ao T.cC T.bK bU ?_;ext;have hlt:i.toNat<cs.length:=(cZ hi).1;refine⟨ca,cs,_,_,rfl,rfl,(aB hne.symm).trans h2,Zqb h0 hlt,?_⟩;apply aL (C:=bI) (a:=p) (dx:=dp) (fs:=jT birth bulk tone load fa) ?_ T.cN T.cX fJ ?_
 ·have n1:p≠ca:=nY c1 h2 (λz=>by cases z);have n2:p≠hp:=nY c1 h1 (λz=>by injection z with _ _ z;exact Tc z);rw[aB n1,aB n2];exact c1
 exact h
theorem Zb9{hp:AI}{many bulk tone:Int}(T:TxC K bI bG)(q:∃ca dx room used born cs,H hp=some (.ins bG dx (gM room ca used born))/\H ca=some (.lst cs)/\OkN K H cs/\cs.length<=1000/\0<=many/\many<=1000/\
 (room - used<1+many+bulk->∀H',aY H H'->E (.ref bF) none H')/\
 (1+many+bulk<=room - used->∀p fa H',H p=none->H fa=none->Fm [hp,ca] H H'->H' hp=some (.ins bG dx (gM room ca (used+(1+many+bulk)) (born+1)))->H' ca=some (.lst (putN cs (.ref p)))->
  yK bI H' p fa (born+1) bulk tone 0 (List.replicate many.toNat V.non)->Q (.int (cs.idxOf V.non)) H')):
  zM K bI bF bG (Ek bI) (pH bI) (Ei bG) (HF K bG) E ξ [↑hp,some (.int many),some (.int bulk),some (.int tone),none] H:=by
 obtain⟨ca,dx,room,used,born,cs,h1,h2,ho,hl,m0,m1,hE,hQ⟩:=q;have hne:hp≠ca:=nY h1 h2 (λz=>by cases z);unfold zM;apply aL h1 T.cC T.jo VJ ?_;ext;intro p dp np ndp ned;refine⟨p,_,many,_,_,rfl,dp,ao,m0,m1,λfa H1 nfa c1 c2 f3=>⟨rfl,?_⟩⟩;have Zt5:H fa=none:=by
  have e:=nfa
  by_cases z1:fa=p
  ·rw[z1,ao]at e;cases e
  ·rw[aB z1]at e
   by_cases z2:fa=dp
   ·rw[z2,ao]at e;cases e
   ·rw[aB z2]at e;exact e
 have sm:aY H H1:=λb o hb=>by
  refine f3 b o ?_ (aD hb np);rw[aB (aD hb np),aB (aD hb ndp)];exact hb
 have co:yK bI H1 p fa (born+1) bulk tone 0 (List.replicate many.toNat V.non):=⟨⟨dp,c1⟩,c2⟩;have el:((List.replicate many.toNat V.non).length:Int)=many:=by rw[List.length_replicate];omega
 exists p,dp,_,rfl,c1,vg;exists p,rfl,fa,_,_,_,_,_,co;exists hp,dx,_,rfl,sm _ _ h1,VF;exists hp,rfl,ca,room,used,born,cs,⟨⟨dx,sm _ _ h1⟩,sm _ _ h2⟩;ext;rw[el];refine Ai (λhf=>?_) (λhf=>?_)
 ·apply⟨ε,hE hf H1 sm⟩
 ·apply aL c1 T.cN T.cX fJ ?_;apply⟨hp,bG,dx,_,rfl,sm _ _ h1,T.cC,T.jo,by show 4<1000;decide,?_⟩;rw[Sh];apply aL ao T.cC T.fH xH ?_;ext;have n1:p≠hp:=(aD h1 np).symm;have n2:fa≠hp:=(aD h1 Zt5).symm;have n3:p≠ca:=(aD h2 np).symm;have n4:fa≠ca:=(aD h2 Zt5).symm;refine⟨p,dp,_,rfl,(aB n1).trans c1,vg,?_⟩;exists p,rfl,fa,_,_,_,_,_,⟨⟨dp,(aB n1).trans c1⟩,(aB n2).trans c2⟩;ext;rw[el];refine⟨hp,bG,dx,_,rfl,ao,T.cC,T.fH,by show 4<1000;decide,?_⟩;rw[DK,dg];exists hp,dx,_,rfl,ao,Za4;exists hp,.ref p,rfl,ca,room,_,_,cs,⟨⟨dx,ao⟩,(aB hne.symm).trans (sm _ _ h2)⟩,?_,hl
  ·intro y hy;rcases ho y hy with e | ⟨a,C,d,fs,e,ha,hc,he⟩
   ·exact .inl e
   ·refine .inr ?_
    by_cases z:a=hp
    ·rw[z]at ha e;rw[h1]at ha;cases ha;exact⟨hp,_,_,_,e,ao,hc,he⟩
    ·exact⟨a,C,d,fs,e,(aB z).trans (sm _ _ ha),hc,he⟩
  ·refine hQ δ p fa _ np Zt5 ?_ ((aB hne).trans ao) ao ⟨⟨dp,?_⟩,?_⟩
   ·intro b o hb hn;have b1:b≠hp:=λz=>hn (by rw[z];exact List.mem_cons_self);have b2:b≠ca:=λz=>hn (by rw[z];exact List.mem_cons_of_mem _ List.mem_cons_self);rw[aB b2,aB b1];exact sm _ _ hb
   ·rw[aB n3,aB n1];exact c1
   ·rw[aB n4,aB n2];exact c2
end
structure Ce where
 birth:Int
 bulk:Int
 tone:Int
 load:Int
 fl:Au
 deriving DecidableEq
structure Sw where
 sense:Int
 phase:Str
 grey:AE
 looked:Int
 turn:Int
 at':Int
 stop:Int
 walks:Int
 looks:Int
 passes:Int
 loss:V
structure Wm where
 room:Int
 used:Int
 born:Int
 cells:List (Option Ce)
 hands:List (Str×Au)
 names:List (Str×(Int×Int))
 w:Int
 tells:Int
 sw:Sw
structure Wa where
 wo:AI
 hp:AI
 ca:AI
 ki:AI
 lk:AI
 hl:AI
 nm:AI
 sw:AI
 gr:AI
 hs:List (AI×AI)
 cs:List (Option (AI×AI))
 ns:AF
def oV:AA->V
 | none=>.non
 | some i=>.int i
def pV:Option (AI×AI)->V
 | none=>.non
 | some p=>.ref p.1
structure xK(s:Nat)(t0:Nat->Prop)(H H':Hp)(T T':Tg):Prop where
 kp:∀b o,H b=some o->(T b).1=s->¬ t0 (T b).2->H' b=some o
 tg:∀b o,H b=some o->T' b=T b
section
variable {CHd CC:AI}{H H':Hp}{T T':Tg}{s j i:Nat}{t0:Nat->Prop}
theorem xK.at{a:AI}{o:HO}{m:Nat}(f:xK s t0 H H' T T')(ht:T a=(s,m))(n:¬ t0 m)(h:H a=some o):H' a=some o:=f.kp a o h (by rw[ht]) (by rw[ht];exact n)
theorem xK.tag{a:AI}{o:HO}{x:Nat×Nat}(f:xK s t0 H H' T T')(h:H a=some o)(ht:T a=x):T' a=x:=(f.tg a o h).trans ht
theorem xK.Dh{a:AI}{o:HO}{m:Nat}(ht:T a=(s,m)):xK s (·=m) H (upd H a o) T T:=⟨λb u h e n=>by
  have:b≠a:=λz=>n (by rw[z,ht]);rw[aB this];exact h,λ_ _ _=>rfl⟩
theorem xK.of_same(e:aY H H'):xK s (λ_=>False) H H' T T:=⟨λb o h _ _=>e b o h,λ_ _ _=>rfl⟩
theorem xK.Zml{s':Nat}(e:cY s' H H' T T')(n:s≠s'):xK s (λ_=>False) H H' T T':=⟨λb o h z _=>e.kp b o h (by rw[z];exact n),e.tg⟩
structure HdO(CHd:AI)(H:Hp)(T:Tg)(s j:Nat)(p:AI×AI)(m:Str×Au):Prop where
 t1:T p.1=(s,20+2 * j)
 t2:T p.2=(s,21+2 * j)
 o1:∃dx,H p.1=some (.ins CHd dx (Zdh m.1 p.2))
 o2:H p.2=some (.lst (m.2.map oV))
theorem HdO.mv{p:AI×AI}{m:Str×Au}(h:HdO CHd H T s j p m)(f:xK s t0 H H' T T')(n1:¬ t0 (20+2 * j))(n2:¬ t0 (21+2 * j)):HdO CHd H' T' s j p m:=by
 obtain⟨a1,a2,⟨dx,b1⟩,b2⟩:=h;exact⟨f.tag b1 a1,f.tag b2 a2,⟨dx,f.at a1 n1 b1⟩,f.at a2 n2 b2⟩
structure Tv(CC:AI)(H:Hp)(T:Tg)(s i:Nat)(p:AI×AI)(c:Ce):Prop where
 t1:T p.1=(s,100+2 * i)
 t2:T p.2=(s,101+2 * i)
 o1:∃dx,H p.1=some (.ins CC dx (jT c.birth c.bulk c.tone c.load p.2))
 o2:H p.2=some (.lst (c.fl.map oV))
theorem Tv.mv{p:AI×AI}{c:Ce}(h:Tv CC H T s i p c)(f:xK s t0 H H' T T')(n1:¬ t0 (100+2 * i))(n2:¬ t0 (101+2 * i)):Tv CC H' T' s i p c:=by
 obtain⟨a1,a2,⟨dx,b1⟩,b2⟩:=h;exact⟨f.tag b1 a1,f.tag b2 a2,⟨dx,f.at a1 n1 b1⟩,f.at a2 n2 b2⟩
def CeP(CC:AI)(H:Hp)(T:Tg)(s i:Nat):Option (AI×AI)->Option Ce->Prop
 | none,none=>True
 | some p,some c=>Tv CC H T s i p c
 | _,_=>False
theorem CeP.mv{p:Option (AI×AI)}{c:Option Ce}(h:CeP CC H T s i p c)(f:xK s t0 H H' T T')(n1:¬ t0 (100+2 * i))(n2:¬ t0 (101+2 * i)):CeP CC H' T' s i p c:=by
 cases p with
 | none=>cases c with
  | none=>trivial
  | some c=>exact h.elim
 | some p=>cases c with
  | none=>exact h.elim
  | some c=>exact Tv.mv h f n1 n2
end
def NmO(H:Hp)(T:Tg)(t:AI)(m:Str×(Int×Int)):Prop:=T t=(0,0)/\H t=some (.tup [.int m.2.1,.int m.2.2])
structure Cs where
 W:AI
 H:AI
 C:AI
 K:AI
 D:AI
 S:AI
 F:AI
 E:AI
 L:AI
structure WB(X:Cs)(H:Hp)(T:Tg)(s:Nat)(A:Wa)(w tells:Int):Prop where
 tw:T A.wo=(s,0)
 tk:T A.ki=(0,0)
 tl:T A.lk=(0,0)
 tn:T A.hl=(s,5)
 ow:∃dx,H A.wo=some (.ins X.W dx (Br A.hp A.ki A.hl A.nm A.sw))
 ok:∃dx,H A.ki=some (.ins X.K dx (RJ A.lk tells))
 ol:∃dx,(w=0/\H A.lk=some (.ins X.F dx []))\/(w=1/\H A.lk=some (.ins X.E dx []))\/(w=2/\H A.lk=some (.ins X.L dx []))
 on:H A.hl=some (.lst (A.hs.map λp=>V.ref p.1))
structure WH(X:Cs)(H:Hp)(T:Tg)(s:Nat)(A:Wa)(room used born:Int):Prop where
 th:T A.hp=(s,1)
 tc:T A.ca=(s,2)
 oh:∃dx,H A.hp=some (.ins X.H dx (gM room A.ca used born))
 oc:H A.ca=some (.lst (A.cs.map pV))
def Bp(M:List (Str×(Int×Int)))(ns:AF):List ((Int ⊕ Str)×V):=List.zipWith (λ(m:Str×(Int×Int)) (t:AI)=>(Sum.inr m.1,V.ref t)) M ns
structure WN(H:Hp)(T:Tg)(s:Nat)(A:Wa)(names:List (Str×(Int×Int))):Prop where
 tm:T A.nm=(s,6)
 om:H A.nm=some (.dK (Bp names A.ns))
 nms:Al (NmO H T) A.ns names
structure WS(X:Cs)(H:Hp)(T:Tg)(s:Nat)(A:Wa)(S:Sw):Prop where
 ts:T A.sw=(s,7)
 tg:T A.gr=(s,8)
 os:∃dx,H A.sw=some (.ins X.S dx (bT S.sense S.phase A.gr S.looked S.turn S.at' S.stop S.walks S.looks S.passes S.loss))
 og:H A.gr=some (.lst (S.grey.map V.int))
structure WD(X:Cs)(H:Hp)(T:Tg)(s:Nat)(hs:List (AI×AI))(hands:List (Str×Au)):Prop where
 lh:hs.length=hands.length
 l5:hs.length<=30
 hd:∀(j:Nat) p m,hs[j]? =some p->hands[j]? =some m->HdO X.D H T s j p m
structure WC(X:Cs)(H:Hp)(T:Tg)(s:Nat)(cs:List (Option (AI×AI)))(cells:List (Option Ce)):Prop where
 lc:cs.length=cells.length
 ce:∀(i:Nat) p c,cs[i]? =some p->cells[i]? =some c->CeP X.C H T s i p c
structure WJ(X:Cs)(H:Hp)(T:Tg)(s:Nat)(A:Wa)(M:Wm):Prop where
 jb:WB X H T s A M.w M.tells
 jh:WH X H T s A M.room M.used M.born
 jn:WN H T s A M.names
 js:WS X H T s A M.sw
 jd:WD X H T s A.hs M.hands
 jc:WC X H T s A.cs M.cells
section
variable {X:Cs}{H H':Hp}{T T':Tg}{s:Nat}{t0:Nat->Prop}{A:Wa}{M:Wm}
theorem WB.mv{w tells:Int}(j:WB X H T s A w tells)(f:xK s t0 H H' T T')(f0:∀b o,H b=some o->T b=(0,0)->H' b=some o)(n0:¬ t0 0)(n5:¬ t0 5):WB X H' T' s A w tells:=by
 obtain⟨tw,tk,tl,tn,⟨d1,ow⟩,⟨d3,ok⟩,⟨d4,ol⟩,on⟩:=j;have hlk:∃o,H A.lk=some o:=by
  rcases ol with ⟨_,e⟩ | ⟨_,e⟩ | ⟨_,e⟩
  ·exact⟨_,e⟩
  ·exact⟨_,e⟩
  ·exact⟨_,e⟩
 obtain⟨olk,elk⟩:=hlk;refine⟨f.tag ow tw,f.tag ok tk,f.tag elk tl,f.tag on tn,⟨d1,f.at tw n0 ow⟩,⟨d3,f0 _ _ ok tk⟩,⟨d4,?_⟩,f.at tn n5 on⟩;rcases ol with ⟨z,e⟩ | ⟨z,e⟩ | ⟨z,e⟩
 ·exact .inl ⟨z,f0 _ _ e tl⟩
 ·exact .inr (.inl ⟨z,f0 _ _ e tl⟩)
 ·exact .inr (.inr ⟨z,f0 _ _ e tl⟩)
theorem WH.mv{room used born:Int}(j:WH X H T s A room used born)(f:xK s t0 H H' T T')(n1:¬ t0 1)(n2:¬ t0 2):WH X H' T' s A room used born:=by
 obtain⟨th,tc,⟨d,oh⟩,oc⟩:=j;exact⟨f.tag oh th,f.tag oc tc,⟨d,f.at th n1 oh⟩,f.at tc n2 oc⟩
theorem WN.mv{names:List (Str×(Int×Int))}(j:WN H T s A names)(f:xK s t0 H H' T T')(f0:∀b o,H b=some o->T b=(0,0)->H' b=some o)(n6:¬ t0 6):WN H' T' s A names:=by
 obtain⟨tm,om,nms⟩:=j;exact⟨f.tag om tm,f.at tm n6 om,nms.mono (by rintro t m ⟨z1,z2⟩;exact⟨f.tag z2 z1,f0 _ _ z2 z1⟩)⟩
theorem WS.mv{S:Sw}(j:WS X H T s A S)(f:xK s t0 H H' T T')(n7:¬ t0 7)(n8:¬ t0 8):WS X H' T' s A S:=by
 obtain⟨ts,tg,⟨d,os⟩,og⟩:=j;exact⟨f.tag os ts,f.tag og tg,⟨d,f.at ts n7 os⟩,f.at tg n8 og⟩
theorem WD.mv{hs:List (AI×AI)}{hands:List (Str×Au)}(j:WD X H T s hs hands)(f:xK s t0 H H' T T')(n:∀k,20<=k->k<100->¬ t0 k):WD X H' T' s hs hands:=by
 obtain⟨lh,l5,hd⟩:=j;refine⟨lh,l5,λj p m e1 e2=>?_⟩;have hl:j<hs.length:=(cZ e1).1;exact(hd j p m e1 e2).mv f (n _ δ δ) (n _ δ δ)
theorem WC.mv{cs:List (Option (AI×AI))}{cells:List (Option Ce)}(j:WC X H T s cs cells)(f:xK s t0 H H' T T')(n:∀k,100<=k->¬ t0 k):WC X H' T' s cs cells:=by
 obtain⟨lc,ce⟩:=j;exact⟨lc,λi p c e1 e2=>(ce i p c e1 e2).mv f (n _ δ) (n _ δ)⟩
theorem WJ.mv(j:WJ X H T s A M)(f:xK s (λ_=>False) H H' T T')(f0:∀b o,H b=some o->T b=(0,0)->H' b=some o):WJ X H' T' s A M:=
 ⟨j.jb.mv f f0 id id,j.jh.mv f id id,j.jn.mv f f0 id,j.js.mv f id id,j.jd.mv f λ_ _ _=>id,j.jc.mv f λ_ _=>id⟩
theorem WJ.same(j:WJ X H T s A M)(e:aY H H'):WJ X H' T s A M:=j.mv (xK.of_same e) λb o h _=>e b o h
theorem WJ.other{s':Nat}(j:WJ X H T s A M)(e:cY s' H H' T T')(n:s≠s')(n0:s'≠0):WJ X H' T' s A M:=j.mv (xK.Zml e n) λb o h t=>e.kp b o h (by rw[t];exact λz=>n0 z.symm)
theorem m5{a:AI}{o':HO}{m:Nat}(h0:s≠0)(ta:T a=(s,m)):∀b o,H b=some o->T b=(0,0)->upd H a o' b=some o:=λb o e t=>by
 rw[aB (Rr t ta (λz=>h0 (congrArg Prod.fst z).symm))];exact e
theorem WJ.slot(j:WJ X H T s A M)(w:WT H T)(h0:s≠0){h k:Nat}{p:AI×AI}{m:Str×Au}{x:AA}(hp:A.hs[h]? =some p)(hm:M.hands[h]? =some m):
  cY s H (upd H p.2 (.lst ((m.2.map oV).set k (oV x)))) T T/\WJ X (upd H p.2 (.lst ((m.2.map oV).set k (oV x)))) T s A { M with hands:=M.hands.set h (m.1,m.2.set k x) }:=by
 have hl:=j.jd.l5;have hh:h<A.hs.length:=(cZ hp).1;have hh':h<M.hands.length:=(cZ hm).1;have d:=j.jd.hd h p m hp hm;refine⟨cY.upd w d.o2 (by rw[d.t2]),?_⟩;have f:xK s (·=21+2 * h) H (upd H p.2 (.lst ((m.2.map oV).set k (oV x)))) T T:=xK.Dh d.t2;have b2:upd H p.2 (.lst ((m.2.map oV).set k (oV x))) p.2=some (.lst ((m.2.set k x).map oV)):=by rw[ao,List.map_set]
 refine⟨j.jb.mv f (m5 h0 d.t2) δ δ,j.jh.mv f δ δ,j.jn.mv f (m5 h0 d.t2) δ,j.js.mv f δ δ,⟨by rw[List.length_set];exact j.jd.lh,hl,λj' p' m' e1 e2=>?_⟩,j.jc.mv f λ_ _=>δ⟩
 by_cases hj:j'=h
 ·subst hj;dsimp only at e2;rw[List.getElem?_set_self hh']at e2;rw[hp]at e1;cases e1;cases e2;obtain⟨dd,o1⟩:=d.o1;exact⟨d.t1,d.t2,⟨dd,f.at d.t1 δ o1⟩,b2⟩
 ·dsimp only at e2;rw[List.getElem?_set_ne (λz=>hj z.symm)]at e2;exact(j.jd.hd j' p' m' e1 e2).mv f δ δ
theorem WC.at(j:WC X H T s A.cs M.cells){i:Nat}{c:Ce}(h:M.cells[i]? =some (some c)):∃p,A.cs[i]? =some (some p)/\Tv X.C H T s i p c:=by
 have hl:i<A.cs.length:=by rw[j.lc];exact(cZ h).1
 have e:=j.ce i _ _ (bN hl) h;cases hg:A.cs[i]with
 | none=>rw[hg]at e;exact e.elim
 | some g=>rw[hg]at e;exact⟨g,by rw[bN hl,hg],e⟩
theorem WC.at0(j:WC X H T s A.cs M.cells){i:Nat}(h:M.cells[i]? =some none):A.cs[i]? =some none:=by
 have hl:i<A.cs.length:=by rw[j.lc];exact(cZ h).1
 have e:=j.ce i _ _ (bN hl) h;cases hg:A.cs[i]with
 | none=>rw[bN hl,hg]
 | some g=>rw[hg]at e;exact e.elim
theorem WC.chg(j:WC X H T s A.cs M.cells){i:Nat}{p:AI×AI}{c':Ce}(f:xK s t0 H H' T T')(hp:A.cs[i]? =some (some p))(n:∀k,100<=k->k≠100+2 * i->k≠101+2 * i->¬ t0 k)(e:Tv X.C H' T' s i p c'):
  WC X H' T' s A.cs (M.cells.set i (some c')):=by
 have hl:i<A.cs.length:=(cZ hp).1;refine⟨by rw[List.length_set];exact j.lc,λk g c e1 e2=>?_⟩
 by_cases hk:k=i
 ·subst hk;rw[List.getElem?_set_self (by rw[<- j.lc];exact hl)]at e2;rw[hp]at e1;cases e1;cases e2;exact e
 ·rw[List.getElem?_set_ne (λz=>hk z.symm)]at e2;exact(j.ce k g c e1 e2).mv f (n _ δ δ δ) (n _ δ δ δ)
theorem WJ.field(j:WJ X H T s A M)(w:WT H T)(h0:s≠0){i k:Nat}{p:AI×AI}{c:Ce}{x:AA}(hp:A.cs[i]? =some (some p))(e:Tv X.C H T s i p c):
  cY s H (upd H p.2 (.lst ((c.fl.map oV).set k (oV x)))) T T/\WJ X (upd H p.2 (.lst ((c.fl.map oV).set k (oV x)))) T s A { M with cells:=M.cells.set i (some { c with fl:=c.fl.set k x }) }:=by
 refine⟨cY.upd w e.o2 (by rw[e.t2]),?_⟩;have f:xK s (·=101+2 * i) H (upd H p.2 (.lst ((c.fl.map oV).set k (oV x)))) T T:=xK.Dh e.t2;have b2:upd H p.2 (.lst ((c.fl.map oV).set k (oV x))) p.2=some (.lst ((c.fl.set k x).map oV)):=by rw[ao,List.map_set]
 obtain⟨dd,o1⟩:=e.o1;exact⟨j.jb.mv f (m5 h0 e.t2) δ δ,j.jh.mv f δ δ,j.jn.mv f (m5 h0 e.t2) δ,j.js.mv f δ δ,j.jd.mv f λ_ _ _=>δ,
  j.jc.chg f hp (λk _ _ n2 z=>n2 z) ⟨e.t1,e.t2,⟨dd,f.at e.t1 δ o1⟩,b2⟩⟩
theorem WJ.cell(j:WJ X H T s A M)(w:WT H T)(h0:s≠0){i:Nat}{p:AI×AI}{c:Ce}{dx:AI}{tone load:Int}(hp:A.cs[i]? =some (some p))(e:Tv X.C H T s i p c):
  cY s H (upd H p.1 (.ins X.C dx (jT c.birth c.bulk tone load p.2))) T T/\WJ X (upd H p.1 (.ins X.C dx (jT c.birth c.bulk tone load p.2))) T s A { M with cells:=M.cells.set i (some { c with tone:=tone,load:=load }) }:=by
 obtain⟨dd,o1⟩:=e.o1;refine⟨cY.upd w o1 (by rw[e.t1]),?_⟩;have f:xK s (·=100+2 * i) H (upd H p.1 (.ins X.C dx (jT c.birth c.bulk tone load p.2))) T T:=xK.Dh e.t1;exact⟨j.jb.mv f (m5 h0 e.t1) δ δ,j.jh.mv f δ δ,j.jn.mv f (m5 h0 e.t1) δ,j.js.mv f δ δ,j.jd.mv f λ_ _ _=>δ,
  j.jc.chg f hp (λk _ n1 _ z=>n1 z) ⟨e.t1,e.t2,⟨dx,ao⟩,f.at e.t2 δ e.o2⟩⟩
theorem WJ.sweep(j:WJ X H T s A M)(w:WT H T)(h0:s≠0){dx:AI}(S:Sw)(e9:S.grey=M.sw.grey):
  cY s H (upd H A.sw (.ins X.S dx (bT S.sense S.phase A.gr S.looked S.turn S.at' S.stop S.walks S.looks S.passes S.loss))) T T/\
  WJ X (upd H A.sw (.ins X.S dx (bT S.sense S.phase A.gr S.looked S.turn S.at' S.stop S.walks S.looks S.passes S.loss))) T s A { M with sw:=S }:=by
 obtain⟨ts,tg,⟨dd,os⟩,og⟩:=j.js;refine⟨cY.upd w os (by rw[ts]),?_⟩;have f:xK s (·=7) H (upd H A.sw (.ins X.S dx (bT S.sense S.phase A.gr S.looked S.turn S.at' S.stop S.walks S.looks S.passes S.loss))) T T:=xK.Dh ts;exact⟨j.jb.mv f (m5 h0 ts) δ δ,j.jh.mv f δ δ,j.jn.mv f (m5 h0 ts) δ,⟨ts,tg,⟨dx,ao⟩,by rw[e9];exact f.at tg δ og⟩,j.jd.mv f λ_ _ _=>δ,j.jc.mv f λ_ _=>δ⟩
theorem WJ.Zrt(j:WJ X H T s A M)(w:WT H T)(h0:s≠0){g:AE}:cY s H (upd H A.gr (.lst (g.map V.int))) T T/\WJ X (upd H A.gr (.lst (g.map V.int))) T s A { M with sw:={ M.sw with grey:=g } }:=by
 obtain⟨ts,tg,⟨dd,os⟩,og⟩:=j.js;refine⟨cY.upd w og (by rw[tg]),?_⟩;have f:xK s (·=8) H (upd H A.gr (.lst (g.map V.int))) T T:=xK.Dh tg;exact⟨j.jb.mv f (m5 h0 tg) δ δ,j.jh.mv f δ δ,j.jn.mv f (m5 h0 tg) δ,⟨ts,tg,⟨dd,f.at ts δ os⟩,ao⟩,j.jd.mv f λ_ _ _=>δ,j.jc.mv f λ_ _=>δ⟩
theorem WJ.back(j:WJ X H T s A M)(w:WT H T)(h0:s≠0){i:Nat}{dx:AI}{used':Int}(hi:i<A.cs.length)(H':Hp)(kp:∀b o,H b=some o->b≠A.hp->b≠A.ca->H' b=some o)(a1:H' A.hp=some (.ins X.H dx (gM M.room A.ca used' M.born)))(a2:H' A.ca=some (.lst ((A.cs.map pV).set i V.non))):
  cY s H H' T T/\WJ X H' T s { A with cs:=A.cs.set i none } { M with used:=used',cells:=M.cells.set i none }:=by
 obtain⟨th,tc,⟨dd,oh⟩,oc⟩:=j.jh;have al:∀b o,H b=some o->∃o',H' b=some o':=λb o h=>by
  by_cases z1:b=A.hp
  ·exact⟨_,by rw[z1];exact a1⟩
  ·by_cases z2:b=A.ca
   ·exact⟨_,by rw[z2];exact a2⟩
   ·exact⟨o,kp b o h z1 z2⟩
 have f:xK s (λk=>k=1\/k=2) H H' T T:=⟨λb o h e n=>kp b o h (λz=>n (.inl (by rw[z,th]))) (λz=>n (.inr (by rw[z,tc]))),λ_ _ _=>rfl⟩;have f0:∀b o,H b=some o->T b=(0,0)->H' b=some o:=λb o h t=>kp b o h (Rr t th (λz=>h0 (congrArg Prod.fst z).symm)) (Rr t tc (λz=>h0 (congrArg Prod.fst z).symm));refine⟨⟨λb o h n=>kp b o h (λz=>n (by rw[z,th])) (λz=>n (by rw[z,tc])),al,λ_ _ _=>rfl,λb h=>w b ?_⟩,?_⟩
 ·cases z:H b with
  | none=>rfl
  | some o=>obtain⟨o',z'⟩:=al b o z;rw[h]at z';cases z'
 ·refine⟨?_,⟨th,tc,⟨dx,a1⟩,by rw[List.map_set];exact a2⟩,?_,?_,j.jd.mv f λ_ _ _=>δ,⟨by rw[List.length_set,List.length_set];exact j.jc.lc,λk g c e1 e2=>?_⟩⟩
  ·obtain⟨b1,b2,b3,b4,b5,b6,b7,b8⟩:=j.jb.mv f f0 δ δ;exact⟨b1,b2,b3,b4,b5,b6,b7,b8⟩
  ·obtain⟨b1,b2,b3⟩:=j.jn.mv f f0 δ;exact⟨b1,b2,b3⟩
  ·obtain⟨b1,b2,b3,b4⟩:=j.js.mv f δ δ;exact⟨b1,b2,b3,b4⟩
  ·by_cases hk:k=i
   ·subst hk;dsimp only at e1 e2;rw[List.getElem?_set_self hi]at e1;rw[List.getElem?_set_self (by rw[<- j.jc.lc];exact hi)]at e2;cases e1;cases e2
    trivial
   ·dsimp only at e1 e2;rw[List.getElem?_set_ne (λz=>hk z.symm)]at e1 e2;exact(j.jc.ce k g c e1 e2).mv f δ δ
end
def jH{α:Type}:List (Option α)->Nat
 | []=>0
 | none::_=>0
 | some _::l=>jH l+1
def qN{α:Type}(l:List (Option α))(x:α):List (Option α):=if jH l<l.length then l.set (jH l) (some x)else l++[some x]
theorem Zil{α:Type}(l:List (Option α)):jH l<=l.length:=by
 induction l with
 | nil=>exact Nat.le_refl _
 | cons a l ih=>cases a with
  | none=>exact Nat.zero_le _
  | some a=>exact Nat.succ_le_succ ih
theorem Zqw{α:Type}{l:List (Option α)}(h:jH l<l.length):l[jH l]? =some none:=by
 induction l with
 | nil=>exact absurd h (Nat.lt_irrefl _)
 | cons a l ih=>cases a with
  | none=>rfl
  | some a=>exact ih (Nat.lt_of_succ_lt_succ h)
theorem Zdj{α:Type}{f:Option α->V}(hf:∀x,f x=V.non↔x=none)(l:List (Option α)):(l.map f).idxOf V.non=jH l/\(V.non∈l.map f↔jH l<l.length):=by
 induction l with
 | nil=>exact⟨rfl,⟨λz=>(nomatch z),λz=>absurd z (Nat.lt_irrefl _)⟩⟩
 | cons a l ih=>
  rw[List.map_cons,List.idxOf_cons];cases a with
  | none=>
   have e:f none=V.non:=(hf none).mpr rfl;rw[e];exact⟨rfl,⟨λ_=>Nat.zero_lt_succ _,λ_=>List.mem_cons_self⟩⟩
  | some a=>
   have e:f (some a)≠V.non:=λz=>by cases (hf (some a)).mp z
   have b:(f (some a) == V.non)=false:=beq_eq_false_iff_ne.mpr e;rw[b];refine⟨congrArg (· + 1) ih.1,?_⟩;show _↔jH l+1<l.length+1;rw[List.mem_cons,ih.2];constructor
   ·rintro(z | z)
    ·exact absurd z.symm e
    ·omega
   ·intro z;exact .inr δ
theorem Zlz{α:Type}{f:Option α->V}(hf:∀x,f x=V.non↔x=none)(l:List (Option α))(x:α):putN (l.map f) (f (some x))=(qN l x).map f:=by
 obtain⟨e1,e2⟩:=Zdj hf l;unfold putN qN
 by_cases z:jH l<l.length
 ·rw[if_pos z,if_pos (e2.mpr z),List.map_set];exact congrArg (λk=>(l.map f).set k (f (some x))) e1
 ·rw[if_neg z,if_neg (λw=>z (e2.mp w)),List.map_append];rfl
theorem Zmd(p:Option (AI×AI)):pV p=V.non↔p=none:=by cases p<;>simp[pV]
theorem YZ{α:Type}(l:List (Option α))(x:α):(qN l x)[jH l]? =some (some x):=by
 unfold qN
 by_cases z:jH l<l.length
 ·rw[if_pos z,List.getElem?_set_self z]
 ·have e:jH l=l.length:=Nat.le_antisymm (Zil l) δ;rw[if_neg z,e,List.getElem?_append_right υ,Nat.sub_self];rfl
theorem Zhu{α:Type}{l:List (Option α)}{x:α}{i:Nat}{y:Option α}(hi:i≠jH l)(h:(qN l x)[i]? =some y):l[i]? =some y:=by
 unfold qN at h
 by_cases z:jH l<l.length
 ·rw[if_pos z,List.getElem?_set_ne (λw=>hi w.symm)]at h;exact h
 ·rw[if_neg z]at h;have e:jH l=l.length:=Nat.le_antisymm (Zil l) δ;have hl:=(cZ h).1;rw[List.length_append,List.length_singleton]at hl;rw[List.getElem?_append_left δ]at h;exact h
theorem Zm0{α β:Type}{l:List (Option α)}{m:List (Option β)}{x:α}{y:β}(hl:l.length=m.length)(hf:jH l=jH m):(qN l x).length=(qN m y).length:=by
 unfold qN
 by_cases z:jH l<l.length
 ·rw[if_pos z,if_pos δ,List.length_set,List.length_set];exact hl
 ·rw[if_neg z,if_neg δ,List.length_append,List.length_append,hl];rfl
theorem Zpj{α:Type}(l:List (Option α))(x:α):(qN l x).length<=l.length+1:=by
 unfold qN
 by_cases z:jH l<l.length
 ·rw[if_pos z,List.length_set];omega
 ·rw[if_neg z,List.length_append];exact Nat.le_refl _
theorem Zqv{α β:Type}:∀(l:List (Option α)) (m:List (Option β)),l.length=m.length->(∀(i:Nat) x y,l[i]? =some x->m[i]? =some y->(x=none↔y=none))->jH l=jH m:=by
 intro l
 induction l with
 | nil=>
  intro m hl _;cases m with
  | nil=>rfl
  | cons b m=>simp at hl
 | cons a l ih=>
  intro m hl h;cases m with
  | nil=>simp at hl
  | cons b m=>
   have ih':=ih m (by simpa using hl) λi x y h1 h2=>h (i+1) x y (by simpa using h1) (by simpa using h2);have e:=h 0 a b rfl rfl;cases a with
   | none=>rw[e.mp rfl];rfl
   | some a=>cases b with
    | none=>exact absurd (e.mpr rfl) (λz=>by cases z)
    | some b=>exact congrArg (· + 1) ih'
section
variable {X:Cs}{H H':Hp}{T T':Tg}{s:Nat}{A:Wa}{M:Wm}
theorem WC.fst(j:WC X H T s A.cs M.cells):jH A.cs=jH M.cells:=Zqv _ _ j.lc λi p c e1 e2=>by
 have e:=j.ce i p c e1 e2;cases p with
 | none=>cases c with
  | none=>exact⟨λ_=>rfl,λ_=>rfl⟩
  | some c=>exact e.elim
 | some p=>cases c with
  | none=>exact e.elim
  | some c=>exact⟨λz=>(by cases z),λz=>(by cases z)⟩
theorem WJ.put(j:WJ X H T s A M)(w:WT H T)(h0:s≠0){dx:AI}{used':Int}{p fa:AI}{c:Ce}(kp:∀b o,H b=some o->b≠A.hp->b≠A.ca->H' b=some o)(a1:H' A.hp=some (.ins X.H dx (gM M.room A.ca used' (M.born+1))))(a2:H' A.ca=some (.lst (putN (A.cs.map pV) (.ref p))))
  (n1:H p=none) (n2:H fa=none) (m1:p≠fa) (o1:∃dx,H' p=some (.ins X.C dx (jT c.birth c.bulk c.tone c.load fa))) (o2:H' fa=some (.lst (c.fl.map oV))):
  ∃T',cY s H H' T T'/\WJ X H' T' s { A with cs:=qN A.cs (p,fa) } { M with used:=used',born:=M.born+1,cells:=qN M.cells c }:=by
 obtain⟨th,tc,⟨dd,oh⟩,oc⟩:=j.jh;have i1:=j.jc.fst
 let k:=jH A.cs
 let T':Tg:=eG (eG T p (s,100+2 * k)) fa (s,101+2 * k)
 have told:∀b o,H b=some o->T' b=T b:=λb o h=>by
  show eG _ _ _ b=_;rw[gG (aD h n2),gG (aD h n1)]
 have t1:T' p=(s,100+2 * k):=by show eG _ _ _ p=_;rw[gG m1,dM]
 have t2:T' fa=(s,101+2 * k):=by show eG _ _ _ fa=_;rw[dM]
 have al:∀b o,H b=some o->∃o',H' b=some o':=λb o h=>by
  by_cases z1:b=A.hp
  ·exact⟨_,by rw[z1];exact a1⟩
  ·by_cases z2:b=A.ca
   ·exact⟨_,by rw[z2];exact a2⟩
   ·exact⟨o,kp b o h z1 z2⟩
 have f:xK s (λk=>k=1\/k=2) H H' T T':=⟨λb o h e n=>kp b o h (λz=>n (.inl (by rw[z,th]))) (λz=>n (.inr (by rw[z,tc]))),told⟩;have f0:∀b o,H b=some o->T b=(0,0)->H' b=some o:=λb o h t=>kp b o h (Rr t th (λz=>h0 (congrArg Prod.fst z).symm)) (Rr t tc (λz=>h0 (congrArg Prod.fst z).symm));refine⟨T',⟨λb o h nn=>kp b o h (λz=>nn (by rw[z,th])) (λz=>nn (by rw[z,tc])),al,told,λb h=>?_⟩,?_⟩
 ·have b1:b≠p:=λe=>by obtain⟨d,z⟩:=o1;rw[e,z]at h;cases h
  have b2:b≠fa:=λe=>by rw[e,o2]at h;cases h
  have hb:H b=none:=by
   cases z:H b with
   | none=>rfl
   | some o=>obtain⟨o',z'⟩:=al b o z;rw[h]at z';cases z'
  show eG _ _ _ b=_;rw[gG b2,gG b1];exact w b hb
 ·refine⟨?_,⟨f.tag oh th,f.tag oc tc,⟨dx,a1⟩,?_⟩,?_,?_,j.jd.mv f λ_ _ _=>δ,⟨Zm0 j.jc.lc i1,λi g cc e1 e2=>?_⟩⟩
  ·obtain⟨b1,b2,b3,b4,b5,b6,b7,b8⟩:=j.jb.mv f f0 δ δ;exact⟨b1,b2,b3,b4,b5,b6,b7,b8⟩
  ·show H' A.ca=some (.lst ((qN A.cs (p,fa)).map pV));rw[<- Zlz Zmd];exact a2
  ·obtain⟨b1,b2,b3⟩:=j.jn.mv f f0 δ;exact⟨b1,b2,b3⟩
  ·obtain⟨b1,b2,b3,b4⟩:=j.js.mv f δ δ;exact⟨b1,b2,b3,b4⟩
  ·dsimp only at e1 e2
   by_cases hk:i=jH A.cs
   ·subst hk;rw[YZ]at e1;rw[i1,YZ]at e2;cases e1;cases e2;exact⟨t1,t2,o1,o2⟩
   ·exact(j.jc.ce i g cc (Zhu hk e1) (Zhu (by rw[<- i1];exact hk) e2)).mv f δ δ
end
def cellAt(M:Wm)(x:Int):Option Ce:=if 0<=x then(M.cells[x.toNat]?).join else none
def Gn(M:Wm):AA->AA
 | none=>none
 | some x=>(cellAt M x).map (·.birth)
def aX(M:Wm)(h k:Nat):AA:=((M.hands[h]?).bind λm=>m.2[k]?).join
def setSlot(M:Wm)(h k:Nat)(x:AA):Wm:={ M with hands:=M.hands.modify h λm=>(m.1,m.2.set k x) }
def setCell(M:Wm)(i:Int)(c:Ce):Wm:={ M with cells:=M.cells.set i.toNat (some c) }
def cG(M:Wm):AA->AA×Wm
 | none=>(none,M)
 | some i=>match cellAt M i with
  | none=>(none,M)
  | some c=>if M.sw.phase="walk"/\c.tone≠M.sw.sense then(some c.birth,{ setCell M i { c with tone:=M.sw.sense }with sw:={ M.sw with grey:=M.sw.grey++[i] } })else(none,M)
def cP(M:Wm)(h:Nat):Bool:=decide (M.sw.looked / 2 ^ h % 2=1)
def qW(M:Wm)(place birth:Int):Bool:=match cellAt M place with
 | none=>true
 | some c=>if c.birth=birth then decide (M.sw.phase="give"/\c.tone≠M.sw.sense)else true
def vN(l:List (Str×(Int×Int)))(k:Str)(v:Int×Int):List (Str×(Int×Int)):=if (l.any λm=>decide (m.1=k))=true then l.map (λm=>if m.1=k then(m.1,v)else m)else l++[(k,v)]
def yr(l:List (Str×(Int×Int)))(k:Str):Option (Int×Int):=(l.find? λm=>decide (m.1=k)).map (·.2)
def Ol(s:Nat)(t:Nat×Nat):Prop:=t.1=0\/t.1=s+1
theorem Ol.ne{s:Nat}{t:Nat×Nat}(h:Ol s t)(s0:s≠0):t.1≠s:=by unfold Ol at h;omega
inductive Rf where
 | full | empty | fZ | nW
 deriving DecidableEq
structure Ev where
 word:Str
 thing:AA
 notes:AE
inductive rR where
 | make (h s:Nat) (many bulk:Int)
 | get (h s t f:Nat)
 | put (h t f s:Nat)
 | copy (h s t:Nat)
 | drop (h s:Nat)
 | give (h s g t:Nat)
 | write (h t:Nat) (load:Int)
 | read (h t:Nat)
 | name (h t:Nat) (word:Str)
 | seek (h s:Nat) (word:Str)
def old?(M:Wm):Bool:=decide (M.tells % 2=1)
def qi(M:Wm):Bool:=decide (M.tells / 2 % 2=1)
def ofN:AA->AE
 | none=>[]
 | some b=>[b]
def bC(M:Wm):Au->AE×Wm
 | []=>([],M)
 | x::l=>(ofN (cG M x).1++(bC (cG M x).2 l).1,(bC (cG M x).2 l).2)
def rO(M:Wm):rR->Except Rf (Ev×Wm)
 | .make h s many bulk=>
  if M.used+(1+many+bulk)<=M.room then
   .ok (⟨"made",some (M.born+1),[]⟩,setSlot { M with used:=M.used+(1+many+bulk),born:=M.born+1,cells:=qN M.cells ⟨M.born+1,bulk,M.sw.sense,0,List.replicate many.toNat none⟩ } h s (some (jH M.cells)))
  else .error .full
 | .get h s t f=>match aX M h t with
  | none=>.error .empty
  | some x=>match cellAt M x with
   | none=>.error .empty
   | some c=>match c.fl[f]? with
    | none=>.error .fZ
    | some v=>.ok (⟨"got",Gn M v,[]⟩,setSlot M h s v)
 | .put h t f s=>match aX M h t with
  | none=>.error .empty
  | some x=>match cellAt M x with
   | none=>.error .empty
   | some c=>match c.fl[f]? with
    | none=>.error .fZ
    | some v=>
     let M1:=setCell M x { c with fl:=c.fl.set f (aX M h s) }
     let r:=bC M1 ((if old? M=true then [v]else [])++if (qi M && !cP M h)=true then [aX M h s]else [])
     .ok (⟨"put",Gn M v,r.1⟩,r.2)
 | .copy h s t=>.ok (⟨"copied",Gn M (aX M h t),[]⟩,setSlot M h s (aX M h t))
 | .drop h s=>.ok (⟨"dropped",Gn M (aX M h s),[]⟩,setSlot M h s none)
 | .give h s g t=>
  let r:=bC (setSlot M g t (aX M h s)) (if (qi M && !cP M h)=true then [aX M h s]else [])
  .ok (⟨"given",Gn M (aX M h s),r.1⟩,r.2)
 | .write h t load=>match aX M h t with
  | none=>.error .empty
  | some x=>match cellAt M x with
   | none=>.error .empty
   | some c=>.ok (⟨"wrote",some c.load,[]⟩,setCell M x { c with load:=load })
 | .read h t=>match aX M h t with
  | none=>.error .empty
  | some x=>match cellAt M x with
   | none=>.error .empty
   | some c=>.ok (⟨"read",some c.load,[]⟩,M)
 | .name h t word=>match aX M h t with
  | none=>.error .empty
  | some x=>match cellAt M x with
   | none=>.error .empty
   | some c=>.ok (⟨"named",some c.birth,[]⟩,{ M with names:=vN M.names word (x,c.birth) })
 | .seek h s word=>match yr M.names word with
  | none=>.error .nW
  | some (p,b)=>
   if qW M p b=true then .ok (⟨"sought",none,[]⟩,setSlot M h s none)
   else
    let r:=bC (setSlot M h s (some p)) [some p]
    .ok (⟨"sought",some b,r.1⟩,r.2)
def dV:rR->List V
 | .make h s many bulk=>[.str "make",.int h,.int s,.int many,.int bulk]
 | .get h s t f=>[.str "get",.int h,.int s,.int t,.int f]
 | .put h t f s=>[.str "put",.int h,.int t,.int f,.int s]
 | .copy h s t=>[.str "copy",.int h,.int s,.int t]
 | .drop h s=>[.str "drop",.int h,.int s]
 | .give h s g t=>[.str "give",.int h,.int s,.int g,.int t]
 | .write h t load=>[.str "write",.int h,.int t,.int load]
 | .read h t=>[.str "read",.int h,.int t]
 | .name h t word=>[.str "name",.int h,.int t,.str word]
 | .seek h s word=>[.str "seek",.int h,.int s,.str word]
def Bq(M:Wm)(h s:Nat):Prop:=∃m,M.hands[h]? =some m/\s<m.2.length
def okD(M:Wm):rR->Prop
 | .make h s many bulk=>Bq M h s/\0<=many/\many<=1000/\0<=bulk
 | .get h s t _=>Bq M h s/\Bq M h t
 | .put h t _ s=>Bq M h t/\Bq M h s
 | .copy h s t=>Bq M h s/\Bq M h t
 | .drop h s=>Bq M h s
 | .give h s g t=>Bq M h s/\Bq M g t
 | .write h t _=>Bq M h t
 | .read h t=>Bq M h t
 | .name h t _=>Bq M h t
 | .seek h s _=>Bq M h s
structure Ok(M:Wm):Prop where
 sl:∀m∈M.hands,∀x,some x∈m.2->∃c,cellAt M x=some c
 fl:∀c,some c∈M.cells->∀x,some x∈c.fl->∃d,cellAt M x=some d
 tn:∀c,some c∈M.cells->c.tone=0\/c.tone=1
def Pz(Zx3 Zuz Zoz Zre:AI):Rf->AI
 | .full=>Zx3
 | .empty=>Zuz
 | .fZ=>Zoz
 | .nW=>Zre
def EvN(H0 H:Hp)(T:Tg)(s:Nat)(a:AI)(e:Ev):Prop:=∃l,(H0 l=none/\Ol s (T l)/\Ol s (T a))/\H a=some (.tup [.str e.word,oV e.thing,.ref l])/\H l=some (.lst (e.notes.map V.int))
theorem rY{H:Hp}{T:Tg}{s:Nat}{l:AI}(w:WT H T)(s0:s≠0)(n:H l=none):H l=none/\Ol s (T l):=⟨n,by rw[w l n];exact .inl rfl⟩
def cH(X:Cs)(rf:Rf->AI)(P:rR->Prop):Sp:=λvs H Q E=>∃wo dd,vs=[.ref wo,.ref dd]/\∃T s A M d,P d/\WT H T/\s≠0/\WJ X H T s A M/\A.wo=wo/\H dd=some (.tup (dV d))/\okD M d/\M.cells.length<=900/\(M.sw.phase="walk"->M.sw.grey.length<=10000)/\(0<=M.tells/\M.tells<4)/\M.names.length<=1000/\
 (∀r,rO M d=.error r->∀H',aY H H'->E (.ref (rf r)) none H')/\
 (∀e M',rO M d=.ok (e,M')->∀H' T' A' a,cY s H H' T T'->WJ X H' T' s A' M'->A'.wo=wo->EvN H H' T' s a e->Q (.ref a) H')
abbrev Zux(X:Cs)(rf:Rf->AI):Sp:=cH X rf λ_=>True
theorem Zjj{α:Type}{l:List (Option α)}{x a:α}{i:Nat}(h:l[i]? =some (some a)):(qN l x)[i]? =some (some a):=by
 have hl:=(cZ h).1;unfold qN
 by_cases z:jH l<l.length
 ·have hi:i≠jH l:=λe=>by rw[e,Zqw z]at h;cases h
  rw[if_pos z,List.getElem?_set_ne (λw=>hi w.symm)];exact h
 ·rw[if_neg z,List.getElem?_append_left hl];exact h
theorem eX{M:Wm}{x:Int}{c:Ce}:cellAt M x=some c↔0<=x/\M.cells[x.toNat]? =some (some c):=by
 unfold cellAt
 by_cases z:0<=x
 ·rw[if_pos z];cases e:M.cells[x.toNat]? with
  | none=>simp
  | some y=>cases y with
   | none=>simp
   | some d=>simp[z]
 ·rw[if_neg z];simp[z]
theorem An{M:Wm}{x:Int}{c:Ce}(h:cellAt M x=some c):some c∈M.cells:=List.mem_of_getElem? (eX.mp h).2
theorem Zh9{M:Wm}{x u b:Int}{c d:Ce}(h:cellAt M x=some d):cellAt { M with used:=u,born:=b,cells:=qN M.cells c } x=some d:=by
 obtain⟨h0,h1⟩:=eX.mp h;exact eX.mpr ⟨h0,Zjj h1⟩
theorem Zha{M:Wm}{u b:Int}{c:Ce}:cellAt { M with used:=u,born:=b,cells:=qN M.cells c } (jH M.cells)=some c:=
 eX.mpr ⟨δ,by rw[Int.toNat_natCast];exact YZ _ _⟩
theorem Zmy{α:Type}{l:List (Option α)}{x:α}{y:Option α}(h:y∈qN l x):y∈l\/y=some x:=by
 unfold qN at h
 by_cases z:jH l<l.length
 ·rw[if_pos z]at h;rcases List.mem_or_eq_of_mem_set h with h | h
  ·exact .inl h
  ·exact .inr h
 ·rw[if_neg z]at h;rcases List.mem_append.mp h with h | h
  ·exact .inl h
  ·exact .inr (List.mem_singleton.mp h)
theorem Zja{M:Wm}{h k:Nat}{m:Str×Au}{x:AA}(hm:M.hands[h]? =some m)(hk:m.2[k]? =some x):aX M h k=x:=by
 unfold aX;rw[hm];show(m.2[k]?).join=x;rw[hk];rfl
theorem Zcc{M:Wm}{h k:Nat}(o:Bq M h k):∃m,M.hands[h]? =some m/\m.2[k]? =some (aX M h k)/\k<m.2.length:=by
 obtain⟨m,hm,hk⟩:=o;refine⟨m,hm,?_,hk⟩;rw[Zja hm (bN hk)];exact bN hk
theorem Uo{M:Wm}{h k:Nat}{x:AA}{m:Str×Au}(hm:M.hands[h]? =some m):(setSlot M h k x).hands=M.hands.set h (m.1,m.2.set k x):=by
 show M.hands.modify h _=_;refine List.ext_getElem? ?_;intro i;rw[List.getElem?_modify]
 by_cases e:h=i
 ·subst e;rw[List.getElem?_set_self (cZ hm).1,hm];simp
 ·rw[List.getElem?_set_ne e];simp[e]
theorem nj{M:Wm}{h k:Nat}{x:AA}{y:AA}:Gn (setSlot M h k x) y=Gn M y:=by cases y<;>rfl
theorem Zg2{M:Wm}(h:M.sw.phase≠"walk")(x:AA):cG M x=(none,M):=by
 cases x with
 | none=>rfl
 | some x=>
  unfold cG;dsimp only;cases cellAt M x with
  | none=>rfl
  | some c=>
   dsimp only;rw[if_neg (λz=>h z.1)]
theorem Zdt{M:Wm}{h s:Nat}{many bulk:Int}(hf:M.used+(1+many+bulk)<=M.room):rO M (.make h s many bulk)=.ok (⟨"made",some (M.born+1),[]⟩,setSlot { M with used:=M.used+(1+many+bulk),born:=M.born+1,cells:=qN M.cells ⟨M.born+1,bulk,M.sw.sense,0,List.replicate many.toNat none⟩ } h s (some (jH M.cells))):=by
 show(if _ then _ else _)=_;rw[if_pos hf]
structure rT(K:aG)(X:Cs):Prop where
 c:TxC K X.C X.H
 cW:Er K X.W
 Vf:bA K X.W "heap"
 nWk:bA K X.W "kind"
 nWd:bA K X.W "hands"
 nWn:bA K X.W "names"
 Ve:bA K X.W "sweeper"
 cD:Er K X.D
 nDn:bA K X.D "name"
 nDs:bA K X.D "slots"
 cK:Er K X.K
 nKl:bA K X.K "looking"
 nKt:bA K X.K "tells"
 cS:Er K X.S
 n1:bA K X.S "sense"
 n2:bA K X.S "phase"
 n3:bA K X.S "grey"
 n4:bA K X.S "looked"
 n5:bA K X.S "turn"
 n6:bA K X.S "at"
 n7:bA K X.S "stop"
 n8:bA K X.S "walks"
 n9:bA K X.S "looks"
 n10:bA K X.S "passes"
 n11:bA K X.S "loss"
structure WJ0(X:Cs)(H:Hp)(T:Tg)(s:Nat)(A:Wa)(M:Wm):Prop where
 jb:WB X H T s A M.w M.tells
 jh:WH X H T s A M.room M.used M.born
 js:WS X H T s A M.sw
 jd:WD X H T s A.hs M.hands
 jc:WC X H T s A.cs M.cells
theorem WJ.w0{X:Cs}{H:Hp}{T:Tg}{s:Nat}{A:Wa}{M:Wm}(j:WJ X H T s A M):WJ0 X H T s A M:=⟨j.jb,j.jh,j.js,j.jd,j.jc⟩
theorem WJ.names{X:Cs}{H:Hp}{T:Tg}{s:Nat}{A:Wa}{M:Wm}{o:HO}(j:WJ X H T s A M)(h0:s≠0):WJ0 X (upd H A.nm o) T s A M:=by
 have f:xK s (·=6) H (upd H A.nm o) T T:=xK.Dh j.jn.tm;exact⟨j.jb.mv f (m5 h0 j.jn.tm) δ δ,j.jh.mv f δ δ,j.js.mv f δ δ,j.jd.mv f λ_ _ _=>δ,j.jc.mv f λ_ _=>δ⟩
theorem WJ0.same{X:Cs}{H H':Hp}{T:Tg}{s:Nat}{A:Wa}{M:Wm}(j:WJ0 X H T s A M)(e:aY H H'):WJ0 X H' T s A M:=by
 have f:xK s (λ_=>False) H H' T T:=xK.of_same e;exact⟨j.jb.mv f (λb o h _=>e b o h) id id,j.jh.mv f id id,j.js.mv f id id,j.jd.mv f λ_ _ _=>id,j.jc.mv f λ_ _=>id⟩
def atO(cs:List V):V->V
 | .int i=>if 0<=i then(cs[i.toNat]?).getD .non else .non
 | _=>.non
def fD(CH:AI):Sp:=λvs H Q E=>∃hp pl,vs=[.ref hp,pl]/\(pl=.non\/∃i,pl=.int i)/\∃ca room used born cs,HpO CH H hp ca room used born cs/\Q (atO cs pl) H
def cO(M:Wm)(x:AA):Option Ce:=x.bind (cellAt M)
def dB(X:Cs):Sp:=λvs H Q E=>∃hp pl,vs=[.ref hp,pl]/\∃x,pl=oV x/\∃T s A M,WJ X H T s A M/\A.hp=hp/\Q (oV (Gn M x)) H
def Ec(X:Cs):Sp:=λvs H Q E=>∃p f,vs=[.ref p,.int f]/\∃T s i q c,Tv X.C H T s i q c/\q.1=p/\Q (.bl (decide (0<=f) && decide (f<c.fl.length))) H
def cU(X:Cs):Sp:=λvs H Q E=>∃wo h,vs=[.ref wo,.int h]/\∃T s A M k p,WJ X H T s A M/\A.wo=wo/\h=((k:Nat):Int)/\A.hs[k]? =some p/\Q (.ref p.2) H
def d7(X:Cs):Sp:=λvs H Q E=>∃wo p,vs=[.ref wo,.ref p]/\∃T s A M i q c,WJ0 X H T s A M/\A.wo=wo/\Tv X.C H T s i q c/\q.1=p/\Q (.bl (decide (c.tone=M.sw.sense))) H
def Eb(X:Cs):Sp:=λvs H Q E=>∃wo h,vs=[.ref wo,.int h]/\∃T s A M k,WJ X H T s A M/\A.wo=wo/\h=((k:Nat):Int)/\Q (.bl (cP M k)) H
def Hu(X:Cs):Sp:=λvs H Q E=>∃wo v,vs=[.ref wo,v]/\∃T s A M,WJ X H T s A M/\A.wo=wo/\(0<=M.tells/\M.tells<4)/\∀l,H l=none->Q (.ref l) (upd H l (.lst (if old? M=true then [v]else [])))
def vm(X:Cs):Sp:=λvs H Q E=>∃wo h v,vs=[.ref wo,.int h,v]/\∃T s A M k,WJ X H T s A M/\A.wo=wo/\(0<=M.tells/\M.tells<4)/\h=((k:Nat):Int)/\∀l,H l=none->Q (.ref l) (upd H l (.lst (if (qi M && !cP M k)=true then [v]else [])))
def lH(X:Cs)(CE:AI):Sp:=λvs H Q E=>∃wo h t,vs=[.ref wo,.int h,.int t]/\∃T s A M hn tn,WJ X H T s A M/\A.wo=wo/\h=((hn:Nat):Int)/\t=((tn:Nat):Int)/\Bq M hn tn/\
 (cO M (aX M hn tn)=none->E (.ref CE) none H)/\
 (∀i c p,aX M hn tn=some i->0<=i->cellAt M i=some c->A.cs[i.toNat]? =some (some p)->Tv X.C H T s i.toNat p c->Q (.ref p.1) H)
def rQ(X:Cs)(CE CF:AI):Sp:=λvs H Q E=>∃wo h t f,vs=[.ref wo,.int h,.int t,.int f]/\∃T s A M hn tn fn,WJ X H T s A M/\A.wo=wo/\h=((hn:Nat):Int)/\t=((tn:Nat):Int)/\f=((fn:Nat):Int)/\Bq M hn tn/\
 (cO M (aX M hn tn)=none->E (.ref CE) none H)/\
 (∀i c,aX M hn tn=some i->0<=i->cellAt M i=some c->c.fl[fn]? =none->E (.ref CF) none H)/\
 (∀i c p,aX M hn tn=some i->0<=i->cellAt M i=some c->A.cs[i.toNat]? =some (some p)->Tv X.C H T s i.toNat p c->fn<c.fl.length->Q (.ref p.2) H)
def Zhh(X:Cs):Sp:=λvs H Q E=>∃wo pl,vs=[.ref wo,pl]/\∃x,pl=oV x/\∃T s A M,WT H T/\s≠0/\WJ X H T s A M/\A.wo=wo/\(M.sw.phase="walk"->M.sw.grey.length<=20000)/\
 ∀H',cY s H H' T T->WJ X H' T s A (cG M x).2->Q (oV (cG M x).1) H'
def PlO(H:Hp)(T:Tg)(A:Wa)(M:Wm)(pl:AI)(xs:Au):Prop:=(H pl=some (.lst (xs.map oV))/\T pl=(0,0))\/(∃(k:Nat) (p:AI×AI) (m:Str×Au),A.hs[k]? =some p/\M.hands[k]? =some m/\pl=p.2/\xs=m.2)\/(∃(k:Nat) (p:AI×AI) (c:Ce),A.cs[k]? =some (some p)/\M.cells[k]? =some (some c)/\pl=p.2/\xs=c.fl)
theorem PlO.get{X:Cs}{H:Hp}{T:Tg}{s:Nat}{A:Wa}{M:Wm}{pl:AI}{xs:Au}(h:PlO H T A M pl xs)(j:WJ X H T s A M):H pl=some (.lst (xs.map oV)):=by
 rcases h with ⟨h,_⟩ | ⟨k,p,m,h1,h2,rfl,rfl⟩ | ⟨k,p,c,h1,h2,rfl,rfl⟩
 ·exact h
 ·exact(j.jd.hd k p m h1 h2).o2
 ·have e:=j.jc.ce k _ _ h1 h2;exact(show Tv X.C H T s k p c from e).o2
def gF(X:Cs):Sp:=λvs H Q E=>∃wo pl,vs=[.ref wo,.ref pl]/\∃xs T s A M,WT H T/\s≠0/\WJ X H T s A M/\A.wo=wo/\PlO H T A M pl xs/\xs.length<=100/\(M.sw.phase="walk"->M.sw.grey.length<=10000)/\
 ∀H' T' l,cY s H H' T T'->WJ X H' T' s A (bC M xs).2->H' l=some (.lst ((bC M xs).1.map V.int))->(H l=none/\Ol s (T' l))->Q (.ref l) H'
def Tr(X:Cs):Sp:=λvs H Q E=>∃wo p b,vs=[.ref wo,.int p,.int b]/\∃T s A M,WJ0 X H T s A M/\A.wo=wo/\Q (.bl (qW M p b)) H
def xJ(X:Cs)(CN:AI):Sp:=λvs H Q E=>∃wo z,vs=[.ref wo,.str z]/\∃T s A M,WJ X H T s A M/\A.wo=wo/\(yr M.names z=none->E (.ref CN) none H)/\(∀p b,yr M.names z=some (p,b)->Q (if qW M p b=true then .non else .int p) H)
theorem yf(x:AA):oV x=.non\/∃i,oV x=.int i:=by cases x with
 | none=>exact .inl rfl
 | some i=>exact .inr ⟨i,rfl⟩
section
variable {X:Cs}{H H':Hp}{T T':Tg}{s:Nat}{A:Wa}{M:Wm}
theorem WJ0.hpO(j:WJ0 X H T s A M):HpO X.H H A.hp A.ca M.room M.used M.born (A.cs.map pV):=⟨j.jh.oh,j.jh.oc⟩
theorem WJ0.look(j:WJ0 X H T s A M)(x:AA):(cO M x=none/\atO (A.cs.map pV) (oV x)=.non)\/∃i c p,x=some i/\0<=i/\cellAt M i=some c/\M.cells[i.toNat]? =some (some c)/\A.cs[i.toNat]? =some (some p)/\atO (A.cs.map pV) (oV x)=.ref p.1/\Tv X.C H T s i.toNat p c:=by
 cases x with
 | none=>exact .inl ⟨rfl,rfl⟩
 | some i=>
  show(cellAt M i=none/\atO _ (.int i)=_)\/_
  by_cases h0:0<=i
  ·cases hc:M.cells[i.toNat]? with
   | none=>
    have hl:A.cs[i.toNat]? =none:=by
     rw[List.getElem?_eq_none_iff]at hc ⊢;rw[j.jc.lc];exact hc
    refine .inl ⟨by unfold cellAt;rw[if_pos h0,hc];rfl,?_⟩;show(if 0<=i then _ else _)=_;rw[if_pos h0,cI,hl];rfl
   | some y=>cases y with
    | none=>
     refine .inl ⟨by unfold cellAt;rw[if_pos h0,hc];rfl,?_⟩;show(if 0<=i then _ else _)=_;rw[if_pos h0,cI,j.jc.at0 hc];rfl
    | some c=>
     obtain⟨p,hp,e⟩:=j.jc.at hc;refine .inr ⟨i,c,p,rfl,h0,by unfold cellAt;rw[if_pos h0,hc];rfl,hc,hp,?_,e⟩;show(if 0<=i then _ else _)=_;rw[if_pos h0,cI,hp];rfl
  ·refine .inl ⟨by unfold cellAt;rw[if_neg h0],?_⟩;show(if 0<=i then _ else _)=_;rw[if_neg h0]
theorem WJ.hpO(j:WJ X H T s A M):HpO X.H H A.hp A.ca M.room M.used M.born (A.cs.map pV):=j.w0.hpO
theorem WJ.look(j:WJ X H T s A M)(x:AA):(cO M x=none/\atO (A.cs.map pV) (oV x)=.non)\/∃i c p,x=some i/\0<=i/\cellAt M i=some c/\M.cells[i.toNat]? =some (some c)/\A.cs[i.toNat]? =some (some p)/\atO (A.cs.map pV) (oV x)=.ref p.1/\Tv X.C H T s i.toNat p c:=j.w0.look x
theorem WJ.hand(j:WJ X H T s A M){k:Nat}{p:AI×AI}(hp:A.hs[k]? =some p):∃m,M.hands[k]? =some m/\HdO X.D H T s k p m:=by
 have hl:k<M.hands.length:=by rw[<- j.jd.lh];exact(cZ hp).1
 exact⟨_,bN hl,j.jd.hd k p _ hp (bN hl)⟩
theorem WJ.handOf(j:WJ X H T s A M){h t:Nat}(o:Bq M h t):∃p m,A.hs[h]? =some p/\M.hands[h]? =some m/\m.2[t]? =some (aX M h t)/\t<m.2.length/\HdO X.D H T s h p m:=by
 obtain⟨m,hm,hk,hl⟩:=Zcc o;have hh:h<A.hs.length:=by rw[j.jd.lh];exact(cZ hm).1
 exact⟨_,m,bN hh,hm,hk,hl,j.jd.hd h _ m (bN hh) hm⟩
theorem WJ.fresh(j:WJ X H T s A M){l:AI}{o:HO}{v:Nat×Nat}(h:H l=none):WJ X (upd H l o) (eG T l v) s A M:=
 j.mv (H':=upd H l o) (T':=eG T l v) ⟨λb u e _ _=>by rw[aB (aD e h)];exact e,λb u e=>gG (aD e h)⟩ λb u e _=>by rw[aB (aD e h)];exact e
end
theorem Zww{t:Int}(h:0<=t/\t<4):Builtin.bitAnd t 1=t % 2/\(Builtin.bitAnd t 2=0↔¬ t / 2 % 2=1):=by
 have:t=0\/t=1\/t=2\/t=3:=δ
 rcases this with rfl | rfl | rfl | rfl<;>decide
section
variable {K:aG}{X:Cs}{H:Hp}{Q:VK}{E:XK}{n:ν}{bk ct:ν}
theorem Zh8{hp:AI}{pl:V}(T:rT K X)(q:(pl=.non\/∃i,pl=.int i)/\∃ca room used born cs,HpO X.H H hp ca room used born cs/\Q (atO cs pl) H):G6 K ξ [↑hp,some pl] H:=by
 obtain⟨hpl,ca,room,used,born,cs,⟨⟨dx,h1⟩,h2⟩,q⟩:=q;unfold G6;rcases hpl with rfl | ⟨i,rfl⟩
 ·apply q
 ·apply Ai (λz=>?_) (λz=>?_)
  ·ext;rw[show atO cs (.int i)=.non from if_neg δ]at q;exact q
  ·rw[show atO cs (.int i)=(cs[i.toNat]?).getD .non from if_pos δ]at q;apply aL h1 T.c.cC T.c.bK bU ?_;apply fU (bO.of h2) ?_;apply Ai (λy=>?_) (λy=>?_)
   ·ext;rw[List.getElem?_eq_none_iff.mpr δ]at q;exact q
   ·apply aL h1 T.c.cC T.c.bK bU ?_;ext;have hl:i.toNat<cs.length:=δ
    refine eE (bO.of h2) (mO δ (bN hl)) ?_;rw[bN hl]at q;exact q
theorem Ze0{hp:AI}{pl:V}(T:rT K X)(q:∃x,pl=oV x/\∃T s A M,WJ X H T s A M/\A.hp=hp/\Q (oV (Gn M x)) H):Cz K (fD X.H) ξ [↑hp,some pl,none] H:=by
 obtain⟨x,rfl,Tg,s,A,M,j,rfl,q⟩:=q;unfold Cz;exists _,_,rfl,yf x,_,_,_,_,_,j.hpO;rcases j.look x with ⟨e1,e2⟩ | ⟨i,c,p,rfl,h0,ec,_,_,e2,⟨t1,t2,⟨dx,o1⟩,o2⟩⟩
 ·rw[e2];have:Gn M x=none:=by
   cases x with
   | none=>rfl
   | some i=>show(cellAt M i).map _=none;rw[show cellAt M i=none from e1];rfl
  rw[this]at q;apply q
 ·rw[e2];have:Gn M (some i)=some c.birth:=by show(cellAt M i).map _=_;rw[ec];rfl
  rw[this]at q;apply aL o1 T.c.cN T.c.cX fJ ?_;exact q
theorem Kr{p:AI}{f:Int}(T:rT K X)(q:∃T s i q c,Tv X.C H T s i q c/\q.1=p/\Q (.bl (decide (0<=f) && decide (f<c.fl.length))) H):nQ K ξ [↑p,some (.int f)] H:=by
 obtain⟨Tg,s,i,r,c,⟨t1,t2,⟨dx,o1⟩,o2⟩,rfl,q⟩:=q;unfold nQ;apply Ai (λz=>?_) (λz=>?_)
 ·rw[decide_eq_true z,Bool.true_and]at q;apply aL o1 T.c.cN T.c.dN jJ ?_;apply fU (bO.of o2) ?_;ext;rw[bx];exact q
 ·rw[decide_eq_false z,Bool.false_and]at q;apply q
theorem Zbl{wo:AI}{h:Int}(T:rT K X)(q:∃T s A M k p,WJ X H T s A M/\A.wo=wo/\h=((k:Nat):Int)/\A.hs[k]? =some p/\Q (.ref p.2) H):Cu K ξ [↑wo,some (.int h)] H:=by
 obtain⟨Tg,s,A,M,k,p,j,rfl,rfl,hp,q⟩:=q;obtain⟨d1,ow⟩:=j.jb.ow;obtain⟨m,hm,⟨t1,t2,⟨dx,o1⟩,o2⟩⟩:=j.hand hp;unfold Cu;apply aL ow T.cW T.nWd dO ?_;apply eE (bO.of j.jb.on) (g8 (v:=.ref p.1) (by rw[cI,hp];rfl)) ?_;refine aL o1 T.cD T.nDs uX ?_;exact q
theorem Za5{wo p:AI}(T:rT K X)(q:∃T s A M i q c,WJ0 X H T s A M/\A.wo=wo/\Tv X.C H T s i q c/\q.1=p/\Q (.bl (decide (c.tone=M.sw.sense))) H):zq K ξ [↑wo,↑p] H:=by
 obtain⟨Tg,s,A,M,i,r,c,j,rfl,⟨t1,t2,⟨dx,o1⟩,o2⟩,rfl,q⟩:=q;obtain⟨d1,ow⟩:=j.jb.ow;obtain⟨d2,os⟩:=j.js.os;unfold zq;apply aL o1 T.c.cN T.c.jq VM ?_;apply aL ow T.cW T.Ve bu ?_;apply aL os T.cS T.n1 mC ?_;apply q
end
theorem Zum{y:Int}:Builtin.bitAnd y 1=y % 2:=by
 unfold Builtin.bitAnd
 by_cases h:0<=y
 ·rw[decide_eq_true h,decide_eq_true (show(0:Int)<=1 by decide)];show((y.toNat &&& 1:Nat):Int)=_;rw[Nat.and_one_is_mod];omega
 ·rw[decide_eq_false h,decide_eq_true (show(0:Int)<=1 by decide)];show(1:Int) - ((1 &&& (Builtin.bitNot y).toNat:Nat):Int)=_;rw[Nat.and_comm,Nat.and_one_is_mod];unfold Builtin.bitNot;omega
section
variable {K:aG}{X:Cs}{H:Hp}{Q:VK}{E:XK}{n:ν}{bk ct:ν}{CE CF CN:AI}
theorem Zy{wo:AI}{h:Int}(T:rT K X)(q:∃T s A M k,WJ X H T s A M/\A.wo=wo/\h=((k:Nat):Int)/\Q (.bl (cP M k)) H):zp K ξ [↑wo,some (.int h)] H:=by
 obtain⟨Tg,s,A,M,k,j,rfl,rfl,q⟩:=q;obtain⟨d1,ow⟩:=j.jb.ow;obtain⟨d2,os⟩:=j.js.os;unfold zp;apply aL ow T.cW T.Ve bu ?_;apply aL os T.cS T.n4 gk ?_;ext;rw[Zum,Int.toNat_natCast];exact q
theorem Qg{wo:AI}{v:V}(T:rT K X)(q:∃T s A M,WJ X H T s A M/\A.wo=wo/\(0<=M.tells/\M.tells<4)/\∀l,H l=none->Q (.ref l) (upd H l (.lst (if old? M=true then [v]else [])))):
  uE K ξ [↑wo,some v] H:=by
 obtain⟨Tg,s,A,M,j,rfl,ht,q⟩:=q;obtain⟨d1,ow⟩:=j.jb.ow;obtain⟨d2,ok⟩:=j.jb.ok;obtain⟨b1,_⟩:=Zww ht;unfold uE;apply aL ow T.cW T.nWk iJ ?_;apply aL ok T.cK T.nKt Dv ?_;ext;rw[b1];refine Ai (λz=>?_) (λz=>?_)
 ·apply⟨bL ζ,λl hl=>?_⟩;have:=q l hl;rw[if_neg (by unfold old?;rw[decide_eq_true_iff];omega)]at this;exact this
 ·apply⟨bL ζ,λl hl=>?_⟩;have:=q l hl;rw[if_pos (by unfold old?;rw[decide_eq_true_iff];omega)]at this;exact this
theorem Qh{wo:AI}{h:Int}{v:V}(T:rT K X)(q:∃T s A M k,WJ X H T s A M/\A.wo=wo/\(0<=M.tells/\M.tells<4)/\h=((k:Nat):Int)/\∀l,H l=none->Q (.ref l) (upd H l (.lst (if (qi M && !cP M k)=true then [v]else [])))):
  uF K (Eb X) ξ [↑wo,some (.int h),some v] H:=by
 obtain⟨Tg,s,A,M,k,j,rfl,ht,rfl,q⟩:=q;obtain⟨d1,ow⟩:=j.jb.ow;obtain⟨d2,ok⟩:=j.jb.ok;obtain⟨_,b1⟩:=Zww ht;unfold uF;apply aL ow T.cW T.nWk iJ ?_;apply aL ok T.cK T.nKt Dv ?_;apply Ai (λz=>?_) (λz=>?_)
 ·apply⟨bL ζ,λl hl=>?_⟩;have:=q l hl;have e:qi M=false:=by unfold qi;exact decide_eq_false (b1.mp z)
  rw[e,Bool.false_and,if_neg ε]at this;exact this
 ·have e:qi M=true:=by unfold qi;exact decide_eq_true (Decidable.not_not.mp λw=>z (b1.mpr w))
  rw[e,Bool.true_and]at q;exists _,_,rfl,Tg,s,A,M,k,j,rfl,rfl;cases hl:cP M k with
  | true=>
   rw[hl]at q;apply⟨bL ζ,λl hl=>?_⟩;exact q l hl
  | false=>
   rw[hl]at q;apply⟨bL ζ,λl hl=>?_⟩;exact q l hl
theorem Zh7{wo:AI}{h t:Int}(T:rT K X)(q:∃T s A M hn tn,WJ X H T s A M/\A.wo=wo/\h=((hn:Nat):Int)/\t=((tn:Nat):Int)/\Bq M hn tn/\
 (cO M (aX M hn tn)=none->E (.ref CE) none H)/\
 (∀i c p,aX M hn tn=some i->0<=i->cellAt M i=some c->A.cs[i.toNat]? =some (some p)->Tv X.C H T s i.toNat p c->Q (.ref p.1) H)):
  G5 K CE (fD X.H) (cU X) E ξ [↑wo,some (.int h),some (.int t),none] H:=by
 obtain⟨Tg,s,A,M,hn,tn,j,rfl,rfl,rfl,ok,hE,hQ⟩:=q;obtain⟨d1,ow⟩:=j.jb.ow;obtain⟨p,m,hp,hm,hs,hl,⟨t1,t2,o1,o2⟩⟩:=j.handOf ok;unfold G5;apply aL ow T.cW T.Vf bJ ?_;exists _,_,rfl,Tg,s,A,M,hn,p,j,rfl,rfl,hp;apply eE (bO.of o2) (g8 (v:=oV (aX M hn tn)) (by rw[cI,hs];rfl)) ?_;exists _,_,rfl,yf _,_,_,_,_,_,j.hpO;rcases j.look (aX M hn tn)with ⟨e1,e2⟩ | ⟨i,c,p',e0,h0,ec,_,hp',e2,ce⟩
 ·rw[e2];apply⟨ε,hE e1⟩
 ·rw[e2];apply hQ i c p' e0 h0 ec hp' ce
theorem Za7{wo:AI}{h t f:Int}(T:rT K X)(q:∃T s A M hn tn fn,WJ X H T s A M/\A.wo=wo/\h=((hn:Nat):Int)/\t=((tn:Nat):Int)/\f=((fn:Nat):Int)/\Bq M hn tn/\
 (cO M (aX M hn tn)=none->E (.ref CE) none H)/\
 (∀i c,aX M hn tn=some i->0<=i->cellAt M i=some c->c.fl[fn]? =none->E (.ref CF) none H)/\
 (∀i c p,aX M hn tn=some i->0<=i->cellAt M i=some c->A.cs[i.toNat]? =some (some p)->Tv X.C H T s i.toNat p c->fn<c.fl.length->Q (.ref p.2) H)):
  zu K X.C CF (Ec X) (lH X CE) E ξ [↑wo,some (.int h),some (.int t),some (.int f),none] H:=by
 obtain⟨Tg,s,A,M,hn,tn,fn,j,rfl,rfl,rfl,rfl,ok,hE,hF,hQ⟩:=q;unfold zu;apply⟨_,_,_,rfl,Tg,s,A,M,hn,tn,j,rfl,rfl,rfl,ok,hE,λi c p e0 h0 ec hp ce=>?_⟩;obtain⟨t1,t2,⟨dx,o1⟩,o2⟩:=id ce;exists p.1,dx,_,rfl,o1,Hs;exists _,_,rfl,Tg,s,_,p,c,ce,rfl
 by_cases z:fn<c.fl.length
 ·rw[show(decide ((0:Int)<=(fn:Int)) && decide ((fn:Int)<c.fl.length))=true from by simp;omega];apply aL o1 T.c.cN T.c.dN jJ ?_;exact hQ i c p e0 h0 ec hp ce z
 ·rw[show(decide ((0:Int)<=(fn:Int)) && decide ((fn:Int)<c.fl.length))=false from by simp;omega];apply⟨ε,hF i c e0 h0 ec (List.getElem?_eq_none_iff.mpr δ)⟩
theorem Zqu{wo:AI}{pl b:Int}(T:rT K X)(q:∃T s A M,WJ0 X H T s A M/\A.wo=wo/\Q (.bl (qW M pl b)) H):YT K (fD X.H) (d7 X) ξ [↑wo,some (.int pl),some (.int b),none] H:=by
 obtain⟨Tg,s,A,M,j,rfl,q⟩:=q;obtain⟨d1,ow⟩:=j.jb.ow;obtain⟨d2,os⟩:=j.js.os;unfold YT;apply aL ow T.cW T.Vf bJ ?_;exists _,_,rfl,yf (some pl),_,_,_,_,_,j.hpO;unfold qW at q;rcases j.look (some pl)with ⟨e1,e2⟩ | ⟨i,c,p,ei,h0,ec,_,hp,e2,ce⟩
 ·rw[show atO (A.cs.map pV) (.int pl)=.non from e2];rw[show cellAt M pl=none from e1]at q;apply q
 ·cases ei;rw[show atO (A.cs.map pV) (.int pl)=.ref p.1 from e2];rw[ec]at q;dsimp only at q;obtain⟨t1,t2,⟨dx,o1⟩,o2⟩:=id ce;apply aL o1 T.c.cN T.c.cX fJ ?_;apply Zdc (λz=>?_) (λz=>?_)
  ·rw[if_neg z]at q;apply q
  ·rw[if_pos z]at q;apply aL ow T.cW T.Ve bu ?_;apply aL os T.cS T.n2 jF ?_;apply Ai (λy=>?_) (λy=>?_)
   ·exists _,_,rfl,Tg,s,A,M,_,p,c,j,rfl,ce,rfl;ext;have:decide (M.sw.phase="give"/\c.tone≠M.sw.sense)=!decide (c.tone=M.sw.sense):=by simp[y]
    rw[this]at q;exact q
   ·have:decide (M.sw.phase="give"/\c.tone≠M.sw.sense)=false:=decide_eq_false λw=>y w.1;rw[this]at q;exact q
theorem Zq3{wo:AI}{pl:V}(T:rT K X)(q:∃x,pl=oV x/\∃T s A M,WT H T/\s≠0/\WJ X H T s A M/\A.wo=wo/\(M.sw.phase="walk"->M.sw.grey.length<=20000)/\
 ∀H',cY s H H' T T->WJ X H' T s A (cG M x).2->Q (oV (cG M x).1) H'):YQ K (fD X.H) (d7 X) ξ [↑wo,some pl,none,none] H:=by
 obtain⟨x,rfl,Tg,s,A,M,w,s0,j,rfl,hg,q⟩:=q;obtain⟨d1,ow⟩:=j.jb.ow;obtain⟨d2,os⟩:=j.js.os;unfold YQ;apply aL ow T.cW T.Ve bu ?_;apply aL ow T.cW T.Vf bJ ?_;exists _,_,rfl,yf x,_,_,_,_,_,j.hpO;apply aL os T.cS T.n2 jF ?_;ext;have stay:cG M x=(none,M)->Q .non H:=λe=>by
  have:=q H (cY.refl w);rw[e]at this;exact this j
 refine Zdc (λz=>?_) (λz=>?_)
 ·apply stay (Zg2 z x)
 ·rcases j.look x with ⟨e1,e2⟩ | ⟨i,c,p,rfl,h0,ec,hc,hp,e2,ce⟩
  ·rw[e2];apply stay ?_;cases x with
   | none=>rfl
   | some i=>unfold cG;dsimp only;rw[show cellAt M i=none from e1]
  ·rw[e2];obtain⟨t1,t2,⟨dx,o1⟩,o2⟩:=id ce;exists _,_,rfl,Tg,s,A,M,_,p,c,j.w0,rfl,ce,rfl
   by_cases y:c.tone=M.sw.sense
   ·rw[decide_eq_true y];apply stay ?_;unfold cG;dsimp only;rw[ec];dsimp only;rw[if_neg λw=>w.2 y]
   ·rw[decide_eq_false y];have en:cG M (some i)=(some c.birth,{ setCell M i { c with tone:=M.sw.sense }with sw:={ M.sw with grey:=M.sw.grey++[i] } }):=by
     unfold cG;dsimp only;rw[ec];dsimp only;rw[if_pos ⟨z,y⟩]
    rw[en]at q;apply aL os T.cS T.n1 mC ?_;apply⟨p.1,X.C,dx,_,rfl,o1,T.c.cN,T.c.jq,by show 5<1000;decide,?_⟩;rw[S8];obtain⟨st1,j1⟩:=j.cell w s0 (dx:=dx) (tone:=M.sw.sense) (load:=c.load) hp ce;generalize upd H p.1 (.ins X.C dx (jT c.birth c.bulk M.sw.sense c.load p.2))=H1 at st1 j1 ⊢;obtain⟨d3,os1⟩:=j1.js.os;obtain⟨p1,hp1,ce1⟩:=j1.jc.at (i:=i.toNat) (c:={ c with tone:=M.sw.sense,load:=c.load }) (by rw[List.getElem?_set_self (cZ hc).1]);rw[hp]at hp1;cases hp1;apply aL os1 T.cS T.n3 uq ?_;ext;have hgl:=hg z;refine⟨.inl ⟨rfl,_,bO.of j1.js.og⟩,?_⟩;exists _,_,_,rfl,rfl,j1.js.og,?_
    ·rw[bx];exact Nat.lt_of_le_of_lt hgl ε
    obtain⟨st2,j2⟩:=j1.Zrt st1.wt s0 (g:=M.sw.grey++[i]);have eg:(M.sw.grey.map V.int++[V.int i])=(M.sw.grey++[i]).map V.int:=by rw[List.map_append];rfl
    show bB _ _ _ (upd H1 A.gr (.lst (M.sw.grey.map V.int++[oV (some i)])));rw[show(M.sw.grey.map V.int++[oV (some i)])=(M.sw.grey++[i]).map V.int from eg];generalize upd H1 A.gr (.lst ((M.sw.grey++[i]).map V.int))=H2 at st2 j2 ⊢;obtain⟨p2,hp2,ce2⟩:=j2.jc.at (i:=i.toNat) (c:={ c with tone:=M.sw.sense,load:=c.load }) (by show(M.cells.set _ _)[_]? =_;rw[List.getElem?_set_self (cZ hc).1]);rw[hp]at hp2;cases hp2;obtain⟨_,_,⟨dx2,o3⟩,_⟩:=ce2;apply aL o3 T.c.cN T.c.cX fJ ?_;exact q H2 (st1.trans st2) j2
theorem Zt3{Tg:Tg}{z:Str}:∀{ns:AF}{names:List (Str×(Int×Int))},Al (NmO H Tg) ns names->(yr names z=none/\rW (Bp names ns) (Sum.inr z)=none)\/∃p b t,yr names z=some (p,b)/\rW (Bp names ns) (Sum.inr z)=↑t/\H t=some (.tup [.int p,.int b])/\Tg t=(0,0):=by
 intro ns names h
 induction h with
 | nil=>exact .inl ⟨rfl,rfl⟩
 | @cons t m ns names h1 _ ih=>
  by_cases e:m.1=z
  ·refine .inr ⟨m.2.1,m.2.2,t,?_,?_,h1.2,h1.1⟩
   ·unfold yr;rw[List.find?_cons_of_pos (by simpa using e)];rfl
   ·show(List.find? _ ((Sum.inr m.1,V.ref t)::Bp names ns)).map _=_;rw[List.find?_cons_of_pos (by simpa using e)];rfl
  ·have g:yr (m::names) z=yr names z:=by unfold yr;rw[List.find?_cons_of_neg (by simpa using e)]
   have v:rW (Bp (m::names) (t::ns)) (Sum.inr z)=rW (Bp names ns) (Sum.inr z):=by
    show(List.find? _ ((Sum.inr m.1,V.ref t)::Bp names ns)).map _=_;rw[List.find?_cons_of_neg (by simpa using e)];rfl
   rw[g,v];exact ih
theorem QW{wo:AI}{z:Str}(T:rT K X)(q:∃T s A M,WJ X H T s A M/\A.wo=wo/\(yr M.names z=none->E (.ref CN) none H)/\(∀p b,yr M.names z=some (p,b)->Q (if qW M p b=true then .non else .int p) H)):
  uG K CN (Tr X) E ξ [↑wo,some (.str z),none,none] H:=by
 obtain⟨Tg,s,A,M,j,rfl,hE,hQ⟩:=q;obtain⟨d1,ow⟩:=j.jb.ow;obtain⟨tm,om,nms⟩:=j.jn;unfold uG;apply aL ow T.cW T.nWn jE ?_;refine⟨_,_,rfl,Zon om,?_⟩;rcases Zt3 (z:=z) nms with ⟨e1,e2⟩ | ⟨p,b,t,e1,e2,ot,_⟩
 ·rw[e2];apply⟨ε,hE e1⟩
 ·rw[e2,show(!(some (V.ref t)).isSome)=false from rfl];apply aL ow T.cW T.nWn jE ?_;apply⟨_,_,rfl,by have:=Zon (z:=z) om;rw[e2]at this;exact this,?_⟩;exists t,_,0,_,rfl,rfl,fc.of ot,rfl;apply aL ow T.cW T.nWn jE ?_;apply⟨_,_,rfl,by have:=Zon (z:=z) om;rw[e2]at this;exact this,?_⟩;exists t,_,1,_,rfl,rfl,fc.of ot,rfl;exists _,_,_,rfl,Tg,s,A,M,j.w0,rfl;have:=hQ p b e1;cases hg:qW M p b with
  | true=>
   rw[hg]at this;apply this
  | false=>
   rw[hg]at this;apply this
theorem cY.new{s:Nat}{H Hx:Hp}{T Tx:Tg}{l:AI}{o o0:HO}(e:cY s H Hx T Tx)(hl:H l=none)(hx:Hx l=some o0):cY s H (upd Hx l o) T Tx where
 kp:=λb u h z=>by rw[aB (aD h hl)];exact e.kp b u h z
 al:=λb u h=>by rw[aB (aD h hl)];exact e.al b u h
 tg:=e.tg
 wt:=λb h=>e.wt b (by
  by_cases z:b=l
  ·rw[z,ao]at h;cases h
  ·rw[aB z]at h;exact h)
theorem cY.fresh{s:Nat}{H:Hp}{T:Tg}{l:AI}{o:HO}{v:Nat×Nat}(w:WT H T)(hl:H l=none):cY s H (upd H l o) T (eG T l v) where
 kp:=λb u h z=>by rw[aB (aD h hl)];exact h
 al:=λb u h=>⟨u,by rw[aB (aD h hl)];exact h⟩
 tg:=λb u h=>gG (aD h hl)
 wt:=λb h=>by
  by_cases z:b=l
  ·rw[z,ao]at h;cases h
  ·rw[aB z]at h;rw[gG z];exact w b h
theorem Zg3{M:Wm}{x:AA}:(cG M x).2.sw.phase=M.sw.phase/\(cG M x).2.sw.grey.length<=M.sw.grey.length+1/\(cG M x).2.tells=M.tells/\(cG M x).2.names=M.names:=by
 cases x with
 | none=>exact⟨rfl,Nat.le_succ _,rfl,rfl⟩
 | some i=>
  unfold cG;dsimp only;cases cellAt M i with
  | none=>exact⟨rfl,Nat.le_succ _,rfl,rfl⟩
  | some c=>
   dsimp only
   by_cases z:M.sw.phase="walk"/\c.tone≠M.sw.sense
   ·rw[if_pos z];exact⟨rfl,by show(M.sw.grey++[i]).length<=_;rw[List.length_append];exact Nat.le_refl _,rfl,rfl⟩
   ·rw[if_neg z];exact⟨rfl,Nat.le_succ _,rfl,rfl⟩
theorem N8{M:Wm}{x:AA}:(cG M x).2.hands=M.hands:=by
 cases x with
 | none=>rfl
 | some i=>
  unfold cG;dsimp only;cases cellAt M i with
  | none=>rfl
  | some c=>
   dsimp only;split<;>rfl
theorem Zg4{M:Wm}{x:AA}{k:Nat}{c:Ce}(h:M.cells[k]? =some (some c)):∃c',(cG M x).2.cells[k]? =some (some c')/\c'.fl=c.fl/\c'.birth=c.birth/\c'.bulk=c.bulk/\c'.load=c.load:=by
 cases x with
 | none=>exact⟨c,h,rfl,rfl,rfl,rfl⟩
 | some i=>
  unfold cG;dsimp only;cases hc:cellAt M i with
  | none=>exact⟨c,h,rfl,rfl,rfl,rfl⟩
  | some d=>
   dsimp only;split
   ·show ∃c',(M.cells.set i.toNat _)[k]? =_/\_
    by_cases z:i.toNat=k
    ·subst z;obtain⟨_,hd⟩:=eX.mp hc;rw[h]at hd;cases hd;exact⟨_,List.getElem?_set_self (cZ h).1,rfl,rfl,rfl,rfl⟩
    ·rw[List.getElem?_set_ne z];exact⟨c,h,rfl,rfl,rfl,rfl⟩
   ·exact⟨c,h,rfl,rfl,rfl,rfl⟩
theorem ir:∀{l:Au}{M:Wm}{x:AA},bC M (l++[x])=((bC M l).1++ofN (cG (bC M l).2 x).1,(cG (bC M l).2 x).2)
 | [],M,x=>by
  show(ofN (cG M x).1++[],(cG M x).2)=([]++ofN (cG M x).1,(cG M x).2);rw[List.append_nil,List.nil_append]
 | y::l,M,x=>by
  show(ofN (cG M y).1++(bC (cG M y).2 (l++[x])).1,(bC (cG M y).2 (l++[x])).2)=_;rw[ir];show _=((ofN (cG M y).1++(bC (cG M y).2 l).1)++_,_);rw[List.append_assoc];rfl
theorem wj:∀{l:Au}{M:Wm},(bC M l).2.sw.phase=M.sw.phase/\(bC M l).2.sw.grey.length<=M.sw.grey.length+l.length
 | [],M=>⟨rfl,Nat.le_refl _⟩
 | y::l,M=>by
  obtain⟨a,b,_⟩:=Zg3 (M:=M) (x:=y);obtain⟨c,d⟩:=wj (l:=l) (M:=(cG M y).2);refine⟨c.trans a,?_⟩;show(bC (cG M y).2 l).2.sw.grey.length<=_;rw[List.length_cons];omega
theorem qg:∀{l:Au}{M:Wm},(bC M l).1.length<=l.length
 | [],M=>Nat.le_refl _
 | y::l,M=>by
  have:=qg (l:=l) (M:=(cG M y).2);show(ofN (cG M y).1++(bC (cG M y).2 l).1).length<=_;rw[List.length_append,List.length_cons];have:(ofN (cG M y).1).length<=1:=by cases (cG M y).1<;>simp[ofN]
  omega
theorem Zcd{wo pl:AI}(T:rT K X)(q:∃xs T s A M,WT H T/\s≠0/\WJ X H T s A M/\A.wo=wo/\PlO H T A M pl xs/\xs.length<=100/\(M.sw.phase="walk"->M.sw.grey.length<=10000)/\
 ∀H' T' l,cY s H H' T T'->WJ X H' T' s A (bC M xs).2->H' l=some (.lst ((bC M xs).1.map V.int))->(H l=none/\Ol s (T' l))->Q (.ref l) H'):Cv K (Zhh X) ξ [↑wo,↑pl,none,none,none] H:=by
 obtain⟨xs,Tg,s,A,M,w,s0,j,rfl,plo,hx,hg,q⟩:=q;have opl:=plo.get j;unfold Cv;apply⟨bL ζ,λl hl=>?_⟩;have npl:pl≠l:=aD opl hl;have st1:cY s H (upd H l (.lst [])) Tg (eG Tg l (s+1,0)):=cY.fresh w hl;have j1:WJ X (upd H l (.lst [])) (eG Tg l (s+1,0)) s A M:=j.fresh hl;have g1:upd H l (.lst []) l=some (.lst []):=ao;have tl:eG Tg l (s+1,0) l=(s+1,0):=dM;have po1:PlO (upd H l (.lst [])) (eG Tg l (s+1,0)) A M pl xs:=by
  rcases plo with ⟨h1,h2⟩ | h
  ·exact .inl ⟨(aB npl).trans h1,(gG npl).trans h2⟩
  ·exact .inr h
 have op1:upd H l (.lst []) pl=some (.lst (xs.map oV)):=(aB npl).trans opl;generalize upd H l (.lst [])=H1 at st1 j1 g1 op1 po1 ⊢;generalize eG Tg l (s+1,0)=T1 at st1 j1 tl po1;apply⟨pl,rfl,⟨_,bO.of op1⟩,forL (xs.map oV) (λi σ Hx=>∃v3 v4,σ=[↑A.wo,↑pl,↑l,v3,v4]/\cY s H Hx Tg T1/\WJ X Hx T1 s A (bC M (xs.take i)).2/\Hx l=some (.lst ((bC M (xs.take i)).1.map V.int))/\PlO Hx T1 A (bC M (xs.take i)).2 pl xs) ⟨_,_,rfl,st1,j1,g1,po1⟩ (by rintro _ _ _ _ ⟨_,_,_,_,j,_,e⟩;exact bO.of (e.get j)) ?_ ?_⟩
 ·rintro i x σ Hx hi ⟨v3,v4,rfl,st2,j2,g2,op2⟩;obtain⟨y,hy,rfl⟩:∃y,xs[i]? =some y/\oV y=x:=by
   rw[cI]at hi;obtain⟨y,a,b⟩:=Option.map_eq_some_iff.mp hi;exact⟨y,a,b⟩
  have il:=(cZ hy).1;have et:xs.take (i+1)=xs.take i++[y]:=by
   rw[List.take_add_one,hy];rfl
  obtain⟨gp,gl⟩:=wj (l:=xs.take i) (M:=M);have nl:=qg (l:=xs.take i) (M:=M);have tk:(xs.take i).length<=100:=by rw[List.length_take];omega
  apply⟨_,_,rfl,y,rfl,T1,s,A,_,st2.wt,s0,j2,rfl,λz=>?_,λHy sty jy=>?_⟩
  ·have:=hg (gp.symm.trans z);omega
  have gy:Hy l=some (.lst ((bC M (xs.take i)).1.map V.int)):=sty.kp _ _ g2 (by rw[tl];show s+1≠s;omega);have oy:PlO Hy T1 A (cG (bC M (xs.take i)).2 y).2 pl xs:=by
   rcases op2 with ⟨h1,h2⟩ | ⟨k,p,m,h1,h2,h3,h4⟩ | ⟨k,p,c,h1,h2,h3,h4⟩
   ·exact .inl ⟨sty.kp _ _ h1 (by rw[h2];exact λz=>s0 z.symm),h2⟩
   ·exact .inr (.inl ⟨k,p,m,h1,by rw[N8];exact h2,h3,h4⟩)
   ·obtain⟨c',e1,e2,_⟩:=Zg4 (x:=y) h2;exact .inr (.inr ⟨k,p,c',h1,e1,h3,by rw[e2];exact h4⟩)
  have stt:=st2.trans sty;ext;cases hn:(cG (bC M (xs.take i)).2 y).1 with
  | none=>
   dsimp only[oV];apply⟨_,_,rfl,stt,?_,?_,by rw[et,ir];exact oy⟩
   ·rw[et,ir];exact jy
   ·rw[et,ir];show Hy l=some (.lst (((bC M (xs.take i)).1++ofN (cG (bC M (xs.take i)).2 y).1).map V.int));rw[hn];show Hy l=some (.lst (((bC M (xs.take i)).1++[]).map V.int));rw[List.append_nil];exact gy
  | some b=>
   dsimp only[oV];exists .inl ⟨rfl,_,bO.of gy⟩;exists _,_,_,rfl,rfl,gy,?_
   ·rw[bx];exact Nat.lt_of_le_of_lt (show _<=100 by omega) ε
   exists _,_,rfl,cY.new stt hl gy,?_,?_
   ·rw[et,ir];exact jy.other (s':=s+1) (cY.upd sty.wt gy (by rw[tl])) δ δ
   ·rw[et,ir,ao];show some (HO.lst _)=some (HO.lst (((bC M (xs.take i)).1++ofN (cG (bC M (xs.take i)).2 y).1).map V.int));rw[hn,List.map_append];rfl
   ·rw[et,ir];rcases oy with ⟨h1,h2⟩ | h
    ·exact .inl ⟨by rw[aB npl];exact h1,h2⟩
    ·exact .inr h
 ·rintro σ Hx ⟨v3,v4,rfl,st2,j2,g2,op2⟩;ext;rw[show(xs.map oV).length=xs.length from bx _,List.take_length]at j2 g2;exact q Hx T1 l st2 j2 g2 ⟨hl,by rw[tl];exact .inr rfl⟩
end
theorem pO{M:Wm}{h k:Nat}{x:AA}{m:Str×Au}(hm:M.hands[h]? =some m):{ M with hands:=M.hands.set h (m.1,m.2.set k x) }=setSlot M h k x:=by
 have e:=Uo (k:=k) (x:=x) hm;show _={ M with hands:=_ };rw[show(M.hands.modify h λm=>(m.1,m.2.set k x))=M.hands.set h (m.1,m.2.set k x)from e]
def RP(d:rR):Prop:=∃h s many bulk,d=.make h s many bulk
def Zdb(d:rR):Prop:=∃h s t f,d=.get h s t f
def Zd6(d:rR):Prop:=∃h t f s,d=.put h t f s
def R4(d:rR):Prop:=∃h s t,d=.copy h s t
def R3(d:rR):Prop:=∃h s,d=.drop h s
def R0(d:rR):Prop:=∃h s g t,d=.give h s g t
def JL(d:rR):Prop:=∃h t load,d=.write h t load
def RN(d:rR):Prop:=∃h t,d=.read h t
def isName(d:rR):Prop:=∃h t word,d=.name h t word
def RM(d:rR):Prop:=∃h s word,d=.seek h s word
abbrev Ep(X:Cs)(rf:Rf->AI)(P:rR->Prop)(wo dd:AI)(H:Hp)(Q:VK)(E:XK):Prop:=∃T s A M d,P d/\WT H T/\s≠0/\WJ X H T s A M/\A.wo=wo/\H dd=some (.tup (dV d))/\okD M d/\M.cells.length<=900/\(M.sw.phase="walk"->M.sw.grey.length<=10000)/\(0<=M.tells/\M.tells<4)/\M.names.length<=1000/\
 (∀r,rO M d=.error r->∀H',aY H H'->E (.ref (rf r)) none H')/\
 (∀e M',rO M d=.ok (e,M')->∀H' T' A' a,cY s H H' T T'->WJ X H' T' s A' M'->A'.wo=wo->EvN H H' T' s a e->Q (.ref a) H')
section
variable {X:Cs}{H Hx:Hp}{T Tx:Tg}{s:Nat}{A Ax:Wa}{M M':Wm}{d:rR}{e:Ev}{wo:AI}{Q:VK}
theorem cY.free{s:Nat}{H Hx:Hp}{T Tx:Tg}{l:AI}(e:cY s H Hx T Tx)(h:Hx l=none):H l=none:=by
 cases z:H l with
 | none=>rfl
 | some o=>obtain⟨o',z'⟩:=e.al l o z;rw[h]at z';cases z'
theorem ev0(s0:s≠0)(hQ:∀e M',rO M d=.ok (e,M')->∀H' T' A' a,cY s H H' T T'->WJ X H' T' s A' M'->A'.wo=wo->EvN H H' T' s a e->Q (.ref a) H')(he:rO M d=.ok (e,M'))(hn:e.notes=[])(st:cY s H Hx T Tx)(j:WJ X Hx Tx s Ax M')(aw:Ax.wo=wo){l a:AI}(hl:Hx l=none)(ha:upd Hx l (.lst []) a=none):
  Q (.ref a) (upd (upd Hx l (.lst [])) a (.tup [.str e.word,oV e.thing,.ref l])):=by
 have s1:=aK hl (.lst []);have s2:=aK ha (.tup [.str e.word,oV e.thing,.ref l]);have s3:=s1.trans s2;refine hQ e M' he _ Tx Ax a (st.trans (cY.same st.wt s3)) (j.same s3) aw ⟨l,⟨cY.free st hl,(rY st.wt s0 hl).2,(rY st.wt s0 (s1.free ha)).2⟩,ao,?_⟩;rw[hn];exact s2 _ _ ao
theorem ev1(s0:s≠0){l a:AI}(hl0:H l=none/\Ol s (Tx l))(hQ:∀e M',rO M d=.ok (e,M')->∀H' T' A' a,cY s H H' T T'->WJ X H' T' s A' M'->A'.wo=wo->EvN H H' T' s a e->Q (.ref a) H')(he:rO M d=.ok (e,M'))(st:cY s H Hx T Tx)(j:WJ X Hx Tx s Ax M')(aw:Ax.wo=wo)(hl:Hx l=some (.lst (e.notes.map V.int)))(ha:Hx a=none):
  Q (.ref a) (upd Hx a (.tup [.str e.word,oV e.thing,.ref l])):=by
 have s2:=aK ha (.tup [.str e.word,oV e.thing,.ref l]);exact hQ e M' he _ Tx Ax a (st.trans (cY.same st.wt s2)) (j.same s2) aw ⟨l,⟨hl0.1,hl0.2,(rY st.wt s0 ha).2⟩,ao,s2 _ _ hl⟩
end
theorem Np{M:Wm}{i:Int}{c c':Ce}(h:cellAt M i=some c)(hb:c'.birth=c.birth)(x:AA):Gn (setCell M i c') x=Gn M x:=by
 cases x with
 | none=>rfl
 | some y=>
  obtain⟨h0,h1⟩:=eX.mp h;show(cellAt (setCell M i c') y).map _=(cellAt M y).map _
  by_cases e:y=i
  ·subst e;rw[h,show cellAt (setCell M y c') y=some c' from eX.mpr ⟨h0,by show(M.cells.set _ _)[_]? =_;rw[List.getElem?_set_self (cZ h1).1]⟩];show some c'.birth=some c.birth;rw[hb]
  ·have:cellAt (setCell M i c') y=cellAt M y:=by
    unfold cellAt setCell
    by_cases z:0<=y
    ·rw[if_pos z,if_pos z];show((M.cells.set _ _)[_]?).join=_;rw[List.getElem?_set_ne δ]
    ·rw[if_neg z,if_neg z]
   rw[this]
theorem Zjv{M:Wm}{y:AA}(x:AA):Gn (cG M y).2 x=Gn M x:=by
 cases y with
 | none=>rfl
 | some i=>
  unfold cG;dsimp only;cases hc:cellAt M i with
  | none=>rfl
  | some c=>
   dsimp only
   by_cases z:M.sw.phase="walk"/\c.tone≠M.sw.sense
   ·rw[if_pos z];have e:=Np (M:=M) (i:=i) (c:=c) (c':={ c with tone:=M.sw.sense }) hc rfl x;cases x with
    | none=>rfl
    | some y=>exact e
   ·rw[if_neg z]
theorem zY:∀{l:Au}{M:Wm} (x:AA),Gn (bC M l).2 x=Gn M x
 | [],_,_=>rfl
 | y::l,M,x=>(zY (l:=l) (M:=(cG M y).2) x).trans (Zjv x)
theorem Znl{b:Bool}{x:AA}:(if b=true then [oV x]else [])=(if b=true then [x]else []).map oV:=by cases b<;>rfl
section
variable {K:aG}{X:Cs}{H:Hp}{Q:VK}{E:XK}{n:ν}{bk ct:ν}{rf:Rf->AI}
theorem Zh3{wo dd:AI}(T:rT K X)(q:Ep X rf R4 wo dd H Q E):G4 K (dB X) (cU X) ξ [↑wo,↑dd,none,none] H:=by
 obtain⟨Tg,s,A,M,_,⟨h,sl,t,rfl⟩,w,s0,j,rfl,od,⟨o1,o2⟩,hc,hg,ht,hn,hE,hQ⟩:=q;obtain⟨p,m,hp,hm,hs,hl,hd⟩:=j.handOf o2;obtain⟨m',hm',_,hl'⟩:=Zcc o1;rw[hm]at hm';cases hm';unfold G4;exists dd,_,1,_,rfl,rfl,fc.of od,rfl;exists _,_,rfl,Tg,s,A,M,h,p,j,rfl,rfl,hp;exists dd,_,3,_,rfl,rfl,fc.of od,rfl;refine eE (bO.of hd.o2) (g8 (v:=oV (aX M h t)) (by rw[cI,hs];rfl)) ?_;exists dd,_,2,_,rfl,rfl,fc.of od,rfl;refine⟨p.2,_,_,sl,rfl,rfl,hd.o2,ug (by rw[bx];exact hl'),?_⟩;obtain⟨st1,j1⟩:=j.slot w s0 (k:=sl) (x:=aX M h t) hp hm;rw[pO hm]at j1;generalize upd H p.2 (.lst ((m.2.map oV).set sl (oV (aX M h t))))=H1 at st1 j1 ⊢;obtain⟨d1,ow⟩:=j1.jb.ow;apply aL ow T.cW T.Vf bJ ?_;exists _,_,rfl,aX M h t,rfl,Tg,s,A,_,j1,rfl;rw[nj];apply⟨bL ζ,λl hl=>⟨bL ζ,λa ha=>?_⟩⟩;exact ev0 s0 hQ (d:=.copy h sl t) rfl rfl st1 j1 rfl hl ha
theorem Zh2{wo dd:AI}(T:rT K X)(q:Ep X rf R3 wo dd H Q E):G3 K (dB X) (cU X) ξ [↑wo,↑dd,none,none] H:=by
 obtain⟨Tg,s,A,M,_,⟨h,sl,rfl⟩,w,s0,j,rfl,od,o1,hc,hg,ht,hn,hE,hQ⟩:=q;obtain⟨p,m,hp,hm,hs,hl,hd⟩:=j.handOf o1;unfold G3;exists dd,_,1,_,rfl,rfl,fc.of od,rfl;exists _,_,rfl,Tg,s,A,M,h,p,j,rfl,rfl,hp;exists dd,_,2,_,rfl,rfl,fc.of od,rfl;refine eE (bO.of hd.o2) (g8 (v:=oV (aX M h sl)) (by rw[cI,hs];rfl)) ?_;exists dd,_,2,_,rfl,rfl,fc.of od,rfl;refine⟨p.2,_,_,sl,rfl,rfl,hd.o2,ug (by rw[bx];exact hl),?_⟩;obtain⟨st1,j1⟩:=j.slot w s0 (k:=sl) (x:=none) hp hm;rw[pO hm]at j1;show bB _ _ _ (upd H p.2 (.lst ((m.2.map oV).set sl (oV none))));generalize upd H p.2 (.lst ((m.2.map oV).set sl (oV none)))=H1 at st1 j1 ⊢;obtain⟨d1,ow⟩:=j1.jb.ow;apply aL ow T.cW T.Vf bJ ?_;exists _,_,rfl,aX M h sl,rfl,Tg,s,A,_,j1,rfl;rw[nj];apply⟨bL ζ,λl hl=>⟨bL ζ,λa ha=>?_⟩⟩;exact ev0 s0 hQ (d:=.drop h sl) rfl rfl st1 j1 rfl hl ha
theorem Zh1{wo dd:AI}(T:rT K X)(q:Ep X rf R0 wo dd H Q E):GZ K (dB X) (gF X) (cU X) (vm X) ξ [↑wo,↑dd,none,none,none,none] H:=by
 obtain⟨Tg,s,A,M,_,⟨h,sl,g,t,rfl⟩,w,s0,j,rfl,od,⟨o1,o2⟩,hc,hg,ht,hn,hE,hQ⟩:=q;obtain⟨p,m,hp,hm,hs,hl,hd⟩:=j.handOf o1;obtain⟨p',m',hp',hm',hs',hl',hd'⟩:=j.handOf o2;unfold GZ;exists dd,_,1,_,rfl,rfl,fc.of od,rfl;exists dd,_,3,_,rfl,rfl,fc.of od,rfl;exists _,_,rfl,Tg,s,A,M,h,p,j,rfl,rfl,hp;exists dd,_,2,_,rfl,rfl,fc.of od,rfl;refine eE (bO.of hd.o2) (g8 (v:=oV (aX M h sl)) (by rw[cI,hs];rfl)) ?_;exists _,_,rfl,Tg,s,A,M,g,p',j,rfl,rfl,hp';exists dd,_,4,_,rfl,rfl,fc.of od,rfl;refine⟨p'.2,_,_,t,rfl,rfl,hd'.o2,ug (by rw[bx];exact hl'),?_⟩;obtain⟨st1,j1⟩:=j.slot w s0 (k:=t) (x:=aX M h sl) hp' hm';rw[pO hm']at j1;generalize upd H p'.2 (.lst ((m'.2.map oV).set t (oV (aX M h sl))))=H1 at st1 j1 ⊢;apply⟨_,_,_,rfl,Tg,s,A,_,h,j1,rfl,ht,rfl,λl1 hl1=>?_⟩;rw[show(qi (setSlot M g t (aX M h sl)) && !cP (setSlot M g t (aX M h sl)) h)=(qi M && !cP M h)from rfl,Znl];generalize zz:upd H1 l1 _=H2;obtain⟨s1,g1⟩:=nwO hl1 zz;apply⟨_,_,rfl,_,Tg,s,A,_,st1.wt.same s1,s0,j1.same s1,rfl,.inl ⟨g1,st1.wt _ hl1⟩,by cases (qi M && !cP M h)<;>simp,hg,λH3 T3 l3 st3 j3 g3 nl3=>?_⟩;obtain⟨d1,ow⟩:=j3.jb.ow;apply aL ow T.cW T.Vf bJ ?_;exists _,_,rfl,aX M h sl,rfl,T3,s,A,_,j3,rfl;rw[zY,nj];apply⟨bL ζ,λa ha=>?_⟩;exact ev1 s0 ⟨cY.free st1 (s1.free nl3.1),nl3.2⟩ hQ (d:=.give h sl g t) rfl (st1.trans ((cY.same st1.wt s1).trans st3)) j3 rfl g3 ha
theorem Zh0{wo dd CF:AI}(T:rT K X)(hF:rf .full=CF)(q:Ep X rf RP wo dd H Q E):GX K X.H (Eg K X.C X.H CF) (dB X) (cU X) E ξ [↑wo,↑dd,none,none,none,none] H:=by
 obtain⟨Tg,s,A,M,_,⟨h,sl,many,bulk,rfl⟩,w,s0,j,rfl,od,⟨o1,m0,m1,b0⟩,hc,hg,ht,hn,hE,hQ⟩:=q;obtain⟨p,m,hp,hm,hs,hl,hd⟩:=j.handOf o1;obtain⟨d1,ow⟩:=j.jb.ow;obtain⟨d2,os⟩:=j.js.os;obtain⟨th,tc,⟨d3,oh⟩,oc⟩:=j.jh;have hcs:A.cs.length<=900:=by rw[j.jc.lc];exact hc
 unfold GX;exists dd,_,1,_,rfl,rfl,fc.of od,rfl;exists _,_,rfl,Tg,s,A,M,h,p,j,rfl,rfl,hp;exists dd,_,3,_,rfl,rfl,fc.of od,rfl;exists dd,_,4,_,rfl,rfl,fc.of od,rfl;apply aL ow T.cW T.Vf bJ ?_;refine⟨A.hp,d3,_,rfl,oh,VD,?_⟩;apply aL ow T.cW T.Ve bu ?_;apply aL os T.cS T.n1 mC ?_;apply⟨_,_,_,_,rfl,A.ca,d3,_,_,_,_,oh,oc,?_,by rw[bx];omega,m0,m1,λhf H' sm=>?_,λhf pc fa H1 npc nfa fm a1 a2 co=>?_⟩
 ·intro y hy;obtain⟨o,ho,rfl⟩:=List.mem_map.mp hy;cases o with
  | none=>exact .inl rfl
  | some g=>
   obtain⟨i,hi,ei⟩:=List.getElem_of_mem ho;have e:=j.jc.ce i _ _ (bN hi) (bN (by rw[<- j.jc.lc];exact hi));rw[ei]at e;cases hcc:M.cells[i]'(by rw[<- j.jc.lc];exact hi)with
   | none=>rw[hcc]at e;exact e.elim
   | some c=>
    rw[hcc]at e;obtain⟨_,_,⟨dx,o1⟩,_⟩:=(show Tv X.C H Tg s i g c from e);exact .inr ⟨g.1,X.C,dx,_,rfl,o1,T.c.cN,T.c.P0⟩
 ·rw[<- hF];refine hE .full ?_ H' sm;show(if _ then _ else _)=_;rw[if_neg δ]
 ·obtain⟨⟨dp,c1⟩,c2⟩:=co;have npf:pc≠fa:=nY c1 c2 (λz=>by cases z);obtain⟨T1,st1,j1⟩:=j.put w s0 (H':=H1) (dx:=d3) (used':=M.used+(1+many+bulk)) (p:=pc) (fa:=fa) (c:=⟨M.born+1,bulk,M.sw.sense,0,List.replicate many.toNat none⟩)
   (λb o hb n1 n2=>fm b o hb (by simp[n1,n2])) a1 a2 npc nfa npf ⟨dp,c1⟩ (by rw[c2,List.map_replicate];rfl)
  have ei:((A.cs.map pV).idxOf V.non:Int)=(jH M.cells:Nat):=by rw[(Zdj Zmd A.cs).1,j.jc.fst]
  ext;rw[ei];refine⟨dd,_,2,_,rfl,rfl,fc.of (fm _ _ od ?_),rfl,?_⟩
  ·intro z;rcases List.mem_cons.mp z with z | z
   ·rw[z,oh]at od;cases od
   ·rw[List.mem_singleton.mp z,oc]at od;cases od
  have hd1:=j1.jd.hd h p m hp hm;refine⟨p.2,_,_,sl,rfl,rfl,hd1.o2,ug (by rw[bx];exact hl),?_⟩;obtain⟨st2,j2⟩:=j1.slot st1.wt s0 (k:=sl) (x:=some (jH M.cells:Nat)) hp hm;rw[pO (M:={ M with used:=M.used+(1+many+bulk),born:=M.born+1,cells:=qN M.cells ⟨M.born+1,bulk,M.sw.sense,0,List.replicate many.toNat none⟩ }) hm]at j2;show bB _ _ _ (upd H1 p.2 (.lst ((m.2.map oV).set sl (oV (some (jH M.cells:Nat))))));generalize upd H1 p.2 (.lst ((m.2.map oV).set sl (oV (some (jH M.cells:Nat)))))=H2 at st2 j2 ⊢;obtain⟨d5,ow2⟩:=j2.jb.ow;apply aL ow2 T.cW T.Vf bJ ?_;exists _,_,rfl,some (jH M.cells:Nat),rfl,T1,s,_,_,j2,rfl;rw[nj];rw[show Gn { M with used:=M.used+(1+many+bulk),born:=M.born+1,cells:=qN M.cells ⟨M.born+1,bulk,M.sw.sense,0,List.replicate many.toNat none⟩ } (some (jH M.cells:Nat))=some (M.born+1)from by
   show(cellAt _ _).map _=_;rw[Zha];rfl]
  apply⟨bL ζ,λl hl=>⟨bL ζ,λa ha=>?_⟩⟩;exact ev0 s0 hQ (d:=.make h sl many bulk) (Zdt δ) rfl (st1.trans st2) j2 rfl hl ha
end
theorem Zkw{M:Wm}{h s t f:Nat}(e:cO M (aX M h t)=none):rO M (.get h s t f)=.error .empty:=by
 show(match aX M h t with | none=>_ | some x=>_)=_;cases hs:aX M h t with
 | none=>rfl
 | some x=>
  rw[hs]at e;show(match cellAt M x with | none=>_ | some c=>_)=_;rw[show cellAt M x=none from e]
theorem Zku{M:Wm}{h s t f:Nat}(e:cO M (aX M h t)=none):rO M (.put h t f s)=.error .empty:=by
 show(match aX M h t with | none=>_ | some x=>_)=_;cases hs:aX M h t with
 | none=>rfl
 | some x=>
  rw[hs]at e;show(match cellAt M x with | none=>_ | some c=>_)=_;rw[show cellAt M x=none from e]
theorem Zdu{M:Wm}{h t:Nat}{l:Int}(e:cO M (aX M h t)=none):rO M (.write h t l)=.error .empty:=by
 show(match aX M h t with | none=>_ | some x=>_)=_;cases hs:aX M h t with
 | none=>rfl
 | some x=>
  rw[hs]at e;show(match cellAt M x with | none=>_ | some c=>_)=_;rw[show cellAt M x=none from e]
theorem Zh5{M:Wm}{h t:Nat}(e:cO M (aX M h t)=none):rO M (.read h t)=.error .empty:=by
 show(match aX M h t with | none=>_ | some x=>_)=_;cases hs:aX M h t with
 | none=>rfl
 | some x=>
  rw[hs]at e;show(match cellAt M x with | none=>_ | some c=>_)=_;rw[show cellAt M x=none from e]
theorem Zh6{M:Wm}{h t:Nat}{z:Str}(e:cO M (aX M h t)=none):rO M (.name h t z)=.error .empty:=by
 show(match aX M h t with | none=>_ | some x=>_)=_;cases hs:aX M h t with
 | none=>rfl
 | some x=>
  rw[hs]at e;show(match cellAt M x with | none=>_ | some c=>_)=_;rw[show cellAt M x=none from e]
theorem Zol{M:Wm}{h s t f:Nat}{i:Int}{c:Ce}(e0:aX M h t=some i)(ec:cellAt M i=some c)(hf:c.fl[f]? =none):rO M (.get h s t f)=.error .fZ:=by
 show(match aX M h t with | none=>_ | some x=>_)=_;rw[e0];show(match cellAt M i with | none=>_ | some c=>_)=_;rw[ec];show(match c.fl[f]? with | none=>_ | some v=>_)=_;rw[hf]
theorem Zoj{M:Wm}{h s t f:Nat}{i:Int}{c:Ce}(e0:aX M h t=some i)(ec:cellAt M i=some c)(hf:c.fl[f]? =none):rO M (.put h t f s)=.error .fZ:=by
 show(match aX M h t with | none=>_ | some x=>_)=_;rw[e0];show(match cellAt M i with | none=>_ | some c=>_)=_;rw[ec];show(match c.fl[f]? with | none=>_ | some v=>_)=_;rw[hf]
theorem Zok{M:Wm}{h s t f:Nat}{i:Int}{c:Ce}{v:AA}(e0:aX M h t=some i)(ec:cellAt M i=some c)(hf:c.fl[f]? =some v):rO M (.get h s t f)=.ok (⟨"got",Gn M v,[]⟩,setSlot M h s v):=by
 show(match aX M h t with | none=>_ | some x=>_)=_;rw[e0];show(match cellAt M i with | none=>_ | some c=>_)=_;rw[ec];show(match c.fl[f]? with | none=>_ | some v=>_)=_;rw[hf]
def putL(M:Wm)(h s:Nat)(v:AA):Au:=(if old? M=true then [v]else [])++if (qi M && !cP M h)=true then [aX M h s]else []
theorem Zoi{M:Wm}{h s t f:Nat}{i:Int}{c:Ce}{v:AA}(e0:aX M h t=some i)(ec:cellAt M i=some c)(hf:c.fl[f]? =some v):rO M (.put h t f s)=.ok (⟨"put",Gn M v,(bC (setCell M i { c with fl:=c.fl.set f (aX M h s) }) (putL M h s v)).1⟩,(bC (setCell M i { c with fl:=c.fl.set f (aX M h s) }) (putL M h s v)).2):=by
 show(match aX M h t with | none=>_ | some x=>_)=_;rw[e0];show(match cellAt M i with | none=>_ | some c=>_)=_;rw[ec];show(match c.fl[f]? with | none=>_ | some v=>_)=_;rw[hf];rfl
theorem Zh4{M:Wm}{h t:Nat}{l i:Int}{c:Ce}(e0:aX M h t=some i)(ec:cellAt M i=some c):rO M (.write h t l)=.ok (⟨"wrote",some c.load,[]⟩,setCell M i { c with load:=l }):=by
 show(match aX M h t with | none=>_ | some x=>_)=_;rw[e0];show(match cellAt M i with | none=>_ | some c=>_)=_;rw[ec]
theorem Zkt{M:Wm}{h t:Nat}{i:Int}{c:Ce}(e0:aX M h t=some i)(ec:cellAt M i=some c):rO M (.read h t)=.ok (⟨"read",some c.load,[]⟩,M):=by
 show(match aX M h t with | none=>_ | some x=>_)=_;rw[e0];show(match cellAt M i with | none=>_ | some c=>_)=_;rw[ec]
theorem Zkv{M:Wm}{h t:Nat}{z:Str}{i:Int}{c:Ce}(e0:aX M h t=some i)(ec:cellAt M i=some c):rO M (.name h t z)=.ok (⟨"named",some c.birth,[]⟩,{ M with names:=vN M.names z (i,c.birth) }):=by
 show(match aX M h t with | none=>_ | some x=>_)=_;rw[e0];show(match cellAt M i with | none=>_ | some c=>_)=_;rw[ec]
section
variable {X:Cs}{H H':Hp}{T T':Tg}{s:Nat}{A:Wa}{M:Wm}
theorem Zt2{z:Str}{v:Int×Int}{t:AI}(ht:NmO H T t (z,v)):∀{ns:AF}{names:List (Str×(Int×Int))},Al (NmO H T) ns names->(∃ns',(Bp names ns).map (λkv=>if kv.1=Sum.inr z then(kv.1,V.ref t)else kv)=Bp (names.map λm=>if m.1=z then(m.1,v)else m) ns'/\Al (NmO H T) ns' (names.map λm=>if m.1=z then(m.1,v)else m))/\
  ((Bp names ns).any λkv=>decide (kv.1=Sum.inr z))=(names.any λm=>decide (m.1=z))/\Bp names ns++[(Sum.inr z,V.ref t)]=Bp (names++[(z,v)]) (ns++[t])/\Al (NmO H T) (ns++[t]) (names++[(z,v)]):=by
 intro ns names h
 induction h with
 | nil=>exact⟨⟨[],rfl,.nil⟩,rfl,rfl,.cons ht .nil⟩
 | @cons a m ns names h1 _ ih=>
  obtain⟨⟨ns',e1,e2⟩,e3,e4,e5⟩:=ih;refine⟨?_,?_,?_,.cons h1 e5⟩
  ·by_cases e:m.1=z
   ·refine⟨t::ns',?_,?_⟩
    ·show(if (Sum.inr m.1:Int ⊕ Str)=Sum.inr z then _ else _)::_=_;rw[if_pos (by rw[e]),List.map_cons,if_pos e];show _::_=(Sum.inr m.1,V.ref t)::Bp _ ns';rw[<- e1];rfl
    ·rw[List.map_cons,if_pos e];exact .cons (by rw[e];exact ht) e2
   ·refine⟨a::ns',?_,?_⟩
    ·show(if (Sum.inr m.1:Int ⊕ Str)=Sum.inr z then _ else _)::_=_;rw[if_neg (λw=>e (Sum.inr.inj w)),List.map_cons,if_neg e];show _::_=(Sum.inr m.1,V.ref a)::Bp _ ns';rw[<- e1];rfl
    ·rw[List.map_cons,if_neg e];exact .cons h1 e2
  ·show(decide ((Sum.inr m.1:Int ⊕ Str)=Sum.inr z) || (Bp names ns).any _)=(decide (m.1=z) || names.any _);rw[e3];congr 1
   by_cases e:m.1=z<;>simp[e]
  ·show(Sum.inr m.1,V.ref a)::(Bp names ns++_)=(Sum.inr m.1,V.ref a)::Bp (names++_) (ns++_);rw[e4]
theorem Zmr{ns:AF}{names:List (Str×(Int×Int))}(h:Al (NmO H T) ns names):(Bp names ns).length=names.length:=by
 induction h with
 | nil=>rfl
 | @cons a m ns names h1 _ ih=>show(_::Bp names ns).length=_;rw[List.length_cons,List.length_cons,ih]
theorem WJ.named(j:WJ X H T s A M)(w:WT H T)(h0:s≠0){z:Str}{v:Int×Int}{t:AI}(ht:NmO H T t (z,v)):∃ns',cY s H (upd H A.nm (.dK (putK (Bp M.names A.ns) (Sum.inr z) (.ref t)))) T T/\
  WJ X (upd H A.nm (.dK (putK (Bp M.names A.ns) (Sum.inr z) (.ref t)))) T s { A with ns:=ns' } { M with names:=vN M.names z v }:=by
 obtain⟨tm,om,nms⟩:=j.jn;obtain⟨⟨n1,e1,e2⟩,e3,e4,e5⟩:=Zt2 ht nms;have f:xK s (·=6) H (upd H A.nm (.dK (putK (Bp M.names A.ns) (Sum.inr z) (.ref t)))) T T:=xK.Dh tm;have mvn:∀{ns:AF}{names:List (Str×(Int×Int))},Al (NmO H T) ns names->Al (NmO (upd H A.nm (.dK (putK (Bp M.names A.ns) (Sum.inr z) (.ref t)))) T) ns names:=λh=>h.mono (by rintro t m ⟨z1,z2⟩;exact⟨z1,m5 h0 tm _ _ z2 z1⟩);have go:∀ns',putK (Bp M.names A.ns) (Sum.inr z) (.ref t)=Bp (vN M.names z v) ns'->Al (NmO H T) ns' (vN M.names z v)->WJ X (upd H A.nm (.dK (putK (Bp M.names A.ns) (Sum.inr z) (.ref t)))) T s { A with ns:=ns' } { M with names:=vN M.names z v }:=λns' g1 g2=>by
  refine⟨?_,?_,⟨tm,by show upd _ A.nm _ A.nm=_;rw[ao,g1],mvn g2⟩,?_,j.jd.mv f λ_ _ _=>δ,j.jc.mv f λ_ _=>δ⟩
  ·obtain⟨b1,b2,b3,b4,b5,b6,b7,b8⟩:=j.jb.mv f (m5 h0 tm) δ δ;exact⟨b1,b2,b3,b4,b5,b6,b7,b8⟩
  ·obtain⟨b1,b2,b3,b4⟩:=j.jh.mv f δ δ;exact⟨b1,b2,b3,b4⟩
  ·obtain⟨b1,b2,b3,b4⟩:=j.js.mv f δ δ;exact⟨b1,b2,b3,b4⟩
 by_cases ha:(M.names.any λm=>decide (m.1=z))=true
 ·refine⟨n1,cY.upd w om (by rw[tm]),go n1 ?_ ?_⟩
  ·unfold putK vN;rw[if_pos (e3.trans ha),if_pos ha,e1]
  ·unfold vN;rw[if_pos ha];exact e2
 ·refine⟨A.ns++[t],cY.upd w om (by rw[tm]),go _ ?_ ?_⟩
  ·unfold putK vN;rw[if_neg (λy=>ha (e3.symm.trans y)),if_neg ha,e4]
  ·unfold vN;rw[if_neg ha];exact e5
end
section
variable {K:aG}{X:Cs}{H:Hp}{Q:VK}{E:XK}{n:ν}{bk ct:ν}{rf:Rf->AI}{CE CF CN:AI}
theorem Zks{wo dd:AI}(T:rT K X)(hE':rf .empty=CE)(hF':rf .fZ=CF)(q:Ep X rf Zdb wo dd H Q E):Ln K (dB X) (rQ X CE CF) (cU X) E ξ [↑wo,↑dd,none,none,none,none] H:=by
 obtain⟨Tg,s,A,M,_,⟨h,sl,t,f,rfl⟩,w,s0,j,rfl,od,⟨o1,o2⟩,hc,hg,ht,hn,hE,hQ⟩:=q;obtain⟨p,m,hp,hm,hs,hl,hd⟩:=j.handOf o1;unfold Ln;exists dd,_,1,_,rfl,rfl,fc.of od,rfl;exists dd,_,3,_,rfl,rfl,fc.of od,rfl;exists dd,_,4,_,rfl,rfl,fc.of od,rfl;apply⟨_,_,_,_,rfl,Tg,s,A,M,h,t,f,j,rfl,rfl,rfl,rfl,o2,λe=>?_,λi c e0 h0 ec hf=>?_,λi c pc e0 h0 ec hpc ce hf=>?_⟩
 ·rw[<- hE'];exact hE .empty (Zkw e) H (aY.refl _)
 ·rw[<- hF'];exact hE .fZ (Zol e0 ec hf) H (aY.refl _)
 ·have hv:=bN hf;apply eE (bO.of ce.o2) (g8 (v:=oV (c.fl[f])) (by rw[cI,hv];rfl)) ?_;exists _,_,rfl,Tg,s,A,M,h,p,j,rfl,rfl,hp;exists dd,_,2,_,rfl,rfl,fc.of od,rfl;refine⟨p.2,_,_,sl,rfl,rfl,hd.o2,ug (by rw[bx];exact hl),?_⟩;obtain⟨st1,j1⟩:=j.slot w s0 (k:=sl) (x:=c.fl[f]) hp hm;rw[pO hm]at j1;generalize upd H p.2 (.lst ((m.2.map oV).set sl (oV c.fl[f])))=H1 at st1 j1 ⊢;obtain⟨d1,ow⟩:=j1.jb.ow;apply aL ow T.cW T.Vf bJ ?_;exists _,_,rfl,c.fl[f],rfl,Tg,s,A,_,j1,rfl;rw[nj];apply⟨bL ζ,λl hl=>⟨bL ζ,λa ha=>?_⟩⟩;exact ev0 s0 hQ (d:=.get h sl t f) (Zok e0 ec hv) rfl st1 j1 rfl hl ha
theorem Zkr{wo dd:AI}(T:rT K X)(hE':rf .empty=CE)(hF':rf .fZ=CF)(q:Ep X rf Zd6 wo dd H Q E):Lj K (dB X) (rQ X CE CF) (gF X) (cU X) (vm X) (Hu X) E ξ [↑wo,↑dd,none,none,none,none,none,none] H:=by
 obtain⟨Tg,s,A,M,_,⟨h,t,f,sl,rfl⟩,w,s0,j,rfl,od,⟨o2,o1⟩,hc,hg,ht,hn,hE,hQ⟩:=q;obtain⟨p,m,hp,hm,hs,hl,hd⟩:=j.handOf o1;unfold Lj;exists dd,_,1,_,rfl,rfl,fc.of od,rfl;exists dd,_,3,_,rfl,rfl,fc.of od,rfl;exists dd,_,2,_,rfl,rfl,fc.of od,rfl;apply⟨_,_,_,_,rfl,Tg,s,A,M,h,t,f,j,rfl,rfl,rfl,rfl,o2,λe=>?_,λi c e0 h0 ec hf=>?_,λi c pc e0 h0 ec hpc ce hf=>?_⟩
 ·rw[<- hE'];exact hE .empty (Zku e) H (aY.refl _)
 ·rw[<- hF'];exact hE .fZ (Zoj e0 ec hf) H (aY.refl _)
 ·have hv:=bN hf;apply eE (bO.of ce.o2) (g8 (v:=oV (c.fl[f])) (by rw[cI,hv];rfl)) ?_;exists _,_,rfl,Tg,s,A,M,h,p,j,rfl,rfl,hp;exists dd,_,4,_,rfl,rfl,fc.of od,rfl;refine eE (bO.of hd.o2) (g8 (v:=oV (aX M h sl)) (by rw[cI,hs];rfl)) ?_;exists pc.2,_,_,f,rfl,rfl,ce.o2,ug (by rw[bx];exact hf);obtain⟨st1,j1⟩:=j.field w s0 (k:=f) (x:=aX M h sl) hpc ce;have j1:WJ X _ Tg s A (setCell M i { c with fl:=c.fl.set f (aX M h sl) }):=j1;generalize upd H pc.2 (.lst ((c.fl.map oV).set f (oV (aX M h sl))))=H1 at st1 j1 ⊢;apply⟨_,_,rfl,Tg,s,A,_,j1,rfl,ht,λl1 hl1=>?_⟩;rw[show old? (setCell M i { c with fl:=c.fl.set f (aX M h sl) })=old? M from rfl,Znl];generalize zz:upd H1 l1 _=H2;obtain⟨s1,g1⟩:=nwO hl1 zz;apply⟨_,_,_,rfl,Tg,s,A,_,h,j1.same s1,rfl,ht,rfl,λl2 hl2=>?_⟩;rw[show(qi (setCell M i { c with fl:=c.fl.set f (aX M h sl) }) && !cP (setCell M i { c with fl:=c.fl.set f (aX M h sl) }) h)=(qi M && !cP M h)from rfl,Znl];generalize zz:upd H2 l2 _=H3;obtain⟨s2,g2⟩:=nwO hl2 zz;apply⟨l1,l2,_,_,rfl,rfl,s2 _ _ g1,g2,?_,λl3 hl3=>?_⟩
  ·refine bL ?_;cases old? M<;>cases (qi M && !cP M h)<;>simp
  rw[<- List.map_append];generalize zz:upd H3 l3 _=H4;obtain⟨s3,g3⟩:=nwO hl3 zz;have g3:H4 l3=some (.lst ((putL M h sl c.fl[f]).map oV)):=g3;have s14:=s1.trans (s2.trans s3);apply⟨_,_,rfl,putL M h sl c.fl[f],Tg,s,A,_,st1.wt.same s14,s0,j1.same s14,rfl,.inl ⟨g3,(st1.wt.same (s1.trans s2)) _ hl3⟩,?_,hg,λH5 T5 l5 st5 j5 g5 nl5=>?_⟩
  ·unfold putL;cases old? M<;>cases (qi M && !cP M h)<;>simp
  obtain⟨d1,ow⟩:=j5.jb.ow;apply aL ow T.cW T.Vf bJ ?_;exists _,_,rfl,c.fl[f],rfl,T5,s,A,_,j5,rfl;rw[zY,Np (c':={ c with fl:=c.fl.set f (aX M h sl) }) ec rfl];apply⟨bL ζ,λa ha=>?_⟩;exact ev1 s0 ⟨cY.free st1 (s14.free nl5.1),nl5.2⟩ hQ (d:=.put h t f sl) (Zoi e0 ec hv) (st1.trans ((cY.same st1.wt s14).trans st5)) j5 rfl g5 ha
theorem Zds{wo dd:AI}(T:rT K X)(hE':rf .empty=CE)(q:Ep X rf JL wo dd H Q E):Cy K (lH X CE) E ξ [↑wo,↑dd,none,none] H:=by
 obtain⟨Tg,s,A,M,_,⟨h,t,load,rfl⟩,w,s0,j,rfl,od,o1,hc,hg,ht,hn,hE,hQ⟩:=q;unfold Cy;exists dd,_,1,_,rfl,rfl,fc.of od,rfl;exists dd,_,2,_,rfl,rfl,fc.of od,rfl;apply⟨_,_,_,rfl,Tg,s,A,M,h,t,j,rfl,rfl,rfl,o1,λe=>?_,λi c pc e0 h0 ec hpc ce=>?_⟩
 ·rw[<- hE'];exact hE .empty (Zdu e) H (aY.refl _)
 ·obtain⟨t1,t2,⟨dx,oo1⟩,oo2⟩:=id ce;apply aL oo1 T.c.cN T.c.gZ Gm ?_;exists dd,_,3,_,rfl,rfl,fc.of od,rfl;apply⟨pc.1,X.C,dx,_,rfl,oo1,T.c.cN,T.c.gZ,by show 5<1000;decide,?_⟩;rw[S9];obtain⟨st1,j1⟩:=j.cell w s0 (dx:=dx) (tone:=c.tone) (load:=load) hpc ce;generalize upd H pc.1 (.ins X.C dx (jT c.birth c.bulk c.tone load pc.2))=H1 at st1 j1 ⊢;apply⟨bL ζ,λl hl=>⟨bL ζ,λa ha=>?_⟩⟩;exact ev0 s0 hQ (d:=.write h t load) (Zh4 e0 ec) rfl st1 j1 rfl hl ha
theorem Zgy{wo dd:AI}(T:rT K X)(hE':rf .empty=CE)(q:Ep X rf RN wo dd H Q E):GQ K (lH X CE) E ξ [↑wo,↑dd,none] H:=by
 obtain⟨Tg,s,A,M,_,⟨h,t,rfl⟩,w,s0,j,rfl,od,o1,hc,hg,ht,hn,hE,hQ⟩:=q;unfold GQ;exists dd,_,1,_,rfl,rfl,fc.of od,rfl;exists dd,_,2,_,rfl,rfl,fc.of od,rfl;apply⟨_,_,_,rfl,Tg,s,A,M,h,t,j,rfl,rfl,rfl,o1,λe=>?_,λi c pc e0 h0 ec hpc ce=>?_⟩
 ·rw[<- hE'];exact hE .empty (Zh5 e) H (aY.refl _)
 ·obtain⟨t1,t2,⟨dx,oo1⟩,oo2⟩:=id ce;apply aL oo1 T.c.cN T.c.gZ Gm ?_;apply⟨bL ζ,λl hl=>⟨bL ζ,λa ha=>?_⟩⟩;exact ev0 s0 hQ (d:=.read h t) (Zkt e0 ec) rfl (cY.refl w) j rfl hl ha
theorem Zgz{wo dd:AI}(T:rT K X)(hE':rf .empty=CE)(q:Ep X rf isName wo dd H Q E):GR K (lH X CE) (cU X) E ξ [↑wo,↑dd,none,none,none] H:=by
 obtain⟨Tg,s,A,M,_,⟨h,t,z,rfl⟩,w,s0,j,rfl,od,o1,hc,hg,ht,hn,hE,hQ⟩:=q;obtain⟨p,m,hp,hm,hs,hl,hd⟩:=j.handOf o1;unfold GR;exists dd,_,1,_,rfl,rfl,fc.of od,rfl;exists dd,_,2,_,rfl,rfl,fc.of od,rfl;apply⟨_,_,_,rfl,Tg,s,A,M,h,t,j,rfl,rfl,rfl,o1,λe=>?_,λi c pc e0 h0 ec hpc ce=>?_⟩
 ·rw[<- hE'];exact hE .empty (Zh6 e) H (aY.refl _)
 ·obtain⟨t1,t2,⟨dx,oo1⟩,oo2⟩:=id ce;apply aL oo1 T.c.cN T.c.cX fJ ?_;exists _,_,rfl,Tg,s,A,M,h,p,j,rfl,rfl,hp;apply eE (bO.of hd.o2) (g8 (v:=oV (aX M h t)) (by rw[cI,hs];rfl)) ?_;rw[e0];apply⟨bL ζ,λtp htp=>?_⟩;generalize zz:upd H tp _=H1;obtain⟨s1,g1⟩:=nwO htp zz;have g1:H1 tp=some (.tup [.int i,.int c.birth]):=g1;have j1:=j.same s1;have w1:=w.same s1;obtain⟨d1,ow⟩:=j1.jb.ow;apply aL ow T.cW T.nWn jE ?_;exists dd,_,3,_,rfl,rfl,fc.of (s1 _ _ od),rfl;refine⟨_,_,rfl,Zwn j1.jn.om (by rw[Zmr j1.jn.nms];exact Nat.lt_of_le_of_lt hn ε),?_⟩;obtain⟨ns',st2,j2⟩:=j1.named w1 s0 (z:=z) (v:=(i,c.birth)) (t:=tp) ⟨w _ htp,g1⟩;generalize upd H1 A.nm (.dK (putK (Bp M.names A.ns) (Sum.inr z) (.ref tp)))=H2 at st2 j2 ⊢;apply⟨bL ζ,λl hl=>⟨bL ζ,λa ha=>?_⟩⟩;exact ev0 s0 hQ (d:=.name h t z) (Zkv e0 ec) rfl ((cY.same w s1).trans st2) j2 rfl hl ha
theorem Zgx{wo dd:AI}(T:rT K X)(hN':rf .nW=CN)(q:Ep X rf RM wo dd H Q E):GP K (dB X) (gF X) (xJ X CN) (cU X) E ξ [↑wo,↑dd,none,none] H:=by
 obtain⟨Tg,s,A,M,_,⟨h,sl,z,rfl⟩,w,s0,j,rfl,od,o1,hc,hg,ht,hn,hE,hQ⟩:=q;obtain⟨p,m,hp,hm,hs,hl,hd⟩:=j.handOf o1;unfold GP;exists dd,_,3,_,rfl,rfl,fc.of od,rfl;apply⟨_,_,rfl,Tg,s,A,M,j,rfl,λe=>?_,λpl b e=>?_⟩
 ·rw[<- hN'];refine hE .nW ?_ H (aY.refl _);show(match yr M.names z with | none=>_ | some (p,b)=>_)=_;rw[e]
 ·let x:AA:=if qW M pl b=true then none else some pl
  have ex:(if qW M pl b=true then V.non else .int pl)=oV x:=by
   show _=oV (if _ then _ else _);cases qW M pl b<;>rfl
  rw[ex];have he:rO M (.seek h sl z)=.ok (⟨"sought",Gn M x,(bC (setSlot M h sl x) [x]).1⟩,(bC (setSlot M h sl x) [x]).2):=by
   show(match yr M.names z with | none=>_ | some (p,b)=>_)=_;rw[e];dsimp only;cases hgn:qW M pl b with
   | true=>
    have:x=none:=by show(if _ then _ else _)=_;rw[hgn];rfl
    rw[this];rfl
   | false=>
    have hx:x=some pl:=by show(if _ then _ else _)=_;rw[hgn];rfl
    have:Gn M (some pl)=some b:=by
     unfold qW at hgn;show(cellAt M pl).map _=_;cases hcc:cellAt M pl with
     | none=>rw[hcc]at hgn;cases hgn
     | some c=>
      rw[hcc]at hgn;dsimp only at hgn
      by_cases y:c.birth=b
      ·rw[<- y];rfl
      ·rw[if_neg y]at hgn;cases hgn
    rw[hx,this];rfl
  clear_value x;exists dd,_,1,_,rfl,rfl,fc.of od,rfl;exists _,_,rfl,Tg,s,A,M,h,p,j,rfl,rfl,hp;exists dd,_,2,_,rfl,rfl,fc.of od,rfl;refine⟨p.2,_,_,sl,rfl,rfl,hd.o2,ug (by rw[bx];exact hl),?_⟩;obtain⟨st1,j1⟩:=j.slot w s0 (k:=sl) (x:=x) hp hm;rw[pO hm]at j1;generalize upd H p.2 (.lst ((m.2.map oV).set sl (oV x)))=H1 at st1 j1 ⊢;apply⟨bL ζ,λl1 hl1=>?_⟩;generalize zz:upd H1 l1 _=H2;obtain⟨s1,g1⟩:=nwO hl1 zz;have g1:H2 l1=some (.lst ([x].map oV)):=g1;apply⟨_,_,rfl,[x],Tg,s,A,_,st1.wt.same s1,s0,j1.same s1,rfl,.inl ⟨g1,st1.wt _ hl1⟩,ζ,hg,λH3 T3 l3 st3 j3 g3 nl3=>?_⟩;obtain⟨d1,ow⟩:=j3.jb.ow;apply aL ow T.cW T.Vf bJ ?_;exists _,_,rfl,x,rfl,T3,s,A,_,j3,rfl;rw[zY,nj];apply⟨bL ζ,λa ha=>?_⟩;exact ev1 s0 ⟨cY.free st1 (s1.free nl3.1),nl3.2⟩ hQ (d:=.seek h sl z) he (st1.trans ((cY.same st1.wt s1).trans st3)) j3 rfl g3 ha
end
section
variable {K:aG}{X:Cs}{H:Hp}{Q:VK}{E:XK}{n:ν}{bk ct:ν}{rf:Rf->AI}{f1 f2 f3 f4 f5 f6 f7 f8 f9 f10:AI}
theorem Zwo{wo dd:AI}(T:rT K X)(q:Ep X rf (λ_=>True) wo dd H Q E):
  Zlv K f1 f2 f3 f4 f5 f6 f7 f8 f9 f10 (cH X rf R4) (cH X rf R3) (cH X rf Zdb) (cH X rf R0) (cH X rf RP) (cH X rf isName) (cH X rf Zd6) (cH X rf RN) (cH X rf RM) (cH X rf JL) E ξ [↑wo,↑dd,none] H:=by
 obtain⟨Tg,s,A,M,d,_,w,s0,j,rfl,od,r⟩:=q;unfold Zlv;cases d with
 | make h s' many bulk=>
  exists dd,_,0,_,rfl,rfl,fc.of od,rfl;refine⟨_,f5,rfl,rfl,?_⟩;apply jQ (cH X rf RP) rfl ζ ?_;apply⟨_,_,rfl,Tg,s,A,M,_,⟨_,_,_,_,rfl⟩,w,s0,j,rfl,od,r⟩
 | get h s' t f=>
  exists dd,_,0,_,rfl,rfl,fc.of od,rfl;refine⟨_,f3,rfl,rfl,?_⟩;apply jQ (cH X rf Zdb) rfl ζ ?_;apply⟨_,_,rfl,Tg,s,A,M,_,⟨_,_,_,_,rfl⟩,w,s0,j,rfl,od,r⟩
 | put h t f s'=>
  exists dd,_,0,_,rfl,rfl,fc.of od,rfl;refine⟨_,f7,rfl,rfl,?_⟩;apply jQ (cH X rf Zd6) rfl ζ ?_;apply⟨_,_,rfl,Tg,s,A,M,_,⟨_,_,_,_,rfl⟩,w,s0,j,rfl,od,r⟩
 | copy h s' t=>
  exists dd,_,0,_,rfl,rfl,fc.of od,rfl;refine⟨_,f1,rfl,rfl,?_⟩;apply jQ (cH X rf R4) rfl ζ ?_;apply⟨_,_,rfl,Tg,s,A,M,_,⟨_,_,_,rfl⟩,w,s0,j,rfl,od,r⟩
 | drop h s'=>
  exists dd,_,0,_,rfl,rfl,fc.of od,rfl;refine⟨_,f2,rfl,rfl,?_⟩;apply jQ (cH X rf R3) rfl ζ ?_;apply⟨_,_,rfl,Tg,s,A,M,_,⟨_,_,rfl⟩,w,s0,j,rfl,od,r⟩
 | give h s' g t=>
  exists dd,_,0,_,rfl,rfl,fc.of od,rfl;refine⟨_,f4,rfl,rfl,?_⟩;apply jQ (cH X rf R0) rfl ζ ?_;apply⟨_,_,rfl,Tg,s,A,M,_,⟨_,_,_,_,rfl⟩,w,s0,j,rfl,od,r⟩
 | write h t load=>
  exists dd,_,0,_,rfl,rfl,fc.of od,rfl;refine⟨_,f10,rfl,rfl,?_⟩;apply jQ (cH X rf JL) rfl ζ ?_;apply⟨_,_,rfl,Tg,s,A,M,_,⟨_,_,_,rfl⟩,w,s0,j,rfl,od,r⟩
 | read h t=>
  exists dd,_,0,_,rfl,rfl,fc.of od,rfl;refine⟨_,f8,rfl,rfl,?_⟩;apply jQ (cH X rf RN) rfl ζ ?_;apply⟨_,_,rfl,Tg,s,A,M,_,⟨_,_,rfl⟩,w,s0,j,rfl,od,r⟩
 | name h t z=>
  exists dd,_,0,_,rfl,rfl,fc.of od,rfl;refine⟨_,f6,rfl,rfl,?_⟩;apply jQ (cH X rf isName) rfl ζ ?_;apply⟨_,_,rfl,Tg,s,A,M,_,⟨_,_,_,rfl⟩,w,s0,j,rfl,od,r⟩
 | seek h s' z=>
  exists dd,_,0,_,rfl,rfl,fc.of od,rfl;refine⟨_,f9,rfl,rfl,?_⟩;apply jQ (cH X rf RM) rfl ζ ?_;apply⟨_,_,rfl,Tg,s,A,M,_,⟨_,_,_,rfl⟩,w,s0,j,rfl,od,r⟩
end
def Ed(X:Cs):Sp:=λvs H Q E=>∃hp sl,vs=[.ref hp,.ref sl]/\∃T s A M,∃xs:Au,WJ X H T s A M/\A.hp=hp/\H sl=some (.lst (xs.map oV))/\xs.length<=1000/\∀l,H l=none->Q (.ref l) (upd H l (.lst ((xs.map (Gn M)).map oV)))
section
variable {K:aG}{X:Cs}{H:Hp}{Q:VK}{E:XK}{n:ν}{bk ct:ν}
theorem Zak{hp sl:AI}(T:rT K X)(q:∃T s A M,∃xs:Au,WJ X H T s A M/\A.hp=hp/\H sl=some (.lst (xs.map oV))/\xs.length<=1000/\∀l,H l=none->Q (.ref l) (upd H l (.lst ((xs.map (Gn M)).map oV)))):
  zx K (dB X) ξ [↑hp,↑sl] H:=by
 obtain⟨Tg,s,A,M,xs,j,rfl,o,hx,q⟩:=q;unfold zx;apply Zdd ?_;exists _,rfl,⟨_,bO.of o⟩;refine Zid (bO.of o) (λi=>(xs[i]?).map λx=>oV (Gn M x)) (by rw[bx];omega) (λi x hx=>?_) ?_
 ·rw[cI]at hx;obtain⟨y,hy,rfl⟩:=Option.map_eq_some_iff.mp hx;refine⟨λq hq=>?_,λz q hz hq=>?_⟩
  ·rw[hy]at hq;exact R7 hq
  ·rw[hy]at hz;cases hz;walk_at"c";apply⟨_,_,rfl,y,rfl,Tg,s,A,M,j,rfl,hq⟩
 ·intro p hp;have:(List.range (xs.map oV).length).filterMap (λi=>(xs[i]?).map λx=>oV (Gn M x))=(xs.map (Gn M)).map oV:=by
   rw[bx,List.map_map];clear q o hx
   induction xs with
   | nil=>rfl
   | cons a l ih=>
    rw[List.length_cons,List.range_succ_eq_map,List.filterMap_cons];simp only[List.getElem?_cons_zero,Option.map_some,List.map_cons,List.filterMap_map];congr 1
  rw[this];exact q p hp
end
def Ej(CD:AI):Sp:=λvs H Q E=>∃p nm many,vs=[.ref p,.str nm,.int many]/\∃dx,H p=some (.ins CD dx [])/\0<=many/\many<=1000/\
 ∀sa H',H sa=none->H' p=some (.ins CD dx (Zdh nm sa))->H' sa=some (.lst (List.replicate many.toNat V.non))->(∀b o,H b=some o->b≠p->H' b=some o)->Q .non H'
def vz(CS:AI):Sp:=λvs H Q E=>∃p,vs=[.ref p]/\∃dx,H p=some (.ins CS dx [])/\
 ∀gr H',H gr=none->H' p=some (.ins CS dx (bT 0 "rest" gr 0 0 0 0 0 0 0 .non))->H' gr=some (.lst [])->(∀b o,H b=some o->b≠p->H' b=some o)->Q .non H'
section
variable {K:aG}{X:Cs}{H:Hp}{Q:VK}{E:XK}{n:ν}{bk ct:ν}
theorem Ni{p:AI}{nm:Str}{many:Int}(T:rT K X)(q:∃dx,H p=some (.ins X.D dx [])/\0<=many/\many<=1000/\
 ∀sa H',H sa=none->H' p=some (.ins X.D dx (Zdh nm sa))->H' sa=some (.lst (List.replicate many.toNat V.non))->(∀b o,H b=some o->b≠p->H' b=some o)->Q .non H'):
  qb K ⟨λ_ H'=>Q .non H',Q,bk,ct⟩ [↑p,some (.str nm),some (.int many)] H:=by
 obtain⟨dx,hp,h0,h1,h⟩:=q;unfold qb;exists p,X.D,dx,[],rfl,hp,T.cD,T.nDn,ε;apply⟨ε,λl0 hl0=>?_⟩;apply⟨l0,many,_,rfl,rfl,ao,δ,δ,?_,λfa hfa=>?_⟩
 ·show 1 * many.toNat<=sizeLine;exact bL δ
 have npl:p≠l0:=aD ao hl0;have npf:p≠fa:=aD (by rw[aB npl];exact ao) hfa;have Zwh:H fa=none:=by
  by_cases z:fa=l0
  ·rw[z,ao]at hfa;cases hfa
  ·rw[aB z,aB (λe=>npf e.symm)]at hfa;exact hfa
 have Zyk:H l0=none:=by rw[aB (λe=>npl e.symm)]at hl0;exact hl0
 apply⟨p,X.D,dx,_,rfl,by rw[aB npf,aB npl];exact ao,T.cD,T.nDs,by show 1<1000;decide,?_⟩;refine h fa _ Zwh ?_ ?_ λb o hb nb=>?_
 ·rw[ao,Zny]
 ·rw[aB npf.symm,ao];congr 2;generalize many.toNat=k
  induction k with
  | zero=>rfl
  | succ k ih=>rw[List.replicate_succ,List.replicate_succ,List.flatten_cons,ih];rfl
 ·rw[aB nb,aB (aD hb Zwh),aB (aD hb Zyk),aB nb];exact hb
theorem Fx{p:AI}(T:rT K X)(q:∃dx,H p=some (.ins X.S dx [])/\
 ∀gr H',H gr=none->H' p=some (.ins X.S dx (bT 0 "rest" gr 0 0 0 0 0 0 0 .non))->H' gr=some (.lst [])->(∀b o,H b=some o->b≠p->H' b=some o)->Q .non H'):
  lQ K ⟨λ_ H'=>Q .non H',Q,bk,ct⟩ [↑p] H:=by
 obtain⟨dx,hp,h⟩:=q;unfold lQ;exists p,X.S,dx,[],rfl,hp,T.cS,T.n1,ε;apply⟨p,X.S,dx,_,rfl,ao,T.cS,T.n2,by show 1<1000;decide,?_⟩;rw[dg];apply⟨ε,λgr hgr=>?_⟩;have npg:p≠gr:=aD ao hgr;have Znv:H gr=none:=by rw[aB npg.symm]at hgr;exact hgr
 apply⟨p,X.S,dx,_,rfl,by rw[aB npg];exact ao,T.cS,T.n3,by show 2<1000;decide,?_⟩;apply⟨p,X.S,dx,_,rfl,ao,T.cS,T.n4,by show 3<1000;decide,?_⟩;rw[dg];apply⟨p,X.S,dx,_,rfl,ao,T.cS,T.n5,by show 4<1000;decide,?_⟩;rw[dg];apply⟨p,X.S,dx,_,rfl,ao,T.cS,T.n6,by show 5<1000;decide,?_⟩;rw[dg];apply⟨p,X.S,dx,_,rfl,ao,T.cS,T.n7,by show 6<1000;decide,?_⟩;rw[dg];apply⟨p,X.S,dx,_,rfl,ao,T.cS,T.n8,by show 7<1000;decide,?_⟩;rw[dg];apply⟨p,X.S,dx,_,rfl,ao,T.cS,T.n9,by show 8<1000;decide,?_⟩;rw[dg];apply⟨p,X.S,dx,_,rfl,ao,T.cS,T.n10,by show 9<1000;decide,?_⟩;rw[dg];apply⟨p,X.S,dx,_,rfl,ao,T.cS,T.n11,by show 10<1000;decide,?_⟩;rw[dg];refine h gr _ Znv ?_ ?_ λb o hb nb=>?_
 ·rw[ao,Zj6]
 ·rw[aB npg.symm,ao]
 ·rw[aB nb,aB (aD hb Znv),aB nb];exact hb
end
def wd(w:Int):Str:=if w=0 then "first" else if w=1 then "each" else "last"
def tlS(t:Int):Str:=if t=0 then "" else if t=1 then " old" else if t=2 then " new" else " old new"
def words(w t:Int):Str:=wd w++tlS t
structure KdO(X:Cs)(H:Hp)(ki lk:AI)(w t:Int):Prop where
 ok:∃dx,H ki=some (.ins X.K dx (RJ lk t))
 ol:∃dx,(w=0/\H lk=some (.ins X.F dx []))\/(w=1/\H lk=some (.ins X.E dx []))\/(w=2/\H lk=some (.ins X.L dx []))
theorem KdO.same{X:Cs}{H H':Hp}{ki lk:AI}{w t:Int}(k:KdO X H ki lk w t)(s:aY H H'):KdO X H' ki lk w t:=by
 obtain⟨⟨d1,a⟩,⟨d2,b⟩⟩:=k;refine⟨⟨d1,s _ _ a⟩,⟨d2,?_⟩⟩;rcases b with ⟨z,e⟩ | ⟨z,e⟩ | ⟨z,e⟩
 ·exact .inl ⟨z,s _ _ e⟩
 ·exact .inr (.inl ⟨z,s _ _ e⟩)
 ·exact .inr (.inr ⟨z,s _ _ e⟩)
def Ft(room:Int)(hands:List (Str×Int))(w t:Int):Wm:=⟨room,0,0,[],hands.map λm=>(m.1,List.replicate m.2.toNat none),[],w,t,⟨0,"rest",[],0,0,0,0,0,0,0,.non⟩⟩
def Av(X:Cs):Sp:=λvs H Q E=>∃p room ki hl0,vs=[.ref p,.int room,.ref ki,.ref hl0]/\∃dx T s lk w t ts hands,H p=some (.ins X.W dx [])/\WT H T/\s≠0/\KdO X H ki lk w t/\T ki=(0,0)/\T lk=(0,0)/\ki≠p/\lk≠p/\H hl0=some (.lst (ts.map V.ref))/\
 Al (λ(t:AI) (m:Str×Int)=>H t=some (.tup [.str m.1,.int m.2])/\0<=m.2/\m.2<=1000) ts hands/\hands.length<=30/\
 ∀H' T' A,(∀b o,H b=some o->b≠p->H' b=some o)->(∀b o,H b=some o->b≠p->T' b=T b)->WT H' T'->A.wo=p->WJ X H' T' s A (Ft room hands w t)->Q .non H'
def wG(CK:AI):Sp:=λvs H Q E=>∃p l t,vs=[.ref p,.ref l,.int t]/\∃dx,H p=some (.ins CK dx [])/\∀H',H' p=some (.ins CK dx (RJ l t))->(∀b o,H b=some o->b≠p->H' b=some o)->Q .non H'
def vo(v:V):Sp:=λvs H Q E=>∃a,vs=[.ref a]/\Q v H
section
variable {K:aG}{X:Cs}{H:Hp}{Q:VK}{E:XK}{n:ν}{bk ct:ν}
theorem Ng{p l:AI}{t:Int}(T:rT K X)(q:∃dx,H p=some (.ins X.K dx [])/\∀H',H' p=some (.ins X.K dx (RJ l t))->(∀b o,H b=some o->b≠p->H' b=some o)->Q .non H'):
  p7 K ⟨λ_ H'=>Q .non H',Q,bk,ct⟩ [↑p,↑l,some (.int t)] H:=by
 obtain⟨dx,hp,h⟩:=q;unfold p7;exists p,X.K,dx,[],rfl,hp,T.cK,T.nKl,ε;apply⟨p,X.K,dx,_,rfl,ao,T.cK,T.nKt,by show 1<1000;decide,?_⟩;rw[dg];refine h _ ?_ λb o hb nb=>?_
 ·rw[ao,Znh]
 ·rw[aB nb];exact hb
theorem w0{w:Int}(hw:w=0\/w=1\/w=2):words w 0=wd w:=by rcases hw with rfl | rfl | rfl<;>decide +kernel
theorem w3{w:Int}(hw:w=0\/w=1\/w=2):words w 3=(wd w++" old")++" new":=by rcases hw with rfl | rfl | rfl<;>decide +kernel
end
structure Ex(p:AI)(H H':Hp)(T T':Tg):Prop where
 kp:∀b o,H b=some o->b≠p->H' b=some o
 al:∀b o,H b=some o->∃o',H' b=some o'
 tg:∀b o,H b=some o->T' b=T b
 wt:WT H' T'
section
variable {p:AI}{H H1 H2 H':Hp}{T T1 T2 T':Tg}
theorem Ex.trans(a:Ex p H H1 T T1)(b:Ex p H1 H2 T1 T2):Ex p H H2 T T2 where
 kp:=λx o h n=>b.kp x o (a.kp x o h n) n
 al:=λx o h=>by obtain⟨o1,h1⟩:=a.al x o h;exact b.al x o1 h1
 tg:=λx o h=>by obtain⟨o1,h1⟩:=a.al x o h;rw[b.tg x o1 h1,a.tg x o h]
 wt:=b.wt
theorem Zv1(w:WT H T)(al:∀b o,H b=some o->∃o',H' b=some o'):WT H' T:=λb h=>w b (by
 cases z:H b with
 | none=>rfl
 | some o=>obtain⟨o',e⟩:=al b o z;rw[h]at e;cases e)
theorem Zec{a:AI}{o:HO}{v:Nat×Nat}(w:WT H T)(h:H a=some o):WT H (eG T a v):=λb hb=>by
 rw[gG (λe=>by rw[e,h]at hb;cases hb)];exact w b hb
theorem Ex.Zl5{o o0:HO}(w:WT H T)(h:H p=some o0):Ex p H (upd H p o) T T where
 kp:=λx u hx n=>by rw[aB n];exact hx
 al:=λx u hx=>by
  by_cases e:x=p
  ·exact⟨o,by rw[e,ao]⟩
  ·exact⟨u,by rw[aB e];exact hx⟩
 tg:=λ_ _ _=>rfl
 wt:=Zv1 w λx u hx=>by
  by_cases e:x=p
  ·exact⟨o,by rw[e,ao]⟩
  ·exact⟨u,by rw[aB e];exact hx⟩
theorem Ex.news{vs:List (AI×(Nat×Nat))}(w:WT H T)(s:aY H H')(hn:∀v∈vs,H v.1=none/\∃o,H' v.1=some o):Ex p H H' T (vs.foldr (λv t=>eG t v.1 v.2) T):=by
 have tg:∀b o,H b=some o->(vs.foldr (λv t=>eG t v.1 v.2) T) b=T b:=by
  intro b o hb
  induction vs with
  | nil=>rfl
  | cons v vs ih=>
   show eG _ v.1 v.2 b=_;rw[gG (aD hb (hn v List.mem_cons_self).1)];exact ih λu hu=>hn u (List.mem_cons_of_mem _ hu)
 refine⟨λb o hb _=>s _ _ hb,λb o hb=>⟨o,s _ _ hb⟩,tg,?_⟩;clear tg
 induction vs with
 | nil=>exact w.same s
 | cons v vs ih=>
  obtain⟨o,ho⟩:=(hn v List.mem_cons_self).2;exact Zec (ih λu hu=>hn u (List.mem_cons_of_mem _ hu)) ho
end
section
variable {K:aG}{X:Cs}{H:Hp}{Q:VK}{E:XK}{n:ν}{bk ct:ν}
theorem Ke{p ki hl0:AI}{room:Int}(T:rT K X)(q:∃dx T s lk w t,∃ts:AF,∃hands,H p=some (.ins X.W dx [])/\WT H T/\s≠0/\KdO X H ki lk w t/\T ki=(0,0)/\T lk=(0,0)/\ki≠p/\lk≠p/\H hl0=some (.lst (ts.map V.ref))/\
 Al (λ(t:AI) (m:Str×Int)=>H t=some (.tup [.str m.1,.int m.2])/\0<=m.2/\m.2<=1000) ts hands/\hands.length<=30/\
 ∀H' T' A,(∀b o,H b=some o->b≠p->H' b=some o)->(∀b o,H b=some o->b≠p->T' b=T b)->WT H' T'->A.wo=p->WJ X H' T' s A (Ft room hands w t)->Q .non H'):
  nG K X.D X.H X.S (Ej X.D) (Eh X.H) (vz X.S) ⟨λ_ H'=>Q .non H',Q,bk,ct⟩ [↑p,some (.int room),↑ki,↑hl0] H:=by
 obtain⟨dx,T0,s,lk,w,t,ts,hands,hp,wt0,s0,kd,tki,tlk,nki,nlk,oh0,al,hn,hQ⟩:=q;have x0:WT H (eG T0 p (s,0)):=Zec wt0 hp;have tp:eG T0 p (s,0) p=(s,0):=dM;have to0:∀b o,H b=some o->b≠p->eG T0 p (s,0) b=T0 b:=λb _ _ hb=>gG hb;generalize hT:eG T0 p (s,0)=Ta at x0 tp to0;unfold nG;ext;intro hq dh nh ndh neh;refine⟨hq,room,rfl,dh,ao,λca H1 nca a1 a2 k1=>⟨rfl,?_⟩⟩;have Zt6:H ca=none:=by
  by_cases z:ca=hq
  ·rw[z,ao]at nca;cases nca
  ·rw[aB z]at nca
   by_cases y:ca=dh
   ·rw[y,ao]at nca;cases nca
   ·rw[aB y]at nca;exact nca
 have sm1:aY H H1:=λb o hb=>k1 b o (by rw[aB (aD hb nh),aB (aD hb ndh)];exact hb) (aD hb nh);have e1:Ex p H H1 Ta _:=Ex.news (vs:=[(hq,(s,1)),(ca,(s,2))]) x0 sm1 (by
  intro v hv;simp only[List.mem_cons,List.not_mem_nil,or_false]at hv;rcases hv with rfl | rfl
  ·exact⟨nh,_,a1⟩
  ·exact⟨Zt6,_,a2⟩)
 have nhc:hq≠ca:=nY a1 a2 (λz=>by cases z);have th1:([(hq,(s,1)),(ca,(s,2))].foldr (λv t=>eG t v.1 v.2) Ta) hq=(s,1):=dM;have tc1:([(hq,(s,1)),(ca,(s,2))].foldr (λv t=>eG t v.1 v.2) Ta) ca=(s,2):=(gG nhc.symm).trans dM;generalize ([(hq,(s,1)),(ca,(s,2))]:List (AI×(Nat×Nat))).foldr (λv t=>eG t v.1 v.2) Ta=Tb at e1 th1 tc1;have hp1:=sm1 _ _ hp;have nph:hq≠p:=λz=>by rw[z,hp]at nh;cases nh
 have npc:ca≠p:=λz=>by rw[z,hp]at Zt6;cases Zt6
 clear k1 nca;exists p,X.W,dx,[],rfl,hp1,T.cW,T.Vf,ε;have e2:=e1.trans (Ex.Zl5 (o:=.ins X.W dx (bR "heap" (.ref hq) [])) e1.wt hp1);have g2:upd H1 p (.ins X.W dx (bR "heap" (.ref hq) [])) p=some (.ins X.W dx (bR "heap" (.ref hq) [])):=ao;have a1:=(aB (o:=.ins X.W dx (bR "heap" (.ref hq) [])) nph).trans a1;have a2:=(aB (o:=.ins X.W dx (bR "heap" (.ref hq) [])) npc).trans a2;generalize upd H1 p (.ins X.W dx (bR "heap" (.ref hq) []))=H2 at e2 g2 a1 a2 ⊢;apply⟨p,X.W,dx,_,rfl,g2,T.cW,T.nWk,by show 1<1000;decide,?_⟩;have e3:=e2.trans (Ex.Zl5 (o:=.ins X.W dx (bR "kind" (.ref ki) (bR "heap" (.ref hq) []))) e2.wt g2);have g3:upd H2 p (.ins X.W dx (bR "kind" (.ref ki) (bR "heap" (.ref hq) []))) p=some (.ins X.W dx (bR "kind" (.ref ki) (bR "heap" (.ref hq) []))):=ao;have a1:=(aB (o:=.ins X.W dx (bR "kind" (.ref ki) (bR "heap" (.ref hq) []))) nph).trans a1;have a2:=(aB (o:=.ins X.W dx (bR "kind" (.ref ki) (bR "heap" (.ref hq) []))) npc).trans a2;generalize upd H2 p (.ins X.W dx (bR "kind" (.ref ki) (bR "heap" (.ref hq) [])))=H3 at e3 g3 a1 a2 ⊢;generalize hF3:(bR "kind" (.ref ki) (bR "heap" (.ref hq) []))=F3 at g3 ⊢;have lF3:F3.length=2:=by rw[<- hF3];rfl
 have oh3:H3 hl0=some (.lst (ts.map V.ref)):=e3.kp _ _ oh0 (λz=>by rw[z,hp]at oh0;cases oh0);have ltl:ts.length=hands.length:=al.length;have Zx4:∀(i:Nat) a,ts[i]? =some a->∃m,hands[i]? =some m/\H3 a=some (.tup [.str m.1,.int m.2])/\0<=m.2/\m.2<=1000:=λi a ha=>by
  have hl:i<hands.length:=by rw[<- ltl];exact(cZ ha).1
  obtain⟨a',ha',z1,z2,z3⟩:=al.get (bN hl);rw[ha]at ha';cases ha';exact⟨_,bN hl,e3.kp _ _ z1 (λz=>by rw[z,hp]at z1;cases z1),z2,z3⟩
 have lo:=e3.wt;apply⟨_,rfl,⟨_,bO.of oh3⟩,Zic ?_⟩;refine⟨λi m ys Hx=>i<=ts.length/\m=ts.length - i/\∃(hs:List (AI×AI)) (Tx:Tg),ys=hs.map (λq=>V.ref q.1)/\hs.length=i/\aY H3 Hx/\Ex p H3 Hx Tb Tx/\∀(j:Nat) q m,hs[j]? =some q->hands[j]? =some m->HdO X.D Hx Tx s j q (m.1,List.replicate m.2.toNat none)/\q.1≠p/\q.2≠p,
  ⟨ts.length,Nat.zero_le _,rfl,[],Tb,rfl,rfl,aY.refl _,⟨λ_ _ h _=>h,λ_ o h=>⟨o,h⟩,λ_ _ _=>rfl,lo⟩,λj q m e=>by simp at e⟩,?_⟩
 rintro i m ys Hx ⟨hi,rfl,hs,Tx,rfl,hl,sx,ex,hds⟩
 by_cases hk:i=ts.length
 ·refine .inl ⟨⟨_,bO.of (sx _ _ oh3),by rw[bx];omega⟩,λhla nhl=>?_⟩;have ZD8:H3 hla=none:=sx.free nhl;have s4:=aK nhl (.lst (hs.map λq=>V.ref q.1));have e4:Ex p Hx _ Tx _:=Ex.news (p:=p) (vs:=[(hla,(s,5))]) ex.wt s4 (by
   intro v hv;rw[List.mem_singleton.mp hv];exact⟨nhl,_,ao⟩)
  have t4:([(hla,(s,5))].foldr (λv t=>eG t v.1 v.2) Tx) hla=(s,5):=dM;have o4:upd Hx hla (.lst (hs.map λq=>V.ref q.1)) hla=some (.lst (hs.map λq=>V.ref q.1)):=ao;have hpx:=sx _ _ g3;have nhp:hla≠p:=λz=>by rw[z,hpx]at nhl;cases nhl
  have hp4:=s4 _ _ hpx;generalize upd Hx hla (.lst (hs.map λq=>V.ref q.1))=H4 at s4 e4 o4 hp4 ⊢;generalize ([(hla,(s,5))]:List (AI×(Nat×Nat))).foldr (λv t=>eG t v.1 v.2) Tx=T4 at e4 t4;apply⟨p,X.W,dx,_,rfl,hp4,T.cW,T.nWd,by rw[lF3];decide,?_⟩;have e5:=Ex.Zl5 (p:=p) (o:=.ins X.W dx (bR "hands" (.ref hla) F3)) e4.wt hp4;have hp5:upd H4 p (.ins X.W dx (bR "hands" (.ref hla) F3)) p=some (.ins X.W dx (bR "hands" (.ref hla) F3)):=ao;generalize upd H4 p (.ins X.W dx (bR "hands" (.ref hla) F3))=H5 at e5 hp5 ⊢;ext;intro nm hnm;have nnp:nm≠p:=λz=>by rw[z,hp5]at hnm;cases hnm
  have s6:=aK hnm (.dK []);have e6:Ex p H5 _ T4 _:=Ex.news (p:=p) (vs:=[(nm,(s,6))]) e5.wt s6 (by
   intro v hv;rw[List.mem_singleton.mp hv];exact⟨hnm,_,ao⟩)
  have t6:([(nm,(s,6))].foldr (λv t=>eG t v.1 v.2) T4) nm=(s,6):=dM;have o6:upd H5 nm (.dK []) nm=some (.dK []):=ao;have hp6:=s6 _ _ hp5;generalize upd H5 nm (.dK [])=H6 at s6 e6 o6 hp6 ⊢;generalize ([(nm,(s,6))]:List (AI×(Nat×Nat))).foldr (λv t=>eG t v.1 v.2) T4=T6 at e6 t6;apply⟨p,X.W,dx,_,rfl,hp6,T.cW,T.nWn,by rw[<- hF3];show 3<1000;decide,?_⟩;have e7:=Ex.Zl5 (p:=p) (o:=.ins X.W dx (bR "names" (.ref nm) (bR "hands" (.ref hla) F3))) e6.wt hp6;have hp7:upd H6 p (.ins X.W dx (bR "names" (.ref nm) (bR "hands" (.ref hla) F3))) p=some (.ins X.W dx (bR "names" (.ref nm) (bR "hands" (.ref hla) F3))):=ao;generalize upd H6 p (.ins X.W dx (bR "names" (.ref nm) (bR "hands" (.ref hla) F3)))=H7 at e7 hp7 ⊢;ext;intro sw ds nsw nds nes;refine⟨sw,rfl,ds,ao,λgr H8 ngr b1 b2 k8=>⟨rfl,?_⟩⟩;have Zt4:H7 gr=none:=by
   by_cases z:gr=sw
   ·rw[z,ao]at ngr;cases ngr
   ·rw[aB z]at ngr
    by_cases y:gr=ds
    ·rw[y,ao]at ngr;cases ngr
    ·rw[aB y]at ngr;exact ngr
  have s8:aY H7 H8:=λb o hb=>k8 b o (by rw[aB (aD hb nsw),aB (aD hb nds)];exact hb) (aD hb nsw);have e8:Ex p H7 H8 T6 _:=Ex.news (p:=p) (vs:=[(sw,(s,7)),(gr,(s,8))]) e7.wt s8 (by
   intro v hv;simp only[List.mem_cons,List.not_mem_nil,or_false]at hv;rcases hv with rfl | rfl
   ·exact⟨nsw,_,b1⟩
   ·exact⟨Zt4,_,b2⟩)
  have nsg:sw≠gr:=nY b1 b2 (λz=>by cases z);have ts8:([(sw,(s,7)),(gr,(s,8))].foldr (λv t=>eG t v.1 v.2) T6) sw=(s,7):=dM;have tg8:([(sw,(s,7)),(gr,(s,8))].foldr (λv t=>eG t v.1 v.2) T6) gr=(s,8):=(gG nsg.symm).trans dM;generalize ([(sw,(s,7)),(gr,(s,8))]:List (AI×(Nat×Nat))).foldr (λv t=>eG t v.1 v.2) T6=T8 at e8 ts8 tg8;have hp8:=s8 _ _ hp7;have nsp:sw≠p:=λz=>by rw[z,hp7]at nsw;cases nsw
  have ngp:gr≠p:=λz=>by rw[z,hp7]at Zt4;cases Zt4
  clear k8 ngr;apply⟨p,X.W,dx,_,rfl,hp8,T.cW,T.Ve,by rw[<- hF3];show 4<1000;decide,?_⟩;have e9:=Ex.Zl5 (p:=p) (o:=.ins X.W dx (bR "sweeper" (.ref sw) (bR "names" (.ref nm) (bR "hands" (.ref hla) F3)))) e8.wt hp8;have hp9:upd H8 p (.ins X.W dx (bR "sweeper" (.ref sw) (bR "names" (.ref nm) (bR "hands" (.ref hla) F3)))) p=some (.ins X.W dx (Br hq ki hla nm sw)):=by
   rw[ao,<- hF3,Zj0]
  generalize upd H8 p (.ins X.W dx (bR "sweeper" (.ref sw) (bR "names" (.ref nm) (bR "hands" (.ref hla) F3))))=H9 at e9 hp9 ⊢;have f89:=e9;have f69:=e7.trans (e8.trans e9);have f49:=e5.trans (e6.trans f69);have fx9:=e4.trans f49;have f39:=ex.trans fx9;have f09:=e3.trans f39;obtain⟨⟨dk,ok⟩,⟨dl,ol⟩⟩:=kd;have hlk:∃o,H lk=some o:=by
   rcases ol with ⟨_,z⟩ | ⟨_,z⟩ | ⟨_,z⟩
   ·exact⟨_,z⟩
   ·exact⟨_,z⟩
   ·exact⟨_,z⟩
  obtain⟨olk,elk⟩:=hlk;refine hQ H9 T8 ⟨p,hq,ca,ki,lk,hla,nm,sw,gr,hs,[],[]⟩ f09.kp (λb o hb nb=>(f09.tg b o hb).trans (to0 b o hb nb)) f09.wt rfl ⟨⟨(f09.tg _ _ hp).trans tp,(f09.tg _ _ ok).trans ((to0 _ _ ok nki).trans tki),(f09.tg _ _ elk).trans ((to0 _ _ elk nlk).trans tlk),(f49.tg _ _ o4).trans t4,⟨dx,hp9⟩,⟨dk,f09.kp _ _ ok nki⟩,⟨dl,?_⟩,f49.kp _ _ o4 nhp⟩,
   ⟨(f39.tg _ _ a1).trans th1,(f39.tg _ _ a2).trans tc1,⟨dh,f39.kp _ _ a1 nph⟩,f39.kp _ _ a2 npc⟩,⟨(f69.tg _ _ o6).trans t6,f69.kp _ _ o6 nnp,.nil⟩,
   ⟨(f89.tg _ _ b1).trans ts8,(f89.tg _ _ b2).trans tg8,⟨ds,f89.kp _ _ b1 nsp⟩,f89.kp _ _ b2 ngp⟩,⟨?_,by show hs.length<=30;rw[hl,hk,ltl];exact hn,?_⟩,⟨rfl,λi q c z=>by simp at z⟩⟩
  ·rcases ol with ⟨z,y⟩ | ⟨z,y⟩ | ⟨z,y⟩
   ·exact .inl ⟨z,f09.kp _ _ y nlk⟩
   ·exact .inr (.inl ⟨z,f09.kp _ _ y nlk⟩)
   ·exact .inr (.inr ⟨z,f09.kp _ _ y nlk⟩)
  ·show hs.length=(hands.map _).length;rw[bx,hl,hk,ltl]
  ·intro j q m z1 z2;have z2:(hands.map λm=>(m.1,List.replicate m.2.toNat none))[j]? =some m:=z2;rw[cI]at z2;obtain⟨m0,y1,rfl⟩:=Option.map_eq_some_iff.mp z2;obtain⟨⟨u1,u2,⟨du,u3⟩,u4⟩,v1,v2⟩:=hds j q m0 z1 y1;exact⟨(fx9.tg _ _ u3).trans u1,(fx9.tg _ _ u4).trans u2,⟨du,fx9.kp _ _ u3 v1⟩,fx9.kp _ _ u4 v2⟩
 ·have hlt:i<ts.length:=δ
  refine .inr ⟨⟨_,_,bO.of (sx _ _ oh3),by rw[cI,bN hlt];rfl⟩,?_,λx H' y=>?_⟩
  ·rw[bx,hl];exact Nat.lt_of_lt_of_le hlt (bL δ)
  obtain⟨y1,y2⟩:=y;subst y1;have ey:=y2 _ (bO.of (sx _ _ oh3));rw[cI,bN hlt]at ey;have ey:x=.ref ts[i]:=(Option.some.inj ey).symm;subst ey;obtain⟨m,hm,ot,m0,m1⟩:=Zx4 i _ (bN hlt);refine R7 (RL ⟨ts[i],.str m.1,.int m.2,_,rfl,fc.of (sx _ _ ot),?_⟩);walk_at"c";ext;intro q1 dq nq ndq neq;refine⟨q1,m.1,m.2,rfl,dq,ao,m0,m1,λsa Hy nsa b1 b2 k=>⟨rfl,?_⟩⟩;have Zsy:H' sa=none:=by
   by_cases z:sa=q1
   ·rw[z,ao]at nsa;cases nsa
   ·rw[aB z]at nsa
    by_cases y:sa=dq
    ·rw[y,ao]at nsa;cases nsa
    ·rw[aB y]at nsa;exact nsa
  have sy:aY H' Hy:=λb o hb=>k b o (by rw[aB (aD hb nq),aB (aD hb ndq)];exact hb) (aD hb nq);have ey:Ex p H' Hy Tx _:=Ex.news (p:=p) (vs:=[(q1,(s,20+2 * i)),(sa,(s,21+2 * i))]) ex.wt sy (by
   intro v hv;simp only[List.mem_cons,List.not_mem_nil,or_false]at hv;rcases hv with rfl | rfl
   ·exact⟨nq,_,b1⟩
   ·exact⟨Zsy,_,b2⟩)
  have nqs:q1≠sa:=nY b1 b2 (λz=>by cases z);have hpx:=sx _ _ g3;refine⟨ts.length - (i+1),δ,δ,rfl,hs++[(q1,sa)],_,by rw[List.map_append];rfl,by rw[List.length_append,hl];rfl,sx.trans sy,ex.trans ey,λj q m' z1 z2=>?_⟩
  by_cases hj:j<hs.length
  ·rw[List.getElem?_append_left hj]at z1;obtain⟨⟨u1,u2,⟨du,u3⟩,u4⟩,v1,v2⟩:=hds j q m' z1 z2;exact⟨⟨(ey.tg _ _ u3).trans u1,(ey.tg _ _ u4).trans u2,⟨du,sy _ _ u3⟩,sy _ _ u4⟩,v1,v2⟩
  ·have hj':=(cZ z1).1;rw[List.length_append,List.length_singleton]at hj';have ej:j=hs.length:=δ
   subst ej;rw[List.getElem?_append_right υ,Nat.sub_self]at z1;cases z1;rw[hl]at z2 ⊢;rw[hm]at z2;cases z2;exact⟨⟨dM,(gG nqs.symm).trans dM,⟨dq,b1⟩,by rw[b2,List.map_replicate];rfl⟩,(λz=>by rw[show q1=p from z,hpx]at nq;cases nq),(λz=>by rw[show sa=p from z,hpx]at Zsy;cases Zsy)⟩
end
section
variable {K:aG}{X:Cs}{H:Hp}{Q:VK}{E:XK}{T:Tg}{s:Nat}{A:Wa}{M:Wm}
theorem Zkm{i:Nat}{c:Ce}(j:WJ X H T s A M)(w:WT H T)(h0:s≠0)(hc:M.cells[i]? =some (some c))
  (k:∀H' A',cY s H H' T T->WJ X H' T s A' { M with used:=M.used - (1+c.fl.length+c.bulk),cells:=M.cells.set i none }->A'.wo=A.wo->Q (.int c.birth) H'):
  wH X.C X.H [.ref A.hp,.int i] H Q E:=by
 obtain⟨th,tc,⟨dh,oh⟩,oc⟩:=j.jh;obtain⟨pc,hpc,ce⟩:=j.jc.at hc;obtain⟨_,_,⟨dc,o1⟩,ofl⟩:=id ce;have hl:=(cZ hc).1;refine⟨A.hp,i,rfl,A.ca,dh,M.room,M.used,M.born,A.cs.map pV,pc.1,pc.2,c.birth,c.bulk,c.tone,c.load,c.fl.map oV,δ,oh,oc,by rw[Int.toNat_natCast,cI,hpc];rfl,⟨⟨dc,o1⟩,ofl⟩,?_⟩;rw[Int.toNat_natCast,bx];have nhc:A.hp≠A.ca:=nY oh oc (λz=>by cases z);obtain⟨st5,j5⟩:=j.back w h0 (i:=i) (used':=M.used - (1+c.fl.length+c.bulk)) (by rw[j.jc.lc];exact hl) (upd (upd H A.hp (.ins X.H dh (gM M.room A.ca (M.used - (1+c.fl.length+c.bulk)) M.born))) A.ca (.lst ((A.cs.map pV).set i V.non)))
  (λb o hb n1 n2=>by rw[aB n2,aB n1];exact hb) (by rw[aB nhc];exact ao) ao
 exact k _ _ st5 j5 rfl
end
def heldOf(M:Wm):List Au:=M.hands.map (·.2)
def Zhj(X:Cs):Sp:=λvs H Q E=>∃wo,vs=[.ref wo]/\∃T s A M,WJ X H T s A M/\A.wo=wo/\M.hands.length<=1000/\∀(l:AI) (ls:AF) H',aY H H'->H l=none->H' l=some (.lst (ls.map V.ref))->ls.length=(heldOf M).length->ls.Nodup->(∀r∈ls,H r=none)->l∉ls->(∀(j:Nat) r x,ls[j]? =some r->(heldOf M)[j]? =some x->H' r=some (.lst (x.map oV)))->Q (.ref l) H'
section
variable {K:aG}{X:Cs}{H:Hp}{Q:VK}{E:XK}{n:ν}{bk ct:ν}
theorem Zqr{wo:AI}(T:rT K X)(q:∃T s A M,WJ X H T s A M/\A.wo=wo/\M.hands.length<=1000/\∀(l:AI) (ls:AF) H',aY H H'->H l=none->H' l=some (.lst (ls.map V.ref))->ls.length=(heldOf M).length->ls.Nodup->(∀r∈ls,H r=none)->l∉ls->(∀(j:Nat) r x,ls[j]? =some r->(heldOf M)[j]? =some x->H' r=some (.lst (x.map oV)))->Q (.ref l) H'):
  YS K ξ [↑wo] H:=by
 obtain⟨Tg,s,A,M,j,rfl,hl,q⟩:=q;obtain⟨dx,ow⟩:=j.jb.ow;unfold YS;apply Zdd ?_;apply aL ow T.cW T.nWd dO ?_;have l5:=j.jd.l5;refine⟨_,rfl,⟨_,bO.of j.jb.on⟩,?_⟩;refine Zne (bO.of j.jb.on) (by rw[bx];omega) (λi r Hx=>∃x,(heldOf M)[i]? =some x/\Hx r=some (.lst (x.map oV))) (by rintro _ _ _ _ ⟨x,e,z⟩ s;exact⟨x,e,s _ _ z⟩) (by rintro _ _ _ ⟨_,_,z⟩;exact⟨_,z⟩) (λx H1 q hq=>R7 hq) (λi x H1 hi s1 q' hq=>?_) ?_
 ·rw[cI]at hi;obtain⟨p,hp,rfl⟩:=Option.map_eq_some_iff.mp hi;have j1:=j.same s1;obtain⟨m,hm,hd⟩:=j1.hand hp;obtain⟨dx,o1⟩:=hd.o1;walk_at"c";apply aL o1 T.cD T.nDs uX ?_;apply JS (bO.of hd.o2) λl hl=>?_;exact hq l _ (aK hl _) hl ⟨_,by unfold heldOf;rw[cI,hm];rfl,ao⟩
 ·intro rs H' s1 hl nd nn hr p hp;have s2:=aK hp (.lst (rs.map V.ref));refine q p rs _ (s1.trans s2) (s1.free hp) ao ?_ nd nn (λz=>?_) λj' r x e1 e2=>?_
  ·rw[hl,bx];unfold heldOf;rw[bx,j.jd.lh]
  ·obtain⟨k,hk,e⟩:=List.getElem_of_mem z;obtain⟨_,_,e4⟩:=hr k p (by rw[bN hk,e]);rw[hp]at e4;cases e4
  ·obtain⟨y,e3,z⟩:=hr j' r e1;rw[e2]at e3;cases e3;exact s2 _ _ z
end
def jC(w:Int)(h:Nat):Int:=if w=0 then 2 ^ h - 1 else 0
def vh(M:Wm):Wm:={ M with sw:={ M.sw with sense:=1 - M.sw.sense,phase:="walk",grey:=[],looked:=jC M.w M.hands.length,turn:=M.sw.turn+1,walks:=0,looks:=0,passes:=0 } }
def Ef:Sp:=λvs H Q E=>∃h,vs=[.int h]/\0<=h/\h<=30/\Q (.int (2 ^ h.toNat - 1)) H
def qw(k:Nat):Sp:=λvs H Q E=>∃a h,vs=[.ref a,.int h]/\0<=h/\h<=30/\Q (.int (if k=0 then 2 ^ h.toNat - 1 else 0)) H
def Zb5(X:Cs):Sp:=λvs H Q E=>∃wo,vs=[.ref wo]/\∃T s A M,WT H T/\s≠0/\WJ X H T s A M/\A.wo=wo/\∀H' T' A',cY s H H' T T'->WJ X H' T' s A' (vh M)->A'.wo=wo->Q .non H'
section
variable {X:Cs}{H H':Hp}{T T':Tg}{s:Nat}{A:Wa}{M:Wm}
theorem WJ.Zq6(j:WJ X H T s A M)(w:WT H T)(h0:s≠0){dx l:AI}(S:Sw)(hl:H l=none)(e9:S.grey=[]):
  cY s H (upd (upd H l (.lst [])) A.sw (.ins X.S dx (bT S.sense S.phase l S.looked S.turn S.at' S.stop S.walks S.looks S.passes S.loss))) T (eG T l (s,8))/\
  WJ X (upd (upd H l (.lst [])) A.sw (.ins X.S dx (bT S.sense S.phase l S.looked S.turn S.at' S.stop S.walks S.looks S.passes S.loss))) (eG T l (s,8)) s { A with gr:=l } { M with sw:=S }:=by
 obtain⟨ts,tg,⟨dd,os⟩,og⟩:=id j.js;have nls:l≠A.sw:=(aD os hl).symm;have w1:WT (upd H l (.lst [])) (eG T l (s,8)):=Zec (w.same (aK hl _)) ao;have st1:cY s H (upd H l (.lst [])) T (eG T l (s,8)):=⟨λb o h _=>(aK hl _) _ _ h,λb o h=>⟨o,(aK hl _) _ _ h⟩,λb o h=>gG (aD h hl),w1⟩;have j1:WJ X (upd H l (.lst [])) (eG T l (s,8)) s A M:=j.fresh hl;obtain⟨ts1,tg1,⟨dd1,os1⟩,og1⟩:=id j1.js;refine⟨st1.trans (cY.upd w1 os1 (by rw[ts1])),?_⟩;have f:xK s (·=7) (upd H l (.lst [])) (upd (upd H l (.lst [])) A.sw (.ins X.S dx (bT S.sense S.phase l S.looked S.turn S.at' S.stop S.walks S.looks S.passes S.loss))) (eG T l (s,8)) (eG T l (s,8)):=xK.Dh ts1;have b1:=j1.jb.mv f (m5 h0 ts1) δ δ;have b2:=j1.jh.mv f δ δ;have b3:=j1.jn.mv f (m5 h0 ts1) δ;have b5:=j1.jd.mv f λ_ _ _=>δ
 have b6:=j1.jc.mv f λ_ _=>δ
 obtain⟨x1,x2,x3,x4,x5,x6,x7,x8⟩:=b1;obtain⟨y1,y2,y3,y4⟩:=b2;obtain⟨z1,z2,z3⟩:=b3;exact⟨⟨x1,x2,x3,x4,x5,x6,x7,x8⟩,⟨y1,y2,y3,y4⟩,⟨z1,z2,z3⟩,⟨ts1,dM,⟨dx,ao⟩,by rw[aB nls,ao,e9];rfl⟩,b5,b6⟩
end
section
variable {K:aG}{X:Cs}{H:Hp}{Q:VK}{E:XK}{n:ν}{bk ct:ν}
theorem Zs1{j:Int}(h0:0<=j)(h1:j<=1000):Tz 1 j:=⟨h0,δ,ε⟩
theorem Zkz{h:Int}(q:0<=h/\h<=30/\Q (.int (2 ^ h.toNat - 1)) H):Lp ξ [some (.int h)] H:=by
 obtain⟨h0,h1,q⟩:=q;unfold Lp;exists _,_,rfl,rfl,Zs1 h0 δ;ext;rw[Int.one_mul];exact q
theorem Fz{a:AI}{h:Int}(q:0<=h/\h<=30/\Q (.int (if (1:Nat)=0 then 2 ^ h.toNat - 1 else 0)) H):lR ξ [↑a,some (.int h)] H:=by
 unfold lR;apply q.2.2
theorem Ko{a:AI}{h:Int}(q:0<=h/\h<=30/\Q (.int (if (0:Nat)=0 then 2 ^ h.toNat - 1 else 0)) H):nO Ef ξ [↑a,some (.int h)] H:=by
 obtain⟨h0,h1,q⟩:=q;unfold nO;apply⟨h,rfl,h0,h1,q⟩
theorem Zos{wo:AI}(Tx:rT K X)(q:∃T s A M,WT H T/\s≠0/\WJ X H T s A M/\A.wo=wo/\∀H' T' A',cY s H H' T T'->WJ X H' T' s A' (vh M)->A'.wo=wo->Q .non H'):
  QS K X.E X.F X.L (qw 0) (qw 1) ⟨λ_ H'=>Q .non H',Q,bk,ct⟩ [↑wo,none] H:=by
 obtain⟨T,s,A,M,w,h0,j,rfl,q⟩:=q;obtain⟨dw,ow⟩:=j.jb.ow;obtain⟨ds,os⟩:=j.js.os;obtain⟨dk,ok⟩:=j.jb.ok;obtain⟨dl,ol⟩:=j.jb.ol;have on:=j.jb.on;have lh:=j.jd.lh;have l5:=j.jd.l5;unfold QS;apply aL ow Tx.cW Tx.Ve bu ?_;apply aL os Tx.cS Tx.n1 mC ?_;apply⟨A.sw,X.S,ds,_,rfl,os,Tx.cS,Tx.n1,by show 11<1000;decide,?_⟩;rw[Kz];apply aL ao Tx.cS Tx.n5 uo ?_;apply⟨A.sw,X.S,ds,_,rfl,ao,Tx.cS,Tx.n5,by show 11<1000;decide,?_⟩;rw[Oq,dg];apply⟨A.sw,X.S,ds,_,rfl,ao,Tx.cS,Tx.n2,by show 11<1000;decide,?_⟩;rw[lq,dg];apply⟨ε,λgr hgr=>?_⟩;have nsg:A.sw≠gr:=aD ao hgr;have Znv:H gr=none:=by rw[aB nsg.symm]at hgr;exact hgr
 apply⟨A.sw,X.S,ds,_,rfl,by rw[aB nsg];exact ao,Tx.cS,Tx.n3,by show 11<1000;decide,?_⟩;rw[Ov];have sw2:∀(a b:HO) (o:HO),upd (upd (upd H A.sw a) gr o) A.sw b=upd (upd H gr o) A.sw b:=λa b o=>by
  funext x
  by_cases z:x=A.sw
  ·rw[z,ao,ao]
  ·rw[aB z,aB z]
   by_cases y:x=gr
   ·rw[y,ao,ao]
   ·rw[aB y,aB y,aB z]
 rw[sw2];have fin:∀{lo:Int}{σ:St},σ=[↑A.wo,↑A.sw]->lo=jC M.w M.hands.length->∀(H3:Hp),H3=upd (upd H gr (.lst [])) A.sw (.ins X.S ds (bT (1 - M.sw.sense) "walk" gr M.sw.looked (M.sw.turn+1) M.sw.at' M.sw.stop M.sw.walks M.sw.looks M.sw.passes M.sw.loss))->
   (∃a C dx fs,V.ref A.sw=.ref a/\H3 a=some (.ins C dx fs)/\Er K C/\bA K C "looked"/\fs.length<1000/\(aP (dW K ψ Γ "walks") (aP (dW K ψ Γ "looks") (dW K ψ Γ "passes"))) ⟨λ_ H'=>Q .non H',Q,bk,ct⟩ σ (upd H3 a (.ins C dx (bR "looked" (.int lo) fs)))):=by
  rintro lo σ rfl elo H3 rfl;refine⟨A.sw,X.S,ds,_,rfl,ao,Tx.cS,Tx.n4,by show 11<1000;decide,?_⟩;rw[vL,dg];apply⟨A.sw,X.S,ds,_,rfl,ao,Tx.cS,Tx.n8,by show 11<1000;decide,?_⟩;rw[xO,dg];apply⟨A.sw,X.S,ds,_,rfl,ao,Tx.cS,Tx.n9,by show 11<1000;decide,?_⟩;rw[pM,dg];apply⟨A.sw,X.S,ds,_,rfl,ao,Tx.cS,Tx.n10,by show 11<1000;decide,?_⟩;rw[vK,dg];obtain⟨st,j'⟩:=j.Zq6 w h0 (dx:=ds) (l:=gr) { M.sw with sense:=1 - M.sw.sense,phase:="walk",grey:=[],looked:=jC M.w M.hands.length,turn:=M.sw.turn+1,walks:=0,looks:=0,passes:=0 } Znv rfl;subst elo;exact q _ _ _ st j' rfl
 have kp:∀b o,H b=some o->b≠A.sw->upd (upd H gr (.lst [])) A.sw (.ins X.S ds (bT (1 - M.sw.sense) "walk" gr M.sw.looked (M.sw.turn+1) M.sw.at' M.sw.stop M.sw.walks M.sw.looks M.sw.passes M.sw.loss)) b=some o:=λb o hb nb=>by
  rw[aB nb,aB (aD hb Znv)];exact hb
 have dS:∀{a:AI}{C d:AI}{fs:List (Str×V)},H a=some (.ins C d fs)->fs.length<11->a≠A.sw:=λe hl z=>by
  rw[z,os]at e;have:=Option.some.inj e
  injection this with _ _ e3
  rw[<- e3]at hl;exact absurd hl (by show ¬ 11<11;decide)
 have ow3:=kp _ _ ow (dS ow (by show 5<11;decide));have ok3:=kp _ _ ok (dS ok (by show 2<11;decide));have on3:=kp _ _ on (nY on os (λz=>by cases z));generalize hH3:upd (upd H gr (.lst [])) A.sw (.ins X.S ds (bT (1 - M.sw.sense) "walk" gr M.sw.looked (M.sw.turn+1) M.sw.at' M.sw.stop M.sw.walks M.sw.looks M.sw.passes M.sw.loss))=H3 at kp ow3 ok3 on3 ⊢;have Zgd:((A.hs.map λp=>V.ref p.1).length:Int)=(M.hands.length:Int):=by rw[bx,lh]
 refine Gj ?_;left;rcases ol with ⟨ew,o⟩ | ⟨ew,o⟩ | ⟨ew,o⟩
 ·have o3:=kp _ _ o (dS o (by show 0<11;decide));refine Xd ?_;left;refine aL ow3 Tx.cW Tx.nWk iJ ?_;refine aL ok3 Tx.cK Tx.nKl lE ?_;left;refine⟨A.lk,dl,_,rfl,o3,rfl,?_⟩;left;refine aL ow3 Tx.cW Tx.nWd dO ?_;left;refine fU (bO.of on3) ?_;rw[Zgd];left;refine⟨A.lk,_,rfl,δ,δ,?_⟩;left;exact fin rfl (by unfold jC;rw[if_pos ew,if_pos rfl,Int.toNat_natCast]) _ hH3.symm
 ·have o3:=kp _ _ o (dS o (by show 0<11;decide));refine JR (Xd ?_);left;refine aL ow3 Tx.cW Tx.nWk iJ ?_;refine aL ok3 Tx.cK Tx.nKl lE ?_;left;refine⟨A.lk,dl,_,rfl,o3,rfl,?_⟩;left;refine aL ow3 Tx.cW Tx.nWd dO ?_;left;refine fU (bO.of on3) ?_;rw[Zgd];left;refine⟨A.lk,_,rfl,δ,δ,?_⟩;left;exact fin rfl (by unfold jC;rw[if_neg (show ¬ (1:Nat)=0 by decide),if_neg δ]) _ hH3.symm
 ·have o3:=kp _ _ o (dS o (by show 0<11;decide));refine JR (JR ?_);left;refine aL ow3 Tx.cW Tx.nWk iJ ?_;refine aL ok3 Tx.cK Tx.nKl lE ?_;left;refine⟨A.lk,dl,_,rfl,o3,rfl,?_⟩;left;refine aL ow3 Tx.cW Tx.nWd dO ?_;left;refine fU (bO.of on3) ?_;rw[Zgd];left;refine⟨A.lk,_,rfl,δ,δ,?_⟩;left;exact fin rfl (by unfold jC;rw[if_neg (show ¬ (1:Nat)=0 by decide),if_neg δ]) _ hH3.symm
end
def Qd(M:Wm):Bool:=decide (M.sw.phase="walk"\/M.sw.phase="lost")
def QK(M:Wm)(p b:Int):AA:=if qW M p b=true then none else match cellAt M p with
 | none=>none
 | some c=>if Qd M=true/\¬ c.tone=M.sw.sense then none else some p
def Aq(X:Cs):Sp:=λvs H Q E=>∃wo,vs=[.ref wo]/\∃T s A M,WJ0 X H T s A M/\A.wo=wo/\∀H',aY H H'->Q (.bl (Qd M)) H'
def M8(X:Cs):Sp:=λvs H Q E=>∃wo p b,vs=[.ref wo,.int p,.int b]/\∃T s A M,WJ0 X H T s A M/\A.wo=wo/\∀H',aY H H'->Q (oV (QK M p b)) H'
section
variable {K:aG}{X:Cs}{H:Hp}{Q:VK}{E:XK}{n:ν}{bk ct:ν}
theorem Vo{wo:AI}(T:rT K X)(q:∃T s A M,WJ0 X H T s A M/\A.wo=wo/\∀H',aY H H'->Q (.bl (Qd M)) H'):wW K ξ [↑wo] H:=by
 obtain⟨Tg,s,A,M,j,rfl,q⟩:=q;obtain⟨d1,ow⟩:=j.jb.ow;obtain⟨d2,os⟩:=j.js.os;unfold wW;apply aL ow T.cW T.Ve bu ?_;apply aL os T.cS T.n2 jF ?_;apply⟨bL ζ,λtp ntp=>?_⟩;generalize zz:upd H tp _=H1;obtain⟨s1,g1⟩:=nwO ntp zz;refine⟨tp,_,rfl,.inr (fc.of g1),rfl,rfl,?_⟩;have q:=q H1 s1;rw[show Qd M=(if false=true then !inV (V.str M.sw.phase) [V.str "walk",.str "lost"]else inV (V.str M.sw.phase) [V.str "walk",.str "lost"])from by
  rw[if_neg Bool.false_ne_true];unfold Qd inV
  by_cases h1:M.sw.phase="walk"
  ·simp[h1,eqV]
  ·by_cases h2:M.sw.phase="lost"
   ·simp[h2,eqV]
   ·have e1:¬ ("walk":Str)=M.sw.phase:=λz=>h1 z.symm;have e2:¬ ("lost":Str)=M.sw.phase:=λz=>h2 z.symm;simp[h1,h2,e1,e2,eqV]]at q
 exact q
theorem Zfl{wo:AI}{p b:Int}(T:rT K X)(q:∃T s A M,WJ0 X H T s A M/\A.wo=wo/\∀H',aY H H'->Q (oV (QK M p b)) H'):GF K (Tr X) (d7 X) (Aq X) ξ [↑wo,some (.int p),some (.int b)] H:=by
 obtain⟨Tg,s,A,M,j,rfl,q⟩:=q;unfold GF;exists _,_,_,rfl,Tg,s,A,M,j,rfl;have hgo:∀c,cellAt M p=some c->qW M p b=false->QK M p b=if Qd M=true/\¬ c.tone=M.sw.sense then none else some p:=λc hc hg=>by
  unfold QK;rw[hg,if_neg Bool.false_ne_true,hc]
 cases hg:qW M p b with
 | true=>
  ext;have:=q H (aY.refl _);rw[show QK M p b=none from if_pos hg]at this;exact this
 | false=>
  apply⟨_,rfl,Tg,s,A,M,j,rfl,λH1 s1=>?_⟩;obtain⟨c,hc⟩:∃c,cellAt M p=some c:=by
   cases e:cellAt M p with
   | none=>
    have:qW M p b=true:=by unfold qW;rw[e]
    rw[this]at hg;cases hg
   | some c=>exact⟨c,rfl⟩
  have q:=q H1 s1;rw[hgo c hc hg]at q;have j1:=j.same s1;cases hw:Qd M with
  | false=>
   ext;rw[if_neg (λz=>by rw[hw]at z;cases z.1)]at q;exact q
  | true=>
   ext;obtain⟨d1,ow⟩:=j1.jb.ow;obtain⟨dh,oh⟩:=j1.jh.oh;rcases j1.look (some p)with ⟨e1,_⟩ | ⟨i,c',pp,ei,h0,ec,hci,hp,_,ce⟩
   ·have e1:cellAt M p=none:=e1;rw[hc]at e1;cases e1
   cases ei;rw[hc]at ec;cases ec;refine aL ow T.cW T.Vf bJ ?_;apply aL oh T.c.cC T.c.bK bU ?_;apply eE (bO.of j1.jh.oc) (mO (v:=.ref pp.1) h0 (by rw[cI,hp];rfl)) ?_;exists _,_,rfl,Tg,s,A,M,_,pp,c,j1,rfl,ce,rfl;ext
   by_cases ht:c.tone=M.sw.sense
   ·rw[if_neg (λz=>z.2 ht)]at q;refine Zdc (λz=>absurd ht z) (λ_=>?_);apply q
   ·rw[if_pos ⟨hw,ht⟩]at q;refine Zdc (λ_=>?_) (λz=>absurd z ht);apply q
end
def uD(M:Wm):Au:=M.names.map λm=>QK M m.2.1 m.2.2
def fW(M:Wm):List Au:=heldOf M++[uD M]
def Zb2(X:Cs):Sp:=λvs H Q E=>∃wo,vs=[.ref wo]/\∃T s A M,s≠0/\WJ X H T s A M/\A.wo=wo/\M.hands.length<=1000/\M.names.length<=1000/\∀(l:AI) (ls:AF) H',aY H H'->H l=none->H' l=some (.lst (ls.map V.ref))->ls.length=(fW M).length->(∀r∈ls,H r=none)->l∉ls->(∀(j:Nat) r x,ls[j]? =some r->(fW M)[j]? =some x->H' r=some (.lst (x.map oV)))->Q (.ref l) H'
section
variable {K:aG}{X:Cs}{H:Hp}{Q:VK}{E:XK}{n:ν}{bk ct:ν}
theorem Zvd{T:Tg}{ns:AF}{names:List (Str×(Int×Int))}(h:Al (NmO H T) ns names):∀{i:Nat}{kv:L2.Key×V},(Bp names ns)[i]? =some kv->∃t m,names[i]? =some m/\kv.2=.ref t/\H t=some (.tup [.int m.2.1,.int m.2.2])/\T t=(0,0):=by
 induction h with
 | nil=>intro i kv e;simp[Bp]at e
 | cons h0 h ih=>
  intro i kv e;cases i with
  | zero=>cases e;exact⟨_,_,rfl,rfl,h0.2,h0.1⟩
  | succ i=>exact ih (i:=i) (kv:=kv) (by simpa[Bp]using e)
theorem Zlu{wo:AI}(T:rT K X)(q:∃T s A M,s≠0/\WJ X H T s A M/\A.wo=wo/\M.hands.length<=1000/\M.names.length<=1000/\∀(l:AI) (ls:AF) H',aY H H'->H l=none->H' l=some (.lst (ls.map V.ref))->ls.length=(fW M).length->(∀r∈ls,H r=none)->l∉ls->(∀(j:Nat) r x,ls[j]? =some r->(fW M)[j]? =some x->H' r=some (.lst (x.map oV)))->Q (.ref l) H'):
  QM K (Zhj X) (M8 X) H ξ [↑wo] H:=by
 obtain⟨Tg,s,A,M,h0,j,rfl,hh,hn,q⟩:=q;unfold QM;apply⟨_,rfl,Tg,s,A,M,j,rfl,hh,λl1 ls1 H1 s1 nl1 ol1 hl1 nd1 nn1 ZD7 g1=>?_⟩;have j1:=j.same s1;obtain⟨dw,ow⟩:=j1.jb.ow;have om:=j1.jn.om;apply aL ow T.cW T.nWn jE ?_;refine⟨_,_,rfl,.inl om,λvv nvv=>?_⟩;generalize zz:upd H1 vv _=H2;obtain⟨s2,g2⟩:=nwO nvv zz;have j2:=j1.same s2;have om2:=j2.jn.om;refine⟨_,_,_,rfl,g2,om2,λo=>?_⟩;have lnm:(Bp M.names A.ns).length=M.names.length:=Zmr j2.jn.nms;have w3:=j2.names (o:=.yL o (.dK (Bp M.names A.ns))) h0;have Zq4:∀b u,H2 b=some u->b≠A.nm->upd H2 A.nm (.yL o (.dK (Bp M.names A.ns))) b=some u:=λb u hb nb=>by rw[aB nb];exact hb
 have g3:upd H2 A.nm (.yL o (.dK (Bp M.names A.ns))) A.nm=some (.yL o (.dK (Bp M.names A.ns))):=ao;generalize upd H2 A.nm (.yL o (.dK (Bp M.names A.ns)))=H3 at w3 Zq4 g3 ⊢;have nmn:∀t xs,H2 t=some (.tup xs)->t≠A.nm:=λt xs z=>nY z om2 (λy=>by cases y);refine Zic ?_;refine Ztb M.names.length δ (λi y _=>∃m,M.names[i]? =some m/\y=oV (QK M m.2.1 m.2.2)) (λ_ _ _ _ h _=>h) (λH' s=>⟨s _ _ g3,δ⟩) (λi H' hi s=>⟨s _ _ g3,δ⟩) (λi x H4 H5 hi s4 y=>?_) ?_
 ·obtain⟨rfl,kv,ekv,rfl⟩:=y;obtain⟨t,m,em,et,ot,tt⟩:=Zvd j2.jn.nms ekv;refine⟨rfl,λq hq=>R7 hq,λq hq=>?_⟩;have ot4:=s4 _ _ (Zq4 _ _ ot (nmn _ _ ot));refine⟨t,_,_,_,by rw[et],fc.of ot4,?_⟩;walk_at"c";apply⟨_,_,_,rfl,Tg,s,A,M,w3.same s4,rfl,λH6 s6=>hq _ _ s6 ⟨m,em,rfl⟩⟩
 ·intro ys H4 s4 ly hy p np;have ey:ys=(uD M).map oV:=by
   refine List.ext_getElem? λi=>?_
   by_cases hi:i<ys.length
   ·obtain⟨m,e1,e2⟩:=hy i ys[i] (bN hi);rw[bN hi,e2];unfold uD;rw[cI,cI,e1];rfl
   ·rw[List.getElem?_eq_none δ,List.getElem?_eq_none];unfold uD;rw[bx,bx];omega
  subst ey;have g5:=s4 _ _ g3;have npn:p≠A.nm:=λz=>by rw[z,g5]at np;cases np
  refine⟨A.nm,o,_,by rw[aB npn.symm];exact g5,(λo' u z=>by rw[j.jn.om]at z;cases z),?_⟩;generalize hH5:upd (upd H4 p (.lst ((uD M).map oV))) A.nm (.dK (Bp M.names A.ns))=H5;have s25:aY H2 H5:=λb u hb=>by
   rw[<- hH5]
   by_cases z:b=A.nm
   ·subst z;rw[ao];rw[om2]at hb;exact hb
   ·have h3:=Zq4 b u hb z;rw[aB z,aB (aD (s4 _ _ h3) np)];exact s4 _ _ h3
  have np2:H2 p=none:=by
   cases z:H2 p with
   | none=>rfl
   | some u=>
    have:=s4 _ _ (Zq4 p u z npn);rw[np]at this;cases this
  have op5:H5 p=some (.lst ((uD M).map oV)):=by rw[<- hH5,aB npn];exact ao
  clear hH5;have s05:=s1.trans (s2.trans s25);have s15:=s2.trans s25;apply⟨bL ζ,λl2 nl2=>?_⟩;generalize zz:upd H5 l2 _=H6;obtain⟨s6,g6⟩:=nwO nl2 zz;refine⟨l1,l2,_,_,rfl,rfl,s6 _ _ (s15 _ _ ol1),g6,?_,λl3 nl3=>?_⟩
  ·rw[bx];have:(heldOf M).length=M.hands.length:=by unfold heldOf;rw[bx]
   exact bL (by simp;omega)
  have s7:=aK nl3 (.lst (ls1.map V.ref++[.ref p]));have s07:=s05.trans (s6.trans s7);have e7:ls1.map V.ref++[V.ref p]=(ls1++[p]).map V.ref:=by rw[List.map_append];rfl
  rw[e7]at s7 s07 ⊢;have fp:H p=none:=s1.free (s2.free np2);refine q l3 (ls1++[p]) _ s07 (s05.free (s6.free nl3)) ao ?_ (λr hr=>?_) (λhr=>?_) λk r x e1 e2=>?_
  ·unfold fW;rw[List.length_append,List.length_append,hl1];rfl
  ·rcases List.mem_append.mp hr with hr | hr
   ·exact nn1 r hr
   ·rw[List.mem_singleton.mp hr];exact fp
  ·rcases List.mem_append.mp hr with hr | hr
   ·obtain⟨k,hk,e⟩:=List.getElem_of_mem hr;have:=g1 k l3 (heldOf M)[k] (by rw[bN hk,e]) (bN δ);rw[s6 _ _ (s15 _ _ this)]at nl3;cases nl3
   ·rw[List.mem_singleton.mp hr,s6 _ _ op5]at nl3;cases nl3
  ·unfold fW at e2
   by_cases hk:k<ls1.length
   ·rw[List.getElem?_append_left hk]at e1;rw[List.getElem?_append_left δ]at e2;exact s7 _ _ (s6 _ _ (s15 _ _ (g1 k r x e1 e2)))
   ·have hk2:=(cZ e1).1;rw[List.length_append,List.length_singleton]at hk2;have ek:k=ls1.length:=δ
    rw[List.getElem?_append_right δ]at e1 e2;rw[ek,Nat.sub_self]at e1;rw[ek,hl1,Nat.sub_self]at e2;cases e1;cases e2;exact s7 _ _ (s6 _ _ op5)
end
namespace KB
abbrev Fd:=List (Option Au)
def fat(F:Fd)(p:Int):Option Au:=if 0<=p then(F[p.toNat]?).join else none
def nxt(F:Fd)(pl:AA)(f:Int):AA:=match pl with
 | none=>none
 | some p=>match fat F p with
  | none=>none
  | some fl=>if 0<=f then(fl[f.toNat]?).join else none
abbrev Rw:=List Au
def slt(R:Rw)(r s:Int):AA:=((R[r.toNat]?).bind λx=>x[s.toNat]?).join
def Zc9(F:Fd)(w:AE)(x:AA×Nat):Option (Int×AE):=match x.1 with
 | none=>none
 | some q=>if (fat F q).isSome then some (q,w++[(x.2:Int)])else none
def onw(F:Fd)(w:AE)(n:Nat)(ps:Au):List (Int×AE):=(ps.zipIdx n).filterMap (Zc9 F w)
def q0(F:Fd)(n:Nat)(R:Rw):List (Int×AE):=(R.zipIdx n).flatMap λx=>onw F [(x.2:Int)] 0 x.1
structure Good(F:Fd)(R:Rw)(p:Int)(w:AE):Prop where
 ex:∃r s fs row,w=r::s::fs/\0<=r/\0<=s/\R[r.toNat]? =some row/\s.toNat<row.length/\(∀f∈fs,0<=f)/\fs.foldl (nxt F) (slt R r s)=some p
 there:(fat F p).isSome=true
theorem PL{F:Fd}{w:AE}{n:Nat}{ps:Au}{q:Int}{v:AE}(h:(q,v)∈onw F w n ps):∃k,ps[k]? =some (some q)/\v=w++[((n+k:Nat):Int)]/\(fat F q).isSome=true:=by
 obtain⟨⟨x,m⟩,hm,e⟩:=List.mem_filterMap.mp h;obtain⟨hk1,hk2⟩:=List.mem_zipIdx_iff_le_and_getElem?_sub.mp hm;unfold Zc9 at e;cases x with
 | none=>cases e
 | some q'=>
  simp only at e;split at e
  ·rename_i hs
   cases e;refine⟨m - n,hk2,?_,hs⟩;have:n+(m - n)=m:=by have:=hk1;simp only at this;omega
   rw[this]
  ·cases e
theorem Zo0{F:Fd}{R:Rw}{p q:Int}{w v:AE}{fl:Au}(g:Good F R p w)(hf:fat F p=some fl)(h:(q,v)∈onw F w 0 fl):Good F R q v:=by
 obtain⟨k,hk,rfl,hs⟩:=PL h;obtain⟨⟨r,s,fs,row,rfl,h1,h2,h3,h4,h5,h6⟩,_⟩:=g;refine⟨⟨r,s,fs++[((0+k:Nat):Int)],row,rfl,h1,h2,h3,h4,λf hf=>?_,?_⟩,hs⟩
 ·rcases List.mem_append.mp hf with z | z
  ·exact h5 f z
  ·have:f=((0+k:Nat):Int):=by simpa using z
   omega
 ·rw[List.foldl_append,h6];show nxt F (some p) _=some q;unfold nxt;simp only[hf];rw[if_pos δ];have:(((0+k:Nat):Int)).toNat=k:=δ
  rw[this,hk];rfl
theorem Zqt{F:Fd}{R:Rw}{q:Int}{v:AE}(h:(q,v)∈q0 F 0 R):Good F R q v:=by
 obtain⟨⟨row,n⟩,hm,h⟩:=List.mem_flatMap.mp h;have hr:R[n]? =some row:=List.mem_zipIdx_iff_getElem?.mp hm;obtain⟨k,hk,rfl,hs⟩:=PL h;refine⟨⟨(n:Int),((0+k:Nat):Int),[],row,rfl,δ,δ,by simpa using hr,?_,(λf hf=>by cases hf),?_⟩,hs⟩
 ·have:k<row.length:=(cZ hk).1;omega
 ·show slt R _ _=some q;unfold slt;have e1:((n:Int)).toNat=n:=δ
  have e2:(((0+k:Nat):Int)).toNat=k:=δ
  rw[e1,e2,hr];simp only[Option.bind_some,hk,Option.join_some]
inductive HJ(F:Fd)(R:Rw):List (Int×AE)->Nat->List (Int×AE)->Prop
 | start:HJ F R (q0 F 0 R) 0 []
 | old {q k l p w}:HJ F R q k l->q[k]? =some (p,w)->p∈l.map (·.1)->HJ F R q (k+1) l
 | new {q k l p w fl}:HJ F R q k l->q[k]? =some (p,w)->p∉l.map (·.1)->fat F p=some fl->HJ F R (q++onw F w 0 fl) (k+1) (l++[(p,w)])
theorem HJ.good{F:Fd}{R:Rw}{q l:List (Int×AE)}{k:Nat}(b:HJ F R q k l):(∀x∈q,Good F R x.1 x.2)/\∀x∈l,Good F R x.1 x.2:=by
 induction b with
 | start=>exact⟨λx hx=>Zqt hx,λx hx=>nomatch hx⟩
 | old _ _ _ ih=>exact ih
 | new b hq hn hf ih=>
  have g:=ih.1 _ (List.mem_of_getElem? hq);refine⟨λx hx=>?_,λx hx=>?_⟩
  ·rcases List.mem_append.mp hx with z | z
   ·exact ih.1 x z
   ·exact Zo0 g hf z
  ·rcases List.mem_append.mp hx with z | z
   ·exact ih.2 x z
   ·have z':=List.mem_singleton.mp z;rw[z'];exact g
def wgt:Option Au->Nat
 | none=>0
 | some fl=>fl.length
def Zef(F:Fd)(l:List (Int×AE)):Nat:=((F.zipIdx).map λx=>if (x.2:Int)∈l.map (·.1)then 0 else wgt x.1).sum
theorem Zli{α:Type}(f g:α->Nat):∀(xs:List α),(∀x∈xs,g x<=f x)->(xs.map g).sum<=(xs.map f).sum
 | [],_=>Nat.le_refl _
 | x::xs,h=>by
  have h1:=h x ζ;have h2:=Zli f g xs λy hy=>h y (by simp[hy]);simp only[List.map_cons,List.sum_cons];omega
theorem Zbf{α:Type}(f g:α->Nat)(d:Nat):∀(xs:List α) (a:α),a∈xs->(∀x∈xs,g x<=f x)->g a+d<=f a->(xs.map g).sum+d<=(xs.map f).sum
 | [],_,h,_,_=>nomatch h
 | x::xs,a,ha,h,hd=>by
  have h1:=h x ζ;have h2:=Zli f g xs λy hy=>h y (by simp[hy]);simp only[List.map_cons,List.sum_cons];rcases List.mem_cons.mp ha with z | z
  ·subst z;omega
  ·have h3:=Zbf f g d xs a z (λy hy=>h y (by simp[hy])) hd;omega
theorem PJ{F:Fd}{w:AE}{n:Nat}{ps:Au}:(onw F w n ps).length<=ps.length:=by
 unfold onw;have:=List.length_filterMap_le (Zc9 F w) (ps.zipIdx n);rw[List.length_zipIdx]at this;exact this
theorem Zl7{F:Fd}{l:List (Int×AE)}{p:Int}{w:AE}{fl:Au}(hn:p∉l.map (·.1))(hf:fat F p=some fl):Zef F (l++[(p,w)])+fl.length<=Zef F l:=by
 unfold fat at hf;split at hf
 ·rename_i h0
  have hp:F[p.toNat]? =some (some fl):=by
   cases e:F[p.toNat]? with
   | none=>rw[e]at hf;cases hf
   | some x=>rw[e]at hf;simp only[Option.join_some]at hf;rw[hf]
  unfold Zef;refine Zbf _ _ fl.length _ (some fl,p.toNat) (List.mem_zipIdx_iff_getElem?.mpr hp) (λx _=>?_) ?_
  ·simp only[List.map_append,List.map_cons,List.map_nil,List.mem_append]
   by_cases h1:(x.2:Int)∈l.map (·.1)
   ·simp only[h1,true_or,↓reduceIte,Nat.le_refl]
   ·simp only[h1,false_or];split
    ·exact Nat.zero_le _
    ·exact Nat.le_refl _
  ·have e:((p.toNat:Nat):Int)=p:=δ
   simp only[List.map_append,List.map_cons,List.map_nil,List.mem_append,e];rw[if_pos (.inr ζ),if_neg hn];show 0+fl.length<=wgt (some fl);show 0+fl.length<=fl.length;omega
 ·cases hf
def total(F:Fd)(R:Rw):Nat:=(q0 F 0 R).length+Zef F []
theorem HJ.bound{F:Fd}{R:Rw}{q l:List (Int×AE)}{k:Nat}(b:HJ F R q k l):q.length+Zef F l<=total F R:=by
 induction b with
 | start=>exact Nat.le_refl _
 | old _ _ _ ih=>exact ih
 | new b hq hn hf ih=>
  have h2:=@PJ F;rw[List.length_append];refine Nat.le_trans ?_ ih
  rename_i w fl
  have h3:=h2 (w:=w) (n:=0) (ps:=fl);have h4:=Zl7 (w:=w) hn hf;omega
end KB
def Zr6(cs:List V)(i:Int):V:=if 0<=i then(cs[i.toNat]?).getD .non else .non
def CO(CC:AI)(H:Hp)(cs:List V)(i:Nat):Option Au->Prop
 | none=>cs[i]? =some .non
 | some fl=>∃p fa b u t l,cs[i]? =↑p/\yK CC H p fa b u t l (fl.map oV)
structure HV(CC CH:AI)(H:Hp)(hp:AI)(F:KB.Fd):Prop where
 ex:∃ca room used born cs,HpO CH H hp ca room used born cs/\cs.length=F.length/\∀(i:Nat) x,F[i]? =some x->CO CC H cs i x
theorem HpO.same{CH:AI}{H H':Hp}{hp ca:AI}{room used born:Int}{cs:List V}(h:HpO CH H hp ca room used born cs)(s:aY H H'):HpO CH H' hp ca room used born cs:=by
 obtain⟨⟨dx,h1⟩,h2⟩:=h;exact⟨⟨dx,s _ _ h1⟩,s _ _ h2⟩
theorem CO.same{CC:AI}{H H':Hp}{cs:List V}{i:Nat}{x:Option Au}(h:CO CC H cs i x)(s:aY H H'):CO CC H' cs i x:=by
 cases x with
 | none=>exact h
 | some fl=>
  obtain⟨p,fa,b,u,t,l,e,c⟩:=h;exact⟨p,fa,b,u,t,l,e,c.same s⟩
theorem HV.same{CC CH:AI}{H H':Hp}{hp:AI}{F:KB.Fd}(h:HV CC CH H hp F)(s:aY H H'):HV CC CH H' hp F:=by
 obtain⟨ca,room,used,born,cs,o,l,e⟩:=h;exact⟨ca,room,used,born,cs,o.same s,l,λi x hx=>(e i x hx).same s⟩
theorem Zo9{CC:AI}{H:Hp}{cs:List V}{F:KB.Fd}(hl:cs.length=F.length)(e:∀(i:Nat) x,F[i]? =some x->CO CC H cs i x)(i:Int):
  (KB.fat F i=none/\Zr6 cs i=.non)\/∃fl p fa b u t l,KB.fat F i=some fl/\Zr6 cs i=.ref p/\cs[i.toNat]? =↑p/\0<=i/\yK CC H p fa b u t l (fl.map oV):=by
 unfold KB.fat Zr6
 by_cases h0:0<=i
 ·simp only[h0,↓reduceIte];cases hf:F[i.toNat]? with
  | none=>
   have:cs[i.toNat]? =none:=by rw[List.getElem?_eq_none_iff]at hf ⊢;omega
   exact .inl ⟨rfl,by rw[this];rfl⟩
  | some x=>
   have c:=e _ _ hf;cases x with
   | none=>exact .inl ⟨rfl,by rw[show cs[i.toNat]? =some V.non from c];rfl⟩
   | some fl=>
    obtain⟨p,fa,b,u,t,l,e1,c1⟩:=c;exact .inr ⟨fl,p,fa,b,u,t,l,rfl,by rw[e1];rfl,e1,trivial,c1⟩
 ·simp only[h0,↓reduceIte];exact .inl ⟨trivial,trivial⟩
def HN(H:Hp):AF->List (Int×AE)->Prop
 | [],[]=>True
 | t::ts,x::qs=>(∃a,H t=some (.tup [.int x.1,.ref a])/\H a=some (.tup (x.2.map V.int)))/\HN H ts qs
 | _,_=>False
theorem HN.same{H H':Hp}(s:aY H H'):∀{ts:AF}{qs:List (Int×AE)},HN H ts qs->HN H' ts qs
 | [],[],_=>trivial
 | [],_::_,h=>h.elim
 | _::_,[],h=>h.elim
 | _::_,_::_,⟨⟨a,h1,h2⟩,h3⟩=>⟨⟨a,s _ _ h1,s _ _ h2⟩,HN.same s h3⟩
theorem HN.app{H:Hp}:∀{ts us:AF}{qs rs:List (Int×AE)},HN H ts qs->HN H us rs->HN H (ts++us) (qs++rs)
 | [],_,[],_,_,h=>h
 | [],_,_::_,_,h,_=>h.elim
 | _::_,_,[],_,h,_=>h.elim
 | _::_,_,_::_,_,⟨h1,h3⟩,h=>⟨h1,HN.app h3 h⟩
theorem HN.len{H:Hp}:∀{ts:AF}{qs:List (Int×AE)},HN H ts qs->ts.length=qs.length
 | [],[],_=>rfl
 | [],_::_,h=>h.elim
 | _::_,[],h=>h.elim
 | _::_,_::_,⟨_,h3⟩=>by rw[List.length_cons,List.length_cons,HN.len h3]
theorem HN.at{H:Hp}:∀{ts:AF}{qs:List (Int×AE)}{i:Nat}{x:Int×AE},HN H ts qs->qs[i]? =some x->∃t a,ts[i]? =some t/\H t=some (.tup [.int x.1,.ref a])/\H a=some (.tup (x.2.map V.int))
 | [],[],_,_,_,e=>by simp at e
 | [],_::_,_,_,h,_=>h.elim
 | _::_,[],_,_,h,_=>h.elim
 | t::_,_::_,0,_,⟨⟨a,h1,h2⟩,_⟩,e=>by cases e;exact⟨t,a,rfl,h1,h2⟩
 | _::_,_::_,i+1,_,⟨_,h3⟩,e=>HN.at (i:=i) h3 e
def Kh(K:aG)(CC CH:AI):Sp:=λvs H Q E=>∃hp a wt F ps w,vs=[.ref hp,.ref a,.ref wt]/\HV CC CH H hp F/\bO K H a (ps.map oV)/\fc K H wt (w.map V.int)/\w≠[]/\w.length<=100000/\ps.length<=1000/\
 ∀l ts H',H l=none->aY H H'->H' l=some (.lst (ts.map V.ref))->HN H' ts (KB.onw F w 0 ps)->Q (.ref l) H'
def HH(K:aG)(H:Hp):AF->KB.Rw->Prop
 | [],[]=>True
 | a::as,r::R=>bO K H a (r.map oV)/\HH K H as R
 | _,_=>False
theorem HH.same{K:aG}{H H':Hp}(s:aY H H'):∀{as:AF}{R:KB.Rw},HH K H as R->HH K H' as R
 | [],[],_=>trivial
 | [],_::_,h=>h.elim
 | _::_,[],h=>h.elim
 | _::_,_::_,⟨h1,h3⟩=>⟨s.seq h1,HH.same s h3⟩
theorem HH.len{K:aG}{H:Hp}:∀{as:AF}{R:KB.Rw},HH K H as R->as.length=R.length
 | [],[],_=>rfl
 | [],_::_,h=>h.elim
 | _::_,[],h=>h.elim
 | _::_,_::_,⟨_,h3⟩=>by rw[List.length_cons,List.length_cons,HH.len h3]
theorem HH.at{K:aG}{H:Hp}:∀{as:AF}{R:KB.Rw}{i:Nat}{a:AI},HH K H as R->as[i]? =some a->∃r,R[i]? =some r/\bO K H a (r.map oV)
 | [],[],_,_,_,e=>by simp at e
 | [],_::_,_,_,h,_=>h.elim
 | _::_,[],_,_,h,_=>h.elim
 | _::_,r::_,0,_,⟨h1,_⟩,e=>by cases e;exact⟨r,rfl,h1⟩
 | _::_,_::_,i+1,_,⟨_,h3⟩,e=>HH.at (i:=i) h3 e
structure Few(F:KB.Fd)(R:KB.Rw):Prop where
 f:F.length<=1000
 g:∀p fl,KB.fat F p=some fl->fl.length<=1000
 r:R.length<=1000
 s:∀x∈R,x.length<=1000
 t:KB.total F R<=90000
def Nb(K:aG)(CC CH:AI):Sp:=λvs H Q E=>∃hp ra F rs R,vs=[.ref hp,.ref ra]/\HV CC CH H hp F/\bO K H ra (rs.map V.ref)/\HH K H rs R/\Few F R/\
 ∀l ts q qs H',KB.HJ F R q q.length qs->H l=none->aY H H'->H' l=some (.lst (ts.map V.ref))->HN H' ts qs->Q (.ref l) H'
theorem Zwv{CC CH hp:AI}{H:Hp}{Q:VK}{E:XK}{pl:AA}{F:KB.Fd}(v:HV CC CH H hp F)(q1:pl.bind (KB.fat F)=none->Q .non H)(q2:∀fl p fa b u t l,pl.bind (KB.fat F)=some fl->yK CC H p fa b u t l (fl.map oV)->Q (.ref p) H):fD CH [.ref hp,oV pl] H Q E:=by
 obtain⟨ca,room,used,born,cs,o,hl,he⟩:=v;refine⟨hp,oV pl,rfl,yf pl,ca,room,used,born,cs,o,?_⟩;cases pl with
 | none=>exact q1 rfl
 | some i=>
  show Q (Zr6 cs i) H;rcases Zo9 hl he i with ⟨e1,e2⟩ | ⟨fl,p,fa,b,u,t,l,e1,e2,_,_,c⟩
  ·rw[e2];exact q1 e1
  ·rw[e2];exact q2 fl p fa b u t l e1 c
theorem Zc8(F:KB.Fd)(w:AE)(n:Nat)(ps:Au)(x:AA):KB.onw F w n (ps++[x])=KB.onw F w n ps++(KB.Zc9 F w (x,n+ps.length)).toList:=by
 unfold KB.onw;rw[List.zipIdx_append,List.filterMap_append];congr 1
theorem take_snoc{α:Type}{xs:List α}{i:Nat}{x:α}(h:xs[i]? =some x):xs.take (i+1)=xs.take i++[x]:=by
 rw[List.take_add_one,h];rfl
theorem iM{H:Hp}{a:AI}{o:HO}(h:H a=none):aY H (upd H a o):=λb u q=>by rw[aB (aD q h)];exact q
section
variable {K:aG}{bI bG bF:AI}{H:Hp}{Q:VK}{E:XK}{n:ν}{bk ct:ν}
theorem Zfx{hp a wt:AI}{F:KB.Fd}{ps:Au}{w:AE}(v:HV bI bG H hp F)(ha:bO K H a (ps.map oV))(hw:fc K H wt (w.map V.int))(hne:w≠[])(hwl:w.length<=100000)(hpl:ps.length<=1000)
  (Zsd:∀{H':Hp},aY H H'->fc K H' wt (w.map V.int))
  (q:∀l ts H',H l=none->aY H H'->H' l=some (.lst (ts.map V.ref))->HN H' ts (KB.onw F w 0 ps)->Q (.ref l) H'):
  Ew K (fD bG) ξ [↑hp,↑a,↑wt] H:=by
 unfold Ew;apply⟨a,rfl,⟨_,ha⟩,Zq9 ha (by rw[bx];omega) (λi ys H1=>aY H H1/\i<=ps.length/\∃ts,ys=ts.map V.ref/\HN H1 ts (KB.onw F w 0 (ps.take i))) ⟨aY.refl _,Nat.zero_le _,[],rfl,trivial⟩ ?_ ?_ ?_⟩
 ·rintro i ys H1 ⟨sm,hi,ts,rfl,qa⟩;refine⟨sm,?_⟩;rw[bx,qa.len];refine Nat.le_trans KB.PJ ?_;rw[List.length_take];omega
 ·rintro i x ys H1 t C hC hx ⟨sm,hi,ts,rfl,qa⟩ ht;walk_at"c";rw[cI]at hx;obtain⟨y,hy,rfl⟩:=Option.map_eq_some_iff.mp hx;have hil:i<ps.length:=(cZ hy).1;have hn0:0+(ps.take i).length=i:=by rw[List.length_take];omega
  have s1:aY H1 (upd H1 t (.tup [.int i,oV y])):=iM ht;have sm1:=sm.trans s1;apply Zwv (v.same sm1) (λe=>?_) (λfl p fa b u t' l e c=>?_)
  ·refine Zgk ?_;apply Vn (hC _ _ ⟨sm1,hil,ts,rfl,?_⟩);rw[take_snoc hy,Zc8,hn0];have e1:KB.Zc9 F w (y,i)=none:=by
    unfold KB.Zc9;cases y with
    | none=>rfl
    | some q'=>simp only;rw[show KB.fat F q'=none from e];rfl
   rw[e1];simp only[Option.toList_none,List.append_nil];exact qa.same s1
  ·refine Zgk ?_;apply RL ?_;obtain⟨q',rfl⟩:∃q',y=some q':=by
    cases y with
    | none=>cases e
    | some q'=>exact⟨q',rfl⟩
   have e':KB.fat F q'=some fl:=e;apply⟨(by show 1<=sizeLine;decide),λt2 ht2=>?_⟩;have s2:=s1.trans (iM (o:=.tup [.int i]) ht2);refine⟨wt,t2,w.map V.int,[.int i],rfl,rfl,Zsd (sm.trans s2),fc.of ao,by simpa using hne,by rw[bx];exact bL (by simp only[List.length_cons,List.length_nil];omega),(λz=>nomatch z),(λ_ t3 ht3=>?_)⟩;have s3:=s2.trans (iM (o:=.tup (w.map V.int++[.int i])) ht3);apply⟨(by show 2<=sizeLine;decide),λt4 ht4=>?_⟩;have s4:=s3.trans (iM (o:=.tup [oV (some q'),.ref t3]) ht4);have n34:t3≠t4:=aD ao ht4;have h3:upd (upd (upd (upd H1 t (.tup [.int i,oV (some q')])) t2 (.tup [.int i])) t3 (.tup (w.map V.int++[.int i]))) t4 (.tup [oV (some q'),.ref t3]) t3=some (.tup (w.map V.int++[.int i])):=by
    rw[aB n34,ao]
   apply hC _ _ ⟨sm.trans s4,hil,ts++[t4],ζ,?_⟩;rw[take_snoc hy,Zc8,hn0];have e1:KB.Zc9 F w (some q',i)=some (q',w++[(i:Int)]):=by
    unfold KB.Zc9;simp only[e',Option.isSome_some,↓reduceIte]
   rw[e1];refine(qa.same s4).app ⟨⟨t3,ao,?_⟩,trivial⟩;rw[h3,List.map_append];rfl
 ·rintro ys H1 ⟨sm,_,ts,rfl,qa⟩ l hl;ext;rw[bx,List.take_length]at qa;exact q l ts _ (sm.free hl) (sm.trans (iM hl)) ao (qa.same (iM hl))
end
theorem Zsd{K:aG}{H H':Hp}{a:AI}{xs:List V}(e:aY H H')(h:fc K H a xs):fc K H' a xs:=by
 rcases h with (h | ⟨o,h⟩) | h
 ·exact .inl (.inl (e _ _ h))
 ·exact .inl (.inr ⟨o,e _ _ h⟩)
 ·exact .inr h
def TK(H H':Hp):Prop:=∀b xs,H b=some (.tup xs)->H' b=some (.tup xs)
theorem TK.same{H H':Hp}(s:aY H H'):TK H H':=λb _ h=>s b _ h
theorem TK.upd{H:Hp}{a:AI}{o:HO}(h:∀xs,H a≠some (.tup xs)):TK H (L2.upd H a o):=λb xs q=>by
 have n:b≠a:=λz=>h xs (by rw[<- z];exact q);rw[aB n];exact q
theorem TK.trans{H H1 H2:Hp}(a:TK H H1)(b:TK H1 H2):TK H H2:=λc xs h=>b c xs (a c xs h)
theorem HN.tk{H H':Hp}(s:TK H H'):∀{ts:AF}{qs:List (Int×AE)},HN H ts qs->HN H' ts qs
 | [],[],_=>trivial
 | [],_::_,h=>h.elim
 | _::_,[],h=>h.elim
 | _::_,_::_,⟨⟨a,h1,h2⟩,h3⟩=>⟨⟨a,s _ _ h1,s _ _ h2⟩,HN.tk s h3⟩
def XH(H:Hp):List (Key×V)->List (Int×AE)->Prop
 | [],[]=>True
 | kv::kvs,x::qs=>(kv.1=Sum.inl x.1/\∃a,kv.2=.ref a/\H a=some (.tup (x.2.map V.int)))/\XH H kvs qs
 | _,_=>False
theorem XH.tk{H H':Hp}(s:TK H H'):∀{kvs:List (Key×V)}{qs:List (Int×AE)},XH H kvs qs->XH H' kvs qs
 | [],[],_=>trivial
 | [],_::_,h=>h.elim
 | _::_,[],h=>h.elim
 | _::_,_::_,⟨⟨h0,a,h1,h2⟩,h3⟩=>⟨⟨h0,a,h1,s _ _ h2⟩,XH.tk s h3⟩
theorem XH.app{H:Hp}:∀{ks ls:List (Key×V)}{qs rs:List (Int×AE)},XH H ks qs->XH H ls rs->XH H (ks++ls) (qs++rs)
 | [],_,[],_,_,h=>h
 | [],_,_::_,_,h,_=>h.elim
 | _::_,_,[],_,h,_=>h.elim
 | _::_,_,_::_,_,⟨h1,h3⟩,h=>⟨h1,XH.app h3 h⟩
theorem XH.len{H:Hp}:∀{ts:List (Key×V)}{qs:List (Int×AE)},XH H ts qs->ts.length=qs.length
 | [],[],_=>rfl
 | [],_::_,h=>h.elim
 | _::_,[],h=>h.elim
 | _::_,_::_,⟨_,h3⟩=>by rw[List.length_cons,List.length_cons,XH.len h3]
theorem XH.val{H:Hp}(p:Int):∀{kvs:List (Key×V)}{qs:List (Int×AE)},XH H kvs qs->(rW kvs (Sum.inl p)).isSome=decide (p∈qs.map (·.1))
 | [],[],_=>by simp[rW]
 | [],_::_,h=>h.elim
 | _::_,[],h=>h.elim
 | kv::kvs,x::qs,⟨⟨h0,_⟩,h3⟩=>by
  by_cases e:x.1=p
  ·rw[HR (by rw[h0,e])];simp[e]
  ·rw[HS (by rw[h0];exact λz=>e (Sum.inl.inj z)),XH.val p h3];simp only[List.map_cons,List.mem_cons];have e':¬ p=x.1:=λz=>e z.symm;simp only[e',false_or]
theorem XH.prs{H:Hp}:∀{ts:AF}{kvs:List (Key×V)}{qs:List (Int×AE)},XH H kvs qs->Ze7 H ts kvs->HN H ts qs
 | [],[],[],_,_=>trivial
 | _,[],_::_,h,_=>h.elim
 | _,_::_,[],h,_=>h.elim
 | [],_::_,_::_,_,h=>h.elim
 | _::_,[],[],_,h=>h.elim
 | t::ts,kv::kvs,x::qs,⟨⟨h0,a,h1,h2⟩,h3⟩,⟨p1,p2⟩=>⟨⟨a,by rw[p1,h0,h1];rfl,h2⟩,XH.prs h3 p2⟩
theorem Zpi(F:KB.Fd)(R:KB.Rw)(i:Nat)(r:Au)(h:R[i]? =some r):KB.q0 F 0 (R.take (i+1))=KB.q0 F 0 (R.take i)++KB.onw F [(i:Int)] 0 r:=by
 unfold KB.q0;rw[take_snoc h,List.zipIdx_append,List.flatMap_append];have hl:(R.take i).length=i:=by
  have:=(cZ h).1;rw[List.length_take];omega
 rw[hl];simp only[List.zipIdx_cons,List.zipIdx_nil,List.flatMap_cons,List.flatMap_nil,List.append_nil,Nat.zero_add]
structure RS(K:aG)(CC CH:AI)(H0 H:Hp)(ql d:AI)(F:KB.Fd)(R:KB.Rw)(q qs:List (Int×AE))(k:Nat):Prop where
 sm:aY H0 H
 nq:H0 ql=none
 b:KB.HJ F R q k qs
 hk:k<=q.length
 oq:∃ts,H ql=some (.lst (ts.map V.ref))/\HN H ts q
 od:∃kvs,H d=some (.dK kvs)/\XH H kvs qs
 nd:H0 d=none
theorem Zn7{H:Hp}{a:AI}{xs:List V}{o:HO}(h:H a=some (.lst xs)):TK H (upd H a o):=TK.upd λys z=>by rw[h]at z;cases z
theorem Zwp{H:Hp}{a:AI}{xs:List (Key×V)}{o:HO}(h:H a=some (.dK xs)):TK H (upd H a o):=TK.upd λys z=>by rw[h]at z;cases z
theorem Qz{H0 H:Hp}{a:AI}{o:HO}(s:aY H0 H)(h:H0 a=none):aY H0 (upd H a o):=λb u q=>by rw[aB (aD q h)];exact s b u q
theorem Zrg{F:KB.Fd}{R:KB.Rw}{q l:List (Int×AE)}{k:Nat}(b:KB.HJ F R q k l):l.length<=k:=by
 induction b with
 | start=>exact Nat.le_refl _
 | old _ _ _ ih=>omega
 | new _ _ _ _ ih=>rw[List.length_append];simp only[List.length_cons,List.length_nil];omega
theorem Zeb{F:KB.Fd}{R:KB.Rw}{q l:List (Int×AE)}{k:Nat}(b:KB.HJ F R q k l):∀x∈q,x.2.length<=k+2:=by
 induction b with
 | start=>
  intro x hx;obtain⟨⟨row,n⟩,hm,h⟩:=List.mem_flatMap.mp hx;obtain⟨j,_,e,_⟩:=KB.PL (q:=x.1) (v:=x.2) h;rw[e];simp
 | old _ _ _ ih=>intro x hx;have:=ih x hx;omega
 | new b hq _ _ ih=>
  intro x hx;rcases List.mem_append.mp hx with z | z
  ·have:=ih x z;omega
  ·obtain⟨j,_,e,_⟩:=KB.PL (q:=x.1) (v:=x.2) z;have:=ih _ (List.mem_of_getElem? hq);rw[e,List.length_append];simp only[List.length_cons,List.length_nil];simp only at this;omega
theorem Zso(F:KB.Fd):∀(R S:KB.Rw) (n:Nat),(KB.q0 F n R).length<=(KB.q0 F n (R++S)).length:=λR S n=>by
 unfold KB.q0;rw[List.zipIdx_append,List.flatMap_append,List.length_append];omega
theorem Zph(F:KB.Fd)(R:KB.Rw)(i:Nat):(KB.q0 F 0 (R.take i)).length<=KB.total F R:=by
 have:=Zso F (R.take i) (R.drop i) 0;rw[List.take_append_drop]at this;unfold KB.total;omega
section
variable {K:aG}{bI bG bF:AI}{H:Hp}{Q:VK}{E:XK}{n:ν}{bk ct:ν}
theorem Zbv{hp ra:AI}{F:KB.Fd}{rs:AF}{R:KB.Rw}{v2 v3 v4 v5 v6 v7 v8:Option V}(T:TxC K bI bG)(v:HV bI bG H hp F)(hr:bO K H ra (rs.map V.ref))(rw':HH K H rs R)(fw:Few F R)
  (q:∀l ts q qs H',KB.HJ F R q q.length qs->H l=none->aY H H'->H' l=some (.lst (ts.map V.ref))->HN H' ts qs->Q (.ref l) H'):
  zm K (Kh K bI bG) ξ [↑hp,↑ra,v2,v3,v4,v5,v6,v7,v8] H:=by
 have hrl:=rw'.len;have f1:=fw.r;unfold zm;apply⟨(by show 0<=sizeLine;decide),λql hql=>?_⟩;apply⟨ra,rfl,⟨_,(iM hql).seq hr⟩,Zqx (rs.map V.ref) (λi σ Hx=>i<=rs.length/\aY H Hx/\(∃ts,Hx ql=some (.lst (ts.map V.ref))/\HN Hx ts (KB.q0 F 0 (R.take i)))/\∃x y,σ=[↑hp,↑ra,↑ql,x,y,v5,v6,v7,v8])
  ⟨Nat.zero_le _,iM hql,⟨[],ao,trivial⟩,_,_,rfl⟩ (by rintro i σ Hx _ ⟨_,sm,_⟩;exact sm.seq hr) ?_ ?_⟩
 ·rintro i x t σ Hx hx ⟨hi,sm,⟨ts,hts,qa⟩,y,z,rfl⟩ ht;rw[cI]at hx;obtain⟨r,er,rfl⟩:=Option.map_eq_some_iff.mp hx;obtain⟨row,eR,hrow⟩:=rw'.at er;have hil:i<rs.length:=(cZ er).1;have s1:=iM (o:=.tup [.int i,.ref r]) ht;refine⟨t,_,rfl,fc.of ao,rfl,.int i,_,rfl,?_⟩;exists .ref r,_,rfl;exists rfl;exists .inl ⟨rfl,_,bO.of (s1 _ _ hts)⟩;apply⟨(by show 1<=sizeLine;decide),λt2 ht2=>?_⟩;have s2:=s1.trans (iM (o:=.tup [.int i]) ht2);apply⟨hp,r,t2,F,row,[(i:Int)],rfl,v.same (sm.trans s2),(sm.trans s2).seq hrow,fc.of ao,(λz=>nomatch z),(by show 1<=100000;decide),fw.s _ (List.mem_of_getElem? eR),λl us H' hl s3 hl' qa'=>?_⟩;have s4:=s2.trans s3;have hq':H' ql=some (.lst (ts.map V.ref)):=s4 _ _ hts;ext;have hlen:ts.length<=100000:=by
   rw[qa.len];exact Nat.le_trans (Nat.le_trans (Zph F R i) fw.t) ε
  have hlen2:us.length<=1000:=by
   rw[qa'.len];exact Nat.le_trans KB.PJ (fw.s _ (List.mem_of_getElem? eR))
  refine⟨ql,l,_,_,rfl,rfl,hq',hl',by rw[bx,bx];exact bL δ,?_⟩;apply⟨hil,Qz (sm.trans s4) hql,⟨ts++us,by rw[ao,List.map_append],?_⟩,_,_,rfl⟩;rw[Zpi F R i row eR];exact((qa.same s4).app qa').tk (Zn7 hq')
 ·rintro σ Hx ⟨hi,sm,⟨ts,hts,qa⟩,y,z,rfl⟩;rw[bx,hrl,List.take_length]at qa;ext;intro d hd;ext;have ndq:d≠ql:=λe=>by rw[e,hts]at hd;cases hd
  refine⟨λm σ Hx=>∃q qs k x y v7 v8,m=KB.total F R - k/\σ=[↑hp,↑ra,↑ql,x,y,↑d,some (.int (k:Nat)),v7,v8]/\RS K bI bG H Hx ql d F R q qs k,⟨_,KB.q0 F 0 R,[],0,_,_,_,_,rfl,rfl,?_⟩,?_⟩
  ·exact⟨sm.trans (iM hd),hql,.start,Nat.zero_le _,⟨ts,by rw[aB ndq.symm];exact hts,qa.same (iM hd)⟩,⟨[],ao,trivial⟩,sm.free hd⟩
  ·rintro m σ Hy ⟨q',qs,k,x,y,v7,v8,rfl,rfl,rs'⟩;obtain⟨sm',nq,b,hk,⟨ts,hts,qa⟩,⟨kvs,hkv,la⟩,nd⟩:=rs';have hlq:=qa.len;apply fU (bO.of hts) ?_;ext;have hb:=b.bound;refine Ai (λz=>?_) (λz=>?_)
   ·rw[bx]at z;have hkq:k<q'.length:=δ
    have hq:q'[k]? =some q'[k]:=bN hkq;obtain⟨t,a,et,ht,hat⟩:=qa.at hq;generalize hx:q'[k]=pw at hq ht hat;obtain⟨p,w⟩:=pw;refine⟨λσ' H'=>∃q2 qs2 x y v7 v8,σ'=[↑hp,↑ra,↑ql,x,y,↑d,some (.int ((k:Int)+1)),v7,v8]/\RS K bI bG H H' ql d F R q2 qs2 (k+1),?_,?_⟩
    ·rintro σ' H' ⟨q2,qs2,x,y,v7,v8,rfl,r2⟩;exact⟨KB.total F R - (k+1),δ,q2,qs2,k+1,x,y,v7,v8,rfl,by rw[show((k+1:Nat):Int)=(k:Int)+1 from δ],r2⟩
    have hix:atI (ts.map V.ref) ((k:Nat):Int)=↑t:=g8 (by rw[cI,et];rfl);apply eE (bO.of hts) hix ?_;exists t,_,0,.int p,rfl,rfl,fc.of ht,mO ε rfl;apply eE (bO.of hts) hix ?_;exists t,_,1,.ref a,rfl,rfl,fc.of ht,mO ε rfl;exists d,kvs,_,rfl,.inl hkv,rfl;ext;have gd:=b.good.1 _ (List.mem_of_getElem? hq);refine Ztj (λy=>?_) (λy=>?_)
    ·have hno:rW kvs (Sum.inl p)=none:=by
      cases e:rW kvs (Sum.inl p)with
      | none=>rfl
      | some _=>rw[e]at y;simp at y
     have hnp:p∉qs.map (·.1):=by
      have:=la.val p;rw[hno]at this;simpa using this
     obtain⟨fl,hfl⟩:∃fl,KB.fat F p=some fl:=Option.isSome_iff_exists.mp gd.there;exists d,_,rfl,Zea.k (k:=Sum.inl p) hkv ?_
     ·have h2:=la.len;have h3:=Zrg b;have h4:=fw.t;exact Nat.lt_of_le_of_lt (show kvs.length<=1000000 by omega) (show 1000000<sizeLine by decide)
     rw[Zm1 _ hno];have nd':ql≠d:=nY hts hkv (λz=>by cases z);have s1:aY H (upd Hy d (.dK (kvs++[(Sum.inl p,.ref a)]))):=Qz sm' nd;have k1:TK Hy (upd Hy d (.dK (kvs++[(Sum.inl p,.ref a)]))):=Zwp hkv;have q1:upd Hy d (.dK (kvs++[(Sum.inl p,.ref a)])) ql=some (.lst (ts.map V.ref)):=(aB nd').trans hts;exists .inl ⟨rfl,_,bO.of q1⟩;ext;obtain⟨ca,room,used,born,cs,ho,hl,he⟩:=(v.same s1).ex;have ho':=ho;obtain⟨⟨dx,o1⟩,o2⟩:=ho';refine aL o1 T.cC T.bK bU ?_;ext;rcases Zo9 hl he p with ⟨e1,_⟩ | ⟨fl',p',fa,b',u,t',l,e1,_,e3,e4,c⟩
     ·rw[hfl]at e1;cases e1
     rw[hfl]at e1;cases e1;refine eE (bO.of o2) (mO e4 e3) ?_;obtain⟨⟨dc,c1⟩,c2⟩:=c;refine aL c1 T.cN T.dN jJ ?_;ext;have hw:=Zeb b _ (List.mem_of_getElem? hq);have hgt:=fw.t;refine⟨hp,fa,a,F,fl,w,rfl,v.same s1,bO.of c2,fc.of (k1 _ _ hat),?_,?_,fw.g p fl hfl,λl2 us H2 hl2 s2 hl2' qa2=>?_⟩
     ·obtain⟨r0,s0,fs0,_,e0,_⟩:=gd.ex;intro z;rw[show w=(p,w).2 from rfl,e0]at z;cases z
     ·simp only at hw;omega
     have hq2:H2 ql=some (.lst (ts.map V.ref)):=s2 _ _ q1;have hd2:H2 d=some (.dK (kvs++[(Sum.inl p,.ref a)])):=s2 _ _ ao;have k2:=k1.trans (TK.same s2);have k3:TK H2 (upd H2 ql (.lst (ts.map V.ref++us.map V.ref))):=Zn7 hq2;have b2:=KB.HJ.new b hq hnp hfl;have hb2:=b2.bound;rw[List.length_append,<- qa2.len,<- hlq]at hb2;apply⟨ql,l2,_,_,rfl,rfl,hq2,hl2',by rw[bx,bx];exact bL δ,?_⟩;apply⟨_,_,_,_,_,_,rfl,⟨Qz (s1.trans s2) nq,nq,b2,by rw[List.length_append];omega,⟨ts++us,by rw[ao,List.map_append],(((qa.tk k2).app qa2).tk k3)⟩,⟨_,by rw[aB nd'.symm];exact hd2,((la.tk k2).app ?_).tk k3⟩,nd⟩⟩;exact⟨⟨rfl,a,rfl,k2 _ _ hat⟩,trivial⟩
    ·have hin:p∈qs.map (·.1):=by
      have:=la.val p;cases e:rW kvs (Sum.inl p)with
      | none=>rw[e]at y;simp at y
      | some _=>rw[e]at this;simpa using this.symm
     apply⟨_,_,_,_,_,_,rfl,⟨sm',nq,.old b hq hin,δ,⟨ts,hts,qa⟩,⟨kvs,hkv,la⟩,nd⟩⟩
   ·rw[bx]at z;have hkq:k=q'.length:=δ
    subst hkq;apply⟨d,kvs,rfl,.inl hkv,λvw hvw=>?_⟩;ext;have s1:=iM (o:=Mx vw d) hvw;refine Zqk ao (.inl (s1 _ _ hkv)) λl us H2 hl s2 hl2 pa=>?_;apply q l us q' qs H2 b ((sm'.trans s1).free hl) ((sm'.trans s1).trans s2) hl2 ((la.tk (TK.same (s1.trans s2))).prs pa)
end
def fdOf(M:Wm):KB.Fd:=M.cells.map λo=>o.map (·.fl)
theorem WJ0.hv{X:Cs}{H:Hp}{T:Tg}{s:Nat}{A:Wa}{M:Wm}(j:WJ0 X H T s A M):HV X.C X.H H A.hp (fdOf M):=by
 have hl:=j.jc.lc;refine⟨A.ca,M.room,M.used,M.born,A.cs.map pV,j.hpO,by unfold fdOf;rw[bx,bx];exact hl,λi x hx=>?_⟩;unfold fdOf at hx;rw[cI]at hx;obtain⟨o,ho,rfl⟩:=Option.map_eq_some_iff.mp hx;cases o with
 | none=>
  show(A.cs.map pV)[i]? =some .non;rw[cI,j.jc.at0 ho];rfl
 | some c=>
  obtain⟨p,hp,ce⟩:=j.jc.at ho;obtain⟨_,_,o1,o2⟩:=ce;exact⟨p.1,p.2,c.birth,c.bulk,c.tone,c.load,by rw[cI,hp];rfl,⟨o1,o2⟩⟩
theorem Zo8{M:Wm}(x:Int):KB.fat (fdOf M) x=(cellAt M x).map (·.fl):=by
 unfold KB.fat fdOf cellAt
 by_cases h:0<=x
 ·rw[if_pos h,if_pos h,cI];cases M.cells[x.toNat]? with
  | none=>rfl
  | some o=>cases o<;>rfl
 ·rw[if_neg h,if_neg h];rfl
section
variable {K:aG}{X:Cs}{H:Hp}{Q:VK}{E:XK}{n:ν}{bk ct:ν}
theorem Zjt{hp a wt:AI}{F:KB.Fd}{ps:Au}{w:AE}(q:HV X.C X.H H hp F/\bO K H a (ps.map oV)/\fc K H wt (w.map V.int)/\w≠[]/\w.length<=100000/\ps.length<=1000/\∀l ts H',H l=none->aY H H'->H' l=some (.lst (ts.map V.ref))->HN H' ts (KB.onw F w 0 ps)->Q (.ref l) H'):
  Ew K (fD X.H) ξ [↑hp,↑a,↑wt] H:=by
 obtain⟨v,h1,h2,h3,h4,h5,q⟩:=q;exact Zfx v h1 h2 h3 h4 h5 (λe=>Zsd e h2) q
theorem Zfn{hp ra:AI}{F:KB.Fd}{rs:AF}{R:KB.Rw}(T:rT K X)(q:HV X.C X.H H hp F/\bO K H ra (rs.map V.ref)/\HH K H rs R/\Few F R/\∀l ts q qs H',KB.HJ F R q q.length qs->H l=none->aY H H'->H' l=some (.lst (ts.map V.ref))->HN H' ts qs->Q (.ref l) H'):
  zm K (Kh K X.C X.H) ξ [↑hp,↑ra,none,none,none,none,none,none,none] H:=by
 obtain⟨v,h1,h2,h3,q⟩:=q;exact Zbv T.c v h1 h2 h3 q
end
def fG(bits:Int):List (Str×Au)->Nat->Wm->AE×Wm
 | [],_,M=>([],M)
 | m::l,k,M=>if bits / 2 ^ k % 2=1 then((bC M m.2).1++(fG bits l (k+1) (bC M m.2).2).1,(fG bits l (k+1) (bC M m.2).2).2)else fG bits l (k+1) M
def lsE(x:Int):Nat->Nat->Int
 | _,0=>0
 | i,n+1=>if x / 2 ^ i % 2=0 then 2 ^ i else lsE x (i+1) n
def Oa(k:Nat)(lo:Int)(n:Nat):Int:=if k=0 then 0 else if k=1 then lsE lo 0 n else 2 ^ n - 1
theorem Rq(bits:Int)(m:Str×Au):∀(l:List (Str×Au)) (k:Nat) (M:Wm),fG bits (l++[m]) k M=if bits / 2 ^ (k+l.length) % 2=1 then((fG bits l k M).1++(bC (fG bits l k M).2 m.2).1,(bC (fG bits l k M).2 m.2).2)else fG bits l k M
 | [],k,M=>by
  show(if bits / 2 ^ k % 2=1 then((bC M m.2).1++[],(bC M m.2).2)else([],M))=_;rw[List.append_nil];rfl
 | a::l,k,M=>by
  have e:k+(a::l).length=k+1+l.length:=by rw[List.length_cons];omega
  rw[e,List.cons_append];show(if bits / 2 ^ k % 2=1 then((bC M a.2).1++(fG bits (l++[m]) (k+1) (bC M a.2).2).1,(fG bits (l++[m]) (k+1) (bC M a.2).2).2)else fG bits (l++[m]) (k+1) M)=_;show _=if bits / 2 ^ (k+1+l.length) % 2=1 then(((if bits / 2 ^ k % 2=1 then((bC M a.2).1++(fG bits l (k+1) (bC M a.2).2).1,(fG bits l (k+1) (bC M a.2).2).2)else fG bits l (k+1) M)).1++(bC (if bits / 2 ^ k % 2=1 then((bC M a.2).1++(fG bits l (k+1) (bC M a.2).2).1,(fG bits l (k+1) (bC M a.2).2).2)else fG bits l (k+1) M).2 m.2).1,(bC (if bits / 2 ^ k % 2=1 then((bC M a.2).1++(fG bits l (k+1) (bC M a.2).2).1,(fG bits l (k+1) (bC M a.2).2).2)else fG bits l (k+1) M).2 m.2).2)else(if bits / 2 ^ k % 2=1 then((bC M a.2).1++(fG bits l (k+1) (bC M a.2).2).1,(fG bits l (k+1) (bC M a.2).2).2)else fG bits l (k+1) M)
  by_cases h:bits / 2 ^ k % 2=1
  ·simp only[if_pos h];rw[Rq bits m l (k+1)]
   by_cases h2:bits / 2 ^ (k+1+l.length) % 2=1
   ·simp only[if_pos h2,List.append_assoc]
   ·simp only[if_neg h2]
  ·simp only[if_neg h];rw[Rq bits m l (k+1)]
theorem Jz:∀{l:Au}{M:Wm},(bC M l).2.hands=M.hands
 | [],_=>rfl
 | x::l,M=>by
  show(bC (cG M x).2 l).2.hands=_;rw[Jz,N8]
theorem uL(bits:Int)(B:Nat):∀(l:List (Str×Au)) (k:Nat) (M:Wm),(∀m∈l,m.2.length<=B)->(fG bits l k M).2.sw.phase=M.sw.phase/\(fG bits l k M).2.sw.grey.length<=M.sw.grey.length+l.length * B/\(fG bits l k M).1.length<=l.length * B/\(fG bits l k M).2.hands=M.hands
 | [],_,_,_=>by simp[fG]
 | m::l,k,M,h=>by
  have hm:=h m ζ;have e:(m::l).length * B=l.length * B+B:=by rw[List.length_cons,Nat.succ_mul]
  unfold fG
  by_cases z:bits / 2 ^ k % 2=1
  ·rw[if_pos z];obtain⟨a1,a2,a3,a4⟩:=uL bits B l (k+1) (bC M m.2).2 λx hx=>h x (by simp[hx]);obtain⟨b1,b2⟩:=wj (l:=m.2) (M:=M);have b3:=qg (l:=m.2) (M:=M);exact⟨a1.trans b1,by show(fG bits l (k+1) (bC M m.2).2).2.sw.grey.length<=_;omega,by show((bC M m.2).1++_).length<=_;rw[List.length_append];omega,a4.trans Jz⟩
  ·rw[if_neg z];obtain⟨a1,a2,a3,a4⟩:=uL bits B l (k+1) M λx hx=>h x (by simp[hx]);exact⟨a1,δ,δ,a4⟩
structure NtR(M M':Wm):Prop where
 rm:M'.room=M.room
 us:M'.used=M.used
 bn:M'.born=M.born
 hd:M'.hands=M.hands
 nm:M'.names=M.names
 ww:M'.w=M.w
 tl:M'.tells=M.tells
 sw:∃g,M'.sw={ M.sw with grey:=g }
 ce:M'.cells.map (λo=>o.map λc=>{ c with tone:=0 })=M.cells.map (λo=>o.map λc=>{ c with tone:=0 })
theorem NtR.refl(M:Wm):NtR M M:=⟨rfl,rfl,rfl,rfl,rfl,rfl,rfl,⟨_,rfl⟩,rfl⟩
theorem NtR.trans{M M1 M2:Wm}(a:NtR M M1)(b:NtR M1 M2):NtR M M2:=by
 obtain⟨a1,a2,a3,a4,a5,a6,a7,⟨g,a8⟩,a9⟩:=a;obtain⟨b1,b2,b3,b4,b5,b6,b7,⟨g',b8⟩,b9⟩:=b;exact⟨b1.trans a1,b2.trans a2,b3.trans a3,b4.trans a4,b5.trans a5,b6.trans a6,b7.trans a7,⟨g',by rw[b8,a8]⟩,b9.trans a9⟩
theorem Zmm(M:Wm)(x:AA):NtR M (cG M x).2:=by
 cases x with
 | none=>exact NtR.refl M
 | some i=>
  unfold cG;dsimp only;cases hc:cellAt M i with
  | none=>exact NtR.refl M
  | some c=>
   dsimp only;split
   ·obtain⟨h0,h1⟩:=eX.mp hc;refine⟨rfl,rfl,rfl,rfl,rfl,rfl,rfl,⟨_,rfl⟩,?_⟩;show(M.cells.set i.toNat _).map _=_;rw[List.map_set];refine List.ext_getElem? λk=>?_
    by_cases z:i.toNat=k
    ·subst z;rw[List.getElem?_set_self (by rw[bx];exact(cZ h1).1),cI,h1];rfl
    ·rw[List.getElem?_set_ne z]
   ·exact NtR.refl M
theorem EY:∀(l:Au) (M:Wm),NtR M (bC M l).2
 | [],M=>NtR.refl M
 | x::l,M=>(Zmm M x).trans (EY l _)
theorem LC(bits:Int):∀(l:List (Str×Au)) (k:Nat) (M:Wm),NtR M (fG bits l k M).2
 | [],_,M=>NtR.refl M
 | m::l,k,M=>by
  unfold fG;split
  ·exact(EY m.2 M).trans (LC bits l (k+1) _)
  ·exact LC bits l (k+1) M
theorem Zms(bits:Int)(l:List (Str×Au))(k:Nat)(M:Wm):(fG bits l k M).2.sw.turn=M.sw.turn/\(fG bits l k M).2.sw.looked=M.sw.looked/\(fG bits l k M).2.sw.looks=M.sw.looks:=by
 obtain⟨g,e⟩:=(LC bits l k M).sw;rw[e];exact⟨rfl,rfl,rfl⟩
theorem Zju{M:Wm}{x:AA}(h:(cG M x).1=none):(cG M x).2=M:=by
 cases x with
 | none=>rfl
 | some i=>
  unfold cG at h ⊢;dsimp only at h ⊢;cases hc:cellAt M i with
  | none=>rfl
  | some c=>
   rw[hc]at h;dsimp only at h ⊢;split
   ·rename_i z
    rw[if_pos z]at h;cases h
   ·rfl
theorem Rn:∀{l:Au}{M:Wm},(bC M l).1=[]->(bC M l).2=M
 | [],_,_=>rfl
 | x::l,M,h=>by
  have h:ofN (cG M x).1++(bC (cG M x).2 l).1=[]:=h;obtain⟨h1,h2⟩:=List.append_eq_nil_iff.mp h;have h3:(cG M x).1=none:=by
   cases e:(cG M x).1 with
   | none=>rfl
   | some b=>rw[e]at h1;cases h1
  show(bC (cG M x).2 l).2=M;rw[Rn h2,Zju h3]
theorem Zo(bits:Int):∀{l:List (Str×Au)}{k:Nat}{M:Wm},(fG bits l k M).1=[]->(fG bits l k M).2=M
 | [],_,_,_=>rfl
 | m::l,k,M,h=>by
  unfold fG at h ⊢;split
  ·rename_i z
   rw[if_pos z]at h;obtain⟨h1,h2⟩:=List.append_eq_nil_iff.mp h;show(fG bits l (k+1) (bC M m.2).2).2=M;rw[Zo bits h2,Rn h1]
  ·rename_i z
   rw[if_neg z]at h;exact Zo bits h
theorem Zck:∀(l:List (Str×Au)) (k:Nat) (M:Wm),fG 0 l k M=([],M)
 | [],_,_=>rfl
 | m::l,k,M=>by
  unfold fG;rw[if_neg ζ,Zck l (k+1) M]
def lG(X:Cs):Sp:=λvs H Q E=>∃wo bits,vs=[.ref wo,.int bits]/\∃T s A M,WT H T/\s≠0/\WJ X H T s A M/\A.wo=wo/\(∀m∈M.hands,m.2.length<=100)/\(M.sw.phase="walk"->M.sw.grey.length<=5000)/\
 ∀H' T' l,cY s H H' T T'->WJ X H' T' s A (fG bits M.hands 0 M).2->H' l=some (.lst ((fG bits M.hands 0 M).1.map V.int))->(H l=none/\Ol s (T' l))->Q (.ref l) H'
def ig(k:Nat):Sp:=λvs H Q E=>∃a lo h,vs=[.ref a,.int lo,.int h]/\0<=h/\h<=30/\Q (.int (Oa k lo h.toNat)) H
section
variable {K:aG}{X:Cs}{H:Hp}{Q:VK}{E:XK}{n:ν}{bk ct:ν}
theorem Nf{a:AI}(q:Q (.bl true) H):p6 ξ [↑a] H:=by
 unfold p6;apply q
theorem V4{a:AI}(q:Q (.bl false) H):xm ξ [↑a] H:=by
 unfold xm;apply q
theorem Em{a:AI}{lo h:Int}(q:0<=h/\h<=30/\Q (.int (Oa 0 lo h.toNat)) H):jX ξ [↑a,some (.int lo),some (.int h)] H:=by
 unfold jX;apply q.2.2
theorem Km{a:AI}{lo h:Int}(q:0<=h/\h<=30/\Q (.int (Oa 2 lo h.toNat)) H):nJ Ef ξ [↑a,some (.int lo),some (.int h)] H:=by
 obtain⟨h0,h1,q⟩:=q;unfold nJ;apply⟨h,rfl,h0,h1,q⟩
theorem Kq{a:AI}{lo h:Int}(q:0<=h/\h<=30/\Q (.int (Oa 1 lo h.toNat)) H):nP ξ [↑a,some (.int lo),some (.int h),none] H:=by
 obtain⟨h0,h1,q⟩:=q;have q:Q (.int (lsE lo 0 h.toNat)) H:=q;unfold nP;exists h,rfl,δ,δ;refine forR (λi σ Hx=>∃v,σ=[↑a,some (.int lo),some (.int h),v]/\Hx=H/\(i<=h.toNat->lsE lo 0 h.toNat=lsE lo i (h.toNat - i))) ⟨none,rfl,rfl,λ_=>rfl⟩ ?_ ?_
 ·rintro i σ Hx hi ⟨v,rfl,rfl,el⟩;have el:=el δ;have es:h.toNat - i=(h.toNat - (i+1))+1:=δ
  rw[es]at el;have ei:lsE lo i (h.toNat - (i+1)+1)=if lo / 2 ^ i % 2=0 then 2 ^ i else lsE lo (i+1) (h.toNat - (i+1)):=rfl
  rw[ei]at el;have en:((0:Int)+(i:Int)).toNat=i:=δ
  ext;rw[en,Zum];refine Ai (λz=>?_) (λz=>?_)
  ·rw[if_pos z]at el;apply i_I (Zs1 δ δ) ?_;rw[en,Int.one_mul,<- el];exact q
  ·rw[if_neg z]at el;apply⟨_,rfl,rfl,λ_=>el⟩
 ·rintro σ Hx ⟨v,rfl,rfl,el⟩;have el:=el υ;rw[Nat.sub_self]at el;have el:lsE lo 0 h.toNat=0:=el;ext;rw[el]at q;exact q
theorem Vd{wo:AI}{bits:Int}(Tx:rT K X)(q:∃T s A M,WT H T/\s≠0/\WJ X H T s A M/\A.wo=wo/\(∀m∈M.hands,m.2.length<=100)/\(M.sw.phase="walk"->M.sw.grey.length<=5000)/\
 ∀H' T' l,cY s H H' T T'->WJ X H' T' s A (fG bits M.hands 0 M).2->H' l=some (.lst ((fG bits M.hands 0 M).1.map V.int))->(H l=none/\Ol s (T' l))->Q (.ref l) H'):
  wV K (gF X) ξ [↑wo,some (.int bits),none,none,none] H:=by
 obtain⟨T,s,A,M,w,s0,j,rfl,hs,hg,q⟩:=q;have lh:=j.jd.lh;have l5:=j.jd.l5;unfold wV;apply⟨bL ζ,λl hl=>?_⟩;have st1:cY s H (upd H l (.lst [])) T (eG T l (s+1,1)):=cY.fresh w hl;have j1:WJ X (upd H l (.lst [])) (eG T l (s+1,1)) s A M:=j.fresh hl;have g1:upd H l (.lst []) l=some (.lst []):=ao;have tl:eG T l (s+1,1) l=(s+1,1):=dM;generalize upd H l (.lst [])=H1 at st1 j1 g1 ⊢;generalize eG T l (s+1,1)=T1 at st1 j1 tl;obtain⟨dw,ow⟩:=j1.jb.ow;apply aL ow Tx.cW Tx.nWd dO ?_;apply⟨A.hl,rfl,⟨_,bO.of j1.jb.on⟩,Zqx (A.hs.map λp=>V.ref p.1) (λi σ Hx=>∃T' v3 v4,σ=[↑A.wo,some (.int bits),↑l,v3,v4]/\cY s H Hx T T'/\T' l=(s+1,1)/\WJ X Hx T' s A (fG bits (M.hands.take i) 0 M).2/\Hx l=some (.lst ((fG bits (M.hands.take i) 0 M).1.map V.int))) ⟨T1,_,_,rfl,st1,tl,j1,g1⟩ (by rintro _ _ _ _ ⟨_,_,_,_,_,_,z,_⟩;exact bO.of z.jb.on) ?_ ?_⟩
 ·rintro i x t σ Hx hx ⟨T2,v3,v4,rfl,st2,tl2,j2,g2⟩ ht;rw[cI]at hx;obtain⟨p,hp,rfl⟩:=Option.map_eq_some_iff.mp hx;have hil:i<A.hs.length:=(cZ hp).1;obtain⟨m,hm⟩:∃m,M.hands[i]? =some m:=⟨_,bN δ⟩;have etk:M.hands.take (i+1)=M.hands.take i++[m]:=by rw[List.take_add_one,hm];rfl
  have ltk:(M.hands.take i).length=i:=by rw[List.length_take];omega
  obtain⟨n1,n2,n3,n4⟩:=uL bits 100 (M.hands.take i) 0 M λx hx=>hs x (List.mem_of_mem_take hx);have sn:=Rq bits m (M.hands.take i) 0 M;rw[<- etk,Nat.zero_add,ltk]at sn;generalize zz:upd Hx t _=H3;obtain⟨s1,g1'⟩:=nwO ht zz;have j3:=j2.same s1;have st3:=st2.trans (cY.same (s:=s) st2.wt s1);have g3:=s1 _ _ g2;refine⟨t,_,rfl,fc.of g1',rfl,.int i,_,rfl,?_⟩;exists .ref p.1,_,rfl;exists rfl;ext;rw[Zum,Int.toNat_natCast];refine Ai (λz=>?_) (λz=>?_)
  ·rw[if_pos z]at sn;exists .inl ⟨rfl,_,bO.of g3⟩;have hm3:(fG bits (M.hands.take i) 0 M).2.hands[i]? =some m:=by rw[n4];exact hm
   have hd:=j3.jd.hd i p m hp hm3;obtain⟨dx,o1⟩:=hd.o1;have Zwg:=hs m (List.mem_of_getElem? hm);have hB:(M.hands.take i).length * 100<=3000:=by rw[ltk];omega
   apply aL o1 Tx.cD Tx.nDs uX ?_;apply⟨_,_,rfl,m.2,T2,s,A,_,st3.wt,s0,j3,rfl,.inr (.inl ⟨i,p,m,hp,hm3,rfl,rfl⟩),Zwg,λy=>?_,λH4 T4 l4 st4 j4 g4 nl4=>?_⟩
   ·have:=hg (n1.symm.trans y);omega
   have g5:H4 l=some (.lst ((fG bits (M.hands.take i) 0 M).1.map V.int)):=st4.kp _ _ g3 (by rw[tl2];show s+1≠s;omega);have nl:=qg (l:=m.2) (M:=(fG bits (M.hands.take i) 0 M).2);apply⟨l,l4,_,_,rfl,rfl,g5,g4,by rw[bx,bx];exact bL δ,?_⟩;ext;have tl4:T4 l=(s+1,1):=(st4.tg _ _ g3).trans tl2;refine⟨T4,_,_,rfl,cY.new (st3.trans st4) hl g5,tl4,?_,?_⟩
   ·rw[sn];exact j4.other (s':=s+1) (cY.upd st4.wt g5 (by rw[tl4])) δ δ
   ·rw[sn,ao,List.map_append]
  ·rw[if_neg z]at sn;apply⟨T2,_,_,rfl,st3,tl2,by rw[sn];exact j3,by rw[sn];exact g3⟩
 ·rintro σ Hx ⟨T2,v3,v4,rfl,st2,tl2,j2,g2⟩;ext;rw[bx,lh,List.take_length]at j2 g2;exact q Hx T2 l st2 j2 g2 ⟨hl,by rw[tl2];exact .inr rfl⟩
end
structure Zay(M:Wm):Prop where
 cl:M.cells.length<=900
 hl:∀m∈M.hands,m.2.length<=100
 fl:∀c,some c∈M.cells->c.fl.length<=50
 nl:M.names.length<=900
 gl:M.sw.phase="walk"->M.sw.grey.length<=900
 gc:M.sw.phase="walk"->∀x∈M.sw.grey,∃c,cellAt M x=some c
 ph:M.sw.phase="rest"\/M.sw.phase="walk"\/M.sw.phase="give"\/M.sw.phase="lost"
 a0:0<=M.sw.at'
def El(H:Hp)(T:Tg)(M:Wm)(b:Int)(w:AE):Prop:=∃a wl,M.sw.loss=.ref a/\T a=(0,0)/\H a=some (.tup [.str "lost",.int b,.ref wl])/\T wl=(0,0)/\H wl=some (.lst (w.map V.int))
def Zow(H0 H:Hp)(T:Tg)(fr:Prop)(M:Wm)(b:Int)(w:AE)(ev:AI):Prop:=∃a wl,M.sw.loss=.ref a/\T a=(0,0)/\H a=some (.tup [.str "lost",.int b,.ref wl])/\T wl=(0,0)/\H wl=some (.lst (w.map V.int))/\(∀x y l,H ev=some (.tup [x,y,.ref l])->wl≠l)/\(fr->H0 wl=none)
def vQ(M:Wm)(i:Nat):Option Ce:=((M.cells[i]?).join).bind λc=>if c.tone=M.sw.sense then none else some c
def sY(M:Wm):AE:=(List.range M.cells.length).filterMap λi=>(vQ M i).map λ_=>(i:Int)
def sZ(M:Wm):AE:=(List.range M.cells.length).filterMap λi=>(vQ M i).map (·.birth)
def fK(M:Wm):Wm:={ M with sw:={ M.sw with stop:=M.cells.length,at':=0 } }
def bY(M:Wm):Int:=Oa M.w.toNat M.sw.looked M.hands.length
def DR(M:Wm):Prop:=bY M=0\/(M.w=2/\(fG (bY M) M.hands 0 M).1=[])
inductive nu(lb:Int)(lw:AE)(M:Wm):Ev->Wm->Prop
 | begin:M.sw.phase="rest"->nu lb lw M ⟨"begin",some (M.sw.turn+1),(fG (jC M.w M.hands.length) M.hands 0 (vh M)).1⟩ (fG (jC M.w M.hands.length) M.hands 0 (vh M)).2
 | walk (x:Int) (g:AE) (c:Ce):M.sw.phase="walk"->M.sw.grey=x::g->cellAt M x=some c->nu lb lw M ⟨"walk",some c.birth,(bC { M with sw:={ M.sw with grey:=g,walks:=M.sw.walks+1 } } c.fl).1⟩ (bC { M with sw:={ M.sw with grey:=g,walks:=M.sw.walks+1 } } c.fl).2
 | look (N:Wm):M.sw.phase="walk"->M.sw.grey=[]->¬ DR M->N=(fG (bY M) M.hands 0 M).2->nu lb lw M ⟨"look",some (bY M),(fG (bY M) M.hands 0 M).1⟩ { N with sw:={ N.sw with looks:=N.sw.looks+1,looked:=if M.w=2 then N.sw.looked else Builtin.bitOr N.sw.looked (bY M) } }
 | cut (q qs:List (Int×AE)):M.sw.phase="walk"->M.sw.grey=[]->DR M->KB.HJ (fdOf M) (fW M) q q.length qs->(∀x∈qs,∀c,cellAt M x.1=some c->c.tone=M.sw.sense)->nu lb lw M ⟨"cut",some (sZ M).length,sZ M⟩ { fK M with sw:={ (fK M).sw with phase:="give" } }
 | lost (q qs:List (Int×AE)) (i:Nat) (x:Int×AE) (c:Ce) (v:V):M.sw.phase="walk"->M.sw.grey=[]->DR M->KB.HJ (fdOf M) (fW M) q q.length qs->qs[i]? =some x->(∀(k:Nat) y d,k<i->qs[k]? =some y->cellAt M y.1=some d->d.tone=M.sw.sense)->cellAt M x.1=some c->c.tone≠M.sw.sense->nu lb lw M ⟨"lost",some c.birth,x.2⟩ { fK M with sw:={ (fK M).sw with phase:="lost",loss:=v } }
 | pass:M.sw.phase="give"->M.sw.at'<M.sw.stop->(∀c,cellAt M M.sw.at'=some c->c.tone=M.sw.sense)->nu lb lw M ⟨"pass",some M.sw.at',[]⟩ { M with sw:={ M.sw with at':=M.sw.at'+1,passes:=M.sw.passes+1 } }
 | back (c:Ce):M.sw.phase="give"->M.sw.at'<M.sw.stop->cellAt M M.sw.at'=some c->c.tone≠M.sw.sense->nu lb lw M ⟨"back",some c.birth,[M.sw.at']⟩ { M with used:=M.used - (1+c.fl.length+c.bulk),cells:=M.cells.set M.sw.at'.toNat none,sw:={ M.sw with at':=M.sw.at'+1,passes:=M.sw.passes+1 } }
 | fin:M.sw.phase="give"->¬ M.sw.at'<M.sw.stop->nu lb lw M ⟨"end",some M.sw.turn,[M.sw.walks,M.sw.looks,M.sw.passes]⟩ { M with sw:={ M.sw with phase:="rest" } }
 | again:M.sw.phase="lost"->nu lb lw M ⟨"lost",some lb,lw⟩ M
def Ea(X:Cs)(P:Wm->Prop)(wo:AI)(H:Hp)(Q:VK):Prop:=∃T s A M lb lw,WT H T/\s≠0/\WJ X H T s A M/\A.wo=wo/\Zay M/\P M/\(M.sw.phase="lost"->El H T M lb lw)/\
 ∀e M',nu lb lw M e M'->∀H' T' A' a,cY s H H' T T'->WJ X H' T' s A' M'->A'.wo=wo->EvN H H' T' s a e->(M'.sw.phase="lost"->∃b,e.thing=some b/\Zow H H' T' (M.sw.phase≠"lost") M' b e.notes a)->Q (.ref a) H'
def bZ(X:Cs)(P:Wm->Prop):Sp:=λvs H Q E=>∃wo,vs=[.ref wo]/\Ea X P wo H Q
def Zi0(M:Wm):Prop:=M.sw.phase="walk"/\M.sw.grey≠[]
def Zi2(M:Wm):Prop:=M.sw.phase="walk"/\M.sw.grey=[]
def Zjq(M:Wm):Prop:=M.sw.phase="walk"/\M.sw.grey=[]/\DR M
def Zi1(M:Wm):Prop:=M.sw.phase="give"/\M.sw.at'<M.sw.stop
def pEnd(M:Wm):Prop:=M.sw.phase="give"/\¬ M.sw.at'<M.sw.stop
def W0(z:Str)(M:Wm):Prop:=M.sw.phase=z
def Y8(_:Wm):Prop:=True
def pG(K:aG):Sp:=λvs H Q E=>∃ev,vs=[.ref ev]/\∃z b l,∃ns:AE,H ev=some (.tup [.str z,.int b,.ref l])/\H l=some (.lst (ns.map V.int))/\∀a l' H',aY H H'->H a=none->H l'=none->H' a=some (.tup [.str z,.int b,.ref l'])->H' l'=some (.lst (ns.map V.int))->Q (.ref a) H'
def HD(X:Cs):Sp:=λvs H Q E=>∃wo,vs=[.ref wo]/\∃T s A M,WJ X H T s A M/\A.wo=wo/\M.cells.length<=900/\∀l H',aY H H'->H l=none->H' l=some (.lst ((sY M).map V.int))->Q (.ref l) H'
section
variable {K:aG}{X:Cs}{H:Hp}{Q:VK}{E:XK}{n:ν}{bk ct:ν}
theorem T7{ev:AI}(q:∃z b l,∃ns:AE,H ev=some (.tup [.str z,.int b,.ref l])/\H l=some (.lst (ns.map V.int))/\∀a l' H',aY H H'->H a=none->H l'=none->H' a=some (.tup [.str z,.int b,.ref l'])->H' l'=some (.lst (ns.map V.int))->Q (.ref a) H'):
  wQ K ξ [↑ev] H:=by
 obtain⟨z,b,l,ns,o1,o2,q⟩:=q;unfold wQ;exists ev,_,0,_,rfl,rfl,fc.of o1,rfl;exists ev,_,1,_,rfl,rfl,fc.of o1,rfl;exists ev,_,2,_,rfl,rfl,fc.of o1,rfl;apply JS (bO.of o2) λl' nl'=>?_;generalize zz:upd H l' _=H1;obtain⟨s1,g1⟩:=nwO nl' zz;apply⟨bL ζ,λa na=>?_⟩;have s2:=aK na (.tup [.str z,.int b,.ref l']);exact q a l' _ (s1.trans s2) (s1.free na) nl' ao (s2 _ _ g1)
theorem Sv{α β:Type}{f g:α->Option β}:∀{l:List α},(∀x∈l,f x=g x)->l.filterMap f=l.filterMap g
 | [],_=>rfl
 | x::l,h=>by
  rw[List.filterMap_cons,List.filterMap_cons,h x ζ,Sv λy hy=>h y (by simp[hy])]
theorem Zbx{α β:Type}(f:α->Option β):∀(xs:List α),(List.range xs.length).filterMap (λi=>(xs[i]?).bind f)=xs.filterMap f
 | []=>rfl
 | x::xs=>by
  rw[List.length_cons,List.range_succ_eq_map,List.filterMap_cons];simp only[List.getElem?_cons_zero,Option.bind_some,List.filterMap_map,List.filterMap_cons];have e:((λi=>((x::xs)[i]?).bind f) ∘ Nat.succ)=λi=>(xs[i]?).bind f:=by
   funext i
   simp
  rw[e,Zbx f xs]
theorem Zjm{A:Wa}{M:Wm}{T:Tg}{s:Nat}(j:WJ X H T s A M)(f:V->Option V)(hf:∀(i:Nat) (c:Ce),M.cells[i]? =some (some c)->f (.int i)=(vQ M i).map λ_=>V.int i):((plc (A.cs.map pV)).map V.int).filterMap f=(sY M).map V.int:=by
 unfold plc sY;rw[List.filterMap_map,List.filterMap_map,List.filterMap_filter,List.map_filterMap,bx,j.jc.lc];refine Sv λi hi=>?_;have hil:=List.mem_range.mp hi;have e:(A.cs.map pV)[i]? =some V.non↔M.cells[i]? =some none:=by
  constructor
  ·intro z;cases hc:M.cells[i]with
   | none=>rw[bN hil,hc]
   | some c=>
    obtain⟨p,hp,_⟩:=j.jc.at (i:=i) (c:=c) (by rw[bN hil,hc]);rw[cI,hp]at z;cases z
  ·intro z;rw[cI,j.jc.at0 z];rfl
 by_cases z:M.cells[i]? =some none
 ·rw[if_neg (by simp[e.mpr z])];unfold vQ;rw[z];rfl
 ·have hne:¬ (A.cs.map pV)[i]? =some V.non:=λy=>z (e.mp y);rw[if_pos (by simp only[hne,decide_false,Bool.not_false])];cases hc:M.cells[i]with
  | none=>exact absurd (by rw[bN hil,hc]) z
  | some c=>
   show f (.int (i:Int))=_;rw[hf i c (by rw[bN hil,hc]),Option.map_map];rfl
theorem Zdi{wo:AI}(Tx:rT K X)(q:∃T s A M,WJ X H T s A M/\A.wo=wo/\M.cells.length<=900/\∀l H',aY H H'->H l=none->H' l=some (.lst ((sY M).map V.int))->Q (.ref l) H'):
  Cw K X.H (Az X.H) (d7 X) ξ [↑wo,none] H:=by
 obtain⟨T,s,A,M,j,rfl,hc,q⟩:=q;obtain⟨dw,ow⟩:=j.jb.ow;obtain⟨dh,oh⟩:=j.jh.oh;unfold Cw;apply aL ow Tx.cW Tx.Vf bJ ?_;apply Zdd ?_;exists A.hp,dh,_,rfl,oh,Sq;apply⟨_,rfl,A.ca,M.room,M.used,M.born,_,j.hpO,by rw[bx,j.jc.lc];omega,λlt nlt=>?_⟩;generalize zz:upd H lt _=H1;obtain⟨s1,g1⟩:=nwO nlt zz;have j1:=j.same s1;have lp:(plc (A.cs.map pV)).length<=900:=by
  unfold plc;rw[bx];refine Nat.le_trans (List.length_filter_le _ _) ?_;rw[List.length_range,bx,j.jc.lc];exact hc
 refine⟨lt,rfl,⟨_,bO.of g1⟩,?_⟩
 let f:V->Option V:=λv=>match v with
  | .int p=>(vQ M p.toNat).map λ_=>V.int p
  | _=>none
 refine Zid (bO.of g1) (λi=>(((plc (A.cs.map pV)).map V.int)[i]?).bind f) (by rw[bx];omega) (λi x hi=>?_) ?_
 ·rw[cI]at hi;obtain⟨p,hp,rfl⟩:=Option.map_eq_some_iff.mp hi;have hm:=List.mem_of_getElem? hp;unfold plc at hm;obtain⟨k,hk,rfl⟩:=List.mem_map.mp hm;obtain⟨hk1,hk2⟩:=List.mem_filter.mp hk;have hkl:k<M.cells.length:=by
   have:=List.mem_range.mp hk1;rw[bx,j.jc.lc]at this;exact this
  obtain⟨c,hcc⟩:∃c,M.cells[k]? =some (some c):=by
   cases h3:M.cells[k]with
   | none=>
    exfalso
    have:(A.cs.map pV)[k]? =some V.non:=by rw[cI,j.jc.at0 (i:=k) (by rw[bN hkl,h3])];rfl
    simp[this]at hk2
   | some c=>exact⟨c,by rw[bN hkl,h3]⟩
  obtain⟨pp,hpp,ce⟩:=j1.jc.at hcc;have ef:(((plc (A.cs.map pV)).map V.int)[i]?).bind f=(vQ M k).map λ_=>V.int (k:Int):=by
   rw[cI,hp];show(vQ M (Int.toNat k)).map _=_;rw[Int.toNat_natCast]
  have ep:(vQ M k)=if c.tone=M.sw.sense then none else some c:=by unfold vQ;rw[hcc];rfl
  obtain⟨dh1,oh1⟩:=j1.jh.oh;refine⟨λq hq=>?_,λy q hy hq=>?_⟩
  ·rw[ef,ep]at hq;walk_at"c";apply aL oh1 Tx.c.cC Tx.c.bK bU ?_;apply eE (bO.of j1.jh.oc) (g8 (v:=.ref pp.1) (by rw[cI,hpp];rfl)) ?_;exists _,_,rfl,T,s,A,M,_,pp,c,j1.w0,rfl,ce,rfl;ext
   by_cases z:c.tone=M.sw.sense
   ·rw[if_pos z]at hq;rw[decide_eq_true z];exact hq
   ·rw[if_neg z]at hq;rw[decide_eq_false z];exact hq
  ·rw[ef]at hy;obtain⟨_,_,rfl⟩:=Option.map_eq_some_iff.mp hy;walk_at"c";apply hq
 ·intro p np;rw[Zbx f,Zjm j f (λi c hc=>by show(vQ M (Int.toNat i)).map _=_;rw[Int.toNat_natCast])];exact q p _ (s1.trans (aK np _)) (s1.free np) ao
theorem Oz{wo:AI}(Tx:rT K X)(q:Ea X (W0 "rest") wo H Q):sU K (Zb5 X) (lG X) ξ [↑wo,none] H:=by
 obtain⟨T,s,A,M,lb,lw,w,s0,j,rfl,ok,ph,lo,q⟩:=q;unfold sU;apply⟨_,rfl,T,s,A,M,w,s0,j,rfl,λH1 T1 A1 st1 j1 aw1=>?_⟩;obtain⟨dw,ow⟩:=j1.jb.ow;obtain⟨ds,os⟩:=j1.js.os;rw[aw1]at ow;apply aL ow Tx.cW Tx.Ve bu ?_;apply aL os Tx.cS Tx.n4 gk ?_;apply⟨_,_,rfl,T1,s,A1,_,st1.wt,s0,j1,aw1,ok.hl,λ_=>Nat.zero_le _,λH2 T2 l st2 j2 g2 nl2=>?_⟩;have j2:WJ X H2 T2 s A1 (fG (jC M.w M.hands.length) M.hands 0 (vh M)).2:=j2;have g2:H2 l=some (.lst ((fG (jC M.w M.hands.length) M.hands 0 (vh M)).1.map V.int)):=g2;obtain⟨dw2,ow2⟩:=j2.jb.ow;obtain⟨ds2,os2⟩:=j2.js.os;rw[aw1]at ow2;have hnt:=Zms (jC M.w M.hands.length) M.hands 0 (vh M);apply aL ow2 Tx.cW Tx.Ve bu ?_;apply aL os2 Tx.cS Tx.n5 uo ?_;apply⟨bL ζ,λa na=>?_⟩;rw[hnt.1];have s3:=aK na (.tup [.str "begin",.int (M.sw.turn+1),.ref l]);refine q _ _ (.begin ph) _ T2 A1 a (st1.trans (st2.trans (cY.same st2.wt s3))) (j2.same s3) aw1 ⟨l,⟨cY.free st1 nl2.1,nl2.2,(rY st2.wt s0 na).2⟩,ao,s3 _ _ g2⟩ λz=>?_;have:=(uL (jC M.w M.hands.length) 100 M.hands 0 (vh M) ok.hl).1;rw[this]at z;exact absurd z (show ¬ ("walk":Str)="lost" by decide)
end
def Ar(X:Cs):Sp:=λvs H Q E=>∃wo,vs=[.ref wo]/\∃T s A M,WT H T/\s≠0/\WJ X H T s A M/\A.wo=wo/\Zay M/\
 (∀q qs H',KB.HJ (fdOf M) (fW M) q q.length qs->(∀x∈qs,∀c,cellAt M x.1=some c->c.tone=M.sw.sense)->aY H H'->Q .non H')/\
 (∀q qs (i:Nat) x c a wl H',KB.HJ (fdOf M) (fW M) q q.length qs->qs[i]? =some x->(∀(k:Nat) y d,k<i->qs[k]? =some y->cellAt M y.1=some d->d.tone=M.sw.sense)->cellAt M x.1=some c->c.tone≠M.sw.sense->aY H H'->H a=none->H wl=none->H' a=some (.tup [.str "lost",.int c.birth,.ref wl])->H' wl=some (.lst (x.2.map V.int))->Q (.ref a) H')
section
variable {K:aG}{X:Cs}{H:Hp}{Q:VK}{E:XK}{n:ν}{bk ct:ν}
theorem Zlj{α:Type}(f:α->Nat)(B:Nat):∀(xs:List α),(∀x∈xs,f x<=B)->(xs.map f).sum<=xs.length * B
 | [],_=>ζ
 | x::xs,h=>by
  have h1:=h x ζ;have h2:=Zlj f B xs λy hy=>h y (by simp[hy]);rw[List.map_cons,List.sum_cons,List.length_cons,Nat.succ_mul];omega
theorem Zrw{α β:Type}(f:α->List β)(B:Nat):∀(xs:List α),(∀x∈xs,(f x).length<=B)->(xs.flatMap f).length<=xs.length * B
 | [],_=>ζ
 | x::xs,h=>by
  have h1:=h x ζ;have h2:=Zrw f B xs λy hy=>h y (by simp[hy]);rw[List.flatMap_cons,List.length_append,List.length_cons,Nat.succ_mul];omega
theorem Zo7{M:Wm}{T:Tg}{s:Nat}{A:Wa}(j:WJ X H T s A M)(ok:Zay M):Few (fdOf M) (fW M):=by
 have l5:=j.jd.l5;have lh:=j.jd.lh;have hl:(heldOf M).length=M.hands.length:=by unfold heldOf;rw[bx]
 have hr:(fW M).length<=31:=by unfold fW;rw[List.length_append,hl,<- lh];simp;omega
 have hrow:∀x∈fW M,x.length<=900:=λx hx=>by
  unfold fW at hx;rcases List.mem_append.mp hx with hx | hx
  ·obtain⟨m,hm,rfl⟩:=List.mem_map.mp hx;exact Nat.le_trans (ok.hl m hm) ε
  ·rw[List.mem_singleton.mp hx];unfold uD;rw[bx];exact ok.nl
 have hf:(fdOf M).length=M.cells.length:=by unfold fdOf;rw[bx]
 have hcl:=ok.cl;have hfl:∀(i:Nat) x,(fdOf M)[i]? =some x->KB.wgt x<=50:=λi x hx=>by
  unfold fdOf at hx;rw[cI]at hx;obtain⟨o,ho,rfl⟩:=Option.map_eq_some_iff.mp hx;cases o with
  | none=>exact Nat.zero_le _
  | some c=>exact ok.fl c (List.mem_of_getElem? ho)
 refine⟨δ,λp fl hp=>?_,δ,λx hx=>by have:=hrow x hx;omega,?_⟩
 ·rw[Zo8]at hp;obtain⟨c,hc,rfl⟩:=Option.map_eq_some_iff.mp hp;have:=ok.fl c (An hc);omega
 ·unfold KB.total;have h1:(KB.q0 (fdOf M) 0 (fW M)).length<=31 * 900:=by
   unfold KB.q0;refine Nat.le_trans (Zrw _ 900 _ λx hx=>?_) (by rw[List.length_zipIdx];exact Nat.mul_le_mul_right _ hr);refine Nat.le_trans KB.PJ (hrow x.1 ?_);obtain⟨_,h2⟩:=List.mem_zipIdx_iff_le_and_getElem?_sub.mp hx;exact List.mem_of_getElem? h2
  have h2:KB.Zef (fdOf M) []<=900 * 50:=by
   unfold KB.Zef;refine Nat.le_trans (Zlj _ 50 _ λx hx=>?_) (by rw[List.length_zipIdx,hf];exact Nat.mul_le_mul_right _ hcl);obtain⟨_,h2⟩:=List.mem_zipIdx_iff_le_and_getElem?_sub.mp hx;simp only[List.map_nil,List.not_mem_nil,↓reduceIte];exact hfl _ _ h2
  omega
theorem Zhs{M:Wm}:∀{rows:List Au}{ls:AF},ls.length=rows.length->(∀(j:Nat) r x,ls[j]? =some r->rows[j]? =some x->H r=some (.lst (x.map oV)))->HH K H ls rows
 | [],[],_,_=>trivial
 | [],_::_,h,_=>by simp at h
 | _::_,[],h,_=>by simp at h
 | x::rows,r::ls,h,g=>⟨bO.of (g 0 r x rfl rfl),Zhs (M:=M) (by simpa using h) λj r x e1 e2=>g (j+1) r x (by simpa using e1) (by simpa using e2)⟩
theorem VL{wo:AI}(Tx:rT K X)(q:∃T s A M,WT H T/\s≠0/\WJ X H T s A M/\A.wo=wo/\Zay M/\
 (∀q qs H',KB.HJ (fdOf M) (fW M) q q.length qs->(∀x∈qs,∀c,cellAt M x.1=some c->c.tone=M.sw.sense)->aY H H'->Q .non H')/\
 (∀q qs (i:Nat) x c a wl H',KB.HJ (fdOf M) (fW M) q q.length qs->qs[i]? =some x->(∀(k:Nat) y d,k<i->qs[k]? =some y->cellAt M y.1=some d->d.tone=M.sw.sense)->cellAt M x.1=some c->c.tone≠M.sw.sense->aY H H'->H a=none->H wl=none->H' a=some (.tup [.str "lost",.int c.birth,.ref wl])->H' wl=some (.lst (x.2.map V.int))->Q (.ref a) H')):
  wX K (d7 X) (Nb K X.C X.H) (Zb2 X) ξ [↑wo,none,none,none] H:=by
 obtain⟨T,s,A,M,w,s0,j,rfl,ok,q1,q2⟩:=q;obtain⟨dw,ow⟩:=j.jb.ow;have l5:=j.jd.l5;have lh:=j.jd.lh;have nl:=ok.nl;unfold wX;apply aL ow Tx.cW Tx.Vf bJ ?_;apply⟨_,rfl,T,s,A,M,s0,j,rfl,δ,δ,λra rs H1 s1 nra ora lrs nrs nrl g1=>?_⟩;apply⟨A.hp,ra,fdOf M,rs,fW M,rfl,(j.same s1).w0.hv,bO.of ora,Zhs (M:=M) lrs g1,Zo7 j ok,λl ts q qs H2 bf nl2 s2 ol qa=>?_⟩;have s02:=s1.trans s2;have j2:=j.same s02;have good:=bf.good.2;have hlq:=qa.len;obtain⟨dw2,ow2⟩:=j2.jb.ow;obtain⟨dh2,oh2⟩:=j2.jh.oh;refine⟨l,rfl,⟨_,bO.of ol⟩,forL (ts.map V.ref) (λi σ Hx=>∃v1 v2 v3,σ=[↑A.wo,v1,v2,v3]/\Hx=H2/\∀(k:Nat) y d,k<i->qs[k]? =some y->cellAt M y.1=some d->d.tone=M.sw.sense) ⟨_,_,_,rfl,rfl,λk y d hk=>absurd hk (Nat.not_lt_zero _)⟩ (by rintro _ _ _ _ ⟨_,_,_,_,z,_⟩;rw[z];exact bO.of ol) ?_ ?_⟩
 ·rintro i x σ Hx hi ⟨v1,v2,v3,rfl,rfl,hno⟩;rw[cI]at hi;obtain⟨t,ht,rfl⟩:=Option.map_eq_some_iff.mp hi;have hil:i<qs.length:=by rw[<- hlq];exact(cZ ht).1
  obtain⟨t',wa,et,ot,owa⟩:=qa.at (bN hil);rw[ht]at et;cases et;have hx:qs[i]? =some qs[i]:=bN hil;generalize qs[i]=x at hx ot owa;obtain⟨fl,hfl⟩:=Option.isSome_iff_exists.mp (good x (List.mem_of_getElem? hx)).there;rw[Zo8]at hfl;obtain⟨c,hc,_⟩:=Option.map_eq_some_iff.mp hfl;obtain⟨x0,hcc⟩:=eX.mp hc;obtain⟨pp,hpp,ce⟩:=j2.jc.at hcc;obtain⟨_,_,⟨dc,oc⟩,_⟩:=id ce;refine⟨t,_,rfl,fc.of ot,rfl,?_⟩;refine⟨_,_,rfl,?_⟩;exists _,_,rfl;exists rfl;apply aL ow2 Tx.cW Tx.Vf bJ ?_;refine aL oh2 Tx.c.cC Tx.c.bK bU ?_;apply eE (bO.of j2.jh.oc) (mO (v:=.ref pp.1) x0 (by rw[cI,hpp];rfl)) ?_;exists _,_,rfl,T,s,A,M,_,pp,c,j2.w0,rfl,ce,rfl;apply Zdc (λz=>?_) (λz=>?_)
  ·apply aL oc Tx.c.cN Tx.c.cX fJ ?_;apply Zqj (fc.of owa) λwl nwl=>?_;generalize zz:upd Hx wl _=H3;obtain⟨s3,g3⟩:=nwO nwl zz;apply⟨bL ζ,λa na=>?_⟩;have s4:=aK na (.tup [.str "lost",.int c.birth,.ref wl]);exact q2 q qs i x c a wl _ bf hx hno hc z (s02.trans (s3.trans s4)) (s02.free (s3.free na)) (s02.free nwl) ao (s4 _ _ g3)
  ·apply⟨_,_,_,rfl,rfl,λk y d hk e1 e2=>?_⟩
   by_cases h:k<i
   ·exact hno k y d h e1 e2
   ·have:k=i:=δ
    subst this;rw[hx]at e1;cases e1;rw[hc]at e2;cases e2;exact z
 ·rintro σ Hx ⟨v1,v2,v3,rfl,rfl,hno⟩;rw[bx,hlq]at hno;apply q1 q qs Hx bf (λx hx c hc=>?_) s02;obtain⟨k,hk,e⟩:=List.getElem_of_mem hx;exact hno k x c hk (by rw[bN hk,e]) hc
theorem Y7{M:Wm}:((sY M).map some).map (Gn M)=(sZ M).map some:=by
 unfold sY sZ;rw[List.map_map,List.map_filterMap,List.map_filterMap];refine Sv λi hi=>?_;rw[Option.map_map,Option.map_map];cases hp:vQ M i with
 | none=>rfl
 | some c=>
  unfold vQ at hp;obtain⟨d,hd,e⟩:=Option.bind_eq_some_iff.mp hp;have hdc:d=c:=by
   split at e
   ·cases e
   ·exact Option.some.inj e
  subst hdc;show some (Gn M (some (i:Int)))=some (some d.birth);have:cellAt M (i:Int)=some d:=by
   unfold cellAt;rw[if_pos δ,Int.toNat_natCast,hd]
  show some ((cellAt M (i:Int)).map _)=_;rw[this];rfl
theorem QX{M:Wm}(h:M.cells.length<=900):(sZ M).length<=900/\(sY M).length<=900:=by
 unfold sZ sY;have h1:=List.length_filterMap_le (λi=>(vQ M i).map (·.birth)) (List.range M.cells.length);have h2:=List.length_filterMap_le (λ(i:Nat)=>(vQ M i).map λ_=>(i:Int)) (List.range M.cells.length);rw[List.length_range]at h1 h2;exact⟨δ,δ⟩
theorem Zuj{wo:AI}(Tx:rT K X)(q:Ea X Zjq wo H Q):Zfr K (Ed X) (Ar X) (HD X) (pG K) ξ [↑wo,none,none,none] H:=by
 obtain⟨T,s,A,M,lb,lw,w,s0,j,rfl,ok,⟨ph,gr,cd⟩,lo,q⟩:=q;obtain⟨dw,ow⟩:=j.jb.ow;obtain⟨ds,os⟩:=j.js.os;obtain⟨dh,oh⟩:=j.jh.oh;have hcl:=ok.cl;unfold Zfr;apply aL ow Tx.cW Tx.Ve bu ?_;apply aL ow Tx.cW Tx.Vf bJ ?_;refine aL oh Tx.c.cC Tx.c.bK bU ?_;apply fU (bO.of j.jh.oc) ?_;rw[bx,j.jc.lc];apply⟨A.sw,X.S,ds,_,rfl,os,Tx.cS,Tx.n7,by show 11<1000;decide,?_⟩;rw[Ot];apply⟨A.sw,X.S,ds,_,rfl,ao,Tx.cS,Tx.n6,by show 11<1000;decide,?_⟩;rw[FQ,dg];obtain⟨st1,j1⟩:=j.sweep w s0 (dx:=ds) { M.sw with stop:=M.cells.length,at':=0 } rfl;have j1:WJ X _ T s A (fK M):=j1;generalize upd H A.sw (.ins X.S ds (bT M.sw.sense M.sw.phase A.gr M.sw.looked M.sw.turn 0 M.cells.length M.sw.walks M.sw.looks M.sw.passes M.sw.loss))=H1 at st1 j1 ⊢;have ok1:Zay (fK M):=⟨ok.cl,ok.hl,ok.fl,ok.nl,ok.gl,ok.gc,ok.ph,Int.le_refl _⟩;apply⟨_,rfl,T,s,A,fK M,st1.wt,s0,j1,rfl,ok1,λq' qs H2 bf hno s2=>?_,λq' qs i x c a wl H2 bf hx hno hc ht s2 na nwl oa owl=>?_⟩
 ·have j2:=j1.same s2;obtain⟨dw2,ow2⟩:=j2.jb.ow;obtain⟨ds2,os2⟩:=j2.js.os;apply⟨A.sw,X.S,ds2,_,rfl,os2,Tx.cS,Tx.n2,by show 11<1000;decide,?_⟩;rw[lq];obtain⟨st3,j3⟩:=j2.sweep (st1.wt.same s2) s0 (dx:=ds2) { (fK M).sw with phase:="give" } rfl;have j3:WJ X _ T s A { fK M with sw:={ (fK M).sw with phase:="give" } }:=j3;generalize upd H2 A.sw (.ins X.S ds2 (bT (fK M).sw.sense "give" A.gr (fK M).sw.looked (fK M).sw.turn (fK M).sw.at' (fK M).sw.stop (fK M).sw.walks (fK M).sw.looks (fK M).sw.passes (fK M).sw.loss))=H3 at st3 j3 ⊢;obtain⟨dw3,ow3⟩:=j3.jb.ow;obtain⟨ob,ol⟩:=QX hcl;apply aL ow3 Tx.cW Tx.Vf bJ ?_;apply⟨_,rfl,T,s,A,_,j3,rfl,hcl,λl4 H4 s4 nl4 g4=>?_⟩;have e4:(sY { fK M with sw:={ (fK M).sw with phase:="give" } }).map V.int=((sY M).map some).map oV:=by
   rw[List.map_map];rfl
  rw[e4]at g4;apply⟨A.hp,l4,rfl,T,s,A,_,(sY M).map some,j3.same s4,rfl,g4,by rw[bx];omega,λl5 nl5=>?_⟩;have e5:(((sY M).map some).map (Gn { fK M with sw:={ (fK M).sw with phase:="give" } })).map oV=(sZ M).map V.int:=by
   have:Gn { fK M with sw:={ (fK M).sw with phase:="give" } }=Gn M:=by funext x;cases x<;>rfl
   rw[this,Y7,List.map_map];rfl
  rw[e5];generalize zz:upd H4 l5 _=H5;obtain⟨s5,g5⟩:=nwO nl5 zz;apply fU (bO.of g5) ?_;rw[bx];apply⟨bL ζ,λa na=>?_⟩;have s6:=aK na (.tup [.str "cut",.int (sZ M).length,.ref l5]);have s35:=s4.trans (s5.trans s6);have fr:H l5=none:=cY.free st1 (s2.free (cY.free st3 (s4.free nl5)));exact q _ _ (.cut q' qs ph gr cd bf hno) _ T A a (st1.trans ((cY.same st1.wt s2).trans (st3.trans (cY.same st3.wt s35)))) (j3.same s35) rfl ⟨l5,⟨fr,(rY w s0 fr).2,(rY st3.wt s0 ((s4.trans s5).free na)).2⟩,ao,s6 _ _ g5⟩ λz=>absurd z (show ¬ ("give":Str)="lost" by decide)
 ·have j2:=j1.same s2;have w2:=st1.wt.same s2;obtain⟨ds2,os2⟩:=j2.js.os;apply⟨A.sw,X.S,ds2,_,rfl,os2,Tx.cS,Tx.n2,by show 11<1000;decide,?_⟩;rw[lq];apply⟨A.sw,X.S,ds2,_,rfl,ao,Tx.cS,Tx.n11,by show 11<1000;decide,?_⟩;rw[Ou,dg];obtain⟨st3,j3⟩:=j2.sweep w2 s0 (dx:=ds2) { (fK M).sw with phase:="lost",loss:=.ref a } rfl;have j3:WJ X _ T s A { fK M with sw:={ (fK M).sw with phase:="lost",loss:=.ref a } }:=j3;have ta:T a=(0,0):=st1.wt _ na;have tw:T wl=(0,0):=st1.wt _ nwl;have oa3:upd H2 A.sw (.ins X.S ds2 (bT (fK M).sw.sense "lost" A.gr (fK M).sw.looked (fK M).sw.turn (fK M).sw.at' (fK M).sw.stop (fK M).sw.walks (fK M).sw.looks (fK M).sw.passes (.ref a))) a=some (.tup [.str "lost",.int c.birth,.ref wl]):=(aB (nY oa os2 (λz=>by cases z))).trans oa;have Zpr:upd H2 A.sw (.ins X.S ds2 (bT (fK M).sw.sense "lost" A.gr (fK M).sw.looked (fK M).sw.turn (fK M).sw.at' (fK M).sw.stop (fK M).sw.walks (fK M).sw.looks (fK M).sw.passes (.ref a))) wl=some (.lst (x.2.map V.int)):=(aB (nY owl os2 (λz=>by cases z))).trans owl;generalize upd H2 A.sw (.ins X.S ds2 (bT (fK M).sw.sense "lost" A.gr (fK M).sw.looked (fK M).sw.turn (fK M).sw.at' (fK M).sw.stop (fK M).sw.walks (fK M).sw.looks (fK M).sw.passes (.ref a)))=H3 at st3 j3 oa3 Zpr ⊢;apply⟨a,rfl,"lost",c.birth,wl,x.2,oa3,Zpr,λa' l' H4 s4 na' nl' oa' ol'=>?_⟩;have fr:H l'=none:=cY.free st1 (s2.free (cY.free st3 nl'));exact q _ _ (.lost q' qs i x c (.ref a) ph gr cd bf hx hno hc ht) _ T A a' (st1.trans ((cY.same st1.wt s2).trans (st3.trans (cY.same st3.wt s4)))) (j3.same s4) rfl ⟨l',⟨fr,(rY w s0 fr).2,(rY st3.wt s0 na').2⟩,oa',ol'⟩ λ_=>⟨c.birth,rfl,a,wl,rfl,ta,s4 _ _ oa3,tw,s4 _ _ Zpr,(λx y l z=>by rw[oa']at z;cases z;exact aD Zpr nl'),λ_=>cY.free st1 nwl⟩
end
theorem toN{x:Int}(h:0<=x):∃k:Nat,x=k:=⟨x.toNat,δ⟩
section
variable {K:aG}{X:Cs}{H:Hp}{Q:VK}{E:XK}{n:ν}{bk ct:ν}
theorem Zp2{wo:AI}(Tx:rT K X)(q:Ea X Zi0 wo H Q):YL K (gF X) ξ [↑wo,none,none] H:=by
 obtain⟨T,s,A,M,lb,lw,w,s0,j,rfl,ok,⟨ph,gr⟩,lo,q⟩:=q;obtain⟨dw,ow⟩:=j.jb.ow;obtain⟨ds,os⟩:=j.js.os;obtain⟨dh,oh⟩:=j.jh.oh;have og:=j.js.og;cases hg:M.sw.grey with
 | nil=>exact absurd hg gr
 | cons x g=>
  obtain⟨c,hc⟩:=ok.gc ph x (by rw[hg];simp);obtain⟨x0,hcc⟩:=eX.mp hc;have hgl:=ok.gl ph;have hfl:=ok.fl c (An hc);rw[hg]at og;unfold YL;apply aL ow Tx.cW Tx.Ve bu ?_;apply aL ow Tx.cW Tx.Vf bJ ?_;refine aL oh Tx.c.cC Tx.c.bK bU ?_;apply aL os Tx.cS Tx.n3 uq ?_;exists .inl ⟨rfl,_,bO.of og⟩;exists A.gr,_,0,0,.int x,rfl,rfl,og,ε,ε,by simp[seqIndex?],rfl;obtain⟨st1,j1⟩:=j.Zrt w s0 (g:=g);show fO K _ _ (upd H A.gr (.lst (g.map V.int))) _;generalize upd H A.gr (.lst (g.map V.int))=H1 at st1 j1 ⊢;obtain⟨pp,hpp,ce⟩:=j1.jc.at (i:=x.toNat) (c:=c) hcc;refine eE (bO.of j1.jh.oc) (mO (v:=.ref pp.1) x0 (by rw[cI,hpp];rfl)) ?_;obtain⟨ds1,os1⟩:=j1.js.os;apply aL os1 Tx.cS Tx.n8 Bc ?_;apply⟨A.sw,X.S,ds1,_,rfl,os1,Tx.cS,Tx.n8,by show 11<1000;decide,?_⟩;rw[xO];obtain⟨st2,j2⟩:=j1.sweep st1.wt s0 (dx:=ds1) { M.sw with grey:=g,walks:=M.sw.walks+1 } rfl;have j2:WJ X _ T s A { M with sw:={ M.sw with grey:=g,walks:=M.sw.walks+1 } }:=j2;generalize upd H1 A.sw _=H2 at st2 j2 ⊢;obtain⟨pp2,Zwe,ce2⟩:=j2.jc.at (i:=x.toNat) (c:=c) hcc;rw[hpp]at Zwe;cases Zwe;obtain⟨_,_,⟨dc,oc⟩,of'⟩:=id ce2;apply aL oc Tx.c.cN Tx.c.cX fJ ?_;apply aL oc Tx.c.cN Tx.c.dN jJ ?_;apply⟨_,_,rfl,c.fl,T,s,A,_,st2.wt,s0,j2,rfl,.inr (.inr ⟨x.toNat,pp,c,hpp,hcc,rfl,rfl⟩),δ,λ_=>?_,λH3 T3 l st3 j3 g3 nl3=>?_⟩
  ·show g.length<=10000;rw[hg,List.length_cons]at hgl;omega
  apply⟨bL ζ,λa na=>?_⟩;have s4:=aK na (.tup [.str "walk",.int c.birth,.ref l]);refine q _ _ (.walk x g c ph hg hc) _ T3 A a (st1.trans (st2.trans (st3.trans (cY.same st3.wt s4)))) (j3.same s4) rfl ⟨l,⟨cY.free st1 (cY.free st2 nl3.1),nl3.2,(rY st3.wt s0 na).2⟩,ao,s4 _ _ g3⟩ λz=>?_;rw[(wj (l:=c.fl) (M:={ M with sw:={ M.sw with grey:=g,walks:=M.sw.walks+1 } })).1]at z;exact absurd (ph.symm.trans z) (show ¬ ("walk":Str)="lost" by decide)
theorem U3{wo:AI}(Tx:rT K X)(q:Ea X Zi1 wo H Q):wU K X.H (wH X.C X.H) (fD X.H) (d7 X) ξ [↑wo,none,none,none] H:=by
 obtain⟨T,s,A,M,lb,lw,w,s0,j,rfl,ok,⟨ph,lt⟩,lo,q⟩:=q;obtain⟨dw,ow⟩:=j.jb.ow;obtain⟨ds,os⟩:=j.js.os;unfold wU;apply aL ow Tx.cW Tx.Ve bu ?_;apply aL os Tx.cS Tx.n6 HX ?_;apply⟨A.sw,X.S,ds,_,rfl,os,Tx.cS,Tx.n6,by show 11<1000;decide,?_⟩;rw[FQ];apply aL ao Tx.cS Tx.n10 xP ?_;apply⟨A.sw,X.S,ds,_,rfl,ao,Tx.cS,Tx.n10,by show 11<1000;decide,?_⟩;rw[vK,dg];obtain⟨st1,j1⟩:=j.sweep w s0 (dx:=ds) { M.sw with at':=M.sw.at'+1,passes:=M.sw.passes+1 } rfl;generalize upd H A.sw _=H1 at st1 j1 ⊢;obtain⟨dw1,ow1⟩:=j1.jb.ow;obtain⟨dh1,oh1⟩:=j1.jh.oh;apply aL ow1 Tx.cW Tx.Vf bJ ?_;exists _,_,rfl,yf (some M.sw.at'),_,_,_,_,_,j1.hpO;have pas:(∀c,cellAt M M.sw.at'=some c->c.tone=M.sw.sense)->∀l a H2,H1 a=none->H1 l=none->aY H1 H2->H2 a=some (.tup [.str "pass",.int M.sw.at',.ref l])->H2 l=some (.lst [])->Q (.ref a) H2:=λhp l a H2 na nl s2 oa ol=>
  q _ _ (.pass ph lt hp) _ T A a (st1.trans (cY.same st1.wt s2)) (j1.same s2) rfl ⟨l,⟨cY.free st1 nl,(rY st1.wt s0 nl).2,(rY st1.wt s0 na).2⟩,oa,ol⟩ λz=>absurd (ph.symm.trans z) (show ¬ ("give":Str)="lost" by decide)
 rcases j1.look (some M.sw.at')with ⟨e1,e2⟩ | ⟨i,c,pp,ei,h0,ec,hcc,hpp,e2,ce⟩
 ·have e1:cellAt M M.sw.at'=none:=e1;rw[show atO (A.cs.map pV) (.int M.sw.at')=.non from e2];apply⟨bL ζ,λl nl=>⟨bL ζ,λa na=>?_⟩⟩;have s2:=aK nl (.lst []);have s3:=aK na (.tup [.str "pass",.int M.sw.at',.ref l]);exact pas (λc hc=>by rw[e1]at hc;cases hc) l a _ (s2.free na) nl (s2.trans s3) ao (s3 _ _ ao)
 ·cases ei;have ec:cellAt M M.sw.at'=some c:=ec;rw[show atO (A.cs.map pV) (.int M.sw.at')=.ref pp.1 from e2];exists _,_,rfl,T,s,A,_,_,pp,c,j1.w0,rfl,ce,rfl
  by_cases z:c.tone=M.sw.sense
  ·rw[decide_eq_true (show c.tone=({ M.sw with at':=M.sw.at'+1,passes:=M.sw.passes+1 }:Sw).sense from z)];apply⟨bL ζ,λl nl=>⟨bL ζ,λa na=>?_⟩⟩;have s2:=aK nl (.lst []);have s3:=aK na (.tup [.str "pass",.int M.sw.at',.ref l]);exact pas (λd hd=>by rw[ec]at hd;cases hd;exact z) l a _ (s2.free na) nl (s2.trans s3) ao (s3 _ _ ao)
  ·rw[decide_eq_false (show ¬ c.tone=({ M.sw with at':=M.sw.at'+1,passes:=M.sw.passes+1 }:Sw).sense from z)];obtain⟨k,ek⟩:=toN h0;have hk:M.cells[k]? =some (some c):=by rw[ek,Int.toNat_natCast]at hcc;exact hcc
   apply aL ow1 Tx.cW Tx.Vf bJ ?_;exists A.hp,dh1,_,rfl,oh1,VG;ext;rw[ek];refine Zkm j1 st1.wt s0 hk λH2 A2 st2 j2 aw2=>?_;apply⟨bL ζ,λl nl=>⟨bL ζ,λa na=>?_⟩⟩;have s3:=aK nl (.lst [.int (k:Int)]);have s4:=aK na (.tup [.str "back",.int c.birth,.ref l]);have s34:=s3.trans s4;have rr:=nu.back (lb:=lb) (lw:=lw) (M:=M) c ph lt ec z;rw[ek,Int.toNat_natCast]at rr;rw[ek]at j2;exact q _ _ rr _ T A2 a (st1.trans (st2.trans (cY.same st2.wt s34))) (j2.same s34) aw2 ⟨l,⟨cY.free st1 (cY.free st2 nl),(rY st2.wt s0 nl).2,(rY st2.wt s0 (s3.free na)).2⟩,ao,s4 _ _ ao⟩ λy=>absurd (ph.symm.trans y) (show ¬ ("give":Str)="lost" by decide)
theorem Zug{wo:AI}(Tx:rT K X)(q:Ea X pEnd wo H Q):Zfq K ξ [↑wo,none] H:=by
 obtain⟨T,s,A,M,lb,lw,w,s0,j,rfl,ok,⟨ph,lt⟩,lo,q⟩:=q;obtain⟨dw,ow⟩:=j.jb.ow;obtain⟨ds,os⟩:=j.js.os;unfold Zfq;apply aL ow Tx.cW Tx.Ve bu ?_;apply⟨A.sw,X.S,ds,_,rfl,os,Tx.cS,Tx.n2,by show 11<1000;decide,?_⟩;rw[lq];obtain⟨st1,j1⟩:=j.sweep w s0 (dx:=ds) { M.sw with phase:="rest" } rfl;generalize upd H A.sw _=H1 at st1 j1 ⊢;obtain⟨ds1,os1⟩:=j1.js.os;apply aL os1 Tx.cS Tx.n5 uo ?_;apply aL os1 Tx.cS Tx.n8 Bc ?_;apply aL os1 Tx.cS Tx.n9 rZ ?_;apply aL os1 Tx.cS Tx.n10 xP ?_;apply⟨bL ζ,λl nl=>⟨bL ζ,λa na=>?_⟩⟩;have s2:=aK nl (.lst [.int M.sw.walks,.int M.sw.looks,.int M.sw.passes]);have s3:=aK na (.tup [.str "end",.int M.sw.turn,.ref l]);have s23:=s2.trans s3;exact q _ _ (.fin ph lt) _ T A a (st1.trans (cY.same st1.wt s23)) (j1.same s23) rfl ⟨l,⟨cY.free st1 nl,(rY st1.wt s0 nl).2,(rY st1.wt s0 (s2.free na)).2⟩,ao,s3 _ _ ao⟩ λz=>absurd z (show ¬ ("rest":Str)="lost" by decide)
theorem Ox{wo:AI}(Tx:rT K X)(q:Ea X (W0 "give") wo H Q):sS K (bZ X pEnd) (bZ X Zi1) ξ [↑wo] H:=by
 obtain⟨T,s,A,M,lb,lw,w,s0,j,rfl,ok,ph,lo,q⟩:=q;obtain⟨dw,ow⟩:=j.jb.ow;obtain⟨ds,os⟩:=j.js.os;unfold sS;apply aL ow Tx.cW Tx.Ve bu ?_;apply aL os Tx.cS Tx.n6 HX ?_;apply aL ow Tx.cW Tx.Ve bu ?_;apply aL os Tx.cS Tx.n7 Qj ?_;apply Ai (λz=>?_) (λz=>?_)
 ·apply⟨_,rfl,T,s,A,M,lb,lw,w,s0,j,rfl,ok,⟨ph,z⟩,lo,q⟩
 ·apply⟨_,rfl,T,s,A,M,lb,lw,w,s0,j,rfl,ok,⟨ph,z⟩,lo,q⟩
theorem Ow{wo:AI}(Tx:rT K X)(q:Ea X (W0 "walk") wo H Q):sO K (bZ X Zi2) (bZ X Zi0) ξ [↑wo] H:=by
 obtain⟨T,s,A,M,lb,lw,w,s0,j,rfl,ok,ph,lo,q⟩:=q;obtain⟨dw,ow⟩:=j.jb.ow;obtain⟨ds,os⟩:=j.js.os;unfold sO;apply aL ow Tx.cW Tx.Ve bu ?_;apply aL os Tx.cS Tx.n3 uq ?_;refine Zv2 (bO.of j.js.og) ?_;cases hg:M.sw.grey with
 | nil=>
  refine Z8 ?_;apply⟨_,rfl,T,s,A,M,lb,lw,w,s0,j,rfl,ok,⟨ph,hg⟩,lo,q⟩
 | cons x g=>
  refine Zgl ?_;apply⟨_,rfl,T,s,A,M,lb,lw,w,s0,j,rfl,ok,⟨ph,by rw[hg];simp⟩,lo,q⟩
theorem HY{wo:AI}(Tx:rT K X)(q:Ea X (W0 "lost") wo H Q):nD K (pG K) ξ [↑wo] H:=by
 obtain⟨T,s,A,M,lb,lw,w,s0,j,rfl,ok,ph,lo,q⟩:=q;obtain⟨dw,ow⟩:=j.jb.ow;obtain⟨ds,os⟩:=j.js.os;obtain⟨la,wl,e1,t1,o1,t2,o2⟩:=lo ph;rw[e1]at os;unfold nD;apply aL ow Tx.cW Tx.Ve bu ?_;apply aL os Tx.cS Tx.n11 Qk ?_;apply⟨la,rfl,"lost",lb,wl,lw,o1,o2,λa l H1 s1 na nl oa ol=>?_⟩;exact q _ _ (.again ph) _ T A a (cY.same w s1) (j.same s1) rfl ⟨l,⟨nl,(rY w s0 nl).2,(rY w s0 na).2⟩,oa,ol⟩ λ_=>⟨lb,rfl,la,wl,e1,t1,s1 _ _ o1,t2,s1 _ _ o2,(λx y l z=>by rw[oa]at z;cases z;exact aD o2 nl),λz=>absurd ph z⟩
theorem Zp5{wo f1 f2 f3 f4:AI}(Tx:rT K X)(q:Ea X Y8 wo H Q):YM K f1 f2 f3 f4 (bZ X (W0 "rest")) (bZ X (W0 "give")) (bZ X (W0 "walk")) (bZ X (W0 "lost")) ξ [↑wo,none] H:=by
 obtain⟨T,s,A,M,lb,lw,w,s0,j,rfl,ok,_,lo,q⟩:=q;obtain⟨dw,ow⟩:=j.jb.ow;obtain⟨ds,os⟩:=j.js.os;unfold YM;apply aL ow Tx.cW Tx.Ve bu ?_;apply aL os Tx.cS Tx.n2 jF ?_;rcases ok.ph with ph | ph | ph | ph
 ·rw[ph];refine⟨_,f1,rfl,rfl,?_⟩;apply jQ (bZ X (W0 "rest")) rfl ζ ?_;apply⟨_,rfl,T,s,A,M,lb,lw,w,s0,j,rfl,ok,ph,lo,q⟩
 ·rw[ph];refine⟨_,f3,rfl,rfl,?_⟩;apply jQ (bZ X (W0 "walk")) rfl ζ ?_;apply⟨_,rfl,T,s,A,M,lb,lw,w,s0,j,rfl,ok,ph,lo,q⟩
 ·rw[ph];refine⟨_,f2,rfl,rfl,?_⟩;apply jQ (bZ X (W0 "give")) rfl ζ ?_;apply⟨_,rfl,T,s,A,M,lb,lw,w,s0,j,rfl,ok,ph,lo,q⟩
 ·rw[ph];refine⟨_,f4,rfl,rfl,?_⟩;apply jQ (bZ X (W0 "lost")) rfl ζ ?_;apply⟨_,rfl,T,s,A,M,lb,lw,w,s0,j,rfl,ok,ph,lo,q⟩
end
section
variable {K:aG}{X:Cs}{H:Hp}{Q:VK}{E:XK}{n:ν}{bk ct:ν}
theorem Qn{A:Wa}{w:Int}{σ:St}{te:TE}{q:Bool->Hp->Prop}(ol:∃dx,(w=0/\H A.lk=some (.ins X.F dx []))\/(w=1/\H A.lk=some (.ins X.E dx []))\/(w=2/\H A.lk=some (.ins X.L dx [])))(hte:∀Q':VK,Q' (.ref A.lk) H->te σ H Q')(h:q (decide (w≠2)) H):
  tB (G.Kv (iK X.F "stays" (vo (.bl true)) [] E0 te aH) (G.Kv (iK X.E "stays" (vo (.bl true)) [] E0 te aH) (iK X.L "stays" (vo (.bl false)) [] E0 te aH))) σ H q:=by
 refine Zvt ?_;obtain⟨dl,⟨ew,o⟩ | ⟨ew,o⟩ | ⟨ew,o⟩⟩:=ol
 ·rw[show decide (w≠2)=true from decide_eq_true δ]at h;refine Xd ?_;left;refine hte _ ?_;refine⟨A.lk,dl,_,rfl,o,rfl,?_⟩;left;exact⟨_,rfl,i_B h⟩
 ·rw[show decide (w≠2)=true from decide_eq_true δ]at h;refine JR (Xd ?_);left;refine hte _ ?_;refine⟨A.lk,dl,_,rfl,o,rfl,?_⟩;left;exact⟨_,rfl,i_B h⟩
 ·rw[show decide (w≠2)=false from decide_eq_false δ]at h;refine JR (JR ?_);left;refine hte _ ?_;refine⟨A.lk,dl,_,rfl,o,rfl,?_⟩;left;exact⟨_,rfl,i_B h⟩
theorem Zjz{T:Tg}{s:Nat}{A:Wa}{M:Wm}{lb:Int}{lw:AE}(Tx:rT K X)(w:WT H T)(s0:s≠0)(j:WJ X H T s A M)(ok:Zay M)(ph:M.sw.phase="walk")(gr:M.sw.grey=[])
  (q:∀e M',nu lb lw M e M'->∀H' T' A' a,cY s H H' T T'->WJ X H' T' s A' M'->A'.wo=A.wo->EvN H H' T' s a e->(M'.sw.phase="lost"->∃b,e.thing=some b/\Zow H H' T' (M.sw.phase≠"lost") M' b e.notes a)->Q (.ref a) H'):
  lO K X.E X.F X.L (vo (.bl false)) (vo (.bl true)) (bZ X Zjq) (lG X) ξ [↑A.wo,↑A.sw,↑A.lk,some (.int (bY M)),none] H:=by
 unfold lO;apply⟨_,_,rfl,T,s,A,M,w,s0,j,rfl,ok.hl,λ_=>by rw[gr];exact Nat.zero_le _,λH1 T1 l st1 j1 g1 nl=>?_⟩;have nt:=LC (bY M) M.hands 0 M;have ww:=nt.ww;have ol:=j1.jb.ol;rw[ww]at ol;have Zws:DR M->bZ X Zjq [.ref A.wo] H1 Q E0:=λcd=>by
  have e:(fG (bY M) M.hands 0 M).2=M:=by
   rcases cd with z | ⟨_,z⟩
   ·rw[z,Zck]
   ·exact Zo _ z
  rw[e]at j1;refine⟨_,rfl,T1,s,A,M,lb,lw,st1.wt,s0,j1,rfl,ok,⟨ph,gr,cd⟩,λz=>absurd (ph.symm.trans z) ε,λe' M' r H' T' A' a st' j' aw' ev' lo'=>?_⟩;obtain⟨l',nl',o1,o2⟩:=ev';exact q e' M' r H' T' A' a (st1.trans st') j' aw' ⟨l',⟨cY.free st1 nl'.1,nl'.2⟩,o1,o2⟩ λz=>let ⟨b,h0,a0,wl,h1,h2,h3,h4,h5,h6,h7⟩:=lo' z;⟨b,h0,a0,wl,h1,h2,h3,h4,h5,h6,λf=>cY.free st1 (h7 f)⟩
 have Od:¬ DR M->∀(lo:Int),lo=(if M.w=2 then(fG (bY M) M.hands 0 M).2.sw.looked else Builtin.bitOr (fG (bY M) M.hands 0 M).2.sw.looked (bY M))->∀H2,cY s H1 H2 T1 T1->WJ X H2 T1 s A { (fG (bY M) M.hands 0 M).2 with sw:={ (fG (bY M) M.hands 0 M).2.sw with looks:=(fG (bY M) M.hands 0 M).2.sw.looks+1,looked:=lo } }->H2 l=some (.lst ((fG (bY M) M.hands 0 M).1.map V.int))->∀a,H2 a=none->Q (.ref a) (upd H2 a (.tup [.str "look",.int (bY M),.ref l])):=λnc lo elo H2 st2 j2 g2 a na=>by
  have s3:=aK na (.tup [.str "look",.int (bY M),.ref l]);subst elo;refine q _ _ (.look _ ph gr nc rfl) _ T1 A a (st1.trans (st2.trans (cY.same st2.wt s3))) (j2.same s3) rfl ⟨l,⟨nl.1,nl.2,(rY st2.wt s0 na).2⟩,ao,s3 _ _ g2⟩ λz=>?_;have:=(uL (bY M) 100 M.hands 0 M ok.hl).1;have z:(fG (bY M) M.hands 0 M).2.sw.phase="lost":=z;rw[this]at z;exact absurd (ph.symm.trans z) ε
 apply Ai (λhz=>?_) (λhz=>?_)
 ·apply Zws (.inl hz)
 ·refine Zrr ?_;refine Zvu ?_;refine Qn ol (λQ' h=>by left;exact h) ?_
  by_cases w2:M.w=2
  ·rw[show decide (M.w≠2)=false from decide_eq_false δ];refine Z8 ?_;refine Zrq ?_;left;refine Zv2 (bO.of g1) ?_;cases hn:(fG (bY M) M.hands 0 M).1 with
   | nil=>
    refine Zgl ?_;apply Zws (.inr ⟨w2,hn⟩)
   | cons b bs=>
    have nc:¬ DR M:=λz=>by
     rcases z with z | ⟨_,z⟩
     ·exact hz z
     ·rw[hn]at z;cases z
    have Od:=Od nc _ rfl;rw[if_pos w2]at Od;obtain⟨ds1,os1⟩:=j1.js.os;refine Z8 ?_;apply aL os1 Tx.cS Tx.n9 rZ ?_;apply⟨A.sw,X.S,ds1,_,rfl,os1,Tx.cS,Tx.n9,by show 11<1000;decide,?_⟩;rw[pM];obtain⟨st2,j2⟩:=j1.sweep st1.wt s0 (dx:=ds1) { (fG (bY M) M.hands 0 M).2.sw with looks:=(fG (bY M) M.hands 0 M).2.sw.looks+1 } rfl;have g2:upd H1 A.sw (.ins X.S ds1 (bT (fG (bY M) M.hands 0 M).2.sw.sense (fG (bY M) M.hands 0 M).2.sw.phase A.gr (fG (bY M) M.hands 0 M).2.sw.looked (fG (bY M) M.hands 0 M).2.sw.turn (fG (bY M) M.hands 0 M).2.sw.at' (fG (bY M) M.hands 0 M).2.sw.stop (fG (bY M) M.hands 0 M).2.sw.walks ((fG (bY M) M.hands 0 M).2.sw.looks+1) (fG (bY M) M.hands 0 M).2.sw.passes (fG (bY M) M.hands 0 M).2.sw.loss)) l=some (.lst ((fG (bY M) M.hands 0 M).1.map V.int)):=(aB (nY g1 os1 (λz=>by cases z))).trans g1;generalize upd H1 A.sw _=H2 at st2 j2 g2 ⊢;have ol2:=j2.jb.ol;have ww2:({ (fG (bY M) M.hands 0 M).2 with sw:={ (fG (bY M) M.hands 0 M).2.sw with looks:=(fG (bY M) M.hands 0 M).2.sw.looks+1 } }:Wm).w=M.w:=ww;rw[ww2]at ol2;refine Gj ?_;refine Zk6 ?_;refine Qn ol2 (λQ' h=>by left;exact h) ?_;rw[show decide (M.w≠2)=false from decide_eq_false δ];apply⟨bL ζ,λa na=>Od H2 st2 j2 g2 a na⟩
  ·rw[show decide (M.w≠2)=true from decide_eq_true δ];have nc:¬ DR M:=λz=>by
    rcases z with z | ⟨z,_⟩
    ·exact hz z
    ·exact w2 z
   have Od:=Od nc _ rfl;rw[if_neg w2]at Od;obtain⟨ds1,os1⟩:=j1.js.os;apply aL os1 Tx.cS Tx.n9 rZ ?_;apply⟨A.sw,X.S,ds1,_,rfl,os1,Tx.cS,Tx.n9,by show 11<1000;decide,?_⟩;rw[pM];obtain⟨ZD5,j1b⟩:=j1.sweep st1.wt s0 (dx:=ds1) { (fG (bY M) M.hands 0 M).2.sw with looks:=(fG (bY M) M.hands 0 M).2.sw.looks+1 } rfl;have ol2:=j1b.jb.ol;have ww2:({ (fG (bY M) M.hands 0 M).2 with sw:={ (fG (bY M) M.hands 0 M).2.sw with looks:=(fG (bY M) M.hands 0 M).2.sw.looks+1 } }:Wm).w=M.w:=ww;rw[ww2]at ol2;refine Gj ?_;refine Zk6 ?_;refine Qn ol2 (λQ' h=>by left;exact h) ?_;rw[show decide (M.w≠2)=true from decide_eq_true δ];apply aL ao Tx.cS Tx.n4 gk ?_;apply⟨A.sw,X.S,ds1,_,rfl,ao,Tx.cS,Tx.n4,by show 11<1000;decide,?_⟩;rw[vL,dg];obtain⟨st2,j2⟩:=j1.sweep st1.wt s0 (dx:=ds1) { (fG (bY M) M.hands 0 M).2.sw with looks:=(fG (bY M) M.hands 0 M).2.sw.looks+1,looked:=Builtin.bitOr (fG (bY M) M.hands 0 M).2.sw.looked (bY M) } rfl;have g2:upd H1 A.sw (.ins X.S ds1 (bT (fG (bY M) M.hands 0 M).2.sw.sense (fG (bY M) M.hands 0 M).2.sw.phase A.gr (Builtin.bitOr (fG (bY M) M.hands 0 M).2.sw.looked (bY M)) (fG (bY M) M.hands 0 M).2.sw.turn (fG (bY M) M.hands 0 M).2.sw.at' (fG (bY M) M.hands 0 M).2.sw.stop (fG (bY M) M.hands 0 M).2.sw.walks ((fG (bY M) M.hands 0 M).2.sw.looks+1) (fG (bY M) M.hands 0 M).2.sw.passes (fG (bY M) M.hands 0 M).2.sw.loss)) l=some (.lst ((fG (bY M) M.hands 0 M).1.map V.int)):=(aB (nY g1 os1 (λz=>by cases z))).trans g1;generalize upd H1 A.sw _=H2 at st2 j2 g2 ⊢;apply⟨bL ζ,λa na=>Od H2 st2 j2 g2 a na⟩
theorem RB{wo:AI}(Tx:rT K X)(q:Ea X Zi2 wo H Q):uH K X.E X.F X.L (ig 1) (ig 2) (vo (.bl false)) (ig 0) (vo (.bl true)) (bZ X Zjq) (lG X) ξ [↑wo,none,none,none,none] H:=by
 obtain⟨T,s,A,M,lb,lw,w,s0,j,rfl,ok,⟨ph,gr⟩,lo,q⟩:=q;obtain⟨dw,ow⟩:=j.jb.ow;obtain⟨ds,os⟩:=j.js.os;obtain⟨dk,ok'⟩:=j.jb.ok;have on:=j.jb.on;have lh:=j.jd.lh;have l5:=j.jd.l5;have Zgd:((A.hs.map λp=>V.ref p.1).length:Int)=(M.hands.length:Int):=by rw[bx,lh]
 have tail:=Zjz (n:=n) (bk:=bk) (ct:=ct) Tx w s0 j ok ph gr q;obtain⟨dl,ol⟩:=j.jb.ol;unfold uH;apply aL ow Tx.cW Tx.Ve bu ?_;apply aL ow Tx.cW Tx.nWk iJ ?_;refine aL ok' Tx.cK Tx.nKl lE ?_;refine Zw2 ?_;refine Gj ?_;left;rcases ol with ⟨ew,o⟩ | ⟨ew,o⟩ | ⟨ew,o⟩
 ·have eb:bY M=Oa 0 M.sw.looked M.hands.length:=by unfold bY;rw[ew];rfl
  refine Xd ?_;left;refine⟨A.lk,dl,_,rfl,o,rfl,?_⟩;left;refine aL os Tx.cS Tx.n4 gk ?_;left;refine aL ow Tx.cW Tx.nWd dO ?_;left;refine fU (bO.of on) ?_;rw[Zgd];left;refine⟨A.lk,_,_,rfl,δ,δ,?_⟩;rw[Int.toNat_natCast,<- eb];left;exact tail
 ·have eb:bY M=Oa 1 M.sw.looked M.hands.length:=by unfold bY;rw[ew];rfl
  refine JR (Xd ?_);left;refine⟨A.lk,dl,_,rfl,o,rfl,?_⟩;left;refine aL os Tx.cS Tx.n4 gk ?_;left;refine aL ow Tx.cW Tx.nWd dO ?_;left;refine fU (bO.of on) ?_;rw[Zgd];left;refine⟨A.lk,_,_,rfl,δ,δ,?_⟩;rw[Int.toNat_natCast,<- eb];left;exact tail
 ·have eb:bY M=Oa 2 M.sw.looked M.hands.length:=by unfold bY;rw[ew];rfl
  refine JR (JR ?_);left;refine⟨A.lk,dl,_,rfl,o,rfl,?_⟩;left;refine aL os Tx.cS Tx.n4 gk ?_;left;refine aL ow Tx.cW Tx.nWd dO ?_;left;refine fU (bO.of on) ?_;rw[Zgd];left;refine⟨A.lk,_,_,rfl,δ,δ,?_⟩;rw[Int.toNat_natCast,<- eb];left;exact tail
end
abbrev En:=List (Str×Int)
structure HsB(hs:En):Prop where
 n1:1<=hs.length
 n5:hs.length<=5
 sb:∀m∈hs,3<=m.2/\m.2<=9
def Vc(hs:En)(h s:Nat):Prop:=∃m,hs[h]? =some m/\(s:Int)<m.2
def okR(hs:En):rR->Prop
 | .make h s many bulk=>Vc hs h s/\0<=many/\many<=8/\0<=bulk
 | .get h s t _=>Vc hs h s/\Vc hs h t
 | .put h t _ s=>Vc hs h t/\Vc hs h s
 | .copy h s t=>Vc hs h s/\Vc hs h t
 | .drop h s=>Vc hs h s
 | .give h s g t=>Vc hs h s/\Vc hs g t
 | .write h t _=>Vc hs h t
 | .read h t=>Vc hs h t
 | .name h t _=>Vc hs h t
 | .seek h s _=>Vc hs h s
def Zuy(M:Wm):Prop:=M.sw.phase="walk"->M.sw.grey.Nodup/\∀x∈M.sw.grey,∃c,cellAt M x=some c/\c.tone=M.sw.sense
structure KW(M:Wm)(hs:En)(k:Nat):Prop where
 hl:M.hands.length=hs.length
 hn:∀(i:Nat) m n,M.hands[i]? =some m->hs[i]? =some n->m.2.length=n.2.toNat
 cl:M.cells.length<=k
 nl:M.names.length<=k
 fl:∀c,some c∈M.cells->c.fl.length<=8
 gr:Zuy M
 ph:M.sw.phase="rest"\/M.sw.phase="walk"\/M.sw.phase="give"\/M.sw.phase="lost"
 a0:0<=M.sw.at'
 tl:0<=M.tells/\M.tells<4
section
variable {M:Wm}{hs:En}{k:Nat}
theorem Ro:∀(n:Nat) (l:AE),l.Nodup->(∀x∈l,0<=x/\x<n)->l.length<=n
 | 0,l,_,h=>by
  cases l with
  | nil=>exact Nat.le_refl _
  | cons x l=>have:=h x ζ;omega
 | n+1,l,nd,h=>by
  have h1:(l.erase (n:Int)).length<=n:=Ro n _ (nd.erase _) λx hx=>by
   have h2:=h x (List.mem_of_mem_erase hx);have h3:x≠(n:Int):=((nd.mem_erase_iff).mp hx).1
   push_cast at h2
   omega
  have h4:=List.length_erase (a:=(n:Int)) (l:=l);split at h4<;>omega
theorem Xv{x:Int}{c:Ce}(h:cellAt M x=some c):0<=x/\x<M.cells.length:=by
 obtain⟨h0,h1⟩:=eX.mp h;have:=(cZ h1).1;omega
theorem KW.ok(p:KW M hs k)(hb:HsB hs)(hk:k<=900):Zay M:=by
 have hcl:=p.cl;have hnl:=p.nl;refine⟨δ,λm hm=>?_,λc hc=>by have:=p.fl c hc;omega,δ,λph=>?_,λph x hx=>?_,p.ph,p.a0⟩
 ·obtain⟨i,hi,e⟩:=List.getElem_of_mem hm;have hi2:i<hs.length:=by rw[<- p.hl];exact hi
  have h1:=p.hn i m _ (by rw[bN hi,e]) (bN hi2);have h2:=hb.sb _ (List.getElem_mem hi2);omega
 ·obtain⟨nd,h1⟩:=p.gr ph;refine Nat.le_trans (Ro M.cells.length _ nd λx hx=>?_) δ;obtain⟨c,hc,_⟩:=h1 x hx;exact Xv hc
 ·obtain⟨c,hc,_⟩:=(p.gr ph).2 x hx;exact⟨c,hc⟩
theorem KW.Bq(p:KW M hs k){h s:Nat}(o:Vc hs h s):Bq M h s:=by
 obtain⟨m,hm,hlt⟩:=o;have hh:h<M.hands.length:=by rw[p.hl];exact(cZ hm).1
 refine⟨_,bN hh,?_⟩;have:=p.hn h _ m (bN hh) hm;omega
theorem KW.okD(p:KW M hs k){d:rR}(o:okR hs d):okD M d:=by
 cases d with
 | make h s many bulk=>exact⟨p.Bq o.1,o.2.1,by have:=o.2.2.1;omega,o.2.2.2⟩
 | get h s t f=>exact⟨p.Bq o.1,p.Bq o.2⟩
 | put h t f s=>exact⟨p.Bq o.1,p.Bq o.2⟩
 | copy h s t=>exact⟨p.Bq o.1,p.Bq o.2⟩
 | drop h s=>exact p.Bq o
 | give h s g t=>exact⟨p.Bq o.1,p.Bq o.2⟩
 | write h t l=>exact p.Bq o
 | read h t=>exact p.Bq o
 | name h t z=>exact p.Bq o
 | seek h s z=>exact p.Bq o
theorem KW.mono{k':Nat}(p:KW M hs k)(h:k<=k'):KW M hs k':=by
 obtain⟨a1,a2,a3,a4,a5,a6,a7,a8,a9⟩:=p;exact⟨a1,a2,δ,δ,a5,a6,a7,a8,a9⟩
theorem KW.slot(p:KW M hs k)(h s:Nat)(x:AA):KW (setSlot M h s x) hs k:=by
 obtain⟨a1,a2,a3,a4,a5,a6,a7,a8,a9⟩:=p;refine⟨by show(M.hands.modify h _).length=_;rw[List.length_modify];exact a1,λi m n e1 e2=>?_,a3,a4,a5,a6,a7,a8,a9⟩;have e1:(M.hands.modify h λm=>(m.1,m.2.set s x))[i]? =some m:=e1;rw[List.getElem?_modify]at e1;cases em:M.hands[i]? with
 | none=>rw[em]at e1;cases e1
 | some m0=>
  rw[em]at e1
  by_cases z:h=i
  ·have e3:(m0.1,m0.2.set s x)=m:=by simpa[z]using e1
   rw[<- e3];show(m0.2.set s x).length=_;rw[List.length_set];exact a2 i m0 n em e2
  ·have e3:m0=m:=by simpa[z]using e1
   rw[<- e3];exact a2 i m0 n em e2
theorem DX{i:Int}{c c':Ce}(h:cellAt M i=some c)(x:Int):cellAt (setCell M i c') x=if x=i then some c' else cellAt M x:=by
 obtain⟨h0,h1⟩:=eX.mp h;unfold cellAt;show(if 0<=x then((M.cells.set i.toNat (some c'))[x.toNat]?).join else none)=_
 by_cases e:x=i
 ·subst e;rw[if_pos h0,if_pos rfl,List.getElem?_set_self (cZ h1).1];rfl
 ·rw[if_neg e]
  by_cases x0:0<=x
  ·rw[if_pos x0,if_pos x0,List.getElem?_set_ne δ]
  ·rw[if_neg x0,if_neg x0]
theorem KW.cell(p:KW M hs k){i:Int}{c c':Ce}(h:cellAt M i=some c)(ht:c'.tone=c.tone)(hf:c'.fl.length=c.fl.length):KW (setCell M i c') hs k:=by
 have h8:=p.fl c (An h);obtain⟨a1,a2,a3,a4,a5,a6,a7,a8,a9⟩:=p;refine⟨a1,a2,by show(M.cells.set _ _).length<=_;rw[List.length_set];exact a3,a4,λd hd=>?_,λph=>?_,a7,a8,a9⟩
 ·rcases List.mem_or_eq_of_mem_set (show some d∈M.cells.set _ _ from hd)with hd | hd
  ·exact a5 d hd
  ·cases hd;omega
 ·obtain⟨nd,h1⟩:=a6 ph;refine⟨nd,λx hx=>?_⟩;obtain⟨d,hd,td⟩:=h1 x hx;rw[DX h]
  by_cases e:x=i
  ·subst e;rw[h]at hd;cases hd;exact⟨c',by rw[if_pos rfl],by rw[ht];exact td⟩
  ·exact⟨d,by rw[if_neg e];exact hd,td⟩
theorem KW.note(p:KW M hs k)(x:AA):KW (cG M x).2 hs k:=by
 cases x with
 | none=>exact p
 | some i=>
  unfold cG;dsimp only;cases hc:cellAt M i with
  | none=>exact p
  | some c=>
   dsimp only;split
   ·rename_i z
    obtain⟨z1,z2⟩:=z;have h8:=p.fl c (An hc);obtain⟨a1,a2,a3,a4,a5,a6,a7,a8,a9⟩:=p;obtain⟨nd,h1⟩:=a6 z1;have hni:i∉M.sw.grey:=λhi=>by
     obtain⟨d,hd,td⟩:=h1 i hi;rw[hc]at hd;cases hd;exact z2 td
    refine⟨a1,a2,by show(M.cells.set _ _).length<=_;rw[List.length_set];exact a3,a4,λd hd=>?_,λ_=>⟨?_,λx hx=>?_⟩,a7,a8,a9⟩
    ·rcases List.mem_or_eq_of_mem_set (show some d∈M.cells.set _ _ from hd)with hd | hd
     ·exact a5 d hd
     ·cases hd;exact h8
    ·show(M.sw.grey++[i]).Nodup;rw[List.nodup_append];exact⟨nd,ζ,λa ha b hb e=>hni (by rw[List.mem_singleton.mp hb]at e;rw[<- e];exact ha)⟩
    ·have e:=DX (c':={ c with tone:=M.sw.sense }) hc x;show ∃d,cellAt (setCell M i { c with tone:=M.sw.sense }) x=some d/\d.tone=M.sw.sense;rw[e]
     by_cases ex:x=i
     ·exact⟨_,by rw[if_pos ex],rfl⟩
     ·rcases List.mem_append.mp (show x∈M.sw.grey++[i]from hx)with hx | hx
      ·obtain⟨d,hd,td⟩:=h1 x hx;exact⟨d,by rw[if_neg ex];exact hd,td⟩
      ·exact absurd (List.mem_singleton.mp hx) ex
   ·exact p
theorem KW.notes:∀{l:Au}{M:Wm},KW M hs k->KW (bC M l).2 hs k
 | [],_,p=>p
 | x::l,_,p=>KW.notes (l:=l) (p.note x)
theorem KW.nh(bits:Int):∀{l:List (Str×Au)}{j:Nat}{M:Wm},KW M hs k->KW (fG bits l j M).2 hs k
 | [],_,_,p=>p
 | m::l,j,M,p=>by
  unfold fG;split
  ·exact KW.nh bits (l:=l) (KW.notes p)
  ·exact KW.nh bits (l:=l) p
theorem KW.put(p:KW M hs k){u b:Int}{c:Ce}(hf:c.fl.length<=8):KW { M with used:=u,born:=b,cells:=qN M.cells c } hs (k+1):=by
 obtain⟨a1,a2,a3,a4,a5,a6,a7,a8,a9⟩:=p;refine⟨a1,a2,?_,by show M.names.length<=_;omega,λd hd=>?_,λph=>?_,a7,a8,a9⟩
 ·have:=Zpj M.cells c;show(qN M.cells c).length<=_;omega
 ·rcases Zmy hd with hd | hd
  ·exact a5 d hd
  ·cases hd;exact hf
 ·obtain⟨nd,h1⟩:=a6 ph;refine⟨nd,λx hx=>?_⟩;obtain⟨d,hd,td⟩:=h1 x hx;exact⟨d,Zh9 hd,td⟩
theorem Zjk{l:List (Str×(Int×Int))}{z:Str}{v:Int×Int}:(vN l z v).length<=l.length+1:=by
 unfold vN;split
 ·rw[bx];omega
 ·rw[List.length_append];simp
theorem KW.name(p:KW M hs k){z:Str}{v:Int×Int}:KW { M with names:=vN M.names z v } hs (k+1):=by
 obtain⟨a1,a2,a3,a4,a5,a6,a7,a8,a9⟩:=p;refine⟨a1,a2,by show M.cells.length<=_;omega,?_,a5,a6,a7,a8,a9⟩;have:=Zjk (l:=M.names) (z:=z) (v:=v);show(vN M.names z v).length<=_;omega
theorem KW.deed(p:KW M hs k){d:rR}{e:Ev}{M':Wm}(o:okR hs d)(h:rO M d=.ok (e,M')):KW M' hs (k+1):=by
 have le:k<=k+1:=δ
 cases d with
 | make hh s many bulk=>
  simp only[rO]at h;split at h
  ·right;refine KW.slot (KW.put p ?_) _ _ _;show(List.replicate many.toNat none).length<=8;rw[List.length_replicate];have:=o.2.2.1;omega
  ·cases h
 | get hh s t f=>
  simp only[rO]at h;split at h
  ·cases h
  ·split at h
   ·cases h
   ·split at h
    ·cases h
    ·right;exact(p.slot _ _ _).mono le
 | put hh t f s=>
  simp only[rO]at h;split at h
  ·cases h
  ·split at h
   ·cases h
   ·rename_i c hc
    split at h
    ·cases h
    ·right;exact(KW.notes (p.cell (c':={ c with fl:=c.fl.set f (aX M hh s) }) hc rfl (by show(List.set _ _ _).length=_;rw[List.length_set]))).mono le
 | copy hh s t=>
  right;exact(p.slot _ _ _).mono le
 | drop hh s=>
  right;exact(p.slot _ _ _).mono le
 | give hh s g t=>
  right;exact(KW.notes (p.slot _ _ _)).mono le
 | write hh t l=>
  simp only[rO]at h;split at h
  ·cases h
  ·split at h
   ·cases h
   ·rename_i c hc
    right;exact(p.cell (c':={ c with load:=l }) hc rfl rfl).mono le
 | read hh t=>
  simp only[rO]at h;split at h
  ·cases h
  ·split at h
   ·cases h
   ·right;exact p.mono le
 | name hh t z=>
  simp only[rO]at h;split at h
  ·cases h
  ·split at h
   ·cases h
   ·right;exact p.name
 | seek hh s z=>
  simp only[rO]at h;split at h
  ·cases h
  ·split at h
   ·right;exact(p.slot _ _ _).mono le
   ·right;exact(KW.notes (p.slot _ _ _)).mono le
theorem KW.step(p:KW M hs k){lb:Int}{lw:AE}{e:Ev}{M':Wm}(h:nu lb lw M e M'):KW M' hs k:=by
 cases h with
 | begin ph=>
  refine KW.nh _ ?_;obtain⟨a1,a2,a3,a4,a5,a6,a7,a8,a9⟩:=p;exact⟨a1,a2,a3,a4,a5,λ_=>⟨List.nodup_nil,λx hx=>(nomatch hx)⟩,.inr (.inl rfl),a8,a9⟩
 | walk x g c ph hg hc=>
  refine KW.notes ?_;obtain⟨a1,a2,a3,a4,a5,a6,a7,a8,a9⟩:=p;refine⟨a1,a2,a3,a4,a5,λ_=>?_,a7,a8,a9⟩;obtain⟨nd,h1⟩:=a6 ph;rw[hg]at nd h1;exact⟨(List.nodup_cons.mp nd).2,λy hy=>h1 y (List.mem_cons_of_mem _ hy)⟩
 | look N ph hg nc hN=>
  have p':KW N hs k:=by rw[hN];exact KW.nh _ p
  obtain⟨a1,a2,a3,a4,a5,a6,a7,a8,a9⟩:=p';exact⟨a1,a2,a3,a4,a5,a6,a7,a8,a9⟩
 | cut q qs ph hg cd bf hno=>
  obtain⟨a1,a2,a3,a4,a5,a6,a7,a8,a9⟩:=p;exact⟨a1,a2,a3,a4,a5,λz=>absurd z (show ¬ ("give":Str)="walk" by decide),.inr (.inr (.inl rfl)),Int.le_refl _,a9⟩
 | lost q qs i x c v ph hg cd bf hx hno hc ht=>
  obtain⟨a1,a2,a3,a4,a5,a6,a7,a8,a9⟩:=p;exact⟨a1,a2,a3,a4,a5,λz=>absurd z (show ¬ ("lost":Str)="walk" by decide),.inr (.inr (.inr rfl)),Int.le_refl _,a9⟩
 | pass ph lt hp=>
  obtain⟨a1,a2,a3,a4,a5,a6,a7,a8,a9⟩:=p;exact⟨a1,a2,a3,a4,a5,a6,a7,by show 0<=M.sw.at'+1;omega,a9⟩
 | back c ph lt hc ht=>
  obtain⟨a1,a2,a3,a4,a5,a6,a7,a8,a9⟩:=p;refine⟨a1,a2,by show(M.cells.set _ _).length<=_;rw[List.length_set];exact a3,a4,λd hd=>?_,λz=>absurd (ph.symm.trans z) ε,a7,by show 0<=M.sw.at'+1;omega,a9⟩;rcases List.mem_or_eq_of_mem_set (show some d∈M.cells.set _ _ from hd)with hd | hd
  ·exact a5 d hd
  ·cases hd
 | fin ph lt=>
  obtain⟨a1,a2,a3,a4,a5,a6,a7,a8,a9⟩:=p;exact⟨a1,a2,a3,a4,a5,λz=>absurd z (show ¬ ("rest":Str)="walk" by decide),.inl rfl,a8,a9⟩
 | again ph=>exact p
theorem KW.new{room:Int}{w t:Int}(h0:0<=t)(h1:t<4):KW (Ft room hs w t) hs 0:=by
 refine⟨by show(hs.map _).length=_;rw[bx],λi m n e1 e2=>?_,Nat.le_refl _,Nat.le_refl _,λc hc=>(nomatch hc),λz=>absurd z (show ¬ ("rest":Str)="walk" by decide),.inl rfl,Int.le_refl _,⟨h0,h1⟩⟩;have e1:(hs.map λm=>(m.1,List.replicate m.2.toNat (none:AA)))[i]? =some m:=e1;rw[cI,e2]at e1;cases e1;exact List.length_replicate
end
abbrev Rz:=Str×V×AE
def rfS:Rf->Str
 | .full=>"full"
 | .empty=>"empty"
 | .fZ=>"field"
 | .nW=>"name"
def UW:Except Rf (Ev×Wm)->Rz
 | .ok x=>(x.1.word,oV x.1.thing,x.1.notes)
 | .error r=>("refused",.str (rfS r),[])
def stM(M:Wm):Except Rf (Ev×Wm)->Wm
 | .ok x=>x.2
 | .error _=>M
def evz(e:Ev):Rz:=(e.word,oV e.thing,e.notes)
def fu(es:List Rz):Bool:=match es.getLast? with
 | some x=>decide (x.1=("lost":Str))
 | none=>false
theorem qt(es:List Rz)(x:Rz):fu (es++[x])=decide (x.1=("lost":Str)):=by
 unfold fu;rw[List.getLast?_concat]
inductive Om where
 | sw (n:Nat)
 | dd (d:rR)
def rV:Om->List V
 | .sw n=>[.str "sweep",.int n]
 | .dd d=>dV d
inductive SwC:Wm->Nat->List Rz->Wm->Prop
 | stop (M:Wm):SwC M 0 [] M
 | lost {M M':Wm}{n:Nat}{e:Ev}:nu 0 [] M e M'->e.word=("lost":Str)->SwC M (n+1) [evz e] M'
 | go {M N M':Wm}{n:Nat}{e:Ev}{es:List Rz}:nu 0 [] M e N->e.word≠("lost":Str)->SwC N n es M'->SwC M (n+1) (evz e::es) M'
def V3(M:Wm):Om->List Rz->Wm->Prop
 | .sw n,es,M'=>SwC M n es M'
 | .dd d,es,M'=>es=[UW (rO M d)]/\M'=stM M (rO M d)
inductive pJ:Wm->List Om->List (List Rz)->Wm->Prop
 | nil (M:Wm):pJ M [] [] M
 | lost {M M':Wm}{r:Om}{rs:List Om}{es:List Rz}:V3 M r es M'->fu es=true->pJ M (r::rs) [es] M'
 | go {M N M':Wm}{r:Om}{rs:List Om}{es:List Rz}{lg:List (List Rz)}:V3 M r es N->fu es=false->pJ N rs lg M'->pJ M (r::rs) (es::lg) M'
def Nl(M:Wm):Prop:=M.sw.phase≠("lost":Str)/\M.sw.loss=.non
section
variable {F:KB.Fd}{R:KB.Rw}
theorem wD:∀(k:Nat) {q l q' l':List (Int×AE)},KB.HJ F R q k l->KB.HJ F R q' k l'->q=q'/\l=l'
 | 0,_,_,_,_,.start,.start=>⟨rfl,rfl⟩
 | k+1,_,_,_,_,.old b e m,b'=>by
  cases b' with
  | old b2 e2 m2=>
   exact wD k b b2
  | new b2 e2 m2 f2=>
   obtain⟨rfl,rfl⟩:=wD k b b2;rw[e]at e2;cases e2;exact absurd m m2
 | k+1,_,_,_,_,.new b e m f,b'=>by
  cases b' with
  | old b2 e2 m2=>
   obtain⟨rfl,rfl⟩:=wD k b b2;rw[e]at e2;cases e2;exact absurd m2 m
  | new b2 e2 m2 f2=>
   obtain⟨rfl,rfl⟩:=wD k b b2;rw[e]at e2;cases e2;rw[f]at f2;cases f2;exact⟨rfl,rfl⟩
theorem Zr4{k:Nat}{q l:List (Int×AE)}(b:KB.HJ F R q k l):∀(j:Nat),j<=k->∃q' l',KB.HJ F R q' j l'/\(j<k->∃x,q'[j]? =some x):=by
 induction b with
 | start=>
  intro j h;obtain rfl:j=0:=δ
  exact⟨_,_,.start,λz=>absurd z δ⟩
 | @old q k l p w b e m ih=>
  intro j h
  by_cases hj:j<=k
  ·obtain⟨q',l',b',g⟩:=ih j hj;refine⟨q',l',b',λ_=>?_⟩
   by_cases z:j<k
   ·exact g z
   ·obtain rfl:j=k:=δ
    obtain⟨rfl,rfl⟩:=wD _ b b';exact⟨_,e⟩
  ·obtain rfl:j=k+1:=δ
   exact⟨_,_,.old b e m,λz=>absurd z δ⟩
 | @new q k l p w fl b e m f ih=>
  intro j h
  by_cases hj:j<=k
  ·obtain⟨q',l',b',g⟩:=ih j hj;refine⟨q',l',b',λ_=>?_⟩
   by_cases z:j<k
   ·exact g z
   ·obtain rfl:j=k:=δ
    obtain⟨rfl,rfl⟩:=wD _ b b';exact⟨_,e⟩
  ·obtain rfl:j=k+1:=δ
   exact⟨_,_,.new b e m f,λz=>absurd z δ⟩
theorem Zal{q l q' l':List (Int×AE)}(b:KB.HJ F R q q.length l)(b':KB.HJ F R q' q'.length l'):l=l':=by
 have le:∀{q l q' l':List (Int×AE)},KB.HJ F R q q.length l->KB.HJ F R q' q'.length l'->¬ q.length<q'.length:=λ{q l q' l'} b b' h=>by
  obtain⟨q2,l2,b2,g⟩:=Zr4 b' q.length δ;obtain⟨rfl,rfl⟩:=wD _ b b2;obtain⟨x,hx⟩:=g h;rw[List.getElem?_eq_none υ]at hx;cases hx
 have e:q.length=q'.length:=by
  have h1:=le b b';have h2:=le b' b;omega
 rw[e]at b;exact(wD _ b b').2
end
theorem Zr2{M M':Wm}{d:rR}{e:Ev}(h:rO M d=.ok (e,M')):∃g,M'.sw={ M.sw with grey:=g }:=by
 cases d<;>simp only[rO]at h<;>(repeat' split at h)<;>first | (cases h;done) | (cases h;exact⟨_,rfl⟩) | (cases h;exact(EY _ _).sw)
section
variable {M M' M2 N:Wm}{e e2:Ev}{a c:Int}{b d:AE}
theorem Nl.keep(n:Nl M)(h:∃g,M'.sw={ M.sw with grey:=g }):Nl M':=by
 obtain⟨g,h⟩:=h;exact⟨by rw[h];exact n.1,by rw[h];exact n.2⟩
theorem Nl.deed(n:Nl M)(d:rR):Nl (stM M (rO M d)):=by
 cases z:rO M d with
 | error r=>exact n
 | ok x=>exact n.keep (Zr2 (e:=x.1) (by rw[z];rfl))
theorem Nl.step(n:Nl M)(h:nu a b M e M'):(e.word=("lost":Str)/\M'.sw.phase=("lost":Str))\/(e.word≠("lost":Str)/\Nl M'):=by
 cases h with
 | begin ph=>
  obtain⟨g,h⟩:=(LC (jC M.w M.hands.length) M.hands 0 (vh M)).sw;exact .inr ⟨by show ¬("begin":Str)="lost";decide,by rw[h];show ¬("walk":Str)="lost";decide,by rw[h];exact n.2⟩
 | walk x g c ph hg hc=>
  obtain⟨g',h⟩:=(EY c.fl { M with sw:={ M.sw with grey:=g,walks:=M.sw.walks+1 } }).sw;exact .inr ⟨by show ¬("walk":Str)="lost";decide,by rw[h];exact n.1,by rw[h];exact n.2⟩
 | look N ph hg nc hN=>
  obtain⟨g',h⟩:=(LC (bY M) M.hands 0 M).sw;subst hN;exact .inr ⟨by show ¬("look":Str)="lost";decide,by show(fG (bY M) M.hands 0 M).2.sw.phase≠_;rw[h];exact n.1,by show(fG (bY M) M.hands 0 M).2.sw.loss=_;rw[h];exact n.2⟩
 | cut q qs ph hg cd bf hno=>exact .inr ⟨by show ¬("cut":Str)="lost";decide,by show ¬("give":Str)="lost";decide,n.2⟩
 | lost q qs i x c v ph hg cd bf hx hno hc ht=>exact .inl ⟨rfl,rfl⟩
 | pass ph lt hp=>exact .inr ⟨by show ¬("pass":Str)="lost";decide,n⟩
 | back c ph lt hc ht=>exact .inr ⟨by show ¬("back":Str)="lost";decide,n⟩
 | fin ph lt=>exact .inr ⟨by show ¬("end":Str)="lost";decide,by show ¬("rest":Str)="lost";decide,n.2⟩
 | again ph=>exact absurd ph n.1
theorem Ia(n:Nl M)(h:nu a b M e M')(h2:nu c d M e2 M2):e=e2/\(e.word≠("lost":Str)->M'=M2):=by
 have wr:∀{p q:Str},M.sw.phase=p->M.sw.phase=q->p≠q->False:=λh1 h2 h3=>h3 (h1.symm.trans h2);have rw_:¬("rest":Str)="walk":=ε
 have rg:¬("rest":Str)="give":=ε
 have wg:¬("walk":Str)="give":=ε
 cases h with
 | begin ph=>
  cases h2 with
  | begin=>exact⟨rfl,λ_=>rfl⟩
  | walk _ _ _ p2=>exact(wr ph p2 rw_).elim
  | look _ p2=>exact(wr ph p2 rw_).elim
  | cut _ _ p2=>exact(wr ph p2 rw_).elim
  | lost _ _ _ _ _ _ p2=>exact(wr ph p2 rw_).elim
  | pass p2=>exact(wr ph p2 rg).elim
  | back _ p2=>exact(wr ph p2 rg).elim
  | fin p2=>exact(wr ph p2 rg).elim
  | again p2=>exact absurd p2 n.1
 | walk x g ce ph hg hc=>
  cases h2 with
  | begin p2=>exact(wr p2 ph rw_).elim
  | walk x2 g2 ce2 p2 hg2 hc2=>
   rw[hg]at hg2;cases hg2;rw[hc]at hc2;cases hc2;exact⟨rfl,λ_=>rfl⟩
  | look _ p2 hg2=>rw[hg]at hg2;cases hg2
  | cut _ _ p2 hg2=>rw[hg]at hg2;cases hg2
  | lost _ _ _ _ _ _ p2 hg2=>rw[hg]at hg2;cases hg2
  | pass p2=>exact(wr ph p2 wg).elim
  | back _ p2=>exact(wr ph p2 wg).elim
  | fin p2=>exact(wr ph p2 wg).elim
  | again p2=>exact absurd p2 n.1
 | look N ph hg nc hN=>
  cases h2 with
  | begin p2=>exact(wr p2 ph rw_).elim
  | walk x2 g2 ce2 p2 hg2 hc2=>rw[hg]at hg2;cases hg2
  | look N2 p2 hg2 nc2 hN2=>subst hN hN2;exact⟨rfl,λ_=>rfl⟩
  | cut _ _ p2 hg2 cd=>exact absurd cd nc
  | lost _ _ _ _ _ _ p2 hg2 cd=>exact absurd cd nc
  | pass p2=>exact(wr ph p2 wg).elim
  | back _ p2=>exact(wr ph p2 wg).elim
  | fin p2=>exact(wr ph p2 wg).elim
  | again p2=>exact absurd p2 n.1
 | cut q qs ph hg cd bf hno=>
  cases h2 with
  | begin p2=>exact(wr p2 ph rw_).elim
  | walk x2 g2 ce2 p2 hg2 hc2=>rw[hg]at hg2;cases hg2
  | look N2 p2 hg2 nc2 hN2=>exact absurd cd nc2
  | cut=>exact⟨rfl,λ_=>rfl⟩
  | lost q2 qs2 i x ce v p2 hg2 cd2 bf2 hx hn hc ht=>
   rw[<- Zal bf bf2]at hx;exact absurd (hno x (List.mem_of_getElem? hx) ce hc) ht
  | pass p2=>exact(wr ph p2 wg).elim
  | back _ p2=>exact(wr ph p2 wg).elim
  | fin p2=>exact(wr ph p2 wg).elim
  | again p2=>exact absurd p2 n.1
 | lost q qs i x ce v ph hg cd bf hx hno hc ht=>
  cases h2 with
  | begin p2=>exact(wr p2 ph rw_).elim
  | walk x2 g2 ce2 p2 hg2 hc2=>rw[hg]at hg2;cases hg2
  | look N2 p2 hg2 nc2 hN2=>exact absurd cd nc2
  | cut q2 qs2 p2 hg2 cd2 bf2 hn2=>
   rw[Zal bf bf2]at hx;exact absurd (hn2 x (List.mem_of_getElem? hx) ce hc) ht
  | lost q2 qs2 i2 x2 ce2 v2 p2 hg2 cd2 bf2 hx2 hn2 hc2 ht2=>
   rw[<- Zal bf bf2]at hx2 hn2;have hi:i=i2:=by
    rcases Nat.lt_trichotomy i i2 with z | z | z
    ·exact absurd (hn2 i x ce z hx hc) ht
    ·exact z
    ·exact absurd (hno i2 x2 ce2 z hx2 hc2) ht2
   subst hi;rw[hx]at hx2;cases hx2;rw[hc]at hc2;cases hc2;exact⟨rfl,λz=>absurd rfl z⟩
  | pass p2=>exact(wr ph p2 wg).elim
  | back _ p2=>exact(wr ph p2 wg).elim
  | fin p2=>exact(wr ph p2 wg).elim
  | again p2=>exact absurd p2 n.1
 | pass ph lt hp=>
  cases h2 with
  | begin p2=>exact(wr p2 ph rg).elim
  | walk _ _ _ p2=>exact(wr p2 ph wg).elim
  | look _ p2=>exact(wr p2 ph wg).elim
  | cut _ _ p2=>exact(wr p2 ph wg).elim
  | lost _ _ _ _ _ _ p2=>exact(wr p2 ph wg).elim
  | pass=>exact⟨rfl,λ_=>rfl⟩
  | back ce p2 lt2 hc2 ht2=>exact absurd (hp ce hc2) ht2
  | fin p2 lt2=>exact absurd lt lt2
  | again p2=>exact absurd p2 n.1
 | back ce ph lt hc ht=>
  cases h2 with
  | begin p2=>exact(wr p2 ph rg).elim
  | walk _ _ _ p2=>exact(wr p2 ph wg).elim
  | look _ p2=>exact(wr p2 ph wg).elim
  | cut _ _ p2=>exact(wr p2 ph wg).elim
  | lost _ _ _ _ _ _ p2=>exact(wr p2 ph wg).elim
  | pass p2 lt2 hp2=>exact absurd (hp2 ce hc) ht
  | back ce2 p2 lt2 hc2 ht2=>rw[hc]at hc2;cases hc2;exact⟨rfl,λ_=>rfl⟩
  | fin p2 lt2=>exact absurd lt lt2
  | again p2=>exact absurd p2 n.1
 | fin ph lt=>
  cases h2 with
  | begin p2=>exact(wr p2 ph rg).elim
  | walk _ _ _ p2=>exact(wr p2 ph wg).elim
  | look _ p2=>exact(wr p2 ph wg).elim
  | cut _ _ p2=>exact(wr p2 ph wg).elim
  | lost _ _ _ _ _ _ p2=>exact(wr p2 ph wg).elim
  | pass p2 lt2 hp2=>exact absurd lt2 lt
  | back ce2 p2 lt2 hc2 ht2=>exact absurd lt2 lt
  | fin=>exact⟨rfl,λ_=>rfl⟩
  | again p2=>exact absurd p2 n.1
 | again ph=>exact absurd ph n.1
end
theorem Ry(x:Rz){es:List Rz}(h:es≠[]):fu (x::es)=fu es:=by
 unfold fu;rw[List.getLast?_cons_of_ne_nil h]
theorem SwC.det{M M':Wm}{n:Nat}{es:List Rz}(h:SwC M n es M'):Nl M->∀{es2 M2},SwC M n es2 M2->es=es2/\(fu es=false->M'=M2/\Nl M')/\(fu es=true->M'.sw.phase=("lost":Str))/\es.length<=n/\(n≠0->es≠[]):=by
 induction h with
 | stop M=>intro n es2 M2 h2;cases h2;exact⟨rfl,λ_=>⟨rfl,n⟩,λz=>(by cases z),Nat.le_refl _,λz=>absurd rfl z⟩
 | @lost M M' k e s l=>
  intro n es2 M2 h2;have hl:fu [evz e]=true:=decide_eq_true l;have hp:M'.sw.phase=("lost":Str):=by
   rcases n.step s with z | z
   ·exact z.2
   ·exact absurd l z.1
  cases h2 with
  | lost s2 l2=>obtain⟨rfl,_⟩:=Ia n s s2;exact⟨rfl,λz=>(by rw[hl]at z;cases z),λ_=>hp,Nat.succ_le_succ (Nat.zero_le _),λ_ z=>(by cases z)⟩
  | go s2 l2 h2=>obtain⟨rfl,_⟩:=Ia n s s2;exact absurd l l2
 | @go M N M' k e es s l h ih=>
  intro n es2 M2 h2;have nN:Nl N:=by
   rcases n.step s with z | z
   ·exact absurd z.1 l
   ·exact z.2
  cases h2 with
  | lost s2 l2=>obtain⟨rfl,_⟩:=Ia n s s2;exact absurd l2 l
  | @go _ N2 _ _ e2 es3 s2 l2 h2=>
   obtain⟨rfl,e⟩:=Ia n s s2;obtain rfl:=e l;obtain⟨rfl,i1,i2,i3,i4⟩:=ih nN h2;refine⟨rfl,λz=>?_,λz=>?_,Nat.succ_le_succ i3,λ_ z=>by cases z⟩
   ·by_cases hz:es=[]
    ·subst hz;exact i1 rfl
    ·rw[Ry _ hz]at z;exact i1 z
   ·by_cases hz:es=[]
    ·subst hz;exact absurd (of_decide_eq_true z) l
    ·rw[Ry _ hz]at z;exact i2 z
theorem IW(M:Wm)(d:rR):(UW (rO M d)).1≠("lost":Str):=by
 cases d<;>simp only[rO]<;>(repeat' split)<;>(simp only[UW];decide)
theorem V3.det{M M':Wm}{r:Om}{es:List Rz}(h:V3 M r es M')(n:Nl M){es2:List Rz}{M2:Wm}(h2:V3 M r es2 M2):es=es2/\(fu es=false->M'=M2/\Nl M')/\(fu es=true->M'.sw.phase=("lost":Str)):=by
 cases r with
 | sw k=>obtain⟨h1,h2,h3,_⟩:=SwC.det h n h2;exact⟨h1,h2,h3⟩
 | dd d=>
  obtain⟨rfl,rfl⟩:=h;obtain⟨rfl,rfl⟩:=h2;exact⟨rfl,λ_=>⟨rfl,n.deed d⟩,λz=>absurd (of_decide_eq_true z) (IW M d)⟩
theorem pJ.det{M M':Wm}{rs:List Om}{lg:List (List Rz)}(h:pJ M rs lg M'):Nl M->∀{lg2 M2},pJ M rs lg2 M2->lg=lg2:=by
 induction h with
 | nil M=>intro n lg2 M2 h2;cases h2;rfl
 | @lost M M' r rs es h l=>
  intro n lg2 M2 h2;cases h2 with
  | lost h2 l2=>obtain⟨rfl,_⟩:=h.det n h2;rfl
  | go h2 l2 _=>obtain⟨rfl,_⟩:=h.det n h2;rw[l]at l2;cases l2
 | @go M N M' r rs es lg h l t ih=>
  intro n lg2 M2 h2;cases h2 with
  | lost h2 l2=>obtain⟨rfl,_⟩:=h.det n h2;rw[l]at l2;cases l2
  | go h2 l2 t2=>
   obtain⟨rfl,e,_⟩:=h.det n h2;obtain⟨rfl,nN⟩:=e l;rw[ih nN t2]
theorem pJ.take{M M':Wm}{rs:List Om}{lg:List (List Rz)}(h:pJ M rs lg M'):∀k:Nat,∃M2,pJ M (rs.take k) (lg.take k) M2:=by
 induction h with
 | nil M=>exact λk=>⟨M,by rw[List.take_nil,List.take_nil];exact .nil M⟩
 | @lost M M' r rs es h l=>
  intro k;cases k with
  | zero=>exact⟨M,.nil M⟩
  | succ k=>exact⟨M',by rw[List.take_succ_cons,List.take_succ_cons,List.take_nil];exact .lost h l⟩
 | @go M N M' r rs es lg h l t ih=>
  intro k;cases k with
  | zero=>exact⟨M,.nil M⟩
  | succ k=>obtain⟨M2,h2⟩:=ih k;exact⟨M2,.go h l h2⟩
def HsO(H:Hp)(l:AI)(hs:En):Prop:=∃ts:AF,H l=some (.lst (ts.map V.ref))/\Al (λ(a:AI) (m:Str×Int)=>H a=some (.tup [.str m.1,.int m.2])) ts hs
theorem HsO.same{H H':Hp}{l:AI}{hs:En}(h:HsO H l hs)(s:aY H H'):HsO H' l hs:=by
 obtain⟨ts,h1,h2⟩:=h;exact⟨ts,s _ _ h1,h2.mono λa m z=>s _ _ z⟩
theorem HsO.at{H:Hp}{l:AI}{hs:En}(h:HsO H l hs){i:Nat}{m:Str×Int}(hm:hs[i]? =some m):∃ts:AF,∃t,H l=some (.lst (ts.map V.ref))/\ts[i]? =some t/\H t=some (.tup [.str m.1,.int m.2]):=by
 obtain⟨ts,h1,h2⟩:=h;obtain⟨t,e,z⟩:=h2.get hm;exact⟨ts,t,h1,e,z⟩
theorem Oj{α β:Type}{P:α->β->Prop}:∀{xs:List α}{ys:List β},xs.length=ys.length->(∀(i:Nat) x y,xs[i]? =some x->ys[i]? =some y->P x y)->Al P xs ys
 | [],[],_,_=>.nil
 | [],_::_,h,_=>by simp at h
 | _::_,[],h,_=>by simp at h
 | x::xs,y::ys,h,p=>.cons (p 0 x y rfl rfl) (Oj (by simpa using h) λi a b h1 h2=>p (i+1) a b (by simpa using h1) (by simpa using h2))
def Zhl(K:aG):Sp:=λvs H Q E=>∃a k,vs=[.ref a,.int k]/\∃ns:AE,bO K H a (ns.map V.int)/\0<=k/\∀z:Int,Q (.int z) H
def vq:Sp:=λvs H Q E=>∃c p m,vs=[.int c,.int p,.int m]/\0<p/\p<2 ^ 32/\0<m/\∀z:Int,0<=z->z<m->Q (.int z) H
def Zb4:Sp:=λvs H Q E=>∃c,vs=[.int c]/\∀l hs H',aY H H'->H l=none->HsO H' l hs->HsB hs->Q (.ref l) H'
def Zhg:Sp:=λvs H Q E=>∃c,vs=[.int c]/\∀z:Int,Q (.int z) H
def Tp:Sp:=λvs H Q E=>∃d n,vs=[.int d,.int n]/\3<=n/\∀z:Nat,(z:Int)<n->Q (.int z) H
def Zhe:Sp:=λvs H Q E=>∃c w,vs=[.int c,.int w]/\0<=w/\w<=1000/\∀z:Str,Q (.str z) H
def okW(hs:En):Om->Prop
 | .sw n=>1<=n/\n<=200
 | .dd d=>okR hs d
def Zb7(hs:En)(H:Hp)(Q:VK):Prop:=∀a r H',aY H H'->H' a=some (.tup (rV r))->okW hs r->Q (.ref a) H'
def Zhi:Sp:=λvs H Q E=>∃c h s,vs=[.int c,.int h,.int s]/\∃(hn sn:Nat) (hs:En),h=(hn:Int)/\s=(sn:Int)/\Vc hs hn sn/\Zb7 hs H Q
def Tn:Sp:=λvs H Q E=>∃c m,vs=[.int c,.int m]/\1<=m/\m<=200/\∃hs,Zb7 hs H Q
def Tq:Sp:=λvs H Q E=>∃c h s l d,vs=[.int c,.int h,.int s,.ref l,.int d]/\∃(hn sn:Nat) (hs:En),h=(hn:Int)/\s=(sn:Int)/\Vc hs hn sn/\HsO H l hs/\HsB hs/\Zb7 hs H Q
def Zhf:Sp:=λvs H Q E=>∃c l d m,vs=[.int c,.ref l,.int d,.int m]/\∃hs:En,HsO H l hs/\HsB hs/\1<=m/\m<=200/\Zb7 hs H Q
def RwL(H:Hp)(l:AI)(rs:List Om):Prop:=∃as:AF,H l=some (.lst (as.map V.ref))/\as.length=rs.length/\∀(i:Nat) a,as[i]? =some a->∃r,rs[i]? =some r/\H a=some (.tup (rV r))
def Zb1(K:aG):Sp:=λvs H Q E=>∃a l d m,vs=[.ref a,.ref l,.int d,.int m]/\∃(ns:AE) (hs:En),bO K H a (ns.map V.int)/\ns.length<=100/\HsO H l hs/\HsB hs/\1<=m/\m<=200/\∀p rs H',aY H H'->H p=none->RwL H' p rs->rs.length=ns.length->(∀r∈rs,okW hs r)->Q (.ref p) H'
def Zb3(X:Cs):Sp:=λvs H Q E=>∃c,vs=[.int c]/\∀ki lk w t H',0<=t->t<4->w=c % 3->aY H H'->H ki=none->H lk=none->KdO X H' ki lk w t->Q (.ref ki) H'
theorem Zhq(c:Nat):(⟨#[c]⟩:Str).length=1:=rfl
theorem Zrj(a b:Str):(a++b).length=a.length+b.length:=by
 show(a.cps++b.cps).size=_;rw[Array.size_append];rfl
variable {K:aG}{X:Cs}{rf:Rf->AI}{H:Hp}{Q:VK}{E:XK}{n:ν}{bk ct:ν}
section
theorem Zax{a:AI}{k:Int}(q:∃ns:AE,bO K H a (ns.map V.int)/\0<=k/\∀z:Int,Q (.int z) H):zL K ξ [↑a,some (.int k)] H:=by
 obtain⟨ns,hS,h0,h⟩:=q;unfold zL;apply fU hS ?_;apply Ai (λh1=>?_) (λh1=>?_)
 ·ext;rw[bx]at h1;have hk:k.toNat<ns.length:=δ
  exact eE hS (mO h0 (by rw[cI,bN hk]<;>rfl)) (h _)
 ·apply h _
theorem Zav{c p m:Int}(q:0<p/\p<2 ^ 32/\0<m/\∀z:Int,0<=z->z<m->Q (.int z) H):zJ ξ [some (.int c),some (.int p),some (.int m),none] H:=by
 obtain⟨p0,p1,m0,q⟩:=q;have h1:=Int.emod_nonneg c (show p≠0 by omega);have h2:=Int.emod_lt_of_pos c p0;unfold zJ;ext;generalize c % p+11=d at *;have h3:=Int.emod_nonneg (d * d) (show p≠0 by omega);have h4:=Int.emod_lt_of_pos (d * d) p0;apply q _ (Int.emod_nonneg _ δ) (Int.emod_lt_of_pos _ m0)
theorem Zaq{d m:Int}(q:3<=m/\∀z:Nat,(z:Int)<m->Q (.int z) H):zB ξ [some (.int d),some (.int m)] H:=by
 obtain⟨m3,q⟩:=q;unfold zB;apply Ai (λ_=>?_) (λ_=>?_)
 ·ext;obtain⟨k,hk⟩:=Int.eq_ofNat_of_zero_le (Int.emod_nonneg (d / 5) (show m≠0 by omega));have:=Int.emod_lt_of_pos (d / 5) (show 0<m by omega);rw[hk]at this ⊢;exact q k this
 ·ext;obtain⟨k,hk⟩:=Int.eq_ofNat_of_zero_le (Int.emod_nonneg (d / 5) (show(3:Int)≠0 by decide));have:=Int.emod_lt_of_pos (d / 5) (show(0:Int)<3 by decide);rw[hk]at this ⊢;exact q k δ
theorem Zas{c:Int}(q:∀z:Int,Q (.int z) H):zF ξ [some (.int c)] H:=by
 unfold zF;apply Ai (λ_=>?_) (λ_=>?_)
 ·apply q _
 ·apply Ai (λ_=>?_) (λ_=>?_)
  ·apply q _
  ·apply q _
theorem Zao{c w:Int}(q:0<=w/\w<=1000/\∀z:Str,Q (.str z) H):zy ξ [some (.int c),some (.int w),none,none] H:=by
 obtain⟨w0,w1,q⟩:=q;unfold zy;apply Znp ε (Int.emod_nonneg _ ε) (Int.emod_lt_of_pos _ ε) λch=>?_;ext;have l1:=rP "knot" none (some (c % 5));have l2:=rP "ted" none (some (c / 5 % 4));have k1:("knot":Str).length=4:=rfl;have k2:("ted":Str).length=3:=rfl;refine Zih ε ?_;apply Za1 (by rw[Zhq];exact bL δ) ?_;apply Zih ε ?_;apply Za1 (by rw[Zrj,Zhq];exact bL δ) ?_;exact q _
theorem V1{c:Int}(q:∀l hs H',aY H H'->H l=none->HsO H' l hs->HsB hs->Q (.ref l) H'):xg K ξ [some (.int c),none,none,none,none,none] H:=by
 unfold xg;apply⟨ε,λl nl=>?_⟩;generalize zz:upd H l _=H1;obtain⟨s1,g1⟩:=nwO nl zz;have g1:H1 l=some (.lst (([]:AF).map V.ref)):=g1;ext;have z0:=Int.emod_nonneg c (show(5:Int)≠0 by decide);have z1:=Int.emod_lt_of_pos c (show(0:Int)<5 by decide);refine⟨_,rfl,δ,δ,?_⟩;refine forR (λk σ Hx=>∃(ts:AF) (hs:En) (v3 v4 v5:Option V),σ=[some (.int c),some (.str "abcdefghijklmnopqrstuvwxyz"),↑l,v3,v4,v5]/\aY H Hx/\Hx l=some (.lst (ts.map V.ref))/\Al (λ(a:AI) (m:Str×Int)=>Hx a=some (.tup [.str m.1,.int m.2])) ts hs/\hs.length=k/\∀m∈hs,3<=m.2/\m.2<=9) ⟨[],[],none,none,none,rfl,s1,g1,.nil,rfl,λm hm=>by cases hm⟩ ?_ ?_
 ·rintro k σ Hx hk ⟨ts,hs,v3,v4,v5,rfl,s2,g2,al,hl,hb⟩;have hk5:k<5:=δ
  have lts:=al.length;apply Znp ε (Int.emod_nonneg _ ε) (Int.emod_lt_of_pos _ ε) λch=>?_;ext;have l1:=rP "loom" none (some (c / 7 % 5));have l2:=rP "fernway" none (some (c / 11 % 8));have k1:("loom":Str).length=4:=rfl;have k2:("fernway":Str).length=7:=rfl;refine Zih ε ?_;apply Za1 (by rw[Zhq];exact bL δ) ?_;apply Zih ε ?_;apply Za1 (by rw[Zrj,Zhq];exact bL δ) ?_;generalize Zac "loom" none (some (c / 7 % 5))++⟨#[ch]⟩++Zac "fernway" none (some (c / 11 % 8))=wd;exists .inl ⟨rfl,_,bO.of g2⟩;ext;have m1:=Int.emod_nonneg (c / 3+2 * ((0:Int)+k) * ((0:Int)+k)) (show(7:Int)≠0 by decide);have m2:=Int.emod_lt_of_pos (c / 3+2 * ((0:Int)+k) * ((0:Int)+k)) (show(0:Int)<7 by decide);have y1:=Int.emod_nonneg (c / 17) (show(2:Int)≠0 by decide);have y2:=Int.emod_lt_of_pos (c / 17) (show(0:Int)<2 by decide);have mb:3<=3+(c / 3+2 * ((0:Int)+k) * ((0:Int)+k)) % 7 * (c / 17 % 2)/\3+(c / 3+2 * ((0:Int)+k) * ((0:Int)+k)) % 7 * (c / 17 % 2)<=9:=by
   generalize (c / 3+2 * ((0:Int)+k) * ((0:Int)+k)) % 7=u at m1 m2 ⊢;rcases(by omega:c / 17 % 2=0\/c / 17 % 2=1)with e | e<;>rw[e]<;>omega
  generalize 3+(c / 3+2 * ((0:Int)+k) * ((0:Int)+k)) % 7 * (c / 17 % 2)=many at mb ⊢;refine⟨bL ζ,λt nt=>?_⟩;generalize zz:upd Hx t _=H3;obtain⟨s3,g3⟩:=nwO nt zz;have g4:=s3 _ _ g2;exists l,_,_,rfl,rfl,g4,?_
  ·rw[bx];exact Nat.lt_of_le_of_lt (show _<=1000 by omega) ε
  rw[show ts.map V.ref++[V.ref t]=(ts++[t]).map V.ref from by rw[List.map_append];rfl];have kt:∀b xs,H3 b=some (.tup xs)->upd H3 l (.lst ((ts++[t]).map V.ref)) b=some (.tup xs):=λb xs hb=>by
   rw[aB (nY hb g4 (λz=>by cases z))];exact hb
  apply⟨ts++[t],hs++[(wd,many)],_,_,_,rfl,λb o hb=>by rw[aB (aD hb nl)];exact s3 _ _ (s2 _ _ hb),ao,?_,by rw[List.length_append,hl];rfl,λm hm=>?_⟩
  ·refine Oj (by rw[List.length_append,List.length_append,lts];rfl) λi x y e1 e2=>?_
   by_cases hi:i<ts.length
   ·rw[List.getElem?_append_left hi]at e1;rw[List.getElem?_append_left δ]at e2;obtain⟨x',e3,z⟩:=al.get e2;rw[e1]at e3;cases e3;exact kt _ _ (s3 _ _ z)
   ·have h1:=(cZ e1).1;rw[List.length_append,List.length_singleton]at h1;rw[List.getElem?_append_right δ]at e1 e2;rw[show i - ts.length=0 by omega]at e1;rw[show i - hs.length=0 by omega]at e2;cases e1;cases e2;exact kt _ _ g3
  ·rcases List.mem_append.mp hm with hm | hm
   ·exact hb m hm
   ·rw[List.mem_singleton.mp hm];exact mb
 ·rintro σ Hx ⟨ts,hs,v3,v4,v5,rfl,s2,g2,al,hl,hb⟩;apply q l hs Hx s2 nl ⟨ts,g2,al⟩ ⟨δ,δ,hb⟩
theorem Zat{c h s:Int}(q:∃(hn sn:Nat) (hs:En),h=(hn:Int)/\s=(sn:Int)/\Vc hs hn sn/\Zb7 hs H Q):zG K vq ξ [some (.int c),some (.int h),some (.int s),none,none] H:=by
 obtain⟨hn,sn,hs,rfl,rfl,oh,q⟩:=q;unfold zG;apply⟨by show 10<=sizeLine;decide,λp np=>?_⟩;generalize zz:upd H p _=H1;obtain⟨s1,g1⟩:=nwO np zz;apply⟨_,_,_,rfl,ε,ε,ε,λz z0 z1=>?_⟩;obtain⟨many,hm,m0,m1⟩:∃many:Int,atI [V.int 1,.int 1,.int 1,.int 2,.int 2,.int 2,.int 2,.int 3,.int 0,.int 8] z=some (.int many)/\0<=many/\many<=8:=by
  rcases(by omega:z=0\/z=1\/z=2\/z=3\/z=4\/z=5\/z=6\/z=7\/z=8\/z=9)with rfl | rfl | rfl | rfl | rfl | rfl | rfl | rfl | rfl | rfl<;>exact⟨_,rfl,ε,ε⟩
 refine eE (bO.of g1) hm ?_;apply⟨_,_,_,rfl,ε,ε,ε,λy y0 y1=>?_⟩;apply Ai (λ_=>?_) (λ_=>?_)
 ·apply⟨by show 5<=sizeLine;decide,λt nt=>?_⟩;exact q t (.dd (.make hn sn many _)) _ (s1.trans (aK nt _)) ao ⟨oh,m0,m1,Int.emod_nonneg _ ε⟩
 ·apply⟨by show 5<=sizeLine;decide,λt nt=>?_⟩;exact q t (.dd (.make hn sn many _)) _ (s1.trans (aK nt _)) ao ⟨oh,m0,m1,Int.emod_nonneg _ ε⟩
end
section
theorem Ws{m:Int}{hs:En}(m0:0<=m)(m1:m<200)(q:Zb7 hs H Q){v0 v1 v2:Option V}{te:TE}(ht:∀Q':VK,Q' (.int (1+m)) H->te [v0,v1,v2] H Q'):bB (fV (ak (tC (.str "sweep")) (ak te aH))) ξ [v0,v1,v2] H:=by
 apply ht _ ?_;apply⟨by show 2<=sizeLine;decide,λt nt=>?_⟩;obtain⟨k,rfl⟩:=Int.eq_ofNat_of_zero_le m0;exact q t (.sw (k+1)) _ (aK nt _) (by rw[ao];show _=some (HO.tup [V.str "sweep",V.int ((k+1:Nat):Int)]);rw[show(1+(k:Int))=((k+1:Nat):Int) by omega]) ⟨δ,δ⟩
theorem VP{c m:Int}(q:1<=m/\m<=200/\∃hs,Zb7 hs H Q):wY vq ξ [some (.int c),some (.int m),none] H:=by
 obtain⟨m0,m1,hs,q⟩:=q;unfold wY;apply⟨_,_,_,rfl,ε,ε,ε,λz z0 z1=>?_⟩;apply Ai (λ_=>?_) (λ_=>?_)
 ·exact Ws (m:=z / 2 % 4) (Int.emod_nonneg _ ε) δ q λQ' h=>by apply h
 ·refine Gj ?_;have a0:=Int.emod_nonneg (z / 2) (show m≠0 by omega);have a1:=Int.emod_lt_of_pos (z / 2) (show 0<m by omega);refine MN ?_;exact Ws (m:=z / 2 % m) a0 δ q λQ' h=>by apply h
theorem VR{c h s d:Int}{l:AI}(q:∃(hn sn:Nat) (hs:En),h=(hn:Int)/\s=(sn:Int)/\Vc hs hn sn/\HsO H l hs/\HsB hs/\Zb7 hs H Q):wZ K vq Tp Zhe ξ [some (.int c),some (.int h),some (.int s),↑l,some (.int d),none,none,none,none] H:=by
 obtain⟨hn,sn,hs,rfl,rfl,oh,ho,hb,q⟩:=q;have n1:=hb.n1;have n5:=hb.n5;unfold wZ;apply⟨_,_,_,rfl,ε,ε,ε,λz z0 z1=>?_⟩;apply⟨_,_,rfl,δ,δ,λwd=>?_⟩;ext;obtain⟨ts0,k1,k2⟩:=id ho;refine Ai (λ_=>?_) (λ_=>?_)
 ·apply fU (bO.of k1) ?_;rw[bx,k2.length];apply⟨_,_,_,rfl,ε,ε,δ,λg g0 g1=>?_⟩;obtain⟨g,rfl⟩:=Int.eq_ofNat_of_zero_le g0;have hg:g<hs.length:=δ
  have eg:hs[g]? =some hs[g]:=bN hg;obtain⟨ts,t,k3,k4,k5⟩:=ho.at eg;have gb:=hb.sb _ (List.getElem_mem hg);apply eE (v:=.ref t) (bO.of k3) (g8 (by rw[cI,k4];rfl)) ?_;exists t,_,1,_,rfl,rfl,fc.of k5,rfl;apply⟨_,_,_,rfl,ε,ε,ε,λy y0 y1=>?_⟩;apply⟨_,_,rfl,gb.1,λu hu=>?_⟩;apply⟨by show 5<=sizeLine;decide,λp np=>?_⟩;exact q p (.dd (.give hn sn g u)) _ (aK np _) ao ⟨oh,_,eg,hu⟩
 ·apply Ai (λ_=>?_) (λ_=>?_)
  ·apply⟨by show 4<=sizeLine;decide,λp np=>?_⟩;exact q p (.dd (.name hn sn wd)) _ (aK np _) ao oh
  apply Ai (λ_=>?_) (λ_=>?_)
  ·apply⟨by show 4<=sizeLine;decide,λp np=>?_⟩;exact q p (.dd (.seek hn sn wd)) _ (aK np _) ao oh
  apply Ai (λ_=>?_) (λ_=>?_)
  ·apply⟨by show 3<=sizeLine;decide,λp np=>?_⟩;exact q p (.dd (.read hn sn)) _ (aK np _) ao oh
  apply Ai (λ_=>?_) (λ_=>?_)
  ·apply⟨by show 4<=sizeLine;decide,λp np=>?_⟩;exact q p (.dd (.write hn sn _)) _ (aK np _) ao oh
  apply⟨by show 4<=sizeLine;decide,λp np=>?_⟩;exact q p (.dd (.write hn sn _)) _ (aK np _) ao oh
theorem Ze5{c d m:Int}{l:AI}(q:∃hs:En,HsO H l hs/\HsB hs/\1<=m/\m<=200/\Zb7 hs H Q):CG K vq Zhi Tq Tp Tn ξ [some (.int c),↑l,some (.int d),some (.int m),none,none,none,none,none] H:=by
 obtain⟨hs,ho,hb,m0,m1,q⟩:=q;have n1:=hb.n1;have n5:=hb.n5;obtain⟨ts0,k1,k2⟩:=id ho;unfold CG;apply fU (bO.of k1) ?_;rw[bx,k2.length];apply⟨_,_,_,rfl,ε,ε,δ,λg g0 g1=>?_⟩;obtain⟨g,rfl⟩:=Int.eq_ofNat_of_zero_le g0;have hg:g<hs.length:=δ
 have eg:hs[g]? =some hs[g]:=bN hg;obtain⟨ts,t,k3,k4,k5⟩:=ho.at eg;have gb:=hb.sb _ (List.getElem_mem hg);apply⟨_,_,_,rfl,ε,ε,ε,λy y0 y1=>?_⟩;apply eE (v:=.ref t) (bO.of k3) (g8 (by rw[cI,k4];rfl)) ?_;exists t,_,1,_,rfl,rfl,fc.of k5,rfl;apply⟨_,_,rfl,gb.1,λu hu=>?_⟩;apply⟨_,_,_,rfl,ε,ε,ε,λy y0 y1=>?_⟩;apply eE (v:=.ref t) (bO.of k3) (g8 (by rw[cI,k4];rfl)) ?_;exists t,_,1,_,rfl,rfl,fc.of k5,rfl;apply⟨_,_,rfl,gb.1,λi hi=>?_⟩;apply⟨_,_,_,rfl,ε,ε,ε,λf f0 f1=>?_⟩;obtain⟨f,rfl⟩:=Int.eq_ofNat_of_zero_le f0;have ou:Vc hs g u:=⟨_,eg,hu⟩;have oi:Vc hs g i:=⟨_,eg,hi⟩;apply Ai (λ_=>?_) (λ_=>?_)
 ·apply⟨_,_,_,rfl,g,u,hs,rfl,rfl,ou,q⟩
 apply Ai (λ_=>?_) (λ_=>?_)
 ·apply⟨by show 5<=sizeLine;decide,λp np=>?_⟩;exact q p (.dd (.get g u i f)) _ (aK np _) ao ⟨ou,oi⟩
 apply Ai (λ_=>?_) (λ_=>?_)
 ·apply⟨by show 5<=sizeLine;decide,λp np=>?_⟩;exact q p (.dd (.put g u f i)) _ (aK np _) ao ⟨ou,oi⟩
 apply Ai (λ_=>?_) (λ_=>?_)
 ·apply⟨by show 3<=sizeLine;decide,λp np=>?_⟩;exact q p (.dd (.drop g u)) _ (aK np _) ao ou
 apply Ai (λ_=>?_) (λ_=>?_)
 ·apply⟨by show 4<=sizeLine;decide,λp np=>?_⟩;exact q p (.dd (.copy g u i)) _ (aK np _) ao ⟨ou,oi⟩
 apply Ai (λ_=>?_) (λ_=>?_)
 ·apply⟨_,_,rfl,m0,m1,hs,q⟩
 apply⟨_,_,_,l,_,rfl,g,u,hs,rfl,rfl,ou,ho,hb,q⟩
theorem RwL.add{H:Hp}{l b:AI}{rs:List Om}{r:Om}{as:AF}(h1:H l=some (.lst (as.map V.ref)))(h2:as.length=rs.length)(h3:∀(i:Nat) a,as[i]? =some a->∃r,rs[i]? =some r/\H a=some (.tup (rV r)))(hb:H b=some (.tup (rV r))):RwL (upd H l (.lst (as.map V.ref++[.ref b]))) l (rs++[r]):=by
 have nt:∀{c:AI}{xs:List V},H c=some (.tup xs)->c≠l:=λhc e=>by rw[e,h1]at hc;cases hc
 refine⟨as++[b],by rw[ao,List.map_append];rfl,by rw[List.length_append,List.length_append,h2];rfl,λi a ha=>?_⟩
 by_cases hi:i<as.length
 ·rw[List.getElem?_append_left hi]at ha;obtain⟨y,ey,hy⟩:=h3 i a ha;exact⟨y,by rw[List.getElem?_append_left δ];exact ey,by rw[aB (nt hy)];exact hy⟩
 ·have hl:=(cZ ha).1;rw[List.length_append,List.length_singleton]at hl;obtain rfl:i=as.length:=δ
  rw[List.getElem?_append_right υ,Nat.sub_self]at ha;cases ha;exact⟨r,by rw[h2,List.getElem?_append_right υ,Nat.sub_self];rfl,by rw[aB (nt hb)];exact hb⟩
theorem Zar{a l:AI}{d m:Int}(q:∃(ns:AE) (hs:En),bO K H a (ns.map V.int)/\ns.length<=100/\HsO H l hs/\HsB hs/\1<=m/\m<=200/\∀p rs H',aY H H'->H p=none->RwL H' p rs->rs.length=ns.length->(∀r∈rs,okW hs r)->Q (.ref p) H'):zE K Zhf ξ [↑a,↑l,some (.int d),some (.int m),none,none,none] H:=by
 obtain⟨ns,hs,hS,hn,ho,hb,m0,m1,q⟩:=q;unfold zE;apply⟨ε,λp np=>?_⟩;generalize zz:upd H p _=H1;obtain⟨s1,g1⟩:=nwO np zz;have g1:H1 p=some (.lst (([]:AF).map V.ref)):=g1;exists a,rfl,⟨_,s1.seq hS⟩;refine Zqx (ns.map V.int) (λi σ Hx=>∃rs v5 v6,σ=[↑a,↑l,some (.int d),some (.int m),↑p,v5,v6]/\aY H Hx/\RwL Hx p rs/\rs.length=i/\∀r∈rs,okW hs r) ⟨[],none,none,rfl,s1,⟨[],g1,rfl,λi a h=>by cases h⟩,rfl,λr hr=>by cases hr⟩ (by rintro i σ Hx _ ⟨_,_,_,_,s,_⟩;exact s.seq hS) ?_ ?_
 ·rintro i x t σ Hx hx ⟨rs,v5,v6,rfl,sx,rw',hl,hok⟩ nt;rw[cI]at hx;obtain⟨c,hc,rfl⟩:=Option.map_eq_some_iff.mp hx;have hi:=(cZ hc).1;obtain⟨as,r1,r2,r3⟩:=rw';generalize zz:upd Hx t _=H2;obtain⟨s2,g2⟩:=nwO nt zz;refine⟨t,_,rfl,fc.of g2,rfl,?_⟩;refine⟨_,_,rfl,?_⟩;exists _,_,rfl;exists rfl;exists .inl ⟨rfl,_,bO.of (s2 _ _ r1)⟩;apply⟨_,l,_,_,rfl,hs,ho.same (sx.trans s2),hb,m0,m1,λb r H3 s3 hb3 okr=>?_⟩;have s23:=s2.trans s3;apply⟨p,_,_,rfl,rfl,s23 _ _ r1,by rw[bx,r2,hl,sizeLine_eq];omega,?_⟩;apply⟨rs++[r],_,_,rfl,λb o hb=>by rw[aB (aD hb np)];exact s23 _ _ (sx _ _ hb),RwL.add (s23 _ _ r1) r2 (λi a ha=>let ⟨r,e,q⟩:=r3 i a ha;⟨r,e,s23 _ _ q⟩) hb3,by rw[List.length_append,hl];rfl,λr' hr=>?_⟩;rcases List.mem_append.mp hr with hr | hr
  ·exact hok r' hr
  ·rw[List.mem_singleton.mp hr];exact okr
 ·rintro σ Hx ⟨rs,v5,v6,rfl,sx,rw',hl,hok⟩;rw[bx]at hl;apply q p rs Hx sx np rw' hl hok
theorem RG{C:AI}{w t:Int}{σ:St}{tt:TE}(ht:∀(H1:Hp) (Q':VK),Q' (.int t) H1->tt σ H1 Q')(hw:∀{H1:Hp}{lk dl:AI},H1 lk=some (.ins C dl [])->(w=0/\H1 lk=some (.ins X.F dl []))\/(w=1/\H1 lk=some (.ins X.E dl []))\/(w=2/\H1 lk=some (.ins X.L dl [])))
  (q:∀ki lk H',aY H H'->H ki=none->H lk=none->KdO X H' ki lk w t->Q (.ref ki) H'):xN X.K (wG X.K) [] E0 (ak (G.Ky C) (ak tt aH)) σ H Q:=by
 ext;intro lk dl nlk ndl nel;have s1:aY H (upd (upd H dl (.own lk)) lk (.ins C dl [])):=λb o hb=>by rw[aB (aD hb nlk),aB (aD hb ndl)];exact hb
 have g1:upd (upd H dl (.own lk)) lk (.ins C dl []) lk=some (.ins C dl []):=ao;generalize upd (upd H dl (.own lk)) lk (.ins C dl [])=H1 at s1 g1 ⊢;left;refine ht H1 _ ?_;left;intro ki dk nki ndk nek;have s2:aY H1 (upd (upd H1 dk (.own ki)) ki (.ins X.K dk [])):=λb o hb=>by rw[aB (aD hb nki),aB (aD hb ndk)];exact hb
 have g2:upd (upd H1 dk (.own ki)) ki (.ins X.K dk []) ki=some (.ins X.K dk []):=ao;generalize upd (upd H1 dk (.own ki)) ki (.ins X.K dk [])=H2 at s2 g2 ⊢;refine⟨ki,lk,t,rfl,dk,g2,λH3 o3 k3=>⟨rfl,?_⟩⟩;have s3:aY H H3:=λb o hb=>k3 b o (s2 _ _ (s1 _ _ hb)) (aD (s1 _ _ hb) nki);have Zxl:lk≠ki:=aD g1 nki;exact q ki lk H3 s3 (s1.free nki) nlk ⟨⟨dk,o3⟩,⟨dl,hw (k3 _ _ (s2 _ _ g1) Zxl)⟩⟩
theorem Zau{c:Int}(q:∀ki lk w t H',0<=t->t<4->w=c % 3->aY H H'->H ki=none->H lk=none->KdO X H' ki lk w t->Q (.ref ki) H'):zH X.E X.F X.K X.L (wG X.K) ξ [some (.int c),none] H:=by
 have t0:=Int.emod_nonneg (c / 3) (show(4:Int)≠0 by decide);have t1:=Int.emod_lt_of_pos (c / 3) (show(0:Int)<4 by decide);have w0:=Int.emod_nonneg c (show(3:Int)≠0 by decide);have w1:=Int.emod_lt_of_pos c (show(0:Int)<3 by decide);unfold zH;apply Ai (λz=>?_) (λz=>?_)
 ·refine Zii ?_;exact RG (λH1 Q' h=>by apply h) (λe=>.inl ⟨rfl,e⟩) λki lk H' s n1 n2 kd=>q ki lk 0 (c / 3 % 4) H' t0 t1 z.symm s n1 n2 kd
 ·refine MN ?_;refine Gj ?_;left;refine Ai (λy=>?_) (λy=>?_)
  ·refine Zii ?_;exact RG (λH1 Q' h=>by apply h) (λe=>.inr (.inl ⟨rfl,e⟩)) λki lk H' s n1 n2 kd=>q ki lk 1 (c / 3 % 4) H' t0 t1 y.symm s n1 n2 kd
  ·refine MN ?_;refine Zii ?_;exact RG (λH1 Q' h=>by apply h) (λe=>.inr (.inr ⟨rfl,e⟩)) λki lk H' s n1 n2 kd=>q ki lk 2 (c / 3 % 4) H' t0 t1 δ s n1 n2 kd
end
def Gp(H0 H:Hp)(T:Tg)(s:Nat)(a:AI)(x:Rz):Prop:=∃l,H0 l=none/\H a=some (.tup [.str x.1,x.2.1,.ref l])/\H l=some (.lst (x.2.2.map V.int))/\Ol s (T a)/\Ol s (T l)/\x.2.2.length<=100000
theorem Gp.mv{H0 H H':Hp}{T T':Tg}{s:Nat}{a:AI}{x:Rz}(s0:s≠0)(h:Gp H0 H T s a x)(st:cY s H H' T T'):Gp H0 H' T' s a x:=by
 obtain⟨l,f,h1,h2,t1,t2,b⟩:=h;exact⟨l,f,st.kp _ _ h1 (t1.ne s0),st.kp _ _ h2 (t2.ne s0),by rw[st.tg _ _ h1];exact t1,by rw[st.tg _ _ h2];exact t2,b⟩
theorem Gp.put{H0 H:Hp}{T:Tg}{s:Nat}{a p:AI}{x:Rz}{xs:List V}{o o0:HO}(h:Gp H0 H T s a x)(hp:H0 p=some o0)(hl:H p=some (.lst xs)):Gp H0 (upd H p o) T s a x:=by
 obtain⟨l,f,h1,h2,t⟩:=h;exact⟨l,f,by rw[aB λz=>by rw[z,hl]at h1;cases h1];exact h1,by rw[aB λz=>by rw[z,hp]at f;cases f];exact h2,t⟩
theorem Gp.base{H1 H0 H:Hp}{T:Tg}{s:Nat}{a:AI}{x:Rz}(h:Gp H1 H T s a x)(sm:aY H0 H1):Gp H0 H T s a x:=by
 obtain⟨l,f,r⟩:=h;exact⟨l,sm.free f,r⟩
def Ze8(H:Hp)(T:Tg)(M:Wm)(es:List Rz)(as:AF):Prop:=∃b w a wl,es.getLast? =some (("lost":Str),V.int b,w)/\M.sw.loss=.ref a/\T a=(0,0)/\H a=some (.tup [.str "lost",.int b,.ref wl])/\T wl=(0,0)/\H wl=some (.lst (w.map V.int))/\∀c∈as,∀x y l,H c=some (.tup [x,y,.ref l])->wl≠l
def Zx2(X:Cs)(M:Wm)(r:Om)(hs:En)(k:Nat)(T:Tg)(s:Nat)(wo:AI)(H:Hp)(Q:VK):Prop:=
 ∀es as M' H' T' A' p,V3 M r es M'->es≠[]->es.length<=1000->KW M' hs (k+1)->cY s H H' T T'->WJ X H' T' s A' M'->A'.wo=wo->Al (Gp H H' T' s) as es->H' p=some (.lst (as.map V.ref))->H p=none->Ol s (T' p)->(fu es=true->Ze8 H' T' M' es as)->(∀c∈as,∀x y l,H' c=some (.tup [x,y,.ref l])->p≠l)->Q (.ref p) H'
def DnQ(X:Cs)(wo dd:AI)(H:Hp)(Q:VK):Prop:=∃T s A M r hs k,WT H T/\s≠0/\WJ X H T s A M/\A.wo=wo/\H dd=some (.tup (rV r))/\okW hs r/\KW M hs k/\HsB hs/\k<=800/\Nl M/\Zx2 X M r hs k T s wo H Q
theorem SQ(M:Wm)(d:rR):(UW (rO M d)).2.2.length<=2:=by
 cases d<;>simp only[rO]<;>(repeat' split)<;>first | exact Nat.zero_le _ | exact Nat.le_trans qg ζ
theorem Zrf{F:KB.Fd}{R:KB.Rw}{q l:List (Int×AE)}{k:Nat}(b:KB.HJ F R q k l):∀x∈l,x∈q:=by
 induction b with
 | start=>exact λx hx=>nomatch hx
 | old _ _ _ ih=>exact ih
 | new b hq hn hf ih=>
  intro x hx;rcases List.mem_append.mp hx with z | z
  ·exact List.mem_append.mpr (.inl (ih x z))
  ·rw[List.mem_singleton.mp z];exact List.mem_append.mpr (.inl (List.mem_of_getElem? hq))
theorem Qm{X:Cs}{H:Hp}{T:Tg}{s:Nat}{A:Wa}{N M':Wm}{e:Ev}{lb:Int}{lw:AE}(ok:Zay N)(j:WJ X H T s A N)(r:nu lb lw N e M')(hw:lw.length<=100000):e.notes.length<=100000:=by
 have h30:N.hands.length<=30:=by rw[<- j.jd.lh];exact j.jd.l5
 have fw:=Zo7 j ok;cases r with
 | begin ph=>
  have:=(uL (jC N.w N.hands.length) 100 N.hands 0 (vh N) ok.hl).2.2.1;show(fG (jC N.w N.hands.length) N.hands 0 (vh N)).1.length<=_;omega
 | walk x g c ph hg hc=>
  have h1:=qg (l:=c.fl) (M:={ N with sw:={ N.sw with grey:=g,walks:=N.sw.walks+1 } });have h2:c.fl.length<=50:=by
   unfold cellAt at hc;split at hc
   ·cases z:N.cells[x.toNat]? with
    | none=>rw[z]at hc;cases hc
    | some y=>rw[z]at hc;have hc:y=some c:=hc;subst hc;exact ok.fl c (List.mem_of_getElem? z)
   ·cases hc
  exact Nat.le_trans h1 δ
 | look N' ph hg nc hN=>
  have:=(uL (bY N) 100 N.hands 0 N ok.hl).2.2.1;show(fG (bY N) N.hands 0 N).1.length<=_;omega
 | cut q qs ph hg cd bf hno=>exact Nat.le_trans (QX ok.cl).1 ε
 | lost q qs i x c v ph hg cd bf hx hno hc ht=>
  have h1:=bf.bound;have h2:=fw.t;have h3:=Zeb bf x (Zrf bf x (List.mem_of_getElem? hx));show x.2.length<=100000;omega
 | pass ph lt hp=>exact Nat.zero_le _
 | back c ph lt hc ht=>show 1<=100000;decide
 | fin ph lt=>show 3<=100000;decide
 | again ph=>exact hw
def M9:Sp:=λvs H Q E=>∃z,vs=[.str z]/\∀a l H',aY H H'->H a=none->H l=none->H' a=some (.tup [.str "refused",.str z,.ref l])->H' l=some (.lst [])->Q (.ref a) H'
def DdQ(X:Cs)(wo dd:AI)(H:Hp)(Q:VK):Prop:=∃T s A M d hs k,WT H T/\s≠0/\WJ X H T s A M/\A.wo=wo/\H dd=some (.tup (dV d))/\okR hs d/\KW M hs k/\k<=800/\∀H' T' A' a,cY s H H' T T'->WJ X H' T' s A' (stM M (rO M d))->A'.wo=wo->Gp H H' T' s a (UW (rO M d))->Q (.ref a) H'
def Zaz(X:Cs):Sp:=λvs H Q E=>∃wo dd,vs=[.ref wo,.ref dd]/\DdQ X wo dd H Q
theorem KW.turn{M:Wm}{hs:En}{k:Nat}(p:KW M hs k){d:rR}(o:okR hs d):KW (stM M (rO M d)) hs (k+1):=by
 cases e:rO M d with
 | ok x=>exact p.deed (e:=x.1) o (by rw[e];rfl)
 | error r=>exact p.mono (Nat.le_succ _)
theorem KW.grl{M:Wm}{hs:En}{k:Nat}(p:KW M hs k)(hk:k<=800)(z:M.sw.phase="walk"):M.sw.grey.length<=800:=by
 obtain⟨nd,gr⟩:=p.gr z;have:=Ro M.cells.length M.sw.grey nd λx hx=>by
  obtain⟨c,hc,_⟩:=gr x hx;exact Xv hc
 have:=p.cl;omega
theorem Ziq{X:Cs}{rf:Rf->AI}{wo dd:AI}{T:Tg}{s:Nat}{A:Wa}{M:Wm}{d:rR}{hs:En}{k:Nat}{H:Hp}{Q:VK}{E:XK}(w:WT H T)(s0:s≠0)(j:WJ X H T s A M)(aw:A.wo=wo)(ed:H dd=some (.tup (dV d)))(o:okR hs d)(kw:KW M hs k)(hk:k<=800)
  (h1:∀r,rO M d=.error r->∀H',aY H H'->E (.ref (rf r)) none H') (h2:∀e M',rO M d=.ok (e,M')->∀H' T' A' a,cY s H H' T T'->WJ X H' T' s A' M'->A'.wo=wo->EvN H H' T' s a e->Q (.ref a) H'):Zux X rf [.ref wo,.ref dd] H Q E:=
 ⟨wo,dd,rfl,T,s,A,M,d,trivial,w,s0,j,aw,ed,kw.okD o,by have:=kw.cl;omega,λz=>Nat.le_trans (kw.grl hk z) ε,kw.tl,by have:=kw.nl;omega,h1,h2⟩
section
theorem Zfm{z:Str}(q:∀a l H',aY H H'->H a=none->H l=none->H' a=some (.tup [.str "refused",.str z,.ref l])->H' l=some (.lst [])->Q (.ref a) H'):GJ ξ [some (.str z)] H:=by
 unfold GJ;apply⟨ε,λl nl=>?_⟩;refine⟨bL ζ,λa na=>?_⟩;exact q a l _ ((aK nl _).trans (aK na _)) ((aK nl _).free na) nl ao ((aK na _) _ _ ao)
theorem TY{wo dd CE CF CN CM:AI}(h1:rf .empty=CE)(h2:rf .full=CF)(h3:rf .fZ=CN)(h4:rf .nW=CM)(q:DdQ X wo dd H Q):
  wO CE CF CN CM (Zux X rf) M9 ξ [↑wo,↑dd] H:=by
 obtain⟨T,s,A,M,d,hs,k,w,s0,j,aw,ed,o,kw,hk,q⟩:=q;subst h1 h2 h3 h4;have rfs:∀r,rO M d=.error r->∀H',aY H H'->∀a l H2,aY H' H2->H' a=none->H' l=none->H2 a=some (.tup [.str "refused",.str (rfS r),.ref l])->H2 l=some (.lst [])->Q (.ref a) H2:=λr er H' s1 a l H2 s2 fa fl ha hl=>by
  have s12:=s1.trans s2;refine q H2 T A a (cY.same w s12) (by rw[er];exact j.same s12) aw ?_;rw[er];exact⟨l,s1.free fl,ha,hl,(rY w s0 (s1.free fa)).2,(rY w s0 (s1.free fl)).2,Nat.zero_le _⟩
 unfold wO;apply Ziq w s0 j aw ed o kw hk (λr er H' s1=>?_) λe M' he H' T' A' a st j' aw' ev=>?_
 ·have z:=rfs r er H' s1;cases r with
  | full=>
   refine .inr (.inr (.inl ⟨rfl,?_⟩));apply⟨_,rfl,z⟩
  | empty=>
   refine .inl ⟨rfl,?_⟩;apply⟨_,rfl,z⟩
  | fZ=>
   refine .inr (.inl ⟨rfl,?_⟩);apply⟨_,rfl,z⟩
  | nW=>
   refine .inr (.inr (.inr ⟨rfl,?_⟩));apply⟨_,rfl,z⟩
 ·ext;obtain⟨l,⟨fl,t1,t2⟩,v1,v2⟩:=ev;exact q H' T' A' a st (by rw[he];exact j') aw' (by rw[he];exact⟨l,fl,v1,v2,t2,t1,by have:=SQ M d;rw[he]at this;exact Nat.le_trans this ε⟩)
end
def TV(H:Hp)(a:AI)(x:Rz):Prop:=∃l,H a=some (.tup [.str x.1,x.2.1,.ref l])/\H l=some (.lst (x.2.2.map V.int))
theorem Gp.h{H0 H:Hp}{T:Tg}{s:Nat}{a:AI}{x:Rz}(h:Gp H0 H T s a x):TV H a x:=by
 obtain⟨l,_,h1,h2,_⟩:=h;exact⟨l,h1,h2⟩
def Fg:Sp:=λvs H Q E=>∃p,vs=[.ref p]/\∃as es,H p=some (.lst (as.map V.ref))/\Al (TV H) as es/\Q (.bl (fu es)) H
def SwQ(X:Cs)(wo:AI)(m:Int)(H:Hp)(Q:VK):Prop:=∃T s A M hs k,∃n:Nat,m=n/\WT H T/\s≠0/\WJ X H T s A M/\A.wo=wo/\KW M hs k/\HsB hs/\k<=800/\Nl M/\n<=1000/\
 ∀es as M' H' T' A' p,SwC M n es M'->es.length<=n->KW M' hs k->cY s H H' T T'->WJ X H' T' s A' M'->A'.wo=wo->Al (Gp H H' T' s) as es->H' p=some (.lst (as.map V.ref))->H p=none->Ol s (T' p)->(fu es=true->Ze8 H' T' M' es as)->(∀c∈as,∀x y l,H' c=some (.tup [x,y,.ref l])->p≠l)->Q (.ref p) H'
def Zx1(H:Hp)(T:Tg)(M:Wm)(b:Int)(w:AE)(c:AI):Prop:=∃a wl,M.sw.loss=.ref a/\T a=(0,0)/\H a=some (.tup [.str "lost",.int b,.ref wl])/\T wl=(0,0)/\H wl=some (.lst (w.map V.int))/\∀x y l,H c=some (.tup [x,y,.ref l])->wl≠l
def SwL(X:Cs)(wo:AI)(n:Nat)(H:Hp)(Q:VK):Prop:=∃T s A M b w hs k,1<=n/\WT H T/\s≠0/\WJ X H T s A M/\A.wo=wo/\KW M hs k/\HsB hs/\k<=800/\M.sw.phase=("lost":Str)/\El H T M b w/\w.length<=100000/\
 ∀H' T' A' p a,cY s H H' T T'->WJ X H' T' s A' M->A'.wo=wo->Gp H H' T' s a (("lost":Str),V.int b,w)->H' p=some (.lst [.ref a])->H p=none->Zx1 H' T' M b w a->(∀x y l,H' a=some (.tup [x,y,.ref l])->p≠l)->Q (.ref p) H'
def Zb0(X:Cs):Sp:=λvs H Q E=>∃wo m,vs=[.ref wo,.int m]/\(SwQ X wo m H Q\/∃n:Nat,m=n/\SwL X wo n H Q)
structure SwI(X:Cs)(M:Wm)(hs:En)(k n:Nat)(s:Nat)(wo p:AI)(H H1:Hp)(T:Tg)(Hx:Hp)(es:List Rz)(as:AF)(N:Wm)(Tx:Tg)(Ax:Wa):Prop where
 st:cY s H Hx T Tx
 j:WJ X Hx Tx s Ax N
 aw:Ax.wo=wo
 kw:KW N hs k
 hp:Hx p=some (.lst (as.map V.ref))
 tp:(Tx p).1=s+1
 ev:Al (Gp H1 Hx Tx s) as es
 le:es.length<=n
 al:∀b o,H1 b=some o->∃o',Hx b=some o'
 go:(fu es=false/\Nl N/\∀n' es' M',SwC N n' es' M'->SwC M (es.length+n') (es++es') M')\/(fu es=true/\SwC M n es N/\Ze8 Hx Tx N es as)
theorem SwI.turn{X:Cs}{M:Wm}{hs:En}{k n s:Nat}{wo p:AI}{H H1:Hp}{T:Tg}{Hx:Hp}{es:List Rz}{as:AF}{N:Wm}{Tx:Tg}{Ax:Wa}(i:SwI X M hs k n s wo p H H1 T Hx es as N Tx Ax)(s0:s≠0)(np:H p=none)(h1p:∃o,H1 p=some o)(ok:Zay N)(lt:es.length<n)(nl:fu es=false)
  {e:Ev}{M':Wm} (r:nu 0 [] N e M') {Hy:Hp}{Ty:Tg}{Ay:Wa}{a:AI} (st:cY s Hx Hy Tx Ty) (jy:WJ X Hy Ty s Ay M') (aw:Ay.wo=wo) (ev:EvN Hx Hy Ty s a e) (lo:M'.sw.phase="lost"->∃b,e.thing=some b/\Zow Hx Hy Ty (N.sw.phase≠"lost") M' b e.notes a):
  Hy p=some (.lst (as.map V.ref))/\SwI X M hs k n s wo p H H1 T (upd Hy p (.lst (as.map V.ref++[.ref a]))) (es++[evz e]) (as++[a]) M' Ty Ay:=by
 have hpy:Hy p=some (.lst (as.map V.ref)):=st.kp _ _ i.hp (by rw[i.tp];omega);have tpy:(Ty p).1=s+1:=by rw[st.tg _ _ i.hp];exact i.tp
 have stu:cY (s+1) Hy (upd Hy p (.lst (as.map V.ref++[.ref a]))) Ty Ty:=cY.upd st.wt hpy tpy;have al1:∀b,Hx b=none->H1 b=none:=λb hb=>by
  cases z:H1 b with
  | none=>rfl
  | some o=>obtain⟨o',e⟩:=i.al b o z;rw[hb]at e;cases e
 obtain⟨o1,h1p⟩:=h1p;obtain⟨l,⟨fl,t1,t2⟩,v1,v2⟩:=ev;have er:Gp H1 Hy Ty s a (evz e):=⟨l,al1 _ fl,v1,v2,t2,t1,Qm ok i.j r (Nat.zero_le _)⟩;have evs:Al (Gp H1 (upd Hy p (.lst (as.map V.ref++[.ref a]))) Ty s) (as++[a]) (es++[evz e]):=((i.ev.mono λa x h=>h.mv s0 st).app er).mono λa x h=>h.put h1p hpy;have st2:cY s H (upd Hy p (.lst (as.map V.ref++[.ref a]))) T Ty:=by
  have z:=i.st.trans st;exact⟨λb o hb nb=>by rw[aB (aD hb np)];exact z.kp b o hb nb,λb o hb=>by rw[aB (aD hb np)];exact z.al b o hb,z.tg,stu.wt⟩
 refine⟨hpy,st2,jy.other stu δ δ,aw,i.kw.step r,by rw[ao,List.map_append];rfl,tpy,evs,by rw[List.length_append];show _+1<=_;omega,λb o hb=>?_,?_⟩
 ·obtain⟨o2,h2⟩:=i.al b o hb;obtain⟨o3,h3⟩:=st.al b o2 h2;exact stu.al b o3 h3
 rcases i.go with ⟨_,nN,co⟩ | ⟨z,_⟩
 ·rw[qt];rcases nN.step r with ⟨ew,ph⟩ | ⟨ew,nM⟩
  ·refine .inr ⟨decide_eq_true ew,?_,?_⟩
   ·have:=co (n - es.length) [evz e] M' (by rw[show n - es.length=(n - es.length - 1)+1 by omega];exact .lost r ew);rw[show es.length+(n - es.length)=n by omega]at this;exact this
   ·obtain⟨b,eb,a0,wl,e1,e2,e3,e4,e5,e6,e7⟩:=lo ph;have fw:=e7 nN.1;have nwp:wl≠p:=λz=>by rw[z]at e4;rw[e4]at tpy;simp at tpy
    have nap:a0≠p:=λz=>by rw[z,hpy]at e3;cases e3
    refine⟨b,e.notes,a0,wl,?_,e1,e2,by rw[aB nap];exact e3,e4,by rw[aB nwp];exact e5,λc hc x y l' hl=>?_⟩
    ·rw[List.getLast?_concat];show some (e.word,oV e.thing,e.notes)=_;rw[ew,eb];rfl
    ·have ncp:c≠p:=λz=>by rw[z,ao]at hl;cases hl
     rw[aB ncp]at hl;rcases List.mem_append.mp hc with hc | hc
     ·obtain⟨x',_,l0,f0,g1,g2,k3,_⟩:=i.ev.mem hc;have gy:=st.kp _ _ g1 (k3.ne s0);rw[gy]at hl;cases hl;intro z;rw[z,g2]at fw;cases fw
     ·rw[List.mem_singleton.mp hc]at hl;exact e6 x y l' hl
  ·refine .inl ⟨decide_eq_false ew,nM,λn' es' M'' h=>?_⟩;have:=co (n'+1) (evz e::es') M'' (.go r ew h);rw[List.length_append,List.append_assoc];rw[show es.length+(n'+1)=es.length + [evz e].length+n' by show _=es.length+1+n';omega]at this;exact this
 ·rw[nl]at z;cases z
def wF(X:Cs):Sp:=λvs H Q E=>∃wo dd,vs=[.ref wo,.ref dd]/\(DnQ X wo dd H Q\/∃n:Nat,H dd=some (.tup (rV (.sw n)))/\SwL X wo n H Q)
section
theorem Ua{p:AI}(q:∃as es,H p=some (.lst (as.map V.ref))/\Al (TV H) as es/\Q (.bl (fu es)) H):wR K ξ [↑p] H:=by
 obtain⟨as,es,hp,al,h⟩:=q;have hl:=al.length;unfold wR;apply fU (bO.of hp) ?_;rw[bx];ext;rcases List.eq_nil_or_concat es with rfl | ⟨zs,x,rfl⟩
 ·have:as=[]:=List.length_eq_zero_iff.mp hl;subst this;rw[if_neg ε];exact h
 ·rw[List.concat_eq_append]at hl al h;rcases List.eq_nil_or_concat as with rfl | ⟨bs,a,rfl⟩
  ·rw[List.length_append]at hl;cases hl
  rw[List.concat_eq_append]at hl al hp ⊢;rw[List.length_append,List.length_append]at hl;have e1:[x].length=1:=rfl;have e2:[a].length=1:=rfl;obtain⟨a',ha',l,g1,g2⟩:=al.get (i:=zs.length) (y:=x) (by rw[List.getElem?_append_right υ,Nat.sub_self];rfl);rw[show zs.length=bs.length by omega,List.getElem?_append_right υ,Nat.sub_self]at ha';cases ha';rw[List.length_append,if_pos (decide_eq_true (by show(0:Int)<((bs.length+1:Nat):Int);omega))];apply eE (v:=.ref a) (bO.of hp) (by rw[List.map_append];exact jK _ _) ?_;exists a,_,0,_,rfl,rfl,fc.of g1,rfl;ext;rw[qt]at h;exact h
theorem SwI.fin{M:Wm}{hs:En}{k nn s:Nat}{wo p:AI}{H1:Hp}{T:Tg}{Hx:Hp}{es:List Rz}{as:AF}{N:Wm}{Tx:Tg}{Ax:Wa}(i:SwI X M hs k nn s wo p H H1 T Hx es as N Tx Ax)(sm:aY H H1)(hp1:∃o,H1 p=some o)(z:es.length=nn\/fu es=true):SwC M nn es N/\Al (Gp H Hx Tx s) as es/\(fu es=true->Ze8 Hx Tx N es as)/\∀c∈as,∀x y l,Hx c=some (.tup [x,y,.ref l])->p≠l:=by
 refine⟨?_,i.ev.mono λa x h=>h.base sm,λz=>?_,λc hc x y l h=>?_⟩
 ·rcases i.go with ⟨nz,_,co⟩ | ⟨_,h,_⟩
  ·rcases z with z | z
   ·have:=co 0 [] N (.stop N);rw[List.append_nil,Nat.add_zero,z]at this;exact this
   ·rw[nz]at z;cases z
  ·exact h
 ·rcases i.go with ⟨nz,_⟩ | ⟨_,_,h⟩
  ·rw[nz]at z;cases z
  ·exact h
 ·obtain⟨x',_,l0,f0,k1,_⟩:=i.ev.mem hc;rw[k1]at h;cases h;obtain⟨o,ho⟩:=hp1;exact aD ho f0
theorem SwI.same{M:Wm}{hs:En}{k nn s:Nat}{wo p:AI}{H1:Hp}{T:Tg}{Hx Hy:Hp}{es:List Rz}{as:AF}{N:Wm}{Tx:Tg}{Ax:Wa}(i:SwI X M hs k nn s wo p H H1 T Hx es as N Tx Ax)(s0:s≠0)(sm:aY Hx Hy):SwI X M hs k nn s wo p H H1 T Hy es as N Tx Ax:=by
 have st:=cY.same (s:=s) i.st.wt sm;refine⟨i.st.trans st,i.j.same sm,i.aw,i.kw,sm _ _ i.hp,i.tp,i.ev.mono λa x h=>h.mv s0 st,i.le,λb o hb=>let ⟨o',h⟩:=i.al b o hb;⟨o',sm _ _ h⟩,?_⟩;rcases i.go with h | ⟨h1,h2,b,w,a,wl,g1,g2,g3,g4,g5,g6,g7⟩
 ·exact .inl h
 ·refine .inr ⟨h1,h2,b,w,a,wl,g1,g2,g3,sm _ _ g4,g5,sm _ _ g6,λc hc x y l hl=>?_⟩;obtain⟨x',_,l0,_,k1,_⟩:=i.ev.mem hc;have:=sm _ _ k1;rw[this]at hl;cases hl;exact g7 c hc _ _ _ k1
theorem SwI.new{M:Wm}{hs:En}{k nn s:Nat}{wo p:AI}{T:Tg}{A:Wa}(w:WT H T)(s0:s≠0)(j:WJ X H T s A M)(aw:A.wo=wo)(kw:KW M hs k)(nl:Nl M)(np:H p=none):SwI X M hs k nn s wo p H (upd H p (.lst [])) T (upd H p (.lst [])) [] [] M (eG T p (s+1,0)) A:=
 ⟨cY.fresh w np,j.other (cY.fresh (s:=s+1) (v:=(s+1,0)) (o:=.lst []) w np) δ δ,aw,kw,ao,by rw[dM],.nil,Nat.zero_le _,λb o hb=>⟨o,hb⟩,.inl ⟨rfl,nl,λn' es' M' h=>by rw[List.length_nil,Nat.zero_add];exact h⟩⟩
theorem Zj5{wo:AI}{m:Int}(q:SwQ X wo m H Q):Cr K (bZ X Y8) Fg ξ [↑wo,some (.int m),none] H:=by
 obtain⟨T,s,A,M,hs,k,nn,rfl,w,s0,j,aw,kw,hb,hk,nl,ZD2,q⟩:=q;unfold Cr;apply⟨ε,λp np=>?_⟩;have sm:=aK np (.lst []);have i0:=SwI.new (nn:=nn) w s0 j aw kw nl np;have c1:upd H p (.lst []) p=some (.lst (([]:AF).map V.ref)):=ao;generalize upd H p (.lst [])=H1 at sm c1 i0 ⊢;have fin:∀{Hx es as N Tx Ax},SwI X M hs k nn s wo p H H1 T Hx es as N Tx Ax->(es.length=nn\/fu es=true)->Q (.ref p) Hx:=λ{Hx es as N Tx Ax} i z=>by
  obtain⟨f1,f2,f3,f4⟩:=i.fin sm ⟨_,c1⟩ z;exact q es as N Hx Tx Ax p f1 i.le i.kw i.st i.j i.aw f2 i.hp np (.inr i.tp) f3 f4
 exists λμ σ Hx=>∃es as N Tx Ax,σ=[↑wo,some (.int nn),↑p]/\μ=nn - es.length/\SwI X M hs k nn s wo p H H1 T Hx es as N Tx Ax,⟨_,[],[],M,_,A,rfl,rfl,i0⟩;rintro μ σ Hx ⟨es,as,N,Tx,Ax,rfl,rfl,i⟩;have hl:=i.ev.length;apply fU (bO.of i.hp) ?_;rw[bx];apply Ai (λlt=>?_) (λge=>?_)
 ·exists p,rfl,as,es,i.hp,i.ev.mono λa x h=>h.h;refine⟨fu es,rfl,?_⟩;cases z:fu es with
  | true=>
   apply fin i (.inr z)
  | false=>
   exists _,λ_ _ h=>h;exists .inl ⟨rfl,_,bO.of i.hp⟩;ext;have nN:Nl N:=by
    rcases i.go with ⟨_,h,_⟩ | ⟨z',_⟩
    ·exact h
    ·rw[z]at z';cases z'
   refine⟨wo,rfl,Tx,s,Ax,N,0,[],i.st.wt,s0,i.j,i.aw,i.kw.ok hb δ,trivial,λy=>absurd y nN.1,λe M' r Hy Ty Ay a sty jy awy ev lo=>?_⟩;obtain⟨hpy,i2⟩:=i.turn s0 np ⟨_,c1⟩ (i.kw.ok hb δ) δ z r sty jy awy ev lo;apply⟨p,_,_,rfl,rfl,hpy,by rw[bx,sizeLine_eq];omega,?_⟩;apply⟨nn - (es++[evz e]).length,by rw[List.length_append];show nn - (es.length+1)<_;omega,es++[evz e],as++[a],M',Ty,Ay,rfl,rfl,i2⟩
 ·apply fin i (.inl (by have:=i.le;omega))
theorem Zlh{wo:AI}{m:Int}(q:SwQ X wo m H Q\/∃n:Nat,m=n/\SwL X wo n H Q):Cr K (bZ X Y8) Fg ξ [↑wo,some (.int m),none] H:=by
 rcases q with q | ⟨nn,rfl,T,s,A,M,b,w,hs,k,n1,wt,s0,j,aw,kw,hb,hk,ph,lo,wl,q⟩
 ·exact Zj5 q
 unfold Cr;apply⟨ε,λp np=>?_⟩;have sm:=aK np (.lst []);have c1:upd H p (.lst []) p=some (.lst []):=ao;have st1:cY s H (upd H p (.lst [])) T (eG T p (s+1,0)):=cY.fresh wt np;have j1:=j.other (cY.fresh (s:=s+1) (v:=(s+1,0)) (o:=.lst []) wt np) δ δ;have lo1:El (upd H p (.lst [])) (eG T p (s+1,0)) M b w:=by
  obtain⟨a,wl,e1,e2,e3,e4,e5⟩:=lo;exact⟨a,wl,e1,by rw[gG (aD e3 np)];exact e2,sm _ _ e3,by rw[gG (aD e5 np)];exact e4,sm _ _ e5⟩
 have tp1:(eG T p (s+1,0) p).1=s+1:=by rw[dM]
 generalize upd H p (.lst [])=H1 at sm c1 st1 j1 lo1 ⊢;generalize eG T p (s+1,0)=T1 at st1 j1 lo1 tp1;exists λμ σ Hx=>σ=[↑wo,some (.int nn),↑p]/\((μ=1/\Hx=H1)\/(μ=0/\Q (.ref p) Hx/\∃a,Hx p=some (.lst [.ref a])/\TV Hx a (("lost":Str),V.int b,w))),⟨1,rfl,.inl ⟨rfl,rfl⟩⟩;rintro μ σ Hx ⟨rfl,z⟩;rcases z with ⟨rfl,rfl⟩ | ⟨rfl,qq,a,hp,ev⟩
 ·apply fU (bO.of c1) ?_;apply Ai (λlt=>?_) (λge=>absurd (by show(0:Int)<nn;omega) ge);exists p,rfl,[],[],c1,.nil;refine⟨false,rfl,?_⟩;exists _,λ_ _ h=>h;exists .inl ⟨rfl,_,bO.of c1⟩;apply⟨wo,rfl,T1,s,A,M,b,w,st1.wt,s0,j1,aw,kw.ok hb δ,trivial,λ_=>lo1,λe M' r Hy Ty Ay a sty jy awy ev lo=>?_⟩;have ok:=kw.ok hb (show k<=900 by omega);have sn:=Qm ok j1 r wl;cases r with
  | again=>
   have hpy:Hy p=some (.lst []):=sty.kp _ _ c1 (by rw[tp1];omega);have tpy:(Ty p).1=s+1:=by rw[sty.tg _ _ c1];exact tp1
   have stu:cY (s+1) Hy (upd Hy p (.lst ([]++[.ref a]))) Ty Ty:=cY.upd sty.wt hpy tpy;obtain⟨l,⟨fl,t1,t2⟩,v1,v2⟩:=ev;have nlp:l≠p:=λz=>by rw[z,c1]at fl;cases fl
   have nap:a≠p:=λz=>by rw[z,hpy]at v1;cases v1
   have v1':upd Hy p (.lst ([]++[.ref a])) a=some (.tup [.str "lost",.int b,.ref l]):=by rw[aB nap];exact v1
   have v2':upd Hy p (.lst ([]++[.ref a])) l=some (.lst (w.map V.int)):=by rw[aB nlp];exact v2
   have st2:cY s H (upd Hy p (.lst ([]++[.ref a]))) T Ty:=by
    have z:=st1.trans sty;exact⟨λb o hb nb=>by rw[aB (aD hb np)];exact z.kp b o hb nb,λb o hb=>by rw[aB (aD hb np)];exact z.al b o hb,z.tg,stu.wt⟩
   obtain⟨b',eb,a0,wl',e1,e2,e3,e4,e5,e6,_⟩:=lo ph;have eb:some b=some b':=eb;cases eb;have nwp:wl'≠p:=λz=>by rw[z]at e4;rw[e4]at tpy;simp at tpy
   have n0p:a0≠p:=λz=>by rw[z,hpy]at e3;cases e3
   apply⟨p,_,_,rfl,rfl,hpy,by show 0<sizeLine;decide,?_⟩;apply⟨0,ε,rfl,.inr ⟨rfl,q _ Ty Ay p a st2 (jy.other stu δ δ) awy ⟨l,sm.free fl,v1',v2',t2,t1,sn⟩ ao np ⟨a0,wl',e1,e2,by rw[aB n0p];exact e3,e4,by rw[aB nwp];exact e5,λx y l' h=>?_⟩ (λx y l' h=>?_),a,ao,l,v1',v2'⟩⟩
   ·rw[aB nap]at h;exact e6 x y l' h
   ·rw[v1']at h;cases h;exact nlp.symm
  | begin z=>exact absurd (ph.symm.trans z) ε
  | walk _ _ _ z=>exact absurd (ph.symm.trans z) ε
  | look _ z=>exact absurd (ph.symm.trans z) ε
  | cut _ _ z=>exact absurd (ph.symm.trans z) ε
  | lost _ _ _ _ _ _ z=>exact absurd (ph.symm.trans z) ε
  | pass z=>exact absurd (ph.symm.trans z) ε
  | back _ z=>exact absurd (ph.symm.trans z) ε
  | fin z=>exact absurd (ph.symm.trans z) ε
 ·apply fU (bO.of hp) ?_;apply Ai (λlt=>?_) (λge=>?_)
  ·exists p,rfl,[a],[_],hp,.cons ev .nil;refine⟨true,rfl,?_⟩;apply qq
  ·apply qq
theorem Zl6{wo dd:AI}(q:DnQ X wo dd H Q\/∃n:Nat,H dd=some (.tup (rV (.sw n)))/\SwL X wo n H Q):Jb K (Zb0 X) (Zaz X) ξ [↑wo,↑dd] H:=by
 rcases q.symm with ⟨m,ed,q⟩ | q
 ·unfold Jb;exists dd,_,0,_,rfl,rfl,fc.of ed,rfl;apply Ai (λ_=>?_) (λz=>absurd rfl z);exists dd,_,1,_,rfl,rfl,fc.of ed,rfl;apply⟨wo,_,rfl,.inr ⟨m,rfl,q⟩⟩
 obtain⟨T,s,A,M,r,hs,k,w,s0,j,aw,ed,o,kw,hb,hk,nl,q⟩:=q;unfold Jb;cases r with
 | sw m=>
  have o1:1<=m:=o.1;have o2:m<=200:=o.2;exists dd,_,0,_,rfl,rfl,fc.of ed,rfl;apply Ai (λ_=>?_) (λz=>absurd rfl z);exists dd,_,1,_,rfl,rfl,fc.of ed,rfl;apply⟨wo,_,rfl,.inl ⟨T,s,A,M,hs,k,m,rfl,w,s0,j,aw,kw,hb,hk,nl,δ,λes as M' H' T' A' p sw le kw' st j' aw' ev hp np tp lo pl=>?_⟩⟩;exact q es as M' H' T' A' p sw (((sw.det nl sw).2.2.2.2) δ) δ (kw'.mono (Nat.le_succ _)) st j' aw' ev hp np tp lo pl
 | dd d=>
  have wd:∃w,¬ w=("sweep":Str)/\(dV d)[0]? =some (.str w):=by cases d<;>exact⟨_,ε,rfl⟩
  obtain⟨wz,nw,ew⟩:=wd;exists dd,_,0,_,rfl,rfl,fc.of ed,mO ε ew;apply Ai (λz=>absurd z nw) (λ_=>?_);apply⟨wo,dd,rfl,T,s,A,M,d,hs,k,w,s0,j,aw,ed,o,kw,hk,λH' T' A' a st j' aw' ev=>?_⟩;apply⟨by show 1<=_;decide,λp hp=>?_⟩;have s2:=aK hp (.lst [.ref a]);have er:Gp H (upd H' p (.lst [.ref a])) T' s a (UW (rO M d)):=by
   obtain⟨l,f,h1,h2,t⟩:=ev;exact⟨l,f,s2 _ _ h1,s2 _ _ h2,t⟩
  exact q [UW (rO M d)] [a] _ _ T' A' p ⟨rfl,rfl⟩ ζ (by show 1<=1000;decide) (kw.turn o) (st.trans (cY.same st.wt s2)) (j'.same s2) aw' (.cons er .nil) ao (cY.free st hp) (rY st.wt s0 hp).2 (λz=>absurd (of_decide_eq_true z) (IW M d)) λc hc x y l h=>by
   obtain⟨l0,_,h1,h2,_⟩:=ev;rw[List.mem_singleton.mp hc,s2 _ _ h1]at h;cases h;exact(aD h2 hp).symm
end
structure TxS(K:aG)(X:Cs)(bw:AI):Prop where
 w:rT K X
 jk:Er K bw
 Zmv:bA K bw "room"
 Zmw:bA K bw "kind"
 Zq:bA K bw "hands"
 Zg5:bA K bw "rows"
def Aw(C:AI):Sp:=λvs H Q E=>∃p m kd hl rl,vs=[.ref p,.int m,.ref kd,.ref hl,.ref rl]/\∃dx xs ys,H p=some (.ins C dx [])/\H hl=some (.lst xs)/\H rl=some (.lst ys)/\∀H' h2 r2,H' p=some (.ins C dx (uw m kd h2 r2))->H' h2=some (.lst xs)->H' r2=some (.lst ys)->(∀b o,H b=some o->b≠p->H' b=some o)->H h2=none->H r2=none->h2≠r2->Q .non H'
def TF(H:Hp)(ps:AF)(lg:List (List Rz)):Prop:=Al (λb es=>∃as:AF,H b=some (.lst (as.map V.ref))/\Al (TV H) as es) ps lg
def XF(H0 H:Hp)(T:Tg)(s:Nat)(ps:AF)(lg:List (List Rz)):Prop:=Al (λb es=>∃as:AF,H b=some (.lst (as.map V.ref))/\H0 b=none/\Ol s (T b)/\Al (Gp H0 H T s) as es) ps lg
def tL(lg:List (List Rz)):Bool:=match lg.getLast? with
 | some es=>fu es
 | none=>false
theorem mZ(lg:List (List Rz))(es:List Rz):tL (lg++[es])=fu es:=by
 unfold tL;rw[List.getLast?_concat]
theorem TV.same{H H':Hp}{a:AI}{x:Rz}(h:TV H a x)(s:aY H H'):TV H' a x:=by
 obtain⟨l,h1,h2⟩:=h;exact⟨l,s _ _ h1,s _ _ h2⟩
theorem TF.same{H H':Hp}{ps:AF}{lg:List (List Rz)}(h:TF H ps lg)(s:aY H H'):TF H' ps lg:=h.mono (by rintro b es ⟨as,h1,h2⟩;exact⟨as,s _ _ h1,h2.mono λa x z=>TV.same z s⟩)
theorem XF.h{H0 H:Hp}{T:Tg}{s:Nat}{ps:AF}{lg:List (List Rz)}(h:XF H0 H T s ps lg):TF H ps lg:=h.mono (by rintro b es ⟨as,h1,_,_,h2⟩;exact⟨as,h1,h2.mono λa x z=>Gp.h z⟩)
theorem XF.mv{H0 H H':Hp}{T T':Tg}{s:Nat}{ps:AF}{lg:List (List Rz)}(h:XF H0 H T s ps lg)(s0:s≠0)(st:cY s H H' T T'):XF H0 H' T' s ps lg:=h.mono (by rintro b es ⟨as,h1,f,t,h2⟩;exact⟨as,st.kp _ _ h1 (t.ne s0),f,by rw[st.tg _ _ h1];exact t,h2.mono λa x z=>Gp.mv s0 z st⟩)
theorem XF.put{H0 H:Hp}{T:Tg}{s:Nat}{ps:AF}{lg:List (List Rz)}{p:AI}{o o0:HO}{xs:List V}(h:XF H0 H T s ps lg)(hp:H0 p=some o0)(hl:H p=some (.lst xs)):XF H0 (upd H p o) T s ps lg:=h.mono (by rintro b es ⟨as,h1,f,t,h2⟩;exact⟨as,by rw[aB λz=>by rw[z,hp]at f;cases f];exact h1,f,t,h2.mono λa x z=>Gp.put z hp hl⟩)
def vp:Sp:=λvs H Q E=>∃p,vs=[.ref p]/\∃ps lg,H p=some (.lst (ps.map V.ref))/\TF H ps lg/\Q (.bl (tL lg)) H
def yH(CS:AI)(X:Cs):Sp:=λvs H Q E=>∃sc,vs=[.ref sc]/\∃T s dx m kd hl rl lk w t hs,H sc=some (.ins CS dx (uw m kd hl rl))/\KdO X H kd lk w t/\HsO H hl hs/\HsB hs/\WT H T/\s≠0/\T kd=(0,0)/\T lk=(0,0)/\∀H' T' A,aY H H'->(∀b o,H b=some o->T' b=T b)->WT H' T'->WJ X H' T' s A (Ft m hs w t)->Q (.ref A.wo) H'
def Tj(X:Cs):Sp:=λvs H Q E=>∃wo,vs=[.ref wo]/\∃T s A M,WJ X H T s A M/\A.wo=wo/\M.sw.phase=("lost":Str)/\∀H',aY H H'->Q (.int 0) H'
def Zwz(CS:AI)(X:Cs)(sc:AI)(most:Option Nat)(H:Hp)(Q:VK):Prop:=∃dx m kd hl rl lk w t hs,∃rs:List Om,H sc=some (.ins CS dx (uw m kd hl rl))/\KdO X H kd lk w t/\0<=t/\t<4/\HsO H hl hs/\HsB hs/\RwL H rl rs/\rs.length<=100/\(∀r∈rs,okW hs r)/\
 ∀H' p ps lg M',aY H H'->pJ (Ft m hs w t) (rs.take (most.getD rs.length)) lg M'->H' p=some (.lst (ps.map V.ref))->TF H' ps lg->H p=none->Q (.ref p) H'
def oN:Option Nat->V
 | none=>.non
 | some k=>.int k
def Zov(CS:AI)(X:Cs):Sp:=λvs H Q E=>∃sc v,vs=[.ref sc,v]/\∃most,v=oN most/\Zwz CS X sc most H Q
theorem Nl.new{m:Int}{hs:En}{w t:Int}:Nl (Ft m hs w t):=⟨by show ¬("rest":Str)="lost";decide,rfl⟩
section
variable {K:aG}{X:Cs}{bw:AI}{H:Hp}{Q:VK}{E:XK}{n:ν}{bk ct:ν}
theorem Kf{p kd hl rl:AI}{m:Int}(T:TxS K X bw)(q:∃dx xs ys,H p=some (.ins bw dx [])/\H hl=some (.lst xs)/\H rl=some (.lst ys)/\∀H' h2 r2,H' p=some (.ins bw dx (uw m kd h2 r2))->H' h2=some (.lst xs)->H' r2=some (.lst ys)->(∀b o,H b=some o->b≠p->H' b=some o)->H h2=none->H r2=none->h2≠r2->Q .non H'):
  nH K ⟨λ_ H'=>Q .non H',Q,bk,ct⟩ [↑p,some (.int m),↑kd,↑hl,↑rl] H:=by
 obtain⟨dx,xs,ys,hp,hh,hr,h⟩:=q;have nhp:hl≠p:=λe=>by rw[e,hp]at hh;cases hh
 have nrp:rl≠p:=λe=>by rw[e,hp]at hr;cases hr
 unfold nH;exists p,bw,dx,[],rfl,hp,T.jk,T.Zmv,ε;apply⟨p,bw,dx,_,rfl,ao,T.jk,T.Zmw,by show 1<1000;decide,?_⟩;rw[dg];apply JS (bO.of (by rw[aB nhp];exact hh)) λh2 nh2=>?_;have np2:p≠h2:=λe=>by rw[<- e,ao]at nh2;cases nh2
 apply⟨p,bw,dx,_,rfl,by rw[aB np2];exact ao,T.jk,T.Zq,by show 2<1000;decide,?_⟩;ext;have Zq5:h2≠p:=Ne.symm np2;have nrh:rl≠h2:=λe=>by rw[<- e,aB nrp,hr]at nh2;cases nh2
 refine JS (bO.of (by rw[aB nrp,aB nrh,aB nrp];exact hr)) λr2 nr2=>?_;have npr:p≠r2:=λe=>by rw[<- e,ao]at nr2;cases nr2
 have Zsz:r2≠p:=Ne.symm npr;have nhr:h2≠r2:=λe=>by rw[<- e,aB Zq5,ao]at nr2;cases nr2
 apply⟨p,bw,dx,_,rfl,by rw[aB npr];exact ao,T.jk,T.Zg5,by show 3<1000;decide,?_⟩;refine h _ h2 r2 ?_ ?_ ?_ (λb o hb nb=>?_) (by rw[aB Zq5]at nh2;exact nh2) (by rw[aB Zsz,aB (Ne.symm nhr),aB Zsz]at nr2;exact nr2) nhr
 ·rw[ao,Zjd]
 ·rw[aB Zq5,aB nhr,aB Zq5,ao]
 ·rw[aB Zsz,ao]
 ·have n1:b≠h2:=λe=>by rw[<- e,aB nb,hb]at nh2;cases nh2
  have n2:b≠r2:=λe=>by rw[<- e,aB nb,aB n1,aB nb,hb]at nr2;cases nr2
  rw[aB nb,aB n2,aB nb,aB n1,aB nb];exact hb
theorem Zgi{p:AI}(q:∃ps lg,H p=some (.lst (ps.map V.ref))/\TF H ps lg/\Q (.bl (tL lg)) H):GK K Fg ξ [↑p] H:=by
 obtain⟨as,es,hp,al,h⟩:=q;have hl:=al.length;unfold GK;apply fU (bO.of hp) ?_;rw[bx];ext;rcases List.eq_nil_or_concat es with rfl | ⟨zs,x,rfl⟩
 ·have:as=[]:=List.length_eq_zero_iff.mp hl;subst this;rw[if_neg ε];exact h
 ·rw[List.concat_eq_append]at hl al h;rcases List.eq_nil_or_concat as with rfl | ⟨bs,a,rfl⟩
  ·rw[List.length_append]at hl;cases hl
  rw[List.concat_eq_append]at hl al hp ⊢;rw[List.length_append,List.length_append]at hl;have e1:[x].length=1:=rfl;have e2:[a].length=1:=rfl;obtain⟨a',ha',as',g1,g2⟩:=Al.get al (i:=zs.length) (y:=x) (by rw[List.getElem?_append_right υ,Nat.sub_self];rfl);rw[show zs.length=bs.length by omega,List.getElem?_append_right υ,Nat.sub_self]at ha';cases ha';rw[List.length_append,if_pos (decide_eq_true (by show(0:Int)<((bs.length+1:Nat):Int);omega))];apply eE (v:=.ref a) (bO.of hp) (by rw[List.map_append];exact jK _ _) ?_;ext;rw[mZ]at h;exact⟨a,rfl,as',x,g1,g2,h⟩
theorem Zbd{sc:AI}(TT:TxS K X bw)(q:∃T s dx m kd hl rl lk w t hs,H sc=some (.ins bw dx (uw m kd hl rl))/\KdO X H kd lk w t/\HsO H hl hs/\HsB hs/\WT H T/\s≠0/\T kd=(0,0)/\T lk=(0,0)/\∀H' T' A,aY H H'->(∀b o,H b=some o->T' b=T b)->WT H' T'->WJ X H' T' s A (Ft m hs w t)->Q (.ref A.wo) H'):
  Cq K X.W (Av X) ξ [↑sc] H:=by
 obtain⟨T,s,dx,m,kd,hl,rl,lk,w,t,hs,o,kk,hls,hb,wt,s0,tk,tl,h⟩:=q;obtain⟨as,g1,g2⟩:=id hls;obtain⟨⟨d1,ok1⟩,⟨d2,ol⟩⟩:=id kk;unfold Cq;apply aL o TT.jk TT.Zmv Qt ?_;apply aL o TT.jk TT.Zmw Qu ?_;apply aL o TT.jk TT.Zq Bd ?_;ext;intro x dy nx ndy ne;have s1:aY H (upd (upd H dy (.own x)) x (.ins X.W dy [])):=λb o hb=>by rw[aB (aD hb nx),aB (aD hb ndy)];exact hb
 have nlk:lk≠x:=by
  rcases ol with ⟨_,e⟩ | ⟨_,e⟩ | ⟨_,e⟩<;>exact aD e nx
 have n5:=hb.n5;refine⟨x,m,kd,hl,rfl,dy,T,s,lk,w,t,as,hs,ao,wt.same s1,s0,kk.same s1,tk,tl,aD ok1 nx,nlk,s1 _ _ g1,Oj g2.length λi a y e1 e2=>?_,δ,λH2 T2 A k2 t2 w2 aw j2=>⟨rfl,?_⟩⟩
 ·obtain⟨a',e3,z⟩:=g2.get e2;rw[e1]at e3;cases e3;have:=hb.sb y (List.mem_of_getElem? e2);exact⟨s1 _ _ z,δ,δ⟩
 ·have:=h H2 T2 A (λb o hb=>k2 b o (s1 b o hb) (aD hb nx)) (λb o hb=>t2 b o (s1 b o hb) (aD hb nx)) w2 j2;rw[aw]at this;exact this
end
section
variable {K:aG}{X:Cs}{bw:AI}{H:Hp}{Q:VK}{E:XK}{n:ν}{bk ct:ν}
theorem Zeg{wo:AI}(Tx:rT K X)(q:∃T s A M,WJ X H T s A M/\A.wo=wo/\M.sw.phase=("lost":Str)/\∀H',aY H H'->Q (.int 0) H'):GD K (bZ X Y8) ξ [↑wo,none] H:=by
 obtain⟨T,s,A,M,j,rfl,ph,q⟩:=q;obtain⟨d1,ow⟩:=j.jb.ow;obtain⟨d2,os⟩:=j.js.os;rw[ph]at os;unfold GD;exists λμ σ Hx=>σ=[↑A.wo,some (.int 0)]/\aY H Hx,⟨0,rfl,aY.refl _⟩;rintro μ σ Hx ⟨rfl,sx⟩;apply aL (sx _ _ ow) Tx.cW Tx.Ve bu ?_;apply aL (sx _ _ os) Tx.cS Tx.n2 jF ?_;apply⟨bL ζ,λtp ntp=>?_⟩;have s1:=aK ntp (.tup [V.str "rest",.str "lost"]);refine⟨tp,_,rfl,.inr (fc.of ao),rfl,rfl,?_⟩;refine⟨false,rfl,?_⟩;apply q _ (sx.trans s1)
theorem Zsj{sc:AI}{v:V}(TT:TxS K X bw)(q:∃most,v=oN most/\Zwz bw X sc most H Q):
  Zfo K vp (wF X) (yH bw X) ξ [↑sc,some v,none,none,none] H:=by
 obtain⟨most,rfl,dx,m,kd,hl,rl,lk,w,t,hs,rs,o,kk,t0,t1,hls,hb,⟨as,hr,len,hrow⟩,h1,rok,h⟩:=q;unfold Zfo;apply⟨sc,rfl,λ_=>(0,0),1,dx,m,kd,hl,rl,lk,w,t,hs,o,kk,hls,hb,λ_ _=>rfl,ε,rfl,rfl,λH1 T1 A s1 tg1 wt1 j1=>?_⟩;apply⟨ε,λp hp=>?_⟩;have st2:cY 7 H1 (upd H1 p (.lst [])) T1 (eG T1 p (7,0)):=cY.fresh wt1 hp;have j2:=j1.other st2 ε ε;have s2:=s1.trans (aK hp (.lst []));have tp2:eG T1 p (7,0) p=(7,0):=dM;have tg2:∀b o,H b=some o->eG T1 p (7,0) b=(0,0):=λb o hb=>by rw[st2.tg _ _ (s1 _ _ hb)];exact tg1 b o hb
 have c2:upd H1 p (.lst []) p=some (.lst (([]:AF).map V.ref)):=ao;have fp:H p=none:=s1.free hp;have wt2:=st2.wt;generalize eG T1 p (7,0)=T2 at st2 j2 tp2 tg2 wt2;generalize upd H1 p (.lst [])=H2 at st2 j2 s2 c2 wt2 ⊢;apply aL (s2 _ _ o) TT.jk TT.Zg5 Bv ?_;ext;have cut:∃hi:AA,((oN most=.non/\hi=none)\/∃i,oN most=.int i/\hi=some i)/\M6 (as.map V.ref) none hi=(as.take (most.getD rs.length)).map V.ref:=by
  cases most with
  | none=>
   refine⟨none,.inl ⟨rfl,rfl⟩,?_⟩;unfold M6;rw[show HT.jW (as.map V.ref).length 0 none=0 from rfl,show HT.jW (as.map V.ref).length (as.map V.ref).length none=(as.map V.ref).length from rfl,List.drop_zero,Nat.sub_zero,List.take_length];show _=(as.take rs.length).map V.ref;rw[<- len,List.take_length]
  | some k=>
   refine⟨some k,.inr ⟨_,rfl,rfl⟩,?_⟩;unfold M6;rw[HT.QJ,List.drop_zero,Nat.sub_zero];show _=(as.take k).map V.ref;have:HT.jW (as.map V.ref).length (as.map V.ref).length (some (k:Int))=min k as.length:=by
    rw[bx];simp only[HT.jW];rw[if_neg δ];omega
   rw[this,List.map_take];rcases Nat.le_total k as.length with z | z
   ·rw[Nat.min_eq_left z]
   ·rw[Nat.min_eq_right z,List.take_of_length_le (by rw[bx];exact Nat.le_refl _),List.take_of_length_le (by rw[bx];exact z)]
 obtain⟨hi,ehi,Zgv⟩:=cut;have key:∀R:VK,U0 K (.ref rl) none hi H2 R->(oN most=.non/\U0 K (.ref rl) none none H2 R)\/∃i,oN most=.int i/\U0 K (.ref rl) none (some i) H2 R:=λR hh=>by
  rcases ehi with ⟨e1,e2⟩ | ⟨i,e1,e2⟩
  ·rw[e2]at hh;exact .inl ⟨e1,hh⟩
  ·rw[e2]at hh;exact .inr ⟨i,e1,hh⟩
 refine key _ ?_;refine⟨rl,_,rfl,bO.of (s2 _ _ hr),λql hq=>?_⟩;rw[Zgv];have okt:∀r∈rs.take (most.getD rs.length),okW hs r:=λr hr=>rok r (List.mem_of_mem_take hr);have Zsk:∀(i:Nat) a,(as.take (most.getD rs.length))[i]? =some a->∃r,(rs.take (most.getD rs.length))[i]? =some r/\H a=some (.tup (rV r)):=λi a ha=>by
  have hi:i<most.getD rs.length:=by
   have:=(cZ ha).1;rw[List.length_take]at this;omega
  rw[List.getElem?_take_of_lt hi]at ha ⊢;exact hrow i a ha
 have lent:(as.take (most.getD rs.length)).length=(rs.take (most.getD rs.length)).length:=by rw[List.length_take,List.length_take,len]
 have Zxn:(as.take (most.getD rs.length)).length<=100:=by rw[List.length_take];omega
 generalize rs.take (most.getD rs.length)=rt at okt Zsk lent h;generalize as.take (most.getD rs.length)=at' at Zsk lent Zxn ⊢;generalize zz:upd H2 ql _=H3;obtain⟨s3,c3⟩:=nwO hq zz;have tq:T2 ql=(0,0):=wt2 ql hq;have cp3:=s3 _ _ c2;have j3:=j2.same s3;have wt3:=wt2.same s3;have s03:=s2.trans s3;have k0:KW (Ft m hs w t) hs 0:=KW.new t0 t1;refine⟨ql,rfl,⟨_,bO.of c3⟩,forL (at'.map V.ref) (λi σ Hx=>∃Tx Ax N ps lg v4,σ=[↑sc,some (oN most),↑A.wo,↑p,v4]/\aY H Hx/\(∀b o,H b=some o->Tx b=(0,0))/\(Hx ql=some (.lst (at'.map V.ref))/\Tx ql=(0,0))/\WT Hx Tx/\WJ X Hx Tx 1 Ax N/\Ax.wo=A.wo/\KW N hs i/\Nl N/\(Hx p=some (.lst (ps.map V.ref))/\Tx p=(7,0))/\XF H3 Hx Tx 1 ps lg/\lg.length<=i/\(∀b o,H3 b=some o->∃o',Hx b=some o')/\∀rs' Oe M',pJ N rs' Oe M'->pJ (Ft m hs w t) (rt.take i++rs') (lg++Oe) M') ⟨T2,A,_,[],[],none,rfl,s03,tg2,⟨c3,tq⟩,wt3,j3,rfl,k0,Nl.new,⟨cp3,tp2⟩,.nil,Nat.le_refl _,λb o hb=>⟨o,hb⟩,λrs' Oe M' h=>h⟩ (by rintro i σ Hx _ ⟨_,_,_,_,_,_,_,_,_,⟨c,_⟩,_⟩;exact bO.of c) ?_ ?_⟩
 ·rintro i v σ Hx hv ⟨Tx,Ax,N,ps,lg,v4,rfl,sx,tgx,⟨cq,tqx⟩,wtx,jx,aw,kx,nl,⟨cp,tpx⟩,lgx,hlg,al,co⟩;rw[cI]at hv;obtain⟨a,ha,rfl⟩:=Option.map_eq_some_iff.mp hv;obtain⟨r,er,hd⟩:=Zsk i a ha;have hi:=(cZ ha).1;have et:rt.take (i+1)=rt.take i++[r]:=by rw[List.take_add_one,er];rfl
  exists .inl ⟨rfl,_,bO.of cp⟩;apply⟨A.wo,a,rfl,.inl ⟨Tx,1,Ax,N,r,hs,i,wtx,ε,jx,aw,sx _ _ hd,okt r (List.mem_of_getElem? er),kx,hb,δ,nl,λes as' M' Hy Ty Ay b rr ne le kw' sty jy awy ev hbb fb tb lo _=>?_⟩⟩;have cpy:=sty.kp _ _ cp (by rw[tpx];decide);have tpy:Ty p=(7,0):=by rw[sty.tg _ _ cp];exact tpx
  have lps:ps.length=lg.length:=lgx.length;apply⟨p,_,_,rfl,rfl,cpy,by rw[bx,sizeLine_eq];omega,?_⟩;have stz:cY 7 Hy (upd Hy p (.lst Ψ)) Ty Ty:=cY.upd sty.wt cpy (by rw[tpy]);have jz:=jy.other stz ε ε;have fr3:∀c,Hx c=none->H3 c=none:=λc hc=>by
   cases z:H3 c with
   | none=>rfl
   | some o=>obtain⟨o',e⟩:=al c o z;rw[hc]at e;cases e
  have lgz:XF H3 (upd Hy p (.lst Ψ)) Ty 1 (ps++[b]) (lg++[es]):=XF.put (Al.app (lgx.mv ε sty) ⟨as',hbb,fr3 _ fb,tb,ev.mono (by rintro a x ⟨l,f,h⟩;exact⟨l,fr3 _ f,h⟩)⟩) cp3 cpy;have cz:upd Hy p (.lst Ψ) p=some (.lst ((ps++[b]).map V.ref)):=by rw[ao,List.map_append];rfl
  have sxz:aY H (upd Hy p (.lst Ψ)):=λc o hc=>stz.kp _ _ (sty.kp _ _ (sx _ _ hc) (by rw[tgx c o hc];decide)) (by rw[sty.tg _ _ (sx _ _ hc),tgx c o hc];decide);exists p,rfl,ps++[b],lg++[es],cz,lgz.h;rw[mZ];refine⟨fu es,rfl,?_⟩;cases z:fu es with
  | true=>
   ext;have rn:=co (r::rt.drop (i+1)) [es] M' (.lost rr z);have ed:rt.take i++r::rt.drop (i+1)=rt:=by
    have:=List.take_append_drop (i+1) rt;rw[et,List.append_assoc]at this;exact this
   rw[ed]at rn;exact h _ p _ _ M' sxz rn cz lgz.h fp
  | false=>
   ext;have cqy:=sty.kp _ _ cq (by rw[tqx];decide);refine⟨Ty,Ay,M',ps++[b],lg++[es],_,rfl,sxz,λc o hc=>by rw[sty.tg _ _ (sx _ _ hc)];exact tgx c o hc,⟨stz.kp _ _ cqy (by rw[sty.tg _ _ cq,tqx];decide),by rw[sty.tg _ _ cq];exact tqx⟩,stz.wt,jz,awy,kw',((rr.det nl rr).2.1 z).2,⟨cz,tpy⟩,lgz,by rw[List.length_append];show _+1<=_;omega,λc o hc=>?_,λrs' Oe M'' hh=>?_⟩
   ·obtain⟨o1,e1⟩:=al c o hc;obtain⟨o2,e2⟩:=sty.al c o1 e1;exact stz.al c o2 e2
   ·rw[et,List.append_assoc,List.append_assoc];exact co (r::rs') (es::Oe) M'' (.go rr z hh)
 ·rintro σ Hx ⟨Tx,Ax,N,ps,lg,v4,rfl,sx,tgx,⟨cq,tqx⟩,wtx,jx,aw,kx,nl,⟨cp,tpx⟩,lgx,hlg,al,co⟩;ext;have rn:=co [] [] N (.nil N);rw[List.append_nil,List.append_nil,bx,lent,List.take_length]at rn;exact h Hx p ps lg N sx rn cp lgx.h fp
end
section
variable {K:aG}{caps:List Nat}{tc:TT}{te:TE}{σ:St}{H:Hp}{Q:VK}
theorem Zq7{z:Int}{nn k:Nat}(ez:z.toNat=nn)(hz:nn<=1000)(hk:k<nn)(R:V->Hp->Prop)(mono:∀y H1 H2,R y H1->aY H1 H2->R y H2)
  (htc:∀(i:Nat) H1,i<nn->aY H H1->∀q:Bool->Hp->Prop,q (decide (i=k)) H1->tc (some (.int ((0:Int)+i))::caps.map (pick σ)) H1 q)
  (hte:∀H1,aY H H1->∀q:VK,(∀y H2,aY H1 H2->R y H2->q y H2)->te (some (.int ((0:Int)+k))::caps.map (pick σ)) H1 q)
  (h:∀y H',aY H H'->R y H'->∀p,H' p=none->Q (.ref p) (upd H' p (.lst [y]))):LCg (Itr 0 z.toNat) caps tc te σ H Q:=by
 subst ez;refine⟨λi m ys H'=>i<=z.toNat/\m=z.toNat - i/\aY H H'/\((i<=k/\ys=[])\/(k<i/\∃y,ys=[y]/\R y H')),⟨_,Nat.zero_le _,rfl,aY.refl _,.inl ⟨Nat.zero_le _,rfl⟩⟩,?_⟩;rintro i m ys H1 ⟨hi,rfl,s1,c⟩
 by_cases hk2:i=z.toNat
 ·rcases c with ⟨c,_⟩ | ⟨_,y,rfl,r⟩
  ·omega
  ·exact .inl ⟨by show z.toNat<=i;omega,λp hp=>h y H1 s1 r p hp⟩
 ·have hlt:i<z.toNat:=δ
  refine .inr ⟨hlt,?_,?_⟩
  ·rcases c with ⟨_,rfl⟩ | ⟨_,y,rfl,r⟩
   ·show 0<sizeLine;decide
   ·show 1<sizeLine;decide
  rintro x H2 ⟨rfl,rfl⟩;refine htc i H2 hlt s1 _ ?_
  by_cases e:i=k
  ·subst e;rw[decide_eq_true rfl];refine RL (hte H2 s1 _ λy H3 s3 r=>⟨z.toNat - (i+1),δ,δ,rfl,s1.trans s3,.inr ⟨δ,y,?_,r⟩⟩);rcases c with ⟨_,rfl⟩ | ⟨z',_⟩
   ·rfl
   ·omega
  ·rw[decide_eq_false e];refine Vn ⟨z.toNat - (i+1),δ,δ,rfl,s1,?_⟩;rcases c with ⟨c,e⟩ | ⟨c,y,e,r⟩
   ·exact .inl ⟨δ,e⟩
   ·exact .inr ⟨δ,y,e,r⟩
end
def rfN:Rf->Nat
 | .empty=>0
 | .fZ=>1
 | .full=>2
 | .nW=>3
def caught(r:Rf):List V:=[.bl (decide (r=.empty)),.bl (decide (r=.fZ)),.bl (decide (r=.full)),.bl (decide (r=.nW))]
def HB:Sp:=λvs H Q E=>∃c,vs=[.ref c]/\∃r:Rf,H c=some (.lst (caught r))/\∀p a l H',aY H H'->H p=none->H a=none->H l=none->H' p=some (.lst [.ref a])->H' a=some (.tup [.str "refused",.str (rfS r),.ref l])->H' l=some (.lst [])->Q (.ref p) H'
def Zhk(X:Cs):Sp:=λvs H Q E=>∃wo dd,vs=[.ref wo,.ref dd]/\DnQ X wo dd H Q
structure Kit(isk:AJ->AJ->Option Bool)(rf:Rf->AI):Prop where
 k:∀r r',isk (.ref (rf r)) (.ref (rf r'))=some (decide (r=r'))
section
variable {K:aG}{X:Cs}{rf:Rf->AI}{bw:AI}{H:Hp}{Q:VK}{E:XK}{n:ν}{bk ct:ν}
theorem Pq{c:AI}(q:∃r:Rf,H c=some (.lst (caught r))/\∀p a l H',aY H H'->H p=none->H a=none->H l=none->H' p=some (.lst [.ref a])->H' a=some (.tup [.str "refused",.str (rfS r),.ref l])->H' l=some (.lst [])->Q (.ref p) H'):sV K ξ [↑c,none] H:=by
 obtain⟨r,hc,q⟩:=q;unfold sV;apply⟨by show 4<=sizeLine;decide,λw nw=>?_⟩;generalize zz:upd H w _=H1;obtain⟨s1,g1⟩:=nwO nw zz;apply Zdd ?_;exists _,rfl,ε,ε;refine Zq7 (nn:=4) (k:=rfN r) rfl ε (by cases r<;>decide) (λy H'=>∃a l,y=.ref a/\H a=none/\H l=none/\H' a=some (.tup [.str "refused",.str (rfS r),.ref l])/\H' l=some (.lst [])) (by rintro y H1 H2 ⟨a,l,e,f1,f2,g1,g2⟩ s;exact⟨a,l,e,f1,f2,s _ _ g1,s _ _ g2⟩) (λi H2 hi s2 q' hq=>?_) (λH2 s2 q' hq=>?_) (λy H2 s2 ⟨a,l,e,f1,f2,k1,k2⟩ p hp=>?_)
 ·walk_at"c";ext;have hi4:i=0\/i=1\/i=2\/i=3:=δ
  refine eE (v:=.bl (decide (i=rfN r))) (bO.of (s2 _ _ (s1 _ _ hc))) ?_ ?_
  ·rcases hi4 with rfl | rfl | rfl | rfl<;>cases r<;>rfl
  ·exact⟨_,rfl,hq⟩
 ·walk_at"c";apply eE (v:=.str (rfS r)) (bO.of (s2 _ _ g1)) (by cases r<;>rfl) ?_;apply⟨ε,λl nl=>?_⟩;refine⟨by show 3<=sizeLine;decide,λa na=>?_⟩;have k1:=aK nl (.lst []);have k2:=aK na (.tup [.str "refused",.str (rfS r),.ref l]);exact hq _ _ (k1.trans k2) ⟨a,l,rfl,s1.free (s2.free (k1.free na)),s1.free (s2.free nl),ao,k2 _ _ ao⟩
 ·subst e;have k3:=aK hp (.lst [.ref a]);exact q p a l _ ((s1.trans s2).trans k3) (s1.free (s2.free hp)) f1 f2 ao (k3 _ _ k1) (k3 _ _ k2)
theorem Za0{p q:AI}{xs:List V}(h1:bO K H p xs)(h2:bO K H q [])(h:Q (.bl (decide (xs=[]))) H):G.Lr K false (.ref p) (.ref q) H Q:=by
 refine⟨p,q,_,_,rfl,rfl,h1,h2,λe=>?_,?_⟩
 ·have:xs=[]:=List.length_eq_zero_iff.mp e;subst this;exact⟨rfl,rfl⟩
 ·cases xs with
  | nil=>exact h
  | cons x xs=>exact h
theorem Zob{p:AI}{as:AF}{es:List Rz}{k:Bool->Hp->Prop}(hp:H p=some (.lst (as.map V.ref)))(al:Al (TV H) as es){v0 v1 v3 v4 v5 v6:Option V}(h:∀Hz,aY H Hz->k (!fu es) Hz):
  (Kw (bV (aZ (G.Lr K false) Ω (eF aH))) (bV (aZ (rNe) (aZ (dX K) (aZ (fO K) Ω ah) Γ) (tC (.str "lost"))))) [v0,v1,↑p,v3,v4,v5,v6] H k:=by
 have hl:=al.length;apply⟨ε,λe0 ne0=>?_⟩;have s4:=aK ne0 (.lst []);refine Za0 (bO.of (s4 _ _ hp)) (bO.of ao) ?_;generalize upd H e0 (.lst [])=H4 at s4 ⊢;rcases List.eq_nil_or_concat es with rfl | ⟨zs,x,rfl⟩
 ·have:as=[]:=List.length_eq_zero_iff.mp hl;subst this;refine⟨true,rfl,?_⟩;exact h _ s4
 ·rw[List.concat_eq_append]at hl al h;rcases List.eq_nil_or_concat as with rfl | ⟨bs,a,rfl⟩
  ·rw[List.length_append]at hl;cases hl
  rw[List.concat_eq_append]at hl al hp ⊢;rw[List.length_append,List.length_append]at hl;have e1:[x].length=1:=rfl;have e2:[a].length=1:=rfl;obtain⟨a',ha',l,g1,g2⟩:=al.get (i:=zs.length) (y:=x) (by rw[List.getElem?_append_right υ,Nat.sub_self];rfl);rw[show zs.length=bs.length by omega,List.getElem?_append_right υ,Nat.sub_self]at ha';cases ha';refine⟨false,by rw[decide_eq_false ζ],?_⟩;apply eE (v:=.ref a) (bO.of (s4 _ _ hp)) (by rw[List.map_append];exact jK _ _) ?_;exists a,_,0,_,rfl,rfl,fc.of (s4 _ _ g1),rfl;ext;rw[qt]at h;exact h _ s4
theorem Zaw{wo dd CE CF CN CM:AI}{isk:AJ->AJ->Option Bool}(h1:rf .empty=CE)(h2:rf .full=CF)(h3:rf .fZ=CN)(h4:rf .nW=CM)(kt:Kit isk rf)(q:DnQ X wo dd H Q):
  zK K CE CF CN CM HB (Zux X rf) (bZ X Y8) isk ξ [↑wo,↑dd,none,none,none,none,none] H:=by
 obtain⟨T,s,A,M,r,hs,k,w,s0,j,aw,ed,o,kw,hb,hk,nl,q⟩:=q;subst h1 h2 h3 h4;unfold zK;apply⟨ε,λp np=>?_⟩;have sm:=aK np (.lst []);cases r with
 | sw m=>
  have o1:1<=m:=o.1;have o2:m<=200:=o.2;have i0:=SwI.new (nn:=m) w s0 j aw kw nl np;have c1:upd H p (.lst []) p=some (.lst (([]:AF).map V.ref)):=ao;generalize upd H p (.lst [])=H1 at sm c1 i0 ⊢;exists dd,_,0,_,rfl,rfl,fc.of (sm _ _ ed),rfl;apply Ai (λ_=>?_) (λz=>absurd rfl z);exists dd,_,1,_,rfl,rfl,fc.of (sm _ _ ed),rfl;exists _,rfl,δ,δ;rw[Int.toNat_natCast];refine forR (λi σ Hx=>∃es as N Tx Ax v3,σ=[↑wo,↑dd,↑p,v3,none,none,none]/\SwI X M hs k m s wo p H H1 T Hx es as N Tx Ax/\(fu es=false->es.length=i)) ⟨[],[],M,_,A,none,rfl,i0,λ_=>rfl⟩ ?_ ?_
  ·rintro i σ Hx hi ⟨es,as,N,Tx,Ax,v3,rfl,iv,le⟩;have hl:=iv.ev.length;refine Zw1 ?_;refine Zk6 (Zob iv.hp (iv.ev.mono λa x h=>h.h) λHz sz=>?_);have i1:=iv.same s0 sz;cases z:fu es with
   | true=>
    refine Vn ?_;apply⟨es,as,N,Tx,Ax,_,rfl,i1,λy=>by rw[z]at y;cases y⟩
   | false=>
    have le:=le z;refine RL ?_;exists .inl ⟨rfl,_,bO.of i1.hp⟩;ext;have nN:Nl N:=by
     rcases i1.go with ⟨_,h,_⟩ | ⟨z',_⟩
     ·exact h
     ·rw[z]at z';cases z'
    refine⟨wo,rfl,Tx,s,Ax,N,0,[],i1.st.wt,s0,i1.j,i1.aw,i1.kw.ok hb δ,trivial,λy=>absurd y nN.1,λe M' r Hy Ty Ay a sty jy awy ev lo=>?_⟩;obtain⟨hpy,i2⟩:=i1.turn s0 np ⟨_,c1⟩ (i1.kw.ok hb δ) δ z r sty jy awy ev lo;apply⟨p,_,_,rfl,rfl,hpy,by rw[bx,sizeLine_eq];omega,?_⟩;apply⟨es++[evz e],as++[a],M',Ty,Ay,_,rfl,i2,λ_=>by rw[List.length_append,le];rfl⟩
  ·rintro σ Hx ⟨es,as,N,Tx,Ax,v3,rfl,iv,le⟩;ext;have z:es.length=m\/fu es=true:=by
    cases z:fu es with
    | true=>exact .inr rfl
    | false=>exact .inl (le z)
   obtain⟨f1,f2,f3,f4⟩:=iv.fin sm ⟨_,c1⟩ z;exact q es as N Hx Tx Ax p f1 (((f1.det nl f1).2.2.2.2) δ) (by have:=iv.le;omega) (iv.kw.mono (Nat.le_succ _)) iv.st iv.j iv.aw f2 iv.hp np (.inr iv.tp) f3 f4
 | dd d=>
  have wd:∃w,¬ w=("sweep":Str)/\(dV d)[0]? =some (.str w):=by cases d<;>exact⟨_,ε,rfl⟩
  obtain⟨wz,nw,ew⟩:=wd;have mem:∀r,rf r∈[rf .empty,rf .fZ,rf .full,rf .nW]:=λr=>by cases r<;>simp
  generalize upd H p (.lst [])=H1 at sm ⊢;exists dd,_,0,_,rfl,rfl,fc.of (sm _ _ ed),mO ε ew;apply Ai (λz=>absurd z nw) (λ_=>?_);apply Ziq (w.same sm) s0 (j.same sm) aw (sm _ _ ed) o kw hk (λr er H2 s2=>?_) λe M' he H2 T2 A2 a st j2 aw2 ev=>?_
  ·refine⟨by cases r<;>simp,λea nea=>?_⟩;generalize zz:upd H2 ea _=H3;obtain⟨s3,g3⟩:=nwO nea zz;have ask:∀(r':Rf) (Q':VK),Q' (.bl (decide (r=r'))) H3->Xw [rf .empty,rf .fZ,rf .full,rf .nW] isk [.ref ea,.ref (rf r')] H3 Q':=λr' Q' k=>⟨ea,.ref (rf r'),rf r,_,⟨_,rfl,rfl⟩,mem r,g3,kt.k r r',k⟩;simp only[List.set_cons_succ,List.set_cons_zero];apply ask .empty _ ?_;apply ask .fZ _ ?_;apply ask .full _ ?_;apply ask .nW _ ?_;apply⟨by show 4<=sizeLine;decide,λc nc=>?_⟩;have s4:=aK nc (.lst (caught r));have g4:upd H3 c (.lst (caught r)) c=some (.lst (caught r)):=ao;have e4:upd H3 c (.lst (caught r))=upd H3 c (.lst [.bl (decide (r=.empty)),.bl (decide (r=.fZ)),.bl (decide (r=.full)),.bl (decide (r=.nW))]):=rfl;rw[<- e4];generalize upd H3 c (.lst (caught r))=H4 at s4 g4 ⊢;have s14:=s2.trans (s3.trans s4);ext;simp only[List.set_cons_succ,List.set_cons_zero];apply⟨c,rfl,r,g4,λp' a l H5 s5 np' na nl hp ha hl=>?_⟩;have s15:=s14.trans s5;have s05:=sm.trans s15;have fr:∀{b},H4 b=none->H b=none:=λh=>sm.free (s14.free h);have eq:UW (rO M d)=(("refused":Str),V.str (rfS r),[]):=by rw[er];rfl
   refine q [UW (rO M d)] [a] _ H5 T A p' ⟨rfl,rfl⟩ ζ (by show 1<=1000;decide) (kw.turn o) (cY.same w s05) (by rw[er];exact j.same s05) aw (.cons ?_ .nil) hp (fr np') (rY w s0 (fr np')).2 (λz=>absurd (of_decide_eq_true z) (IW M d)) λc' hc x y l' h=>?_
   rotate_left
   ·rw[List.mem_singleton.mp hc,ha]at h;cases h;intro z;rw[z,hl]at hp;cases hp
   rw[eq];exact⟨l,fr nl,ha,hl,(rY w s0 (fr na)).2,(rY w s0 (fr nl)).2,Nat.zero_le _⟩
  ·apply⟨by show 1<=sizeLine;decide,λp' hp=>?_⟩;have s2:=aK hp (.lst [.ref a]);obtain⟨l,⟨fl,t1,t2⟩,v1,v2⟩:=ev;have st0:cY s H H2 T T2:=(cY.same w sm).trans st;refine q [UW (rO M d)] [a] _ _ T2 A2 p' ⟨rfl,rfl⟩ ζ (by show 1<=1000;decide) (kw.turn o) (st0.trans (cY.same st.wt s2)) (by rw[he];exact j2.same s2) aw2 (.cons ?_ .nil) ao (cY.free st0 hp) (rY st.wt s0 hp).2 (λz=>absurd (of_decide_eq_true z) (IW M d)) λc' hc x y l' h=>?_
   rotate_left
   ·rw[List.mem_singleton.mp hc,s2 _ _ v1]at h;cases h;exact(aD v2 hp).symm
   have dn:=SQ M d;rw[he]at dn ⊢;exact⟨l,sm.free fl,s2 _ _ v1,s2 _ _ v2,t2,t1,Nat.le_trans dn ε⟩
end
theorem WJ.lists{X:Cs}{H H':Hp}{T:Tg}{s:Nat}{A:Wa}{M:Wm}(j:WJ X H T s A M)(k:∀b o,H b=some o->((∀xs,o≠.lst xs)\/(T b).1=s)->H' b=some o):WJ X H' T s A M:=by
 have ki:∀{b c d f},H b=some (.ins c d f)->H' b=some (.ins c d f):=λq=>k _ _ q (.inl λxs z=>by cases z);have kl:∀{b o m},T b=(s,m)->H b=some o->H' b=some o:=λt q=>k _ _ q (.inr (by rw[t]));obtain⟨⟨b1,b2,b3,b4,⟨_,b5⟩,⟨_,b6⟩,⟨_,b7⟩,b8⟩,⟨h1,h2,⟨_,h3⟩,h4⟩,⟨n1,n2,n3⟩,⟨s1,s2,⟨_,s3⟩,s4⟩,⟨d1,d2,d3⟩,⟨c1,c2⟩⟩:=j;refine⟨⟨b1,b2,b3,b4,⟨_,ki b5⟩,⟨_,ki b6⟩,⟨_,b7.imp (λz=>⟨z.1,ki z.2⟩) (Or.imp (λz=>⟨z.1,ki z.2⟩) λz=>⟨z.1,ki z.2⟩)⟩,kl b4 b8⟩,⟨h1,h2,⟨_,ki h3⟩,kl h2 h4⟩,⟨n1,kl n1 n2,n3.mono (by rintro t m ⟨z1,z2⟩;exact⟨z1,k _ _ z2 (.inl λxs z=>by cases z)⟩)⟩,⟨s1,s2,⟨_,ki s3⟩,kl s2 s4⟩,⟨d1,d2,λj p m e1 e2=>?_⟩,⟨c1,λi p c e1 e2=>?_⟩⟩
 ·obtain⟨x1,x2,⟨_,x3⟩,x4⟩:=d3 j p m e1 e2;exact⟨x1,x2,⟨_,ki x3⟩,kl x2 x4⟩
 ·have e:=c2 i p c e1 e2;cases p with
  | none=>cases c with
   | none=>trivial
   | some c=>exact e.elim
  | some p=>cases c with
   | none=>exact e.elim
   | some c=>
    obtain⟨x1,x2,⟨_,x3⟩,x4⟩:=(show Tv X.C H T s i p c from e);exact(show Tv X.C H' T s i p c from⟨x1,x2,⟨_,ki x3⟩,kl x2 x4⟩)
def Kl:Sp:=λvs H Q E=>∃p,vs=[.ref p]/\∃ps lg,H p=some (.lst (ps.map V.ref))/\TF H ps lg/\Q (.bl true) H
def Kg:Sp:=λvs H Q E=>∃(a b:Bool),vs=[.bl a,.bl b]/\a=b/\Q (.bl true) H
def Chg(H H':Hp)(as:AF):Prop:=(∀b o,H b=some o->((∀xs,o≠.lst xs)\/∀c∈as,∀x y l,H c=some (.tup [x,y,.ref l])->b≠l)->H' b=some o)/\∀b o,H b=some o->∃o',H' b=some o'
def yI:Sp:=λvs H Q E=>∃p,vs=[.ref p]/\∃as es,H p=some (.lst (as.map V.ref))/\Al (TV H) as es/\(∀x∈es,x.2.2.length<=100000)/\es.length<=1000/\(∀c∈as,∀x y l,H c=some (.tup [x,y,.ref l])->p≠l)/\∀H',Chg H H' as->Q .non H'
section
variable {K:aG}{X:Cs}{rf:Rf->AI}{bw:AI}{H:Hp}{Q:VK}{E:XK}{n:ν}{bk ct:ν}
theorem V0{p:AI}(q:∃ps lg,H p=some (.lst (ps.map V.ref))/\TF H ps lg/\Q (.bl true) H):w6 K ξ [↑p,none,none] H:=by
 obtain⟨ps,lg,hp,al,h⟩:=q;unfold w6;apply Dw hp ?_;apply⟨p,rfl,⟨_,bO.of hp⟩,forL (ps.map V.ref) (λ_ σ Hx=>∃v1 v2,σ=[↑p,v1,v2]/\Hx=H) ⟨none,none,rfl,rfl⟩ (by rintro _ _ _ _ ⟨_,_,_,e⟩;rw[e];exact bO.of hp) ?_ ?_⟩
 ·rintro i v σ Hx hv ⟨v1,v2,rfl,rfl⟩;rw[cI]at hv;obtain⟨b,hb,rfl⟩:=Option.map_eq_some_iff.mp hv;obtain⟨es,_,as,h1,h2⟩:=Al.getL al hb;apply Dw h1 ?_;apply⟨b,rfl,⟨_,bO.of h1⟩,forL (as.map V.ref) (λ_ σ Hy=>∃v2,σ=[↑p,↑b,v2]/\Hy=Hx) ⟨_,rfl,rfl⟩ (by rintro _ _ _ _ ⟨_,_,e⟩;rw[e];exact bO.of h1) ?_ ?_⟩
  ·rintro j w σ Hy hw ⟨v2,rfl,rfl⟩;rw[cI]at hw;obtain⟨a,ha,rfl⟩:=Option.map_eq_some_iff.mp hw;obtain⟨x,_,l,g1,g2⟩:=h2.getL ha;apply Z9 g1 ?_;exists a,_,rfl,.inr (fc.of g1);apply Zdc (λz=>absurd rfl z) (λ_=>?_);exists a,_,2,_,rfl,rfl,fc.of g1,rfl;apply Dw g2 ?_;apply⟨_,rfl,rfl⟩
  ·rintro σ Hy ⟨v2,rfl,rfl⟩;exact⟨_,_,rfl,rfl⟩
 ·rintro σ Hx ⟨v1,v2,rfl,rfl⟩;apply h
theorem Zap{a b:Bool}(q:a=b/\Q (.bl true) H):zA ξ [some (.bl a),some (.bl b)] H:=by
 obtain⟨rfl,q⟩:=q;unfold zA;ext;rw[decide_eq_true rfl];exact q
theorem Pr{p:AI}(q:∃as es,H p=some (.lst (as.map V.ref))/\Al (TV H) as es/\(∀x∈es,x.2.2.length<=100000)/\es.length<=1000/\(∀c∈as,∀x y l,H c=some (.tup [x,y,.ref l])->p≠l)/\∀H',Chg H H' as->Q .non H'):sW K ⟨λ_ H'=>Q .non H',Q,bk,ct⟩ [↑p,none] H:=by
 obtain⟨as,es,hp,al,hb,hl,np,h⟩:=q;have ll:=al.length;unfold sW;apply⟨p,rfl,⟨_,bO.of hp⟩,forL (as.map V.ref) (λi σ Hx=>∃v1,σ=[↑p,v1]/\Chg H Hx as/\∀c∈as,∀x y l,H c=some (.tup [x,y,.ref l])->∃xs,Hx l=some (.lst xs)/\xs.length<=100000+i) ⟨none,rfl,⟨λb o hb _=>hb,λb o hb=>⟨o,hb⟩⟩,λc hc x y l e=>?_⟩ (by rintro i σ Hx _ ⟨_,_,k,_⟩;exact bO.of (k.1 _ _ hp (.inr np))) ?_ ?_⟩
 ·obtain⟨z,hz,l',g1,g2⟩:=al.mem hc;rw[g1]at e;cases e;exact⟨_,g2,by rw[bx];exact hb z hz⟩
 ·rintro i v σ Hx hv ⟨v1,rfl,k,g⟩;rw[cI]at hv;obtain⟨a,ha,rfl⟩:=Option.map_eq_some_iff.mp hv;have hi:=(cZ ha).1;have hm:=List.mem_of_getElem? ha;obtain⟨z,hz,l,g1,g2⟩:=al.mem hm;obtain⟨xs,g3,g4⟩:=g a hm _ _ l g1;have g1x:=k.1 _ _ g1 (.inl λxs z=>by cases z);exists a,_,2,_,rfl,rfl,fc.of g1x,rfl;exists .inl ⟨rfl,_,bO.of g3⟩;apply⟨l,_,_,rfl,rfl,g3,by rw[sizeLine_eq];omega,?_⟩;apply⟨_,rfl,⟨λb o hb c=>?_,λb o hb=>?_⟩,λc hc x y l' e=>?_⟩
  ·have nb:b≠l:=by
    rcases c with c | c
    ·intro z;rw[z,g2]at hb;cases hb;exact c _ rfl
    ·exact c a hm _ _ l g1
   rw[aB nb];exact k.1 b o hb c
  ·by_cases e1:b=l
   ·exact⟨_,by rw[e1];exact ao⟩
   ·rw[aB e1];exact k.2 b o hb
  ·by_cases e1:l'=l
   ·subst e1;exact⟨_,ao,by rw[List.length_append];show xs.length+1<=_;omega⟩
   ·obtain⟨ys,e2,e3⟩:=g c hc x y l' e;exact⟨ys,by rw[aB e1];exact e2,δ⟩
 ·rintro σ Hx ⟨v1,rfl,k,g⟩;exact h Hx k
end
structure BhI(Hx:Hp)(p:AI)(ps:AF)(lg:List (List Rz)):Prop where
 hp:Hx p=some (.lst (ps.map V.ref))
 nd:ps.Nodup
 np:p∉ps
 al:Al (λb es=>∃as:AF,Hx b=some (.lst (as.map V.ref))/\Al (λa (x:Rz)=>∃l,Hx a=some (.tup [.str x.1,x.2.1,.ref l])/\Hx l=some (.lst (x.2.2.map V.int))/\l∉ps/\l≠p) as es/\b≠p) ps lg
theorem BhI.same{Hx Hy:Hp}{p:AI}{ps:AF}{lg:List (List Rz)}(h:BhI Hx p ps lg)(s:aY Hx Hy):BhI Hy p ps lg:=
 ⟨s _ _ h.hp,h.nd,h.np,h.al.mono (by rintro b es ⟨as,h1,h2,h3⟩;exact⟨as,s _ _ h1,h2.mono (λa x ⟨l,g1,g2,g3⟩=>⟨l,s _ _ g1,s _ _ g2,g3⟩),h3⟩)⟩
theorem BhI.at{Hx:Hp}{p:AI}{ps:AF}{lg:List (List Rz)}(h:BhI Hx p ps lg):∀b∈ps,∃o,Hx b=some o:=λb hb=>by
 obtain⟨es,_,as,h1,_⟩:=h.al.mem hb;exact⟨_,h1⟩
theorem BhI.lg{Hx:Hp}{p:AI}{ps:AF}{lg:List (List Rz)}(h:BhI Hx p ps lg):TF Hx ps lg:=h.al.mono (by rintro b es ⟨as,h1,h2,_⟩;exact⟨as,h1,h2.mono λa x ⟨l,g1,g2,_⟩=>⟨l,g1,g2⟩⟩)
theorem BhI.more{Hx:Hp}{p b:AI}{ps:AF}{lg:List (List Rz)}(h:BhI Hx p ps lg)(nb:Hx b=none):BhI (upd (upd Hx b (.lst [])) p (.lst Ψ)) p (ps++[b]) (lg++[[]]):=by
 have bp:b≠p:=(aD h.hp nb).symm;have bps:b∉ps:=λz=>by obtain⟨o,e⟩:=h.at b z;rw[nb]at e;cases e
 have k:∀c o,Hx c=some o->c≠p->upd (upd Hx b (.lst [])) p (.lst Ψ) c=some o:=λc o hc nc=>by rw[aB nc,aB (aD hc nb)];exact hc
 have ke:∀{a'}{x':Rz},(∃l,Hx a'=some (.tup [.str x'.1,x'.2.1,.ref l])/\Hx l=some (.lst (x'.2.2.map V.int))/\l∉ps/\l≠p)->∃l,upd (upd Hx b (.lst [])) p (.lst Ψ) a'=some (.tup [.str x'.1,x'.2.1,.ref l])/\upd (upd Hx b (.lst [])) p (.lst Ψ) l=some (.lst (x'.2.2.map V.int))/\l∉ps++[b]/\l≠p:=λ⟨l,g1,g2,g3,g4⟩=>by
  refine⟨l,k _ _ g1 (λz=>by rw[z,h.hp]at g1;cases g1),k _ _ g2 g4,λz=>?_,g4⟩;rcases List.mem_append.mp z with z | z
  ·exact g3 z
  ·rw[List.mem_singleton.mp z,nb]at g2;cases g2
 refine⟨by rw[ao,List.map_append];rfl,?_,λz=>?_,Al.app (h.al.mono (by rintro c es ⟨as,h1,h2,h3⟩;exact⟨as,k _ _ h1 h3,h2.mono (λa x z=>ke z),h3⟩)) ⟨[],by rw[aB bp,ao];rfl,.nil,bp⟩⟩
 ·rw[List.nodup_append];exact⟨h.nd,ζ,λx hx y hy e=>by rw[List.mem_singleton]at hy;subst hy;subst e;exact bps hx⟩
 ·rcases List.mem_append.mp z with z | z
  ·exact h.np z
  ·exact bp (List.mem_singleton.mp z).symm
theorem BhI.event{Hx:Hp}{p b a l:AI}{ps:AF}{lg:List (List Rz)}{es:List Rz}{x:Rz}(h:BhI Hx p (ps++[b]) (lg++[es]))(nl:l∉ps++[b])(nlp:l≠p)(ha:Hx a=some (.tup [.str x.1,x.2.1,.ref l]))(hl:Hx l=some (.lst (x.2.2.map V.int))):
  ∃as:AF,Hx b=some (.lst (as.map V.ref))/\as.length=es.length/\BhI (upd Hx b (.lst (as.map V.ref++[.ref a]))) p (ps++[b]) (lg++[es++[x]]):=by
 have hle:=h.al.length;rw[List.length_append,List.length_append]at hle;have e1:[b].length=1:=rfl;have e2:[es].length=1:=rfl;obtain⟨b',hb',as,h1,h2,_⟩:=h.al.get (i:=lg.length) (y:=es) (by rw[List.getElem?_append_right υ,Nat.sub_self];rfl);rw[show lg.length=ps.length by omega,List.getElem?_append_right υ,Nat.sub_self]at hb';cases hb';have bp:b≠p:=λz=>h.np (List.mem_append.mpr (.inr (by rw[z];simp)));have k:∀c o,Hx c=some o->c≠b->upd Hx b (.lst (as.map V.ref++[.ref a])) c=some o:=λc o hc nc=>by rw[aB nc];exact hc
 have kt:∀{c xs},Hx c=some (.tup xs)->upd Hx b (.lst (as.map V.ref++[.ref a])) c=some (.tup xs):=λhc=>k _ _ hc λz=>by rw[z,h1]at hc;cases hc
 have ke:∀{a'}{x':Rz},(∃l,Hx a'=some (.tup [.str x'.1,x'.2.1,.ref l])/\Hx l=some (.lst (x'.2.2.map V.int))/\l∉ps++[b]/\l≠p)->∃l,upd Hx b (.lst (as.map V.ref++[.ref a])) a'=some (.tup [.str x'.1,x'.2.1,.ref l])/\upd Hx b (.lst (as.map V.ref++[.ref a])) l=some (.lst (x'.2.2.map V.int))/\l∉ps++[b]/\l≠p:=λ⟨l,g1,g2,g3,g4⟩=>⟨l,kt g1,k _ _ g2 λz=>g3 (List.mem_append.mpr (.inr (by rw[z];simp))),g3,g4⟩;have nd:=h.nd;rw[List.nodup_append]at nd;refine⟨as,h1,h2.length,k _ _ h.hp bp.symm,h.nd,h.np,?_⟩;refine Oj (by rw[List.length_append,List.length_append];show ps.length+1=lg.length+1;omega) λi c es' e3 e4=>?_
 by_cases hi:i<ps.length
 ·rw[List.getElem?_append_left hi]at e3;rw[List.getElem?_append_left δ]at e4;obtain⟨c',e5,as',g1,g2,g3⟩:=h.al.get (i:=i) (y:=es') (by rw[List.getElem?_append_left δ];exact e4);rw[List.getElem?_append_left hi,e3]at e5;cases e5;have nc:c≠b:=nd.2.2 c (List.mem_of_getElem? e3) b ζ;exact⟨as',k _ _ g1 nc,g2.mono (λa x z=>ke z),g3⟩
 ·have h3:=(cZ e3).1;rw[List.length_append]at h3;obtain rfl:i=ps.length:=δ
  rw[List.getElem?_append_right υ,Nat.sub_self]at e3;rw[show ps.length=lg.length by omega,List.getElem?_append_right υ,Nat.sub_self]at e4;cases e3;cases e4;exact⟨as++[a],by rw[ao,List.map_append];rfl,Al.app (h2.mono λa x z=>ke z) (ke ⟨l,ha,hl,nl,nlp⟩),bp⟩
def Tt(K:aG):Sp:=λvs H Q E=>∃a,vs=[.ref a]/\∃ns:AE,bO K H a (ns.map V.int)/\ns.length<=100/\∀p ps lg H',aY H H'->H' p=some (.lst (ps.map V.ref))->TF H' ps lg->lg.length<=100->(∀es∈lg,es≠[])->Q (.ref p) H'
def Qa(K:aG):Sp:=λvs H Q E=>∃a,vs=[.ref a]/\∃ns:AE,bO K H a (ns.map V.int)/\ns.length<=100/\∀H',aY H H'->Q (.bl true) H'
section
variable {K:aG}{X:Cs}{rf:Rf->AI}{bw:AI}{H:Hp}{Q:VK}{E:XK}{n:ν}{bk ct:ν}
theorem Pu{a:AI}(q:∃ns:AE,bO K H a (ns.map V.int)/\ns.length<=100/\∀p ps lg H',aY H H'->H' p=some (.lst (ps.map V.ref))->TF H' ps lg->lg.length<=100->(∀es∈lg,es≠[])->Q (.ref p) H'):sX K ξ [↑a,none,none,none] H:=by
 obtain⟨ns,hS,hn,q⟩:=q;unfold sX;apply⟨ε,λp np=>?_⟩;have s1:=aK np (.lst []);have i0:BhI (upd H p (.lst [])) p [] []:=⟨ao,.nil,ζ,.nil⟩;generalize upd H p (.lst [])=H1 at s1 i0 ⊢;exists a,rfl,⟨_,s1.seq hS⟩;refine Zqx (ns.map V.int) (λi σ Hx=>∃ps lg v2 v3,σ=[↑a,↑p,v2,v3]/\aY H Hx/\BhI Hx p ps lg/\(∀b∈ps,H b=none)/\lg.length<=i/\(∀es∈lg,es≠[]/\es.length<=i)) ⟨[],[],none,none,rfl,s1,i0,(λb hb=>by cases hb),Nat.le_refl _,(λes he=>by cases he)⟩ (by rintro i σ Hx _ ⟨_,_,_,_,_,s,_⟩;exact s.seq hS) ?_ ?_
 ·rintro i x t σ Hx hx ⟨ps,lg,v2,v3,rfl,sx,iv,fr,hl,hne⟩ nt;rw[cI]at hx;obtain⟨c,hc,rfl⟩:=Option.map_eq_some_iff.mp hx;have hi:=(cZ hc).1;have lps:=iv.al.length;generalize zz:upd Hx t _=H2;obtain⟨s2,g2⟩:=nwO nt zz
  replace iv:=iv.same s2
  replace sx:=sx.trans s2
  refine⟨t,_,rfl,fc.of g2,rfl,?_⟩;refine⟨_,_,rfl,?_⟩;exists _,_,rfl;exists rfl;have rest:∀(Hy:Hp) (ps':AF) (b:AI) (Oe:List (List Rz)) (es:List Rz),aY H Hy->BhI Hy p (ps'++[b]) (Oe++[es])->(∀d∈ps'++[b],H d=none)->(Oe++[es]).length<=i+1->(∀es'∈Oe,es'≠[]/\es'.length<=i+1)->es.length<=i->∀(nn:ν) (rr:VK) (bb cc:ν),(∀ σ Hz,(∃ps lg v2 v3,σ=[↑a,↑p,v2,v3]/\aY H Hz/\BhI Hz p ps lg/\(∀b∈ps,H b=none)/\lg.length<=i+1/\(∀es∈lg,es≠[]/\es.length<=i+1))->nn σ Hz)->
   (lJ (Wr K "list" jN (aZ (fO K) ψ ah) (ak (fV (ak (aZ (fO K) (eF (ak (tC (.str "lost")) (ak (tC (.str "made")) (ak (tC (.str "end")) (ak (tC (.str "lost")) (ak (tC (.str "pass")) aH)))))) (aZ ο (aZ ae (aq 3) (tC (.int 3))) (tC (.int 5)))) (ak Ω (ak (eF (ak (aZ ο (aq 3) (tC (.int 9))) aH)) aH)))) aH))) ⟨nn,rr,bb,cc⟩ [↑a,↑p,some (.int i),some (.int c)] Hy:=by
   intro Hy ps' b Oe es sy iy fy l1 l2 l3 nn rr bb cc hD;have hb:∃as:AF,Hy b=some (.lst (as.map V.ref)):=by
    obtain⟨es',_,as,h1,_⟩:=iy.al.mem (x:=b) ζ;exact⟨as,h1⟩
   obtain⟨as0,hb⟩:=hb;apply eE (v:=.ref b) (bO.of iy.hp) (by rw[List.map_append];exact jK _ _) ?_;exists .inl ⟨rfl,_,bO.of hb⟩;apply⟨by show 5<=sizeLine;decide,λw nw=>?_⟩;generalize zz:upd Hy w _=H3;obtain⟨k1,w1⟩:=nwO nw zz;have z0:=Int.emod_nonneg (c / 3) (show(5:Int)≠0 by decide);have z1:=Int.emod_lt_of_pos (c / 3) (show(0:Int)<5 by decide);obtain⟨wd,hw⟩:∃wd:Str,atI [V.str "lost",.str "made",.str "end",.str "lost",.str "pass"] (c / 3 % 5)=some (.str wd):=by
    generalize c / 3 % 5=z at z0 z1;rcases(by omega:z=0\/z=1\/z=2\/z=3\/z=4)with rfl | rfl | rfl | rfl | rfl<;>exact⟨_,rfl⟩
   apply eE (bO.of w1) hw ?_;apply⟨by show 1<=sizeLine;decide,λl nl=>?_⟩;generalize zz:upd H3 l _=H4;obtain⟨k2,w2⟩:=nwO nl zz;apply⟨by show 3<=sizeLine;decide,λe ne=>?_⟩;generalize zz:upd H4 e _=H5;obtain⟨k3,w3⟩:=nwO ne zz;have k13:=k1.trans (k2.trans k3);have i5:=iy.same k13;have nl3:Hy l=none:=k1.free nl;obtain⟨as,a1,a2,i6⟩:=i5.event (a:=e) (l:=l) (x:=(wd,.int i,[c % 9])) (λz=>by obtain⟨o,eo⟩:=iy.at l z;rw[nl3]at eo;cases eo) (aD iy.hp nl3).symm w3 (k3 _ _ w2);apply⟨b,_,_,rfl,rfl,a1,by rw[bx,a2,sizeLine_eq];omega,?_⟩;apply hD _ _ ⟨ps'++[b],Oe++[es++[(wd,.int i,[c % 9])]],_,_,rfl,λb' o hb'=>?_,i6,fy,?_,λes' he=>?_⟩
   ·rw[aB (aD hb' (fy b ζ))];exact k13 _ _ (sy _ _ hb')
   ·rw[List.length_append]at l1 ⊢;exact l1
   ·rcases List.mem_append.mp he with he | he
    ·exact l2 es' he
    ·rw[List.mem_singleton.mp he];exact⟨ζ,by rw[List.length_append];show es.length+1<=_;omega⟩
  have lp:=iv.al.length;have test:∀k:Bool->Hp->Prop,(∀Hz,aY H2 Hz->k true Hz)->(ps≠[]->∀Hz,aY H2 Hz->k false Hz)->(Kw (bV (aZ (G.Lr K false) ψ (eF aH))) (bV (aZ (lK λi j=>.bl (decide (j<i))) (aZ ο (aq 3) (tC (.int 3))) Γ))) [↑a,↑p,some (.int i),some (.int c)] H2 k:=by
   intro k h1 h2;apply⟨ε,λe0 ne0=>?_⟩;have s4:=aK ne0 (.lst []);refine Za0 (bO.of (s4 _ _ iv.hp)) (bO.of ao) ?_;generalize upd H2 e0 (.lst [])=H4 at s4 ⊢;cases hps:ps with
   | nil=>exact⟨true,rfl,h1 _ s4⟩
   | cons x xs=>
    refine⟨false,rfl,?_⟩;ext
    by_cases hd:(0:Int)<c % 3
    ·rw[decide_eq_true hd];exact h1 _ s4
    ·rw[decide_eq_false hd];exact h2 (by rw[hps];simp) _ s4
  refine Gj ?_;refine Zk6 (test _ (λHz sz=>RL ?_) λne Hz sz=>Vn ?_)
  ·have iz:=iv.same sz;exists .inl ⟨rfl,_,bO.of iz.hp⟩;apply⟨ε,λb nb=>?_⟩;refine⟨p,_,_,rfl,rfl,(aK nb _) _ _ iz.hp,by rw[bx,sizeLine_eq];omega,?_⟩;have sy:aY H (upd (upd Hz b (.lst [])) p (.lst Ψ)):=λc' o hc'=>by rw[aB (aD hc' np)];exact(aK nb _) _ _ (sz _ _ (sx _ _ hc'))
   refine rest _ ps b lg [] sy (iz.more nb) (λd hd=>?_) (by rw[List.length_append];show lg.length+1<=_;omega) (λes' he=>⟨(hne es' he).1,by have:=(hne es' he).2;omega⟩) (Nat.zero_le _) _ _ _ _ λσ Hz h=>h;rcases List.mem_append.mp hd with hd | hd
   ·exact fr d hd
   ·rw[List.mem_singleton.mp hd];exact sx.free (sz.free nb)
  ·refine MN ?_;have iz:=iv.same sz;rcases List.eq_nil_or_concat ps with e | ⟨ps',b,e⟩
   ·exact absurd e ne
   rw[List.concat_eq_append]at e;subst e;rcases List.eq_nil_or_concat lg with e | ⟨Oe,es,e⟩
   ·subst e;rw[List.length_append]at lp;cases lp
   rw[List.concat_eq_append]at e;subst e;exact rest _ ps' b Oe es (sx.trans sz) iz fr δ (λes' he=>⟨(hne es' (List.mem_append.mpr (.inl he))).1,by have:=(hne es' (List.mem_append.mpr (.inl he))).2;omega⟩) (hne es ζ).2 _ _ _ _ λσ Hz h=>h
 ·rintro σ Hx ⟨ps,lg,v2,v3,rfl,sx,iv,fr,hl,hne⟩;ext;rw[bx]at hl;exact q p ps lg Hx sx iv.hp iv.lg δ λes he=>(hne es he).1
theorem Kd{a:AI}(q:∃ns:AE,bO K H a (ns.map V.int)/\ns.length<=100/\∀H',aY H H'->Q (.bl true) H'):nF K (Tt K) Kg vp ξ [↑a,none,none] H:=by
 obtain⟨ns,hS,hn,q⟩:=q;unfold nF;apply⟨a,rfl,ns,hS,hn,λp ps lg H1 s1 hp lgh hl hne=>?_⟩;have lp:ps.length=lg.length:=Al.length lgh;ext;unfold Zns;apply fU (bO.of hp) ?_;rw[bx];exists _,_,rfl,⟨δ,δ,δ,δ⟩;rw[show((ps.length:Int)+1 - 1).toNat=ps.length by omega];refine forR (λi σ Hx=>∃v2,σ=[↑a,↑p,v2]/\aY H1 Hx) ⟨none,rfl,aY.refl _⟩ ?_ ?_
 ·rintro i σ Hx hi ⟨v2,rfl,sx⟩;have hpx:=sx _ _ hp;have lgx:=lgh.same sx;have eb:ps[i]? =some ps[i]:=bN hi;obtain⟨es,ees,as,hb,hev⟩:=Al.getL lgx eb;have ene:=hne es (List.mem_of_getElem? ees);generalize ps[i]=b at eb hb;apply⟨p,_,rfl,bO.of hpx,λq2 hq2=>?_⟩;have Zgv:M6 (ps.map V.ref) none (some (1+(i:Int)))=(ps.take (i+1)).map V.ref:=by
   unfold M6;rw[HT.QJ,List.drop_zero,Nat.sub_zero];have:HT.jW (ps.map V.ref).length (ps.map V.ref).length (some (1+(i:Int)))=i+1:=by
    rw[bx];simp only[HT.jW];rw[if_neg δ];omega
   rw[this,List.map_take]
  rw[Zgv];generalize zz:upd Hx q2 _=H2;obtain⟨s2,c2⟩:=nwO hq2 zz;have lgt:TF H2 (ps.take (i+1)) (lg.take (i+1)):=by
   refine Oj (by rw[List.length_take,List.length_take,lp]) λk x y e1 e2=>?_;have hk:k<i+1:=by
    have:=(cZ e1).1;rw[List.length_take]at this;omega
   rw[List.getElem?_take_of_lt hk]at e1 e2;obtain⟨x',e3,z⟩:=Al.get (lgx.same s2) e2;rw[e1]at e3;cases e3;exact z
  have el:tL (lg.take (i+1))=fu es:=by
   rw[List.take_add_one,ees];exact mZ _ _
  exists q2,rfl,_,_,c2,lgt;rw[el];apply eE (v:=.ref b) (bO.of (s2 _ _ hpx)) (mO δ (by rw[cI,show(1+(i:Int) - 1).toNat=i by omega,eb];rfl)) ?_;ext;rcases List.eq_nil_or_concat es with e | ⟨zs,x,e⟩
  ·exact absurd e ene
  rw[List.concat_eq_append]at e;subst e;rcases List.eq_nil_or_concat as with e | ⟨bs,c,e⟩
  ·subst e;have:=hev.length;rw[List.length_append]at this;cases this
  rw[List.concat_eq_append]at e;subst e;have hle:=hev.length;rw[List.length_append,List.length_append]at hle;have e1:[x].length=1:=rfl;have e2:[c].length=1:=rfl;obtain⟨a',ha',l,g1,g2⟩:=hev.get (i:=zs.length) (y:=x) (by rw[List.getElem?_append_right υ,Nat.sub_self];rfl);rw[show zs.length=bs.length by omega,List.getElem?_append_right υ,Nat.sub_self]at ha';cases ha';refine eE (v:=.ref c) (bO.of (s2 _ _ hb)) (by rw[List.map_append];exact jK _ _) ?_;exists c,_,0,_,rfl,rfl,fc.of (s2 _ _ g1),rfl;apply⟨_,_,rfl,by rw[qt],?_⟩;refine⟨true,rfl,?_⟩;apply⟨_,rfl,sx.trans s2⟩
 ·rintro σ Hx ⟨v2,rfl,sx⟩;apply q _ (s1.trans sx)
end
def Zb6(X:Cs):Sp:=λvs H Q E=>∃wo ev,vs=[.ref wo,.ref ev]/\∃T s A M b w hs k,WT H T/\s≠0/\WJ X H T s A M/\A.wo=wo/\KW M hs k/\HsB hs/\k<=800/\M.sw.phase=("lost":Str)/\El H T M b w/\w.length<=100000/\TV H ev (("lost":Str),V.int b,w)/\∀H',(∀b o,H b=some o->(T b).1≠s->H' b=some o)->Q (.bl true) H'
theorem Zio{K:aG}{H:Hp}{a d:AI}{x:Rz}{n:Nat}(f:iQ x.2.1=true)(h:TV H a x)(g:TV H d x):Dq K H (n+3) (.ref a) (.ref d):=by
 obtain⟨l,h1,h2⟩:=h;obtain⟨l',g1,g2⟩:=g;have fi:(x.2.2.map V.int).all iQ=true:=by rw[List.all_eq_true];intro y hy;obtain⟨z,_,rfl⟩:=List.mem_map.mp hy;rfl
 exact .inr ⟨a,d,rfl,rfl,.inr ⟨_,_,.inr ⟨fc.of h1,fc.of g1⟩,.cons (Zab rfl) (.cons (Zab f) (.cons (.inr ⟨l,l',rfl,rfl,.inr ⟨_,_,.inl ⟨bO.of h2,bO.of g2⟩,Zdr fi⟩⟩) .nil))⟩⟩
structure LwI(X:Cs)(H:Hp)(T:Tg)(s:Nat)(wo d:AI)(M:Wm)(b:Int)(w:AE)(A:Wa):Prop where
 wt:WT H T
 j:WJ X H T s A M
 aw:A.wo=wo
 lo:El H T M b w
 d1:∃l,H d=some (.tup [.str "lost",.int b,.ref l])/\H l=some (.lst (w.map V.int))/\(T d).1≠s/\(T l).1≠s
theorem El.same{H H':Hp}{T:Tg}{M:Wm}{b:Int}{w:AE}(h:El H T M b w)(s:aY H H'):El H' T M b w:=by
 obtain⟨a,wl,e1,e2,e3,e4,e5⟩:=h;exact⟨a,wl,e1,e2,s _ _ e3,e4,s _ _ e5⟩
theorem LwI.same{X:Cs}{H H':Hp}{T:Tg}{s:Nat}{wo d:AI}{M:Wm}{b:Int}{w:AE}{A:Wa}(i:LwI X H T s wo d M b w A)(sm:aY H H'):LwI X H' T s wo d M b w A:=by
 obtain⟨l,g1,g2,g3⟩:=i.d1;exact⟨i.wt.same sm,i.j.same sm,i.aw,i.lo.same sm,l,sm _ _ g1,sm _ _ g2,g3⟩
section
variable {K:aG}{X:Cs}{rf:Rf->AI}{bw:AI}{H:Hp}{Q:VK}{E:XK}{n:ν}{bk ct:ν}
theorem LwI.tell{T:Tg}{s:Nat}{wo d t:AI}{M:Wm}{b:Int}{w:AE}{A:Wa}{m:Nat}{hs:En}{k:Nat}(i:LwI X H T s wo d M b w A)(s0:s≠0)(kw:KW M hs k)(hb:HsB hs)(hk:k<=800)(ph:M.sw.phase=("lost":Str))(wl:w.length<=100000)(m1:1<=m)(ht:H t=some (.tup [.str "sweep",.int m]))
  (q:∀H' T' A' p a l,cY s H H' T T'->LwI X H' T' s wo d M b w A'->H' p=some (.lst [.ref a])->H p=none->H' a=some (.tup [.str "lost",.int b,.ref l])->H' l=some (.lst (w.map V.int))->H l=none->(T' l).1≠s->p≠l->(∀a0 wl,M.sw.loss=.ref a0->H' a0=some (.tup [.str "lost",.int b,.ref wl])->wl≠l)->Q (.ref p) H'):wF X [.ref wo,.ref t] H Q E:=by
 refine⟨wo,t,rfl,.inr ⟨m,ht,T,s,A,M,b,w,hs,k,m1,i.wt,s0,i.j,i.aw,kw,hb,hk,ph,i.lo,wl,λH' T' A' p a st j' aw' ev hp np lk pl=>?_⟩⟩;obtain⟨l,fl,v1,v2,t1,t2,_⟩:=ev;obtain⟨a0,wl',e1,e2,e3,e4,e5,e6⟩:=lk;obtain⟨ld,g1,g2,g3,g4⟩:=i.d1;refine q H' T' A' p a l st ⟨st.wt,j',aw',⟨a0,wl',e1,e2,e3,e4,e5⟩,ld,st.kp _ _ g1 g3,st.kp _ _ g2 g4,by rw[st.tg _ _ g1];exact g3,by rw[st.tg _ _ g2];exact g4⟩ hp np v1 v2 fl (t2.ne s0) (pl _ _ l v1) λa1 w1 h1 h2=>?_;rw[e1]at h1;cases h1;rw[e3]at h2;cases h2;exact e6 _ _ l v1
theorem V2{wo ev:AI}(q:∃T s A M b w hs k,WT H T/\s≠0/\WJ X H T s A M/\A.wo=wo/\KW M hs k/\HsB hs/\k<=800/\M.sw.phase=("lost":Str)/\El H T M b w/\w.length<=100000/\TV H ev (("lost":Str),V.int b,w)/\∀H',(∀b o,H b=some o->(T b).1≠s->H' b=some o)->Q (.bl true) H'):xj K yI Kl (Tj X) (wF X) ξ [↑wo,↑ev,none,none,none] H:=by
 obtain⟨T,s,A,M,b,w,hs,k,wt,s0,j,aw,kw,hb,hk,ph,lo,wl,⟨le,ev1,ev2⟩,q⟩:=q;unfold xj;exists ev,_,0,_,rfl,rfl,fc.of ev1,rfl;exists ev,_,1,_,rfl,rfl,fc.of ev1,rfl;exists ev,_,2,_,rfl,rfl,fc.of ev1,rfl;apply JS (bO.of ev2) λl2 nl2=>?_;generalize zz:upd H l2 _=H1;obtain⟨s1,g1⟩:=nwO nl2 zz;apply⟨by show 3<=sizeLine;decide,λd nd=>?_⟩;generalize zz:upd H1 d _=H2;obtain⟨s2,g2⟩:=nwO nd zz;have s12:=s1.trans s2;have td:T d=(0,0):=wt _ (s1.free nd);have tl:T l2=(0,0):=wt _ nl2;have i2:LwI X H2 T s wo d M b w A:=⟨wt.same s12,j.same s12,aw,lo.same s12,l2,g2,s2 _ _ g1,by rw[td];exact λz=>s0 z.symm,by rw[tl];exact λz=>s0 z.symm⟩;apply⟨wo,rfl,T,s,A,M,i2.j,aw,ph,λH3 s3=>?_⟩;have i3:=i2.same s3;have s13:=s12.trans s3;apply Zdc (λz=>absurd rfl z) (λ_=>?_);apply⟨by show 2<=sizeLine;decide,λt nt=>?_⟩;generalize zz:upd H3 t _=H4;obtain⟨s4,g4⟩:=nwO nt zz;have g4:H4 t=some (.tup [.str "sweep",.int ((3:Nat):Int)]):=g4;have i4:=i3.same s4;have s14:=s13.trans s4;apply i4.tell s0 kw hb hk ph wl ε g4 λH5 T5 A5 p a l st5 i5 hp np v1 v2 fl tl5 pl nwl=>?_;have ev5:TV H5 a (("lost":Str),V.int b,w):=⟨l,v1,v2⟩;obtain⟨ld,c1,c2,c3,c4⟩:=id i5.d1;have evd:TV H5 d (("lost":Str),V.int b,w):=⟨ld,c1,c2⟩;have ldl:ld≠l:=by
  obtain⟨l',e1,e2,e3,e4⟩:=i4.d1;have:=st5.kp _ _ e1 e3;rw[c1]at this;cases this;exact aD e2 fl
 apply⟨by show 1<=sizeLine;decide,λq1 nq1=>?_⟩;generalize zz:upd H5 q1 _=H6;obtain⟨s6,g6⟩:=nwO nq1 zz;have g6:H6 q1=some (.lst ([p].map V.ref)):=g6;exists q1,rfl,[p],[[_]],g6,.cons ⟨[a],s6 _ _ hp,.cons (ev5.same s6) .nil⟩ .nil;refine⟨true,rfl,?_⟩;apply⟨by show 1<=sizeLine;decide,λq2 nq2=>?_⟩;generalize zz:upd H6 q2 _=H7;obtain⟨s7,g7⟩:=nwO nq2 zz;have s67:=s6.trans s7;have i7:=i5.same s67;refine⟨p,q2,_,_,rfl,rfl,.inl ⟨bO.of (s67 _ _ hp),bO.of g7⟩,.cons (Zio (n:=3) rfl (ev5.same s67) (evd.same s67)) .nil,?_⟩;refine⟨false,rfl,?_⟩;apply⟨p,rfl,[a],[_],s67 _ _ hp,.cons (ev5.same s67) .nil,λx hx=>by rw[List.mem_singleton.mp hx];exact wl,by show 1<=1000;decide,λc hc x y l' h=>?_,λH8 chg=>?_⟩
 ·rw[List.mem_singleton.mp hc,s67 _ _ v1]at h;cases h;exact pl
 have only:∀b o,H7 b=some o->b≠l->H8 b=some o:=λb' o hb' nb=>chg.1 _ _ hb' (.inr λc hc x y l' h=>by rw[List.mem_singleton.mp hc,s67 _ _ v1]at h;cases h;exact nb);have i8:LwI X H8 T5 s wo d M b w A5:=by
  refine⟨λb' hb'=>i7.wt b' ?_,i7.j.lists λb' o hb' z=>?_,i7.aw,?_,ld,only _ _ (s67 _ _ c1) λz=>?_,only _ _ (s67 _ _ c2) ldl,c3,c4⟩
  ·cases z:H7 b' with
   | none=>rfl
   | some o=>obtain⟨o',e⟩:=chg.2 b' o z;rw[hb']at e;cases e
  ·rcases z with z | z
   ·exact chg.1 _ _ hb' (.inl z)
   ·exact only _ _ hb' λe=>tl5 (by rw[<- e];exact z)
  ·obtain⟨a0,w0,e1,e2,e3,e4,e5⟩:=i5.lo;exact⟨a0,w0,e1,e2,only _ _ (s67 _ _ e3) (λz=>by rw[z,v2]at e3;cases e3),e4,only _ _ (s67 _ _ e5) (nwl a0 w0 e1 e3)⟩
  ·rw[z,v2]at c1;cases c1
 apply⟨by show 2<=sizeLine;decide,λta nta=>?_⟩;generalize zz:upd H8 ta _=H9;obtain⟨s9,g9⟩:=nwO nta zz;have g9:H9 ta=some (.tup [.str "sweep",.int ((1:Nat):Int)]):=g9;have i9:=i8.same s9;apply i9.tell s0 kw hb hk ph wl ε g9 λHa Ta Aa pa aa la sta ia hpa npa va1 va2 fla tla pla nwa=>?_;apply⟨by show 1<=sizeLine;decide,λq3 nq3=>?_⟩;generalize zz:upd Ha q3 _=Hb;obtain⟨sb,gb⟩:=nwO nq3 zz;have ib:=ia.same sb;obtain⟨ldb,db1,db2,_⟩:=id ib.d1;refine⟨pa,q3,_,_,rfl,rfl,.inl ⟨bO.of (sb _ _ hpa),bO.of gb⟩,.cons (Zio (n:=3) (x:=(("lost":Str),V.int b,w)) rfl ⟨la,sb _ _ va1,sb _ _ va2⟩ ⟨ldb,db1,db2⟩) .nil,?_⟩;apply⟨by show 2<=sizeLine;decide,λtc ntc=>?_⟩;generalize zz:upd Hb tc _=Hc;obtain⟨sc,gc⟩:=nwO ntc zz;have gc:Hc tc=some (.tup [.str "sweep",.int ((2:Nat):Int)]):=gc;have ic:=ib.same sc;apply ic.tell s0 kw hb hk ph wl ε gc λHd Td Ad pd ad ld' std id' hpd npd vd1 vd2 fld tld pld nwd=>?_;apply⟨by show 1<=sizeLine;decide,λq4 nq4=>?_⟩;generalize zz:upd Hd q4 _=He;obtain⟨se,ge⟩:=nwO nq4 zz;have ie:=id'.same se;obtain⟨lde,de1,de2,_⟩:=id ie.d1;refine⟨pd,q4,_,_,rfl,rfl,.inl ⟨bO.of (se _ _ hpd),bO.of ge⟩,.cons (Zio (n:=3) (x:=(("lost":Str),V.int b,w)) rfl ⟨ld',se _ _ vd1,se _ _ vd2⟩ ⟨lde,de1,de2⟩) .nil,?_⟩;apply q _ λb' o hb' nb=>se _ _ ?_;have h5:=st5.kp _ _ (s14 _ _ hb') nb;have t5:T5 b'=T b':=st5.tg _ _ (s14 _ _ hb');have h8:H8 b'=some o:=only _ _ (s67 _ _ h5) λz=>by rw[z]at hb';rw[s14.free fl]at hb';cases hb'
 have ha:=sta.kp _ _ (s9 _ _ h8) (by rw[t5];exact nb);have ta':Ta b'=T b':=by rw[sta.tg _ _ (s9 _ _ h8),t5]
 exact std.kp _ _ (sc _ _ (sb _ _ ha)) (by rw[ta'];exact nb)
end
theorem SwC.flat{M M':Wm}{n:Nat}{es:List Rz}(h:SwC M n es M'):∀x∈es,iQ x.2.1=true:=by
 have fe:∀e:Ev,iQ (evz e).2.1=true:=λe=>by show iQ (oV e.thing)=true;cases e.thing<;>rfl
 induction h with
 | stop=>exact λx hx=>by cases hx
 | lost s l=>exact λx hx=>by rw[List.mem_singleton.mp hx];exact fe _
 | go s l h ih=>
  intro x hx;rcases List.mem_cons.mp hx with rfl | hx
  ·exact fe _
  ·exact ih x hx
theorem V3.flat{M M':Wm}{r:Om}{es:List Rz}(h:V3 M r es M'):∀x∈es,iQ x.2.1=true:=by
 cases r with
 | sw n=>exact SwC.flat h
 | dd d=>
  obtain⟨rfl,_⟩:=h;intro x hx;rw[List.mem_singleton.mp hx];cases rO M d with
  | ok x=>show iQ (oV x.1.thing)=true;cases x.1.thing<;>rfl
  | error r=>rfl
theorem pJ.flat{M M':Wm}{rs:List Om}{lg:List (List Rz)}(h:pJ M rs lg M'):∀es∈lg,∀x∈es,iQ x.2.1=true:=by
 induction h with
 | nil=>exact λes he=>by cases he
 | lost h l=>exact λes he=>by rw[List.mem_singleton.mp he];exact h.flat
 | go h l t ih=>
  intro es he;rcases List.mem_cons.mp he with rfl | he
  ·exact h.flat
  ·exact ih es he
theorem pJ.Zt0{M M':Wm}{rs:List Om}{lg:List (List Rz)}(h:pJ M rs lg M'):∀(i:Nat) es,lg[i]? =some es->i+1<lg.length->fu es=false:=by
 induction h with
 | nil=>exact λi es he=>by cases he
 | lost h l=>exact λi es he z=>absurd z (by show ¬ i+1<1;omega)
 | go h l t ih=>
  intro i es he z
  match i,he with
  | 0,he=>cases he;exact l
  | i+1,he=>exact ih i es he (by rw[List.length_cons]at z;omega)
theorem pJ.cut{M M':Wm}{rs:List Om}{lg:List (List Rz)}(h:pJ M rs lg M')(z:Nat):tL (lg.take z)=(tL lg && decide (lg.length<=z)):=by
 by_cases hz:lg.length<=z
 ·rw[List.take_of_length_le hz,decide_eq_true hz,Bool.and_true]
 ·rw[decide_eq_false hz,Bool.and_false];cases z with
  | zero=>rw[List.take_zero];rfl
  | succ z=>
   have hi:z<lg.length:=δ
   rw[List.take_add_one,bN hi];show tL (lg.take z++[lg[z]])=false;rw[mZ];exact h.Zt0 z _ (bN hi) δ
theorem Zoh{K:aG}{H:Hp}{as bs:AF}{es:List Rz}{n:Nat}(h:Al (TV H) as es)(g:Al (TV H) bs es)(f:∀x∈es,iQ x.2.1=true):Al (Dq K H (n+3)) (as.map V.ref) (bs.map V.ref):=by
 refine Oj (by rw[bx,bx,h.length,g.length]) λi x y e1 e2=>?_;rw[cI]at e1 e2;obtain⟨a,ha,rfl⟩:=Option.map_eq_some_iff.mp e1;obtain⟨b,hb,rfl⟩:=Option.map_eq_some_iff.mp e2;obtain⟨x,ex,h1⟩:=h.getL ha;obtain⟨x',ex',g1⟩:=g.getL hb;rw[ex]at ex';cases ex';exact Zio (f x (List.mem_of_getElem? ex)) h1 g1
theorem Zgw{K:aG}{H:Hp}{ps qs:AF}{lg:List (List Rz)}(h:TF H ps lg)(g:TF H qs lg)(f:∀es∈lg,∀x∈es,iQ x.2.1=true):Al (Dq K H 6) (ps.map V.ref) (qs.map V.ref):=by
 refine Oj (by rw[bx,bx,Al.length h,Al.length g]) λi x y e1 e2=>?_;rw[cI]at e1 e2;obtain⟨a,ha,rfl⟩:=Option.map_eq_some_iff.mp e1;obtain⟨b,hb,rfl⟩:=Option.map_eq_some_iff.mp e2;obtain⟨es,ex,as,h1,h2⟩:=Al.getL h ha;obtain⟨es',ex',bs,g1,g2⟩:=Al.getL g hb;rw[ex]at ex';cases ex';exact .inr ⟨a,b,rfl,rfl,.inr ⟨_,_,.inl ⟨bO.of h1,bO.of g1⟩,Zoh (n:=2) h2 g2 (f es (List.mem_of_getElem? ex))⟩⟩
theorem TF.take{H:Hp}{ps:AF}{lg:List (List Rz)}(h:TF H ps lg)(z:Nat):TF H (ps.take z) (lg.take z):=by
 refine Oj (by rw[List.length_take,List.length_take,Al.length h]) λk x y e1 e2=>?_;have hk:k<z:=by
  have:=(cZ e1).1;rw[List.length_take]at this;omega
 rw[List.getElem?_take_of_lt hk]at e1 e2;obtain⟨x',e3,z⟩:=Al.get h e2;rw[e1]at e3;cases e3;exact z
theorem Gp.mvr{H0 H H':Hp}{T T':Tg}{s r:Nat}{a:AI}{x:Rz}(r0:r≠0)(r1:r≠s+1)(h:Gp H0 H T s a x)(st:cY r H H' T T'):Gp H0 H' T' s a x:=by
 obtain⟨l,f,h1,h2,t1,t2,b⟩:=h;have n1:(T a).1≠r:=by unfold Ol at t1;omega
 have n2:(T l).1≠r:=by unfold Ol at t2;omega
 exact⟨l,f,st.kp _ _ h1 n1,st.kp _ _ h2 n2,by rw[st.tg _ _ h1];exact t1,by rw[st.tg _ _ h2];exact t2,b⟩
theorem XF.mvr{H0 H H':Hp}{T T':Tg}{s r:Nat}{ps:AF}{lg:List (List Rz)}(r0:r≠0)(r1:r≠s+1)(h:XF H0 H T s ps lg)(st:cY r H H' T T'):XF H0 H' T' s ps lg:=h.mono λb es ⟨as,h1,f,t,h2⟩=>by
 have n1:(T b).1≠r:=by unfold Ol at t;omega
 exact⟨as,st.kp _ _ h1 n1,f,by rw[st.tg _ _ h1];exact t,h2.mono λa x z=>Gp.mvr r0 r1 z st⟩
theorem XF.kp{H0 H H':Hp}{T T':Tg}{s r:Nat}{ps:AF}{lg:List (List Rz)}(r0:r≠0)(r1:r≠s+1)(h:XF H0 H T s ps lg)(k:∀b o,H b=some o->(T b).1≠r->H' b=some o)(tg:∀b o,H b=some o->T' b=T b):XF H0 H' T' s ps lg:=h.mono λb es ⟨as,h1,f,t,h2⟩=>by
 have n1:(T b).1≠r:=by unfold Ol at t;omega
 refine⟨as,k _ _ h1 n1,f,by rw[tg _ _ h1];exact t,h2.mono λa x ⟨l,f,h1,h2,t1,t2,b⟩=>?_⟩;exact⟨l,f,k _ _ h1 (by unfold Ol at t1;omega),k _ _ h2 (by unfold Ol at t2;omega),by rw[tg _ _ h1];exact t1,by rw[tg _ _ h2];exact t2,b⟩
section
variable {K:aG}{H:Hp}
theorem RC{p:AI}{ps:AF}{lg:List (List Rz)}{es:List Rz}(lgh:TF H ps (lg++[es]))(ne:es≠[]):∃qs b as c zs x l,ps=qs++[b]/\qs.length=lg.length/\H b=some (.lst ((as++[c]).map V.ref))/\es=zs++[x]/\H c=some (.tup [.str x.1,x.2.1,.ref l])/\H l=some (.lst (x.2.2.map V.int))/\Al (TV H) (as++[c]) es:=by
 have hl:ps.length=(lg++[es]).length:=Al.length lgh;rw[List.length_append]at hl;have e0:[es].length=1:=rfl;rcases List.eq_nil_or_concat ps with e | ⟨qs,b,e⟩
 ·subst e;cases hl
 rw[List.concat_eq_append]at e;subst e;rw[List.length_append]at hl;have e1:[b].length=1:=rfl;obtain⟨b',hb',as,h1,h2⟩:=Al.get lgh (i:=lg.length) (y:=es) (by rw[List.getElem?_append_right υ,Nat.sub_self];rfl);rw[show lg.length=qs.length by omega,List.getElem?_append_right υ,Nat.sub_self]at hb';cases hb';rcases List.eq_nil_or_concat es with e | ⟨zs,x,e⟩
 ·exact absurd e ne
 rw[List.concat_eq_append]at e;subst e;have hle:=h2.length;rcases List.eq_nil_or_concat as with e | ⟨as',c,e⟩
 ·subst e;rw[List.length_append]at hle;cases hle
 rw[List.concat_eq_append]at e;subst e;rw[List.length_append,List.length_append]at hle;have e2:[x].length=1:=rfl;have e3:[c].length=1:=rfl;obtain⟨a',ha',l,g1,g2⟩:=h2.get (i:=zs.length) (y:=x) (by rw[List.getElem?_append_right υ,Nat.sub_self];rfl);rw[show zs.length=as'.length by omega,List.getElem?_append_right υ,Nat.sub_self]at ha';cases ha';exact⟨qs,b,as',c,zs,x,l,rfl,δ,h1,rfl,g1,g2,h2⟩
theorem Zts{Q:VK}{p q:AI}{xs:List V}(h1:bO K H p xs)(h2:bO K H q [])(h:Q (.bl (decide (xs≠[]))) H):G.Lr K true (.ref p) (.ref q) H Q:=by
 refine⟨p,q,_,_,rfl,rfl,h1,h2,λe=>?_,?_⟩
 ·have:xs=[]:=List.length_eq_zero_iff.mp e;subst this;exact⟨rfl,rfl⟩
 ·cases xs with
  | nil=>exact h
  | cons a l=>
   rw[decide_eq_true (show a::l≠[]from λz=>nomatch z)]at h;exact h
theorem Zof{p:AI}{ps:AF}{lg:List (List Rz)}{k:Bool->Hp->Prop}(hp:H p=some (.lst (ps.map V.ref)))(lgh:TF H ps lg)(ne:∀es∈lg,es≠[]){v0 v1 v2 v3 v4 v5 v6 v8 v9 v10 v11 v12 v13:Option V}(h:∀Hz,aY H Hz->k (!tL lg) Hz):
  (Kw (bV (aZ (G.Lr K false) (aq 7) (eF aH))) (bV (aZ (rNe) (aZ (dX K) (aZ (fO K) (aZ (fO K) (aq 7) ah) ah) Γ) (tC (.str "lost"))))) [v0,v1,v2,v3,v4,v5,v6,↑p,v8,v9,v10,v11,v12,v13] H k:=by
 apply⟨ε,λe0 ne0=>?_⟩;have s4:=aK ne0 (.lst []);refine Za0 (bO.of (s4 _ _ hp)) (bO.of ao) ?_;generalize upd H e0 (.lst [])=H4 at s4 ⊢;rcases List.eq_nil_or_concat lg with rfl | ⟨zs,x,rfl⟩
 ·have:ps=[]:=List.length_eq_zero_iff.mp (Al.length lgh);subst this;exact⟨true,rfl,h _ s4⟩
 ·rw[List.concat_eq_append]at lgh h ne;obtain⟨qs,b,as,c,ys,y,l,rfl,_,h1,rfl,g1,_⟩:=RC (p:=p) lgh (ne x ζ);refine⟨false,by rw[decide_eq_false ζ],?_⟩;apply eE (v:=.ref b) (bO.of (s4 _ _ hp)) (by rw[List.map_append];exact jK _ _) ?_;apply eE (v:=.ref c) (bO.of (s4 _ _ h1)) (by rw[List.map_append];exact jK _ _) ?_;exists c,_,0,_,rfl,rfl,fc.of (s4 _ _ g1),rfl;ext;rw[mZ,qt]at h;exact h _ s4
theorem Zog{p:AI}{ps:AF}{lg:List (List Rz)}{k:VK}(hp:H p=some (.lst (ps.map V.ref)))(lgh:TF H ps lg)(ne:∀es∈lg,es≠[]){v0 v1 v2 v3 v4 v5 v6 v8 v9 v10 v11 v12 v13:Option V}(h:∀Hz,aY H Hz->k (.bl (tL lg)) Hz):
  (Bb (aZ (G.Lr K true) (aq 7) (eF aH)) (aZ (Fq) (aZ (dX K) (aZ (fO K) (aZ (fO K) (aq 7) ah) ah) Γ) (tC (.str "lost")))) [v0,v1,v2,v3,v4,v5,v6,↑p,v8,v9,v10,v11,v12,v13] H k:=by
 apply⟨ε,λe0 ne0=>?_⟩;have s4:=aK ne0 (.lst []);refine Zts (bO.of (s4 _ _ hp)) (bO.of ao) ?_;generalize upd H e0 (.lst [])=H4 at s4 ⊢;rcases List.eq_nil_or_concat lg with rfl | ⟨zs,x,rfl⟩
 ·have:ps=[]:=List.length_eq_zero_iff.mp (Al.length lgh);subst this;rw[decide_eq_false ζ];apply h _ s4
 ·rw[List.concat_eq_append]at lgh h ne;obtain⟨qs,b,as,c,ys,y,l,rfl,_,h1,rfl,g1,_⟩:=RC (p:=p) lgh (ne x ζ);rw[decide_eq_true ζ];apply eE (v:=.ref b) (bO.of (s4 _ _ hp)) (by rw[List.map_append];exact jK _ _) ?_;apply eE (v:=.ref c) (bO.of (s4 _ _ h1)) (by rw[List.map_append];exact jK _ _) ?_;exists c,_,0,_,rfl,rfl,fc.of (s4 _ _ g1),rfl;ext;rw[mZ,qt]at h;exact h _ s4
end
structure DuI(X:Cs)(H7 XJ:Hp)(M0:Wm)(hs:En)(rs:List Om)(wo1 wo2 p:AI)(i:Nat)(Hx:Hp)(Tx:Tg)(ps:AF)(lg:List (List Rz)):Prop where
 sm:aY H7 Hx
 tz:∀b o,H7 b=some o->Tx b=(0,0)
 wt:WT Hx Tx
 hp:Hx p=some (.lst (ps.map V.ref))
 tp:Tx p=(5,0)
 lr:XF XJ Hx Tx 1 ps lg
 al:∀b o,XJ b=some o->∃o',Hx b=some o'
 ne:∀es∈lg,es≠[]
 le:lg.length<=i
 go:(tL lg=false/\∃N Ax Bx,WJ X Hx Tx 1 Ax N/\Ax.wo=wo1/\WJ X Hx Tx 3 Bx N/\Bx.wo=wo2/\KW N hs i/\Nl N/\∀rs' Oe M',pJ N rs' Oe M'->pJ M0 (rs.take i++rs') (lg++Oe) M')\/
  (tL lg=true/\(∃M1,pJ M0 rs lg M1)/\∃M' Bx b w,WJ X Hx Tx 3 Bx M'/\Bx.wo=wo2/\KW M' hs 100/\M'.sw.phase=("lost":Str)/\El Hx Tx M' b w/\w.length<=100000/\∃es,lg.getLast? =some es/\es.getLast? =some (("lost":Str),V.int b,w))
theorem DuI.same{X:Cs}{H7 XJ:Hp}{M0:Wm}{hs:En}{rs:List Om}{wo1 wo2 p:AI}{i:Nat}{Hx Hy:Hp}{Tx:Tg}{ps:AF}{lg:List (List Rz)}(d:DuI X H7 XJ M0 hs rs wo1 wo2 p i Hx Tx ps lg)(s:aY Hx Hy):DuI X H7 XJ M0 hs rs wo1 wo2 p i Hy Tx ps lg:=by
 refine⟨d.sm.trans s,d.tz,d.wt.same s,s _ _ d.hp,d.tp,d.lr.mv ε (cY.same d.wt s),λb o h=>let ⟨o',e⟩:=d.al b o h;⟨o',s _ _ e⟩,d.ne,d.le,?_⟩;rcases d.go with ⟨z,N,Ax,Bx,j1,a1,j3,a3,r⟩ | ⟨z,r,M',Bx,b,w,j3,a3,k,ph,lo,rest⟩
 ·exact .inl ⟨z,N,Ax,Bx,j1.same s,a1,j3.same s,a3,r⟩
 ·exact .inr ⟨z,r,M',Bx,b,w,j3.same s,a3,k,ph,lo.same s,rest⟩
theorem DuI.next{X:Cs}{H7 XJ:Hp}{M0:Wm}{hs:En}{rs:List Om}{wo1 wo2 p:AI}{i:Nat}{Hx:Hp}{Tx:Tg}{ps:AF}{lg:List (List Rz)}(d:DuI X H7 XJ M0 hs rs wo1 wo2 p i Hx Tx ps lg)(z:tL lg=true):DuI X H7 XJ M0 hs rs wo1 wo2 p (i+1) Hx Tx ps lg:=by
 refine⟨d.sm,d.tz,d.wt,d.hp,d.tp,d.lr,d.al,d.ne,Nat.le_succ_of_le d.le,?_⟩;rcases d.go with ⟨y,_⟩ | h
 ·rw[z]at y;cases y
 ·exact .inr h
theorem DuI.turn{X:Cs}{H7 XJ:Hp}{M0:Wm}{hs:En}{rs:List Om}{wo1 wo2 p:AI}{i:Nat}{Hx:Hp}{Tx:Tg}{ps:AF}{lg:List (List Rz)}(d:DuI X H7 XJ M0 hs rs wo1 wo2 p i Hx Tx ps lg)(np7:H7 p=none)(h10:∃o,XJ p=some o)(i99:i<99){N:Wm}{r:Om}(nl:Nl N)(er:rs[i]? =some r)
  (co:∀rs' Oe M',pJ N rs' Oe M'->pJ M0 (rs.take i++rs') (lg++Oe) M')
  {es:List Rz}{as:AF}{M1:Wm}{Hy:Hp}{Ty:Tg}{Ay:Wa}{b:AI} (rr:V3 N r es M1) (ne:es≠[]) (kw1:KW M1 hs (i+1)) (sty:cY 1 Hx Hy Tx Ty) (jy:WJ X Hy Ty 1 Ay M1) (awy:Ay.wo=wo1) (ev:Al (Gp Hx Hy Ty 1) as es) (hb:Hy b=some (.lst (as.map V.ref))) (fb:Hx b=none) (tb:Ol 1 (Ty b))
  {as2:AF}{M2:Wm}{Hw:Hp}{Tw:Tg}{Bw:Wa} (rr2:V3 N r es M2) (kw2:KW M2 hs (i+1)) (stw:cY 3 (upd Hy p (.lst Ψ)) Hw Ty Tw) (jw:WJ X Hw Tw 3 Bw M2) (aww:Bw.wo=wo2) (ev2:Al (Gp (upd Hy p (.lst Ψ)) Hw Tw 3) as2 es) (lo2:fu es=true->Ze8 Hw Tw M2 es as2)
  {H6 Hv:Hp} (s6:aY Hw H6) (chg:Chg H6 Hv as2):DuI X H7 XJ M0 hs rs wo1 wo2 p (i+1) Hv Tw (ps++[b]) (lg++[es]):=by
 have hpy:Hy p=some (.lst (ps.map V.ref)):=sty.kp _ _ d.hp (by rw[d.tp];decide);have tpy:Ty p=(5,0):=by rw[sty.tg _ _ d.hp];exact d.tp
 have stz:cY 5 Hy (upd Hy p (.lst Ψ)) Ty Ty:=cY.upd sty.wt hpy (by rw[tpy]);have cz:upd Hy p (.lst Ψ) p=some (.lst ((ps++[b]).map V.ref)):=by rw[ao,List.map_append];rfl
 have fr:∀c,Hx c=none->XJ c=none:=λc hc=>by
  cases z:XJ c with
  | none=>rfl
  | some o=>obtain⟨o',e⟩:=d.al c o z;rw[hc]at e;cases e
 obtain⟨o10,h10⟩:=h10;have lrz:XF XJ (upd Hy p (.lst Ψ)) Ty 1 (ps++[b]) (lg++[es]):=XF.put (Al.app (d.lr.mv ε sty) ⟨as,hb,fr _ fb,tb,ev.mono (by rintro a x ⟨l,f,h⟩;exact⟨l,fr _ f,h⟩)⟩) h10 hpy;have s7z:aY H7 (upd Hy p (.lst Ψ)):=λc o hc=>by
  rw[aB (aD hc np7)];exact sty.kp _ _ (d.sm _ _ hc) (by rw[d.tz c o hc];decide)
 have tzy:∀c o,H7 c=some o->Ty c=(0,0):=λc o hc=>by rw[sty.tg _ _ (d.sm _ _ hc)];exact d.tz c o hc
 have j1z:=jy.other stz ε ε;generalize upd Hy p (.lst Ψ)=Hz at stz cz lrz s7z j1z stw ev2;have tell:∀c∈as2,∀x y l,H6 c=some (.tup [x,y,.ref l])->Hz l=none/\Ol 3 (Tw l)/\∃xs,Hw l=some (.lst xs):=λc hc x y l h=>by
  obtain⟨x',_,l0,f0,k1,k2,_,t2,_⟩:=ev2.mem hc;rw[s6 _ _ k1]at h;cases h;exact⟨f0,t2,_,k2⟩
 have KZ:∀c o,Hz c=some o->(Ty c).1≠3->Hv c=some o:=λc o hc nc=>chg.1 _ _ (s6 _ _ (stw.kp _ _ hc nc)) (.inr λe he x y l h=>aD hc (tell e he x y l h).1);have tgw:∀c o,Hz c=some o->Tw c=Ty c:=stw.tg;have bnd:∀x∈es,x.2.2.length<=100000:=λx hx=>by
  obtain⟨k,hk⟩:=List.getElem?_of_mem hx;obtain⟨_,_,_,_,_,_,_,_,z⟩:=ev2.get hk;exact z
 have et:rs.take (i+1)=rs.take i++[r]:=by rw[List.take_add_one,er];rfl
 have j3v:WJ X Hv Tw 3 Bw M2:=(jw.same s6).lists λc o hc z=>by
  rcases z with z | z
  ·exact chg.1 _ _ hc (.inl z)
  ·refine chg.1 _ _ hc (.inr λe he x y l h=>?_);have:=(tell e he x y l h).2.1;intro y;rw[<- y]at this;unfold Ol at this;omega
 refine⟨λc o hc=>KZ _ _ (s7z _ _ hc) (by rw[tzy c o hc];decide),λc o hc=>by rw[tgw _ _ (s7z _ _ hc)];exact tzy c o hc,λc hc=>?_,KZ _ _ cz (by rw[tpy];decide),by rw[tgw _ _ cz];exact tpy,lrz.kp (r:=3) ε ε KZ tgw,λc o hc=>?_,λes' he=>?_,by rw[List.length_append];exact Nat.succ_le_succ d.le,?_⟩
 ·refine stw.wt c (s6.free ?_);cases z:H6 c with
  | none=>rfl
  | some o=>obtain⟨o',e⟩:=chg.2 c o z;rw[hc]at e;cases e
 ·obtain⟨o1,e1⟩:=d.al c o hc;obtain⟨o2,e2⟩:=sty.al c o1 e1;obtain⟨o3,e3⟩:=stz.al c o2 e2;obtain⟨o4,e4⟩:=stw.al c o3 e3;exact chg.2 c o4 (s6 _ _ e4)
 ·rcases List.mem_append.mp he with he | he
  ·exact d.ne es' he
  ·rw[List.mem_singleton.mp he];exact ne
 ·rw[mZ];cases z:fu es with
  | false=>
   obtain⟨e,nM⟩:=(rr.det nl rr2).2.1 z;subst e;refine .inl ⟨rfl,M1,Ay,Bw,j1z.mv ⟨λc o h e _=>KZ c o h (by rw[e];decide),tgw⟩ λc o h t=>KZ c o h (by rw[t];decide),awy,j3v,aww,kw1,nM,λrs' Oe M' h=>?_⟩;rw[et,List.append_assoc,List.append_assoc];exact co (r::rs') (es::Oe) M' (.go rr z h)
  | true=>
   have rn:=co (r::rs.drop (i+1)) [es] M1 (.lost rr z);have ed:rs.take i++r::rs.drop (i+1)=rs:=by
    have:=List.take_append_drop (i+1) rs;rw[et,List.append_assoc]at this;exact this
   rw[ed]at rn;obtain⟨b',w,a0,wl,e1,e2,e3,e4,e5,e6,e7⟩:=lo2 z;have wb:w.length<=100000:=bnd _ (List.mem_of_getLast? e1);refine .inr ⟨rfl,⟨M1,rn⟩,M2,Bw,b',w,j3v,aww,kw2.mono δ,(rr2.det nl rr2).2.2 z,⟨a0,wl,e2,e3,chg.1 _ _ (s6 _ _ e4) (.inl λxs y=>by cases y),e5,chg.1 _ _ (s6 _ _ e6) (.inr λc hc x y l h=>?_)⟩,wb,es,by rw[List.getLast?_concat],e1⟩;obtain⟨x',_,l0,f0,k1,k2,_⟩:=ev2.mem hc;rw[s6 _ _ k1]at h;cases h;exact e7 c hc _ _ _ k1
def Ziz(K:aG):Sp:=λvs H Q E=>∃a,vs=[.ref a]/\∃ns:AE,bO K H a (ns.map V.int)/\ns.length<=63/\∀H',Q (.bl true) H'
theorem Zs0(ns:AE):∃cs:AE,M6 (ns.map V.int) (some 3) (some 43)=cs.map V.int/\cs.length<=40:=by
 refine⟨(ns.drop (HT.jW ns.length 0 (some 3))).take (HT.jW ns.length ns.length (some 43) - HT.jW ns.length 0 (some 3)),?_,?_⟩
 ·unfold M6;rw[List.map_take,List.map_drop,bx]
 ·rw[List.length_take];have:HT.jW ns.length ns.length (some 43) - HT.jW ns.length 0 (some 3)<=40:=by
   simp only[HT.jW];rw[if_neg ε,if_neg ε];omega
  omega
theorem RwL.same{H H':Hp}{l:AI}{rs:List Om}(h:RwL H l rs)(s:aY H H'):RwL H' l rs:=by
 obtain⟨as,h1,h2,h3⟩:=h;exact⟨as,s _ _ h1,h2,λi a ha=>let ⟨x,e,q⟩:=h3 i a ha;⟨x,e,s _ _ q⟩⟩
section
variable {K:aG}{X:Cs}{bw:AI}{H:Hp}{Q:VK}{E:XK}{n:ν}{bk ct:ν}
theorem Zan{d:Nat}:∀ds:AF,Al (Dq K H (d+1)) (ds.map V.ref) (ds.map V.ref)
 | []=>.nil
 | a::ds=>.cons (.inr ⟨a,a,rfl,rfl,.inl rfl⟩) (Zan ds)
theorem Zop(ps:AF)(z:Nat):M6 (ps.map V.ref) none (some (z:Int))=(ps.take z).map V.ref:=by
 unfold M6;rw[HT.QJ,List.drop_zero,Nat.sub_zero];have:HT.jW (ps.map V.ref).length (ps.map V.ref).length (some (z:Int))=min z ps.length:=by
  rw[bx];simp only[HT.jW];rw[if_neg δ];omega
 rw[this,List.map_take];rcases Nat.le_total z ps.length with y | y
 ·rw[Nat.min_eq_left y]
 ·rw[Nat.min_eq_right y,List.take_of_length_le (by rw[bx];exact Nat.le_refl _),List.take_of_length_le (by rw[bx];exact y)]
theorem Zcs{a l rw' x ki h2 r2' dx:AI}{m:Int}{ns:AE}{ts as:AF}{v3 v5 v6 v7 v8 v9 v10 v11 v12 v13:Option V}(TT:TxS K X bw)(hS:bO K H a (ns.map V.int))(e1:H x=some (.ins bw dx (uw m ki h2 r2')))(e2:H h2=some (.lst (ts.map V.ref)))(e3:H r2'=some (.lst (as.map V.ref)))(k1:H l=some (.lst (ts.map V.ref)))(r1:H rw'=some (.lst (as.map V.ref)))(h:∀H',Q (.bl true) H'):
  (aP (dJ (vH (tB (aU (Qa K) [] E0 (ak (tSl (U0 K) ρ (vJ (tC (.int 3))) (vJ (tC (.int 43)))) aH)))) (bB (tC (.bl false))) cu)
   (bB ((Bb (aZ (G.Lq K false) (bD K (aq 4) "rows") Ω) (aZ (G.Lq K false) (bD K (aq 4) "hands") ψ))))) ξ [↑a,↑l,↑rw',v3,↑x,v5,v6,v7,v8,v9,v10,v11,v12,v13] H:=by
 obtain⟨cs,Zgv,cl⟩:=Zs0 ns;apply⟨a,_,rfl,hS,λcp hcp=>?_⟩;rw[Zgv];generalize zz:upd H cp _=H2;obtain⟨s2,c2⟩:=nwO hcp zz;apply⟨cp,rfl,cs,bO.of c2,δ,λH3 s3=>?_⟩;have s:=s2.trans s3;refine⟨true,rfl,?_⟩;apply aL (s _ _ e1) TT.jk TT.Zg5 Bv ?_;exists r2',rw',_,_,rfl,rfl,.inl ⟨bO.of (s _ _ e3),bO.of (s _ _ r1)⟩,Zan as;apply aL (s _ _ e1) TT.jk TT.Zq Bd ?_;apply⟨h2,l,_,_,rfl,rfl,.inl ⟨bO.of (s _ _ e2),bO.of (s _ _ k1)⟩,Zan ts,h _⟩
theorem Ztc{a:AI}(TT:TxS K X bw)(q:∃ns:AE,bO K H a (ns.map V.int)/\ns.length<=63/\∀H',Q (.bl true) H'):
  Zfp K bw (Aw bw) (Zb6 X) (Zhl K) yI (Zhk X) vq (Qa K) Zb4 (Zb3 X) Kl Zhg (Zb1 K) Kg vp (Zov bw X) (wF X) (yH bw X) ξ [↑a,none,none,none,none,none,none,none,none,none,none,none,none,none] H:=by
 obtain⟨ns,hS,hlen,h⟩:=q;obtain⟨cs,Zgv,cl⟩:=Zs0 ns;unfold Zfp;apply⟨a,_,rfl,ns,hS,ε,λz1=>?_⟩;apply⟨_,rfl,λl hs H1 s1 nl ho hb=>?_⟩;apply⟨a,_,rfl,s1.seq hS,λcp hcp=>?_⟩;rw[Zgv];generalize zz:upd H1 cp _=H2;obtain⟨s2,c2⟩:=nwO hcp zz;have s02:=s1.trans s2;apply⟨a,_,rfl,ns,s02.seq hS,ε,λz2=>?_⟩;apply⟨cp,l,_,_,rfl,cs,hs,bO.of c2,δ,ho.same s2,hb,ε,ε,λrw' rs H3 s3 nrw rwl ZD6 rok=>?_⟩;have s03:=s02.trans s3
 replace ho:=ho.same (s2.trans s3)
 apply⟨a,_,rfl,ns,s03.seq hS,ε,λz0=>?_⟩;apply⟨_,rfl,λki lk w t H4 t0 t1 ew s4 nki nlk kd=>?_⟩;have s04:=s03.trans s4
 replace ho:=ho.same s4
 replace rwl:=rwl.same s4
 apply⟨a,_,rfl,ns,s04.seq hS,ε,λz2'=>?_⟩;apply⟨_,rfl,λm=>?_⟩;obtain⟨ts,k1,k2⟩:=id ho;obtain⟨as,r1,r2,r3⟩:=id rwl;apply⟨l,_,rfl,bO.of k1,λla nla=>?_⟩;generalize zz:upd H4 la _=H5;obtain⟨s5,c5⟩:=nwO nla zz;apply⟨rw',_,rfl,bO.of (s5 _ _ r1),λlb nlb=>?_⟩;generalize zz:upd H5 lb _=H6;obtain⟨s6,c6⟩:=nwO nlb zz;ext;intro x dx nx ndx ne;have sM:aY H6 (upd (upd H6 dx (.own x)) x (.ins bw dx [])):=λb o hb=>by rw[aB (aD hb nx),aB (aD hb ndx)];exact hb
 refine⟨x,m,ki,la,lb,rfl,dx,_,_,ao,sM _ _ (s6 _ _ c5),sM _ _ c6,λH7 h2 r2' e1 e2 e3 kM f1 f2 f3=>⟨rfl,?_⟩⟩;have s67:aY H6 H7:=λb o hb=>kM b o (sM b o hb) (aD hb nx);have s47:=s5.trans (s6.trans s67);have s07:=s04.trans s47
 replace ho:=ho.same s47
 replace rwl:=rwl.same s47
 replace kd:=kd.same s47
 have hsc:HsO H7 h2 hs:=⟨ts,e2,k2.mono λa m z=>s47 _ _ z⟩;have rsc:RwL H7 r2' rs:=⟨as,e3,r2,λi c hc=>let ⟨y,q1,q2⟩:=r3 i c hc;⟨y,q1,s47 _ _ q2⟩⟩;have hS7:bO K H7 a (ns.map V.int):=s07.seq hS
 replace k1:=s47 _ _ k1
 replace r1:=s47 _ _ r1
 replace r3:∀(i:Nat) a,as[i]? =some a->∃r,rs[i]? =some r/\H7 a=some (.tup (rV r)):=λi c hc=>let ⟨y,q1,q2⟩:=r3 i c hc;⟨y,q1,s47 _ _ q2⟩
 clear s47 s67 sM kM s6 s5 c5 c6 s04 s4 s03 s02 s3 s2 s1 f1 f2 f3 nx ndx ne nlb nla nki nlk nrw nl hcp c2;apply⟨x,rfl,λ_=>(0,0),1,dx,m,ki,h2,r2',lk,w,t,hs,e1,kd,hsc,hb,λ_ _=>rfl,ε,rfl,rfl,λH8 T8 A8 s8 tg8 wt8 j8=>?_⟩;ext;obtain⟨⟨d1,kd1⟩,⟨d2,kd2⟩⟩:=id kd;have tlk:T8 lk=(0,0):=by
  rcases kd2 with ⟨_,e⟩ | ⟨_,e⟩ | ⟨_,e⟩<;>exact tg8 _ _ e
 refine⟨x,rfl,T8,3,dx,m,ki,h2,r2',lk,w,t,hs,s8 _ _ e1,kd.same s8,hsc.same s8,hb,wt8,ε,tg8 _ _ kd1,tlk,λH9 T9 A9 s9 tg9 wt9 j9=>?_⟩;have j91:WJ X H9 T9 1 A8 (Ft m hs w t):=j8.mv ⟨λb o h _ _=>s9 _ _ h,tg9⟩ λb o h _=>s9 _ _ h;have s79:=s8.trans s9;have tz9:∀b o,H7 b=some o->T9 b=(0,0):=λb o hb=>by rw[tg9 _ _ (s8 _ _ hb)];exact tg8 _ _ hb
 apply⟨ε,λp np=>?_⟩;have sta:cY 5 H9 (upd H9 p (.lst [])) T9 (eG T9 p (5,0)):=cY.fresh wt9 np;have sa:=aK np (.lst []);have ca:upd H9 p (.lst []) p=some (.lst (([]:AF).map V.ref)):=ao;have ja1:=j91.other sta ε ε;have ja3:=j9.other sta ε ε;have tpa:eG T9 p (5,0) p=(5,0):=dM;have tza:∀b o,H7 b=some o->eG T9 p (5,0) b=(0,0):=λb o hb=>by rw[sta.tg _ _ (s79 _ _ hb)];exact tz9 b o hb
 have wta:=sta.wt;have np7:H7 p=none:=s79.free np;have s7a:=s79.trans sa;generalize eG T9 p (5,0)=Ta at sta ja1 ja3 tpa tza wta;generalize upd H9 p (.lst [])=Ha at sta ja1 ja3 ca wta s7a sa ⊢;have k0:KW (Ft m hs w t) hs 0:=KW.new t0 t1;have d0:DuI X H7 Ha (Ft m hs w t) hs rs A8.wo A9.wo p 0 Ha Ta [] []:=⟨s7a,tza,wta,ca,tpa,.nil,λb o hb=>⟨o,hb⟩,(λes he=>by cases he),Nat.le_refl _,.inl ⟨rfl,_,A8,A9,ja1,rfl,ja3,rfl,k0,Nl.new,λrs' Oe M' h=>h⟩⟩;clear sta ja1 ja3 tza wta sa s79 tz9 j91 wt9 tg9 s9 np tlk kd1 kd2 wt8 tg8 s8 j8 j9 s7a tpa;apply⟨rw',rfl,⟨_,bO.of (d0.sm _ _ r1)⟩,forL (as.map V.ref) (λi σ Hx=>∃Tx ps lg v8 v9,σ=[↑a,↑l,↑rw',↑ki,↑x,↑A8.wo,↑A9.wo,↑p,v8,v9,none,none,none,none]/\DuI X H7 Ha (Ft m hs w t) hs rs A8.wo A9.wo p i Hx Tx ps lg) ⟨Ta,[],[],none,none,rfl,d0⟩ (by rintro i σ Hx _ ⟨_,_,_,_,_,_,d⟩;exact bO.of (d.sm _ _ r1)) ?_ ?_⟩
 ·rintro i v σ Hx hv ⟨Tx,ps,lg,v8,v9,rfl,d⟩;rw[cI]at hv;obtain⟨ra,hra,rfl⟩:=Option.map_eq_some_iff.mp hv;obtain⟨r,er,hr7⟩:=r3 i ra hra;have hi:=(cZ hra).1;have hle:=d.le;refine Zw0 ?_;refine Zk6 (Zof d.hp d.lr.h d.ne λHz sz=>?_)
  replace d:=d.same sz
  clear sz;cases z:tL lg with
  | true=>
   refine Vn ?_;apply⟨Tx,ps,lg,_,_,rfl,d.next z⟩
  | false=>
   refine RL ?_;obtain⟨N,Ax,Bx,j1,a1,j3,a3,kw,nl,co⟩:∃N Ax Bx,WJ X Hz Tx 1 Ax N/\Ax.wo=A8.wo/\WJ X Hz Tx 3 Bx N/\Bx.wo=A9.wo/\KW N hs i/\Nl N/\∀rs' Oe M',pJ N rs' Oe M'->pJ (Ft m hs w t) (rs.take i++rs') (lg++Oe) M':=by
    rcases d.go with ⟨_,h⟩ | ⟨y,_⟩
    ·exact h
    ·rw[z]at y;cases y
   have okr:=rok r (List.mem_of_getElem? er);exists .inl ⟨rfl,_,bO.of d.hp⟩;apply⟨A8.wo,ra,rfl,Tx,1,Ax,N,r,hs,i,d.wt,ε,j1,a1,d.sm _ _ hr7,okr,kw,hb,δ,nl,λes as1 M1 Hy Ty Ay b rr ne le1 kw1 sty jy awy ev hbb fb tb lo1 pl1=>?_⟩;have lps:ps.length=lg.length:=Al.length d.lr;have hpy:Hy p=some (.lst (ps.map V.ref)):=sty.kp _ _ d.hp (by rw[d.tp];decide);have tpy:Ty p=(5,0):=by rw[sty.tg _ _ d.hp];exact d.tp
   have stz:cY 5 Hy (upd Hy p (.lst Ψ)) Ty Ty:=cY.upd sty.wt hpy (by rw[tpy]);have j3z:=(j3.other sty ε ε).other stz ε ε;have hrz:upd Hy p (.lst Ψ) ra=some (.tup (rV r)):=stz.kp _ _ (sty.kp _ _ (d.sm _ _ hr7) (by rw[d.tz _ _ hr7];decide)) (by rw[sty.tg _ _ (d.sm _ _ hr7),d.tz _ _ hr7];decide);have nbp:b≠p:=λe=>by rw[e,d.hp]at fb;cases fb
   have hbz:upd Hy p (.lst Ψ) b=some (.lst (as1.map V.ref)):=by rw[aB nbp];exact hbb
   have ZCv:Al (Gp Hz (upd Hy p (.lst Ψ)) Ty 1) as1 es:=ev.mono λa x hh=>hh.put d.hp hpy;have cz:upd Hy p (.lst Ψ) p=some (.lst Ψ):=ao;apply⟨p,_,_,rfl,rfl,hpy,by rw[bx,sizeLine_eq];omega,?_⟩;apply⟨A9.wo,ra,rfl,.inl ⟨Ty,3,Bx,N,r,hs,i,stz.wt,ε,j3z,a3,hrz,okr,kw,hb,δ,nl,λes2 as2 M2 Hw Tw Bw qf rr2 ne2 le2 kw2 stw jw aww ev2 hq fq tq lo2 Y4=>?_⟩⟩;obtain⟨rfl,_⟩:=rr.det nl rr2;have czw:Hw p=some (.lst Ψ):=stw.kp _ _ cz (by rw[tpy];decide);have hbw:Hw b=some (.lst (as1.map V.ref)):=stw.kp _ _ hbz (by unfold Ol at tb;omega);have ZCw:Al (Gp Hz Hw Tw 1) as1 es:=ZCv.mono λa x hh=>hh.mvr ε ε stw;apply⟨by show 1<=sizeLine;decide,λq1 nq1=>?_⟩;generalize zz:upd Hw q1 _=H6;obtain⟨s6,g6⟩:=nwO nq1 zz;have g6:H6 q1=some (.lst ([qf].map V.ref)):=g6;have Zud:Al (TV H6) as2 es:=ev2.mono λa x hh=>hh.h.same s6;exists q1,rfl,[qf],[es],g6,.cons ⟨as2,s6 _ _ hq,Zud⟩ .nil;refine⟨true,rfl,?_⟩;apply eE (v:=.ref b) (bO.of (s6 _ _ czw)) (jK _ _) ?_;refine⟨qf,b,_,_,rfl,rfl,.inl ⟨bO.of (s6 _ _ hq),bO.of (s6 _ _ hbw)⟩,Zoh (n:=3) Zud (ZCw.mono λa x hh=>hh.h.same s6) rr.flat,?_⟩;refine⟨false,rfl,?_⟩;apply⟨qf,rfl,as2,es,s6 _ _ hq,Zud,λy hy=>?_,le2,λc hc x' y l' hh=>?_,λHv chg=>?_⟩
   ·obtain⟨k',hk⟩:=List.getElem?_of_mem hy;obtain⟨_,_,_,_,_,_,_,_,zz⟩:=ev2.get hk;exact zz
   ·obtain⟨x0,_,l0,f0,k1',_⟩:=ev2.mem hc;rw[s6 _ _ k1']at hh;cases hh;exact Y4 c hc _ _ _ k1'
   apply⟨Tw,ps++[b],lg++[es],_,_,rfl,d.turn np7 ⟨_,ca⟩ δ nl er co rr ne kw1 sty jy awy ev hbb fb tb rr2 kw2 stw jw aww ev2 lo2 s6 chg⟩
 ·rintro σ Hx ⟨Tx,ps,lg,v8,v9,rfl,d⟩;rw[bx,r2]at d;obtain⟨ME,rn⟩:∃M1,pJ (Ft m hs w t) rs lg M1:=by
   rcases d.go with ⟨_,N,_,_,_,_,_,_,_,_,co⟩ | ⟨_,h,_⟩
   ·have:=co [] [] N (.nil N);rw[List.append_nil,List.append_nil,List.take_length]at this;exact⟨N,this⟩
   ·exact h
  have fl:=rn.flat;have ll:=d.le;have lps:ps.length=lg.length:=Al.length d.lr;apply⟨x,_,rfl,none,rfl,dx,m,ki,h2,r2',lk,w,t,hs,rs,d.sm _ _ e1,kd.same d.sm,t0,t1,hsc.same d.sm,hb,rsc.same d.sm,δ,rok,λHb pb psb lgb Mb sb rb hpb JG _=>?_⟩;rw[show(none:Option Nat).getD rs.length=rs.length from rfl,List.take_length]at rb;rw[rb.det Nl.new rn]at JG;clear rb lgb
  replace d:=d.same sb
  exists pb,rfl,psb,lg,hpb,JG;refine⟨true,rfl,?_⟩;exists pb,p,_,_,rfl,rfl,.inl ⟨bO.of hpb,bO.of d.hp⟩,Zgw JG d.lr.h fl;refine⟨false,rfl,?_⟩;apply⟨ε,λq0 nq0=>?_⟩;generalize zz:upd Hb q0 _=Hc;obtain⟨sc,gc⟩:=nwO nq0 zz;have gc:Hc q0=some (.lst (([]:AF).map V.ref)):=gc
  replace d:=d.same sc
  replace hpb:=sc _ _ hpb
  replace JG:=JG.same sc
  exists q0,rfl,[],[],gc,.nil;ext;rw[show tL []=false from rfl,decide_eq_true rfl];refine Vn ?_;apply⟨a,_,rfl,ns,d.sm.seq hS7,ε,λz1'=>?_⟩;apply fU (bO.of (d.sm _ _ r1)) ?_;rw[bx,r2];apply⟨_,_,_,rfl,ε,ε,δ,λz y0 y1=>?_⟩;obtain⟨z,rfl⟩:=Int.eq_ofNat_of_zero_le y0;apply⟨x,_,rfl,some z,rfl,dx,m,ki,h2,r2',lk,w,t,hs,rs,d.sm _ _ e1,kd.same d.sm,t0,t1,hsc.same d.sm,hb,rsc.same d.sm,δ,rok,λHd pd psd lgd Md sd rd hpd Vg _=>?_⟩;obtain⟨Mt,rt⟩:=rn.take z
  replace rd:pJ (Ft m hs w t) (rs.take z) lgd Md:=rd
  rw[rd.det Nl.new rt]at Vg;clear rd lgd
  replace d:=d.same sd
  replace hpb:=sd _ _ hpb
  replace JG:=JG.same sd
  exists pd,rfl,psd,lg.take z,hpd,Vg;refine⟨true,rfl,?_⟩;apply⟨p,_,rfl,bO.of d.hp,λq2 nq2=>?_⟩;rw[Zop];generalize zz:upd Hd q2 _=He;obtain⟨se,ge⟩:=nwO nq2 zz
  replace d:=d.same se
  replace hpb:=se _ _ hpb
  replace JG:=JG.same se
  replace hpd:=se _ _ hpd
  replace Vg:=Vg.same se
  refine⟨pd,q2,_,_,rfl,rfl,.inl ⟨bO.of hpd,bO.of ge⟩,Zgw Vg (TF.take d.lr.h z) (λes he=>fl es (List.mem_of_mem_take he)),?_⟩;refine⟨false,rfl,?_⟩;apply⟨x,_,rfl,none,rfl,dx,m,ki,h2,r2',lk,w,t,hs,rs,d.sm _ _ e1,kd.same d.sm,t0,t1,hsc.same d.sm,hb,rsc.same d.sm,δ,rok,λHf pf psf lgf Mf sf rf' hpf Zvg _=>?_⟩;rw[show(none:Option Nat).getD rs.length=rs.length from rfl,List.take_length]at rf';rw[rf'.det Nl.new rn]at Zvg;clear rf' lgf
  replace d:=d.same sf
  replace hpb:=sf _ _ hpb
  replace JG:=JG.same sf
  replace hpd:=sf _ _ hpd
  replace Vg:=Vg.same sf
  exists pf,p,_,_,rfl,rfl,.inl ⟨bO.of hpf,bO.of d.hp⟩,Zgw Zvg d.lr.h fl;refine⟨false,rfl,?_⟩;refine Vn ?_;refine MN ?_;refine Gj ?_;refine Zrs (Zog d.hp d.lr.h d.ne λHg sg=>?_)
  replace d:=d.same sg
  replace hpb:=sg _ _ hpb
  replace JG:=JG.same sg
  replace hpd:=sg _ _ hpd
  replace Vg:=Vg.same sg
  have cut:=rn.cut z;exists pb,rfl,psb,lg,hpb,JG;exists _,_,rfl,rfl;refine⟨true,rfl,?_⟩;exists pd,rfl,psd,lg.take z,hpd,Vg;cases hz:tL lg with
  | false=>
   apply⟨_,_,rfl,by rw[cut,hz];rfl,?_⟩;refine⟨true,rfl,?_⟩;left;refine Gj ?_;left;exact Zcs TT (d.sm.seq hS7) (d.sm _ _ e1) (d.sm _ _ e2) (d.sm _ _ e3) (d.sm _ _ k1) (d.sm _ _ r1) h
  | true=>
   apply fU (bO.of d.hp) ?_;rw[bx];apply⟨_,_,rfl,by rw[cut,hz,Bool.true_and];exact decide_eq_decide.mpr δ,?_⟩;refine⟨true,rfl,?_⟩;obtain⟨M',Bx,b,w',j3,a3,kw,ph,lo,wl,es,el,eg⟩:∃M' Bx b w,WJ X Hg Tx 3 Bx M'/\Bx.wo=A9.wo/\KW M' hs 100/\M'.sw.phase=("lost":Str)/\El Hg Tx M' b w/\w.length<=100000/\∃es,lg.getLast? =some es/\es.getLast? =some (("lost":Str),V.int b,w):=by
    rcases d.go with ⟨y,_⟩ | ⟨_,_,h⟩
    ·rw[hz]at y;cases y
    ·exact h
   obtain⟨Oe,e⟩:=List.getLast?_eq_some_iff.mp el;have lgh:=d.lr.h;have hpg:=d.hp;rw[e]at lgh;obtain⟨qs,b0,as',c,zs,y,l',ep,_,h1,e5,g1,g2,_⟩:=RC (p:=p) lgh (d.ne es (by rw[e];simp));rw[e5,List.getLast?_concat]at eg;cases eg;rw[ep,List.map_append]at hpg;apply eE (v:=.ref b0) (bO.of hpg) (jK _ _) ?_;apply eE (v:=.ref c) (bO.of h1) (by rw[List.map_append];exact jK _ _) ?_;apply⟨A9.wo,c,rfl,Tx,3,Bx,M',b,w',hs,100,d.wt,ε,j3,a3,kw,hb,ε,ph,lo,wl,⟨l',g1,g2⟩,λHi kI=>?_⟩;refine⟨true,rfl,?_⟩;have sI:aY H7 Hi:=λb' o hb'=>kI _ _ (d.sm _ _ hb') (by rw[d.tz _ _ hb'];decide);left;exact Zcs TT (sI.seq hS7) (sI _ _ e1) (sI _ _ e2) (sI _ _ e3) (sI _ _ k1) (sI _ _ r1) h
end
def top(i:Nat):Stmt:=PySem.Challenge.pw_greywalk_k40_run_row_by_row.main.body.getD i (.Pass ⟨0,0,0,0⟩)
abbrev sJ:Stmt:=inClass (top 8) 0
abbrev zj:Stmt:=inClass (top 8) 1
abbrev pZ:Stmt:=inClass (top 8) 2
abbrev sG:Stmt:=inClass (top 9) 0
abbrev jV:Stmt:=inClass (top 9) 1
abbrev Gy:Stmt:=inClass (top 9) 2
abbrev Cp:Stmt:=inClass (top 9) 3
abbrev Cm:Stmt:=inClass (top 9) 4
abbrev zg:Stmt:=inClass (top 9) 5
abbrev Li:Stmt:=top 10
abbrev Gw:Stmt:=top 11
abbrev QH:Stmt:=top 15
abbrev mW:Stmt:=inClass (top 16) 2
abbrev lN:Stmt:=inClass (top 16) 3
abbrev su:Stmt:=inClass (top 16) 4
abbrev pX:Stmt:=inClass (top 17) 2
abbrev pY:Stmt:=inClass (top 18) 2
abbrev pW:Stmt:=inClass (top 19) 2
abbrev zf:Stmt:=inClass (top 19) 3
abbrev sE:Stmt:=inClass (top 20) 0
abbrev sH:Stmt:=inClass (top 22) 0
abbrev mV:Stmt:=inClass (top 23) 0
abbrev pR:Stmt:=inClass (top 24) 0
abbrev Zfi:Stmt:=top 25
abbrev BP:Stmt:=top 26
abbrev BJ:Stmt:=top 27
abbrev BK:Stmt:=top 28
abbrev yU:Stmt:=top 29
abbrev YJ:Stmt:=top 30
abbrev Zfh:Stmt:=top 31
abbrev Gs:Stmt:=top 32
abbrev Zfj:Stmt:=top 33
abbrev YH:Stmt:=top 34
abbrev K5:Stmt:=top 35
abbrev Gr:Stmt:=top 37
abbrev Lh:Stmt:=top 38
abbrev BL:Stmt:=top 39
abbrev wK:Stmt:=top 40
abbrev wL:Stmt:=top 41
abbrev Ld:Stmt:=top 42
abbrev QG:Stmt:=top 43
abbrev QF:Stmt:=top 44
abbrev Lg:Stmt:=top 45
abbrev Lf:Stmt:=top 46
abbrev Le:Stmt:=top 47
abbrev Gv:Stmt:=top 48
abbrev La:Stmt:=top 49
abbrev Lb:Stmt:=top 50
abbrev K9:Stmt:=top 51
abbrev wM:Stmt:=top 52
abbrev Zsi:Stmt:=top 54
abbrev pU:Stmt:=inClass (top 57) 0
abbrev Gq:Stmt:=top 58
abbrev K7:Stmt:=top 60
abbrev QC:Stmt:=top 61
abbrev yS:Stmt:=top 63
abbrev uz:Stmt:=top 64
abbrev ux:Stmt:=top 65
abbrev Zff:Stmt:=top 66
abbrev wN:Stmt:=top 67
abbrev Zlt:Stmt:=top 68
abbrev yV:Stmt:=top 69
abbrev Gu:Stmt:=top 70
abbrev yP:Stmt:=top 71
abbrev uy:Stmt:=top 72
abbrev yR:Stmt:=top 73
abbrev s_end:Stmt:=top 74
abbrev pP:Stmt:=top 75
abbrev Zfg:Stmt:=top 77
abbrev K4:Stmt:=top 78
abbrev YF:Stmt:=top 80
abbrev YG:Stmt:=top 81
abbrev yQ:Stmt:=top 82
abbrev yO:Stmt:=top 83
abbrev K6:Stmt:=top 84
abbrev QB:Stmt:=top 85
abbrev K8:Stmt:=top 86
abbrev Ck:Stmt:=top 88
abbrev Cg:Stmt:=top 89
abbrev za:Stmt:=top 90
abbrev BZ:Stmt:=top 91
abbrev BW:Stmt:=top 92
abbrev BR:Stmt:=top 93
abbrev Ca:Stmt:=top 94
abbrev yW:Stmt:=top 95
abbrev yX:Stmt:=top 96
abbrev Gx:Stmt:=top 97
abbrev BX:Stmt:=top 98
abbrev Cd:Stmt:=top 99
abbrev uA:Stmt:=top 100
abbrev Cj:Stmt:=top 101
abbrev yZ:Stmt:=top 102
abbrev BV:Stmt:=top 103
abbrev uB:Stmt:=top 104
abbrev zb:Stmt:=top 105
abbrev uC:Stmt:=top 106
abbrev pQ:Stmt:=top 107
abbrev QD:Stmt:=top 108
abbrev Fi(K:aG)(c:AI)(s:Str)(f:AI):Prop:=W.findIn K (.ref c) s=some (↑f)
abbrev Fo(K:aG)(c:AI)(s:Str):Prop:=W.findIn K (.ref c) s=some none
abbrev Ns(K:aG)(s:Str)(f:AI):Prop:=W.nsIn K mainGlobals s=some (↑f)
abbrev Ki(K:aG)(f:AI):Prop:=W.keepIn K (.ref f)=true
abbrev Ci(K:aG)(c:AJ)(s:Str):Prop:=W.codeIn K c s=true
abbrev Lk(K:aG)(f:AI)(a b:Str)(s:Stmt)(d:AJ)(oc:AJ)(od:Option AI)(kV dc pm:AJ)(an:Option AI)(cd ct:AJ)(sl:Array AB):Prop:=K.lookup f=some ⟨oc,od,.func (W.fnOf a b (iH s) (fj s) (aF s) d kV dc pm an cd ct),sl⟩
abbrev FnG(K:aG)(x q:Str)(s:Stmt)(f:AI):Prop:=∃fd,Fun K x q s f fd
section
variable {K:aG}{x q:Str}{s:Stmt}{f C:AI}{oc:AJ}{od:Option AI}{kV dc pm:AJ}{an:Option AI}{cd ct:AJ}{sl:Array AB}
theorem fgm(l:Lk K f x q s .none oc od kV dc pm an cd ct sl)(c:Ci K cd q)(k:Ki K f):FnG K x q s f:=⟨_,Zo4 l c k⟩
noncomputable def fM (g:FnG K x q s f):AL:=g.choose
theorem Gk(g:FnG K x q s f):Fun K x q s f (fM g):=g.choose_spec
structure FA(K:aG)(x:Str)(s:Stmt)(f:AI):Prop where
 a:Ns K x f
 g:FnG K x x s f
theorem fam(a:Ns K x f)(l:Lk K f x x s .none oc od kV dc pm an cd ct sl)(c:Ci K cd x)(k:Ki K f):FA K x s f:=⟨a,fgm l c k⟩
structure FT(K:aG)(mg:As)(x:Str)(s:Stmt)(f:AI):Prop where
 m:mg x=↑f
 g:FnG K x x s f
structure MT(K:aG)(C:AI)(x q:Str)(s:Stmt)(f:AI):Prop where
 m:Meth K C x f
 g:FnG K x q s f
theorem mtm(a:Fi K C x f)(i:W.isFn K (.ref f)=true)(l:Lk K f x q s .none oc od kV dc pm an cd ct sl)(c:Ci K cd q)(k:Ki K f):MT K C x q s f:=⟨⟨a,i,k⟩,fgm l c k⟩
structure CA(K:aG)(C:AI):Prop where
 c:Er K C
 mk':W.makesIn K C=true
 k:Ki K C
theorem cam(a:W.plainGet K C Str.empty=true)(b:W.hasDictIn K C=true)(c:W.plainOver K C=true)(d:W.findIn K (.ref C) "__setattr__"=some (some (.builtin "object.__setattr__")))(e:W.makesIn K C=true)(f:Ki K C):CA K C:=⟨⟨a,b,c,d⟩,e,f⟩
theorem exm(a:W.findIn K (.ref C) "__getattribute__"=some (some (.builtin "BaseException.__getattribute__")))(b:Fo K C "__getattr__")(c:W.findIn K (.ref C) "__class__"=some (some (.builtin "object.__class__")))(d:W.mroIn K C (.type "object")=some true)(e:W.mroIn K C (.type "BaseException")=some true)(f:W.hasDictIn K C=true):G.Kp K C:=⟨a,b,c,d,e,f⟩
end
theorem cn1{a:Type}{us:List a}{n:Nat}(h:us.length=n+1):∃x t,us=x::t/\t.length=n:=by cases us with | nil=>cases h | cons x t=>exact⟨x,t,rfl,Nat.succ.inj h⟩
theorem bd1{K:aG}{x qual:Str}{st:Stmt}{f:AI}{fd:AL}(F:Fun K x qual st f fd)(a0:Str)(h:∀(kV doc pm:AJ) (an:Option AI) (cdv ct u0:AJ),bindArgs ag ⟨[u0],[]⟩=pure (([a0]:AH).zip [u0]):=by intros;rfl):Binds K fd [a0] []:=F.binds λkV doc pm an cdv ct us hl=>by obtain⟨u0,_,rfl,l1⟩:=cn1 (n:=0) hl;cases List.eq_nil_of_length_eq_zero l1;exact h kV doc pm an cdv ct u0
theorem bd2{K:aG}{x qual:Str}{st:Stmt}{f:AI}{fd:AL}(F:Fun K x qual st f fd)(a0 a1:Str)(h:∀(kV doc pm:AJ) (an:Option AI) (cdv ct u0 u1:AJ),bindArgs ag ⟨[u0,u1],[]⟩=pure (([a0,a1]:AH).zip [u0,u1]):=by intros;rfl):Binds K fd [a0,a1] []:=F.binds λkV doc pm an cdv ct us hl=>by obtain⟨u0,_,rfl,l1⟩:=cn1 (n:=1) hl;obtain⟨u1,_,rfl,l2⟩:=cn1 (n:=0) l1;cases List.eq_nil_of_length_eq_zero l2;exact h kV doc pm an cdv ct u0 u1
theorem bd3{K:aG}{x qual:Str}{st:Stmt}{f:AI}{fd:AL}(F:Fun K x qual st f fd)(a0 a1 a2:Str)(h:∀(kV doc pm:AJ) (an:Option AI) (cdv ct u0 u1 u2:AJ),bindArgs ag ⟨[u0,u1,u2],[]⟩=pure (([a0,a1,a2]:AH).zip [u0,u1,u2]):=by intros;rfl):Binds K fd [a0,a1,a2] []:=F.binds λkV doc pm an cdv ct us hl=>by obtain⟨u0,_,rfl,l1⟩:=cn1 (n:=2) hl;obtain⟨u1,_,rfl,l2⟩:=cn1 (n:=1) l1;obtain⟨u2,_,rfl,l3⟩:=cn1 (n:=0) l2;cases List.eq_nil_of_length_eq_zero l3;exact h kV doc pm an cdv ct u0 u1 u2
theorem bd4{K:aG}{x qual:Str}{st:Stmt}{f:AI}{fd:AL}(F:Fun K x qual st f fd)(a0 a1 a2 a3:Str)(h:∀(kV doc pm:AJ) (an:Option AI) (cdv ct u0 u1 u2 u3:AJ),bindArgs ag ⟨[u0,u1,u2,u3],[]⟩=pure (([a0,a1,a2,a3]:AH).zip [u0,u1,u2,u3]):=by intros;rfl):Binds K fd [a0,a1,a2,a3] []:=F.binds λkV doc pm an cdv ct us hl=>by obtain⟨u0,_,rfl,l1⟩:=cn1 (n:=3) hl;obtain⟨u1,_,rfl,l2⟩:=cn1 (n:=2) l1;obtain⟨u2,_,rfl,l3⟩:=cn1 (n:=1) l2;obtain⟨u3,_,rfl,l4⟩:=cn1 (n:=0) l3;cases List.eq_nil_of_length_eq_zero l4;exact h kV doc pm an cdv ct u0 u1 u2 u3
theorem bd5{K:aG}{x qual:Str}{st:Stmt}{f:AI}{fd:AL}(F:Fun K x qual st f fd)(a0 a1 a2 a3 a4:Str)(h:∀(kV doc pm:AJ) (an:Option AI) (cdv ct u0 u1 u2 u3 u4:AJ),bindArgs ag ⟨[u0,u1,u2,u3,u4],[]⟩=pure (([a0,a1,a2,a3,a4]:AH).zip [u0,u1,u2,u3,u4]):=by intros;rfl):Binds K fd [a0,a1,a2,a3,a4] []:=F.binds λkV doc pm an cdv ct us hl=>by obtain⟨u0,_,rfl,l1⟩:=cn1 (n:=4) hl;obtain⟨u1,_,rfl,l2⟩:=cn1 (n:=3) l1;obtain⟨u2,_,rfl,l3⟩:=cn1 (n:=2) l2;obtain⟨u3,_,rfl,l4⟩:=cn1 (n:=1) l3;obtain⟨u4,_,rfl,l5⟩:=cn1 (n:=0) l4;cases List.eq_nil_of_length_eq_zero l5;exact h kV doc pm an cdv ct u0 u1 u2 u3 u4
structure Hh(P:AM)(w:AO)(K:aG)(mg:As)(base:Heap)(n:Nat)(f:AI)(fd:AL)(ps:AH)(sp:Sp):Prop where
 g:vB P w K mg base (G.FJ P w) n f fd ps sp
 b:Binds K fd ps []
 k:W.keepIn K (.ref f)=true
abbrev Fn5(P:AM)(w:AO)(K:aG)(mg:As)(base:Heap)(n:Nat)(f:AI)(fd:AL)(ps:AH)(sp:Sp):Prop:=vB P w K mg base (G.FJ P w) n f fd ps sp
section
variable {X:Cx}{n k:Nat}{f:AI}{fd:AL}{ps:AH}{sp:Sp}{x:Str}{e:AN}{es:AG}{t:TA}{p pos:Pos}{s:Stmt}
theorem dU(g0:Hh X.prog X.w X.K X.mg X.base n f fd ps sp)(hr:Room k X.A)(hm:FT X.K X.mg x s f)(ha:PA X (e::es) t)(hn:n<=k:=by decide)(hg:X.env.kindOf x=some .globalImplicit:=by rfl)(hdb:(x == ("__debug__":Str))=false:=by decide)(he:starEach (e::es) X.env=(false,eval e X.env)::starEach es X.env:=by rfl)(hpl:(backTo pos (starEach es X.env)).any (·.1)=false:=by rfl):PE X (.Call (.Name x p) (e::es) [] pos) (aU sp [] E0 t):=qD g0.g (hr.mono hn) hg hm.m g0.k g0.b .nil G.dF ha hdb he hpl
theorem Zv8(g0:Hh X.prog X.w X.K X.mg X.base n f fd ps sp)(hr:Room k X.A)(hm:X.mg x=↑f)(ha:PA X (e::es) t)(hn:n<=k:=by decide)(hg:X.env.kindOf x=some .globalImplicit:=by rfl)(hdb:(x == ("__debug__":Str))=false:=by decide)(he:starEach (e::es) X.env=(false,eval e X.env)::starEach es X.env:=by rfl)(hpl:(backTo pos (starEach es X.env)).any (·.1)=false:=by rfl):PE X (.Call (.Name x p) (e::es) [] pos) (aU sp [] E0 t):=qD g0.g (hr.mono hn) hg hm g0.k g0.b .nil G.dF ha hdb he hpl
end
theorem cA{N P:AH}{sc:Scope}(a:sc.kind=.function:=by rfl)(b:sc.isCoroutine=false:=by rfl)(c:sc.isGenerator=false:=by rfl)(d:N.Nodup:=by decide +kernel)(e:N.take P.length=P:=by rfl)(f:∀x∈P,sc.names.lookup x=some .local\/sc.names.lookup x=some .cell:=by decide +kernel)(g:∀y∈sc.names,y.2≠.free:=by decide +kernel):aO N P sc:=⟨a,b,c,d,e,f,g⟩
abbrev Bh:AH:=["self","birth","many","bulk","tone"]
abbrev xZ:AH:=["self","field"]
abbrev Bf:AH:=["self","room"]
abbrev CZ:AH:=["self","many","bulk","tone"]
abbrev Q7:AH:=["self","cell"]
abbrev N5:AH:=["self","place"]
abbrev WY:AH:=["heap","place"]
abbrev Q5:AH:=["heap","place"]
abbrev uI:AH:=["self","hands"]
abbrev tE:AH:=["self","looked","hands"]
abbrev xX:AH:=["self","hands"]
abbrev xY:AH:=["self","looked","hands"]
abbrev xW:AH:=["self","looked","hands"]
abbrev Be:AH:=["self","looking","tells"]
abbrev Bg:AH:=["self","name","many"]
abbrev xU:AH:=["self","room","kind","hands"]
abbrev Nu:AH:=["heap","places"]
abbrev Nq:AH:=["world","hand"]
abbrev Nr:AH:=["world","cell"]
abbrev Zmb:AH:=["world","place"]
abbrev Q3:AH:=["world","places"]
abbrev Zmc:AH:=["world","place","birth"]
abbrev Wx:AH:=["world","place","birth"]
abbrev QZ:AH:=["world","hand"]
abbrev WX:AH:=["world","hand","slot"]
abbrev Nt:AH:=["world","hand","slot","field"]
abbrev FZ:AH:=["world","place"]
abbrev Ga:AH:=["world","hand","place"]
abbrev WM:AH:=["world","deed"]
abbrev Zc6:AH:=["world","deed"]
abbrev Zc5:AH:=["world","deed"]
abbrev WW:AH:=["world","deed"]
abbrev WR:AH:=["world","deed"]
abbrev WQ:AH:=["world","deed"]
abbrev Q4:AH:=["world","deed"]
abbrev WK:AH:=["world","deed"]
abbrev WL:AH:=["world","deed"]
abbrev Wz:AH:=["world","deed"]
abbrev Gb:AH:=["world","word"]
abbrev Zv9:AH:=["world","deed"]
abbrev xV:AH:=["self","room","kind","hands","rows"]
abbrev Wy:AH:=["heap","rows"]
abbrev Zc4:AH:=["heap","places","way"]
abbrev Jo:AH:=["world","hands"]
abbrev Zhx:AH:=["world","row"]
abbrev Zhy:AH:=["world","many"]
abbrev Jm:AH:=["events"]
abbrev Jl:AH:=["world","deed"]
abbrev Zhz:AH:=["scene","most"]
abbrev NZ:AH:=["_law_script","_law_k"]
abbrev NQ:AH:=["_law_cell_here","_law_prime","_law_many"]
abbrev Js:AH:=["_law_cell_here"]
abbrev NB:AH:=["_law_cell_here"]
abbrev Ny:AH:=["_law_drawn","_law_size"]
abbrev Nv:AH:=["_law_seed","_law_number"]
abbrev NK:AH:=["_law_n","_law_hand","_law_slot_here"]
abbrev Jp:AH:=["_law_n","_law_most"]
abbrev Jq:AH:=["_law_n","_law_hand","_law_slot_here","_law_hands_here","_law_seed"]
abbrev Q6:AH:=["_law_n","_law_hands_here","_law_seed","_law_most"]
abbrev Nz:AH:=["_law_cells","_law_hands_here","_law_seed","_law_most"]
abbrev NP:AH:=["_law_number"]
abbrev CT:AH:=["_law_caught"]
abbrev NT:AH:=["_law_world","_law_row_here"]
abbrev Jr:AH:=["_law_log"]
abbrev Nx:AH:=["_law_found","_law_due"]
abbrev CV:AH:=["_law_events"]
abbrev Jt:AH:=["_law_world","_law_event"]
abbrev CW:AH:=["_law_cells"]
abbrev xT:AH:=["_law_cells"]
section
variable {X:Cx}
theorem fY{a b:AN}{ta tb:TE}{pos:Pos}{r:R2}(hr:IxR X r)(ha:PE X a ta)(hb:PE X b tb)(hs:Zb8 b:=by exact λ_ _=>rfl):PE X (.Subscript a b pos) (aZ r ta tb):=Zrn hr ha hb hs
theorem pdg{o i:AN}{td ty:TE}{pos:Pos}{k:Nat}(hr:Room k X.A)(ho:PE X o td)(hi:PE X i ty)(hs:Zrc i:=by exact λ_ _=>rfl):PE X (.Subscript o i pos) (Zbe td ty):=Zpp (Dy hr) ho hi hs
theorem nA{a b:AN}{ta tb:TE}{pos:Pos}{op:CmpOp}{r:R2}(ho:yJ X (compareOp op) r)(ha:PE X a ta)(hb:PE X b tb)(hm:behindInMarks op b=false:=by exact lU _):PT X (.Compare a [op] [b] pos) (bV (aZ r ta tb)):=Zpk ho ha hb hm
theorem eV(i:Nat){x:Str}{e:AN}{te:TE}{pos' pos:Pos}(hN:X.N.Nodup)(he:PE X e te)(hi:X.N[i]? =some x:=by rfl)(hx:Loc X.env.scope x:=by exact Or.inl rfl)(hs:swapsWith e (some (.Name x pos')) pos.line X.env=pure false:=by rfl)(hf:X.fn x=true\/X.env.scope.names.lookup x=some .local:=by first | exact .inl rfl | exact .inr rfl | assumption):PS X (.Assign [.Name x pos'] e pos) (bH te (aR i)):=Y0 hN hi hx he hs hf
end
structure PAw(X:Cx)(es:AG)(t:TA):Prop where
 h:PA X es t
structure PSw(X:Cx)(st:List Stmt)(t:TS):Prop where
 h:Px X st t
structure PPw(X:Cx)(pos:Pos)(keys:List (Option AN))(values:AG)(trs:List (TE×TE)):Prop where
 h:PPs X pos keys values trs
structure PEw(X:Cx)(e:AN)(t:TE):Prop where
 h:PE X e t
section
variable {X:Cx}
theorem Zpq:PAw X [] aH:=⟨az⟩
theorem lX{e es te t}(ha:PE X e te)(hr:PAw X es t)(hs:starEach (e::es) X.env=(false,eval e X.env)::starEach es X.env:=by rfl):PAw X (e::es) (ak te t):=⟨aj ha hr.h hs⟩
theorem Je{st rest t u}(h1:PS X st t)(h2:PSw X rest u):PSw X (st::rest) (aP t u):=⟨au h1 h2.h⟩
theorem Zhv{st t}(h1:PS X st t):PSw X [st] t:=⟨aC h1⟩
theorem Zpl{i:Nat}{x:Str}{es t b tb p q pos' pos rest u}(hN:X.N.Nodup)(hi:X.N[i]? =some x)(hx:Loc X.env.scope x)(h:PAw X es t)(hb:PE X b tb)(hp:Zb8 b)(h2:PSw X rest u)(hs:swapsWith (.Subscript (.List es p) b q) (some (.Name x pos')) pos.line X.env=pure false:=by rfl)(hf:X.fn x=true\/X.env.scope.names.lookup x=some .local:=by first | exact .inl rfl | exact .inr rfl | assumption):PSw X (.Assign [.Name x pos'] (.Subscript (.List es p) b q) pos::rest) (aP (bH (aZ (fO X.K) (eF t) tb) (aR i)) u):=⟨au (Y0 hN hi hx (Zrn cj (cg h.h) hb hp) hs hf) h2.h⟩
end
open PySem.Spec PyProof.Rows in
theorem ZCr{P:AM}{w:AO}{K:aG}{mg:As}{base:Heap}{x qual:Str}{st:Stmt}{f:AI}{fd:AL}{N ps:AH}{sp:Sp}{k:Nat}(F:Fun K x qual st f fd)(S:aO N ps (aF st))(len:∀vs H Q E,sp vs H Q E->vs.length=ps.length)
  (hbody:∀(cdv:AJ) (A:Around) (outer:List Env) (s:AK) (H:Hp) (vs:List V) (Q:VK) (E:XK),Room k (A.deeper (envOfC qual (aF st) s.heap.objs.size f cdv))->sp vs H Q E->
   ∃t,PSw (DQ (FJ P w) P w K mg base N qual (aF st) f cdv A outer s H E).nox (fj st) t/\t { nx:=λ_ H'=>Q .non H',rt:=Q } (start N vs) H):vB P w K mg base (FJ P w) (k+1) f fd ps sp:=
 G.fok F S len λcdv A outer s H vs Q E hr h=>let ⟨t,p,q⟩:=hbody cdv A outer s H vs Q E hr h;⟨t,p.h,q⟩
structure Ad where
 (bw eY aJ aQ bF aV gR pF jj gP gh vf rN rM pD yF u9 DP cT dG dR jg ji jf pC gO gQ fB gw SM rz qY qZ o5 J3 SJ u5 SN J2 yx uZ yE q8 lZ mj iV kJ kE iZ iY iW gD iT iU iR mq Zoa gA uY yC DN oZ dz dj Sx mz Zdl o7 u6 oW dm oY Zdk cM Sy yw JZ J0 oX oU yz J1 yD rK rH pA rE rC rA rF o8 o9 vd rD rG kO rJ pq rB kW pB kY je:AI)
 (Ak Za8:AL)
 (Zdq:AC)
structure Txt(w:AO)(K:aG)(mg:As)(XQ:Cs)(AD:Ad):Prop where
 Wq:G.Tab K w mg "DEEDS" [("make",AD.iV),("get",AD.kJ),("put",AD.kE),("copy",AD.iZ),("drop",AD.iY),("give",AD.iW),("write",AD.gD),("read",AD.iT),("name",AD.iU),("seek",AD.iR)]
 Wo:G.Tab K w mg "STEPS" [("rest",AD.dz),("walk",AD.dj),("give",AD.dm),("lost",AD.cM)]
 cN:Er K XQ.C
 Zn6:mg "Cell"=↑XQ.C
 Zi7:Mk K XQ.C AD.gR
 cX:bA K XQ.C "birth"
 kh:bA K XQ.C "bulk"
 jq:bA K XQ.C "tone"
 gZ:bA K XQ.C "load"
 dN:bA K XQ.C "fields"
 P0:G.EqD K XQ.C
 cC:Er K XQ.H
 Zn3:mg "Heap"=↑XQ.H
 Zi5:Mk K XQ.H AD.gP
 j7:bA K XQ.H "room"
 bK:bA K XQ.H "cells"
 fH:bA K XQ.H "used"
 jo:bA K XQ.H "born"
 DW:Er K XQ.F
 Zib:mg "First"=↑XQ.F
 W8:G.Mk0 K XQ.F
 J9:Er K XQ.E
 Zn5:mg "Each"=↑XQ.E
 Zco:G.Mk0 K XQ.E
 J8:Er K XQ.L
 Zn2:mg "Last"=↑XQ.L
 Zcn:G.Mk0 K XQ.L
 Ziw:Er K XQ.K
 Zw:mg "Kind"=↑XQ.K
 PK:Mk K XQ.K AD.gO
 oH:bA K XQ.K "looking"
 t8:bA K XQ.K "tells"
 Zix:Er K XQ.D
 Zn4:mg "Hand"=↑XQ.D
 Zi6:Mk K XQ.D AD.gQ
 wk:bA K XQ.D "name"
 uc:bA K XQ.D "slots"
 S7:Er K XQ.S
 W9:mg "Sweeper"=↑XQ.S
 Rt:Mk K XQ.S AD.fB
 mH:bA K XQ.S "sense"
 mJ:bA K XQ.S "phase"
 oG:bA K XQ.S "grey"
 lC:bA K XQ.S "looked"
 oA:bA K XQ.S "turn"
 tX:bA K XQ.S "at"
 oE:bA K XQ.S "stop"
 mG:bA K XQ.S "walks"
 mK:bA K XQ.S "looks"
 lB:bA K XQ.S "passes"
 oF:bA K XQ.S "loss"
 Zdy:Er K XQ.W
 Zi9:mg "World"=↑XQ.W
 Zcl:Mk K XQ.W AD.gw
 tW:bA K XQ.W "heap"
 tV:bA K XQ.W "kind"
 qI:bA K XQ.W "hands"
 qH:bA K XQ.W "names"
 mF:bA K XQ.W "sweeper"
 jk:Er K AD.bw
 Zia:mg "Scene"=↑AD.bw
 Zcm:Mk K AD.bw AD.gA
 tZ:bA K AD.bw "room"
 t7:bA K AD.bw "kind"
 qJ:bA K AD.bw "hands"
 tY:bA K AD.bw "rows"
 Ob:mg "GreyError"=↑AD.eY
 wB:mg "EmptySlot"=↑AD.aJ
 Fb:mg "NoField"=↑AD.aQ
 Zx:mg "Full"=↑AD.bF
 JF:mg "NoName"=↑AD.aV
 vI:G.Zoy K AD.aJ
 XM:G.Zoy K AD.bF
 Eu:G.Zoy K AD.aQ
 HQ:G.Zoy K AD.aV
 gJ:W.exmOne K (.ref AD.aJ) (.ref AD.aJ)=some true
 wC:W.exmOne K (.ref AD.bF) (.ref AD.bF)=some true
 gH:W.exmOne K (.ref AD.aJ) (.ref AD.eY)=some true
 iG:W.exmOne K (.ref AD.aQ) (.ref AD.eY)=some true
 lF:W.exmOne K (.ref AD.bF) (.ref AD.eY)=some true
 jB:W.exmOne K (.ref AD.aV) (.ref AD.eY)=some true
 jR:W.exmOne K (.ref AD.aQ) (.ref AD.aQ)=some true
 mL:W.exmOne K (.ref AD.aV) (.ref AD.aV)=some true
 jP:W.exmOne K (.ref AD.bF) (.ref AD.aJ)=some false
 mD:W.exmOne K (.ref AD.bF) (.ref AD.aQ)=some false
 gY:W.exmOne K (.ref AD.aQ) (.ref AD.aJ)=some false
 iD:W.exmOne K (.ref AD.aV) (.ref AD.aJ)=some false
 nZ:W.exmOne K (.ref AD.aV) (.ref AD.bF)=some false
 jO:W.exmOne K (.ref AD.aV) (.ref AD.aQ)=some false
 exc:G.Zhn K [AD.aJ,AD.bF,AD.aQ,AD.aV]
 yo:Meth K XQ.E "at_begin" AD.cT
 xx:Meth K XQ.E "stays" AD.dR
 uO:Meth K XQ.F "next_look" AD.dG
 uN:Meth K XQ.F "stays" AD.dR
 yh:Meth K XQ.L "at_begin" AD.cT
 yp:MT K XQ.C "__init__" "Cell.__init__" sJ AD.gR
 lY:MT K XQ.C "units" "Cell.units" zj AD.pF
 oO:MT K XQ.C "has_field" "Cell.has_field" pZ AD.jj
 yl:MT K XQ.H "__init__" "Heap.__init__" sG AD.gP
 JB:Meth K XQ.H "make" AD.gh
 Dk:MT K XQ.H "lay" "Heap.lay" Gy AD.vf
 z6:MT K XQ.H "back" "Heap.back" Cp AD.rN
 zZ:MT K XQ.H "free" "Heap.free" Cm AD.rM
 xu:MT K XQ.H "there" "Heap.there" zg AD.pD
 m9:FT K mg "cell_at" Li AD.yF
 iu:FT K mg "birth_at" Gw AD.u9
 JD:FT K mg "all_of" QH AD.DP
 tK:MT K XQ.E "at_begin" "Looking.at_begin" mW AD.cT
 qR:MT K XQ.F "next_look" "Looking.next_look" lN AD.dG
 yg:MT K XQ.E "stays" "Looking.stays" su AD.dR
 oK:MT K XQ.F "at_begin" "First.at_begin" pX AD.jg
 oM:MT K XQ.E "next_look" "Each.next_look" pY AD.ji
 oJ:MT K XQ.L "next_look" "Last.next_look" pW AD.jf
 qK:MT K XQ.L "stays" "Last.stays" zf AD.pC
 yj:MT K XQ.K "__init__" "Kind.__init__" sE AD.gO
 ym:MT K XQ.D "__init__" "Hand.__init__" sH AD.gQ
 tH:MT K XQ.S "__init__" "Sweeper.__init__" mV AD.fB
 wu:MT K XQ.W "__init__" "World.__init__" pR AD.gw
 Zgb:FT K mg "held" Zfi AD.SM
 Dm:FT K mg "births_at" BP AD.rz
 Dl:FT K mg "looked_at" BJ AD.qY
 jr:FT K mg "has_sense" BK AD.qZ
 Ab:FT K mg "is_walking" yU AD.o5
 Zv:FT K mg "begin" YJ AD.J3
 Zga:FT K mg "note" Zfh AD.SJ
 mY:FT K mg "note_all" Gs AD.u5
 Zu:FT K mg "gone" Zfj AD.SN
 Zt:FT K mg "roots" YH AD.J2
 LR:FT K mg "root_of" K5 AD.yx
 fQ:FT K mg "slots_of" Gr AD.uZ
 jM:FT K mg "cell_in" Lh AD.yE
 m8:FT K mg "fields_in" BL AD.q8
 xF:FT K mg "told_as_old" wK AD.lZ
 qL:FT K mg "told_as_new" wL AD.mj
 Mj:FT K mg "do_make" Ld AD.iV
 Rx:FT K mg "do_get" QG AD.kJ
 Rv:FT K mg "do_put" QF AD.kE
 Mp:FT K mg "do_copy" Lg AD.iZ
 Mm:FT K mg "do_drop" Lf AD.iY
 Ml:FT K mg "do_give" Le AD.iW
 G9:FT K mg "do_write" Gv AD.gD
 Mh:FT K mg "do_read" La AD.iT
 Mi:FT K mg "do_name" Lb AD.iU
 Mg:FT K mg "do_seek" K9 AD.iR
 qM:FT K mg "place_named" wM AD.mq
 Zjy:FT K mg "do" Zsi AD.Zoa
 wA:MT K AD.bw "__init__" "Scene.__init__" pU AD.gA
 uP:FT K mg "world_of" Gq AD.uY
 Ma:FT K mg "reached" K7 AD.yC
 JC:FT K mg "onward" QC AD.DN
 uf:FT K mg "note_hands" yS AD.oZ
 uT:FT K mg "step_at_rest" uz AD.dz
 uQ:FT K mg "step_in_walk" ux AD.dj
 Zg9:FT K mg "walk" Zff AD.Sx
 xG:FT K mg "look_or_cut" wN AD.mz
 Zn1:FT K mg "cut" Zlt AD.Zdl
 Ac:FT K mg "first_loss" yV AD.o7
 G8:FT K mg "given_up" Gu AD.u6
 ud:FT K mg "told_again" yP AD.oW
 uR:FT K mg "step_in_give" uy AD.dm
 z9:FT K mg "pass_place" yR AD.oY
 Zn0:FT K mg "end" s_end AD.Zdk
 qj:FT K mg "step_when_lost" pP AD.cM
 Ru:FT K mg "step" Zfg AD.Sy
 LQ:FT K mg "to_rest" K4 AD.yw
 z8:FT K mg "tried" YF AD.JZ
 Zr:FT K mg "swept" YG AD.J0
 ue:FT K mg "tells_loss" yQ AD.oX
 z7:FT K mg "tried_deed" yO AD.oU
 uh:FT K mg "refused" K6 AD.yz
 Zi8:mg "run"=↑AD.J1
 qm:FT K mg "is_lost" K8 AD.yD
 kj:FT K mg "_law_cell" Ck AD.rK
 dZ:FT K mg "_law_draw" Cg AD.rH
 Ag:FT K mg "_law_hands" za AD.pA
 Dr:FT K mg "_law_room" BZ AD.rE
 qU:FT K mg "_law_slot" BW AD.rC
 Dn:FT K mg "_law_word" BR AD.rA
 Ds:FT K mg "_law_make" Ca AD.rF
 Ae:FT K mg "_law_steps" yW AD.o8
 Af:FT K mg "_law_other" yX AD.o9
 Hj:FT K mg "_law_row" Gx AD.vd
 Dp:FT K mg "_law_rows" BX AD.rD
 Dt:FT K mg "_law_kind" Cd AD.rG
 uU:FT K mg "_law_refused" uA AD.kO
 Du:FT K mg "_law_done" Cj AD.rJ
 lD:FT K mg "_law_lists" yZ AD.pq
 qT:FT K mg "_law_told" BV AD.rB
 oR:FT K mg "_law_changed" uB AD.kW
 Ah:FT K mg "_law_again" zb AD.pB
 uV:FT K mg "_law_by_hand" uC AD.kY
 qp:FT K mg "_law_hand_made" pQ AD.je
 Qc:mg "bool"=none
 jl:mg "enumerate"=none
 dD:mg "isinstance"=none
 iI:mg "len"=none
 mQ:mg "list"=none
 tM:mg "range"=none
 Py:mg "tuple"=none
 Zrv:G.GC mg "NEW" (.int 2)
 Zru:G.GC mg "OLD" (.int 1)
 Zij:G.GC mg "SWEEP" (.str "sweep")
 kit:Kit (W.kitOne K) Δ
 Oo:G.Zox K "make" "Heap.make" jV AD.gh AD.Ak
 DY:Binds K AD.Ak CZ []
 Oi:Ki K AD.gh
 Zs3:G.Zox K "run" "run" QB AD.J1 AD.Za8
 Zs2:Binds K AD.Za8 Zhz []
 Zni:Ki K AD.J1
 Ze1:Binds K AD.Za8 Zhz AD.Zdq
 Zdg:Vals [.non] AD.Zdq
theorem K3:aO ["self","birth","many","bulk","tone"] Bh (aF sJ):=cA
theorem UT:aO ["self"] ["self"] (aF zj):=cA
theorem IV:aO ["self","field"] xZ (aF pZ):=cA
theorem KY:aO ["self","room"] Bf (aF sG):=cA
theorem YB:aO ["self","many","bulk","tone","cell"] CZ (aF jV):=cA
theorem Zbt:aO ["self","cell","place"] Q7 (aF Gy):=cA
theorem YD:aO ["self","place","cell"] N5 (aF Cp):=cA
theorem YC:aO ["self"] ["self"] (aF Cm):=cA
theorem UL:aO ["self"] ["self"] (aF zg):=cA
theorem Zfe:aO ["heap","place"] WY (aF Li):=cA
theorem Zbr:aO ["heap","place","cell"] Q5 (aF Gw):=cA
theorem Zjh:aO ["hands"] ["hands"] (aF QH):=cA
theorem Fp:aO ["self","hands"] uI (aF mW):=cA
theorem By:aO ["self","looked","hands"] tE (aF lN):=cA
theorem KQ:aO ["self"] ["self"] (aF su):=cA
theorem Iz:aO ["self","hands"] xX (aF pX):=cA
theorem IK:aO ["self","looked","hands","hand"] xY (aF pY):=cA
theorem Iw:aO ["self","looked","hands"] xW (aF pW):=cA
theorem UJ:aO ["self"] ["self"] (aF zf):=cA
theorem KR:aO ["self","looking","tells"] Be (aF sE):=cA
theorem K1:aO ["self","name","many"] Bg (aF sH):=cA
theorem Fl:aO ["self"] ["self"] (aF mV):=cA
theorem Iu:aO ["self","room","kind","hands"] xU (aF pR):=cA
theorem Zpd:aO ["world"] ["world"] (aF Zfi):=cA
theorem Yp:aO ["heap","places"] Nu (aF BP):=cA
theorem Ym:aO ["world","hand"] Nq (aF BJ):=cA
theorem Yn:aO ["world","cell"] Nr (aF BK):=cA
theorem Uu:aO ["world"] ["world"] (aF yU):=cA
theorem Zls:aO ["world","sweeper"] ["world"] (aF YJ):=cA
theorem Zpc:aO ["world","place","sweeper","cell"] Zmb (aF Zfh):=cA
theorem Zbo:aO ["world","places","births","place","birth"] Q3 (aF Gs):=cA
theorem Zpe:aO ["world","place","birth","cell"] Zmc (aF Zfj):=cA
theorem Zlr:aO ["world"] ["world"] (aF YH):=cA
theorem Zf2:aO ["world","place","birth"] Wx (aF K5):=cA
theorem Zbn:aO ["world","hand"] QZ (aF Gr):=cA
theorem Zfd:aO ["world","hand","slot","cell"] WX (aF Lh):=cA
theorem Yo:aO ["world","hand","slot","field","cell"] Nt (aF BL):=cA
theorem Qv:aO ["world","place"] FZ (aF wK):=cA
theorem Qw:aO ["world","hand","place"] Ga (aF wL):=cA
theorem Zf9:aO ["world","deed","slots","many","bulk","place"] WM (aF Ld):=cA
theorem Zjg:aO ["world","deed","hand","source","field","place"] Zc6 (aF QG):=cA
theorem Zjf:aO ["world","deed","hand","field","fields","old","new","noted"] Zc5 (aF QF):=cA
theorem Zfc:aO ["world","deed","slots","place"] WW (aF Lg):=cA
theorem Zfb:aO ["world","deed","slots","place"] WR (aF Lf):=cA
theorem Zfa:aO ["world","deed","giver","taker","place","noted"] WQ (aF Le):=cA
theorem Zbq:aO ["world","deed","cell","before"] Q4 (aF Gv):=cA
theorem Zf7:aO ["world","deed","cell"] WK (aF La):=cA
theorem Zf8:aO ["world","deed","hand","slot","birth"] WL (aF Lb):=cA
theorem Zf6:aO ["world","deed","place","noted"] Wz (aF K9):=cA
theorem Qx:aO ["world","word","place","birth"] Gb (aF wM):=cA
theorem Zv4:aO ["world","deed","act"] Zv9 (aF Zsi):=cA
theorem Iv:aO ["self","room","kind","hands","rows"] xV (aF pU):=cA
theorem Zbm:aO ["scene"] ["scene"] (aF Gq):=cA
theorem Zf4:aO ["heap","rows","queue","number","row","listed","taken","place","way"] Wy (aF K7):=cA
theorem Zje:aO ["heap","places","way"] Zc4 (aF QC):=cA
theorem Ut:aO ["world","hands","noted","number","hand"] Jo (aF yS):=cA
theorem O6:aO ["world","noted"] ["world"] (aF uz):=cA
theorem O4:aO ["world"] ["world"] (aF ux):=cA
theorem Zpa:aO ["world","sweeper","cell"] ["world"] (aF Zff):=cA
theorem Qy:aO ["world","sweeper","looking","hands","noted"] ["world"] (aF wN):=cA
theorem Zsh:aO ["world","sweeper","loss","births"] ["world"] (aF Zlt):=cA
theorem Uv:aO ["world","place","way","cell"] ["world"] (aF yV):=cA
theorem Zbp:aO ["world","heap"] ["world"] (aF Gu):=cA
theorem Uq:aO ["event"] ["event"] (aF yP):=cA
theorem O5:aO ["world"] ["world"] (aF uy):=cA
theorem Us:aO ["world","sweeper","place","cell"] ["world"] (aF yR):=cA
theorem Zsg:aO ["world","sweeper"] ["world"] (aF s_end):=cA
theorem Ip:aO ["world"] ["world"] (aF pP):=cA
theorem Zpb:aO ["world","act"] ["world"] (aF Zfg):=cA
theorem Zf1:aO ["world","steps"] ["world"] (aF K4):=cA
theorem Zlp:aO ["world","row"] Zhx (aF YF):=cA
theorem Zlq:aO ["world","many","events"] Zhy (aF YG):=cA
theorem Ur:aO ["events"] Jm (aF yQ):=cA
theorem Up:aO ["world","deed"] Jl (aF yO):=cA
theorem Zf3:aO ["word"] ["word"] (aF K6):=cA
theorem Zse:aO ["scene","most","world","log","row"] Zhz (aF QB):=cA
theorem Zf5:aO ["log"] ["log"] (aF K8):=cA
theorem Yz:aO ["_law_script","_law_k"] NZ (aF Ck):=cA
theorem Yx:aO ["_law_cell_here","_law_prime","_law_many","_law_drawn"] NQ (aF Cg):=cA
theorem Uz:aO ["_law_cell_here","_law_letters","_law_hands_here","_law_hand","_law_sign","_law_name"] Js (aF za):=cA
theorem Yu:aO ["_law_cell_here"] NB (aF BZ):=cA
theorem Ys:aO ["_law_drawn","_law_size"] Ny (aF BW):=cA
theorem Yq:aO ["_law_seed","_law_number","_law_letters","_law_sign"] Nv (aF BR):=cA
theorem Yv:aO ["_law_n","_law_hand","_law_slot_here","_law_many","_law_bulk"] NK (aF Ca):=cA
theorem Uw:aO ["_law_n","_law_most","_law_drawn"] Jp (aF yW):=cA
theorem Ux:aO ["_law_n","_law_hand","_law_slot_here","_law_hands_here","_law_seed","_law_sort","_law_word_here","_law_taker","_law_size"] Jq (aF yX):=cA
theorem Zbs:aO ["_law_n","_law_hands_here","_law_seed","_law_most","_law_hand","_law_slot_here","_law_inner","_law_field","_law_sort"] Q6 (aF Gx):=cA
theorem Yt:aO ["_law_cells","_law_hands_here","_law_seed","_law_most","_law_rows_here","_law_k","_law_cell_here"] Nz (aF BX):=cA
theorem Yw:aO ["_law_number","_law_tells"] NP (aF Cd):=cA
theorem O7:aO ["_law_caught","_law_words"] CT (aF uA):=cA
theorem Yy:aO ["_law_world","_law_row_here","_law_events","_law_turn","_law_caught","_law_event","e"] NT (aF Cj):=cA
theorem Uy:aO ["_law_log","_law_events","_law_event"] Jr (aF yZ):=cA
theorem Yr:aO ["_law_found","_law_due"] Nx (aF BV):=cA
theorem O8:aO ["_law_events","_law_event"] CV (aF uB):=cA
theorem UG:aO ["_law_world","_law_event","_law_due","_law_steps_here","_law_once"] Jt (aF zb):=cA
theorem O9:aO ["_law_cells","_law_log","_law_k","_law_cell_here"] CW (aF uC):=cA
theorem Ir:aO ["_law_cells","_law_log","_law_k"] xT (aF pQ):=cA
theorem Zsf:aO ["_law_script","_law_hands_here","_law_rows_here","_law_kind_here","_law_scene","_law_ones","_law_others","_law_due","_law_row_here","_law_found","_law_log","_law_many","_law_part","_law_lost"] ["_law_script"] (aF QD):=cA
section
variable {P:AM}{w:AO}{K:aG}{mg:As}{base:Heap}{x qual:Str}{st:Stmt}{f:AI}{n:Nat}{ps:AH}{sp:Sp}{g:FnG K x qual st f}
theorem Zub(b:Binds K (fM g) ps [])(h:Fun K x qual st f (fM g)->Fn5 P w K mg base n f (fM g) ps sp):ι n f (fM g) ps sp:=⟨h (Gk g),b,(Gk g).kp⟩
theorem Zwj(b:Binds K (fM g) ps [])(h:Fun K x qual st f (fM g)->G.FnH P w K mg base (G.FJ P w) n f (fM g) ps sp):G.HhH P w K mg base n f (fM g) ps sp:=⟨h (Gk g),b,(Gk g).kp⟩
end
local macro_rules | `(tactic| walk_at "okb")=>`(tactic| first | exact bd1 (Gk _) _ | exact bd2 (Gk _) _ _ | exact bd3 (Gk _) _ _ _ | exact bd4 (Gk _) _ _ _ _ | exact bd5 (Gk _) _ _ _ _ _)
local macro_rules | `(tactic| walk_at"k")=>`(tactic| (first | (obtain ⟨_,rfl,_⟩:=h;rfl) | (obtain ⟨_,_,rfl,_⟩:=h;rfl) | (obtain ⟨_,_,_,rfl,_⟩:=h;rfl) | (obtain ⟨_,_,_,_,rfl,_⟩:=h;rfl) | (obtain ⟨_,_,_,_,_,rfl,_⟩:=h;rfl) | (obtain ⟨_,_,_,_,_,_,rfl,_⟩:=h;rfl) | (obtain ⟨_,_,_,_,_,_,_,rfl,_⟩:=h;rfl)))
local macro_rules | `(tactic| walk_at "ok")=>`(tactic| (refine Zub ?b λF=>?_;(case b=>walk_at "okb");refine G.fok F sc (λvs H Q E h=>?_) (λcdv A outer s H vs Q E hr h=>?_);· (walk_at"k")))
local macro_rules | `(tactic| walk_at "okw")=>`(tactic| (refine Zub ?b λF=>?_;(case b=>walk_at "okb");refine ZCr F sc (λvs H Q E h=>?_) (λcdv A outer s H vs Q E hr h=>?_);· (walk_at"k")))
local macro_rules | `(tactic| walk_at "okD")=>`(tactic| (refine G.ZCu F sc (λvs H Q E h=>?_) (λcdv A outer s H vs Q E hr h=>?_);· (walk_at"k")))
local macro_rules | `(tactic| walk_at "okDX")=>`(tactic| (refine G.Zwk F sc (λvs H Q E h=>?_) (λcdv A outer s H vs Q E hr h=>?_);· (walk_at"k")))
local macro_rules | `(tactic| walk_at "okH")=>`(tactic| (refine Zwj ?b λF=>?_;(case b=>walk_at "okb");refine G.ZCt F sc (λvs H Q E h=>?_) (λcdv ea A outer s H vs Q E hr h=>?_);· (walk_at"k")))
local macro_rules | `(tactic| walk_at "okL")=>`(tactic| (refine G.fok F sc (λvs H Q E h=>?_) (λcdv A outer s H vs Q E hr h=>?_);· (walk_at"k")))
local macro_rules | `(tactic| walk_at "okX")=>`(tactic| (refine Zub ?b λF=>?_;(case b=>walk_at "okb");refine G.ZCs F sc (λvs H Q E h=>?_) (λcdv A outer s H vs Q E hr h=>?_);· (walk_at"k")))
section
variable {P:AM}{w:AO}{K:aG}{mg:As}{base:Heap}{XQ:Cs}{AD:Ad}(T:Txt w K mg XQ AD)
include T
theorem m7:TxS K XQ AD.bw:=⟨⟨⟨T.cN,T.cX,T.kh,T.jq,T.gZ,T.dN,T.cC,T.j7,T.bK,T.fH,T.jo,T.P0⟩,T.Zdy,T.tW,T.tV,T.qI,T.qH,T.mF,T.Zix,T.wk,T.uc,T.Ziw,T.oH,T.t8,T.S7,T.mH,T.mJ,T.oG,T.lC,T.oA,T.tX,T.oE,T.mG,T.mK,T.lB,T.oF⟩,T.jk,T.tZ,T.t7,T.qJ,T.tY⟩
theorem ye:ι 1 AD.gR (fM T.yp.g) Bh (Ek XQ.C):=by
 have sc:=K3;walk_at "ok"
 ·refine⟨qd K,(au (bQ Ξ Φ rfl)
   (au (bQ Ξ (pv 3) rfl)
   (au (bQ Ξ (pv 4) rfl)
   (au (bQ Ξ (aA) rfl)
   (aC (bQ Ξ (aW Zmf (cg (aj (eZ) az)) ac) rfl)))))),?_⟩
  obtain⟨z0,z1,z2,z3,z4,rfl,q⟩:=h;exact Nj (m7 T).w.c q
theorem jL:ι 1 AD.pF (fM T.lY.g) ["self"] (pH XQ.C):=by
 have sc:=UT;walk_at "ok"
 ·refine⟨xr K,(aC (aN (aW fP (aW fP (aA) (bW G.cJ η T.iI G.boot_len (aj π az))) π))),?_⟩;obtain⟨z0,rfl,q⟩:=h;exact V6 (m7 T).w.c q
theorem vZ:ι 1 AD.jj (fM T.oO.g) xZ (Ec XQ):=by
 have sc:=IV;walk_at "ok"
 ·refine⟨nQ K,(aC (aN (Zma Zvb Jv (aA) Φ (bW G.cJ η T.iI G.boot_len (aj π az))))),?_⟩;obtain⟨z0,z1,rfl,q⟩:=h;exact Kr (m7 T).w q
theorem yc:ι 1 AD.gP (fM T.yl.g) Bf (Eh XQ.H):=by
 have sc:=KY;walk_at "ok"
 ·refine⟨p8 K,(au (bQ Ξ Φ rfl)
   (au (bQ Ξ (cg az) rfl)
   (au (bQ Ξ (aA) rfl)
   (aC (bQ Ξ (aA) rfl))))),?_⟩
  obtain⟨z0,z1,rfl,q⟩:=h;exact Nh (m7 T).w.c q
theorem N7:ι 1 AD.vf (fM T.Dk.g) Q7 (HF K XQ.H):=by
 have sc:=Zbt;walk_at "ok"
 ·refine⟨CJ K,(au (cB (nA (G.Zjr (Dy hr)) (eZ) π (by with_unfolding_all rfl)) (au (fX (qO PySem.F.plainAttrs_list PySem.F.slot_list_append PySem.F.type_list_append gq π (aj Φ az)))
   (aC (aN (aW Dc (bW G.cJ η T.iI G.boot_len (aj π az)) (aA))))) bh)
   (au (eV 2 sc.nd (qO PySem.F.plainAttrs_list PySem.F.slot_list_index PySem.F.type_list_index (G.Zjw (Dy hr)) π (aj (eZ) az)))
   (au (zP Φ (zR π ac set_list))
   (aC (aN ac))))),?_⟩
  obtain⟨z0,z1,rfl,q⟩:=h;exact Ze9 (m7 T).w.c q
theorem Jx:ι 1 AD.rM (fM T.zZ.g) ["self"] (Ei XQ.H):=by
 have sc:=YC;walk_at "ok"
 ·refine⟨zN K,(aC (aN (aW Dc π π))),?_⟩;obtain⟨z0,rfl,q⟩:=h;exact Zba (m7 T).w.c q
theorem Gg:ι 1 AD.pD (fM T.xu.g) ["self"] (Az XQ.H):=by
 have sc:=UL;walk_at "ok"
 ·refine⟨xq K,(aC (aN (G.Zc0 (cns:=["self"]) [0] (xQ rfl T.tM (aj (bW G.cJ η T.iI G.boot_len (aj π az)) az)) (λ_ _ _ _ _=>(G.Y5 (nA G.Ju (fY cj (aM Φ rfl) Ξ) (eZ)))) (λ_ _ _ _ _=>Ξ) rfl rfl (by repeat (first | exact trivial | refine⟨rfl,?_⟩)) (by repeat (first | exact trivial | refine⟨rfl,?_⟩)) rfl γ rfl γ γ rfl γ))),?_⟩;obtain⟨z0,rfl,q⟩:=h;exact V5 (m7 T).w.c q
theorem qe:ι 1 AD.yF (fM T.m9.g) WY (fD XQ.H):=by
 have sc:=Zfe;walk_at "ok"
 ·refine⟨G6 K,(au (cB (PW.pt (lM (nA G.zT Φ (eZ)) (lM (nA Jv Φ (aA)) (jY (nA Zro Φ (bW G.cJ η T.iI G.boot_len (aj π az))))))) (aC (aN (eZ))) bh)
   (aC (aN (fY cj π Φ)))),?_⟩
  obtain⟨z0,z1,rfl,q⟩:=h;exact Zh8 (m7 T).w q
theorem W6:ι 1 AD.DP (fM T.JD.g) ["hands"] (Ef):=by
 have sc:=Zjh;walk_at "ok"
 ·refine⟨Lp,(aC (aN (aW Dc (aW Zme (aA) Ξ) (aA)))),?_⟩;obtain⟨z0,rfl,q⟩:=h;exact Zkz q
theorem iC:ι 1 AD.cT (fM T.tK.g) uI (qw 1):=by
 have sc:=Fp;walk_at "ok"
 ·refine⟨lR,(aC (aN (aA))),?_⟩;obtain⟨z0,z1,rfl,q⟩:=h;exact Fz q
theorem qQ:ι 1 AD.dG (fM T.qR.g) tE (ig 0):=by
 have sc:=By;walk_at "ok"
 ·refine⟨jX,(aC (aN (aA))),?_⟩;obtain⟨z0,z1,z2,rfl,q⟩:=h;exact Em q
theorem dY:ι 1 AD.dR (fM T.yg.g) ["self"] (vo (.bl true)):=by
 have sc:=KQ;walk_at "ok"
 ·refine⟨p6,(aC (aN (pK))),?_⟩;obtain⟨z0,rfl,q⟩:=h;exact Nf q
theorem vY:ι 1 AD.ji (fM T.oM.g) xY (ig 1):=by
 have sc:=IK;walk_at "ok"
 ·refine⟨nP,(au (mX PassesOwn.never rfl (xQ rfl T.tM (aj ac az)) (eO (i:=3) sc.nd rfl (Or.inl rfl))
   (aC (cB (nA iw (aW Q9 (aW Zfv Φ (pv 3)) (aA)) (aA)) (aC (aN (aW Zme (aA) (pv 3)))) bh)))
   (aC (aN (aA)))),?_⟩
  obtain⟨z0,z1,z2,rfl,q⟩:=h;exact Kq q
theorem qG:ι 1 AD.pC (fM T.qK.g) ["self"] (vo (.bl false)):=by
 have sc:=UJ;walk_at "ok"
 ·refine⟨xm,(aC (aN (pK))),?_⟩;obtain⟨z0,rfl,q⟩:=h;exact V4 q
theorem gn:ι 1 AD.gO (fM T.yj.g) Be (wG XQ.K):=by
 have sc:=KR;walk_at "ok"
 ·refine⟨p7 K,(au (bQ Ξ Φ rfl)
   (aC (bQ Ξ ac rfl))),?_⟩
  obtain⟨z0,z1,z2,rfl,q⟩:=h;exact Ng (m7 T).w q
theorem yd:ι 1 AD.gQ (fM T.ym.g) Bg (Ej XQ.D):=by
 have sc:=K1;walk_at "ok"
 ·refine⟨qb K,(au (bQ Ξ Φ rfl)
   (aC (bQ Ξ (aW Zmf (cg (aj (eZ) az)) ac) rfl))),?_⟩
  obtain⟨z0,z1,z2,rfl,q⟩:=h;exact Ni (m7 T).w q
theorem tG:ι 1 AD.fB (fM T.tH.g) ["self"] (vz XQ.S):=by
 have sc:=Fl;walk_at "ok"
 ·refine⟨lQ K,(au (bQ Ξ (aA) rfl)
   (au (bQ Ξ (bz) rfl)
   (au (bQ Ξ (cg az) rfl)
   (au (bQ Ξ (aA) rfl)
   (au (bQ Ξ (aA) rfl)
   (au (bQ Ξ (aA) rfl)
   (au (bQ Ξ (aA) rfl)
   (au (bQ Ξ (aA) rfl)
   (au (bQ Ξ (aA) rfl)
   (au (bQ Ξ (aA) rfl)
   (aC (bQ Ξ (eZ) rfl)))))))))))),?_⟩
  obtain⟨z0,rfl,q⟩:=h;exact Fx (m7 T).w q
theorem Zpz:ι 1 AD.SM (fM T.Zgb.g) ["world"] (Zhj XQ):=by
 have sc:=Zpd;walk_at "ok"
 ·refine⟨YS K,(aC (aN (G.Zc0 (cns:=[]) [] (nR π) (λ_ _ _ _ _=>G.Y6) (λ_ _ _ _ _=>(lz G.m6 η T.mQ G.boot_list (aj π az))) rfl rfl (by repeat (first | exact trivial | refine⟨rfl,?_⟩)) (by repeat (first | exact trivial | refine⟨rfl,?_⟩)) rfl γ rfl γ γ rfl γ))),?_⟩;obtain⟨z0,rfl,q⟩:=h;exact Zqr (m7 T).w q
theorem Zc:ι 1 AD.qY (fM T.Dl.g) Nq (Eb XQ):=by
 have sc:=Ym;walk_at "ok"
 ·refine⟨zp K,(aC (aN (iB iw (aW Q9 (aW Zfv (aM π rfl) Φ) (aA)) (aA) (lU _)))),?_⟩;obtain⟨z0,z1,rfl,q⟩:=h;exact Zy (m7 T).w q
theorem lA:ι 1 AD.qZ (fM T.jr.g) Nr (d7 XQ):=by
 have sc:=Yn;walk_at "ok"
 ·refine⟨zq K,(aC (aN (iB iw (aM Φ rfl) (aM π rfl) (lU _)))),?_⟩;obtain⟨z0,z1,rfl,q⟩:=h;exact Za5 (m7 T).w q
theorem U6:ι 1 AD.o5 (fM T.Ab.g) ["world"] (Aq XQ):=by
 have sc:=Uu;walk_at "ok"
 ·refine⟨wW K,(aC (aN (iB Zjs (aM π rfl) (cF (aj (bz) (aj (bz) az))) (by with_unfolding_all rfl)))),?_⟩;obtain⟨z0,rfl,q⟩:=h;exact Vo (m7 T).w q
theorem gf:ι 1 AD.uZ (fM T.fQ.g) QZ (cU XQ):=by
 have sc:=Zbn;walk_at "ok"
 ·refine⟨Cu K,(aC (aN (aM (fY cj π Φ) rfl))),?_⟩;obtain⟨z0,z1,rfl,q⟩:=h;exact Zbl (m7 T).w q
theorem Ra:ι 1 AD.lZ (fM T.xF.g) FZ (Hu XQ):=by
 have sc:=Qv;walk_at "ok"
 ·refine⟨uE K,(au (cB (nA iw (aW Q9 (aM π rfl) (T.Zru.pe rfl)) (aA)) (aC (aN (cg az))) bh)
   (aC (aN (cg (aj Φ az))))),?_⟩
  obtain⟨z0,z1,rfl,q⟩:=h;exact Qg (m7 T).w q
theorem vV:ι 1 AD.gA (fM T.wA.g) xV (Aw AD.bw):=by
 have sc:=Iv;walk_at "ok"
 ·refine⟨nH K,(au (bQ Ξ Φ rfl)
   (au (bQ Ξ ac rfl)
   (au (bQ Ξ (lz G.m6 η T.mQ G.boot_list (aj (pv 3) az)) rfl)
   (aC (bQ Ξ (lz G.m6 η T.mQ G.boot_list (aj (pv 4) az)) rfl))))),?_⟩
  obtain⟨z0,z1,z2,z3,z4,rfl,q⟩:=h;exact Kf (m7 T) q
theorem Gd:ι 1 AD.oW (fM T.ud.g) ["event"] (pG K):=by
 have sc:=Uq;walk_at "ok"
 ·refine⟨wQ K,(aC (aN (cF (aj (fY bM Ξ (aA)) (aj (fY bM Ξ (aA)) (aj (lz G.m6 η T.mQ G.boot_list (aj (fY bM Ξ (aA)) az)) az)))))),?_⟩;obtain⟨z0,rfl,q⟩:=h;exact T7 q
theorem Zsu:ι 1 AD.Zdk (fM T.Zn0.g) ["world"] (bZ XQ pEnd):=by
 have sc:=Zsg;walk_at "ok"
 ·refine⟨Zfq K,(au (eV 1 sc.nd π)
   (au (bQ Φ (bz) rfl)
   (aC (aN (cF (aj (bz) (aj (aM Φ rfl) (aj (cg (aj (aM Φ rfl) (aj (aM Φ rfl) (aj (aM Φ rfl) az)))) az)))))))),?_⟩
  obtain⟨z0,rfl,q⟩:=h;exact Zug (m7 T).w q
theorem Ge:ι 1 AD.oX (fM T.ue.g) Jm (Fg):=by
 have sc:=Ur;walk_at "ok"
 ·refine⟨wR K,(aC (aN ((CQ (iB Zc7 (bW G.cJ η T.iI G.boot_len (aj Ξ az)) (aA) (lU _)) (CP (iB iw (fY bM (fY cj Ξ (xR pL (aA))) (aA)) (bz) (lU _))))))),?_⟩;obtain⟨z0,rfl,q⟩:=h;exact Ua q
theorem zV:G.HhH P w K mg base 1 AD.yz (fM T.uh.g) ["word"] (M9):=by
 have sc:=Zf3;walk_at "okH"
 ·refine⟨GJ,(aC (aN (cF (aj (bz) (aj Ξ (aj (cg az) az)))))),?_⟩;obtain⟨z0,rfl,q⟩:=h;exact Zfm q
theorem nU:ι 1 AD.rK (fM T.kj.g) NZ (Zhl K):=by
 have sc:=Yz;walk_at "ok"
 ·refine⟨zL K,(au (cB (nA Jv Φ (bW G.cJ η T.iI G.boot_len (aj Ξ az))) (aC (aN (fY cj Ξ Φ))) bh)
   (aC (aN (aA)))),?_⟩
  obtain⟨z0,z1,rfl,q⟩:=h;exact Zax q
theorem eU:ι 1 AD.rH (fM T.dZ.g) NQ (vq):=by
 have sc:=Yx;walk_at "ok"
 ·refine⟨zJ,(au (eV 3 sc.nd (aW fP (aW cR Ξ Φ) (aA)))
   (aC (aN (aW cR (aW cR (aW uJ (aW cR (aW uJ (pv 3) (pv 3)) Φ) (aA)) Φ) ac)))),?_⟩
  obtain⟨z0,z1,z2,rfl,q⟩:=h;exact Zav q
theorem Va:ι 1 AD.pA (fM T.Ag.g) Js (Zb4):=by
 have sc:=Uz;walk_at "ok"
 ·refine⟨xg K,(au (eV 1 sc.nd (bz))
   (au (eV 2 sc.nd (cg az))
   (au (mX PassesOwn.never rfl (xQ rfl T.tM (aj (aW fP (aA) (aW cR Ξ (aA))) az)) (eO (i:=3) sc.nd rfl (Or.inl rfl))
   (au (eV 4 sc.nd (fY Znj Φ (aW cR (aW fP (aW gW Ξ (aA)) (aW uJ (aA) (pv 3))) (aA))))
   (au (eV 5 sc.nd (aW zU (aW zU (nT G.Yl (bz) zQ (qz (aW cR (aW gW Ξ (aA)) (aA)))) (pv 4)) (nT G.Yl (bz) zQ (qz (aW cR (aW gW Ξ (aA)) (aA))))))
   (aC (fX (qO PySem.F.plainAttrs_list PySem.F.slot_list_append PySem.F.type_list_append gq ac (aj (cF (aj (pv 5) (aj (aW fP (aA) (aW uJ (aW cR (aW fP (aW gW Ξ (aA)) (aW uJ (aW uJ (aA) (pv 3)) (pv 3))) (aA)) (aW cR (aW gW Ξ (aA)) (aA)))) az))) az)))))))
   (aC (aN ac))))),?_⟩
  obtain⟨z0,rfl,q⟩:=h;exact V1 q
theorem Zg:ι 1 AD.rE (fM T.Dr.g) NB (Zhg):=by
 have sc:=Yu;walk_at "ok"
 ·refine⟨zF,(au (cB (nA iw (aW cR Ξ (aA)) (aA)) (aC (aN (aW fP (aA) (aW cR (aW gW Ξ (aA)) (aA))))) bh)
   (au (cB (nA iw (aW cR Ξ (aA)) (aA)) (aC (aN (aW Dc (aW Lx (aA) (aA)) (aW cR (aW gW Ξ (aA)) (aW Lx (aA) (aA)))))) bh)
   (aC (aN (aW fP (aA) (aW cR (aW cR (aW uJ Ξ (aA)) (aA)) (aW Dc (aW Lx (aA) (aA)) (aA)))))))),?_⟩
  obtain⟨z0,rfl,q⟩:=h;exact Zas q
theorem zX:ι 1 AD.rC (fM T.qU.g) Ny (Tp):=by
 have sc:=Ys;walk_at "ok"
 ·refine⟨zB,(au (cB (nA iw (aW cR Ξ (aA)) (aA)) (aC (aN (aW cR (aW gW Ξ (aA)) Φ))) bh)
   (aC (aN (aW cR (aW gW Ξ (aA)) (aA))))),?_⟩
  obtain⟨z0,z1,rfl,q⟩:=h;exact Zaq q
theorem Ze:ι 1 AD.rA (fM T.Dn.g) Nv (Zhe):=by
 have sc:=Yq;walk_at "ok"
 ·refine⟨zy,(au (eV 2 sc.nd (bz))
   (au (eV 3 sc.nd (fY Znj ac (aW cR (aW fP (aW gW Ξ (aA)) (aW uJ (aA) Φ)) (aA))))
   (aC (aN (aW zU (aW zU (nT G.Yl (bz) zQ (qz (aW cR Ξ (aA)))) (pv 3)) (nT G.Yl (bz) zQ (qz (aW cR (aW gW Ξ (aA)) (aA))))))))),?_⟩
  obtain⟨z0,z1,rfl,q⟩:=h;exact Zao q
theorem Pa:ι 1 AD.kO (fM T.uU.g) CT (HB):=by
 have sc:=O7;walk_at "ok"
 ·refine⟨sV K,(au (Y0 (i:=1) sc.nd rfl (Or.inr rfl) (cg (aj (bz) (aj (bz) (aj (bz) (aj (bz) az))))))
   (aC (aN (G.Zc0 (cns:=["_law_caught","_law_words"]) [0,1] (xQ rfl T.tM (aj (aA) az)) (λ_ _ _ _ _=>(G.Y5 (d9 (fY cj Φ Ξ)))) (λ_ _ _ _ _=>(cF (aj (bz) (aj (fY cj ac Ξ) (aj (cg az) az))))) rfl rfl (by repeat (first | exact trivial | refine⟨rfl,?_⟩)) (by repeat (first | exact trivial | refine⟨rfl,?_⟩)) rfl γ rfl γ γ rfl γ)))),?_⟩
  obtain⟨z0,rfl,q⟩:=h;exact Pq q
theorem qF:ι 1 AD.pq (fM T.lD.g) Jr (Kl):=by
 have sc:=Uy;walk_at "ok"
 ·refine⟨w6 K,(au (cB (ju (d9 (bW G.yG η T.dD G.boot_isinstance (aj Ξ (aj (Ez rfl T.mQ G.boot_list rfl) az))))) (aC (aN (pK))) bh)
   (au (mX PassesOwn.never rfl (nR Ξ) (eO (i:=1) sc.nd rfl (Or.inl rfl))
   (au (cB (ju (d9 (bW G.yG η T.dD G.boot_isinstance (aj Φ (aj (Ez rfl T.mQ G.boot_list rfl) az))))) (aC (aN (pK))) bh)
   (aC (mX PassesOwn.never rfl (nR Φ) (eO (i:=2) sc.nd rfl (Or.inl rfl))
   (aC (cB (PW.pt (lM (ju (d9 (bW G.yG η T.dD G.boot_isinstance (aj ac (aj (Ez rfl T.Py G.boot_tuple rfl) az))))) (lM (nA W2 (bW G.cJ η T.iI G.boot_len (aj ac az)) (aA)) (jY (ju (d9 (bW G.yG η T.dD G.boot_isinstance (aj (fY bM ac (aA)) (aj (Ez rfl T.mQ G.boot_list rfl) az))))))))) (aC (aN (pK))) bh))))))
   (aC (aN (pK))))),?_⟩
  obtain⟨z0,rfl,q⟩:=h;exact V0 q
theorem zW:ι 1 AD.rB (fM T.qT.g) Nx (Kg):=by
 have sc:=Yr;walk_at "ok"
 ·refine⟨zA,(aC (aN ((CQ (bW G.yG η T.dD G.boot_isinstance (aj Ξ (aj (Ez rfl T.Qc G.boot_bool rfl) az))) (CP (iB iw Ξ Φ (lU _))))))),?_⟩;obtain⟨z0,z1,rfl,q⟩:=h;exact Zap q
theorem Bm:ι 1 AD.kW (fM T.oR.g) CV (yI):=by
 have sc:=O8;walk_at "ok"
 ·refine⟨sW K,(aC (mX PassesOwn.never rfl (nR Ξ) (eO (i:=1) sc.nd rfl (Or.inl rfl))
   (aC (fX (qO PySem.F.plainAttrs_list PySem.F.slot_list_append PySem.F.type_list_append gq ω (aj (aA) az)))))),?_⟩
  obtain⟨z0,rfl,q⟩:=h;exact Pr q
theorem Pb:ι 1 AD.kY (fM T.uV.g) CW (Tt K):=by
 have sc:=O9;walk_at "okw"
 ·refine⟨sX K,(Je (eV 1 sc.nd (cg az))
   (Je (mX PassesOwn.never rfl (G.Jh rfl T.jl (aj Ξ az)) (Ls rfl (jG (eO (i:=2) sc.nd rfl (Or.inl rfl)) (jG (eO (i:=3) sc.nd rfl (Or.inl rfl)) Ey)))
   (au (cB (PW.pt (lM (nA (G.Zfw (Dy hr)) Φ (cg az)) (jY (nA Zc7 (aW cR (pv 3) (aA)) (aA))))) (aC (fX (qO PySem.F.plainAttrs_list PySem.F.slot_list_append PySem.F.type_list_append gq Φ (aj (cg az) az)))) bh)
   (aC (fX (qO PySem.F.plainAttrs_list PySem.F.slot_list_append PySem.F.type_list_append gq (fY cj Φ (xR pL (aA))) (aj (cF (aj (fY cj (cg (aj (bz) (aj (bz) (aj (bz) (aj (bz) (aj (bz) az)))))) (aW cR (aW gW (pv 3) (aA)) (aA))) (aj ac (aj (cg (aj (aW cR (pv 3) (aA)) az)) az)))) az))))))
   (Zhv (aN Φ)))),?_⟩
  obtain⟨z0,rfl,q⟩:=h;exact Pu q
theorem Jy:ι 2 AD.rN (fM T.z6.g) N5 (wH XQ.C XQ.H):=by
 have sc:=YD;walk_at "ok"
 ·refine⟨zO K XQ.C (pH XQ.C),(au (eV 2 sc.nd (fY cj π Φ))
   (au (bQ Ξ (aW Dc π (jZ ac T.cN T.lY.m (jL T).g am (jL (P:=P) (base:=base) T).b .nil G.dF)) rfl)
   (au (zP (eZ) (zR π Φ set_list))
   (aC (aN (aM ac rfl)))))),?_⟩
  obtain⟨z0,z1,rfl,q⟩:=h;exact Zbb (m7 T).w.c q
theorem jm:ι 2 AD.u9 (fM T.iu.g) Q5 (dB XQ):=by
 have sc:=Zbr;walk_at "ok"
 ·refine⟨Cz K (fD XQ.H),(au (eV 2 sc.nd (dU (qe T) hr T.m9 (aj Ξ (aj Φ az))))
   (au (cB (nA G.zT ac (eZ)) (aC (aN (eZ))) bh)
   (aC (aN (aM ac rfl))))),?_⟩
  obtain⟨z0,z1,rfl,q⟩:=h;exact Ze0 (m7 T).w q
theorem vX:ι 2 AD.jg (fM T.oK.g) xX (qw 0):=by
 have sc:=Iz;walk_at "ok"
 ·refine⟨nO (Ef),(aC (aN (dU (W6 T) hr T.JD (aj Φ az)))),?_⟩;obtain⟨z0,z1,rfl,q⟩:=h;exact Ko q
theorem vW:ι 2 AD.jf (fM T.oJ.g) xW (ig 2):=by
 have sc:=Iw;walk_at "ok"
 ·refine⟨nJ (Ef),(aC (aN (dU (W6 T) hr T.JD (aj ac az)))),?_⟩;obtain⟨z0,z1,z2,rfl,q⟩:=h;exact Km q
theorem Zpy:ι 2 AD.SJ (fM T.Zga.g) Zmb (Zhh XQ):=by
 have sc:=Zpc;walk_at "ok"
 ·refine⟨YQ K (fD XQ.H) (d7 XQ),(au (eV 2 sc.nd π)
   (au (eV 3 sc.nd (dU (qe T) hr T.m9 (aj π (aj Φ az))))
   (au (cB (PW.pt (lM (nA W2 (aM ac rfl) (bz)) (lM (nA G.zT (pv 3) (eZ)) (jY (d9 (dU (lA T) hr T.jr (aj Ξ (aj (pv 3) az)))))))) (aC (aN (eZ))) bh)
   (au (bQ (pv 3) (aM ac rfl) rfl)
   (au (fX (qO PySem.F.plainAttrs_list PySem.F.slot_list_append PySem.F.type_list_append gq (aM ac rfl) (aj Φ az)))
   (aC (aN (aM (pv 3) rfl)))))))),?_⟩
  obtain⟨z0,z1,rfl,q⟩:=h;exact Zq3 (m7 T).w q
theorem Zi3:ι 2 AD.SN (fM T.Zu.g) Zmc (Tr XQ):=by
 have sc:=Zpe;walk_at "ok"
 ·refine⟨YT K (fD XQ.H) (d7 XQ),(au (eV 3 sc.nd (dU (qe T) hr T.m9 (aj π (aj Φ az))))
   (au (cB (PW.pt (lM (nA G.zT (pv 3) (eZ)) (jY (nA W2 (aM (pv 3) rfl) ac)))) (aC (aN (pK))) bh)
   (aC (aN ((CQ (iB iw (aM π rfl) (bz) (lU _)) (CP (Zsq (dU (lA T) hr T.jr (aj Ξ (aj (pv 3) az))))))))))),?_⟩
  obtain⟨z0,z1,z2,rfl,q⟩:=h;exact Zqu (m7 T).w q
theorem j6:ι 2 AD.yE (fM T.jM.g) WX (lH XQ AD.aJ):=by
 have sc:=Zfd;walk_at "okX"
 ·refine⟨G5 K AD.aJ (fD XQ.H) (cU XQ) E,(au (eV 3 sc.nd (dU (qe T) hr T.m9 (aj π (aj (fY cj (dU (gf T) hr T.fQ (aj Ξ (aj Φ az))) ac) az))))
   (au (cB (nA G.zT (pv 3) (eZ)) (aC (G.Jf rfl rfl T.wB T.vI (aj (bz) az) (λ_ _ _ _ _ _ _ I hx hE=>G.YW I hx hE))) bh)
   (aC (aN (pv 3))))),?_⟩
  obtain⟨z0,z1,z2,rfl,q⟩:=h;exact Zh7 (m7 T).w q
theorem Df:ι 2 AD.mj (fM T.qL.g) Ga (vm XQ):=by
 have sc:=Qw;walk_at "ok"
 ·refine⟨uF K (Eb XQ),(au (cB (PW.pt (lM (nA iw (aW Q9 (aM π rfl) (T.Zrv.pe rfl)) (aA)) (jY (d9 (dU (Zc T) hr T.Dl (aj Ξ (aj Φ az))))))) (aC (aN (cg az))) bh)
   (aC (aN (cg (aj ac az))))),?_⟩
  obtain⟨z0,z1,z2,rfl,q⟩:=h;exact Qh (m7 T).w q
theorem W3:ι 2 AD.DN (fM T.JC.g) Zc4 (Kh K XQ.C XQ.H):=by
 have sc:=Zje;walk_at "ok"
 ·refine⟨Ew K (fD XQ.H),(aC (aN (G.Zft (cns:=["heap","way"]) [0,2] (G.Jh rfl T.jl (aj Φ az)) (λ_ _ _ _ _=>(G.Y5 (nA G.Ju (dU (qe T) hr T.m9 (aj ac (aj Φ az))) (eZ)))) (λ_ _ _ _ _=>(cF (aj Φ (aj (aW Zpu (pv 3) (cF (aj Ξ az))) az)))) rfl rfl (by repeat (first | exact trivial | refine⟨rfl,?_⟩)) (by repeat (first | exact trivial | refine⟨rfl,?_⟩)) rfl γ rfl γ γ rfl rfl γ))),?_⟩;obtain⟨z0,z1,z2,z3,z4,z5,rfl,q⟩:=h;exact Zjt q
theorem Zca:ι 2 AD.u6 (fM T.G8.g) ["world"] (HD XQ):=by
 have sc:=Zbp;walk_at "ok"
 ·refine⟨Cw K XQ.H (Az XQ.H) (d7 XQ),(au (Y0 (i:=1) sc.nd rfl (Or.inr rfl) π)
   (aC (aN (G.Zc0 (cns:=["world","heap"]) [0,1] (nR (jZ Φ T.cC T.xu.m (Gg T).g am (Gg (P:=P) (base:=base) T).b .nil G.dF)) (λ_ _ _ _ _=>(G.Y5 (ju (d9 (dU (lA T) hr T.jr (aj Φ (aj (fY cj (aM ac rfl) Ξ) az))))))) (λ_ _ _ _ _=>Ξ) rfl rfl (by repeat (first | exact trivial | refine⟨rfl,?_⟩)) (by repeat (first | exact trivial | refine⟨rfl,?_⟩)) rfl γ rfl γ γ rfl γ)))),?_⟩
  obtain⟨z0,rfl,q⟩:=h;exact Zdi (m7 T).w q
theorem vR:ι 2 AD.cM (fM T.qj.g) ["world"] (bZ XQ (W0 "lost")):=by
 have sc:=Ip;walk_at "ok"
 ·refine⟨nD K (pG K),(aC (aN (dU (Gd T) hr T.ud (aj (aM π rfl) az)))),?_⟩;obtain⟨z0,rfl,q⟩:=h;exact HY (m7 T).w q
theorem uK:ι 2 AD.yD (fM T.qm.g) ["log"] (vp):=by
 have sc:=Zf5;walk_at "ok"
 ·refine⟨GK K (Fg),(aC (aN ((CQ (iB Zc7 (bW G.cJ η T.iI G.boot_len (aj Ξ az)) (aA) (lU _)) (CP (dU (Ge T) hr T.ue (aj (fY cj Ξ (xR pL (aA))) az))))))),?_⟩;obtain⟨z0,rfl,q⟩:=h;exact Zgi q
theorem Zh:ι 2 AD.rF (fM T.Ds.g) NK (Zhi):=by
 have sc:=Yv;walk_at "okw"
 ·refine⟨zG K (vq),(Zpl (i:=3) sc.nd rfl (Or.inl rfl) (lX (aA) (lX (aA) (lX (aA) (lX (aA) (lX (aA) (lX (aA) (lX (aA) (lX (aA) (lX (aA) (lX (aA) Zpq)))))))))) (dU (eU T) hr T.dZ (aj Ξ (aj (aA) (aj (aA) az)))) (λ_ _=>rfl)
   (Je (eV 4 sc.nd (aW cR Ξ (aA)))
   (Je (cB (nA iw (dU (eU T) hr T.dZ (aj Ξ (aj (aA) (aj (aA) az)))) (aA)) (aC (eV 4 sc.nd (aW cR Ξ (aW fP (aW Lx (aA) (aA)) (aA))))) bh)
   (Zhv (aN (cF (aj (bz) (aj Φ (aj ac (aj (pv 3) (aj (pv 4) az))))))))))),?_⟩
  obtain⟨z0,z1,z2,rfl,q⟩:=h;exact Zat q
theorem U8:ι 2 AD.o8 (fM T.Ae.g) Jp (Tn):=by
 have sc:=Uw;walk_at "ok"
 ·refine⟨wY (vq),(au (eV 2 sc.nd (dU (eU T) hr T.dZ (aj Ξ (aj (aA) (aj (aA) az)))))
   (au (cB (nA iw (aW cR ac (aA)) (aA)) (aC (aN (cF (aj (bz) (aj (aW fP (aA) (aW cR (aW gW ac (aA)) (aA))) az))))) bh)
   (aC (aN (cF (aj (bz) (aj (aW fP (aA) (aW cR (aW gW ac (aA)) Φ)) az))))))),?_⟩
  obtain⟨z0,z1,rfl,q⟩:=h;exact VP q
theorem U9:ι 2 AD.o9 (fM T.Af.g) Jq (Tq):=by
 have sc:=Ux;walk_at "ok"
 ·refine⟨wZ K (vq) (Tp) (Zhe),(au (eV 5 sc.nd (aW cR Ξ (aA)))
   (au (eV 6 sc.nd (dU (Ze T) hr T.Dn (aj (pv 4) (aj (dU (eU T) hr T.dZ (aj Ξ (aj (aA) (aj (aA) az)))) az))))
   (au (cB (nA iw (pv 5) (aA)) (au (eV 7 sc.nd (dU (eU T) hr T.dZ (aj Ξ (aj (aA) (aj (bW G.cJ η T.iI G.boot_len (aj (pv 3) az)) az)))))
   (au (eV 8 sc.nd (fY bM (fY cj (pv 3) (pv 7)) (aA)))
   (aC (aN (cF (aj (bz) (aj Φ (aj ac (aj (pv 7) (aj (dU (zX T) hr T.qU (aj (dU (eU T) hr T.dZ (aj Ξ (aj (aA) (aj (aA) az)))) (aj (pv 8) az))) az)))))))))) bh)
   (au (cB (nA iw (pv 5) (aA)) (aC (aN (cF (aj (bz) (aj Φ (aj ac (aj (pv 6) az))))))) bh)
   (au (cB (nA iw (pv 5) (aA)) (aC (aN (cF (aj (bz) (aj Φ (aj ac (aj (pv 6) az))))))) bh)
   (au (cB (nA iw (aW cR (aW gW Ξ (aA)) (aA)) (aA)) (aC (aN (cF (aj (bz) (aj Φ (aj ac az)))))) bh)
   (au (cB (nA iw (aW cR (aW gW Ξ (aA)) (aA)) (aA)) (aC (aN (cF (aj (bz) (aj Φ (aj ac (aj (aW cR Ξ (aW Lx (aA) (aA))) az))))))) bh)
   (aC (aN (cF (aj (bz) (aj Φ (aj ac (aj (xR pL (aW cR (aW uJ Ξ (aA)) (aW Lx (aA) (aA)))) az)))))))))))))),?_⟩
  obtain⟨z0,z1,z2,z3,z4,rfl,q⟩:=h;exact VR q
theorem Zk:ι 3 AD.gh AD.Ak CZ (Eg K XQ.C XQ.H AD.bF):=by
 have sc:=YB;refine⟨?_,T.DY,T.Oi⟩;have F:=T.Oo;walk_at "okDX"
 ·refine⟨zM K XQ.C AD.bF XQ.H (Ek XQ.C) (pH XQ.C) (Ei XQ.H) (HF K XQ.H) E,(au (eV 4 sc.nd (vO T.Zi7 (ye T).g am rfl T.Zn6 (ye (P:=P) (base:=base) T).b .nil G.dF (aj (aW fP π (aA)) (aj Φ (aj ac (aj (pv 3) az))))))
   (au (cB (nA Zc7 (jZ (pv 4) T.cN T.lY.m (jL T).g am (jL (P:=P) (base:=base) T).b .nil G.dF) (jZ Ξ T.cC T.zZ.m (Jx T).g am (Jx (P:=P) (base:=base) T).b .nil G.dF)) (aC (G.Jf rfl rfl T.Zx T.XM (aj (bz) az) (λ_ _ _ _ _ _ _ I hx hE=>G.YW I hx hE))) bh)
   (au (bQ Ξ (aM (pv 4) rfl) rfl)
   (au (bQ Ξ (aW fP π (jZ (pv 4) T.cN T.lY.m (jL T).g am (jL (P:=P) (base:=base) T).b .nil G.dF)) rfl)
   (aC (aN (qC Ξ T.cC T.Dk.m (N7 T).g am (N7 (P:=P) (base:=base) T).b .nil G.dF (aj (pv 4) az)))))))),?_⟩
  obtain⟨z0,z1,z2,z3,rfl,q⟩:=h;exact Zb9 (m7 T).w.c q
theorem vU:ι 3 AD.gw (fM T.wu.g) xU (Av XQ):=by
 have sc:=Iu;walk_at "ok"
 ·refine⟨nG K XQ.D XQ.H XQ.S (Ej XQ.D) (Eh XQ.H) (vz XQ.S),(au (bQ Ξ (vO T.Zi5 (yc T).g am rfl T.Zn3 (yc (P:=P) (base:=base) T).b .nil G.dF (aj Φ az)) rfl)
   (au (bQ Ξ ac rfl)
   (au (bQ Ξ (G.Zft (cns:=[]) [] (nR (pv 3)) (λ_ _ _ _ _=>G.Y6) (λ_ _ _ _ _=>(vO T.Zi6 (yd T).g am rfl T.Zn4 (yd (P:=P) (base:=base) T).b .nil G.dF (aj Ξ (aj Φ az)))) rfl rfl (by repeat (first | exact trivial | refine⟨rfl,?_⟩)) (by repeat (first | exact trivial | refine⟨rfl,?_⟩)) rfl γ rfl γ γ rfl rfl γ) rfl)
   (au (bQ Ξ (Zc1) rfl)
   (aC (bQ Ξ (Zm7 T.Rt (tG T).g am rfl T.W9 (tG (P:=P) (base:=base) T).b .nil G.dF) rfl)))))),?_⟩
  obtain⟨z0,z1,z2,z3,rfl,q⟩:=h;exact Ke (m7 T).w q
theorem Zd:ι 3 AD.rz (fM T.Dm.g) Nu (Ed XQ):=by
 have sc:=Yp;walk_at "ok"
 ·refine⟨zx K (dB XQ),(aC (aN (G.Zc0 (cns:=["heap"]) [0] (nR Φ) (λ_ _ _ _ _=>G.Y6) (λ_ _ _ _ _=>(dU (jm T) hr T.iu (aj Φ (aj Ξ az)))) rfl rfl (by repeat (first | exact trivial | refine⟨rfl,?_⟩)) (by repeat (first | exact trivial | refine⟨rfl,?_⟩)) rfl γ rfl γ γ rfl γ))),?_⟩;obtain⟨z0,z1,rfl,q⟩:=h;exact Zak (m7 T).w q
theorem Zmj:ι 3 AD.J3 (fM T.Zv.g) ["world"] (Zb5 XQ):=by
 have sc:=Zls;walk_at "ok"
 ·refine⟨QS K XQ.E XQ.F XQ.L (qw 0) (qw 1),(au (eV 1 sc.nd π)
   (au (bQ Φ (aW Dc (aA) (aM Φ rfl)) rfl)
   (au (bQ Φ (aW fP (aM Φ rfl) (aA)) rfl)
   (au (bQ Φ (bz) rfl)
   (au (bQ Φ (cg az) rfl)
   (au (bQ Φ (G.vP (qC (aM π rfl) T.DW T.oK.m (vX T).g am (vX (P:=P) (base:=base) T).b .nil G.dF (aj (bW G.cJ η T.iI G.boot_len (aj π az)) az)) (G.vP (qC (aM π rfl) T.J9 T.yo (iC T).g am (iC (P:=P) (base:=base) T).b .nil G.dF (aj (bW G.cJ η T.iI G.boot_len (aj π az)) az)) (qC (aM π rfl) T.J8 T.yh (iC T).g am (iC (P:=P) (base:=base) T).b .nil G.dF (aj (bW G.cJ η T.iI G.boot_len (aj π az)) az)))) rfl)
   (au (bQ Φ (aA) rfl)
   (au (bQ Φ (aA) rfl)
   (aC (bQ Φ (aA) rfl)))))))))),?_⟩
  obtain⟨z0,rfl,q⟩:=h;exact Zos (m7 T).w q
theorem qP:ι 3 AD.u5 (fM T.mY.g) Q3 (gF XQ):=by
 have sc:=Zbo;walk_at "ok"
 ·refine⟨Cv K (Zhh XQ),(au (eV 2 sc.nd (cg az))
   (au (mX PassesOwn.never rfl (nR Φ) (eO (i:=3) sc.nd rfl (Or.inl rfl))
   (au (eV 4 sc.nd (dU (Zpy T) hr T.Zga (aj Ξ (aj (pv 3) az))))
   (aC (cB (nA G.Ju (pv 4) (eZ)) (aC (fX (qO PySem.F.plainAttrs_list PySem.F.slot_list_append PySem.F.type_list_append gq ac (aj (pv 4) az)))) bh))))
   (aC (aN ac)))),?_⟩
  obtain⟨z0,z1,rfl,q⟩:=h;exact Zcd (m7 T).w q
theorem Zg0:ι 3 AD.yx (fM T.LR.g) Wx (M8 XQ):=by
 have sc:=Zf2;walk_at "ok"
 ·refine⟨GF K (Tr XQ) (d7 XQ) (Aq XQ),(au (cB (d9 (dU (Zi3 T) hr T.Zu (aj Ξ (aj Φ (aj ac az))))) (aC (aN (eZ))) bh)
   (au (cB (PW.pt (Zfs (d9 (dU (U6 T) hr T.Ab (aj Ξ az))) (YX (ju (d9 (dU (lA T) hr T.jr (aj Ξ (aj (fY cj (aM π rfl) Φ) az)))))))) (aC (aN (eZ))) bh)
   (aC (aN Φ)))),?_⟩
  obtain⟨z0,z1,z2,rfl,q⟩:=h;exact Zfl (m7 T).w q
theorem tU:ι 3 AD.q8 (fM T.m8.g) Nt (rQ XQ AD.aJ AD.aQ):=by
 have sc:=Yo;walk_at "okX"
 ·refine⟨zu K XQ.C AD.aQ (Ec XQ) (lH XQ AD.aJ) E,(au (eV 4 sc.nd (qD (j6 T).g am rfl T.jM.m (Gk T.jM.g).kp (j6 (P:=P) (base:=base) T).b .nil G.Jk (aj Ξ (aj Φ (aj ac az)))))
   (au (cB (ju (d9 (qC (pv 4) T.cN T.oO.m (vZ T).g am (vZ (P:=P) (base:=base) T).b .nil G.dF (aj (pv 3) az)))) (aC (G.Jf rfl rfl T.Fb T.Eu (aj (bz) az) (λ_ _ _ _ _ _ _ I hx hE=>G.YW I hx hE))) bh)
   (aC (aN (aM (pv 4) rfl))))),?_⟩
  obtain⟨z0,z1,z2,z3,rfl,q⟩:=h;exact Za7 (m7 T).w q
theorem Rm:ι 3 AD.iZ (fM T.Mp.g) WW (cH XQ Δ R4):=by
 have sc:=Zfc;walk_at "ok"
 ·refine⟨G4 K (dB XQ) (cU XQ),(au (eV 2 sc.nd (dU (gf T) hr T.fQ (aj Ξ (aj ω az))))
   (au (eV 3 sc.nd (fY cj ac ω))
   (au (zP (pv 3) (zR ac ω set_list))
   (aC (aN (cF (aj (bz) (aj (dU (jm T) hr T.iu (aj π (aj (pv 3) az))) (aj (cg az) az))))))))),?_⟩
  obtain⟨z0,z1,rfl,q⟩:=h;exact Zh3 (m7 T).w q
theorem Rk:ι 3 AD.iY (fM T.Mm.g) WR (cH XQ Δ R3):=by
 have sc:=Zfb;walk_at "ok"
 ·refine⟨G3 K (dB XQ) (cU XQ),(au (eV 2 sc.nd (dU (gf T) hr T.fQ (aj Ξ (aj ω az))))
   (au (eV 3 sc.nd (fY cj ac ω))
   (au (zP (eZ) (zR ac ω set_list))
   (aC (aN (cF (aj (bz) (aj (dU (jm T) hr T.iu (aj π (aj (pv 3) az))) (aj (cg az) az))))))))),?_⟩
  obtain⟨z0,z1,rfl,q⟩:=h;exact Zh2 (m7 T).w q
theorem N6:ι 3 AD.gD (fM T.G9.g) Q4 (cH XQ Δ JL):=by
 have sc:=Zbq;walk_at "okX"
 ·refine⟨Cy K (lH XQ AD.aJ) E,(au (eV 2 sc.nd (qD (j6 T).g am rfl T.jM.m (Gk T.jM.g).kp (j6 (P:=P) (base:=base) T).b .nil G.Jk (aj Ξ (aj ω (aj ω az)))))
   (au (eV 3 sc.nd (aM ac rfl))
   (au (bQ ac ω rfl)
   (aC (aN (cF (aj (bz) (aj (pv 3) (aj (cg az) az))))))))),?_⟩
  obtain⟨z0,z1,rfl,q⟩:=h;exact Zds (m7 T).w rfl q
theorem Rg:ι 3 AD.iT (fM T.Mh.g) WK (cH XQ Δ RN):=by
 have sc:=Zf7;walk_at "okX"
 ·refine⟨GQ K (lH XQ AD.aJ) E,(au (eV 2 sc.nd (qD (j6 T).g am rfl T.jM.m (Gk T.jM.g).kp (j6 (P:=P) (base:=base) T).b .nil G.Jk (aj Ξ (aj ω (aj ω az)))))
   (aC (aN (cF (aj (bz) (aj (aM ac rfl) (aj (cg az) az))))))),?_⟩
  obtain⟨z0,z1,rfl,q⟩:=h;exact Zgy (m7 T).w rfl q
theorem Rh:ι 3 AD.iU (fM T.Mi.g) WL (cH XQ Δ isName):=by
 have sc:=Zf8;walk_at "okX"
 ·refine⟨GR K (lH XQ AD.aJ) (cU XQ) E,(au (eV 2 sc.nd ω)
   (au (eV 3 sc.nd ω)
   (au (eV 4 sc.nd (aM (qD (j6 T).g am rfl T.jM.m (Gk T.jM.g).kp (j6 (P:=P) (base:=base) T).b .nil G.Jk (aj Ξ (aj ac (aj (pv 3) az)))) rfl))
   (au (Zhw (Dy hr) π ω (cF (aj (fY cj (dU (gf T) hr T.fQ (aj Ξ (aj ac az))) (pv 3)) (aj (pv 4) az))) rfl)
   (aC (aN (cF (aj (bz) (aj (pv 4) (aj (cg az) az)))))))))),?_⟩
  obtain⟨z0,z1,rfl,q⟩:=h;exact Zgz (m7 T).w rfl q
theorem Dg:ι 3 AD.mq (fM T.qM.g) Gb (xJ XQ AD.aV):=by
 have sc:=Qx;walk_at "okX"
 ·refine⟨uG K AD.aV (Tr XQ) E,(au (cB (Zm2 (Zjp (Dy hr) Φ π)) (aC (G.Jf rfl rfl T.JF T.HQ (aj (bz) az) (λ_ _ _ _ _ _ _ I hx hE=>G.YW I hx hE))) bh)
   (au (eV 2 sc.nd (fY bM (pdg hr π Φ) (aA)))
   (au (eV 3 sc.nd (fY bM (pdg hr π Φ) (aA)))
   (au (cB (d9 (dU (Zi3 T) hr T.Zu (aj Ξ (aj ac (aj (pv 3) az))))) (aC (aN (eZ))) bh)
   (aC (aN ac)))))),?_⟩
  obtain⟨z0,z1,rfl,q⟩:=h;exact QW (m7 T).w q
theorem Zg1:ι 3 AD.yC (fM T.Ma.g) Wy (Nb K XQ.C XQ.H):=by
 have sc:=Zf4;walk_at "ok"
 ·refine⟨zm K (Kh K XQ.C XQ.H),(au (eV 2 sc.nd (cg az))
   (au (mX PassesOwn.never rfl (G.Jh rfl T.jl (aj Φ az)) (Ls rfl (jG (eO (i:=3) sc.nd rfl (Or.inl rfl)) (jG (eO (i:=4) sc.nd rfl (Or.inl rfl)) Ey)))
   (aC (fX (qO PySem.F.plainAttrs_list PySem.F.slot_list_extend PySem.F.type_list_extend LK ac (aj (dU (W3 T) hr T.JC (aj Ξ (aj (pv 4) (aj (cF (aj (pv 3) az)) az)))) az)))))
   (au (eV 5 sc.nd (Zc1))
   (au (eV 6 sc.nd (aA))
   (au (QV PassesOwn.never (nA Jv (pv 6) (bW G.cJ η T.iI G.boot_len (aj ac az))) (au (eV 7 sc.nd (fY bM (fY cj ac (pv 6)) (aA)))
   (au (eV 8 sc.nd (fY bM (fY cj ac (pv 6)) (aA)))
   (au (eV 6 sc.nd (aW fP (pv 6) (aA)))
   (aC (cB (Zm2 (G.Zfu (Dy hr) (pv 7) (pv 5))) (au (Zhw (Dy hr) (pv 5) (pv 7) (pv 8) rfl)
   (aC (fX (qO PySem.F.plainAttrs_list PySem.F.slot_list_extend PySem.F.type_list_extend LK ac (aj (dU (W3 T) hr T.JC (aj Ξ (aj (aM (fY cj π (pv 7)) rfl) (aj (pv 8) az)))) az))))) bh))))))
   (aC (aN (lz (G.Zhb rfl) η T.mQ G.boot_list (aj (G.Zm9 (pv 5)) az))))))))),?_⟩
  obtain⟨z0,z1,z2,z3,z4,rfl,q⟩:=h;exact Zfn (m7 T).w q
theorem U5:ι 3 AD.oY (fM T.z9.g) ["world"] (bZ XQ Zi1):=by
 have sc:=Us;walk_at "ok"
 ·refine⟨wU K XQ.H (wH XQ.C XQ.H) (fD XQ.H) (d7 XQ),(au (eV 1 sc.nd π)
   (au (eV 2 sc.nd (aM Φ rfl))
   (au (bQ Φ (aW fP ac (aA)) rfl)
   (au (bQ Φ (aW fP (aM Φ rfl) (aA)) rfl)
   (au (eV 3 sc.nd (dU (qe T) hr T.m9 (aj π (aj ac az))))
   (au (cB (PW.pt (lM (nA G.zT (pv 3) (eZ)) (jY (d9 (dU (lA T) hr T.jr (aj Ξ (aj (pv 3) az))))))) (aC (aN (cF (aj (bz) (aj ac (aj (cg az) az)))))) bh)
   (aC (aN (cF (aj (bz) (aj (qC π T.cC T.z6.m (Jy T).g am (Jy (P:=P) (base:=base) T).b .nil G.dF (aj ac az)) (aj (cg (aj ac az)) az)))))))))))),?_⟩
  obtain⟨z0,rfl,q⟩:=h;exact U3 (m7 T).w q
theorem Zcb:ι 3 AD.vd (fM T.Hj.g) Q6 (Zhf):=by
 have sc:=Zbs;walk_at "ok"
 ·refine⟨CG K (vq) (Zhi) (Tq) (Tp) (Tn),(au (eV 4 sc.nd (dU (eU T) hr T.dZ (aj Ξ (aj (aA) (aj (bW G.cJ η T.iI G.boot_len (aj Φ az)) az)))))
   (au (eV 5 sc.nd (dU (zX T) hr T.qU (aj (dU (eU T) hr T.dZ (aj Ξ (aj (aA) (aj (aA) az)))) (aj (fY bM (fY cj Φ (pv 4)) (aA)) az))))
   (au (eV 6 sc.nd (dU (zX T) hr T.qU (aj (dU (eU T) hr T.dZ (aj Ξ (aj (aA) (aj (aA) az)))) (aj (fY bM (fY cj Φ (pv 4)) (aA)) az))))
   (au (eV 7 sc.nd (dU (eU T) hr T.dZ (aj Ξ (aj (aA) (aj (aA) az)))))
   (au (eV 8 sc.nd (aW cR Ξ (aA)))
   (au (cB (nA Jv (pv 8) (aA)) (aC (aN (dU (Zh T) hr T.Ds (aj Ξ (aj (pv 4) (aj (pv 5) az)))))) bh)
   (au (cB (nA Jv (pv 8) (aA)) (aC (aN (cF (aj (bz) (aj (pv 4) (aj (pv 5) (aj (pv 6) (aj (pv 7) az)))))))) bh)
   (au (cB (nA Jv (pv 8) (aA)) (aC (aN (cF (aj (bz) (aj (pv 4) (aj (pv 5) (aj (pv 7) (aj (pv 6) az)))))))) bh)
   (au (cB (nA iw (pv 8) (aA)) (aC (aN (cF (aj (bz) (aj (pv 4) (aj (pv 5) az)))))) bh)
   (au (cB (nA iw (pv 8) (aA)) (aC (aN (cF (aj (bz) (aj (pv 4) (aj (pv 5) (aj (pv 6) az))))))) bh)
   (au (cB (nA Zc7 (pv 8) (aA)) (aC (aN (dU (U8 T) hr T.Ae (aj Ξ (aj (pv 3) az))))) bh)
   (aC (aN (dU (U9 T) hr T.Af (aj Ξ (aj (pv 4) (aj (pv 5) (aj Φ (aj ac az))))))))))))))))))),?_⟩
  obtain⟨z0,z1,z2,z3,rfl,q⟩:=h;exact Ze5 q
theorem Zi:ι 3 AD.rG (fM T.Dt.g) NP (Zb3 XQ):=by
 have sc:=Yw;walk_at "ok"
 ·refine⟨zH XQ.E XQ.F XQ.K XQ.L (wG XQ.K),(au (eV 1 sc.nd (aW cR (aW gW Ξ (aA)) (aA)))
   (au (cB (nA iw (aW cR Ξ (aA)) (aA)) (aC (aN (vO T.PK (gn T).g am rfl T.Zw (gn (P:=P) (base:=base) T).b .nil G.dF (aj (G.Lw T.W8 rfl T.Zib) (aj Φ az))))) bh)
   (au (cB (nA iw (aW cR Ξ (aA)) (aA)) (aC (aN (vO T.PK (gn T).g am rfl T.Zw (gn (P:=P) (base:=base) T).b .nil G.dF (aj (G.Lw T.Zco rfl T.Zn5) (aj Φ az))))) bh)
   (aC (aN (vO T.PK (gn T).g am rfl T.Zw (gn (P:=P) (base:=base) T).b .nil G.dF (aj (G.Lw T.Zcn rfl T.Zn2) (aj Φ az)))))))),?_⟩
  obtain⟨z0,rfl,q⟩:=h;exact Zau q
theorem Jw:ι 3 AD.je (fM T.qp.g) xT (Qa K):=by
 have sc:=Ir;walk_at "ok"
 ·refine⟨nF K (Tt K) (Kg) (vp),(au (eV 1 sc.nd (dU (Pb T) hr T.uV (aj Ξ az)))
   (au (mX PassesOwn.never rfl (Zjn rfl T.tM (aj (aA) (aj (aW fP (bW G.cJ η T.iI G.boot_len (aj Φ az)) (aA)) az))) (eO (i:=2) sc.nd rfl (Or.inl rfl))
   (aC (cB (ju (d9 (dU (zW T) hr T.qT (aj (dU (uK T) hr T.qm (aj (nT Io Φ zQ (qz ac)) az)) (aj (iB iw (fY bM (fY cj (fY cj Φ (aW Dc ac (aA))) (xR pL (aA))) (aA)) (bz) (lU _)) az))))) (aC (aN (pK))) bh)))
   (aC (aN (pK))))),?_⟩
  obtain⟨z0,rfl,q⟩:=h;exact Kd q
theorem Zmi:ι 4 AD.J2 (fM T.Zt.g) ["world"] (Zb2 XQ):=by
 have sc:=Zlr;walk_at "ok"
 ·refine⟨QM K (Zhj XQ) (M8 XQ) H,(aC (aN (aW Zmg (dU (Zpz T) hr T.Zgb (aj Ξ az)) (cg (aj (G.Zpo (G.Zft (cns:=["world"]) [0] (G.Zpn (G.Zjo π)) (λ_ _ _ _ _=>G.Y6) (λ_ _ _ _ _=>(dU (Zg0 T) hr T.LR (aj ac (aj Ξ (aj Φ az))))) rfl rfl (by repeat (first | exact trivial | refine⟨rfl,?_⟩)) (by repeat (first | exact trivial | refine⟨rfl,?_⟩)) rfl γ rfl γ γ rfl rfl γ)) az))))),?_⟩;obtain⟨z0,rfl,q⟩:=h;exact Zlu (m7 T).w q
theorem Ri:ι 4 AD.iV (fM T.Mj.g) WM (cH XQ Δ RP):=by
 have sc:=Zf9;walk_at "okX"
 ·refine⟨GX K XQ.H (Eg K XQ.C XQ.H AD.bF) (dB XQ) (cU XQ) E,(au (eV 2 sc.nd (dU (gf T) hr T.fQ (aj Ξ (aj ω az))))
   (au (eV 3 sc.nd ω)
   (au (eV 4 sc.nd ω)
   (au (eV 5 sc.nd (qC π T.cC T.JB (Zk T).g am T.DY .nil G.Jk (aj (pv 3) (aj (pv 4) (aj (aM π rfl) az)))))
   (au (zP (pv 5) (zR ac ω set_list))
   (aC (aN (cF (aj (bz) (aj (dU (jm T) hr T.iu (aj π (aj (pv 5) az))) (aj (cg az) az))))))))))),?_⟩
  obtain⟨z0,z1,rfl,q⟩:=h;exact Zh0 (m7 T).w rfl q
theorem W5:ι 4 AD.kJ (fM T.Rx.g) Zc6 (cH XQ Δ Zdb):=by
 have sc:=Zjg;walk_at "okX"
 ·refine⟨Ln K (dB XQ) (rQ XQ AD.aJ AD.aQ) (cU XQ) E,(au (eV 2 sc.nd ω)
   (au (eV 3 sc.nd ω)
   (au (eV 4 sc.nd ω)
   (au (eV 5 sc.nd (fY cj (qD (tU T).g am rfl T.m8.m (Gk T.m8.g).kp (tU (P:=P) (base:=base) T).b .nil G.Jk (aj Ξ (aj ac (aj (pv 3) (aj (pv 4) az))))) (pv 4)))
   (au (zP (pv 5) (zR (dU (gf T) hr T.fQ (aj Ξ (aj ac az))) ω set_list))
   (aC (aN (cF (aj (bz) (aj (dU (jm T) hr T.iu (aj π (aj (pv 5) az))) (aj (cg az) az))))))))))),?_⟩
  obtain⟨z0,z1,rfl,q⟩:=h;exact Zks (m7 T).w rfl rfl q
theorem W4:ι 4 AD.kE (fM T.Rv.g) Zc5 (cH XQ Δ Zd6):=by
 have sc:=Zjf;walk_at "okX"
 ·refine⟨Lj K (dB XQ) (rQ XQ AD.aJ AD.aQ) (gF XQ) (cU XQ) (vm XQ) (Hu XQ) E,(au (eV 2 sc.nd ω)
   (au (eV 3 sc.nd ω)
   (au (eV 4 sc.nd (qD (tU T).g am rfl T.m8.m (Gk T.m8.g).kp (tU (P:=P) (base:=base) T).b .nil G.Jk (aj Ξ (aj ac (aj ω (aj (pv 3) az))))))
   (au (eV 5 sc.nd (fY cj (pv 4) (pv 3)))
   (au (eV 6 sc.nd (fY cj (dU (gf T) hr T.fQ (aj Ξ (aj ac az))) ω))
   (au (zP (pv 6) (zR (pv 4) (pv 3) set_list))
   (au (eV 7 sc.nd (dU (qP T) hr T.mY (aj Ξ (aj (aW Zmg (dU (Ra T) hr T.xF (aj Ξ (aj (pv 5) az))) (dU (Df T) hr T.qL (aj Ξ (aj ac (aj (pv 6) az))))) az))))
   (aC (aN (cF (aj (bz) (aj (dU (jm T) hr T.iu (aj π (aj (pv 5) az))) (aj (pv 7) az))))))))))))),?_⟩
  obtain⟨z0,z1,rfl,q⟩:=h;exact Zkr (m7 T).w rfl rfl q
theorem Rj:ι 4 AD.iW (fM T.Ml.g) WQ (cH XQ Δ R0):=by
 have sc:=Zfa;walk_at "ok"
 ·refine⟨GZ K (dB XQ) (gF XQ) (cU XQ) (vm XQ),(au (eV 2 sc.nd ω)
   (au (eV 3 sc.nd ω)
   (au (eV 4 sc.nd (fY cj (dU (gf T) hr T.fQ (aj Ξ (aj ac az))) ω))
   (au (zP (pv 4) (zR (dU (gf T) hr T.fQ (aj Ξ (aj (pv 3) az))) ω set_list))
   (au (eV 5 sc.nd (dU (qP T) hr T.mY (aj Ξ (aj (dU (Df T) hr T.qL (aj Ξ (aj ac (aj (pv 4) az)))) az))))
   (aC (aN (cF (aj (bz) (aj (dU (jm T) hr T.iu (aj π (aj (pv 4) az))) (aj (pv 5) az))))))))))),?_⟩
  obtain⟨z0,z1,rfl,q⟩:=h;exact Zh1 (m7 T).w q
theorem Rc:ι 4 AD.iR (fM T.Mg.g) Wz (cH XQ Δ RM):=by
 have sc:=Zf6;walk_at "okX"
 ·refine⟨GP K (dB XQ) (gF XQ) (xJ XQ AD.aV) (cU XQ) E,(au (eV 2 sc.nd (qD (Dg T).g am rfl T.qM.m (Gk T.qM.g).kp (Dg (P:=P) (base:=base) T).b .nil G.Jk (aj Ξ (aj ω az))))
   (au (zP ac (zR (dU (gf T) hr T.fQ (aj Ξ (aj ω az))) ω set_list))
   (au (eV 3 sc.nd (dU (qP T) hr T.mY (aj Ξ (aj (cg (aj ac az)) az))))
   (aC (aN (cF (aj (bz) (aj (dU (jm T) hr T.iu (aj π (aj ac az))) (aj (pv 3) az))))))))),?_⟩
  obtain⟨z0,z1,rfl,q⟩:=h;exact Zgx (m7 T).w rfl q
theorem Gf:ι 4 AD.oZ (fM T.uf.g) Jo (lG XQ):=by
 have sc:=Ut;walk_at "ok"
 ·refine⟨wV K (gF XQ),(au (eV 2 sc.nd (cg az))
   (au (mX PassesOwn.never rfl (G.Jh rfl T.jl (aj π az)) (Ls rfl (jG (eO (i:=3) sc.nd rfl (Or.inl rfl)) (jG (eO (i:=4) sc.nd rfl (Or.inl rfl)) Ey)))
   (aC (cB (nA iw (aW Q9 (aW Zfv Φ (pv 3)) (aA)) (aA)) (aC (fX (qO PySem.F.plainAttrs_list PySem.F.slot_list_extend PySem.F.type_list_extend LK ac (aj (dU (qP T) hr T.mY (aj Ξ (aj (aM (pv 4) rfl) az))) az)))) bh)))
   (aC (aN ac)))),?_⟩
  obtain⟨z0,z1,rfl,q⟩:=h;exact Vd (m7 T).w q
theorem Zpx:ι 4 AD.Sx (fM T.Zg9.g) ["world"] (bZ XQ Zi0):=by
 have sc:=Zpa;walk_at "ok"
 ·refine⟨YL K (gF XQ),(au (eV 1 sc.nd π)
   (au (eV 2 sc.nd (fY cj (aM π rfl) (qO PySem.F.plainAttrs_list PySem.F.slot_list_pop PySem.F.type_list_pop Zmx (aM Φ rfl) (aj (aA) az))))
   (au (bQ Φ (aW fP (aM Φ rfl) (aA)) rfl)
   (aC (aN (cF (aj (bz) (aj (aM ac rfl) (aj (dU (qP T) hr T.mY (aj Ξ (aj (aM ac rfl) az))) az))))))))),?_⟩
  obtain⟨z0,rfl,q⟩:=h;exact Zp2 (m7 T).w q
theorem Bk:ι 4 AD.dm (fM T.uR.g) ["world"] (bZ XQ (W0 "give")):=by
 have sc:=O5;walk_at "ok"
 ·refine⟨sS K (bZ XQ pEnd) (bZ XQ Zi1),(au (cB (nA Jv (aM π rfl) (aM π rfl)) (aC (aN (dU (U5 T) hr T.z9 (aj Ξ az)))) bh)
   (aC (aN (dU (Zsu T) hr T.Zn0 (aj Ξ az))))),?_⟩
  obtain⟨z0,rfl,q⟩:=h;exact Ox (m7 T).w q
theorem Zf:ι 4 AD.rD (fM T.Dp.g) Nz (Zb1 K):=by
 have sc:=Yt;walk_at "ok"
 ·refine⟨zE K (Zhf),(au (eV 4 sc.nd (cg az))
   (au (mX PassesOwn.never rfl (G.Jh rfl T.jl (aj Ξ az)) (Ls rfl (jG (eO (i:=5) sc.nd rfl (Or.inl rfl)) (jG (eO (i:=6) sc.nd rfl (Or.inl rfl)) Ey)))
   (aC (fX (qO PySem.F.plainAttrs_list PySem.F.slot_list_append PySem.F.type_list_append gq (pv 4) (aj (dU (Zcb T) hr T.Hj (aj (aW fP (pv 6) (aW uJ (aW uJ (aA) (pv 5)) (pv 5))) (aj Φ (aj ac (aj (pv 3) az))))) az)))))
   (aC (aN (pv 4))))),?_⟩
  obtain⟨z0,z1,z2,z3,rfl,q⟩:=h;exact Zar q
theorem Zi4:ι 5 AD.Zoa (fM T.Zjy.g) Zv9 (cH XQ Δ (λ_=>True)):=by
 have sc:=Zv4;walk_at "okX"
 ·refine⟨Zlv K AD.iZ AD.iY AD.kJ AD.iW AD.iV AD.iU AD.kE AD.iT AD.iR AD.gD (cH XQ Δ R4) (cH XQ Δ R3) (cH XQ Δ Zdb) (cH XQ Δ R0) (cH XQ Δ RP) (cH XQ Δ isName) (cH XQ Δ Zd6) (cH XQ Δ RN) (cH XQ Δ RM) (cH XQ Δ JL) E,(au (eV 2 sc.nd (G.Zm6 T.Wq rfl ω (λ_ _=>rfl)))
   (aC (aN (G.Zc3 (k:=4) (G.TQ.cons ε (Ri T).g (Ri (P:=P) (base:=base) T).b (Gk T.Mj.g).kp (G.TQ.cons ε (W5 T).g (W5 (P:=P) (base:=base) T).b (Gk T.Rx.g).kp (G.TQ.cons ε (W4 T).g (W4 (P:=P) (base:=base) T).b (Gk T.Rv.g).kp (G.TQ.cons ε (Rm T).g (Rm (P:=P) (base:=base) T).b (Gk T.Mp.g).kp (G.TQ.cons ε (Rk T).g (Rk (P:=P) (base:=base) T).b (Gk T.Mm.g).kp (G.TQ.cons ε (Rj T).g (Rj (P:=P) (base:=base) T).b (Gk T.Ml.g).kp (G.TQ.cons ε (N6 T).g (N6 (P:=P) (base:=base) T).b (Gk T.G9.g).kp (G.TQ.cons ε (Rg T).g (Rg (P:=P) (base:=base) T).b (Gk T.Mh.g).kp (G.TQ.cons ε (Rh T).g (Rh (P:=P) (base:=base) T).b (Gk T.Mi.g).kp (G.TQ.cons ε (Rc T).g (Rc (P:=P) (base:=base) T).b (Gk T.Mg.g).kp G.TQ.nil)))))))))) am rfl (Or.inl rfl) G.Jk (aj Ξ (aj Φ az)))))),?_⟩
  obtain⟨z0,z1,rfl,q⟩:=h;exact Zwo (m7 T).w q
theorem Dd:ι 5 AD.uY (fM T.uP.g) ["scene"] (yH AD.bw XQ):=by
 have sc:=Zbm;walk_at "ok"
 ·refine⟨Cq K XQ.W (Av XQ),(aC (aN (vO T.Zcl (vU T).g am rfl T.Zi9 (vU (P:=P) (base:=base) T).b .nil G.dF (aj π (aj π (aj π az)))))),?_⟩;obtain⟨z0,rfl,q⟩:=h;exact Zbd (m7 T) q
theorem Bl:ι 5 AD.dz (fM T.uT.g) ["world"] (bZ XQ (W0 "rest")):=by
 have sc:=O6;walk_at "ok"
 ·refine⟨sU K (Zb5 XQ) (lG XQ),(au (fX (dU (Zmj T) hr T.Zv (aj Ξ az)))
   (au (eV 1 sc.nd (dU (Gf T) hr T.uf (aj Ξ (aj (aM π rfl) az))))
   (aC (aN (cF (aj (bz) (aj (aM π rfl) (aj Φ az)))))))),?_⟩
  obtain⟨z0,rfl,q⟩:=h;exact Oz (m7 T).w q
theorem U7:ι 5 AD.o7 (fM T.Ac.g) ["world"] (Ar XQ):=by
 have sc:=Uv;walk_at "ok"
 ·refine⟨wX K (d7 XQ) (Nb K XQ.C XQ.H) (Zb2 XQ),(au (mX PassesOwn.never rfl (nR (dU (Zg1 T) hr T.Ma (aj π (aj (dU (Zmi T) hr T.Zt (aj Ξ az)) az)))) (Ls rfl (jG (eO (i:=1) sc.nd rfl (Or.inl rfl)) (jG (eO (i:=2) sc.nd rfl (Or.inl rfl)) Ey)))
   (au (eV 3 sc.nd (fY cj (aM π rfl) Φ))
   (aC (cB (ju (d9 (dU (lA T) hr T.jr (aj Ξ (aj (pv 3) az))))) (aC (aN (cF (aj (bz) (aj (aM (pv 3) rfl) (aj (lz Ka η T.mQ G.boot_list (aj ac az)) az)))))) bh))))
   (aC (aN (eZ)))),?_⟩
  obtain⟨z0,rfl,q⟩:=h;exact VL (m7 T).w q
theorem Zsx:ι 6 AD.Zdl (fM T.Zn1.g) ["world"] (bZ XQ Zjq):=by
 have sc:=Zsh;walk_at "ok"
 ·refine⟨Zfr K (Ed XQ) (Ar XQ) (HD XQ) (pG K),(au (eV 1 sc.nd π)
   (au (bQ Φ (bW G.cJ η T.iI G.boot_len (aj (aM π rfl) az)) rfl)
   (au (bQ Φ (aA) rfl)
   (au (eV 2 sc.nd (dU (U7 T) hr T.Ac (aj Ξ az)))
   (au (cB (nA G.Ju ac (eZ)) (au (bQ Φ (bz) rfl)
   (au (bQ Φ ac rfl)
   (aC (aN (dU (Gd T) hr T.ud (aj ac az)))))) bh)
   (au (bQ Φ (bz) rfl)
   (au (eV 3 sc.nd (dU (Zd T) hr T.Dm (aj π (aj (dU (Zca T) hr T.G8 (aj Ξ az)) az))))
   (aC (aN (cF (aj (bz) (aj (bW G.cJ η T.iI G.boot_len (aj (pv 3) az)) (aj (pv 3) az))))))))))))),?_⟩
  obtain⟨z0,rfl,q⟩:=h;exact Zuj (m7 T).w q
theorem U4:ι 6 AD.oU (fM T.z7.g) Jl (Zaz XQ):=by
 have sc:=Up;walk_at "ok"
 ·refine⟨wO AD.aJ AD.bF AD.aQ AD.aV (cH XQ Δ (λ_=>True)) (M9),(aC (G.Zpm ⟨rfl,rfl⟩ rfl T.wB rfl T.Fb rfl T.Zx rfl T.JF (λcls h=>by rcases h with rfl<;>first | exact T.gJ) (λcls h=>by rcases h with rfl<;>first | exact⟨T.gY,T.jR⟩) (λcls h=>by rcases h with rfl<;>first | exact⟨T.jP,T.mD,T.wC⟩) (λcls h=>by rcases h with rfl<;>first | exact⟨T.iD,T.jO,T.nZ,T.mL⟩) (λEx pn xe hx=>(aC (aN (G.Zc2 (Zi4 T).g am rfl T.Zjy.m (Gk T.Zjy.g).kp (Zi4 (P:=P) (base:=base) T).b .nil hx (aj Ξ (aj Φ az)))))) (λea pn=>(aC (aN (G.Jj (zV T) hr T.uh.m (aj (bz) az))))) (λea pn=>(aC (aN (G.Jj (zV T) hr T.uh.m (aj (bz) az))))) (λea pn=>(aC (aN (G.Jj (zV T) hr T.uh.m (aj (bz) az))))) (λea pn=>(aC (aN (G.Jj (zV T) hr T.uh.m (aj (bz) az))))))),?_⟩;obtain⟨z0,z1,rfl,q⟩:=h;exact TY rfl rfl rfl rfl q
theorem Rb:ι 7 AD.mz (fM T.xG.g) ["world"] (bZ XQ Zi2):=by
 have sc:=Qy;walk_at "ok"
 ·refine⟨uH K XQ.E XQ.F XQ.L (ig 1) (ig 2) (vo (.bl false)) (ig 0) (vo (.bl true)) (bZ XQ Zjq) (lG XQ),(au (eV 1 sc.nd π)
   (au (eV 2 sc.nd (aM π rfl))
   (au (eV 3 sc.nd (G.vP (qC ac T.DW T.uO (qQ T).g am (qQ (P:=P) (base:=base) T).b .nil G.dF (aj (aM Φ rfl) (aj (bW G.cJ η T.iI G.boot_len (aj π az)) az))) (G.vP (qC ac T.J9 T.oM.m (vY T).g am (vY (P:=P) (base:=base) T).b .nil G.dF (aj (aM Φ rfl) (aj (bW G.cJ η T.iI G.boot_len (aj π az)) az))) (qC ac T.J8 T.oJ.m (vW T).g am (vW (P:=P) (base:=base) T).b .nil G.dF (aj (aM Φ rfl) (aj (bW G.cJ η T.iI G.boot_len (aj π az)) az))))))
   (au (eV 4 sc.nd (dU (Gf T) hr T.uf (aj Ξ (aj (pv 3) az))))
   (au (cB (PW.pt (lM (nA iw (pv 3) (aA)) (jY (ju (PW.pt (lM (d9 (G.vP (jZ ac T.DW T.uN (dY T).g am (dY (P:=P) (base:=base) T).b .nil G.dF) (G.vP (jZ ac T.J9 T.xx (dY T).g am (dY (P:=P) (base:=base) T).b .nil G.dF) (jZ ac T.J8 T.qK.m (qG T).g am (qG (P:=P) (base:=base) T).b .nil G.dF)))) (jY (Zbz (pv 4) (λ_=>rfl))))))))) (aC (aN (dU (Zsx T) hr T.Zn1 (aj Ξ az)))) bh)
   (au (bQ Φ (aW fP (aM Φ rfl) (aA)) rfl)
   (au (cB (d9 (G.vP (jZ ac T.DW T.uN (dY T).g am (dY (P:=P) (base:=base) T).b .nil G.dF) (G.vP (jZ ac T.J9 T.xx (dY T).g am (dY (P:=P) (base:=base) T).b .nil G.dF) (jZ ac T.J8 T.qK.m (qG T).g am (qG (P:=P) (base:=base) T).b .nil G.dF)))) (aC (bQ Φ (aW Zva (aM Φ rfl) (pv 3)) rfl)) bh)
   (aC (aN (cF (aj (bz) (aj (pv 3) (aj (pv 4) az))))))))))))),?_⟩
  obtain⟨z0,rfl,q⟩:=h;exact RB (m7 T).w q
theorem Bj:ι 8 AD.dj (fM T.uQ.g) ["world"] (bZ XQ (W0 "walk")):=by
 have sc:=O4;walk_at "ok"
 ·refine⟨sO K (bZ XQ Zi2) (bZ XQ Zi0),(au (cB (Zbz (aM π rfl) (λ_=>rfl)) (aC (aN (dU (Zpx T) hr T.Zg9 (aj Ξ az)))) bh)
   (aC (aN (dU (Rb T) hr T.xG (aj Ξ az))))),?_⟩
  obtain⟨z0,rfl,q⟩:=h;exact Ow (m7 T).w q
theorem Zb:ι 9 AD.Sy (fM T.Ru.g) ["world"] (bZ XQ Y8):=by
 have sc:=Zpb;walk_at "ok"
 ·refine⟨YM K AD.dz AD.dm AD.dj AD.cM (bZ XQ (W0 "rest")) (bZ XQ (W0 "give")) (bZ XQ (W0 "walk")) (bZ XQ (W0 "lost")),(au (eV 1 sc.nd (G.Zm6 T.Wo rfl (aM π rfl) (λ_ _=>rfl)))
   (aC (aN (G.Zc3 (k:=8) (G.TQ.cons ε (Bl T).g (Bl (P:=P) (base:=base) T).b (Gk T.uT.g).kp (G.TQ.cons ε (Bj T).g (Bj (P:=P) (base:=base) T).b (Gk T.uQ.g).kp (G.TQ.cons ε (Bk T).g (Bk (P:=P) (base:=base) T).b (Gk T.uR.g).kp (G.TQ.cons ε (vR T).g (vR (P:=P) (base:=base) T).b (Gk T.qj.g).kp G.TQ.nil)))) am rfl (Or.inl rfl) G.dF (aj Ξ az))))),?_⟩
  obtain⟨z0,rfl,q⟩:=h;exact Zp5 (m7 T).w q
theorem Zfy:ι 10 AD.yw (fM T.LQ.g) ["world"] (Tj XQ):=by
 have sc:=Zf1;walk_at "ok"
 ·refine⟨GD K (bZ XQ Y8),(au (eV 1 sc.nd (aA))
   (au (QV PassesOwn.never (nA Y9 (aM π rfl) (cF (aj (bz) (aj (bz) az))) (by with_unfolding_all rfl)) (au (fX (dU (Zb T) hr T.Ru (aj Ξ az)))
   (aC (eV 1 sc.nd (aW fP Φ (aA))))))
   (aC (aN Φ)))),?_⟩
  obtain⟨z0,rfl,q⟩:=h;exact Zeg (m7 T).w q
theorem Zmh:ι 10 AD.J0 (fM T.Zr.g) Zhy (Zb0 XQ):=by
 have sc:=Zlq;walk_at "ok"
 ·refine⟨Cr K (bZ XQ Y8) (Fg),(au (eV 2 sc.nd (cg az))
   (au (QV PassesOwn.never (PW.pt (Zfs (nA Jv (bW G.cJ η T.iI G.boot_len (aj ac az)) Φ) (YX (ju (d9 (dU (Ge T) hr T.ue (aj ac az))))))) (aC (fX (qO PySem.F.plainAttrs_list PySem.F.slot_list_append PySem.F.type_list_append gq ac (aj (dU (Zb T) hr T.Ru (aj Ξ az)) az)))))
   (aC (aN ac)))),?_⟩
  obtain⟨z0,z1,rfl,q⟩:=h;exact Zlh q
theorem Zj:ι 10 AD.rJ (fM T.Du.g) NT (Zhk XQ):=by
 have ep:G.Zhn K [AD.aJ,AD.aQ,AD.bF,AD.aV]:=λx hx=>T.exc x (by simp only[List.mem_cons,List.not_mem_nil,or_false]at hx ⊢;rcases hx with h | h | h | h<;>simp[h]);have sc:=Yy;walk_at "ok"
 ·refine⟨zK K AD.aJ AD.bF AD.aQ AD.aV (HB) (cH XQ Δ (λ_=>True)) (bZ XQ Y8) (W.kitOne K),(au (eV 2 sc.nd (cg az))
   (au (cB (nA iw ω (bz)) (au (mX PassesOwn.never rfl (xQ rfl T.tM (aj ω az)) (eO (i:=3) sc.nd rfl (Or.inl rfl))
   (aC (cB (PW.pt (lM (nA (G.Zfw (Dy hr)) ac (cg az)) (jY (nA W2 (fY bM (fY cj ac (xR pL (aA))) (aA)) (bz))))) (aC (fX (qO PySem.F.plainAttrs_list PySem.F.slot_list_append PySem.F.type_list_append gq ac (aj (dU (Zb T) hr T.Ru (aj Ξ az)) az)))) bh)))
   (aC (aN ac))) bh)
   (au (eV 4 sc.nd (eZ))
   (au (eV 5 sc.nd (eZ))
   (au (G.Zm3 (i:=6) rfl ⟨rfl,rfl⟩ sc.nd rfl rfl rfl T.Ob (λcls h=>by rcases h with rfl | rfl | rfl | rfl<;>first | exact T.gH | exact T.iG | exact T.lF | exact T.jB) (λEx pn xe hx=>(aC (eV 5 sc.nd (G.Zc2 (Zi4 T).g am rfl T.Zjy.m (Gk T.Zjy.g).kp (Zi4 (P:=P) (base:=base) T).b .nil hx (aj Ξ (aj Φ az)))))) (λea pn=>(aC (eV 4 sc.nd (cg (aj (bW (G.Ff ep) η T.dD G.boot_isinstance (aj (pv 6) (aj (Ji rfl T.wB rfl) az))) (aj (bW (G.Ff ep) η T.dD G.boot_isinstance (aj (pv 6) (aj (Ji rfl T.Fb rfl) az))) (aj (bW (G.Ff ep) η T.dD G.boot_isinstance (aj (pv 6) (aj (Ji rfl T.Zx rfl) az))) (aj (bW (G.Ff ep) η T.dD G.boot_isinstance (aj (pv 6) (aj (Ji rfl T.JF rfl) az))) az)))))))))
   (au (cB (nA G.zT (pv 4) (eZ)) (aC (aN (cg (aj (pv 5) az)))) bh)
   (aC (aN (dU (Pa T) hr T.uU (aj (pv 4) az)))))))))),?_⟩
  obtain⟨z0,z1,rfl,q⟩:=h;exact Zaw rfl rfl rfl rfl T.kit q
theorem De:ι 11 AD.JZ (fM T.z8.g) Zhx (wF XQ):=by
 have sc:=Zlp;walk_at "ok"
 ·refine⟨Jb K (Zb0 XQ) (Zaz XQ),(au (cB (nA iw ω (T.Zij.pe rfl)) (aC (aN (dU (Zmh T) hr T.Zr (aj Ξ (aj ω az))))) bh)
   (aC (aN (cg (aj (dU (U4 T) hr T.z7 (aj Ξ (aj Φ az))) az))))),?_⟩
  obtain⟨z0,z1,rfl,q⟩:=h;exact Zl6 q
theorem Zfz:ι 12 AD.J1 AD.Za8 Zhz (Zov AD.bw XQ):=by
 have sc:=Zse;refine⟨?_,T.Zs2,T.Zni⟩;have F:=T.Zs3;walk_at "okD"
 ·refine⟨Zfo K (vp) (wF XQ) (yH AD.bw XQ),(au (eV 2 sc.nd (dU (Dd T) hr T.uP (aj Ξ az)))
   (au (eV 3 sc.nd (cg az))
   (au (mX PassesOwn.never rfl (nR (nT Io π zQ (G.Zsp Φ))) (eO (i:=4) sc.nd rfl (Or.inl rfl))
   (au (fX (qO PySem.F.plainAttrs_list PySem.F.slot_list_append PySem.F.type_list_append gq (pv 3) (aj (dU (De T) hr T.z8 (aj ac (aj (pv 4) az))) az)))
   (aC (cB (d9 (dU (uK T) hr T.qm (aj (pv 3) az))) (aC (Zm4)) bh))))
   (aC (aN (pv 3)))))),?_⟩
  obtain⟨z0,z1,rfl,q⟩:=h;exact Zsj (m7 T) q
theorem Vb:ι 12 AD.pB (fM T.Ah.g) Jt (Zb6 XQ):=by
 have sc:=UG;walk_at "ok"
 ·refine⟨xj K (yI) (Kl) (Tj XQ) (wF XQ),(au (eV 2 sc.nd (cF (aj ω (aj ω (aj (lz G.m6 η T.mQ G.boot_list (aj ω az)) az)))))
   (au (eV 3 sc.nd (dU (Zfy T) hr T.LQ (aj Ξ az)))
   (au (cB (PW.pt (lM (d9 (bW G.yG η T.dD G.boot_isinstance (aj (pv 3) (aj (Ez rfl T.Qc G.boot_bool rfl) az)))) (jY (nA W2 (pv 3) (aA))))) (aC (aN (pK))) bh)
   (au (eV 4 sc.nd (dU (De T) hr T.z8 (aj Ξ (aj (cF (aj (bz) (aj (aA) az))) az))))
   (au (cB (PW.pt (lM (ju (d9 (dU (qF T) hr T.lD (aj (cg (aj (pv 4) az)) az)))) (jY (nA (G.Q8 hr.units) (pv 4) (cg (aj ac az)))))) (aC (aN (pK))) bh)
   (au (fX (dU (Bm T) hr T.oR (aj (pv 4) az)))
   (aC (aN ((CQ (iB (G.Za hr.units) (dU (De T) hr T.z8 (aj Ξ (aj (cF (aj (bz) (aj (aA) az))) az))) (cg (aj ac az)) (lU _)) (CP (iB (G.Za hr.units) (dU (De T) hr T.z8 (aj Ξ (aj (cF (aj (bz) (aj (aA) az))) az))) (cg (aj ac az)) (lU _))))))))))))),?_⟩
  obtain⟨z0,z1,rfl,q⟩:=h;exact V2 q
theorem Zst{fl:AI}{fd:AL}(F:Fun K "law" "law" QD fl fd):Fn5 P w K mg base 13 fl fd ["_law_script"] (Ziz K):=by
 have sc:=Zsf;walk_at "okL"
 ·refine⟨Zfp K AD.bw (Aw AD.bw) (Zb6 XQ) (Zhl K) (yI) (Zhk XQ) (vq) (Qa K) (Zb4) (Zb3 XQ) (Kl) (Zhg) (Zb1 K) (Kg) (vp) (Zov AD.bw XQ) (wF XQ) (yH AD.bw XQ),(au (eV 1 sc.nd (dU (Va T) hr T.Ag (aj (dU (nU T) hr T.kj (aj Ξ (aj (aA) az))) az)))
   (au (eV 2 sc.nd (dU (Zf T) hr T.Dp (aj (nT Io Ξ (qz (aA)) (qz (aA))) (aj Φ (aj (dU (nU T) hr T.kj (aj Ξ (aj (aA) az))) (aj (aA) az))))))
   (au (eV 3 sc.nd (dU (Zi T) hr T.Dt (aj (dU (nU T) hr T.kj (aj Ξ (aj (aA) az))) az)))
   (au (eV 4 sc.nd (vO T.Zcm (vV T).g am rfl T.Zia (vV (P:=P) (base:=base) T).b .nil G.dF (aj (dU (Zg T) hr T.Dr (aj (dU (nU T) hr T.kj (aj Ξ (aj (aA) az))) az)) (aj (pv 3) (aj (lz G.m6 η T.mQ G.boot_list (aj Φ az)) (aj (lz G.m6 η T.mQ G.boot_list (aj ac az)) az))))))
   (au (eV 5 sc.nd (dU (Dd T) hr T.uP (aj (pv 4) az)))
   (au (eV 6 sc.nd (dU (Dd T) hr T.uP (aj (pv 4) az)))
   (au (eV 7 sc.nd (cg az))
   (au (mX PassesOwn.never rfl (nR ac) (eO (i:=8) sc.nd rfl (Or.inl rfl))
   (aC (cB (PW.pt (lM (nA (G.Zfw (Dy hr)) (pv 7) (cg az)) (jY (nA W2 (fY bM (fY cj (fY cj (pv 7) (xR pL (aA))) (xR pL (aA))) (aA)) (bz))))) (au (fX (qO PySem.F.plainAttrs_list PySem.F.slot_list_append PySem.F.type_list_append gq (pv 7) (aj (dU (Zj T) hr T.Du (aj (pv 5) (aj (pv 8) az))) az)))
   (au (eV 9 sc.nd (dU (De T) hr T.z8 (aj (pv 6) (aj (pv 8) az))))
   (au (cB (PW.pt (lM (ju (d9 (dU (qF T) hr T.lD (aj (cg (aj (pv 9) az)) az)))) (jY (nA (G.Q8 hr.units) (pv 9) (fY cj (pv 7) (xR pL (aA))))))) (aC (aN (pK))) bh)
   (aC (fX (dU (Bm T) hr T.oR (aj (pv 9) az))))))) bh)))
   (au (eV 10 sc.nd (qD (Zfz T).g am rfl T.Zi8 T.Zni T.Ze1 T.Zdg G.dF (aj (pv 4) az)))
   (au (cB (PW.pt (lM (ju (d9 (dU (qF T) hr T.lD (aj (pv 10) az)))) (lM (nA (G.Q8 hr.units) (pv 10) (pv 7)) (jY (nA G.Zpt (dU (uK T) hr T.qm (aj (cg az) az)) (pK)))))) (aC (aN (pK))) bh)
   (au (eV 11 sc.nd (dU (eU T) hr T.dZ (aj (dU (nU T) hr T.kj (aj Ξ (aj (aA) az))) (aj (aA) (aj (aW fP (bW G.cJ η T.iI G.boot_len (aj ac az)) (aA)) az)))))
   (au (eV 12 sc.nd (Zv8 (Zfz T) hr T.Zi8 (aj (pv 4) (aj (pv 11) az))))
   (au (cB (PW.pt (lM (ju (d9 (dU (qF T) hr T.lD (aj (pv 12) az)))) (lM (nA (G.Q8 hr.units) (pv 12) (nT Io (pv 7) zQ (qz (pv 11)))) (jY (nA (G.Q8 hr.units) (Zv8 (Zfz T) hr T.Zi8 (aj (pv 4) (aj (eZ) az))) (pv 7)))))) (aC (aN (pK))) bh)
   (au (eV 13 sc.nd ((CQ (iB (G.Zsr (Dy hr)) (pv 7) (cg az) (lU _)) (CP (iB iw (fY bM (fY cj (fY cj (pv 7) (xR pL (aA))) (xR pL (aA))) (aA)) (bz) (lU _))))))
   (au (cB (PW.pt (lM (ju (d9 (dU (zW T) hr T.qT (aj (dU (uK T) hr T.qm (aj (pv 10) az)) (aj (pv 13) az))))) (jY (ju (d9 (dU (zW T) hr T.qT (aj (dU (uK T) hr T.qm (aj (pv 12) az)) (aj ((CQ (pv 13) (CP (iB Zro (pv 11) (bW G.cJ η T.iI G.boot_len (aj (pv 7) az)) (lU _))))) az)))))))) (aC (aN (pK))) bh)
   (au (cB (PW.pt (Zfs (d9 (pv 13)) (YX (ju (d9 (dU (Vb T) hr T.Ah (aj (pv 6) (aj (fY cj (fY cj (pv 7) (xR pL (aA))) (xR pL (aA))) az)))))))) (aC (aN (pK))) bh)
   (au (cB (ju (d9 (dU (Jw T) hr T.qp (aj (nT Io Ξ (qz (aA)) (qz (aA))) az)))) (aC (aN (pK))) bh)
   (aC (aN ((CQ (iB (G.Za hr.units) (aM (pv 4) rfl) ac (lU _)) (CP (iB (G.Za hr.units) (aM (pv 4) rfl) Φ (lU _)))))))))))))))))))))))),?_⟩
  obtain⟨z0,rfl,q⟩:=h;exact Ztc (m7 T) q
end
theorem all_mk{l:W.OpenLaw}{w:AO}{K:aG}{h:Heap}{mg:As}{fa fl bI bG gK jD kZ xM Et d8 pI bw eY aJ aQ bF aV gR pF jj gP gh vf rN rM pD yF u9 DP cT dG dR jg ji jf pC gO gQ fB gw SM rz qY qZ o5 J3 SJ u5 SN J2 yx uZ yE q8 lZ mj iV kJ kE iZ iY iW gD iT iU iR mq Zoa gA uY yC DN oZ dz dj Sx mz Zdl o7 u6 oW dm oY Zdk cM Sy yw JZ J0 oX oU yz J1 yD rK rH pA rE rC rA rF o8 o9 vd rD rG kO rJ pq rB kW pB kY je:AI}(KI:K.In h)(GN:h.Ns mainGlobals mg)(hfa:mg "law"=↑fa)
  {od5 an5 to5 Zxe Zwy Zx6 Zxd Zwx:Option AI}
  {sl5 ts5 Zxc Zx5 Zxb:Array AB}
  {oc5 kV5 dc5 pm5 cd5 ct5 tc5 Zry Zrx Zxg Zvl Zwr Zv6 Zul Zwu Zx8 Zaa Zxf Zvk Zwq Zv5 Zuk Zwt Zri Zrh Zho:AJ}
  {td5 Zsa S5 SX:AI}
  {tn5 Zx7 Zdo Zdn:Nat}
  {Xr Xq Xp Xo Xn Xm Xl Xk Xj Xi Xh Xg Xf Xe:Int}
  {Wn Wl Wk Wj Wi Wh Wg Wf We Wd Wc Wb V9 V8:Tok}
  (Zuw:Ns K "Cell" bI)
  (Zus:Ns K "Heap" bG)
  (Zra:Ns K "First" gK)
  (Zuv:Ns K "Each" jD)
  (Zuq:Ns K "Last" kZ)
  (Zur:Ns K "Kind" xM)
  (Zut:Ns K "Hand" Et)
  (Zl0:Ns K "Sweeper" d8)
  (Zr8:Ns K "World" pI)
  (Zr9:Ns K "Scene" bw)
  (Ze3:Ns K "GreyError" eY)
  (Ze4:Ns K "EmptySlot" aJ)
  (Zl1:Ns K "NoField" aQ)
  (Zuu:Ns K "Full" bF)
  (Zot:Ns K "NoName" aV)
  (a1:MT K bI "__init__" "Cell.__init__" sJ gR)
  (a2:MT K bI "units" "Cell.units" zj pF)
  (a3:MT K bI "has_field" "Cell.has_field" pZ jj)
  (a4:MT K bG "__init__" "Heap.__init__" sG gP)
  (a5:Fi K bG "make" gh)
  (i5:W.isFn K (.ref gh)=true)
  (l5:Lk K gh "make" "Heap.make" jV (.ref td5) oc5 od5 kV5 dc5 pm5 an5 cd5 ct5 sl5)
  (t5:K.lookup td5=some ⟨tc5,to5,.seq #[Zry,Zrx] tn5,ts5⟩)
  (ZD4:RelV (.int 0) Zry)
  (ZD3:RelV (.int 0) Zrx)
  (c5:Ci K cd5 "Heap.make")
  (k5:Ki K gh)
  (a6:MT K bG "lay" "Heap.lay" Gy vf)
  (a7:MT K bG "back" "Heap.back" Cp rN)
  (a8:MT K bG "free" "Heap.free" Cm rM)
  (a9:MT K bG "there" "Heap.there" zg pD)
  (a10:FA K "cell_at" Li yF)
  (a11:FA K "birth_at" Gw u9)
  (a12:FA K "all_of" QH DP)
  (a13:MT K jD "at_begin" "Looking.at_begin" mW cT)
  (a14:MT K gK "next_look" "Looking.next_look" lN dG)
  (a15:MT K jD "stays" "Looking.stays" su dR)
  (a16:MT K gK "at_begin" "First.at_begin" pX jg)
  (a17:MT K jD "next_look" "Each.next_look" pY ji)
  (a18:MT K kZ "next_look" "Last.next_look" pW jf)
  (a19:MT K kZ "stays" "Last.stays" zf pC)
  (a20:MT K xM "__init__" "Kind.__init__" sE gO)
  (a21:MT K Et "__init__" "Hand.__init__" sH gQ)
  (a22:MT K d8 "__init__" "Sweeper.__init__" mV fB)
  (a23:MT K pI "__init__" "World.__init__" pR gw)
  (a24:FA K "held" Zfi SM)
  (a25:FA K "births_at" BP rz)
  (a26:FA K "looked_at" BJ qY)
  (a27:FA K "has_sense" BK qZ)
  (a28:FA K "is_walking" yU o5)
  (a29:FA K "begin" YJ J3)
  (a30:FA K "note" Zfh SJ)
  (a31:FA K "note_all" Gs u5)
  (a32:FA K "gone" Zfj SN)
  (a33:FA K "roots" YH J2)
  (a34:FA K "root_of" K5 yx)
  (a35:FA K "slots_of" Gr uZ)
  (a36:FA K "cell_in" Lh yE)
  (a37:FA K "fields_in" BL q8)
  (a38:FA K "told_as_old" wK lZ)
  (a39:FA K "told_as_new" wL mj)
  (a40:FA K "do_make" Ld iV)
  (a41:FA K "do_get" QG kJ)
  (a42:FA K "do_put" QF kE)
  (a43:FA K "do_copy" Lg iZ)
  (a44:FA K "do_drop" Lf iY)
  (a45:FA K "do_give" Le iW)
  (a46:FA K "do_write" Gv gD)
  (a47:FA K "do_read" La iT)
  (a48:FA K "do_name" Lb iU)
  (a49:FA K "do_seek" K9 iR)
  (a50:FA K "place_named" wM mq)
  (a51:FA K "do" Zsi Zoa)
  (a52:MT K bw "__init__" "Scene.__init__" pU gA)
  (a53:FA K "world_of" Gq uY)
  (a54:FA K "reached" K7 yC)
  (a55:FA K "onward" QC DN)
  (a56:FA K "note_hands" yS oZ)
  (a57:FA K "step_at_rest" uz dz)
  (a58:FA K "step_in_walk" ux dj)
  (a59:FA K "walk" Zff Sx)
  (a60:FA K "look_or_cut" wN mz)
  (a61:FA K "cut" Zlt Zdl)
  (a62:FA K "first_loss" yV o7)
  (a63:FA K "given_up" Gu u6)
  (a64:FA K "told_again" yP oW)
  (a65:FA K "step_in_give" uy dm)
  (a66:FA K "pass_place" yR oY)
  (a67:FA K "end" s_end Zdk)
  (a68:FA K "step_when_lost" pP cM)
  (a69:FA K "step" Zfg Sy)
  (a70:FA K "to_rest" K4 yw)
  (a71:FA K "tried" YF JZ)
  (a72:FA K "swept" YG J0)
  (a73:FA K "tells_loss" yQ oX)
  (a74:FA K "tried_deed" yO oU)
  (a75:FA K "refused" K6 yz)
  (a76:Ns K "run" J1)
  (l76:Lk K J1 "run" "run" QB (.ref Zsa) Zxg Zxe Zvl Zwr Zv6 Zwy Zul Zwu Zxc)
  (t76:K.lookup Zsa=some ⟨Zx8,Zx6,.seq #[Zaa] Zx7,Zx5⟩)
  (Zuh:RelV .non Zaa)
  (c76:Ci K Zul "run")
  (k76:Ki K J1)
  (a77:FA K "is_lost" K8 yD)
  (a78:FA K "_law_cell" Ck rK)
  (a79:FA K "_law_draw" Cg rH)
  (a80:FA K "_law_hands" za pA)
  (a81:FA K "_law_room" BZ rE)
  (a82:FA K "_law_slot" BW rC)
  (a83:FA K "_law_word" BR rA)
  (a84:FA K "_law_make" Ca rF)
  (a85:FA K "_law_steps" yW o8)
  (a86:FA K "_law_other" yX o9)
  (a87:FA K "_law_row" Gx vd)
  (a88:FA K "_law_rows" BX rD)
  (a89:FA K "_law_kind" Cd rG)
  (a90:FA K "_law_refused" uA kO)
  (a91:FA K "_law_done" Cj rJ)
  (a92:FA K "_law_lists" yZ pq)
  (a93:FA K "_law_told" BV rB)
  (a94:FA K "_law_changed" uB kW)
  (a95:FA K "_law_again" zb pB)
  (a96:FA K "_law_by_hand" uC kY)
  (a97:FA K "_law_hand_made" pQ je)
  (a98:Ns K "law" fl)
  (l98:Lk K fl "law" "law" QD .none Zxf Zxd Zvk Zwq Zv5 Zwx Zuk Zwt Zxb)
  (c98:Ci K Zuk "law")
  (k98:Ki K fl)
  (Zmu:Ns K "DEEDS" S5)
  (Znb:K.lookup S5=some ⟨.type "dict",none,.dict #[⟨Xr,.str "make" Wn,.ref iV⟩,⟨Xq,.str "get" Wl,.ref kJ⟩,⟨Xp,.str "put" Wk,.ref kE⟩,⟨Xo,.str "copy" Wj,.ref iZ⟩,⟨Xn,.str "drop" Wi,.ref iY⟩,⟨Xm,.str "give" Wh,.ref iW⟩,⟨Xl,.str "write" Wg,.ref gD⟩,⟨Xk,.str "read" Wf,.ref iT⟩,⟨Xj,.str "name" We,.ref iU⟩,⟨Xi,.str "seek" Wd,.ref iR⟩] Zdo,#[]⟩)
  (Zkk:Xr=hashStr w "make")
  (Zkj:Xq=hashStr w "get")
  (Zki:Xp=hashStr w "put")
  (Zkh:Xo=hashStr w "copy")
  (Zkg:Xn=hashStr w "drop")
  (Zkf:Xm=hashStr w "give")
  (Zke:Xl=hashStr w "write")
  (Zkd:Xk=hashStr w "read")
  (Zkc:Xj=hashStr w "name")
  (Zkb:Xi=hashStr w "seek")
  (Zmt:Ns K "STEPS" SX)
  (Zna:K.lookup SX=some ⟨.type "dict",none,.dict #[⟨Xh,.str "rest" Wc,.ref dz⟩,⟨Xg,.str "walk" Wb,.ref dj⟩,⟨Xf,.str "give" V9,.ref dm⟩,⟨Xe,.str "lost" V8,.ref cM⟩] Zdn,#[]⟩)
  (Zka:Xh=hashStr w "rest")
  (Zk9:Xg=hashStr w "walk")
  (Zk8:Xf=hashStr w "give")
  (Zk7:Xe=hashStr w "lost")
  (Zaj:CA K bI)
  (cX:Fo K bI "birth")
  (kh:Fo K bI "bulk")
  (jq:Fo K bI "tone")
  (gZ:Fo K bI "load")
  (dN:Fo K bI "fields")
  (Zoe:W.findIn K (.ref bI) "__eq__"=some (some (.builtin "object.__eq__")))
  (Zod:W.mroIn K bI (.type "object")=some true)
  (Zag:CA K bG)
  (j7:Fo K bG "room")
  (bK:Fo K bG "cells")
  (fH:Fo K bG "used")
  (jo:Fo K bG "born")
  (Th:CA K gK)
  (Zmk:W.findIn K (.ref gK) "__init__"=some (some (.builtin "object.__init__")))
  (Zai:CA K jD)
  (Zq1:W.findIn K (.ref jD) "__init__"=some (some (.builtin "object.__init__")))
  (Zae:CA K kZ)
  (Zq0:W.findIn K (.ref kZ) "__init__"=some (some (.builtin "object.__init__")))
  (Zaf:CA K xM)
  (oH:Fo K xM "looking")
  (t8:Fo K xM "tells")
  (Zah:CA K Et)
  (wk:Fo K Et "name")
  (uc:Fo K Et "slots")
  (Ht:CA K d8)
  (mH:Fo K d8 "sense")
  (mJ:Fo K d8 "phase")
  (oG:Fo K d8 "grey")
  (lC:Fo K d8 "looked")
  (oA:Fo K d8 "turn")
  (tX:Fo K d8 "at")
  (oE:Fo K d8 "stop")
  (mG:Fo K d8 "walks")
  (mK:Fo K d8 "looks")
  (lB:Fo K d8 "passes")
  (oF:Fo K d8 "loss")
  (Te:CA K pI)
  (tW:Fo K pI "heap")
  (tV:Fo K pI "kind")
  (qI:Fo K pI "hands")
  (qH:Fo K pI "names")
  (mF:Fo K pI "sweeper")
  (Tf:CA K bw)
  (tZ:Fo K bw "room")
  (t7:Fo K bw "kind")
  (qJ:Fo K bw "hands")
  (tY:Fo K bw "rows")
  (vI:W.excIn K aJ [.type "ValueError",.type "Exception",.type "BaseException",.type "object"] "ValueError.__new__"=true)
  (XM:W.excIn K bF [.type "ValueError",.type "Exception",.type "BaseException",.type "object"] "ValueError.__new__"=true)
  (Eu:W.excIn K aQ [.type "ValueError",.type "Exception",.type "BaseException",.type "object"] "ValueError.__new__"=true)
  (HQ:W.excIn K aV [.type "ValueError",.type "Exception",.type "BaseException",.type "object"] "ValueError.__new__"=true)
  (gJ:W.exmOne K (.ref aJ) (.ref aJ)=some true)
  (wC:W.exmOne K (.ref bF) (.ref bF)=some true)
  (gH:W.exmOne K (.ref aJ) (.ref eY)=some true)
  (iG:W.exmOne K (.ref aQ) (.ref eY)=some true)
  (lF:W.exmOne K (.ref bF) (.ref eY)=some true)
  (jB:W.exmOne K (.ref aV) (.ref eY)=some true)
  (jR:W.exmOne K (.ref aQ) (.ref aQ)=some true)
  (mL:W.exmOne K (.ref aV) (.ref aV)=some true)
  (jP:W.exmOne K (.ref bF) (.ref aJ)=some false)
  (mD:W.exmOne K (.ref bF) (.ref aQ)=some false)
  (gY:W.exmOne K (.ref aQ) (.ref aJ)=some false)
  (iD:W.exmOne K (.ref aV) (.ref aJ)=some false)
  (nZ:W.exmOne K (.ref aV) (.ref bF)=some false)
  (jO:W.exmOne K (.ref aV) (.ref aQ)=some false)
  (Za9:G.Kp K aJ)
  (Zqz:G.Kp K bF)
  (Zgu:G.Kp K aQ)
  (Zkq:G.Kp K aV)
  (MK:Fi K jD "at_begin" cT)
  (VB:Fi K jD "stays" dR)
  (Ho:Fi K gK "next_look" dG)
  (R6:Fi K gK "stays" dR)
  (MJ:Fi K kZ "at_begin" cT)
  (Qc:W.nsIn K mainGlobals "bool"=some none)
  (jl:W.nsIn K mainGlobals "enumerate"=some none)
  (dD:W.nsIn K mainGlobals "isinstance"=some none)
  (iI:W.nsIn K mainGlobals "len"=some none)
  (mQ:W.nsIn K mainGlobals "list"=some none)
  (tM:W.nsIn K mainGlobals "range"=some none)
  (Py:W.nsIn K mainGlobals "tuple"=some none)
  (Zua:W.nsIn K mainGlobals "NEW"=some (some Zri))
  (Zu8:RelV (.int 2) Zri)
  (Zu9:W.nsIn K mainGlobals "OLD"=some (some Zrh))
  (Zu7:RelV (.int 1) Zrh)
  (Zo2:W.nsIn K mainGlobals "SWEEP"=some (some Zho))
  (Znz:RelV (.str "sweep") Zho)
  (Aj:W.kitOne K (.ref aJ) (.ref aJ)=some true)
  (DG:W.kitOne K (.ref aJ) (.ref aQ)=some false)
  (JX:W.kitOne K (.ref aJ) (.ref bF)=some false)
  (Fw:W.kitOne K (.ref aJ) (.ref aV)=some false)
  (Dz:W.kitOne K (.ref aQ) (.ref aJ)=some false)
  (Hq:W.kitOne K (.ref aQ) (.ref aQ)=some true)
  (Pk:W.kitOne K (.ref aQ) (.ref bF)=some false)
  (JV:W.kitOne K (.ref aQ) (.ref aV)=some false)
  (JW:W.kitOne K (.ref bF) (.ref aJ)=some false)
  (Pn:W.kitOne K (.ref bF) (.ref aQ)=some false)
  (Za2:W.kitOne K (.ref bF) (.ref bF)=some true)
  (Sg:W.kitOne K (.ref bF) (.ref aV)=some false)
  (Fv:W.kitOne K (.ref aV) (.ref aJ)=some false)
  (JT:W.kitOne K (.ref aV) (.ref aQ)=some false)
  (Sd:W.kitOne K (.ref aV) (.ref bF)=some false)
  (MP:W.kitOne K (.ref aV) (.ref aV)=some true)
  :∃fd:AL,(∀(s:AK) (v:AJ),BindsTo s fd ⟨[v],[]⟩ [("_law_script",v)])/\∀base:Heap,K.In base->base.Ns mainGlobals mg->vB l.prog w K mg base (G.FJ l.prog w) 13 fa fd ["_law_script"] (Ziz K):=by
 have e:=hfa.symm.trans (W.mg_of KI GN a98);cases e;have mo:∀{s:Str}{v:AJ},W.nsIn K mainGlobals s=some (some v)->mg s=some v:=λh=>W.mg_of KI GN h;have F5:=G.Zik (st:=jV) l5 c5 k5;have b5:=G.Zhd (ps:=["self","many","bulk","tone"]) (ds:=[]) l5 t5 λus hl=>by obtain⟨_,_,rfl,l1⟩:=cn1 (n:=3) hl;obtain⟨_,_,rfl,l2⟩:=cn1 (n:=2) l1;obtain⟨_,_,rfl,l3⟩:=cn1 (n:=1) l2;obtain⟨_,_,rfl,l4⟩:=cn1 (n:=0) l3;cases List.eq_nil_of_length_eq_zero l4;exact ⟨_,rfl,rfl⟩
 have F76:=G.Zik (st:=QB) l76 c76 k76;have b76:=G.Zhd (ps:=["scene","most"]) (ds:=[]) l76 t76 λus hl=>by obtain⟨_,_,rfl,l1⟩:=cn1 (n:=1) hl;obtain⟨_,_,rfl,l2⟩:=cn1 (n:=0) l1;cases List.eq_nil_of_length_eq_zero l2;exact ⟨_,rfl,rfl⟩
 have Zuo:=G.Zhd (ps:=["scene","most"]) (ds:=[Zaa]) l76 t76 λus hl=>by obtain⟨_,_,rfl,l1⟩:=cn1 (n:=0) (Nat.add_right_cancel (m:=1) hl);cases List.eq_nil_of_length_eq_zero l1;exact ⟨_,rfl,rfl⟩
 let Q0:Cs:=⟨pI,bG,bI,xM,Et,d8,gK,jD,kZ⟩
 let Q1:Ad:=⟨bw,eY,aJ,aQ,bF,aV,gR,pF,jj,gP,gh,vf,rN,rM,pD,yF,u9,DP,cT,dG,dR,jg,ji,jf,pC,gO,gQ,fB,gw,SM,rz,qY,qZ,o5,J3,SJ,u5,SN,J2,yx,uZ,yE,q8,lZ,mj,iV,kJ,kE,iZ,iY,iW,gD,iT,iU,iR,mq,Zoa,gA,uY,yC,DN,oZ,dz,dj,Sx,mz,Zdl,o7,u6,oW,dm,oY,Zdk,cM,Sy,yw,JZ,J0,oX,oU,yz,J1,yD,rK,rH,pA,rE,rC,rA,rF,o8,o9,vd,rD,rG,kO,rJ,pq,rB,kW,pB,kY,je,W.fnOf "make" "Heap.make" (iH jV) (fj jV) (aF jV) (.ref td5) kV5 dc5 pm5 an5 cd5 ct5,W.fnOf "run" "run" (iH QB) (fj QB) (aF QB) (.ref Zsa) Zvl Zwr Zv6 Zwy Zul Zwu,[Zaa]⟩
 have T:Txt w K mg Q0 Q1:={
  Wq:=⟨S5,_,_,Zdo,W.mg_of KI GN Zmu,Znb,⟨rfl,rfl,rfl⟩,rfl,Zkk,⟨Wn,rfl⟩,rfl,Zkj,⟨Wl,rfl⟩,rfl,Zki,⟨Wk,rfl⟩,rfl,Zkh,⟨Wj,rfl⟩,rfl,Zkg,⟨Wi,rfl⟩,rfl,Zkf,⟨Wh,rfl⟩,rfl,Zke,⟨Wg,rfl⟩,rfl,Zkd,⟨Wf,rfl⟩,rfl,Zkc,⟨We,rfl⟩,rfl,Zkb,⟨Wd,rfl⟩,rfl,trivial⟩
  Wo:=⟨SX,_,_,Zdn,W.mg_of KI GN Zmt,Zna,⟨rfl,rfl,rfl⟩,rfl,Zka,⟨Wc,rfl⟩,rfl,Zk9,⟨Wb,rfl⟩,rfl,Zk8,⟨V9,rfl⟩,rfl,Zk7,⟨V8,rfl⟩,rfl,trivial⟩
  cN:=Zaj.c
  Zn6:=mo Zuw
  Zi7:=⟨Zaj.mk',a1.m.at_,a1.m.fn,Zaj.k⟩
  cX:=cX
  kh:=kh
  jq:=jq
  gZ:=gZ
  dN:=dN
  P0:=⟨Zoe,Zod⟩
  cC:=Zag.c
  Zn3:=mo Zus
  Zi5:=⟨Zag.mk',a4.m.at_,a4.m.fn,Zag.k⟩
  j7:=j7
  bK:=bK
  fH:=fH
  jo:=jo
  DW:=Th.c
  Zib:=mo Zra
  W8:=⟨Th.mk',Zmk,Th.k⟩
  J9:=Zai.c
  Zn5:=mo Zuv
  Zco:=⟨Zai.mk',Zq1,Zai.k⟩
  J8:=Zae.c
  Zn2:=mo Zuq
  Zcn:=⟨Zae.mk',Zq0,Zae.k⟩
  Ziw:=Zaf.c
  Zw:=mo Zur
  PK:=⟨Zaf.mk',a20.m.at_,a20.m.fn,Zaf.k⟩
  oH:=oH
  t8:=t8
  Zix:=Zah.c
  Zn4:=mo Zut
  Zi6:=⟨Zah.mk',a21.m.at_,a21.m.fn,Zah.k⟩
  wk:=wk
  uc:=uc
  S7:=Ht.c
  W9:=mo Zl0
  Rt:=⟨Ht.mk',a22.m.at_,a22.m.fn,Ht.k⟩
  mH:=mH
  mJ:=mJ
  oG:=oG
  lC:=lC
  oA:=oA
  tX:=tX
  oE:=oE
  mG:=mG
  mK:=mK
  lB:=lB
  oF:=oF
  Zdy:=Te.c
  Zi9:=mo Zr8
  Zcl:=⟨Te.mk',a23.m.at_,a23.m.fn,Te.k⟩
  tW:=tW
  tV:=tV
  qI:=qI
  qH:=qH
  mF:=mF
  jk:=Tf.c
  Zia:=mo Zr9
  Zcm:=⟨Tf.mk',a52.m.at_,a52.m.fn,Tf.k⟩
  tZ:=tZ
  t7:=t7
  qJ:=qJ
  tY:=tY
  Ob:=mo Ze3
  wB:=mo Ze4
  Fb:=mo Zl1
  Zx:=mo Zuu
  JF:=mo Zot
  vI:=vI
  XM:=XM
  Eu:=Eu
  HQ:=HQ
  gJ:=gJ
  wC:=wC
  gH:=gH
  iG:=iG
  lF:=lF
  jB:=jB
  jR:=jR
  mL:=mL
  jP:=jP
  mD:=mD
  gY:=gY
  iD:=iD
  nZ:=nZ
  jO:=jO
  exc:=by
   intro C hC;simp only[List.mem_cons,List.not_mem_nil,or_false]at hC;rcases hC with rfl | rfl | rfl | rfl
   ·exact Za9
   ·exact Zqz
   ·exact Zgu
   ·exact Zkq
  yo:=⟨MK,a13.m.fn,a13.m.kp⟩
  xx:=⟨VB,a15.m.fn,a15.m.kp⟩
  uO:=⟨Ho,a14.m.fn,a14.m.kp⟩
  uN:=⟨R6,a15.m.fn,a15.m.kp⟩
  yh:=⟨MJ,a13.m.fn,a13.m.kp⟩
  yp:=a1
  lY:=a2
  oO:=a3
  yl:=a4
  JB:=⟨a5,i5,k5⟩
  Dk:=a6
  z6:=a7
  zZ:=a8
  xu:=a9
  m9:=⟨mo a10.a,a10.g⟩
  iu:=⟨mo a11.a,a11.g⟩
  JD:=⟨mo a12.a,a12.g⟩
  tK:=a13
  qR:=a14
  yg:=a15
  oK:=a16
  oM:=a17
  oJ:=a18
  qK:=a19
  yj:=a20
  ym:=a21
  tH:=a22
  wu:=a23
  Zgb:=⟨mo a24.a,a24.g⟩
  Dm:=⟨mo a25.a,a25.g⟩
  Dl:=⟨mo a26.a,a26.g⟩
  jr:=⟨mo a27.a,a27.g⟩
  Ab:=⟨mo a28.a,a28.g⟩
  Zv:=⟨mo a29.a,a29.g⟩
  Zga:=⟨mo a30.a,a30.g⟩
  mY:=⟨mo a31.a,a31.g⟩
  Zu:=⟨mo a32.a,a32.g⟩
  Zt:=⟨mo a33.a,a33.g⟩
  LR:=⟨mo a34.a,a34.g⟩
  fQ:=⟨mo a35.a,a35.g⟩
  jM:=⟨mo a36.a,a36.g⟩
  m8:=⟨mo a37.a,a37.g⟩
  xF:=⟨mo a38.a,a38.g⟩
  qL:=⟨mo a39.a,a39.g⟩
  Mj:=⟨mo a40.a,a40.g⟩
  Rx:=⟨mo a41.a,a41.g⟩
  Rv:=⟨mo a42.a,a42.g⟩
  Mp:=⟨mo a43.a,a43.g⟩
  Mm:=⟨mo a44.a,a44.g⟩
  Ml:=⟨mo a45.a,a45.g⟩
  G9:=⟨mo a46.a,a46.g⟩
  Mh:=⟨mo a47.a,a47.g⟩
  Mi:=⟨mo a48.a,a48.g⟩
  Mg:=⟨mo a49.a,a49.g⟩
  qM:=⟨mo a50.a,a50.g⟩
  Zjy:=⟨mo a51.a,a51.g⟩
  wA:=a52
  uP:=⟨mo a53.a,a53.g⟩
  Ma:=⟨mo a54.a,a54.g⟩
  JC:=⟨mo a55.a,a55.g⟩
  uf:=⟨mo a56.a,a56.g⟩
  uT:=⟨mo a57.a,a57.g⟩
  uQ:=⟨mo a58.a,a58.g⟩
  Zg9:=⟨mo a59.a,a59.g⟩
  xG:=⟨mo a60.a,a60.g⟩
  Zn1:=⟨mo a61.a,a61.g⟩
  Ac:=⟨mo a62.a,a62.g⟩
  G8:=⟨mo a63.a,a63.g⟩
  ud:=⟨mo a64.a,a64.g⟩
  uR:=⟨mo a65.a,a65.g⟩
  z9:=⟨mo a66.a,a66.g⟩
  Zn0:=⟨mo a67.a,a67.g⟩
  qj:=⟨mo a68.a,a68.g⟩
  Ru:=⟨mo a69.a,a69.g⟩
  LQ:=⟨mo a70.a,a70.g⟩
  z8:=⟨mo a71.a,a71.g⟩
  Zr:=⟨mo a72.a,a72.g⟩
  ue:=⟨mo a73.a,a73.g⟩
  z7:=⟨mo a74.a,a74.g⟩
  uh:=⟨mo a75.a,a75.g⟩
  Zi8:=mo a76
  qm:=⟨mo a77.a,a77.g⟩
  kj:=⟨mo a78.a,a78.g⟩
  dZ:=⟨mo a79.a,a79.g⟩
  Ag:=⟨mo a80.a,a80.g⟩
  Dr:=⟨mo a81.a,a81.g⟩
  qU:=⟨mo a82.a,a82.g⟩
  Dn:=⟨mo a83.a,a83.g⟩
  Ds:=⟨mo a84.a,a84.g⟩
  Ae:=⟨mo a85.a,a85.g⟩
  Af:=⟨mo a86.a,a86.g⟩
  Hj:=⟨mo a87.a,a87.g⟩
  Dp:=⟨mo a88.a,a88.g⟩
  Dt:=⟨mo a89.a,a89.g⟩
  uU:=⟨mo a90.a,a90.g⟩
  Du:=⟨mo a91.a,a91.g⟩
  lD:=⟨mo a92.a,a92.g⟩
  qT:=⟨mo a93.a,a93.g⟩
  oR:=⟨mo a94.a,a94.g⟩
  Ah:=⟨mo a95.a,a95.g⟩
  uV:=⟨mo a96.a,a96.g⟩
  qp:=⟨mo a97.a,a97.g⟩
  Qc:=W.mg_none_of KI GN Qc
  jl:=W.mg_none_of KI GN jl
  dD:=W.mg_none_of KI GN dD
  iI:=W.mg_none_of KI GN iI
  mQ:=W.mg_none_of KI GN mQ
  tM:=W.mg_none_of KI GN tM
  Py:=W.mg_none_of KI GN Py
  Zrv:=⟨_,W.mg_of KI GN Zua,Zu8⟩
  Zru:=⟨_,W.mg_of KI GN Zu9,Zu7⟩
  Zij:=⟨_,W.mg_of KI GN Zo2,Znz⟩
  kit:=⟨λr r'=>by cases r<;>cases r'<;>first | exact Aj | exact DG | exact JX | exact Fw | exact Dz | exact Hq | exact Pk | exact JV | exact JW | exact Pn | exact Za2 | exact Sg | exact Fv | exact JT | exact Sd | exact MP⟩
  Oo:=F5
  DY:=b5
  Oi:=k5
  Zs3:=F76
  Zs2:=b76
  Zni:=k76
  Ze1:=Zuo
  Zdg:=(.cons Zuh .nil)
 }
 exact⟨W.fnOf "law" "law" (iH QD) (fj QD) (aF QD) .none Zvk Zwq Zv5 Zwx Zuk Zwt,λs v=>.of_eq rfl,λbase _ _=>Zst T (Zo4 (st:=QD) l98 c98 k98)⟩
theorem walk{l:W.OpenLaw}{q:AM}{loose:AH}{XP:(As)->Heap->Prop}{YP:AO->Heap->Prop}{d:DefRec}{K:Params->aG}(hn:l.most=some 63)(hdf:d.params.defaults=[])
  (hY:∀(w:AO) (h:Heap),YP w h->(K w.params).In h)
  (F:∀(w:AO) (mg:As) (fa:AI) (h:Heap),(K w.params).In h->h.Ns mainGlobals mg->mg d.name=↑fa->
   ∃fd:AL,(∀(s:AK) (u:AJ),BindsTo s fd ⟨[u],[]⟩ [("_law_script",u)])/\∀base:Heap,(K w.params).In base->base.Ns mainGlobals mg->vB l.prog w (K w.params) mg base (G.FJ l.prog w) 13 fa fd ["_law_script"] (Ziz (K w.params))):
  W.WalkO q loose XP YP l.row.toRowW d [] (λf vs=>PySem.call f vs):=
 L2.Zp3 (n:=63) (k:=13) (x:="_law_script") (CX:=λw=>G.FJ l.prog w) (sp:=λw=>Ziz (K w.params)) hn ε hdf ⟨rfl,ε,ε⟩ hY F (λ_ _ a ns hl _ hS=>⟨a,rfl,ns,hS,hl,λ_=>rfl⟩) λ_ _ _ _ _ z=>by
  obtain⟨_,_,_,_,_,_,_,_,_,_,_,_,z⟩:=z;exact z
end TJ
namespace PySem.W.Fast
def tw18189412854413880385:=0
def tw7343004719872655073:=0
def tw13903773158576497698:=0
def tw5201766347916559396:=0
def tw12946764692581188677:=0
def tw334067978260932837:=0
def tw8222999571985458949:=0
def tw14958433910168270887:=0
def tw18182294800192005097:=0
def tw6347495177765226283:=0
def tw9738681146790579053:=0
def tw7393667690124164815:=0
def tw9847405766530981651:=0
def tw6894284974827373972:=0
def tw5994895620793492372:=0
def tw1696875705095004470:=0
def tw9748039107934632502:=0
def tw14481594683094734614:=0
def tw5790520618453191991:=0
def tw8251439871763897048:=0
def tw10823130662320160728:=0
def tw6267416484832879323:=0
def tw13243671611297254268:=0
def tw15650708120442256477:=0
def tw8839896800983016445:=0
def tw4175859547154577598:=0
def tw16373024010893450399:=0
def tw6860819182067561087:=0
def tw17481623223503417330:=0
def tw8828095579587387409:=0
def tw12345685753225686799:=0
def tw6302140737203470348:=0
def tw15466663087559737175:=0
def tw16864191842752410484:=0
def tw3474097415881395057:=0
def tw15801822805806634905:=0
def tw3455716764316944581:=0
def tw6122637749378739879:=0
def tw17025055666135966763:=0
def tw7429604332669188603:=0
def tw9952678344927421675:=0
def tw5749333268076341083:=0
def tw16901913733644822914:=0
def tw1201025267214303497:=0
def tw15828636778544250841:=0
def tw16989785084461353329:=0
def tw10254950611693255147:=0
def tw1213477448783168045:=0
def tw8735303241117063127:=0
def tw2509702403623347797:=0
def tw4297022452049159203:=0
def tw5485770393755173207:=0
def tw15800553605428773737:=0
def tw3269006656174761019:=0
def tw11408532280326688086:=0
def tw8318635433207841878:=0
def tw14874256975981742807:=0
def tw3691978455534248690:=0
def tw6524709534872980124:=0
def tw11851692344043753208:=0
def tw1329195386721898821:=0
def tw2415684896941129898:=0
def tw5209310697549443571:=0
def tw10590738326801221079:=0
def tw5750035592808211618:=0
def tw1051382209576887076:=0
def tw16453144322545926957:=0
def tw8095268158577964086:=0
def tw3553876487693750956:=0
def tw4285958839789849691:=0
def tw2161216541261137319:=0
def tw1494864368727038071:=0
def tw13267188289277288218:=0
def tw16396667267708642426:=0
def tw4950754001893908432:=0
def tw2792042833485858440:=0
def tw16191162514924887597:=0
def tw2884912192588437183:=0
def tw1658432101100801426:=0
def tw12954690290057055849:=0
def tw9962300503486878673:=0
def tw7964943545489523433:=0
def tw6948748866750383777:=0
def tw13883273769526969453:=0
def tw6403504837988183428:=0
def tw3342732563705309385:=0
def tw16096464695669715113:=0
def tw12602748219679673068:=0
def tw9318368352827020683:=0
def tw8246763327706840807:=0
def tw2408095505255696305:=0
def tw4144862500428169038:=0
def tw10385626153147469457:=0
def tw8391306131947473435:=0
def tw18172153440917479273:=0
def tw15100452214339435732:=0
def tw17114329048258422744:=0
def tw5684924438413177876:=0
def tw15299337138129273119:=0
def tw10709973352376027104:=0
def tw1081912059973171840:=0
def tw15071582360851445403:=0
def tw10592574438738706449:=0
def tw12263384660534550228:=0
def tw17027786400186034508:=0
def tw16398897169848538268:=0
def tw8202095201966651285:=0
def tw7787662087467685907:=0
def tw17624173198509826641:=0
def tw7336922435961032649:=0
def tw9493941507700705813:=0
def tw7573823976664985536:=0
def tw2872171365632008524:=0
def tw7412982557070432286:=0
def tw4043426001448472574:=0
def tw14002491394312804617:=0
def tw14779306689621859732:=0
def tw9287051585471115952:=0
def tw6824995995155120967:=0
def tw13616970589695256811:=0
def tw16426587072041528671:=0
def tw11302998271467339898:=0
def tw10367975422740680092:=0
def tw8715939461610027053:=0
def tw13502977371013976800:=0
def tw17100829501901443037:=0
def tw1049372579192836905:=0
def tw3613138847194222869:=0
def tw2303644223578818098:=0
def tw6307122017960759087:=0
def tw287535281648481602:=0
def tw4961469946319715559:=0
def tw3429453843384579341:=0
def tw17764371914291843548:=0
def tw14461761040173204655:=0
def tw12164830733826399552:=0
def tw4196119137811816858:=0
def tw18055391654832872093:=0
def tw15683500440062029753:=0
def tw13700560145433759857:=0
def tw18143218272956904185:=0
def tw10793867973714502919:=0
def tw11559180429909608272:=0
def tw4565931687847394196:=0
def tw1352324965643837411:=0
def tw15555515834019636103:=0
def tw13759184964597317484:=0
def tw12446724201743305798:=0
def tw10022876482666076873:=0
def tw12193822632314770198:=0
def tw10964391734278812747:=0
def tw17327920321559274405:=0
def tw13839534345114803172:=0
def tw18258027828624611261:=0
def tw16979888734805109654:=0
def tw13373657649839542693:=0
def tw10434480891479882782:=0
def tw1638817282642865188:=0
def tw5194398171164900161:=0
def tw3014233428069993438:=0
def tw5147752561742107557:=0
def tw16601918267060919905:=0
def tw16869306119308097967:=0
def tw8547537651887714850:=0
def tw2913657108527451298:=0
def tw12952735401829237333:=0
def tw3080236204702327904:=0
def tw4429087944179659134:=0
def tw2316054254053127094:=0
def tw7781517900057451107:=0
def tw1506818156070793365:=0
def tw13703032151495738267:=0
def tw15542857184034284961:=0
def tw4555343123939837079:=0
def tw821566832892040260:=0
def tw10992256498084022459:=0
def tw6010378555565339322:=0
def tw17515714049727280510:=0
def tw16362843387006717794:=0
def tw13846096667304291603:=0
def tw8546845354756759358:=0
def tw179322753622434138:=0
def tw11848795069713216332:=0
def tw4563329352117857803:=0
def tw17558222517496520531:=0
def tw1034040400560933208:=0
def tw15143945036097550365:=0
def tw10082627339781732694:=0
def tw8205081570611526842:=0
def tw16732072647007612571:=0
def tw16368016640089335815:=0
def tw15944293376348228543:=0
def tw2943567802664687432:=0
def tw341859733266779181:=0
def tw15565838951699204923:=0
def tw11918576288618050874:=0
def tw17559610109134968376:=0
def tw6273834945635332840:=0
def tw17528420975076226064:=0
def tw10730910916861299617:=0
def tw8777023395507226518:=0
def tw10333344189789459381:=0
def tw12541458667686309091:=0
def tw18002685444384024902:=0
def tw11043111367615972537:=0
def tw11036800476181452267:=0
def tw15051812691063706875:=0
def tw728506715062120021:=0
def tw5818714632712487352:=0
def tw15640771814552101200:=0
def tw9242164113957970035:=0
def tw3317553397162850635:=0
def tw329928312963798981:=0
def tw14097106543909961457:=0
def tw12987571126386522523:=0
def tw7768558075441664345:=0
def tw542899015245877122:=0
def tw13260029476711502441:=0
def tw18262192611536815609:=0
def tw11956481121193679721:=0
def tw6639277945179502255:=0
def tw13049296738107349154:=0
def tw5543440413184206924:=0
def tw12951129743228185921:=0
def tw1629244597607476103:=0
def tw14208276695008608672:=0
def tw17287145170166440917:=0
def tw5131260805989106138:=0
def tw4828146998763854559:=0
def tw10061602446473143404:=0
def tw4312215349025394787:=0
def tw14242030195898723344:=0
def tw7044152392491738092:=0
def tw12546673429929483024:=0
def tw8837672702395216297:=0
def tw4763983078629692099:=0
def tw12123071855129609506:=0
def tw10156047298444659055:=0
def tw11111285407954410532:=0
def tw15875863631073751984:=0
def tw9819249217994208952:=0
def tw319209015177725592:=0
def tw7070310210271067025:=0
def tw6667214066644105548:=0
def tw13285240975237009974:=0
def tw11211216606603111980:=0
def tw3444195371152099777:=0
def tw9876445386562792434:=0
def tw13584073671825094936:=0
def tw5347814159419254475:=0
def tw11339745133253939229:=0
def tw17543624649588233436:=0
def tw6359312673098307389:=0
def tw6178504908213980439:=0
def tw12167113128781915761:=0
def tw384861720619553130:=0
def tw3795140007098865625:=0
def tw16338673811874807273:=0
def tw5065638357425987495:=0
def tw9936654991120821586:=0
def tw4591891256189390057:=0
def tw12205506382580790220:=0
def tw4256384484840637154:=0
def tw14523027928681272702:=0
def tw7955186486205355734:=0
def tw11600421392443154358:=0
def tw704149542652781463:=0
def tw719456938702987026:=0
def tw12562098733626289464:=0
def tw17741918911921314669:=0
def tw1743572692175242082:=0
def tw11816023869384843387:=0
def tw10101949437826163596:=0
def tw17483702010504485553:=0
def tw8667648093203892948:=0
def tw15365713415041977732:=0
def tw16946713686086262886:=0
def tw14722042389314621172:=0
def tw4610531607394955802:=0
def tw3088907908422562569:=0
def tw9698103822401634823:=0
def tw18249572147405683186:=0
def tw17751332459461936168:=0
def tw17606896982267730315:=0
def tw16135952849775836597:=0
def tw9109493477237102595:=0
def tw16838128134542117594:=0
def tw12450701674179025654:=0
def tw18312053474876269770:=0
def tw17396302681887036146:=0
def tw3139989428162184621:=0
def tw17959603859237339371:=0
def tw8073294281158831723:=0
def tw7257701455733476933:=0
def tw8083120224402505026:=0
def tw13358047541629989655:=0
def tw11979467737779430078:=0
def tw10006624215579661366:=0
def tw448725507542723336:=0
def tw5267810389002125547:=0
def tw15020374078032145349:=0
def tw1683127843894348396:=0
def tw702691579536712561:=0
def tw12707429312435092254:=0
def tw920210673946330300:=0
def tw16283181457409909154:=0
def tw11798469221285240621:=0
def tw2760754238613509692:=0
def tw8924799898155453867:=0
def tw2916165015491264962:=0
def tw12356750585574309886:=0
def tw5770769593790337955:=0
def tw14808847014809410042:=0
def tw2440443945161404172:=0
def tw13340034908962598847:=0
def tw17520386235480268728:=0
def tw15226369975699033057:=0
def tw1844413659348552955:=0
def tw14060554062368781222:=0
def tw15258480729368408679:=0
def tw1190562346461298754:=0
def tw14146684292520922686:=0
def tw716308419656800434:=0
def tw11441397065686797039:=0
def tw441207544199488746:=0
def tw4588978622215658066:=0
def tw14879026302988470263:=0
def tw8392373923143044779:=0
def tw13840364718326263817:=0
def tw6736122398007781417:=0
def tw309078221020794912:=0
def tw8179691602639887858:=0
def tw529786578194453711:=0
def tw16985163984491891722:=0
def tw10194795978110254991:=0
def tw16328508518602259287:=0
def tw2580966145846023734:=0
def tw16693398880807296165:=0
def tw1622680631680079842:=0
def tw12054626377528962981:=0
def tw6509687303265636732:=0
def tw1550061417755228630:=0
def tw12231302873297875619:=0
def tw5692084862538168444:=0
def tw16957121937764657489:=0
def tw15125682712047987566:=0
def tw16534830941636018237:=0
def tw10070058806141228862:=0
def tw10610856690209430166:=0
def tw17050103973464773570:=0
def tw9861138285310005668:=0
def tw13674488382743674090:=0
def tw18230428669854546004:=0
def tw14585663199653870906:=0
def tw11741340930576860651:=0
def tw13877775281860802669:=0
def tw8354653981855039596:=0
def tw7005024427232775140:=0
def tw217516180491427168:=0
def tw6571752021262880513:=0
def tw10576725557528948248:=0
def tw11344897180499959924:=0
def tw5825509190655346769:=0
def tw841147790738395845:=0
def tw11589688340487976316:=0
def tw17528956705303584335:=0
def tw679783364928604369:=0
def tw10909318527347425132:=0
def tw16511475968443568344:=0
def tw15107586641298075324:=0
def tw11917512000478860184:=0
def tw1397767668604134359:=0
def tw17894818417373695383:=0
def tw16221542614563172763:=0
def tw7073778734593828381:=0
def tw7290996565994683731:=0
def tw7236849149859826311:=0
def tw7913126887001577845:=0
def tw4886647315777285695:=0
def tw12804557807610248376:=0
def tw13903033080493291349:=0
def tw10304704499774219126:=0
def tw17286164824463462506:=0
def tw3182458386652455359:=0
def tw51593709283128655:=0
def tw4817291530484667451:=0
def tw17813504326644396770:=0
def tw13585278233015466237:=0
def tw6858171793720750561:=0
def tw12179896324037197243:=0
def tw12031006718465623355:=0
def tw4304726458424969777:=0
def tw9300139829886815674:=0
def tw9709385083706730963:=0
def tw6489633514451939240:=0
def tw2334252765417185669:=0
def tw10288565070785718749:=0
def tw4188246270071607846:=0
def tw658244744008997506:=0
def tw6172077454325065810:=0
def tw4888657383236380118:=0
def tw14757882308549202782:=0
def tw13433492798444076248:=0
def tw13262427868475327698:=0
def tw7379480728525380937:=0
def tw11320983508341483159:=0
def tw3850495717845391347:=0
def tw7289055545418169982:=0
def tw1019483251288270968:=0
def tw2438464854303561403:=0
def tw11661679918445876547:=0
def tw8024746956597207275:=0
def tw11948295451266089631:=0
def tw8034159859286595220:=0
def tw7281413196762205856:=0
def tw1207555743441720117:=0
def tw8663253220249774896:=0
def tw17685886571148493170:=0
def tw3958894729527191145:=0
def tw13328870929720921703:=0
def tw10792084111028091072:=0
def tw10057083975213120183:=0
def tw12741231620038524827:=0
def tw15622399883025799727:=0
def tw5723032065699925378:=0
def tw4438478841674219264:=0
def tw17481787187860790798:=0
def tw5316482449855987920:=0
def tw1181658746829572801:=0
def tw11046151844420799612:=0
def tw2740149060603200431:=0
def tw12584891937163578741:=0
def tw7113696482686143374:=0
def tw2232734238100366931:=0
def tw12928484701070581767:=0
def tw4724236510744894416:=0
def tw11066658972906768663:=0
def tw9735255943843528266:=0
def tw12608606427098762531:=0
def tw2922867858535244043:=0
def tw13843124032518532215:=0
def tw10318641339362335788:=0
def tw15549970357192066224:=0
def tw8571216803064042751:=0
def tw2501056519764625969:=0
def tw15385501470358708742:=0
def tw11105827409573640909:=0
def tw16946274837448801805:=0
def tw6416173137506880821:=0
def tw11598646936119976738:=0
def tw3514139501938345830:=0
def tw7246527406830727728:=0
def tw14743543909775773308:=0
def tw4127853353975540819:=0
def tw10189666947265518970:=0
def tw12634462568555844193:=0
def tw16929077136079620477:=0
def tw3908905804487674282:=0
def tw6001989131024623319:=0
def tw17298378342518410853:=0
def tw16179161489554856885:=0
def tw9470493562448015203:=0
def tw15076773934457985776:=0
def tw3395165364977449886:=0
def tw11988178575526499804:=0
def tw1345652522567748287:=0
def tw1435848408496026206:=0
def tw17729758549339375988:=0
def tw9310036448622569338:=0
def tw5605602454939073019:=0
def tw802934184661565402:=0
def tw1219215214008721794:=0
def tw5075954567273589819:=0
def tw336083975548656605:=0
def tw5440361948333404920:=0
def tw17319860114540303205:=0
def tw3863012273293611255:=0
def tw16459874423396505412:=0
end PySem.W.Fast
open PySem PySem.W PyProof.Rows
set_option maxRecDepth 100000 in
set_option maxHeartbeats 0 in
theorem PySem.Challenge.cw_greywalk_k40_run_row_by_row_holds : PySem.Challenge.rw_greywalk_k40_run_row_by_row.Holds := by
 w_on;o_law;k_head;(case hw=>w_witness2)
 k_fill
 refine TJ.walk (l:=PySem.Challenge.rw_greywalk_k40_run_row_by_row) rfl rfl (fun w h Y=>PySem.W.kIn_of Y) ?F
 case F=>
  intro w mg fa h KX G hmg
  refine' TJ.all_mk KX G hmg ?h0 ?h1 ?h2 ?h3 ?h4 ?h5 ?h6 ?h7 ?h8 ?h9 ?h10 ?h11 ?h12 ?h13 ?h14 ?h15 ?h16 ?h17 ?h18 ?h19 ?h20 ?h21 ?h22 ?h23 ?h24 ?h25 ?h26 ?h27 ?h28 ?h29 ?h30 ?h31 ?h32 ?h33 ?h34 ?h35 ?h36 ?h37 ?h38 ?h39 ?h40 ?h41 ?h42 ?h43 ?h44 ?h45 ?h46 ?h47 ?h48 ?h49 ?h50 ?h51 ?h52 ?h53 ?h54 ?h55 ?h56 ?h57 ?h58 ?h59 ?h60 ?h61 ?h62 ?h63 ?h64 ?h65 ?h66 ?h67 ?h68 ?h69 ?h70 ?h71 ?h72 ?h73 ?h74 ?h75 ?h76 ?h77 ?h78 ?h79 ?h80 ?h81 ?h82 ?h83 ?h84 ?h85 ?h86 ?h87 ?h88 ?h89 ?h90 ?h91 ?h92 ?h93 ?h94 ?h95 ?h96 ?h97 ?h98 ?h99 ?h100 ?ZCq ?ZCp ?ZCo ?ZCn ?ZCm ?ZCl ?ZCk ?ZCj ?ZCi ?ZCh ?ZCg ?ZCf ?ZCe ?ZCd ?ZCc ?ZCb ?ZCa ?ZC9 ?ZC8 ?ZC7 ?ZC6 ?ZC5 ?ZC4 ?ZC3 ?ZC2 ?ZC1 ?ZC0 ?ZBz ?ZBy ?ZBx ?ZBw ?ZBv ?ZBu ?ZBt ?ZBs ?ZBr ?ZBq ?ZBp ?ZBo ?ZBn ?ZBm ?ZBl ?ZBk ?ZBj ?ZBi ?ZBh ?ZBg ?ZBf ?ZBe ?ZBd ?ZBc ?ZBb ?ZBa ?ZB9 ?ZB8 ?ZB7 ?ZB6 ?ZB5 ?ZB4 ?ZB3 ?ZB2 ?ZB1 ?ZB0 ?ZAz ?ZAy ?ZAx ?ZAw ?ZAv ?ZAu ?ZAt ?ZAs ?ZAr ?ZAq ?ZAp ?ZAo ?ZAn ?ZAm ?ZAl ?ZAk ?ZAj ?ZAi ?ZAh ?ZAg ?ZAf ?ZAe ?ZAd ?ZAc ?ZAb ?ZAa ?ZA9 ?ZA8 ?ZA6 ?ZA5 ?ZA4 ?ZA3 ?ZA2 ?ZA1 ?ZA0 ?Zzz ?Zzy ?Zzx ?Zzw ?Zzv ?Zzu ?Zzt ?Zzs ?Zzr ?Zzq ?Zzp ?Zzo ?Zzn ?Zzm ?Zzl ?Zzk ?Zzj ?Zzi ?Zzh ?Zzg ?Zzf ?Zze ?Zzd ?Zzc ?Zzb ?Zza ?Zz9 ?Zz8 ?Zz7 ?Zz6 ?Zz5 ?Zz4 ?Zz3 ?Zz2 ?Zz1 ?Zz0 ?Zyz ?Zyy ?Zyx ?Zyw ?Zyv ?Zyu ?Zyt ?Zys ?Zyr ?Zyq ?Zyp ?Zyo ?Zyn ?Zym ?Zyl
  case h0 | h1 | h2 | h3 | h4 | h5 | h6 | h7 | h8 | h9 | h10 | h11 | h12 | h13 | h14=>(show _=_;k_is)
  case h15 | h16 | h17 | h18=>(refine' TJ.mtm ?a ?i ?l ?c ?k;case a | i | l | c | k=>(show _=_;k_is))
  case h19 | h20 | h21 | h22=>(show _=_;k_is)
  case h23 | h24=>first | exact rfl | exact ⟨_,rfl⟩
  case h25 | h26=>(show _=_;k_is)
  case h27 | h28 | h29 | h30=>(refine' TJ.mtm ?a ?i ?l ?c ?k;case a | i | l | c | k=>(show _=_;k_is))
  case h31 | h32 | h33=>(refine' TJ.fam ?a ?l ?c ?k;case a | l | c | k=>(show _=_;k_is))
  case h34 | h35 | h36 | h37 | h38 | h39 | h40 | h41 | h42 | h43 | h44=>(refine' TJ.mtm ?a ?i ?l ?c ?k;case a | i | l | c | k=>(show _=_;k_is))
  case h45 | h46 | h47 | h48 | h49 | h50 | h51 | h52 | h53 | h54 | h55 | h56 | h57 | h58 | h59 | h60 | h61 | h62 | h63 | h64 | h65 | h66 | h67 | h68 | h69 | h70 | h71 | h72=>(refine' TJ.fam ?a ?l ?c ?k;case a | l | c | k=>(show _=_;k_is))
  case h73=>(refine' TJ.mtm ?a ?i ?l ?c ?k;case a | i | l | c | k=>(show _=_;k_is))
  case h74 | h75 | h76 | h77 | h78 | h79 | h80 | h81 | h82 | h83 | h84 | h85 | h86 | h87 | h88 | h89 | h90 | h91 | h92 | h93 | h94 | h95 | h96=>(refine' TJ.fam ?a ?l ?c ?k;case a | l | c | k=>(show _=_;k_is))
  case h97 | h98 | h99=>(show _=_;k_is)
  case h100=>first | exact rfl | exact ⟨_,rfl⟩
  case ZCq | ZCp=>(show _=_;k_is)
  case ZCo | ZCn | ZCm | ZCl | ZCk | ZCj | ZCi | ZCh | ZCg | ZCf | ZCe | ZCd | ZCc | ZCb | ZCa | ZC9 | ZC8 | ZC7 | ZC6 | ZC5 | ZC4=>(refine' TJ.fam ?a ?l ?c ?k;case a | l | c | k=>(show _=_;k_is))
  case ZC3 | ZC2 | ZC1 | ZC0 | ZBz | ZBy=>(show _=_;k_is)
  case ZBx | ZBw | ZBv | ZBu | ZBt | ZBs | ZBr | ZBq | ZBp | ZBo=>exact rfl
  case ZBn | ZBm=>(show _=_;k_is)
  case ZBl | ZBk | ZBj | ZBi=>exact rfl
  case ZBh=>(refine' TJ.cam ?a ?b ?c ?d ?e ?f;case a | b | c | d | e | f=>(show _=_;k_is))
  case ZBg | ZBf | ZBe | ZBd | ZBc | ZBb | ZBa=>(show _=_;k_is)
  case ZB9=>(refine' TJ.cam ?a ?b ?c ?d ?e ?f;case a | b | c | d | e | f=>(show _=_;k_is))
  case ZB8 | ZB7 | ZB6 | ZB5=>(show _=_;k_is)
  case ZB4=>(refine' TJ.cam ?a ?b ?c ?d ?e ?f;case a | b | c | d | e | f=>(show _=_;k_is))
  case ZB3=>(show _=_;k_is)
  case ZB2=>(refine' TJ.cam ?a ?b ?c ?d ?e ?f;case a | b | c | d | e | f=>(show _=_;k_is))
  case ZB1=>(show _=_;k_is)
  case ZB0=>(refine' TJ.cam ?a ?b ?c ?d ?e ?f;case a | b | c | d | e | f=>(show _=_;k_is))
  case ZAz=>(show _=_;k_is)
  case ZAy=>(refine' TJ.cam ?a ?b ?c ?d ?e ?f;case a | b | c | d | e | f=>(show _=_;k_is))
  case ZAx | ZAw=>(show _=_;k_is)
  case ZAv=>(refine' TJ.cam ?a ?b ?c ?d ?e ?f;case a | b | c | d | e | f=>(show _=_;k_is))
  case ZAu | ZAt=>(show _=_;k_is)
  case ZAs=>(refine' TJ.cam ?a ?b ?c ?d ?e ?f;case a | b | c | d | e | f=>(show _=_;k_is))
  case ZAr | ZAq | ZAp | ZAo | ZAn | ZAm | ZAl | ZAk | ZAj | ZAi | ZAh=>(show _=_;k_is)
  case ZAg=>(refine' TJ.cam ?a ?b ?c ?d ?e ?f;case a | b | c | d | e | f=>(show _=_;k_is))
  case ZAf | ZAe | ZAd | ZAc | ZAb=>(show _=_;k_is)
  case ZAa=>(refine' TJ.cam ?a ?b ?c ?d ?e ?f;case a | b | c | d | e | f=>(show _=_;k_is))
  case ZA9 | ZA8 | ZA6 | ZA5=>(show _=_;k_is)
  case ZA4 | ZA3 | ZA2 | ZA1=>k_exc
  case ZA0 | Zzz | Zzy | Zzx | Zzw | Zzv | Zzu | Zzt | Zzs | Zzr | Zzq | Zzp | Zzo | Zzn=>kts_exm
  case Zzm | Zzl | Zzk | Zzj=>(refine' TJ.exm ?a ?b ?c ?d ?e ?f;case a | b | c | d | e | f=>(show _=_;k_is))
  case Zzi | Zzh | Zzg | Zzf | Zze | Zzd | Zzc | Zzb | Zza | Zz9 | Zz8 | Zz7 | Zz6=>(show _=_;k_is)
  case Zz5=>first | exact rfl | exact ⟨_,rfl⟩
  case Zz4=>(show _=_;k_is)
  case Zz3=>first | exact rfl | exact ⟨_,rfl⟩
  case Zz2=>(show _=_;k_is)
  case Zz1=>first | exact rfl | exact ⟨_,rfl⟩
  case Zz0 | Zyz | Zyy | Zyx | Zyw | Zyv | Zyu | Zyt | Zys | Zyr | Zyq | Zyp | Zyo | Zyn | Zym | Zyl=>kit_is
#print axioms PySem.Challenge.cw_greywalk_k40_run_row_by_row_holds
