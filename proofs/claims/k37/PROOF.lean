import PyProof.Rows.All
import Wide.All
import OpenK.AllK
import Wide.FinOn
import Lean
import PyProof.EqAt
import PyProof.EqKinds
import PyProof.TupleCall
import KE.KItemsList
import KE.KDictList
import PyProof.Rows.StrSplitAre
import PyProof.Rows.StrWeight2
import PyProof.StrLawsTight
import PyProof.Rows.StrItems
import PyProof.Rows.ReprOcc
import PyProof.ZipIter
import PyProof.Rows.FactsT2
import PyProof.Rows.FStrParts
import PyProof.StrReplace2
import PyProof.Rows.StrNews2
import PyProof.ToksMono
import PyProof.FitsReplace
import PyProof.InstStoreFacts
import PyProof.Conv_int_bool
import PySem.Challenge.RW_greywalk_k37_texts_refused
set_option Elab.async false
set_option linter.all false
set_option compiler.extract_closed false
set_option maxRecDepth 100000
set_option hygiene false
local macro_rules|`(γ)=>`(by decide +kernel)
local macro_rules|`(δ)=>`(by omega)
local macro_rules|`(ε)=>`(by decide)
local macro_rules|`(ζ)=>`(by simp)
local macro_rules|`(η)=>`(by rfl)
local macro_rules|`(↑$x)=>`(some (.ref $x))
local macro_rules|`(ι $x*)=>`(Hh P w K mg base $x*)
local macro_rules|`(μ $x*)=>`(qm P w K mg base $x*)
local macro_rules|`(ν)=>`(St->Hp->Prop)
local macro_rules|`(ξ)=>`(⟨n,Q,bk,ct⟩)
local macro_rules|`(ο)=>`(rI (λ_ j=>0<j) λi j=>.int (i % j))
local macro_rules|`(π)=>`(Str×Int)
local macro_rules|`(ρ)=>`(ir λi j=>.int (i+j))
local macro_rules|`(ς)=>`(model X.prog X.w)
local macro_rules|`(τ)=>`(rI lq λi j=>.int (i / j))
local macro_rules|`(υ)=>`(tC (.int 1))
local macro_rules|`(χ)=>`(Nat.le_refl _)
local macro_rules|`(ω)=>`(tC (.int 0))
local macro_rules|`(Γ)=>`(ak 0)
local macro_rules|`(Δ)=>`(ak 1)
local macro_rules|`(Θ)=>`(pv 0)
local macro_rules|`(Ξ)=>`(model prog w)
local macro_rules|`(Φ)=>`(cZ ((qp (bJ (aN (lH) (aN (jf K) Γ ω) (tC (.str "write")))) (bJ (aN (lH) Δ (tC (.int 3)))))) (cC (mH (G.xH) (aj (aN ρ (aN (rI FT λi j=>.int (i ^ j.toNat)) (tC (.int 10)) (tC (.int 60))) (aN ο (ak 2) (aN (rI FT λi j=>.int (i ^ j.toNat)) (tC (.int 10)) (tC (.int 60))))) aM))) bV)
local macro_rules|`(Ψ)=>`(rI G.lQ λi j=>.int (i * j))
local macro_rules|`(Ω)=>`(pv 1)
local macro_rules|`(ac)=>`(σ2.set i none)
local macro_rules|`(ad)=>`(λ_=>?_)
local macro_rules|`(ag)=>`(Txt.split r iD)
local macro_rules|`(ah)=>`(aN (G.dN) (aN (G.dN) (aN (fM K) Δ ω) (aN (fM K) (gY (aj (tC (.str "A")) (aj (tC (.str "1")) (aj (tC (.str "-")) (aj (tC (.str ".")) aM))))) (aN ο (ak 3) (tC (.int 4))))) (RG (G.W3) (ak 5) (mF (mH (G.We) (aj (aN (fM K) Δ ω) aM))) gR))
local macro_rules|`(ai)=>`(λ_ _ _ _ _ _ _ _ I h0 hn he hc hd hf h1 hE=>G.BL I h0 hn he hc hd hf h1 hE)
local macro_rules|`(am)=>`(W.fnOf x qual (lA st) (je st) (aR st) .none kV doc pm an cdv ct)
local macro_rules|`(ar)=>`(s.heap.objs.size+1)
local macro_rules|`(av)=>`(tC (.int 2))
abbrev Ap:=PySem.Value->PySem.Shared->Prop
abbrev As:=PySem.Str->Option PySem.Value
abbrev Au:=List (PySem.Addr×PySem.Obj)
abbrev AB:=Option Int
abbrev AC:=Option PySem.Value
abbrev AE:=List PySem.Value
abbrev AF:=List Int
abbrev AG:=List PySem.Addr
abbrev AH:=List PySem.Expr
abbrev AI:=List PySem.Str
abbrev AJ:=PySem.Addr
abbrev AK:=PySem.Value
abbrev AL:=PySem.Shared
abbrev AM:=PySem.FuncData
abbrev AN:=PySem.Program
abbrev AO:=PySem.Expr
abbrev AQ:=PySem.World
abbrev aK:=PySem.W.Frag
theorem dF{α:Type}{l:List α}{i:Nat}(h:i<l.length):l[i]? =some l[i]:=List.getElem?_eq_getElem h
theorem iB{α:Type}{l:List α}{i:Nat}{a:α}(h:l[i]? =some a):∃h:i<l.length,l[i]=a:=List.getElem?_eq_some_iff.mp h
theorem fY{α β:Type}{f:α->β}{l:List α}{i:Nat}:(l.map f)[i]? =l[i]?.map f:=List.getElem?_map
theorem bF{α β:Type}{l:List α}(f:α->β):(l.map f).length=l.length:=List.length_map f
namespace L2
open PySem PySem.Spec PyProof.Rows
abbrev Key:=Sum Int Str
def VD:Key->AK->Bool
 | .inl k,v=>Value.isInt k v
 | .inr x,v=>Value.isStrOf x v
def Zww(w:AQ):Key->Int
 | .inl k=>hashInt k
 | .inr x=>hashStr w x
theorem jq:∀{k:Key}{v:AK},VD k v=true->(∃i t,k=Sum.inl i/\v=Value.int i t)\/(∃x t,k=Sum.inr x/\v=Value.str x t)
 | .inl i,v,h=>by
  obtain⟨t,e⟩:=Value.isInt_shape (k:=i) (v:=v) h;exact .inl ⟨i,t,rfl,e⟩
 | .inr x,v,h=>by
  obtain⟨t,e⟩:=Value.isStrOf_shape (x:=x) (v:=v) h;exact .inr ⟨x,t,rfl,e⟩
theorem Zhr(i:Int)(t:Tok):VD (.inl i) (.int i t)=true:=by simp[VD,Value.isInt]
theorem Zhq(x:Str)(t:Tok):VD (.inr x) (.str x t)=true:=by simp[VD,Value.isStrOf]
theorem Zsm(a b:Int):decide ((Sum.inl a:Key)=Sum.inl b)=(a == b):=by
 by_cases e:a=b
 ·subst e;simp
 ·have h:¬ (Sum.inl a:Key)=Sum.inl b:=λq=>e (Sum.inl.inj q);rw[decide_eq_false h];exact(beq_eq_false_iff_ne.mpr e).symm
theorem Zsj(a b:Str):decide ((Sum.inr a:Key)=Sum.inr b)=decide (a=b):=by
 by_cases e:a=b
 ·subst e;simp
 ·have h:¬ (Sum.inr a:Key)=Sum.inr b:=λq=>e (Sum.inr.inj q);rw[decide_eq_false h,decide_eq_false e]
theorem Zsl(a:Int)(b:Str):decide ((Sum.inl a:Key)=Sum.inr b)=false:=decide_eq_false (λq=>nomatch q)
theorem Zsk(a:Str)(b:Int):decide ((Sum.inr a:Key)=Sum.inl b)=false:=decide_eq_false (λq=>nomatch q)
def jT(prog:AN)(w:AQ):PySem.KeyKind prog w Key where
  is:=VD
  hash:=Zww w
  inj:=λv a b ha hb=>by
    rcases jq ha with ⟨i,t,rfl,rfl⟩ | ⟨x,t,rfl,rfl⟩
    · rcases jq hb with ⟨j,u,rfl,e⟩ | ⟨y,u,rfl,e⟩
      · injection e with e1 _;rw[e1]
      · exact nomatch e
    · rcases jq hb with ⟨j,u,rfl,e⟩ | ⟨y,u,rfl,e⟩
      · exact nomatch e
      · injection e with e1 _;rw[e1]
  byValue:=λk v h=>by
    rcases jq h with ⟨i,t,rfl,rfl⟩ | ⟨x,t,rfl,rfl⟩<;>rfl
  pyHash:=λhv h=>by
    rcases jq hv with ⟨i,t,rfl,rfl⟩ | ⟨x,t,rfl,rfl⟩
    · exact wpAny_pyHash_int h
    · exact wpAny_pyHash_str h
  eqBool:=λhu hv h=>by
    rcases jq hu with ⟨i,t,rfl,rfl⟩ | ⟨x,t,rfl,rfl⟩
    · rcases jq hv with ⟨j,u,rfl,rfl⟩ | ⟨y,u,rfl,rfl⟩
      · rw[Zsm]at h;exact wpAny_eqBool_int h
      · rw[Zsl]at h;exact SeqAt.EqAt.int_str i t y u _ _ _ _ h
    · rcases jq hv with ⟨j,u,rfl,rfl⟩ | ⟨y,u,rfl,rfl⟩
      · rw[Zsk]at h;exact SeqAt.EqAt.str_int x t j u _ _ _ _ h
      · rw[Zsj]at h;exact wpAny_eqBool_str h
  «strs»:=λk x t v h=>by
    rcases jq h with ⟨i,u,rfl,e⟩ | ⟨y,u,rfl,e⟩
    · exact nomatch e
    · injection e with e1 _
      subst e1;cases v<;>rfl
theorem Za8(prog:AN)(w:AQ)(i:Int)(t:Tok):(jT prog w).is (.inl i) (.int i t)=true:=Zhr i t
theorem Za7(prog:AN)(w:AQ)(x:Str)(t:Tok):(jT prog w).is (.inr x) (.str x t)=true:=Zhq x t
inductive V where
 | non | bl (b:Bool) | int (i:Int) | str (x:Str) | byt (b:Array UInt8) | flt (b:UInt64) | ref (a:AJ) | ty (n:String)
 deriving DecidableEq
def RelV:V->AK->Prop
 | .non,u=>u=Value.none
 | .bl b,u=>u=Value.bool b
 | .int i,u=>∃t,u=Value.int i t
 | .str x,u=>∃t,u=Value.str x t
 | .byt b,u=>∃t,u=Value.bytes b t
 | .flt b,u=>∃t,u=Value.float b t
 | .ref a,u=>u=Value.ref a
 | .ty n,u=>u=Value.type n
abbrev Vals:List V->AE->Prop:=Paired RelV
theorem Vals.length{xs:List V}{us:AE}(r:Vals xs us):xs.length=us.length:=Paired.length r
theorem Vals.get:∀{xs:List V}{us:AE}{i:Nat}{x:V},Vals xs us->xs[i]? =some x->∃u,us[i]? =some u/\RelV x u
 | _,_,_,_,.nil,e=>by simp at e
 | _,_,0,_,.cons r _,e=>by simp at e;subst e;exact⟨_,rfl,r⟩
 | _,_,i+1,x,.cons _ t,e=>by
  obtain⟨u,h1,h2⟩:=Vals.get (i:=i) (x:=x) t (by simpa using e);exact⟨u,by simpa using h1,h2⟩
theorem Vals.set{x:V}{u:AK}(r:RelV x u):∀{xs:List V}{us:AE} (i:Nat),Vals xs us->Vals (xs.set i x) (us.set i u)
 | _,_,_,.nil=>.nil
 | _,_,0,.cons _ t=>.cons r t
 | _,_,i+1,.cons q t=>.cons q (Vals.set r i t)
theorem Vals.append:∀{xs ys:List V}{us ws:AE},Vals xs us->Vals ys ws->Vals (xs++ys) (us++ws)
 | _,_,_,_,.nil,s=>s
 | _,_,_,_,.cons r t,s=>.cons r (Vals.append t s)
theorem Vals.take:∀{xs:List V}{us:AE} (n:Nat),Vals xs us->Vals (xs.take n) (us.take n)
 | _,_,0,_=>.nil
 | _,_,_+1,.nil=>.nil
 | _,_,n+1,.cons r t=>.cons r (Vals.take n t)
theorem Vals.drop:∀{xs:List V}{us:AE} (n:Nat),Vals xs us->Vals (xs.drop n) (us.drop n)
 | _,_,0,r=>r
 | _,_,_+1,.nil=>.nil
 | _,_,n+1,.cons _ t=>Vals.drop n t
def wY:Option V->AC->Prop
 | some v,some u=>RelV v u
 | none,none=>True
 | _,_=>False
def KV{κ:Type}:List (κ×V)->List (κ×AK)->Prop:=Paired λ(p:κ×V) (q:κ×AK)=>p.1=q.1/\RelV p.2 q.2
def kV:Key->V
 | .inl i=>.int i
 | .inr x=>.str x
inductive HO where
  | lst (xs:List V)
  | tup (xs:List V)
  | dK (kvs:List (Key×V)) | dT (kvs:List (List Key×V))
  | set (S:Int->Bool) (n:Nat)
  | ins (C dx:AJ) (fs:List (Str×V))
  | own (x:AJ)
  | xd (fs:List (Str×V))
  | met (f x:AJ)
  | rng (lo hi:Int)
  | Y9 (o:Obj) (u:HO)
  | uE (ps:Array AK)
  | ext (φ:Heap->Prop)
abbrev Hp:=AJ->Option HO
def upd(H:Hp)(a:AJ)(o:HO):Hp:=λb=>if b=a then some o else H b
theorem az{H:Hp}{a:AJ}{o:HO}:upd H a o a=some o:=by unfold upd;rw[if_pos rfl]
theorem aQ{H:Hp}{a b:AJ}{o:HO}(h:b≠a):upd H a o b=H b:=by unfold upd;rw[if_neg h]
theorem Wn{H:Hp}{a:AJ}{o u:HO}:upd (upd H a o) a u=upd H a u:=by
 funext b;unfold upd;split<;>rfl
theorem Zuo{H:Hp}{a b:AJ}{o u:HO}(h:H a=some o)(h':H b=some u)(d:o≠u):a≠b:=by
 intro e;subst e;rw[h]at h';exact d (Option.some.inj h')
theorem bI{H:Hp}{a b:AJ}{o:HO}(h:H a=some o)(h':H b=none):a≠b:=by
 intro e;subst e;rw[h]at h';cases h'
section
variable (P:AN)(w:AQ)
def jc(H:Hp)(h:Heap)(a:AJ):HO->Prop
 | .lst xs=>xs.length<=sizeLine/\∃(its:AE) (n:Nat),Vals xs its/\h.get? a=some { cls:=.type "list",data:=.seq its.toArray n }
 | .tup xs=>xs.length<=sizeLine/\∃its:AE,Vals xs its/\IsTup h a its.toArray
 | .dK kvs=>kvs.length<=sizeLine/\(a == sysModules)=false/\∃vs,KV kvs vs/\h.DictOf (jT P w) a vs
 | .dT kvs=>kvs.length<=sizeLine/\(a == sysModules)=false/\∃xs:List (List Key×AJ×AK),
   Paired (λ(p:List Key×V) (q:List Key×AJ×AK)=>p.1=q.1/\H q.2.1=some (.tup (p.1.map kV))/\RelV p.2 q.2.2) kvs xs/\
   ∃o es ep,h.get? a=some o/\o.ExactDict/\o.data=.dict es ep/\es.toList=xs.map (entryOfKey (tupleKind (jT P w)))/\(xs.map (·.1)).Nodup
 | .set S n=>h.SetOf (intKind P w) a S n
 | .ins C dx fs=>H dx=some (.own a)/\fs.length<=1000/\dx≠a/\h.get? a=some (W.instObj C dx)/\
   ∃mA,h.Ns1 dx mA/\(∀f,wY (fs.lookup f) (mA f))/\PySem.Within mA (fs.map (·.1))
 | .own _=>∃o,h.get? a=some o
 | .xd fs=>∃mA,h.Ns1 a mA/\∀f,wY (fs.lookup f) (mA f)
 | .rng lo hi=>∃t u v,h.get? a=some { cls:=.type "range",data:=.fields #[.int lo t,.int hi u,.int 1 v] }
 | .Y9 o u=>h.get? a=some o/\jc H h a u
 | .uE ps=>h.get? a=some { cls:=.none,data:=.fields ps }
 | .met f x=>h.get? a=some (W.methodObj (.ref f) (.ref x))
 | .ext φ=>φ h/\(∃o,h.get? a=some o)/\∀h1 h2:Heap,φ h1->(∀o,h1.get? a=some o->h2.get? a=some o)->φ h2
def oM(H:Hp)(h:Heap):Prop:=∀a o,H a=some o->jc P w H h a o
end
section
variable {P:AN}{w:AQ}{H H':Hp}{h h':Heap}{a:AJ}{o:HO}
theorem jc.lt(x:jc P w H h a o):a<h.objs.size:=by
 cases o with
 | lst xs=>obtain⟨_,_,_,_,e⟩:=x;exact Heap.lt_size e
 | tup xs=>obtain⟨_,_,_,p⟩:=x;exact p.lt
 | dK kvs=>obtain⟨_,_,_,_,o,_,_,e,_⟩:=x;exact Heap.lt_size e
 | dT kvs=>obtain⟨_,_,_,_,o,_,_,e,_⟩:=x;exact Heap.lt_size e
 | set S n=>obtain⟨o,_,_,_,e,_⟩:=x;exact Heap.lt_size e
 | ins C dx fs=>obtain⟨_,_,_,e,_⟩:=x;exact Heap.lt_size e
 | own y=>obtain⟨_,e⟩:=x;exact Heap.lt_size e
 | xd fs=>obtain⟨_,⟨_,_,_,e,_⟩,_⟩:=x;exact Heap.lt_size e
 | rng lo hi=>obtain⟨_,_,_,e⟩:=x;exact Heap.lt_size e
 | Y9 ob u=>obtain⟨e,_⟩:=x;exact Heap.lt_size e
 | uE ps=>exact Heap.lt_size (show h.get? a=some _ from x)
 | met f y=>exact Heap.lt_size (show h.get? a=some _ from x)
 | ext φ=>obtain⟨_,⟨_,e⟩,_⟩:=x;exact Heap.lt_size e
theorem Paired.Zs9{α β:Type}{F G:α->β->Prop}:∀{l₁:List α}{l₂:List β},Paired F l₁ l₂->(∀a b,F a b->G a b)->Paired G l₁ l₂
 | _,_,.nil,_=>.nil
 | _,_,.cons r t,f=>.cons (f _ _ r) (Paired.Zs9 t f)
theorem jc.stay(x:jc P w H h a o)(k:∀b u,(b=a\/H b=some (.own a))->h.get? b=some u->h'.get? b=some u)
  (ho:∀b,H b=some (.own a)->H' b=some (.own a)) (ht:∀b xs,H b=some (.tup xs)->H' b=some (.tup xs)):jc P w H' h' a o:=by
 induction o with
 | lst xs=>obtain⟨z,its,n,r,e⟩:=x;exact⟨z,its,n,r,k _ _ (.inl rfl) e⟩
 | tup xs=>obtain⟨z,its,r,ob,e,c⟩:=x;exact⟨z,its,r,ob,k _ _ (.inl rfl) e,c⟩
 | dK kvs=>obtain⟨z,y,vs,r,ob,es,ep,e,c⟩:=x;exact⟨z,y,vs,r,ob,es,ep,k _ _ (.inl rfl) e,c⟩
 | dT kvs=>
  obtain⟨z,y,xs,r,ob,es,ep,e,c⟩:=x;exact⟨z,y,xs,Paired.Zs9 r λp q z=>⟨z.1,ht _ _ z.2.1,z.2.2⟩,ob,es,ep,k _ _ (.inl rfl) e,c⟩
 | set S n=>obtain⟨ob,es,ep,t,e,c⟩:=x;exact⟨ob,es,ep,t,k _ _ (.inl rfl) e,c⟩
 | ins C dx fs=>
  obtain⟨d,z,ne,e,mA,⟨od,es,ep,e2,c⟩,r⟩:=x;exact⟨ho _ d,z,ne,k _ _ (.inl rfl) e,mA,⟨od,es,ep,k _ _ (.inr d) e2,c⟩,r⟩
 | own y=>obtain⟨ob,e⟩:=x;exact⟨ob,k _ _ (.inl rfl) e⟩
 | xd fs=>obtain⟨mA,⟨od,es,ep,e,c⟩,r⟩:=x;exact⟨mA,⟨od,es,ep,k _ _ (.inl rfl) e,c⟩,r⟩
 | rng lo hi=>obtain⟨t,u,v,e⟩:=x;exact⟨t,u,v,k _ _ (.inl rfl) e⟩
 | Y9 ob u ih=>obtain⟨e,q⟩:=x;exact⟨k _ _ (.inl rfl) e,ih q⟩
 | uE ps=>
  have e:h.get? a=some { cls:=.none,data:=.fields ps }:=x;show h'.get? a=some { cls:=.none,data:=.fields ps };exact k a _ (.inl rfl) e
 | met f y=>
  have e:h.get? a=some (W.methodObj (.ref f) (.ref y)):=x;show h'.get? a=some (W.methodObj (.ref f) (.ref y));exact k a _ (.inl rfl) e
 | ext φ=>obtain⟨p,⟨o,e⟩,st⟩:=x;exact⟨st _ _ p λo q=>k _ _ (.inl rfl) q,⟨o,k _ _ (.inl rfl) e⟩,st⟩
theorem oM.lt(x:oM P w H h)(e:H a=some o):a<h.objs.size:=(x a o e).lt
theorem oM.fresh(x:oM P w H h)(e:h.objs.size<=a):H a=none:=by
 cases q:H a with
 | none=>rfl
 | some u=>exact absurd (Nat.lt_of_lt_of_le (x.lt q) e) (Nat.lt_irrefl _)
theorem oM.kept(x:oM P w H h)(k:∀b u,h.get? b=some u->h'.get? b=some u):oM P w H h':=λa o e=>
 (x a o e).stay (λb u _ q=>k b u q) (λ_ q=>q) λ_ _ q=>q
theorem oM.laid(x:oM P w H h)(k:∀b u,h.get? b=some u->h'.get? b=some u)(hp:h.objs.size<=a)(new:jc P w (upd H a o) h' a o):oM P w (upd H a o) h':=λb u e=>by
 have hn:=x.fresh hp
 by_cases hb:b=a
 ·subst hb;rw[az]at e;cases e;exact new
 ·rw[aQ hb]at e;exact(x b u e).stay (λc v _ q=>k c v q) (λc q=>by rw[aQ (bI q hn)];exact q) λc xs q=>by rw[aQ (bI q hn)];exact q
end
def Rd(H:Hp)(a:AJ)(u:HO):Prop:=H a=some u\/∃o,H a=some (.Y9 o u)
theorem Rd.ok{P:AN}{w:AQ}{H:Hp}{h:Heap}{a:AJ}{u:HO}(r:Rd H a u)(x:oM P w H h):jc P w H h a u:=by
 rcases r with r | ⟨o,r⟩
 ·exact x a u r
 ·obtain⟨_,q⟩:=x a _ r;exact q
def Mut:Option HO->Prop
 | some (.lst _)=>True
 | some (.dK _)=>True
 | some (.dT _)=>True
 | some (.set _ _)=>True
 | some (.ins _ _ _)=>True
 | some (.ext _)=>True
 | _=>False
section
variable {P:AN}{w:AQ}{H:Hp}{h h':Heap}{x e:AJ}{o':HO}
theorem oM.write(ok:oM P w H h)(mu:Mut (H x))(he:e=x\/H e=some (.own x))(k:∀b u,b≠e->h.get? b=some u->h'.get? b=some u)(heo:∃u,h'.get? e=some u)
  (new:jc P w (upd H x o') h' x o'):oM P w (upd H x o') h':=λb u q=>by
 have Zun:∀c y,H c=some (.own y)->c≠x:=λc y r z=>by subst z;rw[r]at mu;exact mu
 have Zwo:∀c xs,H c=some (.tup xs)->c≠x:=λc xs r z=>by subst z;rw[r]at mu;exact mu
 by_cases hb:b=x
 ·subst hb;rw[az]at q;cases q;exact new
 ·rw[aQ hb]at q
  by_cases hbe:b=e
  ·have q':H b=some (.own x):=by
    rcases he with z | z
    ·exact absurd (hbe.trans z) hb
    ·rw[hbe];exact z
   rw[q]at q';cases q';obtain⟨v,hv⟩:=heo;exact⟨v,by rw[hbe];exact hv⟩
  ·refine(ok b u q).stay (λc v hc r=>k c v ?_ r) (λc r=>by rw[aQ (Zun c b r)];exact r) λc xs r=>by rw[aQ (Zwo c xs r)];exact r
   rcases hc with rfl | hc
   ·exact hbe
   ·rintro rfl;rcases he with z | z
    ·exact Zun c b hc z
    ·rw[hc]at z;cases z;exact hb rfl
end
structure Un(fs ex:AG)(H H':Hp)(h h':Heap):Prop where
 keep:∀b o,h.get? b=some o->H b=none->b∉fs->b∉ex->h'.get? b=some o
 slot:∀b o,h.get? b=some o->H b=none->b∈fs->b∉ex->∃sl,h'.get? b=some { o with slots:=sl }
 free:∀b o,h.get? b=some o->H b=none->b∉ex->H' b=none
 there:∀b o,h.get? b=some o->b∉ex->∃o',h'.get? b=some o'
 tups:∀b xs,H b=some (.tup xs)->H' b=some (.tup xs)
 yW:∀b o u,H b=some (.Y9 o u)->H' b=some (.Y9 o u)
 Bh:∀b ps,H b=some (.uE ps)->∃more,H' b=some (.uE (ps++more))
section
variable {fs fs' ex ex':AG}{H H1 H2:Hp}{h h1 h2 h':Heap}{a x e:AJ}{o:HO}
theorem Un.any(u:Un fs ex H H1 h h1){b:AJ}{ob:Obj}(q:h.get? b=some ob)(n:H b=none)(hx:b∉ex):∃sl,h1.get? b=some { ob with slots:=sl }:=by
 by_cases hb:b∈fs
 ·exact u.slot b ob q n hb hx
 ·exact⟨ob.slots,u.keep b ob q n hb hx⟩
theorem Un.kept(k:∀b u,h.get? b=some u->h'.get? b=some u):Un fs ex H H h h':=
 ⟨λb ob q _ _ _=>k b ob q,λb ob q _ _ _=>⟨ob.slots,k b ob q⟩,λ_ _ _ n _=>n,λb ob q _=>⟨ob,k b ob q⟩,λ_ _ q=>q,λ_ _ _ q=>q,λ_ ps q=>⟨#[],by rw[q];simp⟩⟩
theorem Un.refl:Un fs ex H H h h:=Un.kept λ_ _ q=>q
theorem Un.laid(k:∀b u,h.get? b=some u->h'.get? b=some u)(hp:h.objs.size<=a)(hn:H a=none):Un fs ex H (upd H a o) h h' where
 keep:=λb u q _ _ _=>k b u q
 slot:=λb u q _ _ _=>⟨u.slots,k b u q⟩
 free:=λb u q n _=>by rw[aQ (Nat.ne_of_lt (Nat.lt_of_lt_of_le (Heap.lt_size q) hp))];exact n
 there:=λb u q _=>⟨u,k b u q⟩
 tups:=λb xs q=>by rw[aQ (bI q hn)];exact q
 yW:=λb u xs q=>by rw[aQ (bI q hn)];exact q
 Bh:=λb ps q=>⟨#[],by rw[aQ (bI q hn),q];simp⟩
theorem Un.write(mu:Mut (H x))(he:e=x\/H e=some (.own x))(k:∀b u,b≠e->h.get? b=some u->h'.get? b=some u)(heo:∃u,h'.get? e=some u):Un fs ex H (upd H x o) h h':=by
 have hx:∀b,H b=none->b≠x:=λb n z=>by subst z;rw[n]at mu;exact mu
 have hb:∀b,H b=none->b≠e:=λb n z=>by
  subst z;rcases he with r | r
  ·exact hx b n r
  ·rw[n]at r;cases r
 have hm:∀b u,H b=some u->¬ Mut (some u)->b≠x:=λb u q nm z=>by subst z;rw[q]at mu;exact nm mu
 refine⟨λb u q n _ _=>k b u (hb b n) q,λb u q n _ _=>⟨u.slots,k b u (hb b n) q⟩,λb u q n _=>by rw[aQ (hx b n)];exact n,λb u q _=>?_,
  λb xs q=>by rw[aQ (hm b _ q λz=>z)];exact q,λb u xs q=>by rw[aQ (hm b _ q λz=>z)];exact q,λb ps q=>⟨#[],by rw[aQ (hm b _ q λz=>z),q];simp⟩⟩
 by_cases hbe:b=e
 ·subst hbe;exact heo
 ·exact⟨u,k b u hbe q⟩
end
def trk(h:Heap)(H:Hp):AG:=(List.range h.objs.size).filter λa=>(H a).isSome
def Yi(h:Heap)(H:Hp):Heap:=W.hideAll h (trk h H)
theorem Zi6(h:Heap)(H:Hp):(Yi h H).objs.size=h.objs.size:=W.hideAll_size _ _
theorem Zlx{h:Heap}{H:Hp}{b:AJ}{o:Obj}(e:h.get? b=some o)(n:H b=none):(Yi h H).get? b=some o:=
 W.hideAll_get _ e λhm=>by
  have q:(H b).isSome=true:=(List.mem_filter.mp hm).2;rw[n]at q;simp at q
theorem Zok{h:Heap}{H:Hp}{b:AJ}{o:Obj}(e:(Yi h H).get? b=some o):h.get? b=some o/\H b=none:=by
 have e':h.get? b=some o:=W.of_hideAll (trk h H) e;refine⟨e',?_⟩;cases q:H b with
 | none=>rfl
 | some x=>
  have hm:b∈trk h H:=List.mem_filter.mpr ⟨List.mem_range.mpr (Heap.lt_size e'),by simp[q]⟩;have z:(Yi h H).get? b=none:=W.hideAll_none (trk h H) hm;rw[z]at e;cases e
def Zpy(g h:Heap)(L:AJ):Au:=(List.range h.objs.size).filterMap λa=>if a=L\/(g.get? a).isSome=true then none else(h.get? a).map λo=>(a,o)
def rest(g h:Heap)(L d:AJ):Au:=(Zpy g h L).filter λp=>decide (p.1≠d)
structure Mod(K:aK)(mg:As)(base:Heap):Prop where
 kin:K.In base
 glob:base.Ns mainGlobals mg
 blt:∃mb,base.Ns builtinsNs mb/\∀x:Str,x≠"__name__"->mb x=bootBuiltins x
 nolimit:base.NoLimit
structure Cx where
 prog:AN
 w:AQ
 K:aK
 mg:Str->AC
 base:Heap
 A:Around
 N:AI
 s₀:AL
 H₀:Hp
 env:Env
 outer:List Env
 stack:List Env
 ex:AG
 fn:Str->Bool
 calm:Bool
 pn:Au
 xe:AK->AL->Prop
def frs(l:List Env):AG:=l.filterMap (·.frame)
abbrev Cx.fs(X:Cx):AG:=frs X.outer
def Vis(sc:Scope)(x:Str):Prop:=sc.names.lookup x=some .local\/sc.names.lookup x=some .cell\/sc.names.lookup x=some .free
def Loc(sc:Scope)(x:Str):Prop:=sc.names.lookup x=some .local\/sc.names.lookup x=some .cell
def Look(env:Env)(h:Heap)(m:As)(x:Str)(u:AK):Prop:=
 (env.kindOf x=some .local/\m x=some u)\/((env.kindOf x=some .cell\/env.kindOf x=some .free)/\∃c,env.cells.lookup x=some c/\h.IsCell c (some u))
structure Cx.Ok(X:Cx):Prop where
 mod:Mod X.K X.mg X.base
 kind:X.env.scope.kind=.function
 glob:X.env.globals=mainGlobals
 blt:X.env.builtins=builtinsNs
 above:X.s₀.heap.objs.size<=X.env.locals
 inj:∀x y c,X.env.cells.lookup x=some c->X.env.cells.lookup y=some c->x=y
 has:∀x,(X.env.kindOf x=some .cell\/X.env.kindOf x=some .free)->∃c,X.env.cells.lookup x=some c
 cab:∀x c,X.fn x=true->X.env.cells.lookup x=some c->X.s₀.heap.objs.size<=c
 hd:X.calm=true->X.A.handled=none
 frames:X.A.frames=some X.stack
 stk:X.stack=X.outer\/(X.stack=X.env::X.outer/\X.env.frame=some X.env.locals)
 exf:∀b∈X.ex,b≠X.env.locals/\∀x c,X.env.cells.lookup x=some c->c≠b
 bs:∀b o,X.base.get? b=some o->X.s₀.heap.get? b=some o/\X.H₀ b=none
 bsz:X.base.objs.size<=X.s₀.heap.objs.size
 Za3:∀b o,X.base.get? b=some o->b∉X.ex
 Zev:∀b∈X.ex,b∉X.fs
 wQ:X.s₀.heap.FunFrames X.base X.outer
 frf:∀b∈X.fs,X.H₀ b=none
structure Inv(X:Cx)(pins:Au)(σ:List (Option V))(H:Hp)(s:AL):Prop where
 ok:X.Ok
 os:s.os=X.s₀.os
 bare:AllBare s.gens
 base:Un X.fs X.ex X.H₀ H X.s₀.heap s.heap
 loc:∃m,s.heap.Ns X.env.locals m/\∀(i:Nat) (x:Str) (v:V),X.N[i]? =some x->σ[i]? =some (some v)->Vis X.env.scope x->∃u,RelV v u/\Look X.env s.heap m x u
 cell:∀x c,X.env.cells.lookup x=some c->∃v,s.heap.IsCell c v
 free:H X.env.locals=none
 oJ:∀x c,X.env.cells.lookup x=some c->H c=none
 pin:∀p∈X.pn++pins,s.heap.get? p.1=some p.2/\H p.1=none/\p.1≠X.env.locals/\p.1∉X.fs/\∀v,p.2.data≠.cell v
 hok:oM X.prog X.w H s.heap
 len:σ.length=X.N.length
section
variable {X:Cx}{pins:Au}{σ:List (Option V)}{H H':Hp}{s:AL}{h':Heap}
theorem Cx.Ok.Zwr(ok:X.Ok){b:AJ}{o:Obj}(e:X.base.get? b=some o):b∉X.fs:=λhb=>by
 have:=(ok.wQ.mem hb).1;rw[e]at this;cases this
theorem Inv.bs(I:Inv X pins σ H s):∀b o,X.base.get? b=some o->s.heap.get? b=some o/\H b=none:=λb o e=>
 ⟨I.base.keep b o (I.ok.bs b o e).1 (I.ok.bs b o e).2 (I.ok.Zwr e) (I.ok.Za3 b o e),I.base.free b o (I.ok.bs b o e).1 (I.ok.bs b o e).2 (I.ok.Za3 b o e)⟩
theorem Inv.bk(I:Inv X pins σ H s):∀b o,X.base.get? b=some o->s.heap.get? b=some o:=λb o e=>(I.bs b o e).1
theorem Inv.mod(I:Inv X pins σ H s):Mod X.K X.mg X.base:=I.ok.mod
theorem Inv.pL(I:Inv X pins σ H s):X.K.In s.heap:=I.ok.mod.kin.keeps I.bk
theorem Inv.lt(I:Inv X pins σ H s):X.env.locals<s.heap.objs.size:=let ⟨_,hn,_⟩:=I.loc;hn.lt
theorem Inv.sz(I:Inv X pins σ H s):X.s₀.heap.objs.size<=s.heap.objs.size:=Nat.le_trans I.ok.above (Nat.le_of_lt I.lt)
theorem Inv.Zwq(I:Inv X pins σ H s){a:AJ}(h:s.heap.objs.size<=a):a∉X.fs:=λhb=>by
 obtain⟨_,o,ho,_⟩:=I.ok.wQ.mem hb;exact absurd (Nat.lt_of_lt_of_le (Heap.lt_size ho) (Nat.le_trans I.sz h)) (Nat.lt_irrefl _)
theorem Inv.cne(I:Inv X pins σ H s):∀x c,X.env.cells.lookup x=some c->c≠X.env.locals:=λx c e z=>by
 obtain⟨v,o,ho,hd⟩:=I.cell x c e;obtain⟨m,⟨o',es,ep,ho',hd',_⟩,_⟩:=I.loc;rw[z,ho']at ho;cases ho;rw[hd']at hd;cases hd
theorem Inv.wQ(I:Inv X pins σ H s):s.heap.FunFrames X.base X.outer:=by
 have all:∀(l:List Env),(∀b∈frs l,b∈X.fs)->X.s₀.heap.FunFrames X.base l->s.heap.FunFrames X.base l:=by
  intro l
  induction l with
  | nil=>intro _ _;trivial
  | cons env r ih=>
   intro hs hl;obtain⟨hk,⟨L,o,hf,hn,ho,hd⟩,hr⟩:=hl;have hL:L∈X.fs:=hs L (by unfold frs;rw[List.filterMap_cons,hf];exact List.mem_cons_self);obtain⟨sl,e⟩:=I.base.slot L o ho (I.ok.frf L hL) hL λz=>I.ok.Zev L z hL;exact⟨hk,⟨L,_,hf,hn,e,hd⟩,ih (λb hb=>hs b (by unfold frs;rw[List.filterMap_cons,hf];exact List.mem_cons_of_mem _ hb)) hr⟩
 exact all X.outer (λ_ hb=>hb) I.ok.wQ
theorem Inv.stack(I:Inv X pins σ H s):s.heap.FunFrames X.base X.stack:=by
 rcases I.ok.stk with e | ⟨e,hf⟩
 ·rw[e];exact I.wQ
 ·rw[e];obtain⟨m,hn,_⟩:=I.loc;refine .cons (by rw[I.ok.kind];decide) hf hn ?_ I.wQ;exact Heap.get?_none_of_le (Nat.le_trans I.ok.bsz I.ok.above)
theorem Inv.Gi(I:Inv X pins σ H s):∀b∈frs X.stack,b∈X.env.locals::X.fs:=λb hb=>by
 rcases I.ok.stk with e | ⟨e,hf⟩
 ·rw[e]at hb;exact List.mem_cons_of_mem _ hb
 ·rw[e]at hb;unfold frs at hb;rw[List.filterMap_cons,hf]at hb;exact hb
theorem Inv.Ww(I:Inv X pins σ H s):∀b∈frs X.stack,H b=none:=λb hb=>by
 rcases List.mem_cons.mp (I.Gi b hb)with e | hb
 ·rw[e];exact I.free
 ·obtain⟨_,o,ho,_⟩:=I.ok.wQ.mem hb;exact I.base.free b o ho (I.ok.frf b hb) λz=>I.ok.Zev b z hb
theorem Inv.step{g':Array GenState}{t':Nat}{d':Drawn}{ch:AG}(I:Inv X pins σ H s)
  (hch:∀b∈ch,(b∈X.ex\/X.s₀.heap.objs.size<=b)/\b≠X.env.locals/\(∀x c,X.env.cells.lookup x=some c->c≠b)/\∀p∈X.pn++pins,p.1≠b)
  (keep:∀b o,b≠X.env.locals->b∉X.fs->b∉ch->s.heap.get? b=some o->H b=none->h'.get? b=some o)
  (slot:∀b o,b≠X.env.locals->b∈X.fs->b∉ch->s.heap.get? b=some o->H b=none->∃sl,h'.get? b=some { o with slots:=sl }) (free:∀b o,b∉ch->s.heap.get? b=some o->H b=none->H' b=none)
  (there:∀b o,b∉ch->s.heap.get? b=some o->∃o',h'.get? b=some o')
  (tups:∀b xs,H b=some (.tup xs)->H' b=some (.tup xs)) (yW:∀b o u,H b=some (.Y9 o u)->H' b=some (.Y9 o u)) (Bh:∀b ps,H b=some (.uE ps)->∃more,H' b=some (.uE (ps++more)))
  (ns:∀m,s.heap.Ns X.env.locals m->h'.Ns X.env.locals m) (hok:oM X.prog X.w H' h') (hg:AllBare g'):
  Inv X pins σ H' { s with heap:=h',gens:=g',drawn:=d',toks:=t' }:=by
 have neL:∀b o,X.s₀.heap.get? b=some o->b≠X.env.locals:=λb o e=>Nat.ne_of_lt (Nat.lt_of_lt_of_le (Heap.lt_size e) I.ok.above);have neC:∀b o,X.s₀.heap.get? b=some o->b∉X.ex->b∉ch:=λb o e hx hb=>by
  rcases(hch b hb).1 with z | z
  ·exact hx z
  ·exact absurd (Nat.lt_of_lt_of_le (Heap.lt_size e) z) (Nat.lt_irrefl _)
 have cellK:∀x c,X.env.cells.lookup x=some c->∀v,s.heap.IsCell c v->h'.IsCell c v:=λx c e v ⟨o,ho,hd⟩=>by
  have nch:c∉ch:=λz=>(hch c z).2.2.1 x c e rfl
  by_cases hc:c∈X.fs
  ·obtain⟨sl,q⟩:=slot c o (I.cne x c e) hc nch ho (I.oJ x c e);exact⟨_,q,hd⟩
  ·exact⟨o,keep c o (I.cne x c e) hc nch ho (I.oJ x c e),hd⟩
 refine⟨I.ok,I.os,hg,⟨λb o e n hb hx=>?_,λb o e n hb hx=>?_,λb o e n hx=>?_,λb o e hx=>?_,λb xs e=>tups b xs (I.base.tups b xs e),λb o xs e=>yW b o xs (I.base.yW b o xs e),λb ps e=>?_⟩,?_,λx c e=>?_,?_,λx c e=>?_,λp hp=>?_,hok,I.len⟩
 ·exact keep b o (neL b o e) hb (neC b o e hx) (I.base.keep b o e n hb hx) (I.base.free b o e n hx)
 ·obtain⟨sl,e1⟩:=I.base.slot b o e n hb hx;obtain⟨sl',e2⟩:=slot b _ (neL b o e) hb (neC b o e hx) e1 (I.base.free b o e n hx);exact⟨sl',e2⟩
 ·obtain⟨o',e1⟩:=I.base.there b o e hx;exact free b o' (neC b o e hx) e1 (I.base.free b o e n hx)
 ·obtain⟨o',e1⟩:=I.base.there b o e hx;exact there b o' (neC b o e hx) e1
 ·obtain⟨m1,e1⟩:=I.base.Bh b ps e;obtain⟨m2,e2⟩:=Bh b _ e1;exact⟨m1++m2,by rw[e2,Array.append_assoc]⟩
 ·obtain⟨m,hn,hl⟩:=I.loc;refine⟨m,ns m hn,λi x v e1 e2 e3=>?_⟩;obtain⟨u,r,l⟩:=hl i x v e1 e2 e3;refine⟨u,r,?_⟩;rcases l with l | ⟨k,c,e,z⟩
  ·exact .inl l
  ·exact .inr ⟨k,c,e,cellK x c e _ z⟩
 ·obtain⟨v,z⟩:=I.cell x c e;exact⟨v,cellK x c e v z⟩
 ·obtain⟨m,⟨o,_,_,ho,_⟩,_⟩:=I.loc;exact free _ o (λz=>(hch _ z).2.1 rfl) ho I.free
 ·obtain⟨v,o,ho,hd⟩:=I.cell x c e;exact free c o (λz=>(hch c z).2.2.1 x c e rfl) ho (I.oJ x c e)
 ·obtain⟨e,n,ne,nf,d⟩:=I.pin p hp;have nch:p.1∉ch:=λz=>(hch p.1 z).2.2.2 p hp rfl;exact⟨keep p.1 p.2 ne nf nch e n,free p.1 p.2 nch e n,ne,nf,d⟩
theorem Inv.un{t':Nat}(I:Inv X pins σ H s)(u:Un X.fs [] H H' s.heap h')(hok:oM X.prog X.w H' h'):Inv X pins σ H' { s with heap:=h',toks:=t' }:=by
 obtain⟨m,⟨o,es,ep,ho,r⟩,_⟩:=id I.loc;obtain⟨sl,hL⟩:=u.any ho I.free ζ;exact I.step (g':=s.gens) (d':=s.drawn) (ch:=[]) (λ_ z=>nomatch z) (λb o _ hb _ e n=>u.keep b o e n hb ζ) (λb o _ hb _ e n=>u.slot b o e n hb ζ) (λb o _ e n=>u.free b o e n ζ) (λb o _ e=>u.there b o e ζ) u.tups u.yW u.Bh (λm' hm=>by
  obtain⟨o',es',ep',ho',r'⟩:=hm;rw[ho]at ho';cases ho';exact⟨_,es',ep',hL,r'⟩) hok I.bare
theorem Inv.call{g':Array GenState}{t':Nat}{d':Drawn}{ch:AG}(I:Inv X pins σ H s)(u:Un (frs X.stack) ch H H' s.heap h')(hok:oM X.prog X.w H' h')(hg:AllBare g')
  (hch:∀b∈ch,(b∈X.ex\/X.s₀.heap.objs.size<=b)/\b≠X.env.locals/\(∀x c,X.env.cells.lookup x=some c->c≠b)/\∀p∈X.pn++pins,p.1≠b):
  Inv X pins σ H' { s with heap:=h',gens:=g',drawn:=d',toks:=t' }:=by
 obtain⟨m,⟨o,es,ep,ho,r⟩,_⟩:=id I.loc;obtain⟨sl,hL⟩:=u.any ho I.free λz=>(hch _ z).2.1 rfl;exact I.step (ch:=ch) hch (λb o hL hb hc e n=>u.keep b o e n (λz=>(List.mem_cons.mp (I.Gi b z)).elim hL hb) hc) (λb o _ _ hc e n=>u.any e n hc) (λb o hc e n=>u.free b o e n hc) (λb o hc e=>u.there b o e hc) u.tups u.yW u.Bh (λm' hm=>by
  obtain⟨o',es',ep',ho',r'⟩:=hm;rw[ho]at ho';cases ho';exact⟨_,es',ep',hL,r'⟩) hok hg
theorem Inv.turned{t':Nat}{it:AJ}(I:Inv X pins σ H s)(k:∀b o,b≠it->s.heap.get? b=some o->h'.get? b=some o)(hn:H it=none)(hL:it≠X.env.locals)
  (h1:it∈X.ex\/X.s₀.heap.objs.size<=it) (h2:∀x c,X.env.cells.lookup x=some c->c≠it) (h3:∀p∈X.pn++pins,p.1≠it):Inv X pins σ H { s with heap:=h',toks:=t' }:=by
 have nit:∀b u,H b=some u->b≠it:=λb u e z=>by rw[z,hn]at e;cases e
 refine I.step (g':=s.gens) (d':=s.drawn) (ch:=[it]) (λb hb=>?_) (λb o _ _ hc e _=>k b o (λz=>hc (by simp[z])) e) (λb o _ _ hc e _=>⟨o.slots,k b o (λz=>hc (by simp[z])) e⟩) (λ_ _ _ _ n=>n)
  (λb o hc e=>⟨o,k b o (λz=>hc (by simp[z])) e⟩) (λ_ _ e=>e) (λ_ _ _ e=>e) (λb ps e=>⟨#[],by rw[e];simp⟩) (λm hm=>?_) (λb u e=>?_) I.bare
 ·have e:b=it:=by simpa using hb
  subst e;exact⟨h1,hL,h2,h3⟩
 ·obtain⟨o,es,ep,ho,r⟩:=hm;exact⟨o,es,ep,k _ o (Ne.symm hL) ho,r⟩
 ·refine(I.hok b u e).stay (λc v hc q=>k c v ?_ q) (λ_ q=>q) λ_ _ q=>q;rcases hc with z | z
  ·rw[z];exact nit b u e
  ·exact nit c _ z
theorem Inv.tok(I:Inv X pins σ H s)(t:Nat):Inv X pins σ H { s with toks:=t }:=I.un (h':=s.heap) (t':=t) Un.refl I.hok
theorem Inv.kept{t':Nat}(I:Inv X pins σ H s)(k:∀b u,s.heap.get? b=some u->h'.get? b=some u):Inv X pins σ H { s with heap:=h',toks:=t' }:=I.un (Un.kept k) (I.hok.kept k)
theorem Inv.laid{a:AJ}{o:HO}{t':Nat}(I:Inv X pins σ H s)(k:∀b u,s.heap.get? b=some u->h'.get? b=some u)(hp:s.heap.objs.size<=a)(new:jc X.prog X.w (upd H a o) h' a o):
  Inv X pins σ (upd H a o) { s with heap:=h',toks:=t' }:=I.un (Un.laid k hp (I.hok.fresh hp)) (I.hok.laid k hp new)
theorem Inv.write{x e:AJ}{o:HO}{t':Nat}(I:Inv X pins σ H s)(mu:Mut (H x))(he:e=x\/H e=some (.own x))(k:∀b u,b≠e->s.heap.get? b=some u->h'.get? b=some u)(heo:∃u,h'.get? e=some u)
  (new:jc X.prog X.w (upd H x o) h' x o):Inv X pins σ (upd H x o) { s with heap:=h',toks:=t' }:=I.un (Un.write mu he k heo) (I.hok.write mu he k heo new)
theorem Inv.zB{Zqd:Au}(I:Inv X pins σ H s)(h:∀p∈Zqd,s.heap.get? p.1=some p.2/\H p.1=none/\p.1≠X.env.locals/\p.1∉X.fs/\∀v,p.2.data≠.cell v):Inv X Zqd σ H s:=
 ⟨I.ok,I.os,I.bare,I.base,I.loc,I.cell,I.free,I.oJ,λp hp=>(List.mem_append.mp hp).elim (λz=>I.pin p (List.mem_append_left _ z)) (h p),I.hok,I.len⟩
theorem Ql{N:AI}(hN:N.Nodup){i j:Nat}{x:Str}(a:N[i]? =some x)(b:N[j]? =some x):i=j:=by
 obtain⟨h1,e1⟩:=iB a;obtain⟨h2,e2⟩:=iB b;exact(List.getElem_inj hN).mp (e1.trans e2.symm)
theorem Zhb{M:Model}{A:Around}{E:Ap}{i:Nat}{x:Str}{v:V}{u:AK}{Q:Unit->AL->Prop}(I:Inv X pins σ H s)(hN:X.N.Nodup)(hi:X.N[i]? =some x)(hx:Loc X.env.scope x)(r:RelV v u)
  (h:∀s',Inv X pins (σ.set i (some v)) H s'->(∃a,Heap.SameBut a s.heap s'.heap/\(a=X.env.locals\/X.env.cells.lookup x=some a))->Q () s') (hf:X.fn x=true\/X.env.scope.names.lookup x=some .local:=by first | exact .inl rfl | exact .inr rfl | assumption):wpAny M A (storeName X.env x u) Q E s:=by
 obtain⟨m,hn,hl⟩:=id I.loc;have hcls:(X.env.scope.kind == .class || (X.env.scope.kind == .module && X.env.locals != X.env.globals))=false:=by rw[I.ok.kind];rfl
 have hiσ:i < σ.length:=by rw[I.len];exact(iB hi).1
 have cne:=I.cne;have tracked:∀{a:AJ}{h':Heap},(∃o,s.heap.get? a=some o/\H a=none)->Heap.SameBut a s.heap h'->oM X.prog X.w H h':=λ{a h'} ha hs b ob e=>by
  obtain⟨_,_,hfree⟩:=ha;refine(I.hok b ob e).stay (λc w' hc q=>(hs.2 c ?_).trans q) (λ_ q=>q) λ_ _ q=>q;rintro rfl;rcases hc with rfl | hc
  ·rw[hfree]at e;cases e
  ·rw[hfree]at hc;cases hc
 rcases hx with hk | hk
 ·refine wpAny_storeName_local hk hn (λh' hn' hs=>?_) hcls;obtain⟨oL,_,_,hoL,_⟩:=id hn;refine h _ ⟨I.ok,I.os,I.bare,⟨λb o e n hb hx=>?_,λb o e n hb hx=>?_,I.base.free,λb o e hx=>?_,I.base.tups,I.base.yW,I.base.Bh⟩,⟨_,hn',λj y v' e1 e2 e3=>?_⟩,λy c e=>?_,I.free,I.oJ,λp hp=>?_,tracked ⟨oL,hoL,I.free⟩ hs,by simpa using I.len⟩ ⟨_,hs,.inl rfl⟩
  ·exact(hs.2 b (Nat.ne_of_lt (Nat.lt_of_lt_of_le (Heap.lt_size e) I.ok.above))).trans (I.base.keep b o e n hb hx)
  ·obtain⟨sl,e1⟩:=I.base.slot b o e n hb hx;exact⟨sl,(hs.2 b (Nat.ne_of_lt (Nat.lt_of_lt_of_le (Heap.lt_size e) I.ok.above))).trans e1⟩
  ·obtain⟨o',e1⟩:=I.base.there b o e hx;exact⟨o',(hs.2 b (Nat.ne_of_lt (Nat.lt_of_lt_of_le (Heap.lt_size e) I.ok.above))).trans e1⟩
  ·by_cases hj:j=i
   ·subst hj;rw[hi]at e1;cases e1;rw[List.getElem?_set_self hiσ]at e2;cases e2;exact⟨u,r,.inl ⟨hk,ζ⟩⟩
   ·rw[List.getElem?_set_ne (Ne.symm hj)]at e2;obtain⟨u',r',q⟩:=hl j y v' e1 e2 e3;refine⟨u',r',?_⟩;rcases q with ⟨k,e⟩ | ⟨k,c,e,z⟩
    ·refine .inl ⟨k,?_⟩;have:y≠x:=λe=>hj (Ql hN e1 (e ▸ hi));simp[this,e]
    ·exact .inr ⟨k,c,e,z.sameBut hs (cne y c e)⟩
  ·obtain⟨w',z⟩:=I.cell y c e;exact⟨w',z.sameBut hs (cne y c e)⟩
  ·obtain⟨e,n,ne,nf,d⟩:=I.pin p hp;exact⟨(hs.2 p.1 ne).trans e,n,ne,nf,d⟩
 ·have hfn:X.fn x=true:=by
   rcases hf with z | z
   ·exact z
   ·rw[z]at hk;cases hk
  obtain⟨c,hc⟩:=I.ok.has x (.inl hk);obtain⟨w',z⟩:=I.cell x c hc;refine wpAny_storeName_cell I.ok.kind hk hc z (λh' hc' hs=>?_);obtain⟨oc,hoc,Zy1⟩:=id z;refine h { s with heap:=h' } ⟨I.ok,I.os,I.bare,⟨λb o e n hb hx=>?_,λb o e n hb hx=>?_,I.base.free,λb o e hx=>?_,I.base.tups,I.base.yW,I.base.Bh⟩,⟨m,hn.sameBut hs (Ne.symm (cne x c hc)),λj y v' e1 e2 e3=>?_⟩,λy c' e=>?_,I.free,I.oJ,λp hp=>?_,tracked ⟨oc,hoc,I.oJ x c hc⟩ hs,by simpa using I.len⟩ ⟨c,hs,.inr hc⟩
  ·exact(hs.2 b (Nat.ne_of_lt (Nat.lt_of_lt_of_le (Heap.lt_size e) (I.ok.cab x c hfn hc)))).trans (I.base.keep b o e n hb hx)
  ·obtain⟨sl,e1⟩:=I.base.slot b o e n hb hx;exact⟨sl,(hs.2 b (Nat.ne_of_lt (Nat.lt_of_lt_of_le (Heap.lt_size e) (I.ok.cab x c hfn hc)))).trans e1⟩
  ·obtain⟨o',e1⟩:=I.base.there b o e hx;exact⟨o',(hs.2 b (Nat.ne_of_lt (Nat.lt_of_lt_of_le (Heap.lt_size e) (I.ok.cab x c hfn hc)))).trans e1⟩
  ·by_cases hj:j=i
   ·subst hj;rw[hi]at e1;cases e1;rw[List.getElem?_set_self hiσ]at e2;cases e2;exact⟨u,r,.inr ⟨.inl hk,c,hc,hc'⟩⟩
   ·rw[List.getElem?_set_ne (Ne.symm hj)]at e2;obtain⟨u',r',q⟩:=hl j y v' e1 e2 e3;refine⟨u',r',?_⟩;rcases q with q | ⟨k,c',e,z'⟩
    ·exact .inl q
    ·refine .inr ⟨k,c',e,z'.sameBut hs ?_⟩;rintro rfl;exact hj (Ql hN e1 (I.ok.inj _ _ _ e hc ▸ hi))
  ·by_cases hcc:c'=c
   ·subst hcc;exact⟨_,hc'⟩
   ·obtain⟨w2,z2⟩:=I.cell y c' e;exact⟨w2,z2.sameBut hs hcc⟩
  ·obtain⟨e,n,ne,nf,d⟩:=I.pin p hp;refine⟨(hs.2 p.1 ?_).trans e,n,ne,nf,d⟩;intro q;rw[q,hoc]at e;have q':oc=p.2:=Option.some.inj e;exact d w' (by rw[<- q'];exact Zy1)
theorem pU{M:Model}{A:Around}{E:Ap}{i:Nat}{x:Str}{v:V}{u:AK}{Q:Unit->AL->Prop}(I:Inv X pins σ H s)(hN:X.N.Nodup)(hi:X.N[i]? =some x)(hx:Loc X.env.scope x)(r:RelV v u)
  (h:∀s',Inv X pins (σ.set i (some v)) H s'->Q () s') (hf:X.fn x=true\/X.env.scope.names.lookup x=some .local:=by first | exact .inl rfl | exact .inr rfl | assumption):wpAny M A (storeName X.env x u) Q E s:=
 Zhb I hN hi hx r (λs' I' _=>h s' I') hf
theorem Inv.call'{s':AL}{ch:AG}(I:Inv X pins σ H s)(ho:s'.os=s.os)(u:Un (frs X.stack) ch H H' s.heap s'.heap)(hok:oM X.prog X.w H' s'.heap)(hg:AllBare s'.gens)
  (hch:∀b∈ch,(b∈X.ex\/X.s₀.heap.objs.size<=b)/\b≠X.env.locals/\(∀x c,X.env.cells.lookup x=some c->c≠b)/\∀p∈X.pn++pins,p.1≠b):Inv X pins σ H' s':=by
 obtain⟨h',g',d',t',o'⟩:=s';have e:o'=s.os:=ho;subst e;exact I.call (g':=g') (t':=t') (d':=d') u hok hg hch
end
abbrev XK:=AK->Option AJ->Hp->Prop
abbrev St:=List (Option V)
abbrev VK:=V->Hp->Prop
abbrev TE:=St->Hp->VK->Prop
abbrev TT:=St->Hp->(Bool->Hp->Prop)->Prop
abbrev TA:=St->Hp->(List V->Hp->Prop)->Prop
structure Ends where
 nx:ν
 rt:VK
 bk:ν:=λ_ _=>False
 ct:ν:=λ_ _=>False
abbrev TS:=Ends->ν
def EP(X:Cx)(pins:Au)(σ:St)(Q:VK)(u:AK)(s':AL):Prop:=∃v H',Inv X pins σ H' s'/\RelV v u/\Q v H'
def TP(X:Cx)(pins:Au)(σ:St)(Q:Bool->Hp->Prop)(b:Bool)(s':AL):Prop:=∃H',Inv X pins σ H' s'/\Q b H'
def AP(X:Cx)(pins:Au)(σ:St)(Q:List V->Hp->Prop)(us:AE)(s':AL):Prop:=∃vs H',Inv X pins σ H' s'/\Vals vs us/\Q vs H'
def SP(X:Cx)(pins:Au)(D:Ends)(f:Flow)(s':AL):Prop:=
 match f with
 | .next=>∃ σ' H',Inv X pins σ' H' s'/\D.nx σ' H'
 | .brk=>∃ σ' H',Inv X pins σ' H' s'/\D.bk σ' H'
 | .cont=>∃ σ' H',Inv X pins σ' H' s'/\D.ct σ' H'
 | .ret u=>∃v σ' H',Inv X pins σ' H' s'/\RelV v u/\D.rt v H'
def PE(X:Cx)(e:AO)(t:TE):Prop:=
 ∀(pins:Au) (s:AL) (σ:St) (H:Hp) (Q:VK),Inv X pins σ H s->t σ H Q->wpAny ς X.A (eval e X.env) (EP X pins σ Q) X.xe s
def PT(X:Cx)(e:AO)(t:TT):Prop:=
 ∀(pins:Au) (s:AL) (σ:St) (H:Hp) (Q:Bool->Hp->Prop),Inv X pins σ H s->t σ H Q->wpAny ς X.A (isTrue e X.env (eval e X.env)) (TP X pins σ Q) X.xe s
def PW(X:Cx)(e:AO)(t:TT):Prop:=
 ∀(whole:Sem AK) (pins:Au) (s:AL) (σ:St) (H:Hp) (Q:Bool->Hp->Prop),Inv X pins σ H s->t σ H Q->wpAny ς X.A (isTrue e X.env whole) (TP X pins σ Q) X.xe s
theorem PW.pt{X:Cx}{e:AO}{t:TT}(h:PW X e t):PT X e t:=h _
def PA(X:Cx)(es:AH)(t:TA):Prop:=
 ∀(pos:Pos) (pins:Au) (s:AL) (σ:St) (H:Hp) (Q:List V->Hp->Prop),Inv X pins σ H s->t σ H Q->wpAny ς X.A (spliced (backTo pos (starEach es X.env))) (AP X pins σ Q) X.xe s
def PS(X:Cx)(st:Stmt)(t:TS):Prop:=
 ∀(pins:Au) (s:AL) (σ:St) (H:Hp) (D:Ends),Inv X pins σ H s->t D σ H->wpAny ς X.A (exec st X.env) (SP X pins D) X.xe s
def Rh(X:Cx)(st:List Stmt)(t:TS):Prop:=
 ∀(pins:Au) (s:AL) (σ:St) (H:Hp) (D:Ends),Inv X pins σ H s->t D σ H->wpAny ς X.A (execs st X.env) (SP X pins D) X.xe s
theorem iJ{α:Type}{t:Sem α}{Q Q':α->AL->Prop}{M:Model}{A:Around}{E:Ap}{s:AL}(h:wpAny M A t Q E s)(hQ:∀a s,Q a s->Q' a s):wpAny M A t Q' E s:=wpAny_mono h hQ λ_ _ x=>x
section
variable {X:Cx}
def ak(i:Nat):TE:=λσ H Q=>∃v,σ[i]? =some (some v)/\Q v H
def tC(v:V):TE:=λ_ H Q=>Q v H
theorem Zk8{i:Nat}{x:Str}{pos:Pos}(hN:X.N[i]? =some x)(hv:Vis X.env.scope x)(hd:(x == ("__debug__":Str))=false:=by decide)(hcd:(x == ("__classdict__":Str))=false:=by decide):PE X (.Name x pos) (ak i):=by
 intro pins s σ H Q I h;obtain⟨v,e,h⟩:=h;obtain⟨m,hn,hl⟩:=I.loc;obtain⟨u,r,l⟩:=hl i x v hN e hv;have fin:EP X pins σ Q u s:=⟨v,H,I,r,h⟩;rcases l with ⟨hk,hm⟩ | ⟨hk,c,hc,hcell⟩
 ·exact wpAny_Name (wpAny_loadName_local I.ok.kind hk hn hm fin) hd
 ·rcases hk with hk | hk
  ·exact wpAny_Name (wpAny_loadName_cell I.ok.kind hk hc hcell fin) hd
  ·exact wpAny_Name (wpAny_loadName_free I.ok.kind hk hc hcell fin hcd) hd
theorem au{i j pos}:PE X (.Constant (.int i) j pos) (tC (.int i)):=λ_ _ _ H _ I h=>wpAny_Constant_int ⟨.int i,H,I.tok _,⟨_,rfl⟩,h⟩
theorem tU{b j pos}:PE X (.Constant (.bool b) j pos) (tC (.bl b)):=λ_ _ _ H _ I h=>Constant_bool ⟨.bl b,H,I,rfl,h⟩
theorem iw{j pos}:PE X (.Constant .none j pos) (tC .non):=λ_ _ _ H _ I h=>Constant_none ⟨.non,H,I,rfl,h⟩
theorem aH{x j pos}:PE X (.Constant (.str x) j pos) (tC (.str x)):=λ_ _ _ H _ I h=>Calls.Constant_str ⟨.str x,H,I.tok _,⟨_,rfl⟩,h⟩
def Gl(X:Cx)(x:Str):Prop:=X.env.kindOf x=some .globalImplicit
theorem gB{E:Ap}{pins:Au}{s:AL}{σ:St}{H:Hp}{x:Str}{u:AK}{pos:Pos}{Q:Ap}(I:Inv X pins σ H s)(hg:Gl X x)(hm:X.mg x=some u)(h:Q u s)
  (hd:(x == ("__debug__":Str))=false:=by decide):wpAny ς X.A (eval (.Name x pos) X.env) Q E s:=
 Calls.Name_function_global I.ok.kind hg (Calls.loadGlobal_global (by rw[I.ok.glob];exact I.mod.glob.keeps I.bk) hm h) hd
theorem Ck{E:Ap}{pins:Au}{s:AL}{σ:St}{H:Hp}{x:Str}{u:AK}{pos:Pos}{Q:Ap}(I:Inv X pins σ H s)(hg:Gl X x)(hm:X.mg x=none)(hv:bootBuiltins x=some u)(h:Q u s)
  (hn:x≠"__name__":=by decide) (hd:(x == ("__debug__":Str))=false:=by decide):wpAny ς X.A (eval (.Name x pos) X.env) Q E s:=by
 obtain⟨mb,h1,h2⟩:=I.mod.blt;exact Calls.Name_function_global I.ok.kind hg (Calls.loadGlobal_builtin (by rw[I.ok.glob];exact I.mod.glob.keeps I.bk) hm (by rw[I.ok.blt];exact h1.keeps I.bk) ((h2 x hn).trans hv) h) hd
theorem nZ{x:Str}{v:V}{u:AK}{pos:Pos}(hg:Gl X x)(hm:X.mg x=some u)(r:RelV v u)(hd:(x == ("__debug__":Str))=false:=by decide):PE X (.Name x pos) (tC v):=
 λ_ _ _ H _ I h=>gB I hg hm ⟨v,H,I,r,h⟩ hd
theorem M6{x:Str}{v:V}{u:AK}{pos:Pos}(hg:Gl X x)(hm:X.mg x=none)(hv:bootBuiltins x=some u)(r:RelV v u)(hn:x≠"__name__":=by decide)(hd:(x == ("__debug__":Str))=false:=by decide):PE X (.Name x pos) (tC v):=
 λ_ _ _ H _ I h=>Ck I hg hm hv ⟨v,H,I,r,h⟩ hn hd
variable {a b:AO}{ta tb:TE}{pos:Pos}
def PC(X:Cx)(op:CmpOp)(a b:AO)(t:TE):Prop:=
 ∀(pins:Au) (s:AL) (σ:St) (H:Hp) (Q:VK),Inv X pins σ H s->t σ H Q->
  wpAny ς X.A (eval a X.env) (λv s₁=>wpAny ς X.A (eval b X.env) (λu s₂=>wpAny ς X.A (compareOp op v u) (EP X pins σ Q) X.xe s₂) X.xe s₁) X.xe s
theorem Zkl(b:AO){op:CmpOp}(h:op≠.In)(h2:op≠.NotIn):behindInMarks op b=false:=by
 have e1:(op == CmpOp.In)=false:=by cases op<;>first | rfl | exact absurd rfl h
 have e2:(op == CmpOp.NotIn)=false:=by cases op<;>first | rfl | exact absurd rfl h2
 cases b<;>simp[behindInMarks,e1,e2]
def tB(t:TE):TT:=λσ H Q=>t σ H λx H1=>∃c,x=.bl c/\Q c H1
theorem Zjy{op:CmpOp}{t:TE}(h:PC X op a b t)(h1:behindInMarks op b=false:=by first | exact Zkl _ ε ε | rfl):PT X (.Compare a [op] [b] pos) (tB t):=by
 intro pins s σ H Q I hw;refine wpAny_isTrue_Compare1 (iJ (h pins s σ H _ I hw) λv s1 h1=>iJ h1 λu s2 h2=>iJ h2 λc s3 ⟨x,H1,I1,r1,q1⟩=>?_) h1;obtain⟨d,rfl,q⟩:=q1;cases r1;exact wpAny_truthy_bool ⟨H1,I1,q⟩
theorem tR{e:AO}{t:TE}(h:PE X e t)(he:∀whole,isTrue e X.env whole=(do let v <- whole;standAt e.pos;holding [v] (truthy v)):=by intro _;rfl):PT X e (tB t):=by
 intro pins s σ H Q I hw;refine isTrue_plain (iJ (h pins s σ H _ I hw) λv s1 ⟨x,H1,I1,r1,q1⟩=>?_) (he _);obtain⟨d,rfl,q⟩:=q1;cases r1;exact wpAny_truthy_bool ⟨H1,I1,q⟩
variable {tA tB':TT}{rest:AH}
def qp(t u:TT):TT:=λσ H Q=>t σ H λc H1=>if c=true then u σ H1 Q else Q false H1
def tOr(t u:TT):TT:=λσ H Q=>t σ H λc H1=>if c=true then Q true H1 else u σ H1 Q
def RJ(t:TT):TT:=λσ H Q=>t σ H λc H1=>Q (!c) H1
theorem jk(ha:PT X a tA):PW X (.BoolOp .And [a] pos) tA:=by
 intro wh pins s σ H Q I h;refine isTrue_and (iJ (ha pins s σ H Q I h) λc s1 e=>?_);cases c with
 | true=>exact isTrue_and_nil e
 | false=>exact e
theorem wB(ha:PT X a tA):PW X (.BoolOp .Or [a] pos) tA:=by
 intro wh pins s σ H Q I h;refine isTrue_or (iJ (ha pins s σ H Q I h) λc s1 e=>?_);cases c with
 | false=>exact isTrue_or_nil e
 | true=>exact e
theorem lg(ha:PT X a tA)(hb:PW X (.BoolOp .And (b::rest) pos) tB'):PW X (.BoolOp .And (a::b::rest) pos) (qp tA tB'):=by
 intro wh pins s σ H Q I h;refine isTrue_and (iJ (ha pins s σ H _ I h) λc s1 ⟨H1,I1,q1⟩=>?_);cases c with
 | true=>exact hb wh pins s1 σ H1 Q I1 q1
 | false=>exact⟨H1,I1,q1⟩
theorem Ar(ha:PT X a tA)(hb:PW X (.BoolOp .Or (b::rest) pos) tB'):PW X (.BoolOp .Or (a::b::rest) pos) (tOr tA tB'):=by
 intro wh pins s σ H Q I h;refine isTrue_or (iJ (ha pins s σ H _ I h) λc s1 ⟨H1,I1,q1⟩=>?_);cases c with
 | true=>exact⟨H1,I1,q1⟩
 | false=>exact hb wh pins s1 σ H1 Q I1 q1
theorem yE(ha:PT X a tA):PT X (.UnaryOp .Not a pos) (RJ tA):=by
 intro pins s σ H Q I h;exact isTrue_not (ha pins s σ H (λc H1=>Q (!c) H1) I h)
def ZC(ta tb:TE):TE:=λσ H Q=>ta σ H λx H1=>∃c,x=.bl c/\if c=true then tb σ H1 Q else Q (.bl false) H1
def Zja(ta:TE):TE:=λσ H Q=>ta σ H λx H1=>∃c,x=.bl c/\Q (.bl (!c)) H1
theorem Zde{op}{t:TE}(h:PE X a t):PE X (.BoolOp op [a] pos) t:=λpins s σ H Q I hw=>BoolOp_one (h pins s σ H Q I hw)
theorem Zdf(ha:PE X a ta)(hb:PE X (.BoolOp .And (b::rest) pos) tb):PE X (.BoolOp .And (a::b::rest) pos) (ZC ta tb):=by
 intro pins s σ H Q I h;refine BoolOp_and (iJ (ha pins s σ H _ I h) λv s1 ⟨x,H1,I1,r1,q1⟩=>?_);obtain⟨c,rfl,q1⟩:=q1;cases r1;refine wpAny_truthy_bool ?_;cases c with
 | true=>exact hb pins s1 σ H1 Q I1 q1
 | false=>exact⟨.bl false,H1,I1,rfl,q1⟩
theorem Zrr(ha:PE X a ta):PE X (.UnaryOp .Not a pos) (Zja ta):=by
 intro pins s σ H Q I h;refine UnaryOp_ (iJ (ha pins s σ H _ I h) λv s1 ⟨x,H1,I1,r1,q1⟩=>?_);obtain⟨c,rfl,q1⟩:=q1;cases r1;exact not_of (wpAny_truthy_bool ⟨.bl (!c),H1,I1,rfl,q1⟩)
def tIf(t:TT)(ta tb:TE):TE:=λσ H Q=>t σ H λc H1=>if c=true then ta σ H1 Q else tb σ H1 Q
theorem Qg{c:AO}(hc:PT X c tA)(ha:PE X a ta)(hb:PE X b tb):PE X (.IfExp c a b pos) (tIf tA ta tb):=by
 intro pins s σ H Q I h;refine wpAny_IfExp (iJ (hc pins s σ H _ I h) λd s1 ⟨H1,I1,q1⟩=>?_);cases d with
 | true=>exact ha pins s1 σ H1 Q I1 q1
 | false=>exact hb pins s1 σ H1 Q I1 q1
end
def cN(K:aK)(H:Hp)(a:AJ)(xs:List V):Prop:=
 Rd H a (.lst xs)\/
  ∃(o:Obj) (its:Array AK) (n:Nat),K.lookup a=some o/\o.cls=.type "list"/\o.dict=none/\o.data=.seq its n/\its.size<=sizeLine/\Vals xs its.toList
def ig(K:aK)(H:Hp)(a:AJ)(xs:List V):Prop:=
 Rd H a (.tup xs)\/
  ∃(o:Obj) (its:Array AK) (n:Nat),K.lookup a=some o/\o.cls=.type "tuple"/\o.data=.seq its n/\its.size<=sizeLine/\Vals xs its.toList
def ZFa:AK->Option V
 | .none=>some .non
 | .bool b=>some (.bl b)
 | .int i _=>some (.int i)
 | .str x _=>some (.str x)
 | .bytes b _=>some (.byt b)
 | .float b _=>some (.flt b)
 | .ref a=>↑a
 | .type n=>some (.ty n)
 | _=>none
theorem RelV.abs{x:V}{u:AK}(r:RelV x u):ZFa u=some x:=by
 cases x with
 | non=>cases r;rfl
 | bl _=>cases r;rfl
 | int _=>obtain⟨t,rfl⟩:=r;rfl
 | str _=>obtain⟨t,rfl⟩:=r;rfl
 | byt _=>obtain⟨t,rfl⟩:=r;rfl
 | flt _=>obtain⟨t,rfl⟩:=r;rfl
 | ref _=>cases r;rfl
 | ty _=>cases r;rfl
theorem RelV.inj{x y:V}{u:AK}(r:RelV x u)(q:RelV y u):x=y:=Option.some.inj (r.abs.symm.trans q.abs)
theorem Vals.inj:∀{xs ys:List V}{us:AE},Vals xs us->Vals ys us->xs=ys
 | _,_,_,.nil,.nil=>rfl
 | _,_,_,.cons r t,.cons r' t'=>by rw[r.inj r',Vals.inj t t']
section
variable {X:Cx}{pins:Au}{σ:St}{H:Hp}{s:AL}{a:AJ}{xs ys:List V}
theorem cN.of{K:aK}(h:H a=some (.lst xs)):cN K H a xs:=.inl (.inl h)
theorem ig.of{K:aK}(h:H a=some (.tup xs)):ig K H a xs:=.inl (.inl h)
theorem Inv.list(I:Inv X pins σ H s)(h:cN X.K H a xs):∃its:AE,Vals xs its/\PlainL s.heap a its.toArray/\xs.length<=sizeLine:=by
 rcases h with h | ⟨o,its,n,hk,hc,hd,hs,hz,r⟩
 ·obtain⟨z,its,n,r,e⟩:=h.ok I.hok;exact⟨its,r,⟨_,n,e,rfl,rfl,rfl⟩,z⟩
 ·refine⟨its.toList,r,⟨o,n,I.pL a o hk,hc,hd,by simpa using hs⟩,?_⟩;have e:=r.length;simp only[Array.length_toList]at e;omega
theorem Inv.tuple(I:Inv X pins σ H s)(h:ig X.K H a xs):∃its:AE,Vals xs its/\IsTup s.heap a its.toArray/\xs.length<=sizeLine:=by
 rcases h with h | ⟨o,its,n,hk,hc,hs,hz,r⟩
 ·obtain⟨z,its,r,p⟩:=h.ok I.hok;exact⟨its,r,p,z⟩
 ·refine⟨its.toList,r,⟨o,I.pL a o hk,hc,n,by simpa using hs⟩,?_⟩;have e:=r.length;simp only[Array.length_toList]at e;omega
theorem Inv.Qt(I:Inv X pins σ H s)(h:cN X.K H a xs)(h':cN X.K H a ys):xs=ys:=by
 obtain⟨its,r,⟨o,n,e,_,_,d⟩,_⟩:=I.list h;obtain⟨its',r',⟨o',n',e',_,_,d'⟩,_⟩:=I.list h';rw[e]at e';cases e';rw[d]at d'
 injection d' with d1 _
 have:its=its':=by simpa using congrArg Array.toList d1
 subst this;exact r.inj r'
theorem Inv.Zh9(I:Inv X pins σ H s)(h:ig X.K H a xs)(h':ig X.K H a ys):xs=ys:=by
 obtain⟨its,r,⟨o,e,_,n,d⟩,_⟩:=I.tuple h;obtain⟨its',r',⟨o',e',_,n',d'⟩,_⟩:=I.tuple h';rw[e]at e';cases e';rw[d]at d'
 injection d' with d1 _
 have:its=its':=by simpa using congrArg Array.toList d1
 subst this;exact r.inj r'
end
abbrev Cx.wish(X:Cx)(E:Ap):Cx:={ X with xe:=E }
abbrev Cx.nox(X:Cx):Cx:=X.wish λ_ _=>False
theorem Cx.Ok.wish{X:Cx}(ok:X.Ok)(E:Ap):(X.wish E).Ok:=
 ⟨ok.mod,ok.kind,ok.glob,ok.blt,ok.above,ok.inj,ok.has,ok.cab,ok.hd,ok.frames,ok.stk,ok.exf,ok.bs,ok.bsz,ok.Za3,ok.Zev,ok.wQ,ok.frf⟩
theorem Cx.Ok.xZ{X:Cx}{E:Ap}(ok:(X.wish E).Ok):X.Ok:=
 ⟨ok.mod,ok.kind,ok.glob,ok.blt,ok.above,ok.inj,ok.has,ok.cab,ok.hd,ok.frames,ok.stk,ok.exf,ok.bs,ok.bsz,ok.Za3,ok.Zev,ok.wQ,ok.frf⟩
section
variable {X:Cx}{pins:Au}{σ:St}{H:Hp}{s:AL}{E:Ap}
theorem Inv.wish(I:Inv X pins σ H s)(E:Ap):Inv (X.wish E) pins σ H s:=⟨I.ok.wish E,I.os,I.bare,I.base,I.loc,I.cell,I.free,I.oJ,I.pin,I.hok,I.len⟩
theorem Inv.xZ(I:Inv (X.wish E) pins σ H s):Inv X pins σ H s:=⟨I.ok.xZ,I.os,I.bare,I.base,I.loc,I.cell,I.free,I.oJ,I.pin,I.hok,I.len⟩
theorem SP.xZ{D:Ends}{f:Flow}{s':AL}(h:SP (X.wish E) pins D f s'):SP X pins D f s':=by
 cases f with
 | next=>obtain⟨σ',H',I,q⟩:=h;exact⟨σ',H',I.xZ,q⟩
 | brk=>obtain⟨σ',H',I,q⟩:=h;exact⟨σ',H',I.xZ,q⟩
 | cont=>obtain⟨σ',H',I,q⟩:=h;exact⟨σ',H',I.xZ,q⟩
 | ret u=>obtain⟨v,σ',H',I,r,q⟩:=h;exact⟨v,σ',H',I.xZ,r,q⟩
theorem Rh.nox{st:List Stmt}{t:TS}(h:Rh X.nox st t):Rh X st t:=λpins s σ H D I hw=>
 wpAny_mono (h pins s σ H D (I.wish _) hw) (λ_ _ q=>q.xZ) λ_ _ z=>False.elim z
end
section
variable {X:Cx}{st:Stmt}{rest:List Stmt}{t u:TS}{e:AO}{te:TE}{pos:Pos}
def bV:TS:=λD σ H=>D.nx σ H
def bw(t u:TS):TS:=λD σ H=>t { D with nx:=u D } σ H
theorem bG:Rh X [] bV:=λ_ _ σ H _ I h=>wpAny_execs_nil ⟨σ,H,I,h⟩
theorem aB(h1:PS X st t)(h2:Rh X rest u):Rh X (st::rest) (bw t u):=by
 intro pins s σ H D I h;refine wpAny_execs_cons (iJ (h1 pins s σ H { D with nx:=u D } I h) λf s1 q=>?_);cases f with
 | next=>
  obtain⟨σ',H',I',q⟩:=q;exact h2 pins s1 σ' H' D I' q
 | ret v=>exact q
 | brk=>exact q
 | cont=>exact q
theorem aJ(h1:PS X st t):Rh X [st] t:=by
 intro pins s σ H D I h;refine wpAny_execs_cons (iJ (h1 pins s σ H D I h) λf s1 q=>?_);cases f with
 | next=>exact wpAny_execs_nil q
 | ret v=>exact q
 | brk=>exact q
 | cont=>exact q
theorem Inv.quiet{pins:Au}{σ:St}{H:Hp}{s:AL}(I:Inv X pins σ H s):interactive X.env=false:=by simp[interactive,I.ok.kind]
def pR(te:TE):TS:=λD σ H=>te σ H λ_ H1=>D.nx σ H1
theorem lW(he:PE X e te)(hs:swapsWith e none pos.line X.env=pure false:=by rfl):PS X (.Expr e pos) (pR te):=by
 intro pins s σ H D I h;exact wpAny_Expr_any (iJ (he pins s σ H _ I h) λv s1 ⟨x,H1,I1,r1,q1⟩=>⟨σ,H1,I1,q1⟩) I.quiet hs
def cC(te:TE):TS:=λD σ H=>te σ H D.rt
theorem bB(he:PE X e te):PS X (.Return (some e) pos) (cC te):=by
 intro pins s σ H D I h;exact wpAny_Return_some (iJ (he pins s σ H _ I h) λv s1 ⟨x,H1,I1,r1,q1⟩=>⟨x,σ,H1,I1,r1,q1⟩)
def cZ(c:TT)(t u:TS):TS:=λD σ H=>c σ H λb H1=>if b=true then t D σ H1 else u D σ H1
theorem cJ{c:AO}{a b:List Stmt}{tc:TT}(hc:PT X c tc)(ha:Rh X a t)(hb:Rh X b u):PS X (.If c a b pos) (cZ tc t u):=by
 intro pins s σ H D I h;refine wpAny_If (iJ (hc pins s σ H _ I h) λd s1 ⟨H1,I1,q1⟩=>?_);cases d with
 | true=>exact ha pins s1 σ H1 D I1 q1
 | false=>exact hb pins s1 σ H1 D I1 q1
end
abbrev TG:=V->St->Hp->(ν)->Prop
abbrev TGs:=List V->St->Hp->(ν)->Prop
def PG(X:Cx)(target:AO)(t:TG):Prop:=
 ∀(pins:Au) (s:AL) (σ:St) (H:Hp) (v:V) (u:AK) (Q:ν),Inv X pins σ H s->RelV v u->t v σ H Q->
  wpAny ς X.A (assign target X.env u) (λ_ s'=>∃ σ' H',Inv X pins σ' H' s'/\Q σ' H') X.xe s
def PGs(X:Cx)(ts:AH)(t:TGs):Prop:=
 ∀(pins:Au) (s:AL) (σ:St) (H:Hp) (vs:List V) (us:AE) (Q:ν),Inv X pins σ H s->Vals vs us->t vs σ H Q->
  wpAny ς X.A (assignInOrder ((assignEach ts X.env).map (·.2)) us) (λ_ s'=>∃ σ' H',Inv X pins σ' H' s'/\Q σ' H') X.xe s
abbrev Zq3:=V->V->V->Hp->(Hp->Prop)->Prop
def Zwd(X:Cx)(t:Zq3):Prop:=
 ∀(pins:Au) (s:AL) (σ:St) (H:Hp) (o i v:V) (ov iv u:AK) (Q:Hp->Prop),Inv X pins σ H s->RelV o ov->RelV i iv->RelV v u->t o i v H Q->
  wpAny ς X.A (setItem ov iv u) (λ_ s'=>∃H',Inv X pins σ H' s'/\Q H') X.xe s
section
variable {X:Cx}{pos:Pos}
def aO(i:Nat):TG:=λv σ H Q=>Q (σ.set i (some v)) H
theorem fj{i:Nat}{x:Str}(hN:X.N.Nodup)(hi:X.N[i]? =some x)(hx:Loc X.env.scope x)(hf:X.fn x=true\/X.env.scope.names.lookup x=some .local:=by first | exact .inl rfl | exact .inr rfl | assumption):PG X (.Name x pos) (aO i):=by
 intro pins s σ H v u Q I r h;exact wpAny_assign_Name (pU I hN hi hx r (λs' I'=>⟨_,H,I',h⟩) hf)
def Yo:TGs:=λvs σ H Q=>vs=[]/\Q σ H
def pZ(t:TG)(u:TGs):TGs:=λvs σ H Q=>∃v r,vs=v::r/\t v σ H λσ' H'=>u r σ' H' Q
theorem wF:PGs X [] Yo:=by
 intro pins s σ H vs us Q I r h;obtain⟨e,h⟩:=h;subst e;cases r;exact assignInOrder_nil ⟨σ,H,I,h⟩
theorem jo{e:AO}{es:AH}{t:TG}{u:TGs}(h1:PG X e t)(h2:PGs X es u)
  (hs:(assignEach (e::es) X.env).map (·.2)=assign e X.env::(assignEach es X.env).map (·.2):=by rfl):PGs X (e::es) (pZ t u):=by
 intro pins s σ H vs us Q I r h;obtain⟨v,vr,e1,h⟩:=h;subst e1;cases r with
 | cons r rr=>
  rw[hs];refine assignInOrder_cons (iJ (h1 pins s σ H _ _ _ I r h) λ_ s1 ⟨σ1,H1,I1,q1⟩=>?_);exact h2 pins s1 σ1 H1 _ _ Q I1 rr q1
def Yn(K:aK)(n:Nat)(t:TGs):TG:=λv σ H Q=>∃a xs,v=.ref a/\ig K H a xs/\xs.length=n/\t xs σ H Q
theorem BR{es:AH}{k:Nat}{t:TGs}{n:Nat}(hc:X.calm=true)(h:PGs X es t)
  (hn:(assignEach es X.env).length=n:=by rfl) (hst:(assignEach es X.env).findIdx? (·.1)=none:=by rfl):PG X (.Tuple es k pos) (Yn X.K n t):=by
 intro pins s σ H v u Q I r hw;obtain⟨a,xs,e1,hq,hl,hw⟩:=hw;subst e1;cases r;obtain⟨its,rv,ht,hz⟩:=I.tuple hq;refine assign_Tuple_tuple (I.ok.hd hc) ht (by simp[hn,<- hl,rv.length]) hst λh' hx=>?_;have I1:Inv X pins σ H { s with heap:=h' }:=I.kept (t':=s.toks) λb o e=>hx b o (Nat.ne_of_lt (Heap.lt_size e)) e;exact h pins _ σ H xs _ Q I1 (by simpa using rv) hw
def Jg(to ti:TE)(t:Zq3):TG:=λv σ H Q=>to σ H λo H1=>ti σ H1 λi H2=>t o i v H2 λH3=>Q σ H3
theorem BV{o i:AO}{to ti:TE}{t:Zq3}(ho:PE X o to)(hi:PE X i ti)(hs:Zwd X t)
  (ha:∀v,assign (.Subscript o i pos) X.env v=(do
   let ov <- holding [v] (eval o X.env)
   let iv <- holding [v,ov] (eval i X.env)
   standAt pos
   holding [v,ov,iv] (setItem ov iv v)
   release [v,ov,iv] []):=by intro _;rfl):PG X (.Subscript o i pos) (Jg to ti t):=by
 intro pins s σ H v u Q I r h;rw[ha];refine wpAny_bind (wpAny_holding (iJ (ho pins s σ H _ I h) λov s1 ⟨x,H1,I1,r1,q1⟩=>?_));refine wpAny_bind (wpAny_holding (iJ (hi pins s1 σ H1 _ I1 q1) λiv s2 ⟨y,H2,I2,r2,q2⟩=>?_));refine wpAny_bind (wpAny_standAt (wpAny_bind (wpAny_holding (iJ (hs pins s2 σ H2 x y v ov iv u _ I2 r1 r2 r q2) λ_ s3 ⟨H3,I3,q3⟩=>?_))));exact wpAny_release ⟨σ,H3,I3,q3⟩
def bO(te:TE)(g:TG):TS:=λD σ H=>te σ H λx H1=>g x σ H1 D.nx
theorem wC{tg e:AO}{te:TE}{g:TG}(he:PE X e te)(hg:PG X tg g)(hs:swapsWithSole [tg] e pos.line X.env=pure false:=by rfl)(hw:swappedStores [tg] e X.env=pure none:=by rfl)
  (h1:(assignEach [tg] X.env).map (·.2)=[assign tg X.env]:=by rfl):PS X (.Assign [tg] e pos) (bO te g):=by
 intro pins s σ H D I h;refine wpAny_Assign_stores (iJ (he pins s σ H _ I h) λv s1 ⟨x,H1,I1,r1,q1⟩=>?_) hs hw;rw[h1];exact iJ (hg pins s1 σ H1 x v _ I1 r1 q1) λ_ s2 q=>q
theorem W5{i:Nat}{x:Str}{e:AO}{te:TE}{pos':Pos}(hN:X.N.Nodup)(hi:X.N[i]? =some x)(hx:Loc X.env.scope x)(he:PE X e te)(hs:swapsWith e (some (.Name x pos')) pos.line X.env=pure false:=by rfl)(hf:X.fn x=true\/X.env.scope.names.lookup x=some .local:=by first | exact .inl rfl | exact .inr rfl | assumption):
  PS X (.Assign [.Name x pos'] e pos) (bO te (aO i)):=by
 intro pins s σ H D I h;refine wpAny_Assign_Name (iJ (he pins s σ H _ I h) λv s1 ⟨y,H1,I1,r1,q1⟩=>?_) hs;exact pU I1 hN hi hx r1 (λs2 I2=>⟨_,H1,I2,q1⟩) hf
end
section
variable {X:Cx}{pos:Pos}
def Zj6(c:TT)(tb:TS):TS:=λD σ H=>∃W:Nat->ν,(∃m,W m σ H)/\∀m σ H,W m σ H->
 c σ H λb H1=>if b=true then ∃N:ν,(∀ σ' H',N σ' H'->∃m',m'<m/\W m' σ' H')/\tb { D with nx:=N,ct:=N,bk:=D.nx } σ H1 else D.nx σ H1
theorem Zk0{c:AO}{body:List Stmt}{tc:TT}{tb:TS}(hp:PassesOwn ς X.A X.env X.xe)(hc:PT X c tc)(hb:Rh X body tb):PS X (.While c body [] pos) (Zj6 tc tb):=by
 intro pins s σ H D I h;obtain⟨W,⟨m0,w0⟩,turn⟩:=h;refine wpAny_While (codeAny_whileLoop (λn s'=>∃ σ' H',Inv X pins σ' H' s'/\W n σ' H') ?_ m0 ⟨σ,H,I,w0⟩);rintro n s1 ⟨σ1,H1,I1,w1⟩;refine wpAny_passesOwn hp (iJ (hc pins s1 σ1 H1 _ I1 (turn n σ1 H1 w1)) λb s2 ⟨H2,I2,q2⟩=>?_);cases b with
 | true=>
  obtain⟨N,hN,q2⟩:=q2;rw[if_pos rfl];refine wpAny_passesOwn hp (iJ (hb pins s2 σ1 H2 _ I2 q2) λf s3 q3=>?_);cases f with
  | next=>
   obtain⟨σ3,H3,I3,n3⟩:=q3;obtain⟨m',hm,w3⟩:=hN σ3 H3 n3;exact⟨m',hm,σ3,H3,I3,w3⟩
  | cont=>
   obtain⟨σ3,H3,I3,n3⟩:=q3;obtain⟨m',hm,w3⟩:=hN σ3 H3 n3;exact⟨m',hm,σ3,H3,I3,w3⟩
  | brk=>exact q3
  | ret v=>exact q3
 | false=>
  rw[if_neg Bool.false_ne_true];exact wpAny_execs_nil ⟨σ1,H2,I2,q2⟩
end
structure It where
 go:Nat->Hp->Prop
 yld:Nat->Hp->V->Hp->Prop
 stop:Nat->Hp->Prop
def sG(X:Cx)(pins:Au)(H:Hp)(b:AJ):Prop:=
 H b=none/\b≠X.env.locals/\b∉X.fs/\(b∈X.ex\/X.s₀.heap.objs.size<=b)/\(∀x c,X.env.cells.lookup x=some c->c≠b)/\∀p∈X.pn++pins,p.1≠b
theorem Inv.Zem{X:Cx}{pins:Au}{σ:St}{H H':Hp}{s:AL}{b:AJ}(I:Inv X pins σ H s)(hb:s.heap.objs.size<=b)(hn:H' b=none):sG X pins H' b:=by
 refine⟨hn,Nat.ne_of_gt (Nat.lt_of_lt_of_le I.lt hb),I.Zwq hb,.inr (Nat.le_trans I.sz hb),λx c e z=>?_,λp hp z=>?_⟩
 ·obtain⟨v,q⟩:=I.cell x c e;exact absurd (Nat.lt_of_lt_of_le q.lt (by rw[z];exact hb)) (Nat.lt_irrefl _)
 ·exact absurd (Nat.lt_of_lt_of_le (Heap.lt_size (I.pin p hp).1) (by rw[z];exact hb)) (Nat.lt_irrefl _)
structure Turn(P:AN)(w:AQ)(K:aK)(tg:AO)(J:It)(fp:AG)(it:AJ)(tn:Nat->Heap->Prop):Prop where
  mem:it∈fp
  obj:∀i h,tn i h->∀b∈fp,∃o,h.get? b=some o/\∀v,o.data≠.cell v
  keep:∀i h h',tn i h->(∀b∈fp,∀o,h.get? b=some o->h'.get? b=some o)->tn i h'
  item:∀(X:Cx),X.prog=P->X.w=w->X.K=K->X.calm=true->∀(i:Nat) (pins:Au) (s:AL) (σ:St) (H:Hp) (E:Ap),Inv X pins σ H s->(∀b∈fp,sG X pins H b)->tn i s.heap->J.go i H->
    wpAny (model P w) X.A (pyNext (.ref it)) (λr s1=>∃u,r=some u/\
      wpAny (model P w) X.A (letOwnedTupleGo tg (.ref it) u) (λ_ s2=>∃x H',Inv X pins σ H' s2/\RelV x u/\J.yld i H x H'/\tn (i+1) s2.heap/\∀b∈fp,H' b=none) E s1) E s
  done:∀(X:Cx),X.prog=P->X.w=w->X.K=K->X.calm=true->∀(i:Nat) (pins:Au) (s:AL) (σ:St) (H:Hp) (E:Ap),Inv X pins σ H s->(∀b∈fp,sG X pins H b)->tn i s.heap->J.stop i H->
    wpAny (model P w) X.A (pyNext (.ref it)) (λr s1=>r=none/\Inv X pins σ H s1) E s
  self:∀(A:Around) (i:Nat) (s:AL) (Q:Ap) (E:Ap),tn i s.heap->Q (.ref it) s->wpAny (model P w) A (pyIter (.ref it)) Q E s
abbrev TI:=St->Hp->(It->Hp->Prop)->Prop
def PIE(X:Cx)(pins:Au)(σ:St)(tg:AO)(R:It->Hp->Prop)(itv:AK)(s2:AL):Prop:=
 ∃(it:AJ) (fp:AG) (tn:Nat->Heap->Prop) (J:It) (H':Hp),itv=.ref it/\Inv X pins σ H' s2/\Turn X.prog X.w X.K tg J fp it tn/\tn 0 s2.heap/\(∀b∈fp,sG X pins H' b)/\R J H'
def PI(X:Cx)(tg iter:AO)(wi:TI):Prop:=
 ∀(pins:Au) (s:AL) (σ:St) (H:Hp) (R:It->Hp->Prop),Inv X pins σ H s->wi σ H R->
  wpAny ς X.A (eval iter X.env) (λv s1=>wpAny ς X.A (pyIter v) (PIE X pins σ tg R) X.xe s1) X.xe s
theorem Zg8{M:Model}{A:Around}{E:Ap}{s:AL}{tg:AO}{it:AJ}{u:AK}{o:Obj}{n:String}{vs:Array AK}{Q:Unit->AL->Prop}(ho:s.heap.get? it=some o)(hc:o.cls=.type n)(hd:o.data=.fields vs)
    (hn:["enumerate","zip","dict_itemiterator","dict_reverseitemiterator","odict_iterator","itertools.zip_longest","itertools.pairwise"].contains n=false) (hQ:Q () s):wpAny M A (letOwnedTupleGo tg (.ref it) u) Q E s:=by
  unfold letOwnedTupleGo;cases tg<;>first
    | exact wpAny_pure hQ
    | (cases u<;>first
        | exact wpAny_pure hQ
        | (refine wpAny_bind (wpAny_load ho ?_)
           rw[hc,hd];show wpAny M A (if (["enumerate","zip","dict_itemiterator","dict_reverseitemiterator","odict_iterator","itertools.zip_longest","itertools.pairwise"].contains n && vs[0]? == some (rawInt _))=true then _ else _) Q E s;rw[if_neg (by intro h;rw[hn,Bool.false_and]at h;cases h)];exact wpAny_pure hQ))
def Itl(K:aK)(a:AJ):It:=
 ⟨λi H=>∃xs x,cN K H a xs/\xs[i]? =some x,λi H x H'=>H'=H/\∀xs,cN K H a xs->xs[i]? =some x,λi H=>∃xs,cN K H a xs/\xs.length<=i⟩
def Itr(lo:Int)(n:Nat):It:=⟨λi _=>i<n,λi H x H'=>H'=H/\x=.int (lo+i),λi _=>n<=i⟩
theorem Zh7{P:AN}{w:AQ}{K:aK}{tg:AO}(a it:AJ):Turn P w K tg (Itl K a) [it] it (λi h=>h.IsListIter it a i) where
  mem:=ζ
  obj:=λi h st b hb=>by
    have e:b=it:=by simpa using hb
    subst e;obtain⟨o,e,c,d⟩:=st;exact⟨o,e,λv z=>by rw[d]at z;cases z⟩
  keep:=λi h h' st k=>st.at λo e=>k it ζ o e
  item:=by
    intro X hP hw hK hc i pins s σ H E I hf st hg;subst hP hw hK;obtain⟨xs,x,hq,hx⟩:=hg;obtain⟨its,rv,p,hz⟩:=I.list hq;obtain⟨u,hu,ru⟩:=rv.get hx;obtain⟨f0,f1,f2,f3,f4,f5⟩:=hf it ζ;refine wpAny_pyNext_list_item st p.isList (x:=u) (by simpa using hu) λh' st' sb=>?_;have I1:Inv X pins σ H { s with heap:=h' }:=I.turned (t':=s.toks) (λb o hb e=>(sb.2 b hb).trans e) f0 f1 f3 f4 f5;obtain⟨o,e,c,d⟩:=id st';exact⟨u,rfl,Zg8 (s:={ s with heap:=h' }) e c d ε ⟨x,H,I1,ru,⟨rfl,λys hy=>by rw[I.Qt hy hq];exact hx⟩,st',λb hb=>(hf b hb).1⟩⟩
  done:=by
    intro X hP hw hK hc i pins s σ H E I hf st hg;subst hP hw hK;obtain⟨xs,hq,hx⟩:=hg;obtain⟨its,rv,p,hz⟩:=I.list hq;obtain⟨f0,f1,f2,f3,f4,f5⟩:=hf it ζ;have hl:=rv.length;exact wpAny_pyNext_list_end (I.ok.hd hc) st p.isList (by simp;omega) λh' eb=>⟨rfl,I.turned (t':=s.toks) (λb o hb e=>eb b o hb e) f0 f1 f3 f4 f5⟩
  self:=λ_ _ _ _ _ st h=>wpAny_pyIter_listiter st h
theorem Zcd{P:AN}{w:AQ}{K:aK}{tg:AO}(it:AJ)(lo:Int)(n:Nat):Turn P w K tg (Itr lo n) [it] it (λi h=>IsRangeIter h it (lo+(i:Nat) * 1) ((n:Int) - (i:Nat)) 1) where
  mem:=ζ
  obj:=λi h st b hb=>by
    have e:b=it:=by simpa using hb
    subst e;exact⟨_,st,λv z=>by
      have z':Data.fields _=Data.cell v:=z;cases z'⟩
  keep:=λi h h' st k=>k it ζ _ st
  item:=by
    intro X hP hw hK hc i pins s σ H E I hf st hg;subst hP hw hK;obtain⟨f0,f1,f2,f3,f4,f5⟩:=hf it ζ;have W:=Walks.range (prog:=X.prog) (w:=X.w) (I.ok.hd hc) it lo 1 n;refine W.item i s _ _ hg st λv h' tk hv st' kk=>?_;obtain⟨t,rfl⟩:=hv;have I1:Inv X pins σ H { s with heap:=h',toks:=tk }:=I.turned (λb o hb e=>kk b o (by simpa using hb) e) f0 f1 f3 f4 f5;refine⟨_,rfl,Zg8 (s:={ s with heap:=h',toks:=tk }) (n:="range_iterator") st' rfl rfl ε ⟨.int (lo+i),H,I1,⟨t,?_⟩,⟨rfl,rfl⟩,st',λb hb=>(hf b hb).1⟩⟩;rw[Int.mul_one]
  done:=by
    intro X hP hw hK hc i pins s σ H E I hf st hg;subst hP hw hK;obtain⟨f0,f1,f2,f3,f4,f5⟩:=hf it ζ;exact wpAny_pyNext_range_end (I.ok.hd hc) st (by have:n<=i:=hg;omega) λh' eb=>⟨rfl,I.turned (t':=s.toks) (λb o hb e=>eb b o hb e) f0 f1 f3 f4 f5⟩
  self:=λ_ _ _ _ _ st h=>wpAny_pyIter_rangeiter st h
section
variable {X:Cx}{tg:AO}
def Em(K:aK)(tl:TE):TI:=λσ H R=>tl σ H λx H1=>∃a,x=.ref a/\(∃xs,cN K H1 a xs)/\R (Itl K a) H1
theorem wD{l:AO}{tl:TE}(hl:PE X l tl):PI X tg l (Em X.K tl):=by
 intro pins s σ H R I h;refine iJ (hl pins s σ H _ I h) λv s1 ⟨x,H1,I1,r1,q1⟩=>?_;obtain⟨a,e,⟨xs,hq⟩,q⟩:=q1;subst e;cases r1;obtain⟨its,rv,p,hz⟩:=I1.list hq;refine wpAny_pyIter_list p.isList ?_;refine⟨s1.heap.objs.size,[s1.heap.objs.size],_,_,H1,rfl,I1.kept (t':=s1.toks) λb o e=>Heap.get?_push_of_some _ e,Zh7 a _,⟨_,Heap.get?_push_size _ rfl,rfl,rfl⟩,λb hb=>?_,q⟩;have e:b=s1.heap.objs.size:=by simpa using hb
 subst e;exact I1.Zem χ (I1.hok.fresh χ)
theorem Z0{pins:Au}{σ:St}{H:Hp}{s:AL}{R:It->Hp->Prop}{E:Ap}{lo hi:Int}{t u v:Tok}{tk:Nat}(I:Inv X pins σ H s)(h1:-(2 ^ 62)<=lo)(h2:lo<2 ^ 62)(h3:-(2 ^ 62)<=hi)(h4:hi<2 ^ 62)
  (q:R (Itr lo (hi - lo).toNat) H):wpAny ς X.A (pyIter (.ref s.heap.objs.size)) (PIE X pins σ tg R) E { s with heap:=s.heap.push { cls:=.type "range",data:=.fields #[.int lo t,.int hi u,.int 1 v] },toks:=tk }:=by
 refine wpAny_pyIter_range (IsRange.new ..) (small_one h1 h2 h3 h4) ?_;have I1:Inv X pins σ H { s with heap:=s.heap.push { cls:=.type "range",data:=.fields #[.int lo t,.int hi u,.int 1 v] },toks:=tk }:=I.kept λb o e=>Heap.get?_push_of_some _ e;refine⟨(s.heap.push { cls:=.type "range",data:=.fields #[.int lo t,.int hi u,.int 1 v] }).objs.size,[(s.heap.push { cls:=.type "range",data:=.fields #[.int lo t,.int hi u,.int 1 v] }).objs.size],_,_,H,rfl,
  I1.kept (t':=tk) λb o e=>Heap.get?_push_of_some _ e,Zcd _ lo (hi - lo).toNat,?_,λb hb=>?_,q⟩
 ·have e1:lo+((0:Nat):Int) * 1=lo:=ζ
  have e2:(((hi - lo).toNat:Nat):Int) - ((0:Nat):Int)=Builtin.Range.rangeSize lo hi 1:=by rw[rangeSize_one];split<;>omega
  show IsRangeIter _ _ (lo+((0:Nat):Int) * 1) ((((hi - lo).toNat:Nat):Int) - ((0:Nat):Int)) 1;rw[e1,e2];exact Heap.get?_push_size _ rfl
 ·have e:b=(s.heap.push { cls:=.type "range",data:=.fields #[.int lo t,.int hi u,.int 1 v] }).objs.size:=by simpa using hb
  subst e;exact I1.Zem χ (I1.hok.fresh χ)
def El(ta:TA):TI:=λσ H R=>ta σ H λvs H1=>∃j:Int,vs=[.int j]/\-(2 ^ 62)<=j/\j<2 ^ 62/\R (Itr 0 j.toNat) H1
def Zas(ta:TA):TI:=λσ H R=>ta σ H λvs H1=>∃i j:Int,vs=[.int i,.int j]/\(-(2 ^ 62)<=i/\i<2 ^ 62/\-(2 ^ 62)<=j/\j<2 ^ 62)/\R (Itr i (j - i).toNat) H1
theorem pq{a:AO}{ta:TA}{p pos:Pos}(hg:Gl X "range")(hm:X.mg "range"=none)(ha:PA X [a] ta)(hs:starEach [a] X.env=[(false,eval a X.env)]:=by rfl):PI X tg (.Call (.Name "range" p) [a] [] pos) (El ta):=by
 intro pins s σ H R I h;refine Call_ (Ck I hg hm boot_range (PyProof.Rows.callWith_type1 (iJ (ha pos pins s σ H _ I h) λus s1 ⟨vs,H1,I1,r1,q1⟩=>?_) hs rfl));obtain⟨j,e,q1,q2,q⟩:=q1;subst e;cases r1 with
 | cons r rr=>
  cases rr;obtain⟨t,rfl⟩:=r;exact call_range_1 (Z0 I1 δ δ q1 q2 (by simpa using q))
theorem Vn{a b:AO}{ta:TA}{p pos:Pos}(hg:Gl X "range")(hm:X.mg "range"=none)(ha:PA X [a,b] ta)(hs:starEach [a,b] X.env=[(false,eval a X.env),(false,eval b X.env)]:=by rfl)(hs2:starEach [b] X.env=[(false,eval b X.env)]:=by rfl):
  PI X tg (.Call (.Name "range" p) [a,b] [] pos) (Zas ta):=by
 intro pins s σ H R I h;refine Call_ (Ck I hg hm boot_range (PyProof.Rows.callWith_type1 (iJ (ha pos pins s σ H _ I h) λus s1 ⟨vs,H1,I1,r1,q1⟩=>?_) (by rw[hs,hs2]) (by rw[hs2];rfl)));obtain⟨i,j,e,⟨q1,q2,q3,q4⟩,q⟩:=q1;subst e;cases r1 with
 | cons r rr=>
  cases rr with
  | cons r' rr=>
   cases rr;obtain⟨t,rfl⟩:=r;obtain⟨t',rfl⟩:=r';exact call_range_2 (Z0 I1 q1 q2 q3 q4 q)
def zR(wi:TI)(g:TG)(tb:TS):TS:=λD σ H=>wi σ H λJ H1=>∃W:Nat->Nat->ν,(∃m,W 0 m σ H1)/\∀i m σ H,W i m σ H->
 (J.stop i H/\D.nx σ H)\/(J.go i H/\∃N:ν,(∀ σ' H',N σ' H'->∃m',m'<m/\W (i+1) m' σ' H')/\∀x H',J.yld i H x H'->g x σ H' λσ2 H2=>tb { D with nx:=N,ct:=N,bk:=D.nx } σ2 H2)
def BP(fp:AG)(h:Heap):Au:=fp.filterMap λb=>(h.get? b).map λo=>(b,o)
theorem t6{fp:AG}{h:Heap}{b:AJ}{o:Obj}(hb:b∈fp)(e:h.get? b=some o):(b,o)∈BP fp h:=List.mem_filterMap.mpr ⟨b,hb,by rw[e];rfl⟩
theorem Vp{fp:AG}{h:Heap}{p:AJ×Obj}(hp:p∈BP fp h):p.1∈fp/\h.get? p.1=some p.2:=by
 obtain⟨b,hb,e⟩:=List.mem_filterMap.mp hp;cases q:h.get? b with
 | none=>rw[q]at e;cases e
 | some o=>
  rw[q]at e;have e':(b,o)=p:=Option.some.inj e;subst e';exact⟨hb,q⟩
theorem Inv.pinned{pins:Au}{σ:St}{H:Hp}{s:AL}{fp:AG}(I:Inv X pins σ H s)(hf:∀b∈fp,sG X pins H b)(ho:∀b∈fp,∃o,s.heap.get? b=some o/\∀v,o.data≠.cell v):Inv X (pins++BP fp s.heap) σ H s:=
 I.zB λp hp=>(List.mem_append.mp hp).elim (λz=>I.pin p (List.mem_append_right _ z)) λz=>by
  obtain⟨hb,e⟩:=Vp z;obtain⟨f0,f1,f2,_⟩:=hf p.1 hb;obtain⟨o,e',d⟩:=ho p.1 hb;rw[e]at e';cases e';exact⟨e,f0,f1,f2,d⟩
theorem Inv.De{pins pl:Au}{σ:St}{H:Hp}{s:AL}(I:Inv X (pins++pl) σ H s):Inv X pins σ H s:=I.zB λp hp=>I.pin p (List.mem_append_right _ (List.mem_append_left _ hp))
theorem nY{iter:AO}{body:List Stmt}{wi:TI}{g:TG}{tb:TS}{pos:Pos}(hp:PassesOwn ς X.A X.env X.xe)(hc:X.calm=true)(hi:PI X tg iter wi)(hg:PG X tg g)(hb:Rh X body tb)
  (hs:∀x,foldedSetIterable iter X.env x=pure x:=by intro _;rfl):PS X (.For tg iter body [] pos) (zR wi g tb):=by
 intro pins s σ H D I h;refine wpAny_For (iJ (hi pins s σ H _ I h) λv s1 h1=>iJ h1 λitv s2 h2=>?_) hs;obtain⟨it,fp,tn,J,H2,e,I2,T,st2,f2,W,⟨m0,w0⟩,turn⟩:=h2;subst e;have stat:∀{H':Hp},(∀b∈fp,H' b=none)->∀b∈fp,sG X pins H' b:=λhn b hb=>⟨hn b hb,(f2 b hb).2⟩;refine codeAny_forLoop_any (λn s'=>∃i σ' H',Inv X pins σ' H' s'/\tn i s'.heap/\(∀b∈fp,H' b=none)/\W i n σ' H') ?_ m0 ⟨0,σ,H2,I2,st2,λb hb=>(f2 b hb).1,w0⟩;rintro n s3 ⟨i,σ3,H3,I3,st3,fr3,w3⟩;rcases turn i n σ3 H3 w3 with ⟨stop,qn⟩ | ⟨go,N,hN,step⟩
 ·refine wpAny_passesOwn hp (iJ (T.done X rfl rfl rfl hc i pins s3 σ3 H3 X.xe I3 (stat fr3) st3 stop) λr s4 ⟨hr,I4⟩=>?_);subst hr;exact wpAny_execs_nil ⟨σ3,H3,I4,qn⟩
 ·refine wpAny_passesOwn hp (iJ (T.item X rfl rfl rfl hc i pins s3 σ3 H3 X.xe I3 (stat fr3) st3 go) λr s4 ⟨u,hr,h4⟩=>?_);subst hr;refine wpAny_passesOwn hp (iJ h4 λ_ s5 ⟨x,H5,I5,r5,y5,st5,fr5⟩=>?_);have I5':=I5.pinned (stat fr5) (T.obj _ _ st5);refine wpAny_passesOwn hp (iJ (hg _ s5 σ3 H5 x u _ I5' r5 (step x H5 y5)) λ_ s6 ⟨σ6,H6,I6,q6⟩=>?_);refine wpAny_passesOwn hp (iJ (hb _ s6 σ6 H6 _ I6 q6) λf s7 q7=>?_);have again:∀{σ7:St}{H7:Hp},Inv X (pins++BP fp s5.heap) σ7 H7 s7->N σ7 H7->∃m,m<n/\∃i σ' H',Inv X pins σ' H' s7/\tn i s7.heap/\(∀b∈fp,H' b=none)/\W i m σ' H':=λ{σ7 H7} I7 n7=>by
   obtain⟨m',hm,w7⟩:=hN σ7 H7 n7;refine⟨m',hm,i+1,σ7,H7,I7.De,T.keep _ _ _ st5 λb hb o e=>(I7.pin (b,o) (List.mem_append_right _ (List.mem_append_right _ (t6 hb e)))).1,λb hb=>?_,w7⟩;obtain⟨o,e,d⟩:=T.obj _ _ st5 b hb;exact(I7.pin (b,o) (List.mem_append_right _ (List.mem_append_right _ (t6 hb e)))).2.1
  cases f with
  | next=>obtain⟨σ7,H7,I7,n7⟩:=q7;exact again I7 n7
  | cont=>obtain⟨σ7,H7,I7,n7⟩:=q7;exact again I7 n7
  | brk=>obtain⟨σ7,H7,I7,q7⟩:=q7;exact⟨σ7,H7,I7.De,q7⟩
  | ret v=>obtain⟨x7,σ7,H7,I7,r7,q7⟩:=q7;exact⟨x7,σ7,H7,I7.De,r7,q7⟩
end
theorem Zma{K:aK}{a:AJ}{xs:List V}{g:TG}{tb:TS}{D:Ends}{σ:St}{H:Hp}(Pv:Nat->ν)(h0:Pv 0 σ H)(hl:∀i σ H,i<=xs.length->Pv i σ H->cN K H a xs)
  (hs:∀i x σ H,xs[i]? =some x->Pv i σ H->g x σ H λσ2 H2=>tb { D with nx:=Pv (i+1),ct:=Pv (i+1),bk:=D.nx } σ2 H2) (hd:∀ σ H,Pv xs.length σ H->D.nx σ H):
  ∃W:Nat->Nat->ν,(∃m,W 0 m σ H)/\∀i m σ H,W i m σ H->
   ((Itl K a).stop i H/\D.nx σ H)\/((Itl K a).go i H/\∃N:ν,(∀ σ' H',N σ' H'->∃m',m'<m/\W (i+1) m' σ' H')/\∀x H',(Itl K a).yld i H x H'->g x σ H' λσ2 H2=>tb { D with nx:=N,ct:=N,bk:=D.nx } σ2 H2):=by
 refine⟨λi m σ H=>m=xs.length - i/\i<=xs.length/\Pv i σ H,⟨xs.length,ζ,Nat.zero_le _,h0⟩,?_⟩;rintro i m σ H ⟨rfl,hi,p⟩;have q:=hl i σ H hi p
 by_cases hlt:i<xs.length
 ·refine .inr ⟨⟨xs,xs[i],q,by simp[hlt]⟩,Pv (i+1),λσ' H' p'=>⟨xs.length - (i+1),δ,rfl,hlt,p'⟩,λx H' y=>?_⟩;obtain⟨e,y⟩:=y;subst e;exact hs i x σ _ (y xs q) p
 ·have e:i=xs.length:=δ
  subst e;exact .inl ⟨⟨xs,q,Nat.le_refl _⟩,hd σ H p⟩
theorem Zi7{lo:Int}{n:Nat}{g:TG}{tb:TS}{D:Ends}{σ:St}{H:Hp}(Pv:Nat->ν)(h0:Pv 0 σ H)
  (hs:∀i σ H,i<n->Pv i σ H->g (.int (lo+i)) σ H λσ2 H2=>tb { D with nx:=Pv (i+1),ct:=Pv (i+1),bk:=D.nx } σ2 H2) (hd:∀ σ H,Pv n σ H->D.nx σ H):
  ∃W:Nat->Nat->ν,(∃m,W 0 m σ H)/\∀i m σ H,W i m σ H->
   ((Itr lo n).stop i H/\D.nx σ H)\/((Itr lo n).go i H/\∃N:ν,(∀ σ' H',N σ' H'->∃m',m'<m/\W (i+1) m' σ' H')/\∀x H',(Itr lo n).yld i H x H'->g x σ H' λσ2 H2=>tb { D with nx:=N,ct:=N,bk:=D.nx } σ2 H2):=by
 refine⟨λi m σ H=>m=n - i/\i<=n/\Pv i σ H,⟨n,ζ,Nat.zero_le _,h0⟩,?_⟩;rintro i m σ H ⟨rfl,hi,p⟩
 by_cases hlt:i<n
 ·refine .inr ⟨hlt,Pv (i+1),λσ' H' p'=>⟨n - (i+1),δ,rfl,hlt,p'⟩,λx H' y=>?_⟩;obtain⟨e,y⟩:=y;subst e y;exact hs i σ _ hlt p
 ·have e:i=n:=δ
  subst e;exact .inl ⟨Nat.le_refl _,hd σ H p⟩
abbrev R2:=V->V->Hp->VK->Prop
def wZ(X:Cx)(f:AK->AK->Sem AK)(r:R2):Prop:=
 ∀(pins:Au) (s:AL) (σ:St) (H:Hp) (x y:V) (v u:AK) (Q:VK),Inv X pins σ H s->RelV x v->RelV y u->r x y H Q->
  wpAny ς X.A (f v u) (EP X pins σ Q) X.xe s
def UnR(X:Cx)(f:AK->Sem AK)(r:V->Hp->VK->Prop):Prop:=
 ∀(pins:Au) (s:AL) (σ:St) (H:Hp) (x:V) (v:AK) (Q:VK),Inv X pins σ H s->RelV x v->r x H Q->
  wpAny ς X.A (f v) (EP X pins σ Q) X.xe s
def oR(X:Cx)(f:AK)(r:List V->Hp->VK->Prop):Prop:=
 ∀(pins:Au) (s:AL) (σ:St) (H:Hp) (xs:List V) (us:AE) (Q:VK),Inv X pins σ H s->Vals xs us->r xs H Q->
  wpAny ς X.A (call f us) (EP X pins σ Q) X.xe s
def aN(r:R2)(ta tb:TE):TE:=λσ H Q=>ta σ H λx H1=>tb σ H1 λy H2=>r x y H2 Q
def tUn(r:V->Hp->VK->Prop)(ta:TE):TE:=λσ H Q=>ta σ H λx H1=>r x H1 Q
def rI(C:Int->Int->Prop)(g:Int->Int->V):R2:=λx y H Q=>∃i j,x=.int i/\y=.int j/\C i j/\Q (g i j) H
def ir(g:Int->Int->V):R2:=λx y H Q=>∃i j,x=.int i/\y=.int j/\Q (g i j) H
def rU(g:Int->V):V->Hp->VK->Prop:=λx H Q=>∃i,x=.int i/\Q (g i) H
section
variable {X:Cx}{a b c:AO}{ta tb tc:TE}{pos:Pos}
theorem Zu0(ha:PE X a ta)(hb:PE X b tb){pins:Au}{s:AL}{σ:St}{H:Hp}{R:V->V->Hp->Prop}(I:Inv X pins σ H s)
  (h:ta σ H λx H1=>tb σ H1 λy H2=>R x y H2) {Q:Ap}{f:AK->AK->Sem AK}
  (hf:∀v u s2 x y H2,Inv X pins σ H2 s2->RelV x v->RelV y u->R x y H2->wpAny ς X.A (f v u) Q X.xe s2):
  wpAny ς X.A (eval a X.env) (λv s₁=>wpAny ς X.A (eval b X.env) (λu s₂=>wpAny ς X.A (f v u) Q X.xe s₂) X.xe s₁) X.xe s:=by
 refine iJ (ha pins s σ H _ I h) λv s1 ⟨x,H1,I1,r1,q1⟩=>?_;refine iJ (hb pins s1 σ H1 _ I1 q1) λu s2 ⟨y,H2,I2,r2,q2⟩=>?_;exact hf v u s2 x y H2 I2 r1 r2 q2
theorem aL{op:Operator}{r:R2}(ho:wZ X (binaryOp op) r)(ha:PE X a ta)(hb:PE X b tb):PE X (.BinOp a op b pos) (aN r ta tb):=by
 intro pins s σ H Q I h;exact wpAny_BinOp (Zu0 ha hb I h λv u s2 x y H2 I2 rx ry q=>ho pins s2 σ H2 x y v u Q I2 rx ry q)
theorem Zuj{op:UnaryOp}{r:V->Hp->VK->Prop}(ho:UnR X (unaryOp op) r)(ha:PE X a ta):PE X (.UnaryOp op a pos) (tUn r ta):=by
 intro pins s σ H Q I h;exact UnaryOp_ (iJ (ha pins s σ H _ I h) λv s1 ⟨x,H1,I1,r1,q1⟩=>ho pins s1 σ H1 x v Q I1 r1 q1)
theorem opI{f:AK->AK->Sem AK}{C:Int->Int->Prop}{g:Int->Int->Int}
  (rule:∀(i j:Int) (t u:Tok) (s:AL) (Q:Ap) (E:Ap),C i j->Q (.int (g i j) s.toks) { s with toks:=s.toks+1 }->wpAny ς X.A (f (.int i t) (.int j u)) Q E s):
  wZ X f (rI C λi j=>.int (g i j)):=by
 intro pins s σ H x y v u Q I rx ry h;obtain⟨i,j,rfl,rfl,hc,q⟩:=h;obtain⟨t,rfl⟩:=rx;obtain⟨t',rfl⟩:=ry;exact rule i j t t' s _ _ hc ⟨.int (g i j),H,I.tok _,⟨_,rfl⟩,q⟩
theorem Zs0{f:AK->AK->Sem AK}{g:Int->Int->Int}
  (rule:∀(i j:Int) (t u:Tok) (s:AL) (Q:Ap) (E:Ap),Q (.int (g i j) s.toks) { s with toks:=s.toks+1 }->wpAny ς X.A (f (.int i t) (.int j u)) Q E s):
  wZ X f (ir λi j=>.int (g i j)):=by
 intro pins s σ H x y v u Q I rx ry h;obtain⟨i,j,rfl,rfl,q⟩:=h;obtain⟨t,rfl⟩:=rx;obtain⟨t',rfl⟩:=ry;exact rule i j t t' s _ _ ⟨.int (g i j),H,I.tok _,⟨_,rfl⟩,q⟩
theorem Zog{f:AK->AK->Sem AK}{g:Int->Int->Bool}
  (rule:∀(i j:Int) (t u:Tok) (s:AL) (Q:Ap) (E:Ap),Q (.bool (g i j)) s->wpAny ς X.A (f (.int i t) (.int j u)) Q E s):
  wZ X f (ir λi j=>.bl (g i j)):=by
 intro pins s σ H x y v u Q I rx ry h;obtain⟨i,j,rfl,rfl,q⟩:=h;obtain⟨t,rfl⟩:=rx;obtain⟨t',rfl⟩:=ry;exact rule i j t t' s _ _ ⟨.bl (g i j),H,I,rfl,q⟩
def lq(i j:Int):Prop:=0<j/\j<1073741824
def FT(i j:Int):Prop:=0<=j/\j<=1000000/\i.natAbs<2 ^ 64
def Zn5(i j:Int):Prop:=(-(2 ^ 64)<i/\i<2 ^ 64)\/(-(2 ^ 64)<j/\j<2 ^ 64)
theorem Zn5.ok{i j:Int}(h:Zn5 i j):IntMulOk i j:=by
 rcases h with ⟨h1,h2⟩ | ⟨h1,h2⟩
 ·exact .of_left (intBits_le_64 h1 h2)
 ·exact .of_right (intBits_le_64 h1 h2)
theorem cU:wZ X (binaryOp .Add) ρ:=Zs0 λ_ _ _ _ _ _ _ q=>add_int q
theorem qU:wZ X (binaryOp .Sub) (ir λi j=>.int (i - j)):=Zs0 λ_ _ _ _ _ _ _ q=>sub_int q
theorem dO:wZ X (binaryOp .FloorDiv) τ:=opI λi j _ _ _ _ _ hc q=>by
 have h1:(0:Int)<j:=hc.1;have h2:j<1073741824:=hc.2;exact floordiv_int δ (by rw[Int.fdiv_eq_ediv_of_nonneg i δ];exact q) (.inl (PyProof.noPylong_small δ))
theorem bU:wZ X (binaryOp .Mod) ο:=opI λi j _ _ _ _ _ hc q=>by
 have h1:(0:Int)<j:=hc;exact mod_int' δ (by rw[Int.fmod_eq_emod_of_nonneg i δ];exact q)
theorem Hq:wZ X (binaryOp .Pow) (rI FT λi j=>.int (i ^ j.toNat)):=opI λ_ _ _ _ _ _ _ hc q=>pow_int_small hc.1 hc.2.1 hc.2.2 q
theorem Qh:wZ X (binaryOp .BitAnd) (ir λi j=>.int (Builtin.bitAnd i j)):=Zs0 λ_ _ _ _ _ _ _ q=>and_int q
theorem unI{f:AK->Sem AK}{g:Int->Int}
  (rule:∀(i:Int) (t:Tok) (s:AL) (Q:Ap) (E:Ap),Q (.int (g i) s.toks) { s with toks:=s.toks+1 }->wpAny ς X.A (f (.int i t)) Q E s):
  UnR X f (rU λi=>.int (g i)):=by
 intro pins s σ H x v Q I rx h;obtain⟨i,rfl,q⟩:=h;obtain⟨t,rfl⟩:=rx;exact rule i t s _ _ ⟨.int (g i),H,I.tok _,⟨_,rfl⟩,q⟩
theorem Zr5:UnR X (unaryOp .USub) (rU λi=>.int (-i)):=unI λ_ _ _ _ _ q=>neg_int q
end
def Zud:V->V->Bool
 | .non,.non=>true | .non,.int _=>true | .int _,.non=>true | .non,.bl _=>true | .bl _,.non=>true | .non,.str _=>true | .str _,.non=>true
 | .int _,.int _=>true | .bl _,.bl _=>true | .str _,.str _=>true | .byt _,.byt _=>true
 | .int _,.str _=>true | .str _,.int _=>true | .bl _,.str _=>true | .str _,.bl _=>true
 | _,_=>false
def lH:R2:=λx y H Q=>Zud x y=true/\Q (.bl (decide (x=y))) H
def MT:R2:=λx y H Q=>Zud x y=true/\Q (.bl (!decide (x=y))) H
theorem Zgf{i j:Int}:decide (V.int i=V.int j)=(i == j):=by
 rw[Bool.eq_iff_iff];simp
theorem Zmp{i j:Bool}:decide (V.bl i=V.bl j)=(i == j):=by
 rw[Bool.eq_iff_iff];simp
theorem Zge{i j:Str}:decide (V.str i=V.str j)=(i == j):=by
 rw[Bool.eq_iff_iff];simp
theorem Zgg{i j:Array UInt8}:decide (V.byt i=V.byt j)=(i.toList == j.toList):=by
 rw[Bool.eq_iff_iff];cases i;cases j;simp
section
variable {X:Cx}{a b c:AO}{ta tb tc:TE}{pos:Pos}
theorem eZ{pins:Au}{σ:St}{H:Hp}{s:AL}{Q:VK}{k k':Bool}(I:Inv X pins σ H s)(q:Q (.bl k) H)(e:k=k'):EP X pins σ Q (.bool k') s:=by
 subst e;exact⟨.bl k,H,I,rfl,q⟩
theorem dz:wZ X (compareOp .Eq) lH:=by
 intro pins s σ H x y v u Q I rx ry h;obtain⟨hs,q⟩:=h;cases x with
 | non=>
  cases rx;cases y with
  | non=>cases ry;exact PySem.EqNone.eq_none_none (eZ I q ζ)
  | bl j=>cases ry;exact PySem.EqNone.eq_none_bool (eZ I q ζ)
  | int j=>obtain⟨t',rfl⟩:=ry;exact PySem.EqNone.eq_none_int (eZ I q ζ)
  | str j=>obtain⟨t',rfl⟩:=ry;exact PySem.EqNone.eq_none_str (eZ I q ζ)
  | _=>exact absurd (show false=true from hs) Bool.false_ne_true
 | bl i=>
  cases rx;cases y with
  | non=>cases ry;exact PySem.EqNone.eq_bool_none (eZ I q ζ)
  | bl j=>cases ry;exact eq_bool (eZ I q Zmp)
  | str j=>obtain⟨t',rfl⟩:=ry;exact PySem.EqMixed.eq_bool_str (eZ I q ζ)
  | _=>exact absurd (show false=true from hs) Bool.false_ne_true
 | int i=>
  obtain⟨t,rfl⟩:=rx;cases y with
  | non=>cases ry;exact PySem.EqNone.eq_int_none (eZ I q ζ)
  | int j=>obtain⟨t',rfl⟩:=ry;exact eq_int (eZ I q Zgf)
  | str j=>obtain⟨t',rfl⟩:=ry;exact PySem.EqMixed.eq_int_str (eZ I q ζ)
  | _=>exact absurd (show false=true from hs) Bool.false_ne_true
 | str i=>
  obtain⟨t,rfl⟩:=rx;cases y with
  | non=>cases ry;exact PySem.EqNone.eq_str_none (eZ I q ζ)
  | bl j=>cases ry;exact PySem.EqMixed.eq_str_bool (eZ I q ζ)
  | int j=>obtain⟨t',rfl⟩:=ry;exact PySem.EqMixed.eq_str_int (eZ I q ζ)
  | str j=>obtain⟨t',rfl⟩:=ry;exact eq_str (eZ I q Zge)
  | _=>exact absurd (show false=true from hs) Bool.false_ne_true
 | byt i=>
  obtain⟨t,rfl⟩:=rx;cases y with
  | byt j=>obtain⟨t',rfl⟩:=ry;exact W.eq_bytes (eZ I q Zgg)
  | _=>exact absurd (show false=true from hs) Bool.false_ne_true
 | _=>cases y<;>exact absurd (show false=true from hs) Bool.false_ne_true
theorem oF:wZ X (compareOp .NotEq) MT:=by
 intro pins s σ H x y v u Q I rx ry h;obtain⟨hs,q⟩:=h;cases x with
 | non=>
  cases rx;cases y with
  | non=>cases ry;exact PySem.EqNone.ne_none_none (eZ I q ζ)
  | bl j=>cases ry;exact PySem.EqNone.ne_none_bool (eZ I q ζ)
  | int j=>obtain⟨t',rfl⟩:=ry;exact PySem.EqNone.ne_none_int (eZ I q ζ)
  | str j=>obtain⟨t',rfl⟩:=ry;exact PySem.EqNone.ne_none_str (eZ I q ζ)
  | _=>exact absurd (show false=true from hs) Bool.false_ne_true
 | bl i=>
  cases rx;cases y with
  | non=>cases ry;exact PySem.EqNone.ne_bool_none (eZ I q ζ)
  | bl j=>cases ry;exact ne_bool (eZ I q (congrArg not Zmp))
  | str j=>obtain⟨t',rfl⟩:=ry;exact PySem.EqMixed.ne_bool_str (eZ I q ζ)
  | _=>exact absurd (show false=true from hs) Bool.false_ne_true
 | int i=>
  obtain⟨t,rfl⟩:=rx;cases y with
  | non=>cases ry;exact PySem.EqNone.ne_int_none (eZ I q ζ)
  | int j=>obtain⟨t',rfl⟩:=ry;exact ne_int (eZ I q (congrArg not Zgf))
  | str j=>obtain⟨t',rfl⟩:=ry;exact PySem.EqMixed.ne_int_str (eZ I q ζ)
  | _=>exact absurd (show false=true from hs) Bool.false_ne_true
 | str i=>
  obtain⟨t,rfl⟩:=rx;cases y with
  | non=>cases ry;exact PySem.EqNone.ne_str_none (eZ I q ζ)
  | bl j=>cases ry;exact PySem.EqMixed.ne_str_bool (eZ I q ζ)
  | int j=>obtain⟨t',rfl⟩:=ry;exact PySem.EqMixed.ne_str_int (eZ I q ζ)
  | str j=>obtain⟨t',rfl⟩:=ry;exact ne_str (eZ I q (congrArg not Zge))
  | _=>exact absurd (show false=true from hs) Bool.false_ne_true
 | byt i=>
  obtain⟨t,rfl⟩:=rx;cases y with
  | byt j=>obtain⟨t',rfl⟩:=ry;exact W.ne_bytes (eZ I q (congrArg not Zgg))
  | _=>exact absurd (show false=true from hs) Bool.false_ne_true
 | _=>cases y<;>exact absurd (show false=true from hs) Bool.false_ne_true
theorem Zkh:wZ X (compareOp .Lt) (ir λi j=>.bl (decide (i<j))):=Zog λ_ _ _ _ _ _ _ q=>lt_int q
theorem Zqf:wZ X (compareOp .LtE) (ir λi j=>.bl (decide (i<=j))):=Zog λ_ _ _ _ _ _ _ q=>le_int q
theorem Vo:wZ X (compareOp .Gt) (ir λi j=>.bl (decide (j<i))):=Zog λ_ _ _ _ _ _ _ q=>gt_int q
theorem Zul:wZ X (compareOp .GtE) (ir λi j=>.bl (decide (j<=i))):=Zog λ_ _ _ _ _ _ _ q=>ge_int q
theorem Zhm:wZ X (compareOp .In) (λx y H Q=>∃i j,x=.str i/\y=.str j/\Q (.bl (!(Builtin.Str.occurrences j i 0 j.length 1).isEmpty)) H):=by
 intro pins s σ H x y v u Q I rx ry h;obtain⟨i,j,rfl,rfl,q⟩:=h;obtain⟨t,rfl⟩:=rx;obtain⟨t',rfl⟩:=ry;exact in_str (eZ I q rfl)
theorem Zrw:wZ X (compareOp .Is) (λx y H Q=>y=.non/\Q (.bl (decide (x=.non))) H):=by
 intro pins s σ H x y v u Q I rx ry h;obtain⟨rfl,q⟩:=h;cases ry;refine is_none_gen (eZ I q ?_);cases x<;>first
  | (cases rx;rfl)
  | (obtain⟨t,rfl⟩:=rx;rfl)
theorem Zoe:wZ X (compareOp .IsNot) (λx y H Q=>y=.non/\Q (.bl (!decide (x=.non))) H):=by
 intro pins s σ H x y v u Q I rx ry h;obtain⟨rfl,q⟩:=h;cases ry;refine isnot_none_gen (eZ I q ?_);cases x<;>first
  | (cases rx;rfl)
  | (obtain⟨t,rfl⟩:=rx;rfl)
def isObj:HO->Bool
 | .lst _=>true
 | .ins _ _ _=>true
 | _=>false
theorem HF{pins:Au}{s:AL}{σ:St}{H:Hp}{a:AJ}{o:HO}(I:Inv X pins σ H s)(h:H a=some o)(p:isObj o=true):∃ob,s.heap.get? a=some ob/\ob.cls≠.type "tuple":=by
 cases o with
 | lst xs=>
  obtain⟨_,its,n,_,e⟩:xs.length<=sizeLine/\∃(its:AE) (n:Nat),Vals xs its/\s.heap.get? a=some { cls:=.type "list",data:=.seq its.toArray n }:=I.hok a _ h;exact⟨_,e,(by show Value.type "list"≠.type "tuple";decide +kernel)⟩
 | ins C dx fs=>
  have x:=I.hok a _ h;obtain⟨_,_,_,e,_⟩:=x;exact⟨_,e,(by show Value.ref C≠.type "tuple";exact λz=>by cases z)⟩
 | _=>exact absurd (show false=true from p) Bool.false_ne_true
theorem wL(b:AO){op:CmpOp}(h:op≠.In:=by decide)(h2:op≠.NotIn:=by decide):behindInMarks op b=false:=by
 have e1:(op == CmpOp.In)=false:=by cases op<;>first | rfl | exact absurd rfl h
 have e2:(op == CmpOp.NotIn)=false:=by cases op<;>first | rfl | exact absurd rfl h2
 cases b<;>simp[behindInMarks,e1,e2]
theorem rQ{op:CmpOp}{r:R2}(ho:wZ X (compareOp op) r)(ha:PE X a ta)(hb:PE X b tb)(hm:behindInMarks op b=false):PE X (.Compare a [op] [b] pos) (aN r ta tb):=by
 intro pins s σ H Q I h;exact wpAny_Compare1 (Zu0 ha hb I h λv u s2 x y H2 I2 rx ry q=>ho pins s2 σ H2 x y v u Q I2 rx ry q) hm
def bJ(t:TE):TT:=λσ H Q=>t σ H λx H'=>∃k,x=.bl k/\Q k H'
theorem Znw{op:CmpOp}{r:R2}(ho:wZ X (compareOp op) r)(ha:PE X a ta)(hb:PE X b tb)(hm:behindInMarks op b=false):PT X (.Compare a [op] [b] pos) (bJ (aN r ta tb)):=by
 intro pins s σ H Q I h;refine wpAny_isTrue_Compare1 (iJ (ha pins s σ H _ I h) λv s1 ⟨x,H1,I1,r1,q1⟩=>iJ (hb pins s1 σ H1 _ I1 q1) λu s2 ⟨y,H2,I2,r2,q2⟩=>
  iJ (ho pins s2 σ H2 x y v u _ I2 r1 r2 q2) λc s3 ⟨z,H3,I3,r3,k,e,q3⟩=>?_) hm
 subst e;cases r3;exact wpAny_truthy_bool ⟨H3,I3,q3⟩
def Zck(r r':R2)(ta tb tc:TE):TE:=λσ H Q=>ta σ H λx H1=>tb σ H1 λy H2=>r x y H2 λz H3=>∃k,z=.bl k/\
 (if k=true then tc σ H3 λw' H4=>r' y w' H4 Q else Q (.bl false) H3)
theorem Zkd{op op':CmpOp}{r r':R2}(ho:wZ X (compareOp op) r)(ho':wZ X (compareOp op') r')(ha:PE X a ta)(hb:PE X b tb)(hc:PE X c tc)
  (hm:lastMarks [op,op'] [b,c]=false:=by with_unfolding_all rfl):PE X (.Compare a [op,op'] [b,c] pos) (Zck r r' ta tb tc):=by
 intro pins s σ H Q I h;refine Compare_chain (iJ (ha pins s σ H _ I h) λv s1 ⟨x,H1,I1,r1,q1⟩=>chain_link (iJ (hb pins s1 σ H1 _ I1 q1) λu s2 ⟨y,H2,I2,r2,q2⟩=>
  iJ (ho pins s2 σ H2 x y v u _ I2 r1 r2 q2) λd s3 ⟨z,H3,I3,r3,k,e,q3⟩=>?_)) hm
 subst e;cases r3;refine wpAny_truthy_bool ?_;cases k with
 | false=>exact ite_ff ⟨.bl false,H3,I3,rfl,q3⟩
 | true=>exact ite_tt (chain_last (iJ (hc pins s3 σ H3 _ I3 q3) λw' s4 ⟨z',H4,I4,r4,q4⟩=>ho' pins s4 σ H4 y z' u w' Q I4 r2 r4 q4))
theorem HW:(sizeLine:Nat)<2 ^ 63:=by rw[sizeLine_eq];decide
theorem bM:wZ X (binaryOp .Add) (λx y H Q=>∃i j,x=.str i/\y=.str j/\i.length+j.length<=sizeLine/\Q (.str (i++j)) H):=by
 intro pins s σ H x y v u Q I rx ry h;obtain⟨i,j,rfl,rfl,hz,q⟩:=h;obtain⟨t,rfl⟩:=rx;obtain⟨t',rfl⟩:=ry;exact add_str (λt' tk=>⟨.str (i++j),H,I.tok _,⟨_,rfl⟩,q⟩) hz
theorem vals1{x:V}{us:AE}(r:Vals [x] us):∃u,us=[u]/\RelV x u:=by
 cases r with
 | cons r1 r2=>cases r2;exact⟨_,rfl,r1⟩
theorem vals2{x y:V}{us:AE}(r:Vals [x,y] us):∃u w',us=[u,w']/\RelV x u/\RelV y w':=by
 cases r with
 | cons r1 r2=>
  cases r2 with
  | cons r3 r4=>cases r4;exact⟨_,_,rfl,r1,r3⟩
theorem Zig(hc:X.calm=true):oR X (.builtin "max") (λxs H Q=>∃i j,xs=[.int i,.int j]/\Q (.int (if j > i then j else i)) H):=by
 intro pins s σ H xs us Q I r h;obtain⟨i,j,rfl,q⟩:=h;obtain⟨u,w',rfl,⟨t,rfl⟩,⟨t',rfl⟩⟩:=vals2 r;refine max_two_ints (I.ok.hd hc) λh' tk k=>⟨_,H,I.kept k,?_,q⟩
 by_cases hj:j > i
 ·rw[if_pos hj,if_pos hj];exact⟨_,rfl⟩
 ·rw[if_neg hj,if_neg hj];exact⟨_,rfl⟩
theorem Yz:oR X (.type "str") (λxs H Q=>∃i,xs=[.int i]/\i.natAbs.log2<1920/\Q (.str (toString i)) H):=by
 intro pins s σ H xs us Q I r h;obtain⟨i,rfl,hz,q⟩:=h;obtain⟨u,rfl,t,rfl⟩:=vals1 r;exact PySem.P.str_of_int hz ⟨.str _,H,I.tok _,⟨_,rfl⟩,q⟩
end
structure Zf0(h:Heap)(x dx C:AJ)(mA:As):Prop where
 obj:h.get? x=some (W.instObj C dx)
 ns:h.Ns1 dx mA
 ne:dx≠x
theorem Vz{h:Heap}{dx:AJ}{mA:As}(n:h.Ns1 dx mA):∃od,h.get? dx=some od/\∀name,W.lookIn name od=some (mA name):=by
 obtain⟨o,es,ep,ho,hd,hk,_,hm⟩:=n;refine⟨o,ho,λname=>?_⟩;have e:=hm name;unfold nsFind findBy at e;rw[<- Array.find?_toList]at e;unfold W.lookIn;rw[hd];dsimp only;split
 ·rename_i y q
  rw[q]at e;exact congrArg some e
 ·rename_i q
  rw[q]at e;have a:es.toList.any (·.refKey)=false:=by
   rw[List.any_eq_false];intro y hy;obtain⟨z,t,hkey⟩:=hk y (Array.mem_toList_iff.mp hy);simp[DictEntry.refKey,hkey]
  have a':¬ es.toList.any (·.refKey)=true:=by rw[a];exact Bool.false_ne_true
  rw[if_neg a'];exact congrArg some e
theorem Zf0.look{h:Heap}{x dx C:AJ}{mA:As}(I:Zf0 h x dx C mA):∃od,W.InstAt h x (W.instObj C dx) C (some od)/\∀name,W.lookIn name od=some (mA name):=
 let ⟨od,ho,hl⟩:=Vz I.ns
 ⟨od,⟨I.obj,rfl,rfl,ho⟩,hl⟩
section
variable {prog:AN}{w:AQ}{A:Around}{E:Ap}{s:AL}{K:aK}{x dx C f:AJ}{mA:As}{name:Str}{v:AK}
theorem get_map{expr:Bool}{Q:Ap}(X:K.In s.heap)(I:Zf0 s.heap x dx C mA)(hg:W.plainGet K C name=true)(hh:W.hasDictIn K C=true)
  (ha:W.findIn K (.ref C) name=some none) (hv:mA name=some v) (hv':W.handedIn v=true) (h:Q v { s with toks:=s.toks+1 }):
  wpAny Ξ A (getAttr (.ref x) name expr) Q E s:=by
 obtain⟨od,J,hl⟩:=I.look;exact W.get_value X J (W.plainGet_of hg).1 (W.findObj_own hh ha rfl (by rw[hl,hv])) hv' h
theorem Zm7{pl:Sem Bool}{Q:AK×AE->AL->Prop}(X:K.In s.heap)(I:Zf0 s.heap x dx C mA)(hg:W.plainGet K C name=true)
  (hf:W.findIn K (.ref C) name=some (↑f)) (ht:W.isFn K (.ref f)=true) (hv:mA name=none) (h:Q (.ref f,[.ref x]) s):
  wpAny Ξ A (getMethod (.ref x) name pl) Q E s:=by
 obtain⟨od,J,hl⟩:=I.look;exact W.method_fn X J (W.plainGet_of hg).1 (W.plainGet_of hg).2 hf (beq_iff_eq.mp ht) (by show(W.lookIn name od).map (·.isSome)=some false;rw[hl,hv];rfl) h
theorem Znl{ns:AI}{Q:Unit->AL->Prop}(X:K.In s.heap)(I:Zf0 s.heap x dx C mA)
  (hs:W.findIn K (.ref C) "__setattr__"=some (some (.builtin "object.__setattr__"))) (hp:W.plainOver K C=true) (ht:W.takerIn K C name=some none) (hh:W.hasDictIn K C=true)
  (hw:PySem.Within mA ns) (hsz:ns.length<=sizeLine)
  (h:∀h',Zf0 h' x dx C (λy=>if y=name then some v else mA y)->Heap.SameBut dx s.heap h'->Q () { s with heap:=h',toks:=s.toks+2 }):
  wpAny Ξ A (setAttr (.ref x) name v) Q E s:=by
 obtain⟨od,J,hl⟩:=I.look;refine W.set_plain X J hs (W.osa_open (s:={ s with toks:=s.toks+1 }) (r:=none) X J hp ht λb=>?_);obtain⟨cd,hc,hd'⟩:=W.any_some hh;have hx:s.heap.get? x=some ⟨.ref C,some dx,.plain,#[]⟩:=I.obj;refine wpAny_bind (wpAny_pure (wpAny_bind (wpAny_bind (wpAny_loadPart hx (wpAny_bind (W.Looks.here (s:={ s with toks:=s.toks+1 }) (W.looks_clsIn X hc) ?_))))));rw[hd'];refine wpAny_pure (a:=some dx) (wpAny_bind (wpAny_pure (wpAny_bind ?_)));refine wpAny_nsSet1 (s:={ s with toks:=s.toks+1 }) I.ns λh' hn2 hs2=>?_;obtain⟨oD,esD,epD,hoD,hdD,hcD⟩:=hn2.count (PySem.Within.cons name v hw);refine wpAny_bind (wpAny_lookBehind hoD (by rw[hdD];exact pastItsLine_dict (Nat.le_trans hcD (by rw[List.length_cons];omega))) ?_);exact wpAny_pure (h _ ⟨(hs2.2 _ (Ne.symm I.ne)).trans I.obj,hn2,I.ne⟩ hs2)
theorem Zkt{R:Result->AL->Prop}{vs:AE}{kw:List (Str×AK)}(X:K.In s.heap)(hm:W.makesIn K C=true)
  (hi:W.findIn K (.ref C) "__init__"=some (↑f)) (hf:W.typeIn K (.ref f)=some (.type "function"))
  (h:codeAny Ξ (A.under (.builtin "type.__call__" ⟨.ref C::vs,kw⟩)) (.call (.ref f) ⟨.ref ar::vs,kw⟩) (W.InitBack ar R)
   { s with heap:=(s.heap.push W.emptyDict).push (W.instObj C s.heap.objs.size) }):
  codeAny Ξ A (.call (.ref C) ⟨vs,kw⟩) R s:=by
 obtain⟨hh,g,d,t,os⟩:=s;exact W.make_core (W.makes_of X hm) (W.looks_findIn X hi) (λself=>W.bind_fn X self hf) (.inl rfl) h
theorem Zhp{R:Result->AL->Prop}(X:K.In s.heap)(hm:W.makesIn K C=true)
  (hi:W.findIn K (.ref C) "__init__"=some (some (.builtin "object.__init__")))
  (hb:∀self,W.Looks Ξ s.heap (bindSpecial (.builtin "object.__init__") self) (.builtin "object.__init__",[self]))
  (h:codeAny Ξ (A.under (.builtin "type.__call__" ⟨[.ref C],[]⟩)) (.call (.builtin "object.__init__") ⟨[.ref ar],[]⟩) (W.InitBack ar R)
   { s with heap:=(s.heap.push W.emptyDict).push (W.instObj C s.heap.objs.size) }):
  codeAny Ξ A (.call (.ref C) ⟨[],[]⟩) R s:=by
 obtain⟨hh,g,d,t,os⟩:=s;exact W.make_core (W.makes_of X hm) (W.looks_findIn X hi) hb (.inr ⟨rfl,rfl⟩) h
end
def tQ(f:Str)(v:V):List (Str×V)->List (Str×V)
 | []=>[(f,v)]
 | (g,x)::r=>if g=f then(g,v)::r else(g,x)::tQ f v r
theorem JQ(f g:Str)(v:V):∀fs:List (Str×V),(tQ f v fs).lookup g=if g=f then some v else fs.lookup g
 | []=>by
  show List.lookup g [(f,v)]=_
  by_cases h:g=f
  ·have hb:(g == f)=true:=beq_iff_eq.mpr h;simp only[List.lookup,hb,if_pos h]
  ·have hb:(g == f)=false:=beq_eq_false_iff_ne.mpr h;simp only[List.lookup,hb,if_neg h]
 | (k,x)::r=>by
  have ih:=JQ f g v r;rw[show tQ f v ((k,x)::r)=(if k=f then(k,v)::r else(k,x)::tQ f v r)from rfl]
  by_cases hk:k=f
  ·rw[if_pos hk]
   by_cases h:g=k
   ·have hb:(g == k)=true:=beq_iff_eq.mpr h;simp only[List.lookup,hb,if_pos (h.trans hk)]
   ·have hb:(g == k)=false:=beq_eq_false_iff_ne.mpr h;simp only[List.lookup,hb,if_neg (λe:g=f=>h (e.trans hk.symm))]
  ·rw[if_neg hk]
   by_cases h:g=k
   ·have hb:(g == k)=true:=beq_iff_eq.mpr h;simp only[List.lookup,hb,if_neg (λe:g=f=>hk (h.symm.trans e))]
   ·have hb:(g == k)=false:=beq_eq_false_iff_ne.mpr h;simp only[List.lookup,hb];exact ih
theorem Ih(f:Str)(v:V):∀fs:List (Str×V),f∈(tQ f v fs).map (·.1)/\∀g,g∈fs.map (·.1)->g∈(tQ f v fs).map (·.1)
 | []=>⟨by simp[tQ],λg h=>by simp at h⟩
 | (k,x)::r=>by
  obtain⟨i1,i2⟩:=Ih f v r;rw[show tQ f v ((k,x)::r)=(if k=f then(k,v)::r else(k,x)::tQ f v r)from rfl]
  by_cases hk:k=f
  ·rw[if_pos hk];subst hk;exact⟨ζ,λg h=>by simpa using h⟩
  ·rw[if_neg hk];refine⟨?_,λg h=>?_⟩
   ·rw[List.map_cons];exact List.mem_cons_of_mem _ i1
   ·rw[List.map_cons]at h ⊢;rcases List.mem_cons.mp h with e | e
    ·exact List.mem_cons.mpr (.inl e)
    ·exact List.mem_cons_of_mem _ (i2 g e)
theorem JR(f:Str)(v:V):∀fs:List (Str×V),(tQ f v fs).length<=fs.length+1
 | []=>by simp[tQ]
 | (k,x)::r=>by
  have ih:=JR f v r;rw[show tQ f v ((k,x)::r)=(if k=f then(k,v)::r else(k,x)::tQ f v r)from rfl]
  by_cases hk:k=f
  ·rw[if_pos hk,List.length_cons,List.length_cons];omega
  ·rw[if_neg hk,List.length_cons,List.length_cons];omega
theorem wY.some_of{v:V}{o:AC}(r:wY (some v) o):∃u,o=some u/\RelV v u:=by
 cases o with
 | none=>exact(show False from r).elim
 | some u=>exact⟨u,rfl,r⟩
theorem wY.none_of{o:AC}(r:wY none o):o=none:=by
 cases o with
 | none=>rfl
 | some u=>exact(show False from r).elim
theorem V7{v:V}{u:AK}(r:RelV v u):W.handedIn u=true:=by
 cases v with
 | non=>cases (show u=Value.none from r);rfl
 | bl b=>cases (show u=Value.bool b from r);rfl
 | int i=>obtain⟨t,e⟩:=(show ∃t,u=Value.int i t from r);cases e;rfl
 | str x=>obtain⟨t,e⟩:=(show ∃t,u=Value.str x t from r);cases e;rfl
 | byt b=>obtain⟨t,e⟩:=(show ∃t,u=Value.bytes b t from r);cases e;rfl
 | flt b=>obtain⟨t,e⟩:=(show ∃t,u=Value.float b t from r);cases e;rfl
 | ref a=>cases (show u=Value.ref a from r);rfl
 | ty n=>cases (show u=Value.type n from r);rfl
section
variable {P:AN}{w:AQ}{H H':Hp}{h h':Heap}{a C dx:AJ}{fs fs':List (Str×V)}
theorem Ng(hok:oM P w H h)(e:H a=some (.ins C dx fs)):∃mA,Zf0 h a dx C mA/\(∀f,wY (fs.lookup f) (mA f))/\PySem.Within mA (fs.map (·.1))/\fs.length<=1000/\H dx=some (.own a):=by
 obtain⟨d,z,ne,ob,mA,n,r,q⟩:=(show jc P w H h a (.ins C dx fs)from hok a _ e);exact⟨mA,⟨ob,n,ne⟩,r,q,z,d⟩
end
structure Y7(K:aK)(C:AJ):Prop where
 pg:W.plainGet K C Str.empty=true
 hd:W.hasDictIn K C=true
 po:W.plainOver K C=true
 sa:W.findIn K (.ref C) "__setattr__"=some (some (.builtin "object.__setattr__"))
theorem Y7.get{K:aK}{C:AJ}(c:Y7 K C)(f:Str):W.plainGet K C f=true:=c.pg
def jD(K:aK)(C:AJ)(f:Str):Prop:=W.findIn K (.ref C) f=some none
theorem jD.taker{K:aK}{C:AJ}{f:Str}(n:jD K C f):W.takerIn K C f=some none:=by
 unfold W.takerIn;rw[show W.findIn K (.ref C) f=some none from n];rfl
structure Con(K:aK)(C:AJ)(f:Str)(v:V)(u:AK):Prop where
 at_:W.findIn K (.ref C) f=some (some u)
 rel:RelV v u
 get:W.specialIn K u "__get__"=some none
 cp:W.copiedNames.contains f=false
structure Meth(K:aK)(C:AJ)(m:Str)(f:AJ):Prop where
 at_:W.findIn K (.ref C) m=some (↑f)
 fn:W.isFn K (.ref f)=true
 kp:W.keepIn K (.ref f)=true
section
variable {X:Cx}{pins:Au}{σ:St}{H:Hp}{s:AL}{a C dx:AJ}{fs:List (Str×V)}{f:Str}{v:V}{A:Around}{E:Ap}
theorem Zel{b:Bool}{Q:Ap}(I:Inv X pins σ H s)(e:H a=some (.ins C dx fs))(c:Y7 X.K C)(n:jD X.K C f)(l:fs.lookup f=some v)
  (h:∀u s',Inv X pins σ H s'->RelV v u->Q u s'):wpAny ς A (getAttr (.ref a) f b) Q E s:=by
 obtain⟨mA,O,r,_,_,_⟩:=Ng I.hok e;obtain⟨u,hu,ru⟩:=wY.some_of (v:=v) (o:=mA f) (by rw[<- l];exact r f);exact get_map I.pL O (c.get f) c.hd n hu (V7 ru) (h u _ (I.tok _) ru)
theorem Zek{m:Str}{g:AJ}{pl:Sem Bool}{Q:AK×AE->AL->Prop}(I:Inv X pins σ H s)(e:H a=some (.ins C dx fs))(c:Y7 X.K C)(k:Meth X.K C m g)(l:fs.lookup m=none)
  (h:Q (.ref g,[.ref a]) s):wpAny ς A (getMethod (.ref a) m pl) Q E s:=by
 obtain⟨mA,O,r,_,_,_⟩:=Ng I.hok e;have hn:mA m=none:=wY.none_of (by rw[<- l];exact r m);exact Zm7 I.pL O (c.get m) k.at_ k.fn hn h
theorem Zcv{y:V}{u:AK}{Q:Unit->AL->Prop}(I:Inv X pins σ H s)(e:H a=some (.ins C dx fs))(c:Y7 X.K C)(n:jD X.K C f)(hl:fs.length<1000)(ry:RelV y u)
  (h:∀s',Inv X pins σ (upd H a (.ins C dx (tQ f y fs))) s'->Q () s'):wpAny ς A (setAttr (.ref a) f u) Q E s:=by
 obtain⟨mA,O,r,wi,_,ho⟩:=Ng I.hok e;have hz:(fs.map (·.1)).length<=sizeLine:=by rw[bF,sizeLine_eq];omega
 refine Znl I.pL O c.sa c.po n.taker c.hd wi hz λh' O' sb=>h _ ?_;have hd:∃o,h'.get? dx=some o:=let ⟨o,_,_,e',_⟩:=O'.ns;⟨o,e'⟩
 refine I.write (x:=a) (e:=dx) (by rw[e];exact True.intro) (.inr ho) (λb q hb z=>(sb.2 b hb).trans z) hd ?_;refine⟨by rw[aQ O.ne];exact ho,?_,O.ne,O'.obj,_,O'.ns,λg=>?_,λg hg=>?_⟩
 ·have:=JR f y fs;omega
 ·show wY ((tQ f y fs).lookup g) (if g=f then some u else mA g);rw[JQ]
  by_cases q:g=f
  ·rw[if_pos q,if_pos q];exact ry
  ·rw[if_neg q,if_neg q];exact r g
 ·by_cases q:g=f
  ·rw[q];exact(Ih f y fs).1
  ·refine(Ih f y fs).2 g (wi g λz=>hg ?_);show(if g=f then some u else mA g)=none;rw[if_neg q];exact z
theorem Inv.made(I:Inv X pins σ H s):Inv X pins σ (upd (upd H s.heap.objs.size (.own ar)) ar (.ins C s.heap.objs.size []))
  { s with heap:=(s.heap.push W.emptyDict).push (W.instObj C s.heap.objs.size) }:=by
 have e1:(s.heap.push W.emptyDict).get? s.heap.objs.size=some W.emptyDict:=Heap.get?_push_size s.heap rfl;have e2:((s.heap.push W.emptyDict).push (W.instObj C s.heap.objs.size)).get? (s.heap.objs.size+1)=some (W.instObj C s.heap.objs.size):=by
  have:=Heap.get?_push_size (s.heap.push W.emptyDict) (o:=W.instObj C s.heap.objs.size) rfl
  rwa [Heap.size_push]at this
 have e3:(s.heap.push W.emptyDict).Ns s.heap.objs.size (λ_=>none):=⟨W.emptyDict,#[],_,e1,rfl,(λe he=>absurd he ζ),λ_=>rfl⟩;have I1:=I.laid (a:=s.heap.objs.size) (o:=.own ar) (h':=s.heap.push W.emptyDict) (t':=s.toks) (λb u q=>Heap.get?_push_of_some _ q) χ ⟨_,e1⟩;refine I1.laid (a:=s.heap.objs.size+1) (o:=.ins C s.heap.objs.size []) (t':=s.toks) (λb u q=>Heap.get?_push_of_some _ q) (Nat.le_of_eq (Heap.size_push _ _)) ?_;have ne:s.heap.objs.size≠s.heap.objs.size+1:=Nat.ne_of_lt (Nat.lt_succ_self _);refine⟨by rw[aQ ne,az],Nat.zero_le _,ne,e2,λ_=>none,(Heap.Ns1.of_empty e3).at λo q=>Heap.get?_push_of_some _ q,λ_=>True.intro,λy hy=>absurd rfl hy⟩
theorem Zgo{prog:AN}{w:AQ}{env:Env}{e:AO}{f:Str}{pos:Pos}{s:AL}{Q:Ap}(hb:attributeBase e f env (eval e env)=eval e env)
  (h:wpAny Ξ A (eval e env) (λo s₁=>wpAny Ξ A (getAttr o f true) Q E s₁) E s):wpAny Ξ A (eval (.Attribute e f pos) env) Q E s:=
 Attribute_any_ h (by rw[arm_eval_Attribute,hb])
end
def RK(K:aK)(ta:TE)(f:Str):TE:=λσ H Q=>ta σ H λx H1=>∃a C dx fs v,x=.ref a/\H1 a=some (.ins C dx fs)/\Y7 K C/\jD K C f/\fs.lookup f=some v/\Q v H1
def ZW(K:aK)(ta tv:TE)(f:Str):TS:=λD σ H=>tv σ H λy H1=>ta σ H1 λx H2=>∃a C dx fs,x=.ref a/\H2 a=some (.ins C dx fs)/\Y7 K C/\jD K C f/\fs.length<1000/\
 D.nx σ (upd H2 a (.ins C dx (tQ f y fs)))
section
variable {X:Cx}{o e value:AO}{f:Str}{pos pos' tpos:Pos}{ta tv:TE}
theorem Hl(he:PE X e ta)(hb:attributeBase e f X.env (eval e X.env)=eval e X.env):PE X (.Attribute e f pos) (RK X.K ta f):=by
 intro pins s σ H Q I h;refine Zgo hb (iJ (he pins s σ H _ I h) λu s1 ⟨x,H1,I1,rx,a,C,dx,fs,v,ex,ea,c,n,l,q⟩=>?_);subst ex;obtain rfl:u=Value.ref a:=rx;exact Zel I1 ea c n l λu' s2 I2 ru=>⟨v,H1,I2,ru,q⟩
theorem Hi(ha:PE X o ta)(hv:PE X value tv)(hs:swapsWith value (some (.Attribute o f pos')) pos.line X.env=pure false):PS X (.Assign [.Attribute o f pos'] value pos) (ZW X.K ta tv f):=by
 intro pins s σ H D I h;refine plainObj_wpAny_Assign_Attribute (iJ (hv pins s σ H _ I h) λu s1 ⟨y,H1,I1,ry,q⟩=>iJ (ha pins s1 σ H1 _ I1 q) λov s2 ⟨x,H2,I2,rx,a,C,dx,fs,ex,ea,c,n,l,q2⟩=>?_) hs;subst ex;obtain rfl:ov=Value.ref a:=rx;exact Zcv I2 ea c n l ry λs3 I3=>⟨σ,_,I3,q2⟩
end
section
variable {X:Cx}{pins:Au}{σ:St}{H:Hp}{s:AL}{A:Around}{E:Ap}{Q:Ap}{c:AK}{b:Bool}
inductive Ju(K:aK)(H:Hp):V->AK->Prop where
 | non:Ju K H .non (.type "NoneType")
 | bl (x:Bool):Ju K H (.bl x) (.type "bool")
 | int (i:Int):Ju K H (.int i) (.type "int")
 | str (x:Str):Ju K H (.str x) (.type "str")
 | flt (x:UInt64):Ju K H (.flt x) (.type "float")
 | lst {a:AJ}{xs:List V} (e:H a=some (.lst xs)):Ju K H (.ref a) (.type "list")
 | Y9 {a:AJ}{o:Obj}{xs:List V} (e:H a=some (.Y9 o (.lst xs))):Ju K H (.ref a) (.type "list")
 | tup {a:AJ}{xs:List V} (e:H a=some (.tup xs)):Ju K H (.ref a) (.type "tuple")
 | dK {a:AJ}{kvs:List (Key×V)} (e:H a=some (.dK kvs)):Ju K H (.ref a) (.type "dict")
 | dT {a:AJ}{kvs:List (List Key×V)} (e:H a=some (.dT kvs)):Ju K H (.ref a) (.type "dict")
 | ins {a C dx:AJ}{fs:List (Str×V)} (e:H a=some (.ins C dx fs)) (cl:Y7 K C) (ha:W.findIn K (.ref C) "__class__"=some (some (.builtin "object.__class__")))
   (hn:W.specialIn K (.builtin "object.__class__") "__get__"=some (some (.builtin "getset_descriptor.__get__"))) (htk:W.takesIn K (.builtin "object.__class__")=some true)
   (hm:W.mroIn K C (.type "object")=some true):Ju K H (.ref a) (.ref C)
theorem Zhs{x:V}{u t:AK}(I:Inv X pins σ H s)(rx:RelV x u)(ty:Ju X.K H x t)(e:W.kitOne X.K t c=some b)(h:∀tk,Q (.bool b) { s with toks:=tk }):
  wpAny ς A (call (.builtin "isinstance") [u,c]) Q E s:=by
 cases ty with
 | non=>cases (show u=Value.none from rx);exact W.kia_one W.kitx_none I.pL True.intro e (λz=>nomatch z) h
 | bl y=>cases (show u=Value.bool y from rx);exact W.kia_one W.kitx_bool I.pL True.intro e (λz=>nomatch z) h
 | int i=>obtain⟨t,q⟩:=(show ∃t,u=Value.int i t from rx);cases q;exact W.kia_one W.kitx_int I.pL True.intro e (λz=>nomatch z) h
 | str y=>obtain⟨t,q⟩:=(show ∃t,u=Value.str y t from rx);cases q;exact W.kia_one W.kitx_str I.pL True.intro e (λz=>nomatch z) h
 | flt y=>obtain⟨t,q⟩:=(show ∃t,u=Value.float y t from rx);cases q;exact W.kia_one W.kitx_float I.pL True.intro e (λz=>nomatch z) h
 | @lst a xs ea=>
  cases (show u=Value.ref a from rx);obtain⟨_,_,n,_,h1⟩:=(show jc X.prog X.w H s.heap a (.lst xs)from I.hok a _ ea);exact W.kia_one W.kitx_list I.pL ⟨_,h1,rfl⟩ e (λz=>nomatch z) h
 | @Y9 a ob xs ea=>
  cases (show u=Value.ref a from rx);obtain⟨_,_,_,n,_,h1⟩:=(show jc X.prog X.w H s.heap a (.Y9 ob (.lst xs))from I.hok a _ ea);exact W.kia_one W.kitx_list I.pL ⟨_,h1,rfl⟩ e (λz=>nomatch z) h
 | @tup a xs ea=>
  cases (show u=Value.ref a from rx);obtain⟨_,_,_,p⟩:=(show jc X.prog X.w H s.heap a (.tup xs)from I.hok a _ ea);obtain⟨o,h1,h2,_⟩:=p;exact W.kia_one W.kitx_tuple I.pL ⟨o,h1,h2⟩ e (λz=>nomatch z) h
 | @dK a kvs ea=>
  cases (show u=Value.ref a from rx);obtain⟨_,_,vs,_,p⟩:=(show jc X.prog X.w H s.heap a (.dK kvs)from I.hok a _ ea);obtain⟨o,es,ep,h1,h2,_⟩:=p;exact W.kia_one W.kitx_dict I.pL ⟨o,h1,h2.1⟩ e (λz=>nomatch z) h
 | @dT a kvs ea=>
  cases (show u=Value.ref a from rx);obtain⟨_,_,xs,_,o,es,ep,h1,h2,_⟩:=(show jc X.prog X.w H s.heap a (.dT kvs)from I.hok a _ ea);exact W.kia_one W.kitx_dict I.pL ⟨o,h1,h2.1⟩ e (λz=>nomatch z) h
 | @ins a C dx fs ea cl ha hn htk hm=>
  cases (show u=Value.ref a from rx);obtain⟨mA,O,_⟩:=Ng I.hok ea;obtain⟨od,J,_⟩:=O.look;exact W.kia_one (W.kitx_own (cl.get _) cl.hd ha hn htk hm) I.pL J e (λz=>nomatch z) h
end
structure Room(k:Nat)(A:Around):Prop where
 hd:A.handled=none
 dp:A.depth+3 * k+5<recursionLimit
 un:A.units+16 * k+200<cLine
theorem Room.mono{j k:Nat}{A:Around}(r:Room k A)(h:j<=k):Room j A:=⟨r.hd,by have:=r.dp;omega,by have:=r.un;omega⟩
theorem Room.deeper{k:Nat}{A:Around}(r:Room (k+1) A)(env:Env):Room k (A.deeper env):=
 ⟨r.hd,by have:=r.dp;show A.depth+1+3 * k+5<_;omega,by have:=r.un;show A.units+3+16 * k+200<_;omega⟩
theorem Zdt{A:Around}{C:AJ}{us:AE}{kw:List (Str×AK)}:(A.under (.builtin "type.__call__" ⟨.ref C::us,kw⟩)).depth=A.depth+1:=by
 first | rfl | simp[Around.under,Code.weight,Code.isCreation,Code.isGuard,Code.isCaller,Code.frames,Code.isFrame,guardIds]
theorem Zds{A:Around}{C:AJ}{us:AE}{kw:List (Str×AK)}:(A.under (.builtin "type.__call__" ⟨.ref C::us,kw⟩)).units=A.units+1:=by
 first | rfl | simp[Around.under,Code.cUnits,Code.frames,Code.isFrame]
theorem Room.make{k:Nat}{A:Around}(r:Room (k+1) A)(C:AJ)(us:AE)(kw:List (Str×AK)):Room k (A.under (.builtin "type.__call__" ⟨.ref C::us,kw⟩)):=
 ⟨r.hd,by have:=r.dp;rw[Zdt];omega,by have:=r.un;rw[Zds];omega⟩
theorem Room.depth{k:Nat}{A:Around}(r:Room k A):A.depth<recursionLimit:=by have:=r.dp;omega
theorem Room.units{k:Nat}{A:Around}(r:Room k A):A.units+64<cLine:=by have:=r.un;omega
def aM:TA:=λ_ H Q=>Q [] H
def aj(ta:TE)(tr:TA):TA:=λσ H Q=>ta σ H λx H1=>tr σ H1 λxs H2=>Q (x::xs) H2
section
variable {X:Cx}{e:AO}{es:AH}{te:TE}{t:TA}{pos:Pos}
theorem aA:PA X [] aM:=λ_ _ _ _ H Q I h=>Calls.spliced_nil ⟨[],H,I,.nil,h⟩
theorem aa(ha:PE X e te)(hr:PA X es t)(hs:starEach (e::es) X.env=(false,eval e X.env)::starEach es X.env:=by rfl):PA X (e::es) (aj te t):=by
 intro pos pins s σ H Q I h;rw[hs];show wpAny _ _ (spliced ((false,eval e X.env)::backTo pos (starEach es X.env))) _ _ s;refine Calls.spliced_cons (iJ (ha pins s σ H _ I h) λu s1 ⟨x,H1,I1,r1,q1⟩=>?_);exact iJ (hr pos pins s1 σ H1 _ I1 q1) λus s2 ⟨xs,H2,I2,r2,q2⟩=>⟨x::xs,H2,I2,.cons r1 r2,q2⟩
def fU(t:TA):TE:=λσ H Q=>t σ H λxs H1=>xs.length<=sizeLine/\∀p,H1 p=none->Q (.ref p) (upd H1 p (.tup xs))
def gY(t:TA):TE:=λσ H Q=>t σ H λxs H1=>xs.length<=sizeLine/\∀p,H1 p=none->Q (.ref p) (upd H1 p (.lst xs))
theorem dZ{x1}(h:PA X es t):PE X (.Tuple es x1 pos) (fU t):=by
 intro pins s σ H Q I hq;refine wpAny_Tuple_spliced (iJ (h pos pins s σ H _ I hq) λus s1 ⟨xs,H1,I1,r,z,q⟩=>⟨by rw[<- r.length];exact z,?_⟩);have hf:H1 s1.heap.objs.size=none:=I1.hok.fresh χ;refine⟨.ref s1.heap.objs.size,upd H1 s1.heap.objs.size (.tup xs),I1.laid (t':=s1.toks) (λb u e=>Heap.get?_push_of_some _ e) χ ?_,rfl,q _ hf⟩;exact⟨z,us,r,⟨_,Heap.get?_push_size _ rfl,rfl,_,rfl⟩⟩
theorem dU(h:PA X es t):PE X (.List es pos) (gY t):=by
 intro pins s σ H Q I hq;refine wpAny_List_spliced (iJ (h pos pins s σ H _ I hq) λus s1 ⟨xs,H1,I1,r,z,q⟩=>⟨by rw[<- r.length];exact z,?_⟩);have hf:H1 s1.heap.objs.size=none:=I1.hok.fresh χ;refine⟨.ref s1.heap.objs.size,upd H1 s1.heap.objs.size (.lst xs),I1.laid (t':=s1.toks) (λb u e=>Heap.get?_push_of_some _ e) χ ?_,rfl,q _ hf⟩;exact⟨z,us,0,r,Heap.get?_push_size _ rfl⟩
end
abbrev Sp:=List V->Hp->VK->XK->Prop
abbrev CXT:=List Env->Hp->AL->XK->AK->AL->Prop
structure Zf6(P:AN)(w:AQ)(K:aK)(mg:As)(base:Heap)(A:Around)(outer:List Env)(s:AL)(H:Hp):Prop where
 frames:A.frames=some outer
 mod:Mod K mg base
 bs:∀b o,base.get? b=some o->s.heap.get? b=some o/\H b=none
 bsz:base.objs.size<=s.heap.objs.size
 wQ:s.heap.FunFrames base outer
 frf:∀b∈frs outer,H b=none
 hok:oM P w H s.heap
 bare:AllBare s.gens
def CE(outer:List Env)(P:AN)(w:AQ)(H:Hp)(s:AL)(Q:VK)(u:AK)(s':AL):Prop:=
 ∃v H',s'.os=s.os/\AllBare s'.gens/\Un (frs outer) [] H H' s.heap s'.heap/\oM P w H' s'.heap/\RelV v u/\Q v H'
def CR(CX:CXT)(outer:List Env)(P:AN)(w:AQ)(H:Hp)(s:AL)(Q:VK)(E:XK)(r:Result)(s':AL):Prop:=
 match r with
 | .ok (.ret u)=>CE outer P w H s Q u s'
 | .ok _=>False
 | .error e=>CX outer H s E e s'
structure vI(P:AN)(w:AQ)(K:aK)(mg:As)(base:Heap)(CX:CXT)(k:Nat)(f:AJ)(fd:AM)(ps:AI)(sp:Sp):Prop where
 len:∀vs H Q E,sp vs H Q E->vs.length=ps.length
 run:∀(A:Around) (outer:List Env) (s:AL) (H:Hp) (args:Args) (us:AE) (vs:List V) (Q:VK) (E:XK),Room k A->Zf6 P w K mg base A outer s H->BindsTo s fd args (ps.zip us)->Vals vs us->sp vs H Q E->
  codeAny (model P w) A (.call (.ref f) args) (CR CX outer P w H s Q E) s
theorem Zf6.make{P:AN}{w:AQ}{K:aK}{mg:As}{base:Heap}{A:Around}{outer:List Env}{s:AL}{H:Hp}(e:Zf6 P w K mg base A outer s H)(C:AJ)(us:AE)(kw:List (Str×AK)):
  Zf6 P w K mg base (A.under (.builtin "type.__call__" ⟨.ref C::us,kw⟩)) outer s H:=⟨by first | exact e.frames | (simpa[Around.under,Code.envs,Code.isFrame,pushEnvs]using e.frames),e.mod,e.bs,e.bsz,e.wQ,e.frf,e.hok,e.bare⟩
section
variable {X:Cx}{pins:Au}{σ:St}{H:Hp}{s s':AL}
theorem Inv.env0(I:Inv X pins σ H s):Zf6 X.prog X.w X.K X.mg X.base X.A X.stack s H:=
 ⟨I.ok.frames,I.ok.mod,I.bs,Nat.le_trans I.ok.bsz I.sz,I.stack,I.Ww,I.hok,I.bare⟩
theorem Inv.after{Q:VK}{u:AK}(I:Inv X pins σ H s)(h:CE X.stack X.prog X.w H s Q u s'):EP X pins σ Q u s':=by
 obtain⟨v,H',os,bare,un,hok,r,q⟩:=h;obtain⟨hh,g,d,t,os'⟩:=s';obtain rfl:os'=s.os:=os;exact⟨v,H',I.call (h':=hh) (g':=g) (d':=d) (t':=t) (ch:=[]) un hok bare (λb z=>absurd z ζ),r,q⟩
end
def bW(sp:Sp)(vA:List V)(E:XK)(t:TA):TE:=λσ H Q=>t σ H λvs H1=>sp (vs++vA) H1 Q E
def Vi(C:AJ)(m:Str)(sp:Sp)(vA:List V)(E:XK)(ta:TE)(t:TA):TE:=λσ H Q=>ta σ H λx H1=>∃a dx fs,x=.ref a/\H1 a=some (.ins C dx fs)/\fs.lookup m=none/\
 t σ H1 λvs H2=>sp (x::(vs++vA)) H2 Q E
def Zfe(C:AJ)(sp:Sp)(vA:List V)(E:XK)(t:TA):TE:=λσ H Q=>t σ H λvs H1=>∀x dx,H1 x=none->H1 dx=none->dx≠x->
 sp (.ref x::(vs++vA)) (upd (upd H1 dx (.own x)) x (.ins C dx [])) (λv H2=>v=.non/\Q (.ref x) H2) E
def Binds(K:aK)(fd:AM)(ps:AI)(ds:AE):Prop:=
 ∀(s:AL) (us:AE),K.In s.heap->(us++ds).length=ps.length->BindsTo s fd ⟨us,[]⟩ (ps.zip (us++ds))
theorem Binds.all{K:aK}{fd:AM}{ps:AI}(h:∀us:AE,us.length=ps.length->bindArgs fd ⟨us,[]⟩=pure (ps.zip us)):Binds K fd ps []:=λs us _ hl=>by
 rw[List.append_nil]at hl ⊢;exact .of_eq (h us hl)
def Passes(CX:CXT)(X:Cx)(E:XK):Prop:=∀(pins:Au) (σ:St) (H:Hp) (s:AL) (e:AK) (s':AL),Inv X pins σ H s->CX X.stack H s E e s'->X.xe e s'
section
variable {X:Cx}{CX:CXT}{k:Nat}{f C:AJ}{fd:AM}{ps:AI}{sp:Sp}{vA:List V}{ds:AE}{E:XK}{x m:Str}{p pos apos:Pos}{e o:AO}{es:AH}{ta:TE}{t:TA}
theorem Zjr{pins:Au}{σ:St}{H:Hp}{s:AL}{Q:VK}{us:AE}{vs:List V}(F:vI X.prog X.w X.K X.mg X.base CX k f fd ps sp)(hr:Room k X.A)(hb:Binds X.K fd ps ds)(hd:Vals vA ds)(hx:Passes CX X E)
  (I:Inv X pins σ H s) (r:Vals vs us) (h:sp (vs++vA) H Q E):wpAny ς X.A (call (.ref f) us) (EP X pins σ Q) X.xe s:=by
 have r2:Vals (vs++vA) (us++ds):=r.append hd;have hl:(us++ds).length=ps.length:=by rw[<- r2.length];exact F.len _ _ _ _ h
 refine wpAny_call (codeAny_mono (F.run X.A X.stack s H ⟨us,[]⟩ (us++ds) (vs++vA) Q E hr I.env0 (hb s us I.pL hl) r2 h) λr s' hq=>?_);cases r with
 | error e=>exact hx pins σ H s e s' I hq
 | ok fl=>
  cases fl with
  | ret u=>exact I.after hq
  | next=>exact False.elim hq
  | brk=>exact False.elim hq
  | cont=>exact False.elim hq
theorem iy(F:vI X.prog X.w X.K X.mg X.base CX k f fd ps sp)(hr:Room k X.A)(hg:Gl X x)(hm:X.mg x=↑f)(hk:W.keepIn X.K (.ref f)=true)(hb:Binds X.K fd ps ds)(hd:Vals vA ds)(hx:Passes CX X E)
  (ha:PA X (e::es) t) (hdb:(x == ("__debug__":Str))=false:=by decide) (he:starEach (e::es) X.env=(false,eval e X.env)::starEach es X.env:=by rfl) (hpl:(backTo pos (starEach es X.env)).any (·.1)=false:=by rfl):
  PE X (.Call (.Name x p) (e::es) [] pos) (bW sp vA E t):=by
 intro pins s σ H Q I h;refine wpAny_Call_Name_kw (gB I hg hm ?_ hdb);refine W.callWith_K (h₀:=X.base) I.ok.mod.kin hk (iJ (ha pos pins s σ H _ I h) λus s1 ⟨vs,H1,I1,r,q⟩=>⟨I1.pL,?_⟩) he hpl;exact Zjr F hr hb hd hx I1 r q
theorem Dz{pl:Sem Bool}(he:PE X o ta)(c:Y7 X.K C)(hm:Meth X.K C m f)(F:vI X.prog X.w X.K X.mg X.base CX k f fd ps sp)(hr:Room k X.A)(hb:Binds X.K fd ps ds)(hd:Vals vA ds)(hx:Passes CX X E)
  (ht:eval (.Call (.Attribute o m apos) [] [] pos) X.env=(do
   let ov <- eval o X.env
   standAt apos.atName
   let (f,first) <- holding [ov] (getMethod ov m pl)
   callWith pos f first (backTo pos (starEach [] X.env)) (backToKw pos (keywordEach [] X.env))):=by rfl):
  PE X (.Call (.Attribute o m apos) [] [] pos) (Vi C m sp vA E ta aM):=by
 intro pins s σ H Q I h;refine W.methodCall_KW (pl:=pl) (iJ (he pins s σ H _ I h) λu s1 ⟨x,H1,I1,rx,a,dx,fs,ex,ea,l,q⟩=>?_) ht;subst ex;obtain rfl:u=Value.ref a:=rx;refine Zek I1 ea c hm l ?_;exact W.callWith_K0 (first:=[.ref a]) I1.pL hm.kp (Zjr (us:=[.ref a]) (vs:=[.ref a]) F hr hb hd hx I1 (.cons rfl .nil) q)
structure Mk(K:aK)(C f:AJ):Prop where
 makes:W.makesIn K C=true
 init:W.findIn K (.ref C) "__init__"=some (↑f)
 fn:W.isFn K (.ref f)=true
 kp:W.keepIn K (.ref C)=true
theorem Zjq{pins:Au}{σ:St}{H:Hp}{s:AL}{Q:VK}{us:AE}{vs:List V}(M:Mk X.K C f)(F:vI X.prog X.w X.K X.mg X.base CX k f fd ps sp)(hr:Room (k+1) X.A)(hb:Binds X.K fd ps ds)(hd:Vals vA ds)
  (hx:Passes CX X E) (I:Inv X pins σ H s) (r:Vals vs us)
  (h:∀x dx,H x=none->H dx=none->dx≠x->sp (.ref x::(vs++vA)) (upd (upd H dx (.own x)) x (.ins C dx [])) (λv H2=>v=.non/\Q (.ref x) H2) E):
  wpAny ς X.A (call (.ref C) us) (EP X pins σ Q) X.xe s:=by
 have hq:=h ar s.heap.objs.size (I.hok.fresh (Nat.le_succ _)) (I.hok.fresh χ) (Nat.ne_of_lt (Nat.lt_succ_self _));have I2:=Inv.made (C:=C) I;have r2:Vals (V.ref ar::(vs++vA)) (Value.ref ar::(us++ds)):=.cons rfl (r.append hd);have hl:(Value.ref ar::us++ds).length=ps.length:=by
  have e:=r2.length;rw[F.len _ _ _ _ hq]at e;exact e.symm
 refine wpAny_call (Zkt (f:=f) I.pL M.makes M.init (beq_iff_eq.mp M.fn) (codeAny_mono (F.run _ X.stack _ _ ⟨Value.ref ar::us,[]⟩ (Value.ref ar::(us++ds)) _ _ E (hr.make C us [])
  (I2.env0.make C us []) (hb _ (Value.ref ar::us) I2.pL hl) r2 hq) λr s' hq'=>?_))
 cases r with
 | error e=>exact hx pins σ _ _ e s' I2 hq'
 | ok fl=>
  cases fl with
  | ret u=>
   obtain⟨v,H',I3,rv,ev,q3⟩:=I2.after hq';subst ev;exact⟨rv,⟨V.ref ar,H',I3,rfl,q3⟩⟩
  | next=>exact False.elim hq'
  | brk=>exact False.elim hq'
  | cont=>exact False.elim hq'
theorem Zfl(M:Mk X.K C f)(F:vI X.prog X.w X.K X.mg X.base CX k f fd ps sp)(hr:Room (k+1) X.A)(hg:Gl X x)(hm:X.mg x=↑C)(hb:Binds X.K fd ps ds)(hd:Vals vA ds)(hx:Passes CX X E)
  (ha:PA X (e::es) t) (hdb:(x == ("__debug__":Str))=false:=by decide) (he:starEach (e::es) X.env=(false,eval e X.env)::starEach es X.env:=by rfl) (hpl:(backTo pos (starEach es X.env)).any (·.1)=false:=by rfl):
  PE X (.Call (.Name x p) (e::es) [] pos) (Zfe C sp vA E t):=by
 intro pins s σ H Q I h;refine wpAny_Call_Name_kw (gB I hg hm ?_ hdb);refine W.callWith_K (h₀:=X.base) I.ok.mod.kin M.kp (iJ (ha pos pins s σ H _ I h) λus s1 ⟨vs,H1,I1,r,q⟩=>⟨I1.pL,?_⟩) he hpl;exact Zjq M F hr hb hd hx I1 r q
end
section
variable {X:Cx}{CX:CXT}{k:Nat}{f C:AJ}{fd:AM}{ps ks:AI}{sp:Sp}{E:XK}{x m:Str}{p pos apos kpos:Pos}{e o:AO}{es:AH}{kws:List Keyword}{te ta:TE}{t tk:TA}{nm:Option Str}
structure ZFb(K:aK)(fd:AM)(ps ks:AI)(g:AE->AE->AE)(gV:List V->List V->List V):Prop where
 to:∀(s:AL) (us ws:AE),K.In s.heap->(g us ws).length=ps.length->BindsTo s fd ⟨us,ks.zip ws⟩ (ps.zip (g us ws))
 rel:∀{vs:List V}{us:AE}{zs:List V}{ws:AE},Vals vs us->Vals zs ws->Vals (gV vs zs) (g us ws)
variable {g:AE->AE->AE}{gV:List V->List V->List V}
end
structure bN(N P:AI)(sc:Scope):Prop where
 kind:sc.kind=.function
 co:sc.isCoroutine=false
 gen:sc.isGenerator=false
 nd:N.Nodup
 pre:N.take P.length=P
 par:∀x∈P,sc.names.lookup x=some .local\/sc.names.lookup x=some .cell
 Zs4:∀y∈sc.names,y.2≠.free
theorem Wf{kindOf:Str->Option NameKind}{x:Str}:∀{binds:List (Str×AK)}{m:As},(∀v,(x,v)∉binds)->bindL kindOf binds m x=m x
 | [],_,_=>rfl
 | (n,v)::r,m,h=>by
  unfold bindL;rw[Wf λw hw=>h w (List.mem_cons_of_mem _ hw)];split
  ·have:x≠n:=by rintro rfl;exact h v List.mem_cons_self
   simp[this]
  ·rfl
theorem Wh{kindOf:Str->Option NameKind}{x:Str}:∀{binds:List (Str×AK)}{m:As},(∀v,(x,v)∉binds)->bindC kindOf binds m x=m x
 | [],_,_=>rfl
 | (n,v)::r,m,h=>by
  unfold bindC;rw[Wh λw hw=>h w (List.mem_cons_of_mem _ hw)];split
  ·rfl
  ·have:x≠n:=by rintro rfl;exact h v List.mem_cons_self
   simp[this]
theorem Wg{kindOf:Str->Option NameKind}{x:Str}{v:AK}:∀{P:AI}{vs:AE}{i:Nat}{m:As},P.Nodup->P[i]? =some x->vs[i]? =some v->kindOf x=some .local->
  bindL kindOf (P.zip vs) m x=some v
 | [],_,_,_,_,h,_,_=>by simp at h
 | _::_,[],_,_,_,_,h,_=>by simp at h
 | p::P,w::vs,0,m,nd,h1,h2,hk=>by
  simp at h1 h2;subst h1;subst h2;show bindL kindOf ((p,w)::P.zip vs) m p=_;unfold bindL;rw[Wf λv hv=>(List.nodup_cons.mp nd).1 (List.of_mem_zip hv).1,if_pos hk];simp
 | p::P,w::vs,i+1,m,nd,h1,h2,hk=>by
  show bindL kindOf ((p,w)::P.zip vs) m x=_;unfold bindL;exact Wg (i:=i) (List.nodup_cons.mp nd).2 (by simpa using h1) (by simpa using h2) hk
theorem Wi{kindOf:Str->Option NameKind}{x:Str}{v:AK}:∀{P:AI}{vs:AE}{i:Nat}{m:As},P.Nodup->P[i]? =some x->vs[i]? =some v->kindOf x≠some .local->
  bindC kindOf (P.zip vs) m x=some v
 | [],_,_,_,_,h,_,_=>by simp at h
 | _::_,[],_,_,_,_,h,_=>by simp at h
 | p::P,w::vs,0,m,nd,h1,h2,hk=>by
  simp at h1 h2;subst h1;subst h2;show bindC kindOf ((p,w)::P.zip vs) m p=_;unfold bindC;rw[Wh λv hv=>(List.nodup_cons.mp nd).1 (List.of_mem_zip hv).1,if_neg hk];simp
 | p::P,w::vs,i+1,m,nd,h1,h2,hk=>by
  show bindC kindOf ((p,w)::P.zip vs) m x=_;unfold bindC;exact Wi (i:=i) (List.nodup_cons.mp nd).2 (by simpa using h1) (by simpa using h2) hk
def start(N:AI)(vs:List V):St:=vs.map some++List.replicate (N.length - vs.length) none
def Jo(CX:CXT)(P:AN)(w:AQ)(K:aK)(mg:As)(base:Heap)(N:AI)(qual:Str)(scope:Scope)(f:AJ)(cd:AK)(A:Around)(outer:List Env)(s:AL)(H:Hp)(E:XK):Cx where
 prog:=P
 w:=w
 K:=K
 mg:=mg
 base:=base
 A:=A.deeper (envOfC qual scope s.heap.objs.size f cd)
 N:=N
 s₀:=s
 H₀:=H
 env:=envOfC qual scope s.heap.objs.size f cd
 outer:=outer
 stack:=envOfC qual scope s.heap.objs.size f cd::outer
 ex:=[]
 calm:=true
 fn:=λ_=>true
 pn:=[]
 xe:=λe s'=>wpAny (model P w) (A.deeper (envOfC qual scope s.heap.objs.size f cd)) (leaving (envOfC qual scope s.heap.objs.size f cd) e) (λ_ s''=>CX outer H s E e s'') (λe' s''=>CX outer H s E e' s'') s'
theorem Zbj{sc:Scope}{n:Nat}{x:Str}(h:sc.names.lookup x=some .cell):∃c,(cellsFrom n sc.names []).lookup x=some c:=by
 have q:=W.cellsFrom_some sc.names n [] (.inl h);exact Option.isSome_iff_exists.mp q
theorem Zhv{CX:CXT}{P:AN}{w:AQ}{K:aK}{mg:As}{base:Heap}{N ps:AI}{qual:Str}{scope:Scope}{f:AJ}{cd:AK}{A:Around}{outer:List Env}{s s1:AL}{H:Hp}{E:XK}{us:AE}{vs:List V}
  (S:bN N ps scope) (hd:A.handled=none) (e0:Zf6 P w K mg base A outer s H) (hl:vs.length=ps.length) (r:Vals vs us)
  (x:InCallC s s.heap.objs.size (bindL (envOfC qual scope s.heap.objs.size f cd).kindOf (ps.zip us) λ_=>none) (cellsFrom ar scope.names []) (bindC (envOfC qual scope s.heap.objs.size f cd).kindOf (ps.zip us) λ_=>none) s1):
  Inv (Jo CX P w K mg base N qual scope f cd A outer s H E) [] (start N vs) H s1:=by
 have hpl:ps.length<=N.length:=by have:=congrArg List.length S.pre;rw[List.length_take]at this;omega
 obtain⟨h1,tk,rfl,hk⟩:=x.done;have noA:∀b:AJ,b∉(Jo CX P w K mg base N qual scope f cd A outer s H E).ex:=λb z=>absurd (show b∈([]:AG)from z) ζ;refine⟨⟨e0.mod,S.kind,rfl,rfl,Nat.le_refl _,λy z c h1 h2=>?_,λy hy=>?_,λy c _ h=>?_,λ_=>hd,Around.frames_deeper e0.frames,.inr ⟨rfl,rfl⟩,λb z=>absurd z (noA b),e0.bs,e0.bsz,λb _ _=>noA b,λb z=>absurd z (noA b),e0.wQ,e0.frf⟩,
  rfl,e0.bare,Un.kept hk,⟨_,x.toInCall.ns,λi y v h1 h2 h3=>?_⟩,λy c h=>⟨_,x.cell y c h⟩,e0.hok.fresh χ,λy c h=>?_,λp hp=>absurd (show p∈([]:Au)from hp) ζ,e0.hok.kept hk,?_⟩
 ·exact name_of_addr x.apart (PySem.mem_of_lookup h1) (PySem.mem_of_lookup h2)
 ·have hy:scope.names.lookup y=some .cell\/scope.names.lookup y=some .free:=hy;rcases hy with hy | hy
  ·exact Zbj hy
  ·exact absurd rfl (S.Zs4 _ (PySem.mem_of_lookup hy))
 ·exact Nat.le_of_lt (x.above y c (PySem.mem_of_lookup h))
 ·have hi:i<vs.length:=by
   unfold start at h2
   by_cases hi:i<vs.length
   ·exact hi
   ·rw[List.getElem?_append_right (by simpa using hi)]at h2;rw[List.getElem?_replicate]at h2;split at h2<;>cases h2
  have ha:vs[i]? =some v:=by
   unfold start at h2;rw[List.getElem?_append_left (by simpa using hi),fY]at h2;cases e:vs[i]? with
   | none=>rw[e]at h2;cases h2
   | some a=>rw[e]at h2;cases h2;rfl
  obtain⟨u,hu,rv⟩:=r.get ha;have hp:ps[i]? =some y:=by
   rw[<- S.pre,List.getElem?_take_of_lt δ];exact h1
  have ndP:ps.Nodup:=by rw[<- S.pre];exact S.nd.sublist (List.take_sublist _ _)
  refine⟨u,rv,?_⟩;rcases S.par y (List.mem_of_getElem? hp)with k | k
  ·exact .inl ⟨k,Wg ndP hp hu k⟩
  ·obtain⟨c,e⟩:=Zbj (n:=s.heap.objs.size+1) k;refine .inr ⟨.inl k,c,e,?_⟩;have q:=x.cell y c e;rw[Wi ndP hp hu (by show scope.names.lookup y≠_;rw[k];decide)]at q;exact q
 ·exact e0.hok.fresh (Nat.le_of_lt (x.above y c (PySem.mem_of_lookup h)))
 ·unfold start;show _=N.length;rw[List.length_append,bF,List.length_replicate];omega
theorem Zmb{CX:CXT}{P:AN}{w:AQ}{K:aK}{mg:As}{base:Heap}{k:Nat}{f:AJ}{name qual:Str}{params:Arguments}{body:List Stmt}{scope:Scope}{dV kV doc pm cdv ct oc:AK}{an od:Option AJ}
  {osl:Array AC}{N ps:AI}{sp:Sp} (lk:K.lookup f=some ⟨oc,od,.func (W.fnOf name qual params body scope dV kV doc pm an cdv ct),osl⟩) (hcd:W.codeIn K cdv qual=true) (S:bN N ps scope)
  (len:∀vs H Q E,sp vs H Q E->vs.length=ps.length)
  (hbody:∀(A:Around) (outer:List Env) (s:AL) (H:Hp) (vs:List V) (Q:VK) (E:XK),Room k (A.deeper (envOfC qual scope s.heap.objs.size f cdv))->sp vs H Q E->
   ∃t,Rh (Jo CX P w K mg base N qual scope f cdv A outer s H E) body t/\t { nx:=λ_ H'=>Q .non H',rt:=Q } (start N vs) H):
  vI P w K mg base CX (k+1) f (W.fnOf name qual params body scope dV kV doc pm an cdv ct) ps sp:=by
 refine⟨len,λA outer s H args us vs Q E hr e0 hb r hsp=>?_⟩;have hl:=len _ _ _ _ hsp;have KX:K.In s.heap:=e0.mod.kin.keeps λb o e=>(e0.bs b o e).1;have lim:s.heap.NoLimit:=e0.mod.nolimit.keeps λb o e=>(e0.bs b o e).1;have hkind:∀y∈ps.zip us,scope.names.lookup y.1=some .local\/(scope.names.lookup y.1=some .cell/\((cellsFrom ar scope.names []).lookup y.1).isSome=true):=λ⟨n,v⟩ hy=>by
  rcases S.par n (List.of_mem_zip hy).1 with q | q
  ·exact .inl q
  ·exact .inr ⟨q,W.cellsFrom_some _ _ _ (.inl q)⟩
 refine codeAny_call_function hr.depth (KX _ _ lk) rfl S.co S.gen rfl (W.codeRec_of KX hcd) (hb _ _ _ _ ?_);refine wpAny_newFunctionEnv_cells S.kind hkind λenv he s1 x=>?_;subst he;refine⟨lim.keeps x.toInCall.keep,codeAny_func ?_⟩;obtain⟨t,ht,hq⟩:=hbody A outer s H vs Q E (hr.deeper _) hsp;have I:Inv (Jo CX P w K mg base N qual scope f cdv A outer s H E) [] (start N vs) H s1:=Zhv S hr.hd e0 hl r x;refine wpAny_mono (ht [] s1 (start N vs) H _ I hq) (λfl s' hs=>?_) λe s' hs=>hs;have fin:∀{σ':St}{H':Hp}{v:V}{u:AK},Inv (Jo CX P w K mg base N qual scope f cdv A outer s H E) [] σ' H' s'->RelV v u->Q v H'->CE outer P w H s Q u s':=
  λ{σ' H' v u} J rv q=>⟨v,H',J.os,J.bare,J.base,J.hok,rv,q⟩
 cases fl with
 | ret u=>
  obtain⟨v,σ',H',J,rv,q⟩:=hs;exact fin J rv q
 | next=>
  obtain⟨σ',H',J,q⟩:=hs;exact fin (v:=V.non) (u:=Value.none) J rfl q
 | brk=>
  obtain⟨_,_,_,q⟩:=hs;exact False.elim q
 | cont=>
  obtain⟨_,_,_,q⟩:=hs;exact False.elim q
section
variable {X:Cx}{x:Str}{p pos:Pos}{e:AO}{es:AH}{t:TA}{id T:String}{r:List V->Hp->VK->Prop}
def mH(r:List V->Hp->VK->Prop)(t:TA):TE:=λσ H Q=>t σ H λvs H1=>r vs H1 Q
theorem bY(hc:oR X (.builtin id) r)(hg:Gl X x)(hm:X.mg x=none)(hv:bootBuiltins x=some (.builtin id))(ha:PA X (e::es) t)(hn:x≠"__name__":=by decide)(hdb:(x == ("__debug__":Str))=false:=by decide)
  (he:starEach (e::es) X.env=(false,eval e X.env)::starEach es X.env:=by rfl) (hpl:(backTo pos (starEach es X.env)).any (·.1)=false:=by rfl):PE X (.Call (.Name x p) (e::es) [] pos) (mH r t):=by
 intro pins s σ H Q I h;refine wpAny_Call_Name_kw (Ck I hg hm hv ?_ hn hdb);exact PyProof.Rows.callWith_builtin1 (iJ (ha pos pins s σ H _ I h) λus s1 ⟨vs,H1,I1,r1,q1⟩=>hc pins s1 σ H1 vs us Q I1 r1 q1) he hpl
theorem ji(hc:oR X (.type T) r)(hg:Gl X x)(hm:X.mg x=none)(hv:bootBuiltins x=some (.type T))(ha:PA X (e::es) t)(hn:x≠"__name__":=by decide)(hdb:(x == ("__debug__":Str))=false:=by decide)
  (he:starEach (e::es) X.env=(false,eval e X.env)::starEach es X.env:=by rfl) (hpl:(backTo pos (starEach es X.env)).any (·.1)=false:=by rfl):PE X (.Call (.Name x p) (e::es) [] pos) (mH r t):=by
 intro pins s σ H Q I h;refine wpAny_Call_Name_kw (Ck I hg hm hv ?_ hn hdb);exact PyProof.Rows.callWith_type1 (iJ (ha pos pins s σ H _ I h) λus s1 ⟨vs,H1,I1,r1,q1⟩=>hc pins s1 σ H1 vs us Q I1 r1 q1) he hpl
end
end L2
namespace HT
open PySem PyProof.Rows
section
open PySem.SeqAt
open PySem.AutoSeq1 (wpAny_loadPart')
open PySem.MeetsSeq PySem.MeetsSeq2 PySem.MeetsSeq3
end
section
variable {prog:AN}{w:AQ}{A:Around}{E:Ap}{s:AL}
theorem Zpw{t b:AJ}{vs ws:AE}{Q:Ap}(ht:IsTup s.heap t vs.toArray)(hb:IsTup s.heap b ws.toArray)(hv:vs≠[])
  (h1:ws=[]->Q (.ref t) s) (h2:ws≠[]->Q (.ref s.heap.objs.size) { s with heap:=s.heap.push { cls:=.type "tuple",data:=.seq (vs++ws).toArray } })
  (hsz:vs.length+ws.length<=sizeLine):wpAny Ξ A (binaryOp .Add (.ref t) (.ref b)) Q E s:=by
 obtain⟨⟨cls,dd,data,sl⟩,ho,hc,n,hd⟩:=id ht;obtain⟨⟨cls2,dd2,data2,sl2⟩,ho2,hc2,n2,hd2⟩:=id hb;simp only at hc hd hc2 hd2;subst hc hd hc2 hd2;have e:vs.toArray++ws.toArray=(vs++ws).toArray:=ζ
 by_cases hw:ws=[]
 ·exact concat_meets ⟨_,ho,rfl⟩ ⟨_,ho2,rfl⟩ noFill_tuple_add seq_tuple_add PySem.F.slot_tuple_add PySem.F.entry_tuple_add (PySem.F.args_tuple_add_2 _ _)
   (tuple_addW1 t b vs.toArray ws.toArray n n2 dd dd2 sl sl2 (by simpa using hv) (by simp[hw])) ⟨ho,ho2,h1 hw⟩
 ·refine concat_meets ⟨_,ho,rfl⟩ ⟨_,ho2,rfl⟩ noFill_tuple_add seq_tuple_add PySem.F.slot_tuple_add PySem.F.entry_tuple_add (PySem.F.args_tuple_add_2 _ _)
   (tuple_addW2 t b vs.toArray ws.toArray n n2 dd dd2 sl sl2 (by simpa using hv) (by simpa using hw) (by rw[List.size_toArray,List.size_toArray];exact hsz)) ⟨ho,ho2,?_⟩
  rw[e];exact h2 hw
def fO(n d:Nat):AB->Nat
 | none=>d
 | some v=>if v<0 then(v+(n:Int)).toNat else min v.toNat n
theorem WY(n d k:Nat):fO n d (some (k:Int))=min k n:=by
 show(if (k:Int)<0 then((k:Int)+(n:Int)).toNat else min (k:Int).toNat n)=min k n;rw[if_neg δ,Int.toNat_natCast]
theorem tH(n d:Nat)(hd:d<=n)(o:AB):fO n d o<=n:=by
 cases o with
 | none=>exact hd
 | some v=>
  show(if v<0 then(v+(n:Int)).toNat else min v.toNat n)<=n
  by_cases hv:v<0
  ·rw[if_pos hv];omega
  ·rw[if_neg hv];exact Nat.min_le_right _ _
theorem Zgi(v:Int)(n d:Nat):(if v<0 then max (v+(n:Int)) 0 else min v (n:Int))=((fO n d (some v):Nat):Int):=by
 show(if v<0 then max (v+(n:Int)) 0 else min v (n:Int))=(((if v<0 then(v+(n:Int)).toNat else min v.toNat n):Nat):Int)
 by_cases hv:v<0
 ·simp only[if_pos hv];omega
 ·simp only[if_neg hv];omega
theorem Zey(lo hi:AB)(n:Nat):Builtin.Slice.sliceAdjust lo hi 1 (n:Int)=(((fO n 0 lo:Nat):Int),((fO n n hi:Nat):Int)):=by
 have h1:¬ ((1:Int)<0):=δ
 unfold Builtin.Slice.sliceAdjust;simp only[h1,if_false];refine Prod.ext ?_ ?_
 ·cases lo with
  | none=>rfl
  | some v=>exact Zgi v n 0
 ·cases hi with
  | none=>rfl
  | some v=>exact Zgi v n n
theorem Zdd(i j:Nat):Builtin.Slice.slicePlaces (i:Int) (j:Int) 1=j - i:=by
 unfold Builtin.Slice.slicePlaces;have h1:(1:Int) > 0:=δ
 simp only[h1,if_true,Int.ediv_one];split<;>omega
theorem Py{v:AK}{o:AB}{Q:AB->AL->Prop}(p:IsPart v o)(h:Q o s):wpAny Ξ A (Builtin.Slice.slicePartIndex v) Q E s:=by
 cases p with
 | none=>exact slicePart_none h
 | int i t=>exact slicePart_int h
theorem Gq{sl:AJ}{vl vu:AK}{lo hi:AB}{n:Nat}{Q:Int×Int×Nat->AL->Prop}(hs:s.heap.IsSliceOf sl vl vu .none)(pl:IsPart vl lo)(pu:IsPart vu hi)
  (h:Q (((fO n 0 lo:Nat):Int),1,fO n n hi - fO n 0 lo) s):wpAny Ξ A (Builtin.Slice.sliceApplied (.ref sl) (pure (n:Int))) Q E s:=by
 obtain⟨os,hos,hcs,hds⟩:=id hs;unfold Builtin.Slice.sliceApplied Builtin.Slice.sliceFields;refine wpAny_bind (wpAny_bind (wpAny_field hos hds (x:=vl) rfl (wpAny_bind (wpAny_field hos hds (x:=vu) rfl (wpAny_bind (wpAny_field hos hds (x:=.none) rfl (wpAny_pure ?_)))))));refine wpAny_bind (slicePart_none ?_);show wpAny _ _ (if ((1:Int) == 0)=true then _ else _) _ _ s;rw[if_neg ε];refine wpAny_bind (Py pl (wpAny_bind (Py pu (wpAny_bind (wpAny_pure ?_)))));show wpAny _ _ (match Builtin.Slice.sliceAdjust lo hi 1 (n:Int)with | (lo,hi)=>pure (lo,(1:Int),Builtin.Slice.slicePlaces lo hi 1)) _ _ s;rw[Zey lo hi n];show wpAny _ _ (pure (((fO n 0 lo:Nat):Int),(1:Int),Builtin.Slice.slicePlaces ((fO n 0 lo:Nat):Int) ((fO n n hi:Nat):Int) 1)) _ _ s;rw[Zdd];exact wpAny_pure h
theorem Zk5(xs:Array AK)(i k:Nat):((List.range k).filterMap λ(m:Nat)=>xs[((i:Int)+(m:Int) * 1).toNat]?).toArray=((xs.toList.drop i).take k).toArray:=by
 have e:(λ(m:Nat)=>xs[((i:Int)+(m:Int) * 1).toNat]?)=λm=>xs[i+m]? :=by
  funext m
  have:((i:Int)+(m:Int) * 1).toNat=i+m:=δ
  rw[this]
 rw[e];have:=pick_run xs i k;rw[List.filterMap_map]at this;have e2:((λx=>xs[x]?) ∘ λx=>i+x)=λm=>xs[i+m]? :=rfl;rw[e2]at this;rw[this]
theorem Es{t sl:AJ}{items:Array AK}{vl vu:AK}{lo hi:AB}{Q:Ap}(ht:IsTup s.heap t items)(hs:s.heap.IsSliceOf sl vl vu .none)(pl:IsPart vl lo)(pu:IsPart vu hi)
  (hw:¬ (fO items.size 0 lo=0/\fO items.size items.size hi=items.size))
  (h:Q (.ref s.heap.objs.size) { s with heap:=s.heap.push { cls:=.type "tuple",data:=.seq ((items.toList.drop (fO items.size 0 lo)).take (fO items.size items.size hi - fO items.size 0 lo)).toArray } })
  (hsz:items.size<=sizeLine):wpAny Ξ A (getItem (.ref t) (.ref sl)) Q E s:=by
 have Zg6:sizeOk (.seq ((items.toList.drop (fO items.size 0 lo)).take (fO items.size items.size hi - fO items.size 0 lo)).toArray):=by
  show((items.toList.drop (fO items.size 0 lo)).take (fO items.size items.size hi - fO items.size 0 lo)).toArray.size<=sizeLine;rw[List.size_toArray,List.length_take,List.length_drop,Array.length_toList];omega
 have hj:fO items.size items.size hi<=items.size:=tH _ _ χ hi;obtain⟨os,hos,hcs,hds⟩:=id hs;have hTs:s.TypeIs (.ref sl) "slice":=⟨os,hos,hcs⟩;unfold getItem
 try with_reducible refine wpAny_holding ?_
 first | refine wpAny_bind (wpAny_pure ?_) | skip
 refine wpAny_bind (wpAny_sequenceKey ht.typeIs ε ?_);refine wpAny_bind (wpAny_callSpecial?_slot (name:=Str.ofString "__getitem__") ht.typeIs PyProof.Rows.slot_tuple_getitem
  (wpAny_call_entry PyProof.Rows.slot_tuple_getitem ht.typeIs entry_tuple_getitem ?_ (args_tuple_getitem _ _)))
 show wpAny _ _ (Builtin.Tuple.tupleItemsOf (.ref t) >>= _) _ _ s;refine wpAny_bind (tupleItemsOf_ ht ?_);refine wpAny_bind (wpAny_typeOf hTs ?_);rw[if_pos ε];refine wpAny_bind (Gq hs pl pu ?_);have hno:¬ ((((fO items.size 0 lo:Nat):Int) == 0 && (1:Int) == 1 && (fO items.size items.size hi - fO items.size 0 lo) == items.size)=true):=by
  intro q;rw[Bool.and_eq_true,Bool.and_eq_true]at q;have q1:((fO items.size 0 lo:Nat):Int)=0:=eq_of_beq q.1.1;have q2:fO items.size items.size hi - fO items.size 0 lo=items.size:=eq_of_beq q.2;exact hw ⟨δ,δ⟩
 show wpAny _ _ (if (((fO items.size 0 lo:Nat):Int) == 0 && (1:Int) == 1 && (fO items.size items.size hi - fO items.size 0 lo) == items.size)=true then _ else _) _ _ s;rw[if_neg hno,Zk5]
 first
  | exact wpAny_bind (m:=Builtin.Tuple.tupleExact _) (wpAny_newObj_type (wpAny_pure ⟨_,rfl,wpAny_pure h⟩) Zg6)
  | exact wpAny_bind (m:=Builtin.Tuple.tupleExact _) (wpAny_newObj_type (wpAny_bind (wpAny_pure (wpAny_pure ⟨_,rfl,wpAny_pure h⟩))) Zg6)
  | exact wpAny_bind (wpAny_bind (m:=Builtin.Tuple.tupleExact _) (wpAny_newObj_type (wpAny_pure (wpAny_pure ⟨_,rfl,wpAny_pure h⟩)) Zg6))
  | exact wpAny_bind (wpAny_bind (m:=Builtin.Tuple.tupleExact _) (wpAny_newObj_type (wpAny_pure ⟨_,rfl,wpAny_pure h⟩) Zg6))
end
end HT
namespace L2
open PySem PySem.Spec PyProof.Rows
abbrev TO:=St->Hp->(AB->Hp->Prop)->Prop
def PO(X:Cx)(e:Option AO)(t:TO):Prop:=
 ∀(pins:Au) (s:AL) (σ:St) (H:Hp) (Q:AB->Hp->Prop),Inv X pins σ H s->t σ H Q->
  wpAny ς X.A (evalPart e X.env) (λu s'=>∃o H',Inv X pins σ H' s'/\IsPart u o/\Q o H') X.xe s
def gR:TO:=λ_ H Q=>Q none H
def mF(t:TE):TO:=λσ H Q=>t σ H λx H1=>∃i,x=.int i/\Q (some i) H1
section
variable {X:Cx}{e:AO}{te:TE}{lo hi:Option AO}{tl th:TO}{pos p2:Pos}
theorem jR:PO X none gR:=by
 intro pins s σ H Q I h;rw[evalPart_none];exact wpAny_pure ⟨none,H,I,.none,h⟩
theorem jm(h:PE X e te):PO X (some e) (mF te):=by
 intro pins s σ H Q I hw;rw[evalPart_some];refine iJ (h pins s σ H _ I hw) λu s1 ⟨x,H1,I1,r1,q1⟩=>?_;obtain⟨i,rfl,q⟩:=q1;obtain⟨t,rfl⟩:=r1;exact⟨some i,H1,I1,.int i t,q⟩
def SlR(X:Cx)(r:V->AB->AB->Hp->VK->Prop):Prop:=
 ∀(pins:Au) (s:AL) (σ:St) (H:Hp) (x:V) (v vl vu:AK) (lo hi:AB) (sl:AJ) (Q:VK),Inv X pins σ H s->RelV x v->s.heap.IsSliceOf sl vl vu .none->IsPart vl lo->IsPart vu hi->r x lo hi H Q->
  ∃T id,typeLookup (.type T) "__getitem__"=pure (some (.builtin id))/\s.TypeIs v T/\wpAny ς X.A (getItem v (.ref sl)) (EP X pins σ Q) X.xe s
def RG(r:V->AB->AB->Hp->VK->Prop)(te:TE)(tl th:TO):TE:=λσ H Q=>te σ H λx H1=>tl σ H1 λl H2=>th σ H2 λu H3=>r x l u H3 Q
theorem ie{r:V->AB->AB->Hp->VK->Prop}(hr:SlR X r)(he:PE X e te)(hl:PO X lo tl)(hu:PO X hi th):PE X (.Subscript e (.Slice lo hi none p2) pos) (RG r te tl th):=by
 intro pins s σ H Q I h;refine Subscript_ (iJ (he pins s σ H _ I h) λv s1 ⟨x,H1,I1,r1,q1⟩=>?_);refine wpAny_Slice (iJ (hl pins s1 σ H1 _ I1 q1) λvl s2 ⟨l,H2,I2,pl,q2⟩=>iJ (hu pins s2 σ H2 _ I2 q2) λvu s3 ⟨u,H3,I3,pu,q3⟩=>?_);rw[evalPart_none];refine wpAny_pure ?_;have I4:Inv X pins σ H3 { s3 with heap:=s3.heap.push { cls:=.type "slice",data:=.fields #[vl,vu,.none] } }:=I3.kept (t':=s3.toks) λb ob q=>Heap.get?_push_of_some _ q;obtain⟨T,id,hT,ht,hg⟩:=hr pins { s3 with heap:=s3.heap.push { cls:=.type "slice",data:=.fields #[vl,vu,.none] } } σ H3 x v vl vu l u s3.heap.objs.size Q I4 r1 (Heap.IsSliceOf.new ..) pl pu q3;show wpAny ς X.A (subscriptTail e (.Slice lo hi none p2) v (.ref s3.heap.objs.size)) (EP X pins σ Q) X.xe { s3 with heap:=s3.heap.push { cls:=.type "slice",data:=.fields #[vl,vu,.none] } };exact tail_any (ops:=[.ref s3.heap.objs.size,v]) ht hT hg (by with_unfolding_all rfl)
def vC(xs:List V)(lo hi:AB):List V:=(xs.drop (HT.fO xs.length 0 lo)).take (HT.fO xs.length xs.length hi - HT.fO xs.length 0 lo)
theorem J3(xs:List V)(lo hi:AB):(vC xs lo hi).length<=xs.length:=by
 unfold vC;rw[List.length_take,List.length_drop];omega
def Zrn(K:aK):V->AB->AB->Hp->VK->Prop:=λx lo hi H Q=>∃a xs,x=.ref a/\ig K H a xs/\
 ¬ (HT.fO xs.length 0 lo=0/\HT.fO xs.length xs.length hi=xs.length)/\∀p,H p=none->Q (.ref p) (upd H p (.tup (vC xs lo hi)))
theorem Zjl:SlR X (Zrn X.K):=by
 intro pins s σ H x v vl vu lo hi sl Q I rx hs pl pu h;obtain⟨a,xs,rfl,hx,hw,q⟩:=h;cases rx;obtain⟨its,r,ht,hz⟩:=I.tuple hx;have hlen:its.toArray.size=xs.length:=by rw[List.size_toArray];exact r.length.symm
 refine⟨"tuple",_,PyProof.Rows.slot_tuple_getitem.lookup,ht.typeIs,?_⟩;refine HT.Es ht hs pl pu (by rw[hlen];exact hw) ?_ (by rw[hlen];exact hz);rw[hlen];refine⟨.ref s.heap.objs.size,_,I.laid (t':=s.toks) (o:=.tup (vC xs lo hi)) (λb ob q=>Heap.get?_push_of_some _ q) χ ?_,rfl,q _ (I.hok.fresh χ)⟩;exact⟨Nat.le_trans (J3 xs lo hi) hz,_,(r.drop (HT.fO xs.length 0 lo)).take (HT.fO xs.length xs.length hi - HT.fO xs.length 0 lo),IsTup.new _ _⟩
def Zjx(K:aK):R2:=λx y H Q=>∃a b xs ys,x=.ref a/\y=.ref b/\ig K H a xs/\ig K H b ys/\xs≠[]/\xs.length+ys.length<=sizeLine/\
 (ys=[]->Q (.ref a) H)/\(ys≠[]->∀p,H p=none->Q (.ref p) (upd H p (.tup (xs++ys))))
theorem Vals.Xj{xs:List V}{us:AE}(r:Vals xs us):us=[]↔xs=[]:=by
 cases r with
 | nil=>simp
 | cons _ _=>simp
theorem Zfo:wZ X (binaryOp .Add) (Zjx X.K):=by
 intro pins s σ H x y v u Q I rx ry h;obtain⟨a,b,xs,ys,rfl,rfl,ha,hb,hx,hz,q1,q2⟩:=h;cases rx;cases ry;obtain⟨its,r1,p1,_⟩:=I.tuple ha;obtain⟨its2,r2,p2,_⟩:=I.tuple hb;refine HT.Zpw p1 p2 (λz=>hx (r1.Xj.mp z)) (λz=>⟨.ref a,H,I,rfl,q1 (r2.Xj.mp z)⟩) (λz=>?_) (by rw[<- r1.length,<- r2.length];exact hz);refine⟨.ref s.heap.objs.size,_,I.laid (t':=s.toks) (o:=.tup (xs++ys)) (λb ob q=>Heap.get?_push_of_some _ q) χ ?_,rfl,q2 (λw=>z (r2.Xj.mpr w)) _ (I.hok.fresh χ)⟩;exact⟨by rw[List.length_append];exact hz,_,r1.append r2,IsTup.new _ _⟩
end
def ixN(n:Nat)(i:Int):Option Nat:=if 0<=i then(if i<n then some i.toNat else none)else if -(n:Int)<=i then some (i+n).toNat else none
def CW{α:Type}(xs:List α)(i:Int):Option α:=(ixN xs.length i).bind λj=>xs[j]?
theorem Zfz{n:Nat}{i:Int}{j:Nat}(h:ixN n i=some j):seqIndex? i n=some j/\j<n/\-(n:Int)<=i/\i<n:=by
 unfold ixN at h
 by_cases h0:0<=i
 ·rw[if_pos h0]at h
  by_cases h1:i<n
  ·rw[if_pos h1]at h;have e:i.toNat=j:=Option.some.inj h;exact⟨by rw[seqIndex_of h0 h1,e],δ,δ,h1⟩
  ·rw[if_neg h1]at h;cases h
 ·rw[if_neg h0]at h
  by_cases h1:-(n:Int)<=i
  ·rw[if_pos h1]at h;have e:(i+n).toNat=j:=Option.some.inj h;exact⟨by rw[seqIndex_neg δ h1,e],δ,h1,δ⟩
  ·rw[if_neg h1]at h;cases h
theorem YG{α:Type}{xs:List α}{i:Int}{v:α}(h:CW xs i=some v):∃j,seqIndex? i xs.length=some j/\xs[j]? =some v/\j<xs.length/\-(xs.length:Int)<=i/\i<xs.length:=by
 unfold CW at h;cases e:ixN xs.length i with
 | none=>rw[e]at h;cases h
 | some j=>
  rw[e]at h;obtain⟨h1,h2,h3,h4⟩:=Zfz e;exact⟨j,h1,h,h2,h3,h4⟩
theorem pN{α:Type}{xs:List α}{j:Nat}{v:α}(h:xs[j]? =some v):CW xs (j:Int)=some v:=by
 have hj:j<xs.length:=(iB h).1;have e:ixN xs.length (j:Int)=some j:=by
  unfold ixN;rw[if_pos δ,if_pos δ];simp
 unfold CW;rw[e];exact h
def Nt(b:AO):Prop:=∀o i,subscripted b false o i=operate [o,i] (getItem o i)
def IxR(X:Cx)(r:R2):Prop:=
 ∀(value slice:AO) (pins:Au) (s:AL) (σ:St) (H:Hp) (x y:V) (v u:AK) (Q:VK),Inv X pins σ H s->RelV x v->RelV y u->r x y H Q->
  subscripted slice false v u=operate [v,u] (getItem v u)->wpAny ς X.A (subscriptTail value slice v u) (EP X pins σ Q) X.xe s
def MtR(X:Cx)(id:String)(r:V->List V->Hp->VK->Prop):Prop:=
 ∀(pins:Au) (s:AL) (σ:St) (H:Hp) (x:V) (xs:List V) (v:AK) (us:AE) (Q:VK),Inv X pins σ H s->RelV x v->Vals xs us->r x xs H Q->
  wpAny ς X.A (call (.builtin id) (v::us)) (EP X pins σ Q) X.xe s
section
variable {X:Cx}{a b:AO}{ta tb:TE}{pos:Pos}
theorem Zkb{r:R2}(hr:IxR X r)(ha:PE X a ta)(hb:PE X b tb)(hs:Nt b):PE X (.Subscript a b pos) (aN r ta tb):=by
 intro pins s σ H Q I h;exact Subscript_ (Zu0 ha hb I h λv u s2 x y H2 I2 rx ry q=>hr a b pins s2 σ H2 x y v u Q I2 rx ry q (hs _ _))
def fM(K:aK):R2:=λx y H Q=>∃p xs i v,x=.ref p/\y=.int i/\cN K H p xs/\CW xs i=some v/\Q v H
def jf(K:aK):R2:=λx y H Q=>∃p xs i v,x=.ref p/\y=.int i/\ig K H p xs/\CW xs i=some v/\Q v H
def Zda:R2:=λx y H Q=>∃z i c,x=.str z/\y=.int i/\z.length<=sizeLine/\CW z.cps.toList i=some c/\Q (.str ⟨#[c]⟩) H
theorem cF:IxR X (fM X.K):=by
 intro value slice pins s σ H x y v u Q I rx ry h hs;obtain⟨p,xs,i,z,rfl,rfl,hq,he,q⟩:=h;cases rx;obtain⟨t,rfl⟩:=ry;obtain⟨its,r,pl,hz⟩:=I.list hq;obtain⟨j,h1,h2,h3,h4,h5⟩:=YG he;obtain⟨w,ew,rw'⟩:=r.get h2;have hl:=r.length;have hn:=HW;have fin:EP X pins σ Q w s:=⟨z,H,I,rw',q⟩
 by_cases h0:0<=i
 ·have hj:i.toNat=j:=by
   rw[seqIndex_of h0 h5]at h1;exact Option.some.inj h1
  exact item_listR pl.isList h0 δ (by rw[hj];simpa using ew) fin hs
 ·have hj:(i+(its.toArray.size:Int)).toNat=j:=by
   rw[seqIndex_neg δ h4]at h1;rw[List.size_toArray,<- hl];exact Option.some.inj h1
  exact subscriptTail_builtinR (x:=w) pl.isList.typeIs slot_list_getitem.lookup
   (wpAny_getItem_list_neg (Q:=λr s'=>r=w/\EP X pins σ Q r s') pl.isList δ (by rw[List.size_toArray]<;>omega) δ (by rw[hj];simpa using ew) ⟨rfl,fin⟩) hs
theorem dW:IxR X (jf X.K):=by
 intro value slice pins s σ H x y v u Q I rx ry h hs;obtain⟨p,xs,i,z,rfl,rfl,hq,he,q⟩:=h;cases rx;obtain⟨t,rfl⟩:=ry;obtain⟨its,r,pl,hz⟩:=I.tuple hq;obtain⟨j,h1,h2,h3,h4,h5⟩:=YG he;obtain⟨w,ew,rw'⟩:=r.get h2;have hl:=r.length;have hn:=HW;have fin:EP X pins σ Q w s:=⟨z,H,I,rw',q⟩;exact subscriptTail_builtinR (x:=w) pl.typeIs slot_tuple_getitem.lookup
  (getItem_tuple (j:=j) (Q:=λr s'=>r=w/\EP X pins σ Q r s') pl δ δ (by rw[List.size_toArray,<- hl];exact h1) (by simpa using ew) ⟨rfl,fin⟩) hs
theorem Qx:IxR X Zda:=by
 intro value slice pins s σ H x y v u Q I rx ry h hs;obtain⟨z,i,c,rfl,rfl,hz,he,q⟩:=h;obtain⟨t,rfl⟩:=rx;obtain⟨t',rfl⟩:=ry;obtain⟨j,h1,h2,h3,h4,h5⟩:=YG he;have hl:z.cps.toList.length=z.length:=by simp[Str.length]
 rw[hl]at h1 h4 h5;have hn:=HW;exact tail_any (typeIs_str s z t) slot_str_getitem.lookup (getItem_str (c:=c) (by
  have e1:decide (i < -(2 ^ 63:Int))=false:=decide_eq_false δ;have e2:decide (i≥2 ^ 63)=false:=decide_eq_false δ;rw[e1,e2,Bool.or_false]) (by rw[h1];simpa using h2) ⟨.str ⟨#[c]⟩,H,I.tok _,⟨_,rfl⟩,q⟩) hs
theorem Zdr(its:AE)(n j:Nat)(u:AK):Obj.mapSeq (·.setIfInBounds j u) { cls:=.type "list",data:=.seq its.toArray n }={ cls:=.type "list",data:=.seq (its.set j u).toArray n }:=by
 simp[Obj.mapSeq]
theorem Inv.lst{pins:Au}{σ:St}{H:Hp}{s:AL}{p:AJ}{xs:List V}(I:Inv X pins σ H s)(h:H p=some (.lst xs)):
  ∃(its:AE) (n:Nat),Vals xs its/\s.heap.get? p=some { cls:=.type "list",data:=.seq its.toArray n }/\xs.length<=sizeLine:=by
 obtain⟨z,its,n,r,e⟩:=I.hok p _ h;exact⟨its,n,r,e,z⟩
theorem Inv.Zsc{pins:Au}{σ:St}{H:Hp}{s:AL}{p:AJ}{xs ys:List V}{its its':AE}{n n':Nat}{f:Obj->Obj}(I:Inv X pins σ H s)(h:H p=some (.lst xs))
  (ho:s.heap.get? p=some { cls:=.type "list",data:=.seq its.toArray n }) (hf:f { cls:=.type "list",data:=.seq its.toArray n }={ cls:=.type "list",data:=.seq its'.toArray n' }) (r:Vals ys its') (hz:ys.length<=sizeLine) (t:Nat):
  Inv X pins σ (upd H p (.lst ys)) { s with heap:=s.heap.update p f,toks:=t }:=by
 have e:(s.heap.update p f).get? p=some { cls:=.type "list",data:=.seq its'.toArray n' }:=by
  rw[Heap.get?_update_self f ho (by rw[hf]<;>rfl),hf]
 refine I.write (x:=p) (e:=p) (by rw[h];trivial) (.inl rfl) (λb u hb q=>(Heap.get?_update_other _ _ (Ne.symm hb)).trans q) ⟨_,e⟩ ?_;exact⟨hz,its',n',r,e⟩
def xr:V->V->V->Hp->(Hp->Prop)->Prop:=λo i v H Q=>∃p xs k j,o=.ref p/\i=.int k/\H p=some (.lst xs)/\ixN xs.length k=some j/\Q (upd H p (.lst (xs.set j v)))
theorem set_list:Zwd X xr:=by
 intro pins s σ H o i v ov iv u Q I ro ri rv h;obtain⟨p,xs,k,j,rfl,rfl,hp,hj,q⟩:=h;cases ro;obtain⟨t,rfl⟩:=ri;obtain⟨its,n,r,ho,hz⟩:=I.lst hp;obtain⟨h1,h2,h3,h4⟩:=Zfz hj;have hl:=r.length;have hn:=HW;have I':Inv X pins σ (upd H p (.lst (xs.set j v))) { s with heap:=s.heap.update p (Obj.mapSeq (·.setIfInBounds j u)) }:=
  I.Zsc hp ho (Zdr its n j u) (r.set rv j) (by rw[List.length_set];exact hz) s.toks
 by_cases h0:0<=k
 ·have hk:k.toNat=j:=by
   rw[seqIndex_of h0 h4]at h1;exact Option.some.inj h1
  exact W.ki_setAt ho h0 δ (by rw[List.size_toArray,<- hl];exact h4) (by rw[hk];exact⟨_,I',q⟩)
 ·have hk:(k+(its.toArray.size:Int)).toNat=j:=by
   rw[seqIndex_neg δ h3]at h1;rw[List.size_toArray,<- hl];exact Option.some.inj h1
  exact W.ki_setBack ho δ (by rw[List.size_toArray,<- hl];exact h3) δ (by rw[hk];exact⟨_,I',q⟩)
theorem WK(lo hi:AB)(n:Nat):(sliceBounds lo hi none n).1=((HT.fO n 0 lo:Nat):Int)/\(sliceBounds lo hi none n).2.1=((HT.fO n n hi:Nat):Int)/\(sliceBounds lo hi none n).2.2=1:=by
 refine⟨?_,?_,rfl⟩
 ·cases lo with
  | none=>simp[sliceBounds,HT.fO]
  | some i=>
   simp only[sliceBounds,HT.fO,Option.getD_none,show(1:Int) > 0 by decide,if_true]
   by_cases h:i<0
   ·simp only[h,if_true]<;>omega
   ·simp only[h,if_false]<;>omega
 ·cases hi with
  | none=>simp[sliceBounds,HT.fO]
  | some i=>
   simp only[sliceBounds,HT.fO,Option.getD_none,show(1:Int) > 0 by decide,if_true]
   by_cases h:i<0
   ·simp only[h,if_true]<;>omega
   ·simp only[h,if_false]<;>omega
theorem RQ(its:AE)(lo hi:AB):slicePick its.toArray lo hi none=((its.drop (HT.fO its.length 0 lo)).take (HT.fO its.length its.length hi - HT.fO its.length 0 lo)).toArray:=by
 obtain⟨h1,h2,h3⟩:=WK lo hi its.toArray.size;unfold slicePick;rw[h1,h2,h3];simp only[sliceRange_one,pick_run,List.size_toArray]<;>rfl
def Qe(K:aK):V->AB->AB->Hp->VK->Prop:=λx lo hi H Q=>∃a xs,x=.ref a/\cN K H a xs/\∀p,H p=none->Q (.ref p) (upd H p (.lst (vC xs lo hi)))
theorem rN:SlR X (Qe X.K):=by
 intro pins s σ H x v vl vu lo hi sl Q I rx hs pl pu h;obtain⟨a,xs,rfl,hx,q⟩:=h;cases rx;obtain⟨its,r,ht,hz⟩:=I.list hx;have hlen:=r.length;refine⟨"list",_,slot_list_getitem.lookup,ht.isList.typeIs,?_⟩;refine wpAny_getItem_list_slice ht.isList hs pl pu .none ζ ?_ (by rw[List.size_toArray]<;>omega);rw[RQ,<- hlen];refine⟨.ref s.heap.objs.size,_,I.laid (t':=s.toks) (o:=.lst (vC xs lo hi)) (λb ob q=>Heap.get?_push_of_some _ q) χ ?_,rfl,q _ (I.hok.fresh χ)⟩;exact⟨Nat.le_trans (J3 xs lo hi) hz,_,0,(r.drop (HT.fO xs.length 0 lo)).take (HT.fO xs.length xs.length hi - HT.fO xs.length 0 lo),Heap.get?_push_size _ rfl⟩
def jE:V->Bool
 | .non=>true
 | .bl _=>true
 | .int _=>true
 | .str _=>true
 | _=>false
def eqV:V->V->Bool
 | .non,.non=>true
 | .bl a,.bl b=>a == b
 | .bl a,.int b=>(if a then 1 else 0) == b
 | .int a,.bl b=>a == (if b then 1 else 0)
 | .int a,.int b=>a == b
 | .str a,.str b=>a == b
 | _,_=>false
theorem Yv{A:Around}{s:AL}{y x:V}{u v:AK}(ry:RelV y u)(rx:RelV x v)(fy:jE y=true)(fx:jE x=true):SeqAt.EqAt A s u v (eqV y x):=by
 cases y with
 | non=>
  cases ry;cases x with
  | non=>cases rx;exact SeqAt.EqAt.same _
  | bl b=>cases rx;exact SeqAt.EqAt.none_bool b
  | int b=>obtain⟨t,rfl⟩:=rx;exact SeqAt.EqAt.none_int b t
  | str b=>obtain⟨t,rfl⟩:=rx;exact SeqAt.EqAt.none_str b t
  | _=>exact absurd (show false=true from fx) Bool.false_ne_true
 | bl a=>
  cases ry;cases x with
  | non=>cases rx;exact SeqAt.EqAt.bool_none a
  | bl b=>cases rx;exact SeqAt.EqAt.bool_bool a b
  | int b=>obtain⟨t,rfl⟩:=rx;exact SeqAt.EqAt.bool_int a b t
  | str b=>obtain⟨t,rfl⟩:=rx;exact SeqAt.EqAt.bool_str a b t
  | _=>exact absurd (show false=true from fx) Bool.false_ne_true
 | int a=>
  obtain⟨t',rfl⟩:=ry;cases x with
  | non=>cases rx;exact SeqAt.EqAt.int_none a t'
  | bl b=>cases rx;exact SeqAt.EqAt.int_bool a t' b
  | int b=>obtain⟨t,rfl⟩:=rx;exact SeqAt.EqAt.int_int a t' b t
  | str b=>obtain⟨t,rfl⟩:=rx;exact SeqAt.EqAt.int_str a t' b t
  | _=>exact absurd (show false=true from fx) Bool.false_ne_true
 | str a=>
  obtain⟨t',rfl⟩:=ry;cases x with
  | non=>cases rx;exact SeqAt.EqAt.str_none a t'
  | bl b=>cases rx;exact SeqAt.EqAt.str_bool a t' b
  | int b=>obtain⟨t,rfl⟩:=rx;exact SeqAt.EqAt.str_int a t' b t
  | str b=>obtain⟨t,rfl⟩:=rx;exact SeqAt.EqAt.str_str a t' b t
  | _=>exact absurd (show false=true from fx) Bool.false_ne_true
 | _=>exact absurd (show false=true from fy) Bool.false_ne_true
def Yu(x:V)(u:AK):Bool:=match u with
 | .none=>eqV .non x
 | .bool b=>eqV (.bl b) x
 | .int i _=>eqV (.int i) x
 | .str z _=>eqV (.str z) x
 | _=>false
theorem Zew{x y:V}{u:AK}(r:RelV y u)(f:jE y=true):Yu x u=eqV y x:=by
 cases y with
 | non=>cases r;rfl
 | bl b=>cases r;rfl
 | int i=>obtain⟨t,rfl⟩:=r;rfl
 | str z=>obtain⟨t,rfl⟩:=r;rfl
 | _=>exact absurd (show false=true from f) Bool.false_ne_true
theorem Fg{x:V}:∀{xs:List V}{us:AE},Vals xs us->xs.all jE=true->us.any (Yu x)=xs.any λy=>eqV y x
 | _,_,.nil,_=>rfl
 | y::xs,u::us,.cons r t,f=>by
  rw[List.all_cons,Bool.and_eq_true]at f;rw[List.any_cons,List.any_cons,Zew r f.1,Fg t f.2]
theorem vh{A:Around}{s:AL}{x:V}{v:AK}(rx:RelV x v)(fx:jE x=true):∀{xs:List V}{us:AE},Vals xs us->xs.all jE=true->∀u∈us,SeqAt.EqAt A s u v (Yu x u)
 | _,_,.nil,_=>λu hu=>by cases hu
 | y::xs,u::us,.cons r t,f=>λu' hu=>by
  rw[List.all_cons,Bool.and_eq_true]at f;rcases List.mem_cons.mp hu with rfl | hu
  ·rw[Zew r f.1];exact Yv r rx f.1 fx
  ·exact vh rx fx t f.2 u' hu
def inV(x:V)(xs:List V):Bool:=xs.any λy=>eqV y x
def rIn(K:aK)(neg:Bool):R2:=λx y H Q=>∃p xs,y=.ref p/\(cN K H p xs\/ig K H p xs)/\jE x=true/\xs.all jE=true/\Q (.bl (if neg then !inV x xs else inV x xs)) H
theorem zH:wZ X (compareOp .In) (rIn X.K false):=by
 intro pins s σ H x y v u Q I rx ry h;obtain⟨p,xs,rfl,hq,fx,fs,q⟩:=h;cases ry;rcases hq with hq | hq
 ·obtain⟨its,r,pl,hz⟩:=I.list hq;refine SeqAt.in_listAt (Yu x) pl.isList (λw hw=>vh rx fx r fs w (by simpa using hw)) ⟨.bl _,H,I,rfl,?_⟩;rw[show its.toArray.any (Yu x)=its.any (Yu x) by simp,Fg r fs];exact q
 ·obtain⟨its,r,pl,hz⟩:=I.tuple hq;refine SeqAt.in_tupleAt (Yu x) pl (λw hw=>vh rx fx r fs w (by simpa using hw)) ⟨.bl _,H,I,rfl,?_⟩;rw[show its.toArray.any (Yu x)=its.any (Yu x) by simp,Fg r fs];exact q
theorem wK:wZ X (compareOp .NotIn) (rIn X.K true):=by
 intro pins s σ H x y v u Q I rx ry h;obtain⟨p,xs,rfl,hq,fx,fs,q⟩:=h;cases ry;rcases hq with hq | hq
 ·obtain⟨its,r,pl,hz⟩:=I.list hq;refine SeqAt.notIn_listAt (Yu x) pl.isList (λw hw=>vh rx fx r fs w (by simpa using hw)) ⟨.bl _,H,I,rfl,?_⟩;rw[show its.toArray.any (Yu x)=its.any (Yu x) by simp,Fg r fs];exact q
 ·obtain⟨its,r,pl,hz⟩:=I.tuple hq;refine SeqAt.notIn_tupleAt (Yu x) pl (λw hw=>vh rx fx r fs w (by simpa using hw)) ⟨.bl _,H,I,rfl,?_⟩;rw[show its.toArray.any (Yu x)=its.any (Yu x) by simp,Fg r fs];exact q
theorem YD:oR X (.builtin "len") (λxs H Q=>∃p ys,xs=[.ref p]/\(cN X.K H p ys\/ig X.K H p ys)/\Q (.int ys.length) H):=by
 intro pins s σ H xs us Q I r h;obtain⟨p,ys,rfl,hq,q⟩:=h;obtain⟨u,rfl,rx⟩:=vals1 r;cases rx;have hn:=HW;rcases hq with hq | hq
 ·obtain⟨its,r',pl,hz⟩:=I.list hq;have hlen:=r'.length;exact Calls.call_len_list pl.isList (by simp only[List.size_toArray]<;>omega) ⟨.int ys.length,H,I.tok _,⟨s.toks+1,by rw[List.size_toArray,hlen]⟩,q⟩
 ·obtain⟨its,r',pl,hz⟩:=I.tuple hq;have hlen:=r'.length;exact len_tuple pl (by simp only[List.size_toArray]<;>omega) ⟨.int ys.length,H,I.tok _,⟨s.toks+1,by rw[List.size_toArray,hlen]⟩,q⟩
theorem YC:oR X (.builtin "len") (λxs H Q=>∃z,xs=[.str z]/\z.length<=sizeLine/\Q (.int z.length) H):=by
 intro pins s σ H xs us Q I r h;obtain⟨z,rfl,hz,q⟩:=h;obtain⟨u,rfl,t,rfl⟩:=vals1 r;have hn:=HW;exact len_str δ ⟨.int z.length,H,I.tok _,⟨_,rfl⟩,q⟩
theorem YB:oR X (.type "list") (λxs H Q=>∃p ys,xs=[.ref p]/\(cN X.K H p ys\/ig X.K H p ys)/\∀l,H l=none->Q (.ref l) (upd H l (.lst ys))):=by
 intro pins s σ H xs us Q I r h;obtain⟨p,ys,rfl,hq,q⟩:=h;obtain⟨u,rfl,rx⟩:=vals1 r;cases rx;have fin:∀(its:AE),Vals ys its->ys.length<=sizeLine->∀(h':Heap) (c':Nat),(∀b o',s.heap.get? b=some o'->h'.get? b=some o')->
   h'.get? s.heap.objs.size=some { cls:=.type "list",dict:=none,data:=.seq its.toArray c',slots:=#[] }->EP X pins σ Q (.ref s.heap.objs.size) { s with heap:=h' }:=λits r' hz h' c' kp e=>
  ⟨.ref s.heap.objs.size,_,I.laid (t':=s.toks) kp χ (show jc X.prog X.w _ h' _ (.lst ys)from⟨hz,its,c',r',e⟩),rfl,q _ (I.hok.fresh χ)⟩
 rcases hq with hq | hq
 ·obtain⟨its,r',pl,hz⟩:=I.list hq;have hlen:=r'.length;obtain⟨o,ho,hc,n,hd⟩:=pl.isList;exact call_list_seq p (.inl rfl) ho hc hd (λh' c' kp e=>fin its r' hz h' c' kp e) (by simp only[List.size_toArray]<;>omega)
 ·obtain⟨its,r',pl,hz⟩:=I.tuple hq;have hlen:=r'.length;obtain⟨o,ho,hc,n,hd⟩:=pl;exact call_list_seq p (.inr rfl) ho hc hd (λh' c' kp e=>fin its r' hz h' c' kp e) (by simp only[List.size_toArray]<;>omega)
theorem T7:oR X (.type "tuple") (λxs H Q=>∃p ys,xs=[.ref p]/\((cN X.K H p ys/\∀l,H l=none->Q (.ref l) (upd H l (.tup ys)))\/(ig X.K H p ys/\Q (.ref p) H))):=by
 intro pins s σ H xs us Q I r h;obtain⟨p,ys,rfl,h⟩:=h;obtain⟨u,rfl,rx⟩:=vals1 r;cases rx;rcases h with ⟨hq,q⟩ | ⟨hq,q⟩
 ·obtain⟨its,r',pl,hz⟩:=I.list hq;have hlen:=r'.length;refine call_tuple_list pl.isList (λh' kp=>?_) (by simp only[List.size_toArray]<;>omega);have I1:Inv X pins σ H { s with heap:=h' }:=I.kept (t':=s.toks) kp;have I2:Inv X pins σ (upd H h'.objs.size (.tup ys)) { s with heap:=h'.push { cls:=.type "tuple",data:=.seq its.toArray } }:=
   I1.laid (t':=s.toks) (λb o e=>Heap.get?_push_of_some _ e) χ (show jc X.prog X.w _ _ _ (.tup ys)from⟨hz,its,r',IsTup.new _ _⟩)
  exact⟨.ref h'.objs.size,_,I2,rfl,q _ (I1.hok.fresh χ)⟩
 ·obtain⟨its,r',pl,hz⟩:=I.tuple hq;exact call_tuple_same pl ⟨.ref p,H,I,rfl,q⟩
def tyV(K:aK)(T:String)(x:V)(H:Hp):Prop:=match x with
 | .str _=>T="str"
 | .int _=>T="int"
 | .ref p=>(T="list"/\∃xs,cN K H p xs)\/(T="tuple"/\∃o,K.lookup p=some o/\o.cls=.type "tuple"/\o.dict=none)\/
   (T="dict"/\((∃kvs,H p=some (.dK kvs))\/∃kvs,H p=some (.dT kvs)))\/(T="set"/\∃S n,H p=some (.set S n))
 | _=>False
theorem Zr6{pins:Au}{σ:St}{H:Hp}{s:AL}{T:String}{x:V}{v:AK}(I:Inv X pins σ H s)(r:RelV x v)(ty:tyV X.K T x H):
  s.TypeIs v T/\∀a,v=.ref a->∃ob,s.heap.get? a=some ob/\ob.dict=none:=by
 cases x with
 | str z=>
  obtain⟨t,rfl⟩:=r;cases (show T="str" from ty);exact⟨typeIs_str s z t,λ_ e=>nomatch e⟩
 | int i=>
  obtain⟨t,rfl⟩:=r;cases (show T="int" from ty);exact⟨typeIs_int s i t,λ_ e=>nomatch e⟩
 | ref p=>
  cases r;rcases ty with ⟨rfl,xs,hq⟩ | ⟨rfl,o,hk,hc,hd⟩ | ⟨rfl,hk⟩ | ⟨rfl,S,n,hk⟩
  ·obtain⟨its,_,pl,_⟩:=I.list hq;refine⟨pl.isList.typeIs,λa e=>?_⟩;cases e;obtain⟨o,n,e,c,hd,_⟩:=pl;exact⟨o,e,hd⟩
  ·refine⟨⟨o,I.pL p o hk,hc⟩,λa e=>?_⟩;cases e;exact⟨o,I.pL _ o hk,hd⟩
  ·have z:∃o,s.heap.get? p=some o/\o.ExactDict:=by
    rcases hk with ⟨kvs,hk⟩ | ⟨kvs,hk⟩
    ·obtain⟨_,_,_,_,o,_,_,e,ex,_⟩:=I.hok p _ hk;exact⟨o,e,ex⟩
    ·obtain⟨_,_,_,_,o,_,_,e,ex,_⟩:=I.hok p _ hk;exact⟨o,e,ex⟩
   obtain⟨o,e,ex⟩:=z;refine⟨⟨o,e,ex.1⟩,λa e2=>?_⟩;cases e2;exact⟨o,e,ex.2.1⟩
  ·obtain⟨o,_,_,_,e,ex,_⟩:=I.hok p _ hk;refine⟨⟨o,e,ex.1⟩,λa e2=>?_⟩;cases e2;exact⟨o,e,ex.2.1⟩
 | _=>exact False.elim ty
def xq(K:aK)(T:String)(r:V->List V->Hp->VK->Prop)(to:TE)(t:TA):TE:=λσ H Q=>to σ H λx H1=>tyV K T x H1/\t σ H1 λxs H2=>r x xs H2 Q
variable {o e:AO}{es:AH}{to:TE}{t:TA}{name:Str}{apos cpos:Pos}{T id:String}{r:V->List V->Hp->VK->Prop}
theorem iW(pa:PlainAttrs T)(slot:Slot T name id)(hty:typeOf (.builtin id)=pure (.type "method_descriptor"))(hm:MtR X id r)(ho:PE X o to)(ha:PA X (e::es) t)
  (hbase:attributeBase o name X.env (eval o X.env)=eval o X.env:=by rfl)
  (hfew:((backTo cpos (starEach (e::es) X.env)).all (λx=>!x.1) && (backToKw cpos (keywordEach [] X.env)).all (λx=>x.1.isSome)
   && decide ((e::es).length+([]:List Keyword).length+(if ([]:List Keyword).isEmpty then 0 else 1)<30))=true:=by rfl)
  (hline:(apos.endLine == cpos.line)=true:=by rfl) (hs:starEach (e::es) X.env=(false,eval e X.env)::starEach es X.env:=by rfl) (hplain:(backTo cpos (starEach es X.env)).any (·.1)=false:=by rfl):
  PE X (.Call (.Attribute o name apos) (e::es) [] cpos) (xq X.K T r to t):=by
 intro pins s σ H Q I h;refine wpAny_Call_method_late hbase hfew hline rfl (iJ (ho pins s σ H _ I h) λv s1 ⟨x,H1,I1,r1,ty,q1⟩=>?_);obtain⟨h1,h2⟩:=Zr6 I1 r1 ty;refine⟨T,id,pa,slot,hty,h1,h2,?_⟩;have hA:=ha cpos pins s1 σ H1 _ I1 q1;rw[hs]at hA ⊢;refine Calls.callWith_builtin (by show(false || (backTo cpos (starEach es X.env)).any (·.1))=false;rw[hplain]<;>rfl) (Calls.evalArgs_plain ?_);exact iJ hA λus s2 ⟨vs,H2,I2,r2,q2⟩=>hm pins s2 σ H2 x vs v us Q I2 r1 r2 q2
end
def MtM(X:Cx)(id:String)(r:V->List V->Hp->VK->Prop):Prop:=
 ∀(pins:Au) (s:AL) (σ:St) (H:Hp) (x:V) (xs:List V) (v:AK) (us:AE) (Q:VK),Inv X pins σ H s->RelV x v->Vals xs us->r x xs H Q->
  wpAny ς X.A (call (.builtin id) (v::us)) (EP X pins σ Q) X.xe s
theorem Vals.one:∀{x:V}{us:AE},Vals [x] us->∃u,us=[u]/\RelV x u
 | _,_,.cons r .nil=>⟨_,rfl,r⟩
theorem Vals.rep{xs:List V}{us:AE}(h:Vals xs us):∀k:Nat,Vals (List.replicate k xs).flatten (List.replicate k us).flatten
 | 0=>.nil
 | k+1=>by
  rw[List.replicate_succ,List.replicate_succ,List.flatten_cons,List.flatten_cons];exact Vals.append h (Vals.rep h k)
theorem foldl_rep(its:AE):∀(k:Nat) (acc:AE),
  List.foldl (λx1 x2=>x1++x2) acc.toArray (List.replicate k its.toArray)=(acc++(List.replicate k its).flatten).toArray
 | 0,acc=>ζ
 | k+1,acc=>by
  have e:acc.toArray++its.toArray=(acc++its).toArray:=ζ
  have e2:(acc++its)++(List.replicate k its).flatten=acc++(List.replicate (k+1) its).flatten:=by
   rw[List.replicate_succ,List.flatten_cons,List.append_assoc]
  rw[<- e2,<- foldl_rep its k (acc++its),<- e,List.replicate_succ,List.foldl_cons]
section
variable {X:Cx}{pins:Au}{σ:St}{H:Hp}{s:AL}{l b:AJ}{xs ys zs:List V}
theorem Inv.Zws{its its':AE}{n:Nat}{f:Array AK->Array AK}{t':Nat}(I:Inv X pins σ H s)(hH:H l=some (.lst xs))
  (e:s.heap.get? l=some { cls:=.type "list",data:=.seq its.toArray n }) (hf:f its.toArray=its'.toArray) (hv:Vals ys its') (hz:ys.length<=sizeLine):
  Inv X pins σ (upd H l (.lst ys)) { s with heap:=s.heap.update l (Obj.mapSeq f),toks:=t' }:=by
 have q:=PySem.IsL.update e f;rw[hf]at q;refine I.write (x:=l) (e:=l) (by rw[hH];exact trivial) (.inl rfl) (λb' u hb hu=>(Heap.get?_update_other s.heap (Obj.mapSeq f) (Ne.symm hb)).trans hu) ⟨_,q⟩ ?_;exact⟨hz,its',_,hv,q⟩
theorem Inv.Zuq{its:AE}{t':Nat}(I:Inv X pins σ H s)(hv:Vals ys its)(hz:ys.length<=sizeLine):
  Inv X pins σ (upd H s.heap.objs.size (.lst ys)) { s with heap:=s.heap.push { cls:=.type "list",data:=.seq its.toArray },toks:=t' }:=
 I.laid (λ_ _ q=>Heap.get?_push_of_some _ q) χ ⟨hz,its,0,hv,Heap.get?_push_size _ rfl⟩
theorem Inv.fresh(I:Inv X pins σ H s):H s.heap.objs.size=none:=I.hok.fresh χ
theorem Inv.Zos(I:Inv X pins σ H s)(hH:H l=some (.lst xs)):xs.length<=sizeLine/\∃(its:AE) (n:Nat),Vals xs its/\xs.length=its.length/\s.heap.get? l=some { cls:=.type "list",data:=.seq its.toArray n }:=by
 obtain⟨z,its,n,r,e⟩:=I.hok l _ hH;exact⟨z,its,n,r,r.length,e⟩
theorem Zkk{n:Nat}(h:n<=sizeLine):Builtin.List.listTooLong n=false:=by
 unfold Builtin.List.listTooLong;exact decide_eq_false δ
end
section
variable {X:Cx}
def mW:V->List V->Hp->VK->Prop:=λx vs H Q=>∃l xs y,x=.ref l/\vs=[y]/\H l=some (.lst xs)/\xs.length<sizeLine/\Q .non (upd H l (.lst (xs++[y])))
theorem j0:MtM X "list.append" mW:=by
 intro pins s σ H x vs v us Q I rx rv h;obtain⟨l,xs,y,rfl,rfl,hH,hz,q⟩:=h;cases rx;obtain⟨u,rfl,ru⟩:=rv.one;obtain⟨z,its,n,r,hl,e⟩:=I.Zos hH;refine call_meets F.slot_list_append ⟨_,e,rfl⟩ F.entry_list_append (F.args_list_append_2 _ _) (PySem.list_append l its.toArray n u (by rw[List.size_toArray];omega)) ⟨e,?_⟩;refine⟨.non,_,I.Zws (its':=its++[u]) hH e ζ (r.append (.cons ru .nil)) ?_,rfl,q⟩;rw[List.length_append,List.length_singleton];omega
def Dv:R2:=λx y H Q=>∃l b xs zs,x=.ref l/\y=.ref b/\H l=some (.lst xs)/\H b=some (.lst zs)/\xs.length+zs.length<=sizeLine/\∀p,H p=none->Q (.ref p) (upd H p (.lst (xs++zs)))
theorem tZ:wZ X (binaryOp .Add) Dv:=by
 intro pins s σ H x y v u Q I rx ry h;obtain⟨l,b,xs,zs,rfl,rfl,hH,hB,hz,q⟩:=h;cases rx;cases ry;obtain⟨z,its,n,r,hl,e⟩:=I.Zos hH;obtain⟨z2,its2,n2,r2,hl2,e2⟩:=I.Zos hB;refine PySem.P.add_list e e2 ?_ (by rw[List.size_toArray,List.size_toArray];omega);have ea:its.toArray++its2.toArray=(its++its2).toArray:=ζ
 rw[ea];exact⟨.ref _,_,I.Zuq (t':=s.toks) (r.append r2) (by rw[List.length_append];omega),rfl,q _ I.fresh⟩
def Zro:R2:=λx y H Q=>∃l k xs,x=.ref l/\y=.int k/\H l=some (.lst xs)/\-(2 ^ 63)<=k/\k<2 ^ 63/\xs.length * k.toNat<=sizeLine/\
 ∀p,H p=none->Q (.ref p) (upd H p (.lst (List.replicate k.toNat xs).flatten))
theorem len_rep{α:Type}(xs:List α)(k:Nat):(List.replicate k xs).flatten.length=k * xs.length:=by
 induction k with
 | zero=>simp
 | succ k ih=>rw[List.replicate_succ,List.flatten_cons,List.length_append,ih,Nat.succ_mul,Nat.add_comm]
theorem Zrv:wZ X (binaryOp .Mult) Zro:=by
 intro pins s σ H x y v u Q I rx ry h;obtain⟨l,k,xs,rfl,rfl,hH,h1,h2,hz,q⟩:=h;cases rx;obtain⟨t,rfl⟩:=ry;obtain⟨z,its,n,r,hl,e⟩:=I.Zos hH;have hlen:its.toArray.size * k.toNat<=sizeLine:=by rw[List.size_toArray,<- hl];exact hz
 have hcap:¬ its.toArray.size * k.toNat > (2 ^ 63 - 1) / 8:=by
  have:(sizeLine:Nat)<=(2 ^ 63 - 1) / 8:=ε
  omega
 have hfit:¬ (!Builtin.List.listFitsIndex k)=true:=by
  rw[fitsIndex_both h1 h2];exact Bool.false_ne_true
 have Zvw:¬ Builtin.List.listTooLong (its.toArray.size * k.toNat)=true:=by
  rw[Zkk hlen];exact Bool.false_ne_true
 have hnew:List.foldl (λx1 x2=>x1++x2) #[] (List.replicate (if its.toArray.isEmpty=true then 0 else k.toNat) its.toArray)=(List.replicate k.toNat its).flatten.toArray:=by
  have f0:∀m:Nat,List.foldl (λx1 x2=>x1++x2) #[] (List.replicate m its.toArray)=(List.replicate m its).flatten.toArray:=λm=>by
   have:=foldl_rep its m [];rw[List.nil_append]at this;exact this
  rw[f0];cases its with
  | nil=>simp
  | cons a r'=>rw[if_neg ζ]
 refine wpAny_binaryOp_repeat_ref (T:="list") (U:="int") ε ⟨_,e,rfl⟩ (λs'=>typeIs_int s' k t) noFill_list_mul F.fills_int_mul F.slot_int_rmul repeat_list F.slot_int_index.lookup
  (call_meets F.slot_int_rmul (typeIs_int s k t) F.entry_int_rmul (F.args_int_rmul_2 _ _) (int___rmul___int_list k t l its.toArray n)
   ⟨e,rfl,⟨_,e,rfl⟩,call_meets F.slot_list_mul ⟨_,e,rfl⟩ F.entry_list_mul (F.args_list_mul_2 _ _) (AutoListH.list___mul___list_int_3 l its.toArray n k t hfit hcap Zvw) ⟨e,?_⟩⟩)
 rw[hnew];exact⟨.ref _,_,I.Zuq (t':=s.toks) (r.rep k.toNat) (by rw[len_rep,Nat.mul_comm];exact hz),rfl,q _ I.fresh⟩
end
section
variable {prog:AN}{w:AQ}{A:Around}{E:Ap}{s:AL}
end
section
variable {X:Cx}
end
end L2
namespace Att
open PySem PySem.W PySem.Calls PyProof.Rows
theorem Lp{P:Params}{h:Heap}:∀(ns:AF) (vs:AE),WellAll P h vs (ns.map WData.int)->IntsAre vs ns:=by
 intro ns
 induction ns with
 | nil=>
  intro vs w;rw[List.map_nil]at w;cases w;exact .nil
 | cons n ns ih=>
  intro vs w;rw[List.map_cons]at w;cases w with
  | cons a b=>
   cases a;exact .cons _ _ (ih _ b)
theorem Zhf{l:OpenLaw}{n:Nat}(hn:l.most=some n){P:Params}{h:Heap}{args:List WData}{vals:AE}
  (hpre:l.row.toRowW.claim.pre args=true) (hwl:WellAll P h vals args):
  ∃a vs ns,vals=[Value.ref a]/\args=[WData.list (ns.map WData.int)]/\h.get? a=some { cls:=.type "list",data:=.seq vs.toArray }/\IntsAre vs ns/\ns.length<=n:=by
 have hsh:WShape.hasAll [] args [.list .int]=true:=(pre_splitW hpre).1;have hc:l.pre.holds [] { args:=args }=true:=(pre_splitW hpre).2;obtain⟨d,r,rfl,h1,h2⟩:=hasAllW_cons hsh;obtain rfl:=hasAllW_nil h2;obtain⟨xs,rfl,h3⟩:=hasW_list h1;obtain⟨ns,rfl⟩:=items_int h3;have hlen:ns.length<=n:=by
  unfold OpenLaw.pre at hc;have h4:(WTm.not (.lt (.lit (.int (n:Int))) (.len (.arg 0)))).holds [] { args:=[.list (ns.map .int)] }=true:=by
   have h4:=(holds_andW hc).1;rw[hn]at h4;exact h4
  have h5:=condW_of h4 (w_not (w_lt w_lit (w_len_list (w_arg rfl))));rw[bF]at h5;refine Nat.le_of_not_lt λq=>?_;have q':(n:Int)<((ns.length:Nat):Int):=δ
  first
   | (rw[decide_eq_true q']at h5;exact absurd h5 ε)
   | (simp at h5;omega)
 cases hwl with
 | cons w1 w2=>
  cases w2;cases w1 with
  | list ho hall=>exact⟨_,_,ns,rfl,rfl,ho,Lp ns _ hall,hlen⟩
theorem Zhl(l:OpenLaw)(args:List WData):l.row.toRowW.claim.post args (.bool true) args=true:=
 postW_of (r:=l.row.toRowW) (X:=(true == true))
  (show WShape.has [] (.bool true) .bool=true by first | rfl | decide | simp[WShape.has,WShape.arms,WShape.armsAll])
  (show(WTm.eq .res (.lit (.bool true))).value [] { args:=args,res:=some (.bool true),after:=args }=some (.bool (true == true))from w_eq_bool (w_res rfl) w_lit) rfl
section
variable {prog:AN}{w:AQ}{A:Around}{E:Ap}{s:AL}{K:Frag}
end
end Att
namespace L2
open PySem PySem.Spec PyProof.Rows
theorem U3:∀{vs:AE}{ns:AF},IntsAre vs ns->Vals (ns.map V.int) vs
 | _,_,.nil=>.nil
 | _,_,.cons n t h=>.cons ⟨t,rfl⟩ (U3 h)
def Only(H:Hp):Prop:=∀b,H b=none\/∃o xs,H b=some (.Y9 o (.lst xs))
theorem Zl6{P:AN}{w:AQ}{K:aK}{mg mb:As}{CX:CXT}{k:Nat}{fa a:AJ}{fd:AM}{x:Str}{sp:Sp}{s₁:AL}{vs:AE}{ns:AF}
  (KX:K.In s₁.heap) (hns:s₁.heap.Ns mainGlobals mg) (hb:s₁.heap.Ns builtinsNs mb) (hbb:∀x:Str,x≠"__name__"->mb x=bootBuiltins x) (hlim:s₁.heap.NoLimit) (hg:s₁.gens=#[])
  (ha:s₁.heap.get? a=some { cls:=.type "list",data:=.seq vs.toArray }) (hi:IntsAre vs ns) (hl:ns.length<=sizeLine) (hr:Room k callerA)
  (F:∀base:Heap,K.In base->base.Ns mainGlobals mg->vI P w K mg base CX k fa fd [x] sp) (hbind:∀(s:AL) (u:AK),BindsTo s fd ⟨[u],[]⟩ [(x,u)])
  (hsp:∀H:Hp,Only H->cN K H a (ns.map V.int)->sp [.ref a] H (λv _=>v=.bl true) λ_ _ _=>False)
  (hCX:∀H e s',CX [] H s₁ (λ_ _ _=>False) e s'->False):
  codeAny (model P w) callerA (.call (.ref fa) ⟨[.ref a],[]⟩) (λr s'=>r=.ok (.ret (.bool true))/\OldK s₁.heap s'.heap/\s'.os=s₁.os/\AllBare s'.gens) s₁:=by
 have rv:=U3 hi;have lenV:=hi.length;have core:∀H:Hp,Only H->cN K H a (ns.map V.int)->oM P w H s₁.heap->(∀b,H b≠none->b=a)->(H a≠none->K.lookup a=none)->
   codeAny (model P w) callerA (.call (.ref fa) ⟨[.ref a],[]⟩) (λr s'=>r=.ok (.ret (.bool true))/\OldK s₁.heap s'.heap/\s'.os=s₁.os/\AllBare s'.gens) s₁:=by
  intro H hO hS hok hA hK;have Zgn:∀{b:AJ}{o:Obj},s₁.heap.get? b=some o->H b=none->(Yi s₁.heap H).get? b=some o:=λe n=>Zlx e n;have noA:∀{b:AJ}{o:Obj}{es:Array DictEntry}{ep:Nat},s₁.heap.get? b=some o->o.data=.dict es ep->H b=none:=λ{b o es ep} e d=>by
   cases q:H b with
   | none=>rfl
   | some u=>
    have e':b=a:=hA b (by rw[q];simp);subst e';rw[ha]at e;cases e;have d':Data.seq vs.toArray _=Data.dict es ep:=d;cases d'
  have nsK:∀{b:AJ}{m:As},s₁.heap.Ns b m->(Yi s₁.heap H).Ns b m:=λ{b m} ⟨o,es,ep,e,d,r⟩=>⟨o,es,ep,Zgn e (noA e d),d,r⟩;have hKb:K.In (Yi s₁.heap H):=λb o e=>Zgn (KX b o e) (by
   cases q:H b with
   | none=>rfl
   | some u=>
    have e':b=a:=hA b (by rw[q];simp);subst e';rw[hK (by rw[q];simp)]at e;cases e)
  have hM:Mod K mg (Yi s₁.heap H):=⟨hKb,nsK hns,⟨mb,nsK hb,hbb⟩,let ⟨mc,h1,h2⟩:=hlim;⟨mc,nsK h1,h2⟩⟩;have e0:Zf6 P w K mg (Yi s₁.heap H) callerA [] s₁ H:=⟨rfl,hM,λb o e=>Zok e,Nat.le_of_eq (Zi6 _ _),trivial,λb hb=>absurd (show b∈([]:AG)from hb) ζ,hok,.of_eq hg⟩;refine codeAny_mono ((F _ hKb (nsK hns)).run callerA [] s₁ H ⟨[.ref a],[]⟩ [.ref a] [.ref a] _ _ hr e0 (hbind s₁ (.ref a)) (.cons rfl .nil) (hsp H hO hS)) λr s' h=>?_;cases r with
  | error e=>exact(hCX H e s' h).elim
  | ok fl=>
   cases fl with
   | next=>exact False.elim h
   | brk=>exact False.elim h
   | cont=>exact False.elim h
   | ret u=>
    obtain⟨v,H',os,bare,un,hok',r',q⟩:=h;have q':v=.bl true:=q;subst q';obtain rfl:u=Value.bool true:=r';refine⟨rfl,OldK.of_keep λb o e=>?_,os,bare⟩;cases q:H b with
    | none=>exact un.keep b o e q (by intro z;exact absurd (show b∈([]:AG)from z) ζ) ζ
    | some u=>
     rcases hO b with z | ⟨ob,xs,z⟩
     ·rw[q]at z;cases z
     ·have z2:=un.yW b ob _ z;obtain⟨e1,_⟩:=hok b _ z;obtain⟨e2,_⟩:=hok' b _ z2;rw[e]at e1;cases e1;exact e2
 cases hk:K.lookup a with
 | some o=>
  have e:=KX a o hk;rw[ha]at e;cases e;refine core (λ_=>none) (λ_=>.inl rfl) (.inr ⟨_,vs.toArray,_,hk,rfl,rfl,rfl,by rw[List.size_toArray,lenV];exact hl,by simpa using rv⟩) (λb u z=>by have z':(none:Option HO)=some u:=z;cases z') (λb z=>absurd rfl z) λz=>absurd rfl z
 | none=>
  refine core (λb=>if b=a then some (.Y9 { cls:=.type "list",data:=.seq vs.toArray } (.lst (ns.map V.int)))else none) (λb=>?_) (.inl (.inr ⟨{ cls:=.type "list",data:=.seq vs.toArray },if_pos rfl⟩)) (λb u z=>?_) (λb z=>?_) λ_=>hk
  ·by_cases hb:b=a
   ·exact .inr ⟨_,_,if_pos hb⟩
   ·exact .inl (if_neg hb)
  ·by_cases hb:b=a
   ·have z':=(if_pos hb).symm.trans z;cases z';subst hb;exact⟨ha,by rw[bF];exact hl,vs,_,rv,ha⟩
   ·have z':=(if_neg hb).symm.trans z;cases z'
  ·by_cases hb:b=a
   ·exact hb
   ·exact absurd (if_neg hb) z
def inClass(s:Stmt)(j:Nat):Stmt:=match s with
 | .ClassDef _ _ _ body _ _ _ _ _ _ _=>body.getD j (.Pass ⟨0,0,0,0⟩)
 | _=>.Pass ⟨0,0,0,0⟩
def lA(s:Stmt):Arguments:=match s with
 | .FunctionDef _ a _ _ _ _ _ _ _ _=>a
 | _=>{ posonlyargs:=[],args:=[],vararg:=none,kwonlyargs:=[],kw_defaults:=[],kwarg:=none,defaults:=[] }
def je(s:Stmt):List Stmt:=match s with
 | .FunctionDef _ _ b _ _ _ _ _ _ _=>b
 | _=>[]
def aR(s:Stmt):Scope:=match s with
 | .FunctionDef _ _ _ _ _ _ sc _ _ _=>sc
 | _=>{ kind:=.function,names:=[],isGenerator:=false,isCoroutine:=false }
abbrev E0:XK:=λ_ _ _=>False
structure nj(K:aK)(x qual:Str)(st:Stmt)(f:AJ)(fd:AM):Prop where
 ex:∃(oc:AK) (od:Option AJ) (kV doc pm:AK) (an:Option AJ) (cdv ct:AK) (osl:Array AC),
  fd=W.fnOf x qual (lA st) (je st) (aR st) .none kV doc pm an cdv ct/\K.lookup f=some ⟨oc,od,.func fd,osl⟩/\W.codeIn K cdv qual=true
 kp:W.keepIn K (.ref f)=true
section
variable {P:AN}{w:AQ}{K:aK}{mg:As}{base:Heap}
theorem nj.binds{x qual:Str}{st:Stmt}{f:AJ}{fd:AM}{ps:AI}(F:nj K x qual st f fd)
  (h:∀(kV doc pm:AK) (an:Option AJ) (cdv ct:AK) (us:AE),us.length=ps.length->bindArgs am ⟨us,[]⟩=pure (ps.zip us)):Binds K fd ps []:=by
 obtain⟨oc,od,kV,doc,pm,an,cdv,ct,osl,rfl,lk,hcd⟩:=F.ex;exact .all (h kV doc pm an cdv ct)
theorem Zm8{x qual:Str}{st:Stmt}{f:AJ}{oc:AK}{od an:Option AJ}{osl:Array AC}{kV doc pm cdv ct:AK}(l:K.lookup f=some ⟨oc,od,.func am,osl⟩)
  (c:W.codeIn K cdv qual=true) (k:W.keepIn K (.ref f)=true):nj K x qual st f am:=⟨⟨oc,od,kV,doc,pm,an,cdv,ct,osl,rfl,l,c⟩,k⟩
end
theorem VM{A:Around}{k:Nat}(hr:Room k A):A.units+1<cLine:=Nat.lt_of_le_of_lt (Nat.add_le_add_left (by decide:1<=64) _) hr.units
section
variable {X:Cx}
theorem pv(i:Nat){x:Str}{pos:Pos}(hN:X.N[i]? =some x:=by rfl)(hv:Vis X.env.scope x:=by first | exact Or.inl rfl | exact Or.inr (Or.inl rfl) | exact Or.inr (Or.inr rfl))(hd:(x == ("__debug__":Str))=false:=by decide)
  (hcd:(x == ("__classdict__":Str))=false:=by decide):PE X (.Name x pos) (ak i):=Zk8 hN hv hd hcd
end
theorem Zsn{A B:Prop}(h:B):if false=true then A else B:=by
 rw[if_neg Bool.false_ne_true];exact h
theorem Zlf{A B:Prop}(h:A):if true=true then A else B:=by
 rw[if_pos rfl];exact h
theorem Zuz{c A B:Prop} [Decidable c](h1:c->A)(h2:¬ c->B):if c then A else B:=by
 by_cases h:c
 ·rw[if_pos h];exact h1 h
 ·rw[if_neg h];exact h2 h
def bD(H H':Hp):Prop:=∀b o,H b=some o->H' b=some o
theorem bD.refl(H:Hp):bD H H:=λ_ _ h=>h
theorem bD.trans{H H1 H2:Hp}(a:bD H H1)(b:bD H1 H2):bD H H2:=λc o h=>b c o (a c o h)
theorem bD.free{H H':Hp}(e:bD H H'){l:AJ}(h:H' l=Option.none):H l=Option.none:=by
 cases q:H l with
 | none=>rfl
 | some o=>
  rw[e l o q]at h;cases h
theorem bD.seq{K:aK}{H H':Hp}{a:AJ}{xs:List V}(e:bD H H')(h:cN K H a xs):cN K H' a xs:=by
 rcases h with (h | ⟨o,h⟩) | h
 ·exact .inl (.inl (e _ _ h))
 ·exact .inl (.inr ⟨o,e _ _ h⟩)
 ·exact .inr h
section
variable {X:Cx}{pins:Au}{σ:List (Option V)}{H H':Hp}{s:AL}{h':Heap}
end
section
variable {X:Cx}
variable {a b:AO}{ta tb:TE}{pos:Pos}
variable {tA tB':TT}{rest:AH}
end
section
variable {X:Cx}{a b c:AO}{ta tb tc:TE}{pos:Pos}
end
section
variable {prog:AN}{w:AQ}{A:Around}{E:Ap}{s:AL}{K:aK}{x dx C f:AJ}{mA:As}{name:Str}{v:AK}
end
section
variable {X:Cx}{pins:Au}{σ:St}{H:Hp}{s:AL}{a C dx:AJ}{fs:List (Str×V)}{f:Str}{v:V}{A:Around}{E:Ap}
end
section
variable {X:Cx}{CX:CXT}{k:Nat}{f C:AJ}{fd:AM}{ps:AI}{sp:Sp}{vA:List V}{ds:AE}{E:XK}{x m:Str}{p pos apos:Pos}{e o:AO}{es:AH}{ta:TE}{t:TA}
end
section
variable {X:Cx}{x:Str}{p pos:Pos}{e:AO}{es:AH}{t:TA}{id T:String}{r:List V->Hp->VK->Prop}
end
section
variable {κ:Type} [DecidableEq κ]
def lE(kvs:List (κ×V))(k:κ):Option V:=(kvs.find? λkv=>decide (kv.1=k)).map (·.2)
def putK(kvs:List (κ×V))(k:κ)(v:V):List (κ×V):=
 if (kvs.any λkv=>decide (kv.1=k))=true then kvs.map (λkv=>if kv.1=k then(kv.1,v)else kv)else kvs++[(k,v)]
theorem jF{p:κ×V}{r:List (κ×V)}{k:κ}(e:p.1=k):lE (p::r) k=some p.2:=by simp[lE,List.find?_cons,e]
theorem jG{p:κ×V}{r:List (κ×V)}{k:κ}(e:¬ p.1=k):lE (p::r) k=lE r k:=by simp[lE,List.find?_cons,e]
theorem Dd(k:κ):∀kvs:List (κ×V),(kvs.any λkv=>decide (kv.1=k))=(lE kvs k).isSome
 | []=>rfl
 | p::r=>by
  rw[List.any_cons]
  by_cases e:p.1=k
  ·simp only[jF e,decide_eq_true e,Bool.true_or,Option.isSome_some]
  ·rw[jG e,decide_eq_false e,Bool.false_or];exact Dd k r
theorem Zr(k j:κ)(y:V):∀kvs:List (κ×V),lE (kvs.map λkv=>if kv.1=k then(kv.1,y)else kv) j=(lE kvs j).map λx=>if j=k then y else x
 | []=>rfl
 | p::r=>by
  have ih:=Zr k j y r;rw[List.map_cons]
  by_cases h:p.1=k
  ·rw[if_pos h]
   by_cases e:p.1=j
   ·rw[jF (p:=(p.1,y)) e,jF e,Option.map_some,if_pos (e.symm.trans h)]
   ·rw[jG (p:=(p.1,y)) e,jG e,ih]
  ·rw[if_neg h]
   by_cases e:p.1=j
   ·rw[jF (p:=p) e,jF e,Option.map_some,if_neg (λz=>h (e.trans z))]
   ·rw[jG (p:=p) e,jG e,ih]
theorem U4(k j:κ)(y:V):∀kvs:List (κ×V),lE kvs k=none->lE (kvs++[(k,y)]) j=if j=k then some y else lE kvs j
 | [],_=>by
  by_cases e:k=j
  ·rw[if_pos e.symm];exact jF (p:=(k,y)) e
  ·rw[if_neg (λz=>e z.symm)];exact jG (p:=(k,y)) e
 | p::r,hn=>by
  rw[List.cons_append];have hk:¬ p.1=k:=λz=>by rw[jF z]at hn;cases hn
  rw[jG hk]at hn;have ih:=U4 k j y r hn
  by_cases e:p.1=j
  ·rw[jF e,jF e,if_neg (λz=>hk (e.trans z))]
  ·rw[jG e,jG e,ih]
theorem pP(kvs:List (κ×V))(k j:κ)(y:V):lE (putK kvs k y) j=if j=k then some y else lE kvs j:=by
 unfold putK
 by_cases a:(kvs.any λkv=>decide (kv.1=k))=true
 ·rw[if_pos a,Zr];rw[Dd]at a
  by_cases e:j=k
  ·obtain⟨x,hx⟩:=Option.isSome_iff_exists.mp a;rw[if_pos e,e,hx,Option.map_some,if_pos rfl]
  ·rw[if_neg e];cases lE kvs j with
   | none=>rfl
   | some x=>rw[Option.map_some,if_neg e]
 ·rw[if_neg a];refine U4 k j y kvs ?_;rw[Dd]at a;cases q:lE kvs k with
  | none=>rfl
  | some x=>rw[q]at a;exact(a rfl).elim
theorem uA(kvs:List (κ×V))(k:κ)(v:V):(putK kvs k v).length<=kvs.length+1:=by
 unfold putK;split
 ·rw[bF];omega
 ·rw[List.length_append,List.length_cons,List.length_nil];omega
theorem wY.Ii{o:Option V}{u:AC}(r:wY o u):o.isSome=u.isSome:=by
 cases o with
 | none=>cases u with
  | none=>rfl
  | some _=>exact(show False from r).elim
 | some _=>cases u with
  | none=>exact(show False from r).elim
  | some _=>rfl
theorem KV.val{kvs:List (κ×V)}{vs:List (κ×AK)}(r:KV kvs vs)(k:κ):wY (lE kvs k) (valueAt vs k):=by
 unfold KV at r
 induction r with
 | nil=>exact True.intro
 | @cons p q ps qs h t ih=>
  obtain⟨h1,h2⟩:=h
  by_cases e:p.1=k
  ·have e':q.1=k:=h1.symm.trans e;have b:valueAt (q::qs) k=some q.2:=by simp[valueAt,List.find?_cons,e']
   rw[jF e,b];exact h2
  ·have e':¬ q.1=k:=λz=>e (h1.trans z);have b:valueAt (q::qs) k=valueAt qs k:=by simp[valueAt,List.find?_cons,e']
   rw[jG e,b];exact ih
theorem KV.any{kvs:List (κ×V)}{vs:List (κ×AK)}(r:KV kvs vs)(k:κ):(kvs.any λkv=>decide (kv.1=k))=vs.any λkv=>decide (kv.1=k):=by
 unfold KV at r
 induction r with
 | nil=>rfl
 | cons h t ih=>rw[List.any_cons,List.any_cons,ih,h.1]
theorem KV.repl{kvs:List (κ×V)}{vs:List (κ×AK)}(r:KV kvs vs)(k:κ){y:V}{u:AK}(ry:RelV y u):
  KV (kvs.map λkv=>if kv.1=k then(kv.1,y)else kv) (vs.map λkv=>if kv.1=k then(kv.1,u)else kv):=by
 unfold KV at r ⊢
 induction r with
 | nil=>exact .nil
 | @cons p q ps qs h t ih=>
  rw[List.map_cons,List.map_cons];refine .cons ?_ ih;obtain⟨h1,h2⟩:=h
  by_cases e:p.1=k
  ·rw[if_pos e,if_pos (h1.symm.trans e)];exact⟨h1,ry⟩
  ·rw[if_neg e,if_neg (λz=>e (h1.trans z))];exact⟨h1,h2⟩
theorem KV.put{kvs:List (κ×V)}{vs:List (κ×AK)}(r:KV kvs vs)(k:κ){y:V}{u:AK}(ry:RelV y u):KV (putK kvs k y) (stored vs k u):=by
 unfold putK stored;rw[r.any k]
 by_cases e:(vs.any λkv=>decide (kv.1=k))=true
 ·rw[if_pos e,if_pos e];exact r.repl k ry
 ·rw[if_neg e,if_neg e];exact Paired.snoc r ⟨rfl,ry⟩
theorem KV.length{kvs:List (κ×V)}{vs:List (κ×AK)}(r:KV kvs vs):kvs.length=vs.length:=Paired.length r
end
theorem Zan{P:AN}{w:AQ}{k:Key}{u:AK}(r:RelV (kV k) u):(jT P w).is k u=true:=by
 cases k with
 | inl i=>obtain⟨t,e⟩:=(show ∃t,u=Value.int i t from r);subst e;exact Za8 P w i t
 | inr x=>obtain⟨t,e⟩:=(show ∃t,u=Value.str x t from r);subst e;exact Za7 P w x t
theorem VH{P:AN}{w:AQ}:∀{ks:List Key}{us:AE},Vals (ks.map kV) us->ItemsAre (jT P w) ks us
 | [],_,r=>by rw[List.map_nil]at r;cases r;exact .nil
 | k::ks,_,r=>by
  rw[List.map_cons]at r;cases r with
  | cons h t=>exact .cons (Zan h) (VH t)
abbrev KT(H:Hp):List (List Key×V)->List (List Key×AJ×AK)->Prop:=Paired λp q=>p.1=q.1/\H q.2.1=some (.tup (p.1.map kV))/\RelV p.2 q.2.2
theorem KT.val{H:Hp}{kvs:List (List Key×V)}{xs:List (List Key×AJ×AK)}(r:KT H kvs xs)(k:List Key):wY (lE kvs k) ((atKey xs k).map (·.2)):=by
 induction r with
 | nil=>exact True.intro
 | @cons p q ps qs h t ih=>
  obtain⟨h1,_,h2⟩:=h
  by_cases e:p.1=k
  ·have e':q.1=k:=h1.symm.trans e;have b:atKey (q::qs) k=some q.2:=by simp[atKey,List.find?_cons,e']
   rw[jF e,b];exact h2
  ·have e':¬ q.1=k:=λz=>e (h1.trans z);have b:atKey (q::qs) k=atKey qs k:=by simp[atKey,List.find?_cons,e']
   rw[jG e,b];exact ih
theorem KT.repl{H:Hp}{kvs:List (List Key×V)}{xs:List (List Key×AJ×AK)}(r:KT H kvs xs)(k:List Key){y:V}{u:AK}(ry:RelV y u):
  KT H (kvs.map λkv=>if kv.1=k then(kv.1,y)else kv) (xs.map (putAt k u)):=by
 induction r with
 | nil=>exact .nil
 | @cons p q ps qs h t ih=>
  rw[List.map_cons,List.map_cons];refine .cons ?_ ih;obtain⟨h1,h2,h3⟩:=h;unfold putAt
  by_cases e:p.1=k
  ·rw[if_pos e,if_pos (h1.symm.trans e)];exact⟨h1,h2,ry⟩
  ·rw[if_neg e,if_neg (λz=>e (h1.trans z))];exact⟨h1,h2,h3⟩
theorem KT.put{H:Hp}{kvs:List (List Key×V)}{xs:List (List Key×AJ×AK)}(r:KT H kvs xs)(k:List Key){b:AJ}{y:V}{u:AK}(hb:H b=some (.tup (k.map kV)))(ry:RelV y u):
  KT H (putK kvs k y) (storedH xs k b u):=by
 have e:(kvs.any λkv=>decide (kv.1=k))=(atKey xs k).isSome:=by
  rw[Dd,(r.val k).Ii,Option.isSome_map]
 unfold putK storedH;rw[e]
 by_cases q:(atKey xs k).isSome=true
 ·rw[if_pos q,if_pos q];exact r.repl k ry
 ·rw[if_neg q,if_neg q];exact Paired.snoc r ⟨rfl,hb,ry⟩
theorem KT.keeps{H H':Hp}{kvs:List (List Key×V)}{xs:List (List Key×AJ×AK)}(r:KT H kvs xs)(ht:∀b ys,H b=some (.tup ys)->H' b=some (.tup ys)):KT H' kvs xs:=
 Paired.Zs9 r λ_ _ z=>⟨z.1,ht _ _ z.2.1,z.2.2⟩
section
variable {P:AN}{w:AQ}{H:Hp}{h:Heap}{a:AJ}
theorem Zqb{u:HO}(ok:oM P w H h)(e:Rd H a u):jc P w H h a u:=e.ok ok
theorem Zgc{kvs:List (Key×V)}(ok:oM P w H h)(e:Rd H a (.dK kvs)):kvs.length<=sizeLine/\(a == sysModules)=false/\∃vs,KV kvs vs/\h.DictOf (jT P w) a vs:=
 show jc P w H h a (.dK kvs)from Zqb ok e
theorem Zqt{kvs:List (Key×V)}(ok:oM P w H h)(e:H a=some (.dK kvs)):kvs.length<=sizeLine/\(a == sysModules)=false/\∃vs,KV kvs vs/\h.DictOf (jT P w) a vs:=Zgc ok (.inl e)
theorem XQ{ks:List Key}(ok:oM P w H h)(e:H a=some (.tup (ks.map kV))):(tupleKind (jT P w)).is h ks a:=by
 obtain⟨_,its,r,o,h1,h2,n,h3⟩:=(show jc P w H h a (.tup (ks.map kV))from ok a _ e);exact⟨o,its.toArray,n,h1,h2,h3,by simpa using VH r⟩
theorem Zgb{kvs:List (List Key×V)}(ok:oM P w H h)(e:Rd H a (.dT kvs)):kvs.length<=sizeLine/\(a == sysModules)=false/\
  ∃xs,KT H kvs xs/\h.DictOfH (tupleKind (jT P w)) a xs:=by
 obtain⟨z,y,xs,r,o,es,ep,h1,h2,h3,h4,h5⟩:=(show jc P w H h a (.dT kvs)from Zqb ok e);refine⟨z,y,xs,r,o,es,ep,h1,h2,h3,h4,λx hx=>?_,h5⟩;have all:∀{l:List (List Key×V)}{m:List (List Key×AJ×AK)},KT H l m->∀x∈m,(tupleKind (jT P w)).is h x.1 x.2.1:=by
  intro l m q
  induction q with
  | nil=>intro x hx;exact nomatch hx
  | @cons p q ps qs hq t ih=>
   intro x hx;rcases List.mem_cons.mp hx with e | hx
   ·subst e;exact XQ ok (by rw[<- hq.1];exact hq.2.1)
   ·exact ih x hx
 exact all r x hx
theorem Zw3{kvs:List (List Key×V)}(ok:oM P w H h)(e:H a=some (.dT kvs)):kvs.length<=sizeLine/\(a == sysModules)=false/\
  ∃xs,KT H kvs xs/\h.DictOfH (tupleKind (jT P w)) a xs:=Zgb ok (.inl e)
end
def MJ(H:Hp)(a:AJ)(y:V)(r:Option V):Prop:=
 (∃kvs k,Rd H a (.dK kvs)/\y=kV k/\r=lE kvs k)\/∃kvs k b,Rd H a (.dT kvs)/\y=.ref b/\H b=some (.tup (k.map kV))/\r=lE kvs k
def Zbq(H:Hp)(a:AJ)(y v:V)(H':Hp):Prop:=
 (∃kvs k,H a=some (.dK kvs)/\y=kV k/\kvs.length<sizeLine/\H'=upd H a (.dK (putK kvs k v)))\/
 ∃kvs k b,H a=some (.dT kvs)/\y=.ref b/\H b=some (.tup (k.map kV))/\kvs.length<sizeLine/\H'=upd H a (.dT (putK kvs k v))
theorem MJ.k{H:Hp}{a:AJ}{kvs:List (Key×V)}{k:Key}(e:H a=some (.dK kvs)):MJ H a (kV k) (lE kvs k):=.inl ⟨kvs,k,.inl e,rfl,rfl⟩
theorem Zbq.k{H:Hp}{a:AJ}{kvs:List (Key×V)}{k:Key}{v:V}(e:H a=some (.dK kvs))(hl:kvs.length<sizeLine):Zbq H a (kV k) v (upd H a (.dK (putK kvs k v))):=.inl ⟨kvs,k,e,rfl,hl,rfl⟩
section
variable {X:Cx}{pins:Au}{σ:St}{H:Hp}{s:AL}{a:AJ}{y v:V}{u r:AK}{o:Option V}{A:Around}{E:Ap}
theorem Inv.big(I:Inv X pins σ H s):sysModules<s.heap.objs.size:=by
 have h:mainGlobals<s.heap.objs.size:=(I.mod.glob.keeps I.bk).lt;exact Nat.lt_trans ε h
theorem Zid{Q:Ap}(hu:A.units+1<cLine)(I:Inv X pins σ H s)(g:MJ H a y (some v))(ry:RelV y u)(h:∀w' s',Inv X pins σ H s'->RelV v w'->Q w' s'):
  wpAny ς A (getItem (.ref a) u) Q E s:=by
 rcases g with ⟨kvs,k,e,ey,l⟩ | ⟨kvs,k,b,e,ey,eb,l⟩
 ·subst ey;obtain⟨z,hd,vs,rel,dd⟩:=Zgc I.hok e;obtain⟨w',hw,rw'⟩:=wY.some_of (v:=v) (o:=valueAt vs k) (by rw[l];exact rel.val k);exact wpAny_getItem_of (Zan ry) dd.mapOf hw (h w' _ (I.tok _) rw')
 ·subst ey;cases (show u=Value.ref b from ry);obtain⟨z,hd,xs,rel,dd⟩:=Zgb I.hok e;obtain⟨w',hw,rw'⟩:=wY.some_of (v:=v) (o:=(atKey xs k).map (·.2)) (by rw[l];exact rel.val k);obtain⟨p,hp,hp2⟩:=Option.map_eq_some_iff.mp hw;refine wpAny_getItem_heap (tupleKind_room_in1 hu) (XQ I.hok eb) dd hp ?_;rw[hp2];exact h w' _ (I.tok _) rw'
theorem ZF8{Q:Ap}(hu:A.units+1<cLine)(I:Inv X pins σ H s)(g:MJ H a y o)(ry:RelV y u)(h:∀s',Inv X pins σ H s'->Q (.bool o.isSome) s'):
  wpAny ς A (compareOp .In u (.ref a)) Q E s:=by
 rcases g with ⟨kvs,k,e,ey,l⟩ | ⟨kvs,k,b,e,ey,eb,l⟩
 ·subst ey;obtain⟨z,hd,vs,rel,dd⟩:=Zgc I.hok e;refine wpAny_in_of (Zan ry) hd dd.mapOf ?_;rw[<- (rel.val k).Ii,<- l];exact h _ (I.tok _)
 ·subst ey;cases (show u=Value.ref b from ry);obtain⟨z,hd,xs,rel,dd⟩:=Zgb I.hok e;refine wpAny_in_heap (tupleKind_room_in1 hu) (XQ I.hok eb) hd dd ?_;have q:=(rel.val k).Ii;rw[Option.isSome_map]at q;rw[<- q,<- l];exact h _ (I.tok _)
theorem Yy{h':Heap}{t':Nat}{ob:HO}(I:Inv X pins σ H s)(mu:Mut (H a))(hs:Heap.SameBut a s.heap h')(he:∃q,h'.get? a=some q)(new:jc X.prog X.w (upd H a ob) h' a ob):
  Inv X pins σ (upd H a ob) { s with heap:=h',toks:=t' }:=
 I.write (x:=a) (e:=a) mu (.inl rfl) (λb q hb z=>(hs.2 b hb).trans z) he new
theorem Zmo{P:AN}{w:AQ}{H':Hp}{h':Heap}{kvs:List (Key×V)}{vs:List (Key×AK)}(z:kvs.length<=sizeLine)(hd:(a == sysModules)=false)(rel:KV kvs vs)(dd:h'.DictOf (jT P w) a vs):
  jc P w H' h' a (.dK kvs):=⟨z,hd,vs,rel,dd⟩
theorem Zic{H':Hp}{Q:Unit->AL->Prop}(hu:A.units+1<cLine)(I:Inv X pins σ H s)(g:Zbq H a y v H')(ry:RelV y u)(rv:RelV v r)(h:∀s',Inv X pins σ H' s'->Q () s'):
  wpAny ς A (setItem (.ref a) u r) Q E s:=by
 rcases g with ⟨kvs,k,e,ey,l,eH⟩ | ⟨kvs,k,b,e,ey,eb,l,eH⟩
 ·subst ey eH;obtain⟨z,hd,vs,rel,dd⟩:=Zqt I.hok e;have hz:vs.length<=sizeLine:=by rw[<- rel.length];exact z
  have hl:(putK kvs k v).length<=sizeLine:=by have:=uA kvs k v;omega
  refine wpAny_setItem_pairs (hsz:=hz) (Zan ry) dd λh' dd' hs=>h _ ?_;have he:∃q,h'.get? a=some q:=let ⟨q,_,_,hq,_⟩:=dd';⟨q,hq⟩
  exact Yy I (by rw[e];exact True.intro) hs he (Zmo hl hd (rel.put k rv) dd')
 ·subst ey eH;cases (show u=Value.ref b from ry);obtain⟨z,hd,xs,rel,dd⟩:=Zw3 I.hok e;have hz:xs.length<=sizeLine:=by rw[<- Paired.length rel];exact z
  have hl:(putK kvs k v).length<=sizeLine:=by have:=uA kvs k v;omega
  refine wpAny_setItem_heap (hsz:=hz) (tupleKind_room_in1 hu) (XQ I.hok eb) dd λh' dd' hs=>h _ ?_;obtain⟨q,es,ep,hq,h2,h3,h4,_,h5⟩:=dd';refine Yy I (by rw[e];exact True.intro) hs ⟨q,hq⟩ ⟨hl,hd,_,(rel.put k eb rv).keeps λc ys ec=>?_,q,es,ep,hq,h2,h3,h4,h5⟩;rw[aQ (Zuo ec e (λz=>nomatch z))];exact ec
end
section
variable {X:Cx}{pins:Au}{σ:St}{H:Hp}{s:AL}{a:AJ}{kvs:List (Key×V)}{k:Key}{u:AK}{A:Around}{E:Ap}
end
def Zq4(i:AO):Prop:=∀ov iv,subscripted i false ov iv=operate [ov,iv] (getItem ov iv)
theorem Zfg{prog:AN}{w:AQ}{A:Around}{E:Ap}{s:AL}{env:Env}{value slice:AO}{pos:Pos}{T id:String}{Q:Ap}
  (hl:typeLookup (.type T) "__getitem__"=pure (some (.builtin id))) (hs:Zq4 slice)
  (h:wpAny Ξ A (eval value env) (λo s₁=>wpAny Ξ A (eval slice env) (λi s₂=>s₂.TypeIs o T/\wpAny Ξ A (getItem o i) Q E s₂) E s₁) E s):
  wpAny Ξ A (eval (.Subscript value slice pos) env) Q E s:=by
 refine Subscript_ (wpAny_mono h (λo s₁ h₁=>wpAny_mono h₁ (λi s₂ h₂=>?_) λ_ _ x=>x) λ_ _ x=>x);obtain⟨hT,h₂⟩:=h₂;unfold subscriptTail;refine wpAny_bind ?_;rw[getitemInPython_of_ne hT.not_modules];refine wpAny_bind (wpAny_specialOf hT hl ?_);have fin:wpAny Ξ A (subscripted slice false o i) (λr s₃=>wpAny Ξ A (letTemporaryGo value o r >>= λ_=>pure r) Q E s₃) E s₂:=by
  rw[hs o i];exact wpAny_operating (wpAny_mono h₂ (λr s₃ h₃=>wpAny_bind (wpAny_letTemporaryGo (wpAny_pure h₃))) λ_ _ x=>x)
 first
  | exact wpAny_pure (wpAny_bind fin)
  | exact wpAny_bind (wpAny_pure (wpAny_bind fin))
  | exact wpAny_bind fin
theorem Zbd{X:Cx}{pins:Au}{σ:St}{H:Hp}{s:AL}{a:AJ}{y:V}{o:Option V}(I:Inv X pins σ H s)(g:MJ H a y o):s.TypeIs (.ref a) "dict":=by
 rcases g with ⟨kvs,k,e,_,_⟩ | ⟨kvs,k,b,e,_,_,_⟩
 ·obtain⟨_,_,vs,_,dd⟩:=Zgc I.hok e;exact dd.typeIs
 ·obtain⟨_,_,xs,_,dd⟩:=Zgb I.hok e;exact dd.typeIs
def Zff(td ty:TE):TE:=λσ H Q=>td σ H λx H1=>ty σ H1 λy H2=>∃a v,x=.ref a/\MJ H2 a y (some v)/\Q v H2
def Zr9(ty td:TE):TE:=λσ H Q=>ty σ H λy H1=>td σ H1 λx H2=>∃a o,x=.ref a/\MJ H2 a y o/\Q (.bl o.isSome) H2
def Vk(td ty tv:TE):TS:=λD σ H=>tv σ H λv H1=>td σ H1 λx H2=>ty σ H2 λy H3=>∃a H4,x=.ref a/\Zbq H3 a y v H4/\D.nx σ H4
section
variable {X:Cx}{o i e value:AO}{pos pos' tpos:Pos}{td ty tv:TE}
theorem Zo8(hu:X.A.units+1<cLine)(ho:PE X o td)(hi:PE X i ty)(hs:Zq4 i):PE X (.Subscript o i pos) (Zff td ty):=by
 intro pins s σ H Q I h;refine Zfg PySem.F.slot_dict_getitem.lookup hs (iJ (ho pins s σ H _ I h) λu s1 ⟨x,H1,I1,rx,q1⟩=>iJ (hi pins s1 σ H1 _ I1 q1) λiv s2 ⟨y,H2,I2,ry,a,v,ex,g,q2⟩=>?_);subst ex;obtain rfl:u=Value.ref a:=rx;exact⟨Zbd I2 g,Zid hu I2 g ry λw' s3 I3 rw'=>⟨v,H2,I3,rw',q2⟩⟩
theorem Zrt(hu:X.A.units+1<cLine)(hi:PE X i ty)(ho:PE X o td):PC X .In i o (Zr9 ty td):=by
 intro pins s σ H Q I h;refine iJ (hi pins s σ H _ I h) λiv s1 ⟨y,H1,I1,ry,q1⟩=>iJ (ho pins s1 σ H1 _ I1 q1) λu s2 ⟨x,H2,I2,rx,a,ov,ex,g,q2⟩=>?_;subst ex;obtain rfl:u=Value.ref a:=rx;exact ZF8 hu I2 g ry λs3 I3=>⟨.bl ov.isSome,H2,I3,rfl,q2⟩
theorem W6(hu:X.A.units+1<cLine)(ho:PE X o td)(hi:PE X i ty)(hv:PE X value tv)(hs:swapsWith value (some (.Subscript o i pos')) pos.line X.env=pure false):
  PS X (.Assign [.Subscript o i pos'] value pos) (Vk td ty tv):=by
 intro pins s σ H D I h;refine wpAny_Assign_Subscript (iJ (hv pins s σ H _ I h) λr s1 ⟨v,H1,I1,rv,q1⟩=>iJ (ho pins s1 σ H1 _ I1 q1) λu s2 ⟨x,H2,I2,rx,q2⟩=>iJ (hi pins s2 σ H2 _ I2 q2) λiv s3 ⟨y,H3,I3,ry,a,H4,ex,g,q3⟩=>?_) hs;subst ex;obtain rfl:u=Value.ref a:=rx;exact Zic hu I3 g ry rv λs4 I4=>⟨σ,H4,I4,q3⟩
end
theorem Zbc{P:AN}{w:AQ}{H:Hp}(h:Heap)(hb:sysModules<h.objs.size):jc P w H (h.push { cls:=.type "dict",data:=.dict #[] }) h.objs.size (.dK []):=
 ⟨Nat.zero_le _,beq_eq_false_iff_ne.mpr (Ne.symm (Nat.ne_of_lt hb)),[],.nil,Heap.DictOf.new h⟩
def Zjc:TE:=λ_ H Q=>∀p,H p=none->Q (.ref p) (upd H p (.dK []))
section
variable {X:Cx}{pos:Pos}
theorem Zkc:PE X (.Dict [] [] pos) Zjc:=λpins s σ H Q I h=>
 wpAny_Dict_empty ⟨.ref s.heap.objs.size,_,I.laid (a:=s.heap.objs.size) (o:=.dK []) (t':=s.toks) (λ_ _ q=>Heap.get?_push_of_some _ q) χ (Zbc s.heap I.big),rfl,h _ (I.hok.fresh χ)⟩
end
def Zcj:List (TE×TE)->St->Hp->(List (V×V)->Hp->Prop)->Prop
 | [],_,H,Q=>Q [] H
 | (tk,tv)::r,σ,H,Q=>tk σ H λx H1=>tv σ H1 λy H2=>Zcj r σ H2 λps H3=>Q ((x,y)::ps) H3
abbrev VV:List (V×V)->List (AK×AK)->Prop:=Paired λp q=>RelV p.1 q.1/\RelV p.2 q.2
def PPs(X:Cx)(pos:Pos)(keys:List (Option AO))(values:AH)(trs:List (TE×TE)):Prop:=
 ∀(pins:Au) (s:AL) (σ:St) (H:Hp) (Q:List (V×V)->Hp->Prop),Inv X pins σ H s->Zcj trs σ H Q->
  wpAny ς X.A (evalPairs (pairTrees keys values X.env pos)) (λvs s'=>∃ps H',Inv X pins σ H' s'/\VV ps vs/\Q ps H') X.xe s
theorem Zfk{X:Cx}{pos:Pos}:PPs X pos [] [] []:=λpins s σ H Q I h=>pairTrees_nil_walk ⟨[],H,I,.nil,h⟩
theorem Z2{X:Cx}{pos:Pos}{k v:AO}{ks:List (Option AO)}{vs:AH}{tk tv:TE}{trs:List (TE×TE)}(hk:PE X k tk)(hv:PE X v tv)(hr:PPs X pos ks vs trs):
  PPs X pos (some k::ks) (v::vs) ((tk,tv)::trs):=λpins s σ H Q I h=>
 pairTrees_cons_walk (iJ (hk pins s σ H _ I h) λu s1 ⟨x,H1,I1,rx,q1⟩=>iJ (hv pins s1 σ H1 _ I1 q1) λw2 s2 ⟨y,H2,I2,ry,q2⟩=>
  iJ (hr pins s2 σ H2 _ I2 q2) λws s3 ⟨ps,H3,I3,rel,q3⟩=>⟨(x,y)::ps,H3,I3,.cons ⟨rx,ry⟩ rel,q3⟩)
def nG(kvs more:List (Key×V)):List (Key×V):=more.foldl (λacc kv=>putK acc kv.1 kv.2) kvs
theorem KV.merge:∀{more:List (Key×V)}{rs:List (Key×AK)}{kvs:List (Key×V)}{vs:List (Key×AK)},KV more rs->KV kvs vs->KV (nG kvs more) (merged vs rs):=by
 intro more rs kvs vs r;unfold KV at r
 induction r generalizing kvs vs with
 | nil=>intro q;exact q
 | @cons p q ps qs h t ih=>
  intro r0;have e:KV (putK kvs p.1 p.2) (stored vs q.1 q.2):=by
   have:=r0.put p.1 h.2;rw[<- h.1];exact this
  exact ih e
theorem Ba:∀(more kvs:List (Key×V)),(nG kvs more).length<=kvs.length+more.length
 | [],kvs=>by show kvs.length<=kvs.length+0;omega
 | p::r,kvs=>by
  have h1:=Ba r (putK kvs p.1 p.2);have h2:=uA kvs p.1 p.2;show(nG (putK kvs p.1 p.2) r).length<=_;rw[List.length_cons];omega
theorem Q6{P:AN}{w:AQ}:∀{kvs:List (Key×V)}{ws:List (AK×AK)},VV (kvs.map λkv=>(kV kv.1,kv.2)) ws->∃rs,Carries (jT P w) ws rs/\KV kvs rs
 | [],_,r=>by rw[List.map_nil]at r;cases r;exact⟨[],True.intro,.nil⟩
 | p::kvs,_,r=>by
  rw[List.map_cons]at r;cases r with
  | @cons a b as bs h t=>
   obtain⟨rs,c,q⟩:=Q6 (P:=P) (w:=w) t;obtain⟨b1,b2⟩:=b;exact⟨(p.1,b2)::rs,⟨Zan h.1,rfl,c⟩,.cons ⟨rfl,h.2⟩ q⟩
def Zjb(trs:List (TE×TE)):TE:=λσ H Q=>∀p,H p=none->Zcj trs σ (upd H p (.dK [])) λps H2=>H2 p=some (.dK [])/\∃kvs:List (Key×V),ps=kvs.map (λkv=>(kV kv.1,kv.2))/\kvs.length<=15/\Q (.ref p) (upd H2 p (.dK (nG [] kvs)))
theorem Zfn{X:Cx}{pos:Pos}{keys:List (Option AO)}{values:AH}{trs:List (TE×TE)}(h:PPs X pos keys values trs)(hall:keys.all (·.isSome)=true)(hl:keys.length=values.length)(h0:keys≠[])
  (h15:keys.length<=15):PE X (.Dict keys values pos) (Zjb trs):=by
 intro pins s σ H Q I q;have hn:=I.hok.fresh (Nat.le_refl s.heap.objs.size);have I1:=I.laid (a:=s.heap.objs.size) (o:=.dK []) (h':=s.heap.push { cls:=.type "dict",data:=.dict #[] }) (t':=s.toks) (λ_ _ q=>Heap.get?_push_of_some _ q) χ (Zbc s.heap I.big);refine wpAny_Dict_walk (knd:=jT X.prog X.w) hall hl h0 h15 (iJ (h pins _ σ _ _ I1 (q _ hn)) λws s2 ⟨ps,H2,I2,rel,e,kvs,ep,lk,q2⟩=>?_);subst ep;obtain⟨rs,c,rk⟩:=Q6 (P:=X.prog) (w:=X.w) rel;obtain⟨z,hd,vs0,r0,dd⟩:=Zqt I2.hok e;cases r0;refine⟨rs,c,dd,λh' dd' hs=>⟨.ref s.heap.objs.size,_,?_,rfl,q2⟩⟩;have hz:(nG [] kvs).length<=sizeLine:=by
  have h1:=Ba kvs [];rw[List.length_nil]at h1;rw[sizeLine_eq];omega
 have he:∃q,h'.get? s.heap.objs.size=some q:=let ⟨q,_,_,hq,_⟩:=dd';⟨q,hq⟩
 exact Yy I2 (by rw[e];exact True.intro) hs he (Zmo hz hd (rk.merge .nil) dd')
structure M1(X:Cx)(o:AO)(m:Str)(apos:Pos)(e:AO)(cpos:Pos):Prop where
 base:attributeBase o m X.env (eval o X.env)=eval o X.env
 few:((backTo cpos (starEach [e] X.env)).all (λx=>!x.1) && (backToKw cpos (keywordEach [] X.env)).all (λx=>x.1.isSome)
  && decide (([e]:AH).length+([]:List Keyword).length+(if ([]:List Keyword).isEmpty then 0 else 1)<30))=true
 line:(apos.endLine == cpos.line)=true
 trees:backTo cpos (starEach [e] X.env)=[(false,eval e X.env)]
structure M2(X:Cx)(o:AO)(m:Str)(apos:Pos)(e f:AO)(cpos:Pos):Prop where
 base:attributeBase o m X.env (eval o X.env)=eval o X.env
 few:((backTo cpos (starEach [e,f] X.env)).all (λx=>!x.1) && (backToKw cpos (keywordEach [] X.env)).all (λx=>x.1.isSome)
  && decide (([e,f]:AH).length+([]:List Keyword).length+(if ([]:List Keyword).isEmpty then 0 else 1)<30))=true
 line:(apos.endLine == cpos.line)=true
 trees:backTo cpos (starEach [e,f] X.env)=[(false,eval e X.env),(false,eval f X.env)]
section
variable {X:Cx}{pins:Au}{σ:St}{H:Hp}{s:AL}{a:AJ}{y d:V}{u r:AK}{o:Option V}{A:Around}{E:Ap}
end
section
variable {X:Cx}{o e f:AO}{apos cpos:Pos}{td ty tx:TE}
end
section
variable {X:Cx}{pins:Au}{σ:St}{H:Hp}{s:AL}{a:AJ}{kvs:List (Key×V)}{A:Around}{E:Ap}
end
section
variable {X:Cx}{pins:Au}{σ:St}{H:Hp}{s:AL}{a:AJ}{y:V}{u:AK}{A:Around}{E:Ap}
end
end L2
namespace Att
open PySem PySem.W PySem.Calls PyProof.Rows
section
variable {prog:AN}{w:AQ}{A:Around}{E:Ap}{s:AL}{K:Frag}
end
end Att
namespace L2
open PySem PySem.Spec PyProof.Rows
section
variable {X:Cx}
end
section
variable {κ:Type} [DecidableEq κ]
theorem Xl:∀{l:List κ}{k:κ},l.Nodup->¬ k∈l->(l++[k]).Nodup
 | [],k,_,_=>ζ
 | a::r,k,h,hk=>by
  obtain⟨h1,h2⟩:=List.nodup_cons.mp h;show(a::(r++[k])).Nodup;refine List.nodup_cons.mpr ⟨λm=>?_,Xl h2 λm=>hk (List.mem_cons.mpr (Or.inr m))⟩;rcases List.mem_append.mp m with q | q
  ·exact h1 q
  ·exact hk (List.mem_cons.mpr (Or.inl (List.mem_singleton.mp q).symm))
end
end L2
set_option maxHeartbeats 40000000
namespace G
open PySem L2
section
variable {D:Ends}{σ:St}{H H1:Hp}{Q:VK}{t u:TS}{ta tb tc te:TE}{n:ν}{r:VK}{b c:ν}
theorem Zg2(h:t ⟨u ⟨n,r,b,c⟩,r,b,c⟩ σ H):bw t u ⟨n,r,b,c⟩ σ H:=h
theorem Zsy(h:n σ H):bV ⟨n,r,b,c⟩ σ H:=h
theorem Zt7(h:te σ H λ_ H1=>n σ H1):pR te ⟨n,r,b,c⟩ σ H:=h
theorem Zv6(h:te σ H r):cC te ⟨n,r,b,c⟩ σ H:=h
theorem Zxd{c':TT}(h:c' σ H λk H1=>if k=true then t ⟨n,r,b,c⟩ σ H1 else u ⟨n,r,b,c⟩ σ H1):cZ c' t u ⟨n,r,b,c⟩ σ H:=h
theorem Zvs{g:TG}(h:te σ H λx H1=>g x σ H1 n):bO te g ⟨n,r,b,c⟩ σ H:=h
theorem i_C{v:V}(h:Q v H):tC v σ H Q:=h
theorem Zxb{f:R2}(h:ta σ H λx H1=>tb σ H1 λy H2=>f x y H2 Q):aN f ta tb σ H Q:=h
theorem Zx7{f:V->Hp->VK->Prop}(h:ta σ H λx H1=>f x H1 Q):tUn f ta σ H Q:=h
def kB(q:Bool->Hp->Prop):VK:=λx H'=>∃k,x=.bl k/\q k H'
theorem i_B{k:Bool}{q:Bool->Hp->Prop}(h:q k H):kB q (.bl k) H:=⟨k,rfl,h⟩
theorem Zsr{q:Bool->Hp->Prop}(h:te σ H (kB q)):bJ te σ H q:=h
theorem Zx8{q:Bool->Hp->Prop}(h:te σ H (kB q)):tB te σ H q:=h
theorem Zvt{t u:TT}{q:Bool->Hp->Prop}(h:t σ H λk H1=>if k=true then u σ H1 q else q false H1):qp t u σ H q:=h
theorem Zxa{t u:TT}{q:Bool->Hp->Prop}(h:t σ H λk H1=>if k=true then q true H1 else u σ H1 q):tOr t u σ H q:=h
theorem Zv7{t:TT}{q:Bool->Hp->Prop}(h:t σ H λk H1=>q (!k) H1):RJ t σ H q:=h
theorem Ztc(h:ta σ H (kB λk H1=>if k=true then tb σ H1 Q else Q (.bl false) H1)):ZC ta tb σ H Q:=h
theorem Zsx(h:ta σ H (kB λk H1=>Q (.bl (!k)) H1)):Zja ta σ H Q:=h
theorem Zvg{t:TT}(h:t σ H λk H1=>if k=true then ta σ H1 Q else tb σ H1 Q):tIf t ta tb σ H Q:=h
theorem Zxt{g:Int->Int->V}{i j:Int}(h:Q (g i j) H):ir g (.int i) (.int j) H Q:=⟨i,j,rfl,rfl,h⟩
theorem i_I{C:Int->Int->Prop}{g:Int->Int->V}{i j:Int}(hc:C i j)(h:Q (g i j) H):rI C g (.int i) (.int j) H Q:=⟨i,j,rfl,rfl,hc,h⟩
theorem i_U{g:Int->V}{i:Int}(h:Q (g i) H):rU g (.int i) H Q:=⟨i,rfl,h⟩
theorem Zvq{i j:Int}(h:Q (.bl (decide (i=j))) H):lH (.int i) (.int j) H Q:=⟨rfl,by rw[show decide (V.int i=V.int j)=decide (i=j)from decide_eq_decide.mpr ⟨λe=>V.int.inj e,λe=>by rw[e]⟩];exact h⟩
theorem Zvp{i j:Str}(h:Q (.bl (decide (i=j))) H):lH (.str i) (.str j) H Q:=⟨rfl,by rw[show decide (V.str i=V.str j)=decide (i=j)from decide_eq_decide.mpr ⟨λe=>V.str.inj e,λe=>by rw[e]⟩];exact h⟩
theorem Zva{i j:Int}(h:Q (.bl (!decide (i=j))) H):MT (.int i) (.int j) H Q:=⟨rfl,by rw[show decide (V.int i=V.int j)=decide (i=j)from decide_eq_decide.mpr ⟨λe=>V.int.inj e,λe=>by rw[e]⟩];exact h⟩
theorem Zv9{i j:Str}(h:Q (.bl (!decide (i=j))) H):MT (.str i) (.str j) H Q:=⟨rfl,by rw[show decide (V.str i=V.str j)=decide (i=j)from decide_eq_decide.mpr ⟨λe=>V.str.inj e,λe=>by rw[e]⟩];exact h⟩
def R4:R2:=λx y H Q=>y=.non/\Q (.bl (decide (x=.non))) H
def Z1:R2:=λx y H Q=>y=.non/\Q (.bl (!decide (x=.non))) H
theorem Zt4(h:Q (.bl true) H):R4 .non .non H Q:=⟨rfl,h⟩
theorem Zt3{i:Int}(h:Q (.bl false) H):R4 (.int i) .non H Q:=⟨rfl,h⟩
theorem Zt2{i:AJ}(h:Q (.bl false) H):R4 (.ref i) .non H Q:=⟨rfl,h⟩
theorem Zp5(h:Q (.bl false) H):Z1 .non .non H Q:=⟨rfl,h⟩
theorem Zp4{i:Int}(h:Q (.bl true) H):Z1 (.int i) .non H Q:=⟨rfl,h⟩
theorem Im{A B:Prop}(h:A):if true=true then A else B:=Zlf h
theorem QJ{A B:Prop}(h:B):if false=true then A else B:=Zsn h
theorem Zg4{A B:Prop}(h:B):if (!true)=true then A else B:=Zsn h
theorem Zg5{A B:Prop}(h:A):if (!false)=true then A else B:=Zlf h
theorem iM{p A B:Prop} [Decidable p](h1:p->A)(h2:¬ p->B):if decide p=true then A else B:=Zuz (λe=>h1 (of_decide_eq_true e)) (λe=>h2 (λq=>e (decide_eq_true q)))
theorem pC{p A B:Prop} [Decidable p](h1:¬ p->A)(h2:p->B):if (!decide p)=true then A else B:=Zuz (λe=>h1 (by simpa using e)) (λe=>h2 (by simpa using e))
theorem Zv8{q:List V->Hp->Prop}(h:q [] H):aM σ H q:=h
theorem Zta{q:List V->Hp->Prop}{t:TA}(h:ta σ H λx H1=>t σ H1 λxs H2=>q (x::xs) H2):aj ta t σ H q:=h
theorem Zvc{t:TA}(h:t σ H λxs H1=>xs.length<=sizeLine/\∀p,H1 p=none->Q (.ref p) (upd H1 p (.lst xs))):gY t σ H Q:=h
theorem Zv4{t:TA}(h:t σ H λxs H1=>xs.length<=sizeLine/\∀p,H1 p=none->Q (.ref p) (upd H1 p (.tup xs))):fU t σ H Q:=h
theorem Ztb{t:TA}{sp:Sp}{vA:List V}{E:XK}(h:t σ H λvs H1=>sp (vs++vA) H1 Q E):bW sp vA E t σ H Q:=h
theorem Zxu{t:TA}{f:List V->Hp->VK->Prop}(h:t σ H λvs H1=>f vs H1 Q):mH f t σ H Q:=h
theorem Zt0{t:TA}{sp:Sp}{vA:List V}{E:XK}{C:AJ}(h:t σ H λvs H1=>∀x dx,H1 x=none->H1 dx=none->dx≠x->sp (.ref x::(vs++vA)) (upd (upd H1 dx (.own x)) x (.ins C dx [])) (λv H2=>v=.non/\Q (.ref x) H2) E):Zfe C sp vA E t σ H Q:=h
def Zuw(K:aK)(f:Str)(Q:VK):VK:=λx H1=>∃a C dx fs v,x=.ref a/\H1 a=some (.ins C dx fs)/\Y7 K C/\jD K C f/\fs.lookup f=some v/\Q v H1
theorem Zvo{K:aK}{f:Str}(h:ta σ H (Zuw K f Q)):RK K ta f σ H Q:=h
theorem wO{K:aK}{f:Str}{a C dx:AJ}{fs:List (Str×V)}{v:V}(h:H a=some (.ins C dx fs))(hc:Y7 K C)(hn:jD K C f)(hl:fs.lookup f=some v)(q:Q v H):Zuw K f Q (.ref a) H:=⟨a,C,dx,fs,v,rfl,h,hc,hn,hl,q⟩
theorem Zsu{K:aK}{f:Str}{tv:TE}(h:tv σ H λy H1=>ta σ H1 λx H2=>∃a C dx fs,x=.ref a/\H2 a=some (.ins C dx fs)/\Y7 K C/\jD K C f/\fs.length<1000/\n σ (upd H2 a (.ins C dx (tQ f y fs)))):ZW K ta tv f ⟨n,r,b,c⟩ σ H:=h
theorem Zsz{C:AJ}{m:Str}{sp:Sp}{vA:List V}{E:XK}{t:TA}(h:ta σ H λx H1=>∃a dx fs,x=.ref a/\H1 a=some (.ins C dx fs)/\fs.lookup m=none/\t σ H1 λvs H2=>sp (x::(vs++vA)) H2 Q E):Vi C m sp vA E ta t σ H Q:=h
theorem Zlp{q:AB->Hp->Prop}(h:q none H):gR σ H q:=h
def kI(q:Int->Hp->Prop):VK:=λx H1=>∃i,x=.int i/\q i H1
theorem Zsw{q:AB->Hp->Prop}(h:te σ H (kI λi=>q (some i))):mF te σ H q:=h
theorem Zxc{i:Int}{q:Int->Hp->Prop}(h:q i H):kI q (.int i) H:=⟨i,rfl,h⟩
theorem Zx9{f:V->AB->AB->Hp->VK->Prop}{tl th:TO}(h:te σ H λx H1=>tl σ H1 λl H2=>th σ H2 λu H3=>f x l u H3 Q):RG f te tl th σ H Q:=h
theorem Zxs{K:aK}{T:String}{f:V->List V->Hp->VK->Prop}{to:TE}{t:TA}(h:to σ H λx H1=>tyV K T x H1/\t σ H1 λxs H2=>f x xs H2 Q):xq K T f to t σ H Q:=h
theorem Zvm{wi:TI}{g:TG}{tb:TS}(h:wi σ H λJ H1=>∃W:Nat->Nat->ν,(∃m,W 0 m σ H1)/\∀i m σ H,W i m σ H->
 (J.stop i H/\n σ H)\/(J.go i H/\∃N:ν,(∀ σ' H',N σ' H'->∃m',m'<m/\W (i+1) m' σ' H')/\∀x H',J.yld i H x H'->g x σ H' λσ2 H2=>tb ⟨N,r,n,N⟩ σ2 H2)):zR wi g tb ⟨n,r,b,c⟩ σ H:=h
theorem Zxf{K:aK}{R:It->Hp->Prop}(h:te σ H λx H1=>∃a,x=.ref a/\(∃xs,cN K H1 a xs)/\R (Itl K a) H1):Em K te σ H R:=h
theorem Zxe{ta:TA}{R:It->Hp->Prop}(h:ta σ H λvs H1=>∃j:Int,vs=[.int j]/\-(2 ^ 62)<=j/\j<2 ^ 62/\R (Itr 0 j.toNat) H1):El ta σ H R:=h
end
theorem Zx6{v:V}{l:St}{H:Hp}{Q:VK}(h:Q v H):ak 0 (some v::l) H Q:=⟨v,rfl,h⟩
theorem Zxq{y:Option V}{v:V}{l:St}{H:Hp}{Q:ν}(h:Q (some v::l) H):aO 0 v (y::l) H Q:=h
theorem Zx5{x0:Option V}{v:V}{l:St}{H:Hp}{Q:VK}(h:Q v H):ak 1 (x0::some v::l) H Q:=⟨v,rfl,h⟩
theorem Zxp{x0:Option V}{y:Option V}{v:V}{l:St}{H:Hp}{Q:ν}(h:Q (x0::some v::l) H):aO 1 v (x0::y::l) H Q:=h
theorem Zx4{x0 x1:Option V}{v:V}{l:St}{H:Hp}{Q:VK}(h:Q v H):ak 2 (x0::x1::some v::l) H Q:=⟨v,rfl,h⟩
theorem Zxo{x0 x1:Option V}{y:Option V}{v:V}{l:St}{H:Hp}{Q:ν}(h:Q (x0::x1::some v::l) H):aO 2 v (x0::x1::y::l) H Q:=h
theorem Zx3{x0 x1 x2:Option V}{v:V}{l:St}{H:Hp}{Q:VK}(h:Q v H):ak 3 (x0::x1::x2::some v::l) H Q:=⟨v,rfl,h⟩
theorem Zxn{x0 x1 x2:Option V}{y:Option V}{v:V}{l:St}{H:Hp}{Q:ν}(h:Q (x0::x1::x2::some v::l) H):aO 3 v (x0::x1::x2::y::l) H Q:=h
theorem Zx2{x0 x1 x2 x3:Option V}{v:V}{l:St}{H:Hp}{Q:VK}(h:Q v H):ak 4 (x0::x1::x2::x3::some v::l) H Q:=⟨v,rfl,h⟩
theorem Zxm{x0 x1 x2 x3:Option V}{y:Option V}{v:V}{l:St}{H:Hp}{Q:ν}(h:Q (x0::x1::x2::x3::some v::l) H):aO 4 v (x0::x1::x2::x3::y::l) H Q:=h
theorem Zx1{x0 x1 x2 x3 x4:Option V}{v:V}{l:St}{H:Hp}{Q:VK}(h:Q v H):ak 5 (x0::x1::x2::x3::x4::some v::l) H Q:=⟨v,rfl,h⟩
theorem Zxl{x0 x1 x2 x3 x4:Option V}{y:Option V}{v:V}{l:St}{H:Hp}{Q:ν}(h:Q (x0::x1::x2::x3::x4::some v::l) H):aO 5 v (x0::x1::x2::x3::x4::y::l) H Q:=h
theorem Zx0{x0 x1 x2 x3 x4 x5:Option V}{v:V}{l:St}{H:Hp}{Q:VK}(h:Q v H):ak 6 (x0::x1::x2::x3::x4::x5::some v::l) H Q:=⟨v,rfl,h⟩
theorem Zxk{x0 x1 x2 x3 x4 x5:Option V}{y:Option V}{v:V}{l:St}{H:Hp}{Q:ν}(h:Q (x0::x1::x2::x3::x4::x5::some v::l) H):aO 6 v (x0::x1::x2::x3::x4::x5::y::l) H Q:=h
theorem Zwz{x0 x1 x2 x3 x4 x5 x6:Option V}{v:V}{l:St}{H:Hp}{Q:VK}(h:Q v H):ak 7 (x0::x1::x2::x3::x4::x5::x6::some v::l) H Q:=⟨v,rfl,h⟩
theorem Zxj{x0 x1 x2 x3 x4 x5 x6:Option V}{y:Option V}{v:V}{l:St}{H:Hp}{Q:ν}(h:Q (x0::x1::x2::x3::x4::x5::x6::some v::l) H):aO 7 v (x0::x1::x2::x3::x4::x5::x6::y::l) H Q:=h
theorem Zwy{x0 x1 x2 x3 x4 x5 x6 x7:Option V}{v:V}{l:St}{H:Hp}{Q:VK}(h:Q v H):ak 8 (x0::x1::x2::x3::x4::x5::x6::x7::some v::l) H Q:=⟨v,rfl,h⟩
theorem Zxi{x0 x1 x2 x3 x4 x5 x6 x7:Option V}{y:Option V}{v:V}{l:St}{H:Hp}{Q:ν}(h:Q (x0::x1::x2::x3::x4::x5::x6::x7::some v::l) H):aO 8 v (x0::x1::x2::x3::x4::x5::x6::x7::y::l) H Q:=h
theorem Zwx{x0 x1 x2 x3 x4 x5 x6 x7 x8:Option V}{v:V}{l:St}{H:Hp}{Q:VK}(h:Q v H):ak 9 (x0::x1::x2::x3::x4::x5::x6::x7::x8::some v::l) H Q:=⟨v,rfl,h⟩
theorem Zxh{x0 x1 x2 x3 x4 x5 x6 x7 x8:Option V}{y:Option V}{v:V}{l:St}{H:Hp}{Q:ν}(h:Q (x0::x1::x2::x3::x4::x5::x6::x7::x8::some v::l) H):aO 9 v (x0::x1::x2::x3::x4::x5::x6::x7::x8::y::l) H Q:=h
theorem Zv2{x0 x1 x2 x3 x4 x5 x6 x7 x8 x9:Option V}{v:V}{l:St}{H:Hp}{Q:VK}(h:Q v H):ak 10 (x0::x1::x2::x3::x4::x5::x6::x7::x8::x9::some v::l) H Q:=⟨v,rfl,h⟩
theorem Zvk{x0 x1 x2 x3 x4 x5 x6 x7 x8 x9:Option V}{y:Option V}{v:V}{l:St}{H:Hp}{Q:ν}(h:Q (x0::x1::x2::x3::x4::x5::x6::x7::x8::x9::some v::l) H):aO 10 v (x0::x1::x2::x3::x4::x5::x6::x7::x8::x9::y::l) H Q:=h
theorem Zv1{x0 x1 x2 x3 x4 x5 x6 x7 x8 x9 x10:Option V}{v:V}{l:St}{H:Hp}{Q:VK}(h:Q v H):ak 11 (x0::x1::x2::x3::x4::x5::x6::x7::x8::x9::x10::some v::l) H Q:=⟨v,rfl,h⟩
theorem Zvj{x0 x1 x2 x3 x4 x5 x6 x7 x8 x9 x10:Option V}{y:Option V}{v:V}{l:St}{H:Hp}{Q:ν}(h:Q (x0::x1::x2::x3::x4::x5::x6::x7::x8::x9::x10::some v::l) H):aO 11 v (x0::x1::x2::x3::x4::x5::x6::x7::x8::x9::x10::y::l) H Q:=h
theorem Zv0{x0 x1 x2 x3 x4 x5 x6 x7 x8 x9 x10 x11:Option V}{v:V}{l:St}{H:Hp}{Q:VK}(h:Q v H):ak 12 (x0::x1::x2::x3::x4::x5::x6::x7::x8::x9::x10::x11::some v::l) H Q:=⟨v,rfl,h⟩
theorem Zvi{x0 x1 x2 x3 x4 x5 x6 x7 x8 x9 x10 x11:Option V}{y:Option V}{v:V}{l:St}{H:Hp}{Q:ν}(h:Q (x0::x1::x2::x3::x4::x5::x6::x7::x8::x9::x10::x11::some v::l) H):aO 12 v (x0::x1::x2::x3::x4::x5::x6::x7::x8::x9::x10::x11::y::l) H Q:=h
theorem aG{H:Hp}{p:AJ}(h:H p=none)(o:HO):bD H (upd H p o):=λb u q=>by rw[aQ (bI q h)];exact q
theorem nwO{H H1:Hp}{a:AJ}{o:HO}(n:H a=none)(h:upd H a o=H1):bD H H1/\H1 a=some o:=by
 subst h;exact⟨aG n o,az⟩
def tyN(H:Hp):V->Option String
 | .non=>some "NoneType"
 | .bl _=>some "bool"
 | .int _=>some "int"
 | .str _=>some "str"
 | .ref a=>match H a with
  | some (.lst _)=>some "list"
  | some (.Y9 _ (.lst _))=>some "list"
  | some (.tup _)=>some "tuple"
  | some (.dK _)=>some "dict"
  | some (.dT _)=>some "dict"
  | _=>none
 | _=>none
def uo(t n:String):Option Bool:=if ["int","bool","str","list","tuple","dict"].contains n then some (t == n || (t == "bool" && n == "int"))else none
def Zbk:List V->Hp->VK->Prop:=λxs H Q=>∃x n t k,xs=[x,.ty n]/\tyN H x=some t/\uo t n=some k/\Q (.bl k) H
theorem JX:uo "int" "int"=some true:=γ
theorem Eh:uo "int" "bool"=some false:=γ
theorem JW:uo "int" "str"=some false:=γ
theorem X6:uo "int" "list"=some false:=γ
theorem Td:uo "int" "tuple"=some false:=γ
theorem X7:uo "int" "dict"=some false:=γ
theorem Yd:uo "bool" "int"=some true:=γ
theorem Tn:uo "bool" "bool"=some true:=γ
theorem Yc:uo "bool" "str"=some false:=γ
theorem Ti:uo "bool" "list"=some false:=γ
theorem QF:uo "bool" "tuple"=some false:=γ
theorem Tj:uo "bool" "dict"=some false:=γ
theorem Zao:uo "str" "int"=some false:=γ
theorem X3:uo "str" "bool"=some false:=γ
theorem JV:uo "str" "str"=some true:=γ
theorem XS:uo "str" "list"=some false:=γ
theorem S7:uo "str" "tuple"=some false:=γ
theorem XX:uo "str" "dict"=some false:=γ
theorem Ik:uo "NoneType" "int"=some false:=γ
theorem Ek:uo "NoneType" "bool"=some false:=γ
theorem Ij:uo "NoneType" "str"=some false:=γ
theorem Ei:uo "NoneType" "list"=some false:=γ
theorem Cm:uo "NoneType" "tuple"=some false:=γ
theorem Ej:uo "NoneType" "dict"=some false:=γ
theorem X5:uo "list" "int"=some false:=γ
theorem Tc:uo "list" "bool"=some false:=γ
theorem X4:uo "list" "str"=some false:=γ
theorem S8:uo "list" "list"=some true:=γ
theorem QC:uo "list" "tuple"=some false:=γ
theorem S9:uo "list" "dict"=some false:=γ
theorem S6:uo "tuple" "int"=some false:=γ
theorem QB:uo "tuple" "bool"=some false:=γ
theorem S5:uo "tuple" "str"=some false:=γ
theorem Qy:uo "tuple" "list"=some false:=γ
theorem Ln:uo "tuple" "tuple"=some true:=γ
theorem Qz:uo "tuple" "dict"=some false:=γ
theorem Yb:uo "dict" "int"=some false:=γ
theorem Th:uo "dict" "bool"=some false:=γ
theorem X8:uo "dict" "str"=some false:=γ
theorem Te:uo "dict" "list"=some false:=γ
theorem QD:uo "dict" "tuple"=some false:=γ
theorem Tf:uo "dict" "dict"=some true:=γ
theorem Ze8{i:Int}{H:Hp}{Q:VK}(h:Q (.bl true) H):Zbk [.int i,.ty "int"] H Q:=⟨_,_,_,_,rfl,rfl,JX,h⟩
theorem Zap{i:Int}{H:Hp}{Q:VK}(h:Q (.bl false) H):Zbk [.int i,.ty "bool"] H Q:=⟨_,_,_,_,rfl,rfl,Eh,h⟩
theorem Ze7{i:Int}{H:Hp}{Q:VK}(h:Q (.bl false) H):Zbk [.int i,.ty "str"] H Q:=⟨_,_,_,_,rfl,rfl,JW,h⟩
theorem Ze6{i:Str}{H:Hp}{Q:VK}(h:Q (.bl true) H):Zbk [.str i,.ty "str"] H Q:=⟨_,_,_,_,rfl,rfl,JV,h⟩
def jg(K:aK):List V->Hp->VK->Prop:=λxs H Q=>∃p ys,xs=[.ref p]/\(cN K H p ys\/ig K H p ys)/\Q (.int ys.length) H
theorem gZ{K:aK}{a:AJ}{H:Hp}{Q:VK}{xs:List V}(hp:cN K H a xs)(h:Q (.int xs.length) H):jg K [.ref a] H Q:=⟨a,xs,rfl,.inl hp,h⟩
def We:List V->Hp->VK->Prop:=λxs H Q=>∃z,xs=[.str z]/\z.length<=sizeLine/\Q (.int z.length) H
theorem Zlq{z:Str}{H:Hp}{Q:VK}(hp:z.length<=sizeLine)(h:Q (.int z.length) H):We [.str z] H Q:=⟨z,rfl,hp,h⟩
theorem cV{K:aK}{a:AJ}{H:Hp}{Q:VK}{xs:List V}{i:Int}{v:V}(hp:cN K H a xs)(hi:CW xs i=some v)(h:Q v H):fM K (.ref a) (.int i) H Q:=⟨a,xs,i,v,rfl,rfl,hp,hi,h⟩
section
variable {K:aK}{a:AJ}{xs:List V}{g:TG}{tb:TS}{σ:St}{H:Hp}{n:ν}{r:VK}
theorem forL(xs:List V)(Pv:Nat->ν)(h0:Pv 0 σ H)(hl:∀i σ H,i<=xs.length->Pv i σ H->cN K H a xs)
  (hs:∀i x σ H,xs[i]? =some x->Pv i σ H->g x σ H λσ2 H2=>tb ⟨Pv (i+1),r,n,Pv (i+1)⟩ σ2 H2) (hd:∀ σ H,Pv xs.length σ H->n σ H):
  ∃W:Nat->Nat->ν,(∃m,W 0 m σ H)/\∀i m σ H,W i m σ H->
   ((Itl K a).stop i H/\n σ H)\/((Itl K a).go i H/\∃N:ν,(∀ σ' H',N σ' H'->∃m',m'<m/\W (i+1) m' σ' H')/\∀x H',(Itl K a).yld i H x H'->g x σ H' λσ2 H2=>tb ⟨N,r,n,N⟩ σ2 H2):=
 Zma (D:=⟨n,r,λ_ _=>False,λ_ _=>False⟩) Pv h0 hl hs hd
theorem forR{lo:Int}{k:Nat}(Pv:Nat->ν)(h0:Pv 0 σ H)
  (hs:∀i σ H,i<k->Pv i σ H->g (.int (lo+i)) σ H λσ2 H2=>tb ⟨Pv (i+1),r,n,Pv (i+1)⟩ σ2 H2) (hd:∀ σ H,Pv k σ H->n σ H):
  ∃W:Nat->Nat->ν,(∃m,W 0 m σ H)/\∀i m σ H,W i m σ H->
   ((Itr lo k).stop i H/\n σ H)\/((Itr lo k).go i H/\∃N:ν,(∀ σ' H',N σ' H'->∃m',m'<m/\W (i+1) m' σ' H')/\∀x H',(Itr lo k).yld i H x H'->g x σ H' λσ2 H2=>tb ⟨N,r,n,N⟩ σ2 H2):=
 Zi7 (D:=⟨n,r,λ_ _=>False,λ_ _=>False⟩) Pv h0 hs hd
end
theorem cB{n:Nat}(h:n<=1000000):n<=sizeLine:=Nat.le_trans h ε
def dN:R2:=λx y H Q=>∃i j,x=.str i/\y=.str j/\i.length+j.length<=sizeLine/\Q (.str (i++j)) H
theorem dh{i j:Str}{H:Hp}{Q:VK}(hz:i.length+j.length<=sizeLine)(h:Q (.str (i++j)) H):dN (.str i) (.str j) H Q:=⟨i,j,rfl,rfl,hz,h⟩
theorem VL{z:Str}{i:Int}{c:Nat}{H:Hp}{Q:VK}(hz:z.length<=sizeLine)(hi:CW z.cps.toList i=some c)(h:Q (.str ⟨#[c]⟩) H):Zda (.str z) (.int i) H Q:=⟨z,i,c,rfl,rfl,hz,hi,h⟩
def ue(z:Str)(lo hi:AB):Str:=⟨((z.cps.toList.drop (HT.fO z.length 0 lo)).take (HT.fO z.length z.length hi - HT.fO z.length 0 lo)).toArray⟩
theorem J4(z:Str)(lo hi:AB):(ue z lo hi).length<=z.length:=by
 show(List.toArray _).size<=z.cps.size;rw[List.size_toArray,List.length_take,List.length_drop,Array.length_toList];omega
def W3:V->AB->AB->Hp->VK->Prop:=λx lo hi H Q=>∃z,x=.str z/\z.length<=sizeLine/\Q (.str (ue z lo hi)) H
theorem Zv5{z:Str}{lo hi:AB}{H:Hp}{Q:VK}(hz:z.length<=sizeLine)(h:Q (.str (ue z lo hi)) H):W3 (.str z) lo hi H Q:=⟨z,rfl,hz,h⟩
def Znu:R2:=λx y H Q=>∃c j,x=.str ⟨#[c]⟩/\y=.str j/\Q (.bl (decide (c∈j.cps.toList))) H
theorem Zvf{c:Nat}{j:Str}{H:Hp}{Q:VK}(h:Q (.bl (decide (c∈j.cps.toList))) H):Znu (.str ⟨#[c]⟩) (.str j) H Q:=⟨c,j,rfl,rfl,h⟩
theorem Zv3{K:aK}{z:Str}{H:Hp}{A:Prop}(h:A):tyV K "str" (.str z) H/\A:=⟨rfl,h⟩
def Its(z:Str):It:=⟨λi _=>i<z.length,λi H x H'=>H'=H/\∃c,z.cps.toList[i]? =some c/\x=.str ⟨#[c]⟩,λi _=>z.length<=i⟩
def Ztd(te:TE):TI:=λσ H R=>te σ H λx H1=>∃z,x=.str z/\R (Its z) H1
theorem str_len(z:Str):z.cps.toList.length=z.length:=Array.length_toList
def pick(σ:St)(j:Nat):Option V:=match σ[j]? with
 | some v=>v
 | none=>none
def tLC(wi:TI)(caps:List Nat)(tc:TT)(te:TE):TE:=λσ H Q=>wi σ H λJ H1=>∃W:Nat->Nat->List V->Hp->Prop,(∃m,W 0 m [] H1)/\∀i m ys H,W i m ys H->
 (J.stop i H/\∀p,H p=none->Q (.ref p) (upd H p (.lst ys)))\/
 (J.go i H/\ys.length<sizeLine/\∀x H',J.yld i H x H'->tc (some x::caps.map (pick σ)) H' λk H2=>if k=true then te (some x::caps.map (pick σ)) H2 (λy H3=>∃m',m'<m/\W (i+1) m' (ys++[y]) H3)else ∃m',m'<m/\W (i+1) m' ys H2)
def oO:TT:=λ_ H Q=>Q true H
theorem Yg{σ:St}{H:Hp}{Q:Bool->Hp->Prop}(h:Q true H):oO σ H Q:=h
theorem lcS{z:Str}{caps:List Nat}{te:TE}{σ:St}{H:Hp}{Q:VK}(f:Nat->V)(hz:z.length<sizeLine)
  (hel:∀(c:Nat) (k:VK),k (f c) H->te (some (.str ⟨#[c]⟩)::caps.map (pick σ)) H k) (q:∀p,H p=none->Q (.ref p) (upd H p (.lst (z.cps.toList.map f)))):
  ∃W:Nat->Nat->List V->Hp->Prop,(∃m,W 0 m [] H)/\∀i m ys H,W i m ys H->
 ((Its z).stop i H/\∀p,H p=none->Q (.ref p) (upd H p (.lst ys)))\/
 ((Its z).go i H/\ys.length<sizeLine/\∀x H',(Its z).yld i H x H'->oO (some x::caps.map (pick σ)) H' λk H2=>if k=true then te (some x::caps.map (pick σ)) H2 (λy H3=>∃m',m'<m/\W (i+1) m' (ys++[y]) H3)else ∃m',m'<m/\W (i+1) m' ys H2):=by
 refine⟨λi m ys H1=>m=z.length - i/\i<=z.length/\ys=(z.cps.toList.take i).map f/\H1=H,⟨z.length,ζ,Nat.zero_le _,rfl,rfl⟩,?_⟩;rintro i m ys H1 ⟨rfl,hi,rfl,rfl⟩
 by_cases hlt:i<z.length
 ·refine .inr ⟨hlt,?_,λx H' y=>?_⟩
  ·rw[bF,List.length_take,str_len];omega
  ·obtain⟨e,c,hc,rfl⟩:=y;subst e;refine Yg ?_;refine Im ?_;refine hel c _ ⟨z.length - (i+1),δ,rfl,hlt,?_,rfl⟩;rw[List.take_add_one,hc,List.map_append];rfl
 ·have e:i=z.length:=δ
  subst e;refine .inl ⟨Nat.le_refl _,λp hp=>?_⟩;rw[<- str_len,List.take_length];exact q p hp
theorem Zve{ti:TE}{z:Str}{caps:List Nat}{te:TE}{σ:St}{H:Hp}{Q:VK}(f:Nat->V)(hti:∀k:VK,k (.str z) H->ti σ H k)(hz:z.length<sizeLine)
  (hel:∀(c:Nat) (k:VK),k (f c) H->te (some (.str ⟨#[c]⟩)::caps.map (pick σ)) H k) (q:∀p,H p=none->Q (.ref p) (upd H p (.lst (z.cps.toList.map f)))):tLC (Ztd ti) caps oO te σ H Q:=
 hti _ ⟨z,rfl,lcS f hz hel q⟩
def Ztz(K:aK):List V->Hp->VK->Prop:=λxs H Q=>∃(p:AJ) (bs:List Bool),xs=[.ref p]/\cN K H p (bs.map V.bl)/\Q (.bl (bs.all id)) H
theorem Zvu{K:aK}{p:AJ}{bs:List Bool}{H:Hp}{Q:VK}(hp:cN K H p (bs.map V.bl))(h:Q (.bl (bs.all id)) H):Ztz K [.ref p] H Q:=⟨p,bs,rfl,hp,h⟩
theorem Zp7{r r':R2}{ta tb tc:TE}{σ:St}{H:Hp}{Q:VK}(h:ta σ H λx H1=>tb σ H1 λy H2=>r x y H2 (kB λk H3=>if k=true then tc σ H3 (λw H4=>r' y w H4 Q)else Q (.bl false) H3)):Zck r r' ta tb tc σ H Q:=h
def lQ(i j:Int):Prop:=Zn5 i j\/(i.natAbs<2 ^ 256/\j.natAbs<2 ^ 256)
def xH:List V->Hp->VK->Prop:=λxs H Q=>∃i:Int,xs=[.int i]/\i.natAbs.log2<1920/\Q (.str (Str.ofString (toString i))) H
def Yw(l:List Nat):Int:=l.foldl (λ(v:Int) (c:Nat)=>v * 10+((c:Int) - 48)) 0
def Zgm:List V->Hp->VK->Prop:=λxs H Q=>∃z:Str,xs=[.str z]/\1<=z.length/\z.length<=640/\(∀c∈z.cps.toList,48<=c/\c<=57)/\Q (.int (Yw z.cps.toList)) H
theorem Zt5{z:Str}{H:Hp}{Q:VK}(h1:1<=z.length)(h2:z.length<=640)(h3:∀c∈z.cps.toList,48<=c/\c<=57)(h:Q (.int (Yw z.cps.toList)) H):Zgm [.str z] H Q:=⟨z,rfl,h1,h2,h3,h⟩
def ZZ(z:Str)(n:Int):Str:=⟨(List.replicate n.toNat z.cps.toList).flatten.toArray⟩
def Zjw:R2:=λx y H Q=>∃z k,x=.str z/\y=.int k/\0<=k/\k<=1000/\z.length<=1000/\∀t:Str,t.length<=1000000->t=ZZ z k->Q (.str t) H
theorem Zsv{z:Str}{k:Int}{H:Hp}{Q:VK}(h0:0<=k)(h1:k<=1000)(h2:z.length<=1000)(h:∀t:Str,t.length<=1000000->t=ZZ z k->Q (.str t) H):Zjw (.str z) (.int k) H Q:=⟨z,k,rfl,rfl,h0,h1,h2,h⟩
def rP:V->List V->Hp->VK->Prop:=λx xs H Q=>∃z c,x=.str z/\xs=[.str ⟨#[c]⟩]/\Q (.bl (decide (z.cps.toList[0]? =some c))) H
theorem Zlm{z:Str}{c:Nat}{H:Hp}{Q:VK}(h:Q (.bl (decide (z.cps.toList[0]? =some c))) H):rP (.str z) [.str ⟨#[c]⟩] H Q:=⟨z,c,rfl,rfl,h⟩
def Zw9:List V->Hp->VK->Prop:=λxs H Q=>∃i j,xs=[.int i,.int j]/\Q (.int (if j > i then j else i)) H
theorem Zvb{i j:Int}{H:Hp}{Q:VK}(h:Q (.int (if j > i then j else i)) H):Zw9 [.int i,.int j] H Q:=⟨i,j,rfl,h⟩
theorem Zot{i:Int}(h0:0<=i)(h1:i<10 ^ 61):i.natAbs.log2<1920:=by
 have e:i.natAbs<10 ^ 61:=by
  have:(i.natAbs:Int)<10 ^ 61:=δ
  exact_mod_cast this
 by_cases h:i.natAbs=0
 ·rw[h];decide
 ·have e1:(10:Nat) ^ 61<=2 ^ 256:=ε
  have e2:(2:Nat) ^ 256<=2 ^ 1920:=Nat.pow_le_pow_right ε ε;exact(Nat.log2_lt h).mpr (Nat.lt_of_lt_of_le e (Nat.le_trans e1 e2))
theorem Zrj:("0":Str)=⟨#[48]⟩:=γ
theorem Zrk:("-":Str)=⟨#[45]⟩:=γ
theorem Zjo:(("0123456789":Str)).cps.toList=[48,49,50,51,52,53,54,55,56,57]:=γ
theorem VJ{c:Nat}:c∈(("0123456789":Str)).cps.toList↔48<=c/\c<=57:=by
 rw[Zjo];simp only[List.mem_cons,List.not_mem_nil,or_false];omega
structure EqD(K:aK)(C:AJ):Prop where
 eq:W.findIn K (.ref C) "__eq__"=some (some (.builtin "object.__eq__"))
 ob:W.mroIn K C (.type "object")=some true
def fD(a:AJ)(cls:AK)(d:Option AJ):HO:=.ext λh=>∃o vs,h.get? a=some o/\o.cls=cls/\o.data=.fields vs/\o.dict=d
def Wt(sp:Sp)(vA:List V)(E:St->XK)(t:TA):TE:=λσ H Q=>t σ H λvs H1=>sp (vs++vA) H1 Q (E σ)
def Zcf(Mt:AK->Prop)(i:Nat)(tb:(St->XK)->TS)(th:TS):TS:=λD σ H=>
 tb (λσ' cls dx H'=>Mt cls/\∀ea,H' ea=none->th ⟨λσ2 H2=>D.nx ac H2,D.rt,λσ2 H2=>D.bk ac H2,λσ2 H2=>D.ct ac H2⟩ (σ'.set i (↑ea)) (upd H' ea (fD ea cls dx))) D σ H
section
variable {σ:St}{H:Hp}{Q:VK}{n:ν}{r:VK}{b c:ν}{te:TE}{t:TA}
theorem Zp8{sp:Sp}{vA:List V}{E:St->XK}(h:t σ H λvs H1=>sp (vs++vA) H1 Q (E σ)):Wt sp vA E t σ H Q:=h
theorem Zp1{Mt:AK->Prop}{i:Nat}{tb:(St->XK)->TS}{th:TS}(h:tb (λσ' cls dx H'=>Mt cls/\∀ea,H' ea=none->th ⟨λσ2 H2=>n ac H2,r,λσ2 H2=>b ac H2,λσ2 H2=>c ac H2⟩ (σ'.set i (↑ea)) (upd H' ea (fD ea cls dx))) ⟨n,r,b,c⟩ σ H):
  Zcf Mt i tb th ⟨n,r,b,c⟩ σ H:=h
end
theorem Zt6{to ti:TE}{ts:Zq3}{x:V}{σ:St}{H:Hp}{Q:ν}(h:to σ H λo H1=>ti σ H1 λi H2=>ts o i x H2 λH3=>Q σ H3):Jg to ti ts x σ H Q:=h
def rH(Cs:AG)(vm:AK->AK->Option Bool):List V->Hp->VK->Prop:=λxs H Q=>∃a c C k,(∃v,xs=[.ref a,v]/\RelV v c)/\C∈Cs/\(∃d,H a=some (fD a (.ref C) d))/\vm (.ref C) c=some k/\Q (.bl k) H
def YF(K:aK):List V->Hp->VK->Prop:=λxs H Q=>∃(p:AJ) (ys:List V),xs=[.ref p]/\cN K H p ys/\∀l,H l=none->Q (.ref l) (upd H l (.lst ys))
theorem Zg3{K:aK}{H:Hp}{Q:VK}{p:AJ}{ys:List V}(h1:cN K H p ys)(h:∀l,H l=none->Q (.ref l) (upd H l (.lst ys))):YF K [.ref p] H Q:=⟨p,ys,rfl,h1,h⟩
def eqL(xs ys:List V):Bool:=xs.length == ys.length && (xs.zip ys).all λp=>eqV p.1 p.2
def Zue(K:aK)(neg:Bool):R2:=λx y H Q=>∃p q xs ys,x=.ref p/\y=.ref q/\cN K H p xs/\cN K H q ys/\(xs.length=ys.length->xs.all jE=true/\ys.all jE=true)/\Q (.bl (if neg then !eqL xs ys else eqL xs ys)) H
def fz(S:AG)(H:Hp):Hp:=λb=>if b∈S then none else H b
def LCg(J:It)(caps:List Nat)(tc:TT)(te:TE)(σ:St)(H:Hp)(Q:VK):Prop:=∃W:Nat->Nat->List V->Hp->Prop,(∃m,W 0 m [] H)/\∀i m ys H,W i m ys H->
 (J.stop i H/\∀p,H p=none->Q (.ref p) (upd H p (.lst ys)))\/
 (J.go i H/\ys.length<sizeLine/\∀x H',J.yld i H x H'->tc (some x::caps.map (pick σ)) H' λk H2=>if k=true then te (some x::caps.map (pick σ)) H2 (λy H3=>∃m',m'<m/\W (i+1) m' (ys++[y]) H3)else ∃m',m'<m/\W (i+1) m' ys H2)
theorem Zvd{wi:TI}{caps:List Nat}{tc:TT}{te:TE}{σ:St}{H:Hp}{Q:VK}(h:wi σ H λJ H1=>LCg J caps tc te σ H1 Q):tLC wi caps tc te σ H Q:=h
theorem Zsg{J:It}{caps:List Nat}{tc:TT}{te:TE}{σ:St}{H:Hp}{Q:VK}(k:Nat)(hz:k<=1000000)(g:Nat->Option V)
  (hstop:J.stop k H) (hgo:∀i,i<k->J.go i H) (hy:∀i x H',i<k->J.yld i H x H'->H'=H/\(∀q:Bool->Hp->Prop,q (g i).isSome H->tc (some x::caps.map (pick σ)) H q)/\∀(y:V) (q:VK),g i=some y->q y H->te (some x::caps.map (pick σ)) H q)
  (q:∀p,H p=none->Q (.ref p) (upd H p (.lst ((List.range k).filterMap g)))):
  LCg J caps tc te σ H Q:=by
 refine⟨λi m ys H'=>H'=H/\i<=k/\m=k - i/\ys=(List.range i).filterMap g,⟨k,rfl,Nat.zero_le _,rfl,rfl⟩,?_⟩;rintro i m ys _ ⟨rfl,hi,rfl,rfl⟩
 by_cases hk:i=k
 ·subst hk;exact .inl ⟨hstop,q⟩
 ·have hlt:i<k:=δ
  refine .inr ⟨hgo i hlt,?_,λx H' y=>?_⟩
  ·refine Nat.lt_of_le_of_lt (Nat.le_trans (List.length_filterMap_le _ _) ?_) (show 1000000<sizeLine by decide);rw[List.length_range];omega
  ·obtain⟨rfl,h1,h2⟩:=hy i x H' hlt y;refine h1 _ ?_;have er:List.filterMap g (List.range (i+1))=List.filterMap g (List.range i)++(match g i with | some y=>[y] | none=>[]):=by
    rw[List.range_succ,List.filterMap_append];cases e:g i with
    | none=>rw[List.filterMap_cons_none e];rfl
    | some y=>rw[List.filterMap_cons_some e];rfl
   cases e:g i with
   | none=>
    rw[e]at er;dsimp only[Option.isSome];refine Zsn ⟨k - (i+1),δ,rfl,δ,rfl,?_⟩;rw[er,List.append_nil]
   | some y=>
    rw[e]at er;dsimp only[Option.isSome];refine Zlf (h2 y _ e ⟨k - (i+1),δ,rfl,δ,rfl,?_⟩);rw[er]
theorem Zfw{K:aK}{a:AJ}{xs:List V}{caps:List Nat}{tc:TT}{te:TE}{σ:St}{H:Hp}{Q:VK}(hs:cN K H a xs)(g:Nat->Option V)(hz:xs.length<=1000000)
  (hy:∀i x,xs[i]? =some x->(∀q:Bool->Hp->Prop,q (g i).isSome H->tc (some x::caps.map (pick σ)) H q)/\∀(y:V) (q:VK),g i=some y->q y H->te (some x::caps.map (pick σ)) H q)
  (q:∀p,H p=none->Q (.ref p) (upd H p (.lst ((List.range xs.length).filterMap g)))):
  LCg (Itl K a) caps tc te σ H Q:=by
 refine Zsg xs.length hz g ⟨xs,hs,Nat.le_refl _⟩ (λi hi=>⟨xs,xs[i],hs,dF hi⟩) (λi x H' hi y=>?_) q;obtain⟨e1,e2⟩:=y;exact⟨e1,hy i x (e2 xs hs)⟩
theorem wM{n i:Nat}(h:i<n):ixN n (i:Int)=some i:=by
 unfold ixN;rw[if_pos δ,if_pos δ];simp
theorem bT{α:Type}{xs:List α}{i:Int}{v:α}(h0:0<=i)(h:xs[i.toNat]? =some v):CW xs i=some v:=by
 have e:i=((i.toNat:Nat):Int):=δ
 have:=pN h;rw[<- e]at this;exact this
inductive Al{α β:Type}(P:α->β->Prop):List α->List β->Prop
 | nil:Al P [] []
 | cons {x:α}{y:β}{xs:List α}{ys:List β}:P x y->Al P xs ys->Al P (x::xs) (y::ys)
section
variable {α β:Type}{P P':α->β->Prop}{xs:List α}{ys:List β}
theorem Al.length(h:Al P xs ys):xs.length=ys.length:=by
 induction h with
 | nil=>rfl
 | cons _ _ ih=>rw[List.length_cons,List.length_cons,ih]
theorem Al.get(h:Al P xs ys):∀{i:Nat}{y:β},ys[i]? =some y->∃x,xs[i]? =some x/\P x y:=by
 induction h with
 | nil=>intro i y e;simp at e
 | cons p _ ih=>
  intro i y e;cases i with
  | zero=>simp at e;subst e;exact⟨_,rfl,p⟩
  | succ i=>
   obtain⟨x,e1,e2⟩:=ih (i:=i) (y:=y) (by simpa using e);exact⟨x,by simpa using e1,e2⟩
end
abbrev Tg:=AJ->Nat×Nat
def WT(H:Hp)(T:Tg):Prop:=∀b,H b=none->T b=(0,0)
structure Stp(s:Nat)(H H':Hp)(T T':Tg):Prop where
 kp:∀b o,H b=some o->(T b).1≠s->H' b=some o
 al:∀b o,H b=some o->∃o',H' b=some o'
 tg:∀b o,H b=some o->T' b=T b
 wt:WT H' T'
end G
namespace G
open PySem L2 PySem.Spec PyProof.Rows
theorem boot_isinstance:bootBuiltins "isinstance"=some (.builtin "isinstance"):=γ
theorem boot_len:bootBuiltins "len"=some (.builtin "len"):=γ
theorem boot_all:bootBuiltins "all"=some (.builtin "all"):=γ
theorem boot_max:bootBuiltins "max"=some (.builtin "max"):=γ
theorem boot_int:bootBuiltins "int"=some (.type "int"):=γ
theorem boot_str:bootBuiltins "str"=some (.type "str"):=γ
theorem boot_bool:bootBuiltins "bool"=some (.type "bool"):=γ
theorem boot_list:bootBuiltins "list"=some (.type "list"):=γ
theorem boot_tuple:bootBuiltins "tuple"=some (.type "tuple"):=γ
structure Zu8(K:aK)(x qual:Str)(st:Stmt)(f:AJ)(fd:AM):Prop where
 ex:∃(oc:AK) (od:Option AJ) (dV kV doc pm:AK) (an:Option AJ) (cdv ct:AK) (osl:Array AC),
  fd=W.fnOf x qual (lA st) (je st) (aR st) dV kV doc pm an cdv ct/\K.lookup f=some ⟨oc,od,.func fd,osl⟩/\W.codeIn K cdv qual=true
 kp:W.keepIn K (.ref f)=true
section
variable {P:AN}{w:AQ}{K:aK}{mg:As}{base:Heap}
theorem Zpe{x qual:Str}{st:Stmt}{f:AJ}{oc dV:AK}{od an:Option AJ}{osl:Array AC}{kV doc pm cdv ct:AK}(l:K.lookup f=some ⟨oc,od,.func (W.fnOf x qual (lA st) (je st) (aR st) dV kV doc pm an cdv ct),osl⟩)
  (c:W.codeIn K cdv qual=true) (k:W.keepIn K (.ref f)=true):Zu8 K x qual st f (W.fnOf x qual (lA st) (je st) (aR st) dV kV doc pm an cdv ct):=⟨⟨oc,od,dV,kV,doc,pm,an,cdv,ct,osl,rfl,l,c⟩,k⟩
theorem Zmy{f td:AJ}{oc tc:AK}{od to_:Option AJ}{osl ts:Array AC}{fd:AM}{items:Array AK}{tn:Nat}{ps:AI}{ds:AE}(_:K.lookup f=some ⟨oc,od,.func fd,osl⟩)(t:K.lookup td=some ⟨tc,to_,.seq items tn,ts⟩)
  (h:∀us:AE,us.length+ds.length=ps.length->∃k,bindArgs fd ⟨us,[]⟩=seqItems? (.ref td) >>= k/\k (some items)=pure (ps.zip (us++ds))) (hd:fd.defaults=.ref td:=by rfl):Binds K fd ps ds:=by
 intro s us KX hl;obtain⟨k,h1,h2⟩:=h us (by rw[List.length_append]at hl;exact hl);exact BindsTo.of_defaults hd (KX _ _ t) rfl (by rw[h1,hd]) h2
end
section
variable {X:Cx}
theorem zG:wZ X (compareOp .Is) R4:=Zrw
theorem Zkg:wZ X (compareOp .IsNot) Z1:=Zoe
theorem cR:oR X (.builtin "len") (jg X.K):=YD
theorem Wd:oR X (.builtin "len") We:=YC
def kk(t n:String):Option Bool:=if (Value.type t == Value.type n)=true then some true else if W.kitMeta n=true then(fastBuiltinMro t).map (·.contains (.type n))else none
theorem Zsi(K:aK)(t n:String):W.kitOne K (.type t) (.type n)=kk t n:=rfl
theorem Ze1:kk "int" "int"=some true:=γ
theorem Zah:kk "int" "bool"=some false:=γ
theorem Ze0:kk "int" "str"=some false:=γ
theorem Zaf:kk "int" "list"=some false:=γ
theorem XC:kk "int" "tuple"=some false:=γ
theorem Zag:kk "int" "dict"=some false:=γ
theorem Zal:kk "bool" "int"=some true:=γ
theorem XN:kk "bool" "bool"=some true:=γ
theorem Zak:kk "bool" "str"=some false:=γ
theorem XJ:kk "bool" "list"=some false:=γ
theorem SX:kk "bool" "tuple"=some false:=γ
theorem XM:kk "bool" "dict"=some false:=γ
theorem Zdz:kk "str" "int"=some false:=γ
theorem Zac:kk "str" "bool"=some false:=γ
theorem Zdy:kk "str" "str"=some true:=γ
theorem Zaa:kk "str" "list"=some false:=γ
theorem Xw:kk "str" "tuple"=some false:=γ
theorem Zab:kk "str" "dict"=some false:=γ
theorem Li:kk "NoneType" "int"=some false:=γ
theorem Ig:kk "NoneType" "bool"=some false:=γ
theorem Lh:kk "NoneType" "str"=some false:=γ
theorem Ib:kk "NoneType" "list"=some false:=γ
theorem Eg:kk "NoneType" "tuple"=some false:=γ
theorem Ie:kk "NoneType" "dict"=some false:=γ
theorem Zae:kk "list" "int"=some false:=γ
theorem Xz:kk "list" "bool"=some false:=γ
theorem Zad:kk "list" "str"=some false:=γ
theorem Xx:kk "list" "list"=some true:=γ
theorem SN:kk "list" "tuple"=some false:=γ
theorem Xy:kk "list" "dict"=some false:=γ
theorem Xv:kk "tuple" "int"=some false:=γ
theorem SM:kk "tuple" "bool"=some false:=γ
theorem Xu:kk "tuple" "str"=some false:=γ
theorem Sy:kk "tuple" "list"=some false:=γ
theorem Qv:kk "tuple" "tuple"=some true:=γ
theorem SJ:kk "tuple" "dict"=some false:=γ
theorem Zaj:kk "dict" "int"=some false:=γ
theorem XH:kk "dict" "bool"=some false:=γ
theorem Zai:kk "dict" "str"=some false:=γ
theorem XD:kk "dict" "list"=some false:=γ
theorem SQ:kk "dict" "tuple"=some false:=γ
theorem XF:kk "dict" "dict"=some true:=γ
theorem Zr7{H:Hp}{x:V}{t:String}(e:tyN H x=some t):t="int"\/t="bool"\/t="str"\/t="NoneType"\/t="list"\/t="tuple"\/t="dict":=by
 unfold tyN at e;split at e<;>(first | (cases e;simp) | (split at e<;>(first | (cases e;simp) | cases e)) | cases e)
theorem Zso{t n:String}{k:Bool}(e:uo t n=some k):n="int"\/n="bool"\/n="str"\/n="list"\/n="tuple"\/n="dict":=by
 unfold uo at e
 by_cases h:(["int","bool","str","list","tuple","dict"].contains n)=true
 ·simpa using h
 ·rw[if_neg h]at e;cases e
theorem Zuu{H:Hp}{x:V}{t n:String}{k:Bool}(ht:tyN H x=some t)(e:uo t n=some k):kk t n=some k:=by
 rcases Zr7 ht with rfl | rfl | rfl | rfl | rfl | rfl | rfl<;>rcases Zso e with rfl | rfl | rfl | rfl | rfl | rfl
 ·rw[JX]at e;rw[Ze1];exact e
 ·rw[Eh]at e;rw[Zah];exact e
 ·rw[JW]at e;rw[Ze0];exact e
 ·rw[X6]at e;rw[Zaf];exact e
 ·rw[Td]at e;rw[XC];exact e
 ·rw[X7]at e;rw[Zag];exact e
 ·rw[Yd]at e;rw[Zal];exact e
 ·rw[Tn]at e;rw[XN];exact e
 ·rw[Yc]at e;rw[Zak];exact e
 ·rw[Ti]at e;rw[XJ];exact e
 ·rw[QF]at e;rw[SX];exact e
 ·rw[Tj]at e;rw[XM];exact e
 ·rw[Zao]at e;rw[Zdz];exact e
 ·rw[X3]at e;rw[Zac];exact e
 ·rw[JV]at e;rw[Zdy];exact e
 ·rw[XS]at e;rw[Zaa];exact e
 ·rw[S7]at e;rw[Xw];exact e
 ·rw[XX]at e;rw[Zab];exact e
 ·rw[Ik]at e;rw[Li];exact e
 ·rw[Ek]at e;rw[Ig];exact e
 ·rw[Ij]at e;rw[Lh];exact e
 ·rw[Ei]at e;rw[Ib];exact e
 ·rw[Cm]at e;rw[Eg];exact e
 ·rw[Ej]at e;rw[Ie];exact e
 ·rw[X5]at e;rw[Zae];exact e
 ·rw[Tc]at e;rw[Xz];exact e
 ·rw[X4]at e;rw[Zad];exact e
 ·rw[S8]at e;rw[Xx];exact e
 ·rw[QC]at e;rw[SN];exact e
 ·rw[S9]at e;rw[Xy];exact e
 ·rw[S6]at e;rw[Xv];exact e
 ·rw[QB]at e;rw[SM];exact e
 ·rw[S5]at e;rw[Xu];exact e
 ·rw[Qy]at e;rw[Sy];exact e
 ·rw[Ln]at e;rw[Qv];exact e
 ·rw[Qz]at e;rw[SJ];exact e
 ·rw[Yb]at e;rw[Zaj];exact e
 ·rw[Th]at e;rw[XH];exact e
 ·rw[X8]at e;rw[Zai];exact e
 ·rw[Te]at e;rw[XD];exact e
 ·rw[QD]at e;rw[SQ];exact e
 ·rw[Tf]at e;rw[XF];exact e
theorem tyOf{K:aK}{H:Hp}{x:V}{t:String}(e:tyN H x=some t):Ju K H x (.type t):=by
 cases x with
 | non=>cases e;exact .non
 | bl y=>cases e;exact .bl y
 | int y=>cases e;exact .int y
 | str y=>cases e;exact .str y
 | byt y=>cases e
 | flt y=>cases e
 | ty y=>cases e
 | ref a=>
  have e':(match H a with | some (.lst _)=>some "list" | some (.Y9 _ (.lst _))=>some "list" | some (.tup _)=>some "tuple" | some (.dK _)=>some "dict" | some (.dT _)=>some "dict" | _=>none)=some t:=e;split at e'
  ·rename_i h;cases e';exact .lst h
  ·rename_i h;cases e';exact .Y9 h
  ·rename_i h;cases e';exact .tup h
  ·rename_i h;cases e';exact .dK h
  ·rename_i h;cases e';exact .dT h
  ·cases e'
theorem Q8:oR X (.builtin "isinstance") Zbk:=by
 intro pins s σ H xs us Q I r h;obtain⟨x,n,t,k,rfl,ht,hk,q⟩:=h;obtain⟨u,w',rfl,rx,rn⟩:=vals2 r;have rn':w'=Value.type n:=rn;subst rn';exact Zhs (t:=.type t) (b:=k) I rx (tyOf ht) ((Zsi _ _ _).trans (Zuu ht hk)) λtk=>⟨.bl k,H,I.tok _,rfl,q⟩
end
theorem sub_one{x:Str}{c i:Nat}:Builtin.Str.subAt x ⟨#[c]⟩ i=true↔x.cps.toList[i]? =some c:=by
 rw[StrLaws.subAt_eq,beq_iff_eq];show(x.cps.toList.drop i).take 1=[c]↔_;cases e:x.cps.toList.drop i with
 | nil=>
  have:x.cps.toList[i]? =none:=by
   rw[List.getElem?_eq_none_iff];exact List.drop_eq_nil_iff.mp e
  rw[this];simp
 | cons d r=>
  have:x.cps.toList[i]? =some d:=by
   have h0:(x.cps.toList.drop i)[0]? =some d:=by rw[e];rfl
   rw[List.getElem?_drop]at h0;simpa using h0
  rw[this];simp
section
variable {X:Cx}
theorem Zrx:wZ X (compareOp .In) Znu:=by
 intro pins s σ H x y v u Q I rx ry h;obtain⟨c,j,rfl,rfl,q⟩:=h;exact Zhm pins s σ H _ _ v u Q I rx ry ⟨_,_,rfl,rfl,by rw[StrLaws.found_one];exact q⟩
theorem Fe(n:Nat)(o:AB)(d:Nat)(v:Int)(h:o=some v):max (0:Int) (min (if v<0 then v+n else v) n)=((HT.fO n d o:Nat):Int):=by
 subst h;show _=(((if v<0 then(v+(n:Int)).toNat else min v.toNat n:Nat)):Int);split<;>omega
theorem Vj(lo hi:AB)(n:Nat):Builtin.Str.strSliceIndices lo hi 1 n=Builtin.Str.strSliceIndices (some ((HT.fO n 0 lo:Nat):Int)) (some ((HT.fO n n hi:Nat):Int)) 1 n:=by
 have a1:=HT.tH n 0 (Nat.zero_le _) lo;have a2:=HT.tH n n χ hi;have e1:max (0:Int) (min (if ((HT.fO n 0 lo:Nat):Int)<0 then((HT.fO n 0 lo:Nat):Int)+n else((HT.fO n 0 lo:Nat):Int)) n)=((HT.fO n 0 lo:Nat):Int):=by
  rw[if_neg δ];omega
 have e2:max (0:Int) (min (if ((HT.fO n n hi:Nat):Int)<0 then((HT.fO n n hi:Nat):Int)+n else((HT.fO n n hi:Nat):Int)) n)=((HT.fO n n hi:Nat):Int):=by
  rw[if_neg δ];omega
 simp only[Builtin.Str.strSliceIndices,show((1:Int) > 0)=True from ζ,if_true];rw[e1,e2];cases lo with
 | none=>
  cases hi with
  | none=>rfl
  | some j=>dsimp only;rw[Fe n (some j) n j rfl];rfl
 | some i=>
  cases hi with
  | none=>dsimp only;rw[Fe n (some i) 0 i rfl];rfl
  | some j=>dsimp only;rw[Fe n (some j) n j rfl,Fe n (some i) 0 i rfl]
theorem Zhe(z:Str)(lo hi:AB):(Builtin.Str.strSliceIndices lo hi 1 z.length).filterMap (z.cps[·]?)=(z.cps.toList.drop (HT.fO z.length 0 lo)).take (HT.fO z.length z.length hi - HT.fO z.length 0 lo):=by
 rw[Vj]
 by_cases h:HT.fO z.length 0 lo<=HT.fO z.length z.length hi
 ·exact StrLaws.sliced_plain z h (HT.tH _ _ χ _)
 ·have e:HT.fO z.length z.length hi - HT.fO z.length 0 lo=0:=δ
  rw[e,List.take_zero];have e2:Builtin.Str.strSliceIndices (some ((HT.fO z.length 0 lo:Nat):Int)) (some ((HT.fO z.length z.length hi:Nat):Int)) 1 z.length=[]:=by
   have a1:=HT.tH z.length 0 (Nat.zero_le _) lo;have a2:=HT.tH z.length z.length χ hi;simp only[Builtin.Str.strSliceIndices,sliceRange,show((1:Int) > 0)=True from ζ,if_true];rw[if_neg (by omega:¬ ((HT.fO z.length 0 lo:Nat):Int)<0),if_neg (by omega:¬ ((HT.fO z.length z.length hi:Nat):Int)<0),if_neg δ];rfl
  rw[e2];rfl
theorem part_of{v:AK}{o:AB}(p:IsPart v o):∃q:Option (Int×Tok),v=partValue q/\q.map (·.1)=o:=by
 cases p with
 | none=>exact⟨none,rfl,rfl⟩
 | int i t=>exact⟨some (i,t),rfl,rfl⟩
theorem Pz:SlR X W3:=by
 intro pins s σ H x v vl vu lo hi sl Q I rx hs pl pu h;obtain⟨z,rfl,hz,q⟩:=h;obtain⟨t,rfl⟩:=rx;obtain⟨ql,rfl,el⟩:=part_of pl;obtain⟨qu,rfl,eu⟩:=part_of pu;refine⟨"str",_,F.slot_str_getitem.lookup,typeIs_str _ _ _,?_⟩;refine wpAny_getItem_str_slice (l:=ql) (u:=qu) (st:=none) hs rfl ?_;have ep:(slicePicked z ql qu none).filterMap (z.cps[·]?)=(z.cps.toList.drop (HT.fO z.length 0 lo)).take (HT.fO z.length z.length hi - HT.fO z.length 0 lo):=by
  unfold slicePicked;rw[el,eu];exact Zhe z lo hi
 have em:(⟨((slicePicked z ql qu none).filterMap (z.cps[·]?)).toArray⟩:Str)=ue z lo hi:=by
  rw[ep];rfl
 unfold sliceMade;split
 ·rename_i hw
  have hl:(slicePicked z ql qu none).length=z.length:=by
   rw[Bool.and_eq_true]at hw;exact beq_iff_eq.mp hw.2
  have hc:ue z lo hi=z:=by
   have h1:(slicePicked z ql qu none)=Builtin.Str.strSliceIndices (some ((HT.fO z.length 0 lo:Nat):Int)) (some ((HT.fO z.length z.length hi:Nat):Int)) 1 z.length:=by
    unfold slicePicked;rw[el,eu];exact Vj lo hi z.length
   have a2:=HT.tH z.length z.length χ hi;have a1:=HT.tH z.length 0 (Nat.zero_le _) lo;have hz0:HT.fO z.length 0 lo<=HT.fO z.length z.length hi\/z.length=0:=by
    by_cases hle:HT.fO z.length 0 lo<=HT.fO z.length z.length hi
    ·exact .inl hle
    ·right
     rw[h1]at hl;have e2:Builtin.Str.strSliceIndices (some ((HT.fO z.length 0 lo:Nat):Int)) (some ((HT.fO z.length z.length hi:Nat):Int)) 1 z.length=[]:=by
      simp only[Builtin.Str.strSliceIndices,sliceRange,show((1:Int) > 0)=True from ζ,if_true];rw[if_neg (by omega:¬ ((HT.fO z.length 0 lo:Nat):Int)<0),if_neg (by omega:¬ ((HT.fO z.length z.length hi:Nat):Int)<0),if_neg δ];rfl
     rw[e2]at hl;exact hl.symm
   unfold ue;rcases hz0 with hle | h0
   ·rw[h1,StrLaws.strSliceIndices_plain hle a2,bF,List.length_range]at hl;have b1:HT.fO z.length 0 lo=0:=δ
    have b2:HT.fO z.length z.length hi=z.length:=δ
    rw[b1,b2,List.drop_zero,Nat.sub_zero,<- str_len,List.take_length]
    all_goals rfl
   ·have hcz:z.cps=#[]:=Array.eq_empty_of_size_eq_zero h0;obtain⟨zc⟩:=z;dsimp only at hcz;subst hcz;simp
  rw[hc]at q;exact⟨.str z,H,I,⟨_,rfl⟩,q⟩
 ·show Str.length _<=sizeLine/\_;rw[em];exact⟨Nat.le_trans (J4 z lo hi) hz,.str (ue z lo hi),H,I.tok _,⟨_,rfl⟩,q⟩
theorem Zj3{P:AN}{w:AQ}{K:aK}{tg:AO}(z:Str)(t:Tok)(it:AJ):Turn P w K tg (Its z) [it] it (λi h=>h.IsStrIter it "str_ascii_iterator" z t i) where
  mem:=ζ
  obj:=λi h st b hb=>by
    have e:b=it:=by simpa using hb
    subst e;obtain⟨o,e,c,d⟩:=st;exact⟨o,e,λv z=>by rw[d]at z;cases z⟩
  keep:=λi h h' st k=>let ⟨o,ho,r⟩:=st;⟨o,k it ζ o ho,r⟩
  item:=by
    intro X hP hw hK hc i pins s σ H E I hf st hg;subst hP hw hK;have hlt:i<z.cps.toList.length:=by rw[str_len];exact hg
    obtain⟨f0,f1,f2,f3,f4,f5⟩:=hf it ζ;have hx:z.cps.toList[i]? =some z.cps.toList[i]:=dF hlt;refine wpAny_pyNext_ascii_item st (c:=z.cps.toList[i]) (by simpa using hx) λh' st' sb=>?_;have I1:Inv X pins σ H { s with heap:=h',toks:=s.toks+1 }:=I.turned (t':=s.toks+1) (λb o hb e=>(sb.2 b hb).trans e) f0 f1 f3 f4 f5;obtain⟨o,e,c,d⟩:=id st';exact⟨_,rfl,Zg8 (s:={ s with heap:=h',toks:=s.toks+1 }) e c d ε ⟨.str ⟨#[z.cps.toList[i]]⟩,H,I1,⟨_,rfl⟩,⟨rfl,_,hx,rfl⟩,st',λb hb=>(hf b hb).1⟩⟩
  done:=by
    intro X hP hw hK hc i pins s σ H E I hf st hg;subst hP hw hK;have hge:z.cps.toList.length<=i:=by rw[str_len];exact hg
    obtain⟨f0,f1,f2,f3,f4,f5⟩:=hf it ζ;exact wpAny_pyNext_ascii_end (I.ok.hd hc) st (by simpa using hge) λh' eb=>⟨rfl,I.turned (t':=s.toks) (λb o hb e=>eb b o hb e) f0 f1 f3 f4 f5⟩
  self:=λ_ _ _ _ _ st h=>wpAny_pyIter_striter_ascii st h
theorem Zh6{P:AN}{w:AQ}{K:aK}{tg:AO}(z:Str)(t:Tok)(it:AJ):Turn P w K tg (Its z) [it] it (λi h=>h.IsStrIter it "str_iterator" z t i) where
  mem:=ζ
  obj:=λi h st b hb=>by
    have e:b=it:=by simpa using hb
    subst e;obtain⟨o,e,c,d⟩:=st;exact⟨o,e,λv z=>by rw[d]at z;cases z⟩
  keep:=λi h h' st k=>let ⟨o,ho,r⟩:=st;⟨o,k it ζ o ho,r⟩
  item:=by
    intro X hP hw hK hc i pins s σ H E I hf st hg;subst hP hw hK;have hlt:i<z.cps.toList.length:=by rw[str_len];exact hg
    obtain⟨f0,f1,f2,f3,f4,f5⟩:=hf it ζ;have hx:z.cps.toList[i]? =some z.cps.toList[i]:=dF hlt;refine wpAny_pyNext_wide_item st (c:=z.cps.toList[i]) (by simpa using hx) λh' st' sb=>?_;have I1:Inv X pins σ H { s with heap:=h',toks:=s.toks+1 }:=I.turned (t':=s.toks+1) (λb o hb e=>(sb.2 b hb).trans e) f0 f1 f3 f4 f5;obtain⟨o,e,c,d⟩:=id st';exact⟨_,rfl,Zg8 (s:={ s with heap:=h',toks:=s.toks+1 }) e c d ε ⟨.str ⟨#[z.cps.toList[i]]⟩,H,I1,⟨_,rfl⟩,⟨rfl,_,hx,rfl⟩,st',λb hb=>(hf b hb).1⟩⟩
  done:=by
    intro X hP hw hK hc i pins s σ H E I hf st hg;subst hP hw hK;have hge:z.cps.toList.length<=i:=by rw[str_len];exact hg
    obtain⟨f0,f1,f2,f3,f4,f5⟩:=hf it ζ;exact wpAny_pyNext_wide_end (I.ok.hd hc) st (by simpa using hge) λh' eb=>⟨rfl,I.turned (t':=s.toks) (λb o hb e=>eb b o hb e) f0 f1 f3 f4 f5⟩
  self:=λ_ _ _ _ _ st h=>wpAny_pyIter_striter_wide st h
theorem Zrq{tg l:AO}{tl:TE}(hl:PE X l tl):PI X tg l (Ztd tl):=by
 intro pins s σ H R I h;refine iJ (hl pins s σ H _ I h) λv s1 ⟨x,H1,I1,r1,q1⟩=>?_;obtain⟨z,rfl,q⟩:=q1;obtain⟨t,rfl⟩:=r1;have ff:∀b∈[s1.heap.objs.size],sG X pins H1 b:=λb hb=>by
  have e:b=s1.heap.objs.size:=by simpa using hb
  subst e;exact I1.Zem χ (I1.hok.fresh χ)
 cases ha:z.cps.all (· < 128)with
 | false=>
  refine wpAny_pyIter_wide ha ?_;exact⟨s1.heap.objs.size,[s1.heap.objs.size],_,_,H1,rfl,I1.kept (t':=s1.toks) λb o e=>Heap.get?_push_of_some _ e,Zh6 z t _,⟨_,Heap.get?_push_size _ rfl,rfl,rfl⟩,ff,q⟩
 | true=>
  refine wpAny_pyIter_ascii ha ?_;exact⟨s1.heap.objs.size,[s1.heap.objs.size],_,_,H1,rfl,I1.kept (t':=s1.toks) λb o e=>Heap.get?_push_of_some _ e,Zj3 z t _,⟨_,Heap.get?_push_size _ rfl,rfl,rfl⟩,ff,q⟩
theorem all_range(bs:List Bool):((List.range bs.length).all λi=>bs.getD i true)=bs.all id:=by
 have e:(List.range bs.length).map (λi=>bs.getD i true)=bs:=by
  apply List.ext_getElem
  ·simp
  ·intro i h1 h2;simp[List.getD_eq_getElem?_getD,h2]
 conv=>rhs;rw[<- e]
 rw[List.all_map];rfl
theorem Zfc:∀{bs:List Bool}{us:AE}{i:Nat}{v:AK},Vals (bs.map V.bl) us->us[i]? =some v->v=.bool (bs.getD i true)
 | [],_,i,v,.nil,h=>by simp at h
 | b::bs,_,0,v,.cons r t,h=>by
  simp at h;subst h;exact r
 | b::bs,_,i+1,v,.cons r t,h=>by
  have:=Zfc (i:=i) t (by simpa using h);simpa using this
theorem Zmu(hc:X.calm=true):oR X (.builtin "all") (Ztz X.K):=by
 intro pins s σ H xs us Q I r h;obtain⟨p,bs,rfl,hp,q⟩:=h;obtain⟨u,rfl,rx⟩:=vals1 r;cases rx;obtain⟨its,rv,pl,hz⟩:=I.list hp;have hlen:=rv.length;rw[bF]at hlen;have hpl:p<s.heap.objs.size:=by
  obtain⟨o,ho,_⟩:=pl.isList;exact Heap.lt_size ho
 refine call_all_walk (wpAny_pyIter_list pl.isList ?_);refine⟨s.heap.objs.size,_,_,_,_,_,λi=>bs.getD i true,rfl,Walks.list (by show X.A.in1.handled=none;exact I.ok.hd hc) s.heap.objs.size p (Nat.ne_of_lt hpl) its.toArray,⟨⟨_,Heap.get?_push_size _ rfl,rfl,rfl⟩,pl.isList.at λo e=>Heap.get?_push_of_some _ e⟩,?_,λh' tk hk=>?_⟩
 ·intro i v s' Q' E' hv hq;have e:v=.bool (bs.getD i true):=Zfc rv (by simpa using hv);subst e;exact wpAny_truthy_bool hq
 ·have I1:Inv X pins σ H { s with heap:=h',toks:=tk }:=I.kept (t':=tk) λb o e=>hk b o (by simpa using Nat.ne_of_lt (Heap.lt_size e)) (Heap.get?_push_of_some _ e);refine⟨.bl (bs.all id),H,I1,?_,q⟩;rw[List.size_toArray,<- hlen,all_range];rfl
def GC(mg:As)(x:Str)(v:V):Prop:=∃u,mg x=some u/\RelV v u
theorem GC.pe{x:Str}{v:V}{pos:Pos}(h:GC X.mg x v)(hg:Gl X x)(hd:(x == ("__debug__":Str))=false:=by decide):PE X (.Name x pos) (tC v):=by
 obtain⟨u,hm,r⟩:=h;exact nZ hg hm r hd
end
theorem M7{i:Int}(h0:0<=i)(h1:i<10 ^ 61):1<=(Str.ofString (toString i)).length/\(Str.ofString (toString i)).length<=61:=by
 refine⟨?_,toString_length_le h0 ε h1⟩;obtain⟨m,rfl⟩:=Int.eq_ofNat_of_zero_le h0;have e:=W.KIN.signs_num m;have e2:((Str.ofString (toString ((m:Nat):Int))).cps.toList).length=(Nat.toDigits 10 m).length:=by rw[e,bF]
 rw[str_len]at e2;rw[e2];cases hd:Nat.toDigits 10 m with
 | nil=>exact absurd hd Nat.toDigits_ne_nil
 | cons a l=>rw[List.length_cons];omega
theorem Zbb(l:List Nat)(h:∀c∈l,48<=c/\c<=57):∀(a:Nat),l.foldl (λ(v:Int) (c:Nat)=>v * 10+((c:Int) - 48)) (a:Int)=((l.foldl (λacc c=>acc * 10+(c - 48)) a:Nat):Int):=by
 induction l with
 | nil=>intro a;rfl
 | cons c l ih=>
  intro a;have hc:=h c List.mem_cons_self;rw[List.foldl_cons,List.foldl_cons,<- ih (λd hd=>h d (List.mem_cons_of_mem _ hd))];congr 1;omega
section
variable {X:Cx}
theorem pD:oR X (.type "str") xH:=Yz
theorem Zih:oR X (.type "int") Zgm:=by
 intro pins s σ H xs us Q I r h;obtain⟨z,rfl,h1,h2,h3,q⟩:=h;obtain⟨u,rfl,t,rfl⟩:=vals1 r;have hne:z.cps.toList≠[]:=λe=>by
  have:=str_len z;rw[e]at this;simp at this;omega
 have hv:=PySem.intText_digits (x:=z) h3 hne δ;have ev:((NumText.digitsVal z.cps.toList:Nat):Int)=Yw z.cps.toList:=(Zbb _ h3 0).symm;rw[ev]at hv;exact W.KIN.call_text hv h2 ⟨.int (Yw z.cps.toList),H,I.tok _,⟨_,rfl⟩,q⟩
theorem lQ.ok{i j:Int}(h:lQ i j):IntMulOk i j:=by
 rcases h with h | ⟨h1,h2⟩
 ·exact h.ok
 ·have bits:∀k:Int,k.natAbs<2 ^ 256->Builtin.Int.intBits k<=2 ^ 20:=λk hk=>by
   unfold Builtin.Int.intBits;split
   ·exact Nat.zero_le _
   ·rename_i hn
    have hk0:k.natAbs≠0:=λe=>hn (by simpa using e);have:=(Nat.log2_lt hk0).mpr hk;omega
  exact IntMulOk.of_bits (bits i h1) (bits j h2)
theorem jd:wZ X (binaryOp .Mult) (rI lQ λi j=>.int (i * j)):=opI λ_ _ _ _ _ _ _ hc q=>mul_int q hc.ok
theorem Av:MtR X "str.startswith" rP:=by
 intro pins s σ H x xs v us Q I rx rs h;obtain⟨z,c,rfl,rfl,q⟩:=h;obtain⟨t,rfl⟩:=rx;obtain⟨u,rfl,t',rfl⟩:=Vals.one rs;refine SC.startswith ⟨.bl (decide (z.cps.toList[0]? =some c)),H,I,?_,q⟩;show Value.bool _=Value.bool _;congr 1;unfold Txt.startswith;rw[Bool.eq_iff_iff,Bool.and_eq_true,decide_eq_true_eq,sub_one,decide_eq_true_eq];constructor
 ·exact λe=>e.2
 ·intro e;refine⟨?_,e⟩;have:=(iB e).1;rw[str_len]at this;exact this
theorem Zon(z:Str)(k:Int):Txt.mul z k=ZZ z k:=by
 unfold Txt.mul ZZ;have fl:∀(n:Nat) (acc:List Nat),List.foldl (λx1 x2=>x1++x2) acc.toArray (List.replicate n z.cps)=(acc++(List.replicate n z.cps.toList).flatten).toArray:=by
  intro n
  induction n with
  | zero=>intro acc;simp
  | succ n ih=>
   intro acc;rw[List.replicate_succ,List.replicate_succ,List.foldl_cons,List.flatten_cons];have e:acc.toArray++z.cps=(acc++z.cps.toList).toArray:=ζ
   rw[e,ih,List.append_assoc]
 split
 ·rename_i h
  have e:k.toNat=0:=δ
  rw[e];rfl
 ·rename_i h
  split
  ·rename_i h2
   rw[Bool.or_eq_true]at h2;rcases h2 with h2 | h2
   ·have e:k.toNat=1:=by have:=beq_iff_eq.mp h2;omega
    rw[e];simp
   ·have e:z.cps=#[]:=Array.eq_empty_of_size_eq_zero (beq_iff_eq.mp h2);obtain⟨zc⟩:=z;dsimp only at e;subst e;have:∀n:Nat,(List.replicate n ([]:List Nat)).flatten=[]:=λn=>by
     induction n with
     | zero=>rfl
     | succ n ih=>rw[List.replicate_succ,List.flatten_cons,ih];rfl
    simp[this]
  ·have:=fl k.toNat [];simp only[List.nil_append]at this;show(⟨List.foldl (λx1 x2=>x1++x2) #[] (List.replicate k.toNat z.cps)⟩:Str)=_;rw[this]
theorem Zjv(z:Str)(k:Int):(ZZ z k).length=k.toNat * z.length:=by
 show(List.toArray _).size=_;rw[List.size_toArray];have:∀n:Nat,(List.replicate n z.cps.toList).flatten.length=n * z.length:=λn=>by
  induction n with
  | zero=>simp
  | succ n ih=>rw[List.replicate_succ,List.flatten_cons,List.length_append,ih,str_len,Nat.succ_mul,Nat.add_comm]
 exact this _
theorem Zod:wZ X (binaryOp .Mult) Zjw:=by
 intro pins s σ H x y v u Q I rx ry h;obtain⟨z,k,rfl,rfl,h0,h1,h2,q⟩:=h;obtain⟨t,rfl⟩:=rx;obtain⟨t',rfl⟩:=ry;have hb:k.toNat * z.length<=1000000:=Nat.le_trans (Nat.mul_le_mul (show k.toNat<=1000 by omega) h2) ε;refine SB.mul ⟨?_,λh3 _=>?_,λh3 _=>?_⟩ λt'' kk=>?_
 ·simp;omega
 ·intro z1;have:(z.length:Int)<=1000:=δ
  have e:(1000:Int)<(2 ^ 63 - 1) / k:=by
   have hk:0<k:=δ
   rw[Int.lt_iff_add_one_le,Int.le_ediv_iff_mul_le hk];omega
  omega
 ·unfold Builtin.Str.tooLong;have:z.length * k.toNat<=1000000:=by rw[Nat.mul_comm];exact hb
  simp;exact Nat.le_trans this ε
 ·rw[Zon];exact⟨.str (ZZ z k),H,I.tok _,⟨_,rfl⟩,q _ (by rw[Zjv];exact hb) rfl⟩
end
end G
namespace G
open PySem L2
theorem Cp{i:Int}{H:Hp}{Q:VK}(h0:0<=i)(h1:i<10 ^ 61)(h:∀t:Str,t=Str.ofString (toString i)->1<=t.length->t.length<=61->Q (.str t) H):xH [.int i] H Q:=
 ⟨i,rfl,Zot h0 h1,h _ rfl (M7 h0 h1).1 (M7 h0 h1).2⟩
end G
namespace G
open PySem L2 PySem.Spec PyProof.Rows
section
variable {X:Cx}{pins:Au}{σ:L2.St}{H:Hp}{s:AL}{acc:AJ}{ys:List V}{its:AE}{n:Nat}
theorem adopt(I:Inv X pins σ H s)(hf:sG X pins H acc)(ho:s.heap.get? acc=some { cls:=.type "list",data:=.seq its.toArray n })(hv:Vals ys its)(hz:ys.length<=sizeLine):Inv X pins σ (upd H acc (.lst ys)) s:=by
 obtain⟨f0,f1,f2,f3,f4,f5⟩:=hf;have ne:∀b u,H b=some u->b≠acc:=λb u e=>bI e f0;refine I.step (h':=s.heap) (g':=s.gens) (t':=s.toks) (d':=s.drawn) (ch:=[acc]) (λb hb=>?_) (λ_ _ _ _ _ e _=>e) (λb o _ _ _ e _=>⟨o.slots,e⟩) (λb o hb e h0=>?_) (λb o _ e=>⟨o,e⟩)
  (λb xs e=>by rw[aQ (ne b _ e)];exact e) (λb o u e=>by rw[aQ (ne b _ e)];exact e) (λb ps e=>⟨#[],by rw[aQ (ne b _ e),e];simp⟩) (λm hm=>hm) (λb u e=>?_) I.bare
 ·have e:b=acc:=by simpa using hb
  subst e;exact⟨f3,f1,f4,f5⟩
 ·have e:b≠acc:=by simpa using hb
  rw[aQ e];exact h0
 ·by_cases hb:b=acc
  ·subst hb;rw[az]at e;cases e;exact⟨hz,its,n,hv,ho⟩
  ·rw[aQ hb]at e;exact(I.hok b u e).stay (λ_ _ _ q=>q) (λc q=>by rw[aQ (ne c _ q)];exact q) λc xs q=>by rw[aQ (ne c _ q)];exact q
theorem disown(I:Inv X pins σ (upd H acc (.lst ys)) s)(hf:sG X pins H acc):Inv X pins σ H s:=by
 obtain⟨f0,f1,f2,f3,f4,f5⟩:=hf;have back:∀b u,upd H acc (.lst ys) b=some u->u≠.lst ys->H b=some u:=λb u e hne=>by
  by_cases hb:b=acc
  ·subst hb;rw[az]at e;cases e;exact absurd rfl hne
  ·rw[aQ hb]at e;exact e
 refine I.step (h':=s.heap) (g':=s.gens) (t':=s.toks) (d':=s.drawn) (ch:=[acc]) (λb hb=>?_) (λ_ _ _ _ _ e _=>e) (λb o _ _ _ e _=>⟨o.slots,e⟩) (λb o hb e h0=>?_) (λb o _ e=>⟨o,e⟩)
  (λb xs e=>back b _ e (λz=>nomatch z)) (λb o u e=>back b _ e (λz=>nomatch z)) (λb ps e=>⟨#[],by rw[back b _ e (λz=>nomatch z)];simp⟩) (λm hm=>hm) (λb u e=>?_) I.bare
 ·have e:b=acc:=by simpa using hb
  subst e;exact⟨f3,f1,f4,f5⟩
 ·have e:b≠acc:=by simpa using hb
  rw[aQ e]at h0;exact h0
 ·have hb:b≠acc:=bI e f0;have e':upd H acc (.lst ys) b=some u:=by rw[aQ hb];exact e
  exact(I.hok b u e').stay (λ_ _ _ q=>q) (λc q=>back c _ q (λz=>nomatch z)) λc xs q=>back c _ q (λz=>nomatch z)
end
def PF(X:Cx)(ifs:AH)(t:TT):Prop:=
 ∀(pins:Au) (s:AL) (σ:L2.St) (H:Hp) (Q:Bool->Hp->Prop),Inv X pins σ H s->t σ H Q->
  wpAny ς X.A (forIn ifs true λc r=>if r=true then do let ok <- isTrue c X.env (eval c X.env);pure (ForInStep.yield ok)else pure (ForInStep.yield r)) (TP X pins σ Q) X.xe s
theorem BW{X:Cx}:PF X [] oO:=λ_ _ _ H _ I h=>wpAny_tests_nil ⟨H,I,h⟩
def Jp(X:Cx)(scope:Scope)(cl:List (Str×AJ))(N:AI)(C:AJ)(s:AL)(H:Hp)(ex:AG)(pn:Au):Cx:=
 { X with N:=N,s₀:=s,H₀:=H,env:=compEnvC scope cl C X.env,outer:=X.stack,ex:=ex,fn:=λ_=>false,pn:=pn,xe:=λ_ _=>False }
def AllIn(cells:List (Str×AJ)):List (Str×AJ)->Prop
 | []=>True
 | p::r=>cells.lookup p.1=some p.2/\AllIn cells r
theorem AllIn.get{cells:List (Str×AJ)}:∀{cl:List (Str×AJ)},AllIn cells cl->∀{x:Str}{c:AJ},cl.lookup x=some c->cells.lookup x=some c
 | [],_,x,c,h=>by cases h
 | (y,d)::r,a,x,c,h=>by
  cases e:(x == y)with
  | true=>
   rw[List.lookup_cons,e]at h;have e':x=y:=beq_iff_eq.mp e;subst e';cases h;exact a.1
  | false=>
   rw[List.lookup_cons,e]at h;exact AllIn.get a.2 h
def xN(X:Cx):AI->List Nat->Prop
 | [],[]=>True
 | y::r,j::js=>X.N[j]? =some y/\X.env.kindOf y=some .cell/\xN X r js
 | _,_=>False
theorem xN.len{X:Cx}:∀{ns:AI}{js:List Nat},xN X ns js->ns.length=js.length
 | [],[],_=>rfl
 | [],_::_,h=>h.elim
 | _::_,[],h=>h.elim
 | _::r,_::js,h=>by rw[List.length_cons,List.length_cons,xN.len h.2.2]
theorem xN.get{X:Cx}{σ:L2.St}:∀{ns:AI}{js:List Nat},xN X ns js->∀{i:Nat}{x:Str}{v:V},ns[i]? =some x->(js.map (pick σ))[i]? =some (some v)->∃j:Nat,X.N[j]? =some x/\X.env.kindOf x=some .cell/\σ[j]? =some (some v)
 | [],_,_,i,x,v,h,_=>by simp at h
 | _::_,[],h,_,_,_,_,_=>h.elim
 | y::r,j::js,h,0,x,v,h1,h2=>by
  simp at h1 h2;subst h1;refine⟨j,h.1,h.2.1,?_⟩;unfold pick at h2;split at h2
  ·rename_i e;rw[e,h2]
  ·cases h2
 | y::r,j::js,h,i+1,x,v,h1,h2=>xN.get (i:=i) h.2.2 (by simpa using h1) (by simpa using h2)
theorem uz{x n:Str}{k:NameKind}{r:List (Str×NameKind)}(h:(x == n)=false):List.lookup x ((n,k)::r)=List.lookup x r:=by rw[List.lookup_cons,h]
theorem Zl1{x n:Str}{k:NameKind}{r:List (Str×NameKind)}(h:(x == n)=true):List.lookup x ((n,k)::r)=some k:=by rw[List.lookup_cons,h]
def Qc(env:Env)(x:Str)(k:NameKind):NameKind:=if (k == NameKind.free && env.scope.kind == .function && env.kindOf x == some .cell)=true then .cell else k
theorem ud{env:Env}{x:Str}:∀{names:List (Str×NameKind)},
  (names.map λ(n,k)=>if (k == NameKind.free && env.scope.kind == .function && env.kindOf n == some .cell)then(n,NameKind.cell)else(n,k)).lookup x=(names.lookup x).map (Qc env x)
 | []=>rfl
 | (n,k')::r=>by
  have ih:=@ud env x r;show List.lookup x ((if (k' == NameKind.free && env.scope.kind == .function && env.kindOf n == some .cell)=true then(n,NameKind.cell)else(n,k'))::r.map λ(n,k)=>if (k == NameKind.free && env.scope.kind == .function && env.kindOf n == some .cell)then(n,NameKind.cell)else(n,k))=_;cases hx:x == n with
  | true=>
   have e:=beq_iff_eq.mp hx;subst e;rw[Zl1 (k:=k') hx]
   by_cases hc:(k' == NameKind.free && env.scope.kind == .function && env.kindOf x == some .cell)=true
   ·rw[if_pos hc,Zl1 hx];show some NameKind.cell=some (Qc env x k');unfold Qc;rw[if_pos hc]
   ·rw[if_neg hc,Zl1 hx];show some k'=some (Qc env x k');unfold Qc;rw[if_neg hc]
  | false=>
   rw[uz (k:=k') (r:=r) hx]
   by_cases hc:(k' == NameKind.free && env.scope.kind == .function && env.kindOf n == some .cell)=true
   ·rw[if_pos hc,uz hx];exact ih
   ·rw[if_neg hc,uz hx];exact ih
theorem lookup_all{names:List (Str×NameKind)}{p:Str×NameKind->Bool}:∀{x:Str}{k:NameKind},names.all p=true->names.lookup x=some k->p (x,k)=true:=by
 induction names with
 | nil=>intro x k _ h;simp at h
 | cons y r ih=>
  intro x k ha h;obtain⟨n,k'⟩:=y;rw[List.all_cons,Bool.and_eq_true]at ha;cases hx:x == n with
  | true=>
   rw[List.lookup_cons,hx]at h;have e1:x=n:=beq_iff_eq.mp hx;have e2:k'=k:=Option.some.inj h;rw[e1,<- e2];exact ha.1
  | false=>
   rw[List.lookup_cons,hx]at h;exact ih ha.2 h
theorem Zbh{prog:AN}{w:AQ}{A:Around}{R:Result->AL->Prop}{s:AL}{elt target iter:AO}{ifs:AH}{scope:Scope}{pos:Pos}{it acc:AK}{env:Env}(I:Nat->AL->Prop)
  (turn:∀n s,I n s->wpAny Ξ A (pyNext it) (λr s₁=>match r with
   | none=>R (.ok .next) s₁
   | some v=>wpAny Ξ A (letOwnedTupleGo target it v) (λ_ s₁'=>wpAny Ξ A (assign target env v) (λ_ s₂=>
     wpAny Ξ A (forIn ifs true λc r=>if r=true then do let ok <- isTrue c env (eval c env);pure (ForInStep.yield ok)else pure (ForInStep.yield r)) (λok s₃=>
      if ok=true then wpAny Ξ A (eval elt env) (λx s₄=>
       wpAny Ξ A (call (.builtin "list.append") [acc,x]) (λ_ s₅=>∃m,m<n/\I m s₅) (λ_ _=>False) s₄) (λ_ _=>False) s₃
      else ∃m,m<n/\I m s₃) (λ_ _=>False) s₂) (λ_ _=>False) s₁') (λ_ _=>False) s₁) (λ_ _=>False) s)
  (n:Nat) (h:I n s):
  codeAny Ξ A (.compLoop (.ListComp elt [⟨target,iter,ifs,0⟩] scope pos) 0 it acc env) R s:=by
 refine codeAny_loop rfl I (λn s hI=>?_) n h;show wpAny _ A ((compTurn (.ListComp elt [⟨target,iter,ifs,0⟩] scope pos) 0 it acc env).onRaise (λx=>do noteFrame x env;theTreesLotGoes x)) _ _ s;refine wpAny_noted ?_;rw[compTurn_list];refine wpAny_bind (wpAny_standAt (wpAny_bind (wpAny_mono (turn n s hI) (λr s₁ h₁=>?_) λ_ _ h'=>h'.elim)));cases r with
 | none=>exact wpAny_pure h₁
 | some v=>
  refine wpAny_bind (wpAny_mono h₁ (λ_ s₁' h₁'=>?_) λ_ _ h'=>h'.elim);refine wpAny_bind (wpAny_mono h₁' (λ_ s₂ h₂=>wpAny_bind (wpAny_mono h₂ (λok s₃ h₃=>?_) λ_ _ h'=>h'.elim)) λ_ _ h'=>h'.elim);cases ok with
  | false=>exact wpAny_pure ⟨rfl,h₃⟩
  | true=>
   exact wpAny_bind (wpAny_bind (wpAny_mono h₃ (λx s₄ h₄=>wpAny_bind (wpAny_mono h₄ (λ_ s₅ h₅=>wpAny_pure (wpAny_pure ⟨rfl,h₅⟩)) λ_ _ h'=>h'.elim)) λ_ _ h'=>h'.elim))
theorem Zfx{X:Cx}{elt iter tg:AO}{pos:Pos}{ifs:AH}{scope:Scope}{cl:List (Str×AJ)}{wi:TI}{tc:TT}{te:TE}{cns:AI}{ns:AI}{gt:TG}{R:It->L2.St->Hp->VK->Prop}{use:Option (AK->Sem Unit)}{Q0:Ap}{pins:Au}{s:AL}{σ:L2.St}{H:Hp}{Q:VK}(caps:List Nat)
  (hR:∀J σ H Q,R J σ H Q->∃W:Nat->Nat->List V->Hp->Prop,(∃m,W 0 m [] H)/\∀i m ys H,W i m ys H->
   (J.stop i H/\∀p,H p=none->Q (.ref p) (upd H p (.lst ys)))\/
   (J.go i H/\ys.length<sizeLine/\∀x H',J.yld i H x H'->∀vs:L2.St,vs.length=ns.length->∃us:L2.St,us.length=ns.length/\gt x (vs++caps.map (pick σ)) H' (λσ2 H2=>σ2=us++caps.map (pick σ)/\H2=H')/\tc (us++caps.map (pick σ)) H' λk H2=>if k=true then te (us++caps.map (pick σ)) H2 (λy H3=>∃m',m'<m/\W (i+1) m' (ys++[y]) H3)else ∃m',m'<m/\W (i+1) m' ys H2))
  (hi:PI X tg iter wi) (hg:∀C s H ex pn,PG (Jp X scope cl (ns++cns) C s H ex pn) tg gt)
  (hf:∀C s H ex pn,PF (Jp X scope cl (ns++cns) C s H ex pn) ifs tc) (he:∀C s H ex pn,PE (Jp X scope cl (ns++cns) C s H ex pn) elt te) (hc:X.calm=true)
  (hclos:closureFor scope X.env=pure cl) (hcl:AllIn X.env.cells cl) (hcap:xN X cns caps)
  (hkind:scope.kind=.function) (hcell:(scope.names.all λp=>p.2 != .cell)=true) (hfree:(scope.names.all λp=>p.2 != .free || (cl.lookup p.1).isSome)=true)
  (hcf:(cns.all λy=>scope.names.lookup y == some .free)=true) (hnames:∀y∈scope.names,y.2=.local->scope.names.lookup y.1=some .local)
  (hs:∀v,foldedSetIterable iter X.env v=pure v)
  (I:Inv X pins σ H s) (h:wi σ H λJ H1=>R J σ H1 Q)
  (hend:∀(acc C:AJ) (s6:AL) (m:As) r0,s6.heap.Ns C m->(∀{Hf:Hp},Hf C=none->sG X pins Hf C)->(∀h',Heap.SameBut C s6.heap h'->EP X pins σ (λv Hf=>Q v Hf/\Hf C=none) (.ref acc) { s6 with heap:=h' })->compPost ς X.A X.xe use Q0 (.ref acc) C (.ok r0) s6):
  wpAny ς X.A (comprehension (.ListComp elt [⟨tg,iter,ifs,0⟩] scope pos) scope X.env (firstIterPos [⟨tg,iter,ifs,0⟩] pos) (newList []) (firstAsync [⟨tg,iter,ifs,0⟩]) (firstIter [⟨tg,iter,ifs,0⟩] X.env) use) Q0 X.xe s:=by
 refine wpAny_comprehension_free rfl hs hclos hkind hnames (iJ (hi pins s σ H _ I h) λxv s1 h1=>iJ h1 λitv s2 h2=>?_);obtain⟨it,fp,tn,J,H2,rfl,I2,T,st2,f2,hr⟩:=h2;obtain⟨W,⟨m0,w0⟩,turn⟩:=hR _ _ _ _ hr;have hne:∀y∈scope.names,y.2≠.cell:=λy hy e=>by
  have:=List.all_eq_true.mp hcell y hy;rw[e]at this;simp at this
 refine wpAny_newObj_type (wpAny_newFunctionEnv hne (by intro y hy;simp at hy) (λh₁ hns₁ hsb₁=>?_) hkind);dsimp only at hns₁ hsb₁ ⊢;generalize hacc:s2.heap.objs.size=acc;generalize hH3:s2.heap.push { cls:=.type "list",dict:=none,data:=.seq ([]:AE).toArray }=h3 at hns₁ hsb₁ ⊢;have hC:h3.objs.size=acc+1:=by rw[<- hH3,Heap.size_push,hacc]
 have k23:∀b o,s2.heap.get? b=some o->h3.get? b=some o:=λb o e=>hH3 ▸ Heap.get?_push_of_some _ e;have k34:∀b o,h3.get? b=some o->h₁.get? b=some o:=λb o e=>hsb₁.extBut b o (Nat.ne_of_lt (Heap.lt_size e)) (Heap.get?_push_of_some _ e);have Zwn:h3.get? acc=some { cls:=.type "list",dict:=none,data:=.seq ([]:AE).toArray }:=by
  rw[<- hH3,<- hacc];exact Heap.get?_push_size _ rfl
 have I3:Inv X pins σ H2 { s2 with heap:=h3 }:=I2.kept (t':=s2.toks) k23;have Ztp:sG X pins H2 acc:=I2.Zem (Nat.le_of_eq hacc) (I2.hok.fresh (Nat.le_of_eq hacc));have fpl:∀b∈fp,b<acc:=λb hb=>by
  obtain⟨o,e,_⟩:=T.obj _ _ st2 b hb;rw[<- hacc];exact Heap.lt_size e
 have Zi9:∀b∈acc::fp,sG X pins H2 b:=λb hb=>(List.mem_cons.mp hb).elim (λe=>e ▸ Ztp) (f2 b);have exC:∀b∈acc::fp,b≠h3.objs.size:=λb hb=>by
  rcases List.mem_cons.mp hb with e | hb
  ·rw[hC,e];exact Nat.ne_of_lt (Nat.lt_succ_self _)
  ·rw[hC];exact Nat.ne_of_lt (Nat.lt_succ_of_lt (fpl b hb))
 have Zcn:∀b∈acc::fp,b∉frs X.stack:=λb hb hm=>by
  obtain⟨_,g1,g2,_⟩:=Zi9 b hb;exact(List.mem_cons.mp (I2.Gi b hm)).elim g1 g2
 let Y:Cx:=Jp X scope cl (ns++cns) h3.objs.size { s2 with heap:=h3 } H2 (acc::fp) (X.pn++pins)
 have cellsOf:∀y c,cl.lookup y=some c->X.env.cells.lookup y=some c:=λy c e=>hcl.get e;have Zfy:∀y k,Y.env.kindOf y=some k->(k=.cell\/k=.free)->∃c,cl.lookup y=some c:=λy k e hk=>by
  have e0:(scope.names.lookup y).map (Qc X.env y)=some k:=ud.symm.trans e;obtain⟨k0,e1,e2⟩:=Option.map_eq_some_iff.mp e0;have e3:=lookup_all hfree e1;have e4:=lookup_all hcell e1
  by_cases hf:k0=.free
  ·subst hf;rw[Bool.or_eq_true]at e3;rcases e3 with e3 | e3
   ·exact absurd rfl (bne_iff_ne.mp e3)
   ·exact Option.isSome_iff_exists.mp e3
  ·exfalso
   have e5:Qc X.env y k0=k0:=by
    unfold Qc;rw[if_neg];intro z;rw[Bool.and_eq_true,Bool.and_eq_true]at z;exact hf (beq_iff_eq.mp z.1.1)
   rw[e5]at e2;subst e2;rcases hk with rfl | rfl
   ·simp at e4
   ·exact hf rfl
 have okY:Y.Ok:={
  mod:=I2.ok.mod
  kind:=hkind
  glob:=I2.ok.glob
  blt:=I2.ok.blt
  above:=Nat.le_refl _
  inj:=λa b c e1 e2=>I2.ok.inj a b c (cellsOf _ _ e1) (cellsOf _ _ e2)
  has:=λy hy=>hy.elim (λe=>Zfy y _ e (.inl rfl)) (λe=>Zfy y _ e (.inr rfl))
  cab:=λy c e=>nomatch e
  hd:=I2.ok.hd
  frames:=I2.ok.frames
  stk:=.inl rfl
  exf:=λb hb=>⟨exC b hb,λy c e=>(Zi9 b hb).2.2.2.2.1 y c (cellsOf _ _ e)⟩
  bs:=λb o e=>⟨k23 b o (I2.bs b o e).1,(I2.bs b o e).2⟩
  bsz:=by
   show X.base.objs.size<=h3.objs.size;rw[hC,<- hacc];exact Nat.le_succ_of_le (Nat.le_trans I2.ok.bsz I2.sz)
  Za3:=λb o e hb=>by
   rcases(Zi9 b hb).2.2.2.1 with z | z
   ·exact I2.ok.Za3 b o e z
   ·exact absurd (Nat.lt_of_lt_of_le (Heap.lt_size e) (Nat.le_trans I2.ok.bsz z)) (Nat.lt_irrefl _)
  Zev:=Zcn
  wQ:=I3.stack
  frf:=I3.Ww }
 have Zwt:(List.replicate ns.length none++caps.map (pick σ):L2.St).length=(ns++cns).length:=by rw[List.length_append,List.length_append,List.length_replicate,bF,hcap.len]
 have I4:Inv Y [] (List.replicate ns.length none++caps.map (pick σ)) H2 { s2 with heap:=h₁,toks:=s2.toks+([]:List (Str×AK)).length }:={
  ok:=okY
  os:=rfl
  bare:=I2.bare
  base:=Un.kept k34
  loc:=by
   refine⟨_,hns₁,λi y v e1 e2 e3=>?_⟩
   by_cases hlt:i<ns.length
   ·have e2:(List.replicate ns.length none++caps.map (pick σ):L2.St)[i]? =some (some v):=e2;rw[List.getElem?_append_left (by rw[List.length_replicate];exact hlt),List.getElem?_replicate,if_pos hlt]at e2;cases e2
   ·have e1':cns[i - ns.length]? =some y:=by
     have e1':(ns++cns)[i]? =some y:=e1;rw[List.getElem?_append_right δ]at e1';exact e1'
    have e2':(caps.map (pick σ):L2.St)[i - ns.length]? =some (some v):=by
     have e2:(List.replicate ns.length none++caps.map (pick σ):L2.St)[i]? =some (some v):=e2;rw[List.getElem?_append_right (by rw[List.length_replicate];omega),List.length_replicate]at e2;exact e2
    obtain⟨j,j1,j2,j3⟩:=hcap.get (σ:=σ) (i:=i - ns.length) (x:=y) (v:=v) e1' e2';obtain⟨m,hn,hl⟩:=I2.loc;obtain⟨u,r,l⟩:=hl j y v j1 j3 (.inr (.inl j2));rcases l with ⟨l,_⟩ | ⟨_,c,l1,l2⟩
    ·rw[j2]at l;cases l
    ·refine⟨u,r,.inr ?_⟩;rcases e3 with e3 | e3 | e3
     ·exfalso
      have hm:y∈cns:=List.mem_of_getElem? e1';have hl:scope.names.lookup y=some .free:=beq_iff_eq.mp (List.all_eq_true.mp hcf y hm);have e0:(scope.names.lookup y).map (Qc X.env y)=some .local:=ud.symm.trans e3;rw[hl]at e0;have e5:Qc X.env y .free=.local:=Option.some.inj e0;unfold Qc at e5;split at e5<;>cases e5
     ·obtain⟨c',hc'⟩:=Zfy y _ e3 (.inl rfl);have:=cellsOf _ _ hc';rw[l1]at this;cases this;exact⟨.inl e3,c,hc',l2.keeps λb o e=>k34 _ _ (k23 _ _ e)⟩
     ·obtain⟨c',hc'⟩:=Zfy y _ e3 (.inr rfl);have:=cellsOf _ _ hc';rw[l1]at this;cases this;exact⟨.inr e3,c,hc',l2.keeps λb o e=>k34 _ _ (k23 _ _ e)⟩
  cell:=λy c e=>by
   obtain⟨v,z⟩:=I2.cell y c (cellsOf _ _ e);exact⟨v,z.keeps λb o e=>k34 _ _ (k23 _ _ e)⟩
  free:=I2.hok.fresh (by rw[hacc];show acc<=h3.objs.size;rw[hC];exact Nat.le_succ _)
  oJ:=λy c e=>I2.oJ y c (cellsOf _ _ e)
  pin:=λp hp=>by
   have hp2:p∈(X.pn++pins)++[]:=hp;have hp':p∈X.pn++pins:=by rw[List.append_nil]at hp2;exact hp2
   obtain⟨p1,p2,p3,p4,p5⟩:=I2.pin p hp';refine⟨k34 _ _ (k23 _ _ p1),p2,?_,λhm=>(List.mem_cons.mp (I2.Gi _ hm)).elim p3 p4,p5⟩;exact Nat.ne_of_lt (by show p.1<h3.objs.size;exact Heap.lt_size (k23 _ _ p1))
  hok:=I2.hok.kept λb u e=>k34 _ _ (k23 _ _ e)
  len:=Zwt }
 have fpY:∀{H':Hp}{pl:Au}{b:AJ},b∈acc::fp->H' b=none->(∀p∈pl,p.1≠b)->sG Y pl H' b:=λ{H' pl b} hb hn hp=>
  ⟨hn,exC b hb,Zcn b hb,.inl hb,λy c e=>(Zi9 b hb).2.2.2.2.1 y c (cellsOf _ _ e),λp hm=>(List.mem_append.mp hm).elim (λz=>(Zi9 b hb).2.2.2.2.2 p z) (hp p)⟩
 have fin:∀{σ':L2.St}{H':Hp}{s':AL}{ys:List V}{its:AE}{kk:Nat}{pl:Au},Inv Y pl σ' H' s'->H' acc=none->Vals ys its->ys.length<=sizeLine->
   s'.heap.get? acc=some { cls:=.type "list",data:=.seq its.toArray kk }->(∀p,H' p=none->Q (.ref p) (upd H' p (.lst ys)))->
   ∀h',Heap.SameBut h3.objs.size s'.heap h'->EP X pins σ (λv Hf=>Q v Hf/\Hf h3.objs.size=none) (.ref acc) { s' with heap:=h' }:=λ{σ' H' s' ys its kk pl} J ha hv hz ho hq h' hs'=>by
  have Zvz:acc≠h3.objs.size:=exC acc (List.mem_cons_self);have Zam:∀b o,b≠h3.objs.size->s'.heap.get? b=some o->h'.get? b=some o:=λb o hb e=>hs'.extBut b o hb e;have ltC:∀b o,s2.heap.get? b=some o->b≠h3.objs.size:=λb o e=>Nat.ne_of_lt (Heap.lt_size (k23 b o e));have Zef:H' h3.objs.size=none:=J.free;have un:Un (frs X.stack) (acc::fp) H2 H' s2.heap h':={
   keep:=λb o e n hb hx=>Zam b o (ltC b o e) (J.base.keep b o (k23 b o e) n hb hx)
   slot:=λb o e n hb hx=>by
    obtain⟨sl,q⟩:=J.base.slot b o (k23 b o e) n hb hx;exact⟨sl,Zam b _ (ltC b o e) q⟩
   free:=λb o e n hx=>J.base.free b o (k23 b o e) n hx
   there:=λb o e hx=>by
    obtain⟨o',q⟩:=J.base.there b o (k23 b o e) hx;exact⟨o',Zam b o' (ltC b o e) q⟩
   tups:=J.base.tups
   yW:=J.base.yW
   Bh:=J.base.Bh }
  have hok:oM X.prog X.w H' h':=λb u e=>by
   refine(J.hok b u e).stay (λc v hc q=>Zam c v ?_ q) (λ_ q=>q) λ_ _ q=>q;rintro rfl;rcases hc with rfl | hc
   ·rw[Zef]at e;cases e
   ·rw[Zef]at hc;cases hc
  have I5:Inv X pins σ H' { s' with heap:=h' }:=I2.call' (ch:=acc::fp) J.os un hok J.bare λb hb=>by
   obtain⟨g0,g1,g2,g3,g4,g5⟩:=Zi9 b hb;exact⟨g3,g1,g4,g5⟩
  refine⟨.ref acc,_,adopt (acc:=acc) I5 ?_ (Zam _ _ Zvz ho) hv hz,rfl,hq acc ha,by rw[aQ Zvz.symm];exact Zef⟩;obtain⟨g0,g1,g2,g3,g4,g5⟩:=Ztp;exact⟨ha,g1,g2,g3,g4,g5⟩
 have loop:codeAny ς X.A (.compLoop (.ListComp elt [⟨tg,iter,ifs,0⟩] scope pos) 0 (.ref it) (.ref acc) Y.env) (compPost ς X.A X.xe use Q0 (.ref acc) h3.objs.size)
   { s2 with heap:=h₁,toks:=s2.toks+([]:List (Str×AK)).length }:=by
  refine Zbh (λn s'=>∃(i:Nat) (v:L2.St) (ys:List V) (its:AE) (kk:Nat) (H':Hp),v.length=ns.length/\Inv Y [] (v++caps.map (pick σ)) H' s'/\tn i s'.heap/\(∀b∈fp,H' b=none)/\H' acc=none/\Vals ys its/\ys.length<=sizeLine/\
   s'.heap.get? acc=some { cls:=.type "list",data:=.seq its.toArray kk }/\W i n ys H') ?_ m0 ⟨0,List.replicate ns.length none,[],[],0,H2,List.length_replicate,I4,T.keep _ _ _ st2 (λb _ o e=>k34 _ _ (k23 _ _ e)),λb hb=>(f2 b hb).1,Ztp.1,.nil,Nat.zero_le _,k34 _ _ Zwn,w0⟩
  rintro n s5 ⟨i,v,ys,its,kk,H5,lv,I5,st5,fr5,ha5,hv5,hz5,ho5,w5⟩;have Zui:Inv Y [(acc,{ cls:=.type "list",data:=.seq its.toArray kk })] (v++caps.map (pick σ)) H5 s5:=I5.zB λp hp=>by
   have e:p=(acc,{ cls:=.type "list",data:=.seq its.toArray kk }):=by simpa using hp
   subst e;exact⟨ho5,ha5,exC acc List.mem_cons_self,Zcn acc List.mem_cons_self,λv=>by intro z;cases z⟩
  have fpA:∀{H':Hp},(∀b∈fp,H' b=none)->∀b∈fp,sG Y [(acc,{ cls:=.type "list",data:=.seq its.toArray kk })] H' b:=λhn b hb=>fpY (List.mem_cons_of_mem _ hb) (hn b hb) λp hp=>by
   have e:p=(acc,{ cls:=.type "list",data:=.seq its.toArray kk }):=by simpa using hp
   subst e;exact(Nat.ne_of_lt (fpl b hb)).symm
  rcases turn i n ys H5 w5 with ⟨stop,qn⟩ | ⟨go,hlt,step⟩
  ·refine iJ (T.done Y rfl rfl rfl hc i _ s5 _ H5 (λ_ _=>False) Zui (fpA fr5) st5 stop) λr s6 ⟨hr,I6⟩=>?_;subst hr;obtain⟨m,hm,_⟩:=I6.loc;have ho6:=(I6.pin (acc,{ cls:=.type "list",data:=.seq its.toArray kk }) (List.mem_append_right _ List.mem_cons_self)).1;exact hend acc h3.objs.size s6 m _ hm (λhf=>I2.Zem (by rw[hC,hacc];exact Nat.le_succ _) hf) (fin I6 ha5 hv5 hz5 ho6 qn)
  ·refine iJ (T.item Y rfl rfl rfl hc i _ s5 _ H5 (λ_ _=>False) Zui (fpA fr5) st5 go) λr s6 ⟨u,hr,h6⟩=>?_;subst hr;refine iJ h6 λ_ s7 ⟨z,H7,I7,r7,y7,st7,fr7⟩=>?_;have I7':=I7.pinned (fpA fr7) (T.obj _ _ st7);obtain⟨us,lu,hgt,step⟩:=step z H7 y7 v lv;have pg:PG Y tg gt:=hg _ _ _ _ _;refine iJ (pg _ s7 _ H7 z u (λσ2 H2'=>σ2=us++caps.map (pick σ)/\H2'=H7) I7' r7 hgt) λ_ s8 ⟨σ8,H8,I8,e8,e8'⟩=>?_;subst e8 e8';refine iJ (hf _ _ _ _ _ _ s8 _ H8 _ I8 step) λok s9 ⟨H9,I9,q9⟩=>?_;have stat:∀{H':Hp}{s':AL}{σ':L2.St},Inv Y ([(acc,{ cls:=.type "list",data:=.seq its.toArray kk })]++BP fp s7.heap) σ' H' s'->tn (i+1) s'.heap/\(∀b∈fp,H' b=none)/\H' acc=none/\s'.heap.get? acc=some { cls:=.type "list",data:=.seq its.toArray kk }:=λ{H' s' σ'} J=>by
    have pa:=J.pin (acc,{ cls:=.type "list",data:=.seq its.toArray kk }) (List.mem_append_right _ (List.mem_append_left _ List.mem_cons_self));refine⟨T.keep _ _ _ st7 λb hb o e=>(J.pin (b,o) (List.mem_append_right _ (List.mem_append_right _ (t6 hb e)))).1,λb hb=>?_,pa.2.1,pa.1⟩;obtain⟨o,e,d⟩:=T.obj _ _ st7 b hb;exact(J.pin (b,o) (List.mem_append_right _ (List.mem_append_right _ (t6 hb e)))).2.1
   have Zqg:∀{H':Hp}{s':AL}{σ':L2.St}{pl:Au},Inv Y pl σ' H' s'->Inv Y [] σ' H' s':=λJ=>J.zB λp hp=>nomatch hp;cases ok with
   | false=>
    obtain⟨m',hm,w9⟩:=q9;obtain⟨t1,t2,t3,t4⟩:=stat I9;exact⟨m',hm,i+1,us,ys,its,kk,H9,lu,Zqg I9,t1,t2,t3,hv5,hz5,t4,w9⟩
   | true=>
    show wpAny _ _ (eval elt Y.env) _ _ s9;refine iJ (he _ _ _ _ _ _ s9 _ H9 _ I9 q9) λy s10 ⟨yv,H10,I10,r10,m',hm,w10⟩=>?_;obtain⟨t1,t2,t3,t4⟩:=stat I10;have ZFc:Inv Y (BP fp s7.heap) (us++caps.map (pick σ)) H10 s10:=I10.zB λp hp=>I10.pin p (List.mem_append_right _ (List.mem_append_right _ hp));have fA:sG Y (BP fp s7.heap) H10 acc:=fpY List.mem_cons_self t3 λp hp=>Nat.ne_of_lt (fpl _ (Vp hp).1);have Ja:=adopt ZFc fA t4 hv5 hz5;refine iJ (j0 (X:=Y) _ s10 _ _ (.ref acc) [yv] (.ref acc) [y] (λ_ H'=>H'=upd (upd H10 acc (.lst ys)) acc (.lst (ys++[yv]))) Ja rfl (.cons r10 .nil) ⟨acc,ys,yv,rfl,rfl,az,hlt,rfl⟩) λ_ s11 ⟨_,H11,I11,_,e11⟩=>?_;rw[Wn]at e11;subst e11;obtain⟨Zxw,its',kk',Zxy,Zy2⟩:=I11.hok acc _ az;have Jd:=disown I11 fA;have Zwg:tn (i+1) s11.heap:=T.keep _ _ _ st7 λb hb o e=>(Jd.pin (b,o) (List.mem_append_right _ (t6 hb e))).1;exact⟨m',hm,i+1,us,ys++[yv],its',kk',H10,lu,Zqg Jd,Zwg,t2,t3,Zxy,Zxw,Zy2,w10⟩
 exact codeAny_compStart_list loop (T.self X.A 0 _ _ _ (T.keep _ _ _ st2 (λb _ o e=>k34 _ _ (k23 _ _ e))) loop)
theorem Zk9{X:Cx}{elt iter tg:AO}{pos:Pos}{ifs:AH}{scope:Scope}{cl:List (Str×AJ)}{wi:TI}{tc:TT}{te:TE}{cns:AI}{ns:AI}{gt:TG}{R:It->L2.St->Hp->VK->Prop}(caps:List Nat)
  (hR:∀J σ H Q,R J σ H Q->∃W:Nat->Nat->List V->Hp->Prop,(∃m,W 0 m [] H)/\∀i m ys H,W i m ys H->
   (J.stop i H/\∀p,H p=none->Q (.ref p) (upd H p (.lst ys)))\/
   (J.go i H/\ys.length<sizeLine/\∀x H',J.yld i H x H'->∀vs:L2.St,vs.length=ns.length->∃us:L2.St,us.length=ns.length/\gt x (vs++caps.map (pick σ)) H' (λσ2 H2=>σ2=us++caps.map (pick σ)/\H2=H')/\tc (us++caps.map (pick σ)) H' λk H2=>if k=true then te (us++caps.map (pick σ)) H2 (λy H3=>∃m',m'<m/\W (i+1) m' (ys++[y]) H3)else ∃m',m'<m/\W (i+1) m' ys H2))
  (hi:PI X tg iter wi) (hg:∀C s H ex pn,PG (Jp X scope cl (ns++cns) C s H ex pn) tg gt)
  (hf:∀C s H ex pn,PF (Jp X scope cl (ns++cns) C s H ex pn) ifs tc) (he:∀C s H ex pn,PE (Jp X scope cl (ns++cns) C s H ex pn) elt te) (hc:X.calm=true)
  (hclos:closureFor scope X.env=pure cl) (hcl:AllIn X.env.cells cl) (hcap:xN X cns caps)
  (hkind:scope.kind=.function) (hcell:(scope.names.all λp=>p.2 != .cell)=true) (hfree:(scope.names.all λp=>p.2 != .free || (cl.lookup p.1).isSome)=true)
  (hcf:(cns.all λy=>scope.names.lookup y == some .free)=true) (hnames:∀y∈scope.names,y.2=.local->scope.names.lookup y.1=some .local)
  (hs:∀v,foldedSetIterable iter X.env v=pure v):
  PE X (.ListComp elt [⟨tg,iter,ifs,0⟩] scope pos) (λσ H Q=>wi σ H λJ H1=>R J σ H1 Q):=by
 intro pins s σ H Q I h;rw[eval_ListComp];refine Zfx caps hR hi hg hf he hc hclos hcl hcap hkind hcell hfree hcf hnames hs I h λacc C s6 m r0 hm fC fin=>⟨m,hm,λh' hs'=>?_⟩;obtain⟨v,Hf,If,rf,qf,_⟩:=fin h' hs';exact⟨v,Hf,If,rf,qf⟩
theorem Zqe{X:Cx}{elt iter:AO}{x:Str}{px pos:Pos}{ifs:AH}{scope:Scope}{cl:List (Str×AJ)}{wi:TI}{tc:TT}{te:TE}{cns:AI}(caps:List Nat)
  (hi:PI X (.Name x px) iter wi)
  (hf:∀C s H ex pn,PF (Jp X scope cl (x::cns) C s H ex pn) ifs tc) (he:∀C s H ex pn,PE (Jp X scope cl (x::cns) C s H ex pn) elt te) (hc:X.calm=true)
  (hclos:closureFor scope X.env=pure cl) (hcl:AllIn X.env.cells cl) (hcap:xN X cns caps)
  (hkind:scope.kind=.function) (hcell:(scope.names.all λp=>p.2 != .cell)=true) (hfree:(scope.names.all λp=>p.2 != .free || (cl.lookup p.1).isSome)=true)
  (hcf:(cns.all λy=>scope.names.lookup y == some .free)=true) (hnames:∀y∈scope.names,y.2=.local->scope.names.lookup y.1=some .local) (hx:scope.names.lookup x=some .local) (hnd:(x::cns).Nodup)
  (hs:∀v,foldedSetIterable iter X.env v=pure v:=by intro _;rfl):
  PE X (.ListComp elt [⟨.Name x px,iter,ifs,0⟩] scope pos) (tLC wi caps tc te):=by
 refine Zk9 (ns:=[x]) (gt:=aO 0) caps (λJ σ H Q h=>?_) hi (λC s H ex pn=>fj hnd rfl (.inl (lookup_relabel_local hx)) (.inr (lookup_relabel_local hx))) hf he hc hclos hcl hcap hkind hcell hfree hcf hnames hs;obtain⟨W,w0,turn⟩:=h;refine⟨W,w0,λi m ys H hw=>(turn i m ys H hw).imp id λ⟨g,l,st⟩=>⟨g,l,λz H' y vs hv=>?_⟩⟩
 match vs,hv with
 | [v],_=>exact⟨[some z],rfl,⟨rfl,rfl⟩,st z H' y⟩
theorem Zgd(o:Obj)(f):(o.mapFields f).dict=o.dict:=by
 obtain⟨c,d,dt,sl⟩:=o;cases dt<;>rfl
structure TrD(h B:Heap)(e:AJ)(c:AK)(d:Option AJ)(fl:AK)(T:AJ):Prop where
 ex:∃o vs,h.get? e=some o/\(o.cls=c/\o.dict=d)/\o.data=.fields vs/\vs[1]? =↑T
 nw:B.get? T=none
 ne:T≠e
 tb:∃o ts,h.get? T=some o/\o.data=.fields ts/\ts[3]? =some fl
structure FlD(B:Heap)(l:List Env)(e:AJ)(c:AK)(d:Option AJ)(fl:AK)(h:Heap):Prop where
 st:B.StaysIn h
 nw:B.get? e=none
 fr:h.FunFrames B l
 tr:∃T,TrD h B e c d fl T
abbrev Zf5(B:Heap)(l:List Env)(e:AJ)(c:AK)(d:Option AJ)(h:Heap):Prop:=FlD B l e c d .none h
theorem FlD.there{B h:Heap}{l:List Env}{e:AJ}{c fl:AK}{d:Option AJ}(x:FlD B l e c d fl h):∃ob,h.get? e=some ob/\ob.cls=c:=by
 obtain⟨T,⟨o,vs,h1,h2,_⟩,_,_,_⟩:=x.tr;exact⟨o,h1,h2.1⟩
theorem FlD.first{B h:Heap}{l:List Env}{e:AJ}{c fl:AK}{d:Option AJ}(x:FlD B l e c d fl h):∃ob vs,h.get? e=some ob/\ob.cls=c/\ob.data=.fields vs/\ob.dict=d:=by
 obtain⟨T,⟨o,vs,h1,h2,h3,_⟩,_,_,_⟩:=x.tr;exact⟨o,vs,h1,h2.1,h3,h2.2⟩
theorem FlD.Zqp{B h:Heap}{v:Env}{l:List Env}{e:AJ}{c fl:AK}{d:Option AJ}(x:FlD B (v::l) e c d fl h):FlD B l e c d fl h:=by
 obtain⟨_,_,k⟩:=x.fr;exact⟨x.st,x.nw,k,x.tr⟩
section
variable {M:Model}{A:Around}{E:Ap}{s:AL}{B:Heap}{env:Env}{outer l:List Env}{L e:AJ}{c:AK}{d:Option AJ}{Q:Unit->AL->Prop}
theorem zL{h:Heap}{T:AJ}{ts:Array AK}{o:Obj}{f}(hT:h.get? T=some o)(hd:o.data=.fields ts):(∀b u,h.get? b=some u->(∀vs,u.data≠.fields vs)->(h.update T (Obj.mapFields f)).get? b=some u)/\∀b,b≠T->(h.update T (Obj.mapFields f)).get? b=h.get? b:=
 ⟨λb u hb n=>by
  rw[Heap.get?_update_other _ _ (λz=>?_)];exact hb;subst z;rw[hT]at hb;cases hb;exact n ts hd,λb n=>Heap.get?_update_other _ _ (Ne.symm n)⟩
theorem sr{fl:AK}(x:FlD B l e c d fl s.heap)(hQ:∀h',Zf5 B l e c d h'->s.heap.UpToSlots h'->Q () { s with heap:=h' }):wpAny M A (setFlight (.ref e) none) Q E s:=by
 obtain⟨T,⟨o,vs,a1,a2,a3,a4⟩,nw,ne,u,ts,b1,b2,b3⟩:=x.tr;have z3:3<ts.size:=(Array.getElem?_eq_some_iff.mp b3).1;unfold setFlight;refine wpAny_bind (wpAny_field a1 a3 a4 ?_);rw[if_pos ζ];obtain⟨k1,k2⟩:=zL (f:=(·.setIfInBounds 3 ((none:Option AJ).elim Value.none λf=>rawInt f))) b1 b2;refine wpAny_setField b1 b2 z3 (hQ _ ⟨λb v q=>?_,x.nw,x.fr.of_keeps λb v q n=>⟨v,k1 b v q n,rfl⟩,T,⟨o,vs,(k2 e (Ne.symm ne)).trans a1,a2,a3,a4⟩,nw,ne,_,_,Heap.get?_update_self _ b1 (Obj.isFreed_of_fields (Obj.data_mapFields b2 _)),Obj.data_mapFields b2 _,?_⟩ λb v q n=>⟨v.slots,k1 b v q n⟩)
 ·exact(k2 b λz=>by subst z;rw[nw]at q;cases q).trans (x.st b v q)
 ·simp[z3]
theorem Wa{o:Obj}{vs:Array AK}{hd0:AK}{hn:Bool}(hfr:A.frames=some (env::outer))(hl:s.heap.FunFrames B (env::outer))(hf:env.frame=some L)(he:s.heap.get? e=some o)(st:B.StaysIn s.heap)(nw:B.get? e=none)
  (hd:o.data=.fields vs) (z1:1<vs.size) (hQ:∀h',FlD B (env::outer) e o.cls o.dict (rawInt L) h'->s.heap.UpToSlots h'->Q () { s with heap:=h' }):
  wpAny M A (do let a <- frameOf env;let pl <- entryPlaceOf L hn;let b <- EntryCells.newEntry hd0 a .none (rawInt L) .none pl;setField (.ref e) 1 b) Q E s:=by
 have nf:e∉(env::outer).filterMap (·.frame):=λhm=>by
  obtain⟨_,u,hu,n⟩:=hl.mem hm;rw[he]at hu;cases hu;exact n vs hd
 refine wpAny_bind (wpAny_frameOf_fun hfr hl hf λg hg=>wpAny_bind (wpAny_entryPlaceOf λpl hpl=>?_));unfold EntryCells.newEntry newFields;refine wpAny_bind (wpAny_newObj_type ?_ (hpl.sizeOk5 _ _ _ _ _));have e1:g.get? e=some o:=(hg.2.1 e nf).trans he;have st1:B.StaysIn g:=λb u q=>(hg.2.1 b λhm=>by rw[(hl.mem hm).1]at q;cases q).trans (st b u q);have e2:=λ(w:Obj)=>Heap.get?_push_of_some (h:=g) w e1;have ne:g.objs.size≠e:=Nat.ne_of_gt (Heap.lt_size e1);refine wpAny_setField (e2 _) hd z1 (hQ _ ?_ ?_)
 ·obtain⟨k1,k2⟩:=zL (f:=(·.setIfInBounds 1 (Value.ref g.objs.size))) (e2 { cls:=.type "traceback",dict:=none,data:=.fields ([hd0,.ref L,.none,rawInt L,.none]++(if pl.isEmpty then List.replicate 6 Value.none else pl)).toArray }) hd;refine⟨λb u q=>?_,nw,hl.of_keeps λb u q n=>?_,g.objs.size,⟨_,_,Heap.get?_update_self _ (e2 _) (Obj.isFreed_of_fields (Obj.data_mapFields hd _)),⟨Obj.cls_mapFields _ _,Zgd _ _⟩,Obj.data_mapFields hd _,?_⟩,st1.fresh,ne,_,_,(k2 _ ne).trans (Heap.get?_push_size g rfl),rfl,?_⟩
  ·exact(k2 b λz=>by subst z;rw[nw]at q;cases q).trans (Heap.get?_push_of_some _ (st1 b u q))
  ·obtain⟨sl,hs⟩:=hg.2.2 b u q;exact⟨_,k1 b _ (Heap.get?_push_of_some _ hs) n,rfl⟩
  ·simp[z1]
  ·rcases hpl with rfl | ⟨_,_,_,_,_,_,_,rfl⟩<;>simp
 ·intro b u q n;obtain⟨k1,k2⟩:=zL (f:=(·.setIfInBounds 1 (Value.ref g.objs.size))) (e2 { cls:=.type "traceback",dict:=none,data:=.fields ([hd0,.ref L,.none,rawInt L,.none]++(if pl.isEmpty then List.replicate 6 Value.none else pl)).toArray }) hd;obtain⟨sl,hs⟩:=hg.2.2 b u q;exact⟨sl,k1 b _ (Heap.get?_push_of_some _ hs) n⟩
theorem Zi8{o:Obj}{vs:Array AK}(hfr:A.frames=some (env::outer))(hl:s.heap.FunFrames B (env::outer))(hf:env.frame=some L)(he:s.heap.get? e=some o)(st:B.StaysIn s.heap)(nw:B.get? e=none)
  (hd:o.data=.fields vs) (h1:vs[1]? =some .none) (hQ:∀h',FlD B (env::outer) e o.cls o.dict (rawInt L) h'->s.heap.UpToSlots h'->Q () { s with heap:=h' }):wpAny M A (noteFrame (.ref e) env) Q E s:=by
 unfold noteFrame;simp only[hf];refine wpAny_bind (wpAny_field he hd h1 ?_);rw[if_neg ε];exact Wa hfr hl hf he st nw hd (Array.getElem?_eq_some_iff.mp h1).1 hQ
theorem HR(hfr:A.frames=some (env::outer))(hf:env.frame=some L)(x:Zf5 B (env::outer) e c d s.heap)
  (hQ:∀h',FlD B (env::outer) e c d (rawInt L) h'->s.heap.UpToSlots h'->Q () { s with heap:=h' }):wpAny M A (noteFrame (.ref e) env) Q E s:=by
 obtain⟨T,⟨o,vs,a1,⟨rfl,rfl⟩,a3,a4⟩,nw,ne,u,ts,b1,b2,b3⟩:=x.tr;unfold noteFrame;simp only[hf];refine wpAny_bind (wpAny_field a1 a3 a4 ?_);rw[if_pos ζ];refine wpAny_bind (wpAny_field b1 b2 b3 ?_);rw[if_neg (by simp[rawInt])];obtain⟨k1,k2⟩:=zL (f:=(·.setIfInBounds 3 Value.none)) b1 b2;refine wpAny_bind (wpAny_setField b1 b2 (Array.getElem?_eq_some_iff.mp b3).1 ?_);exact Wa hfr (x.fr.of_keeps λb v q n=>⟨v,k1 b v q n,rfl⟩) hf ((k2 e (Ne.symm ne)).trans a1) (λb v q=>(k2 b λz=>by subst z;rw[nw]at q;cases q).trans (x.st b v q)) x.nw a3 (Array.getElem?_eq_some_iff.mp a4).1
  λh' y k=>hQ h' y λb v q n=>k b v (k1 b v q n) n
theorem Zdx(hfr:A.frames=some (env::outer))(hf:env.frame=some L)(x:Zf5 B (env::outer) e c d s.heap)
  (hQ:∀h',Zf5 B outer e c d h'->s.heap.UpToSlots h'->Q () { s with heap:=h' }):wpAny M A (leaving env (.ref e)) Q E s:=by
 unfold leaving;exact wpAny_bind (HR hfr hf x λh1 y k1=>sr (s:={ s with heap:=h1 }) y λh2 z k2=>hQ h2 z.Zqp (k1.trans k2))
structure ZFd(h h':Heap)(e:AJ)(c:AK)(d:Option AJ):Prop where
 keeps:∀b o,h.get? b=some o->h'.get? b=some o
 new:h.get? e=none
 there:∃o vs,h'.get? e=some o/\o.cls=c/\o.dict=d/\o.data=.fields vs/\vs[1]? =some .none
end
theorem HF{P:AN}{w:AQ}{H:Hp}{h:Heap}{a:AJ}{o:HO}(x:jc P w H h a o):∃ob,h.get? a=some ob:=by
 induction o with
 | lst xs=>obtain⟨_,_,_,_,e⟩:=x;exact⟨_,e⟩
 | tup xs=>obtain⟨_,_,_,ob,e,_⟩:=x;exact⟨ob,e⟩
 | dK kvs=>obtain⟨_,_,_,_,ob,_,_,e,_⟩:=x;exact⟨ob,e⟩
 | dT kvs=>obtain⟨_,_,_,_,ob,_,_,e,_⟩:=x;exact⟨ob,e⟩
 | set S n=>obtain⟨ob,_,_,_,e,_⟩:=x;exact⟨ob,e⟩
 | ins C dx fs=>obtain⟨_,_,_,e,_⟩:=x;exact⟨_,e⟩
 | own y=>exact x
 | xd fs=>obtain⟨_,⟨ob,_,_,e,_⟩,_⟩:=x;exact⟨ob,e⟩
 | rng lo hi=>obtain⟨_,_,_,e⟩:=x;exact⟨_,e⟩
 | Y9 ob u ih=>exact⟨_,x.1⟩
 | uE ps=>exact⟨_,x⟩
 | met f y=>exact⟨_,x⟩
 | ext φ=>obtain⟨_,e,_⟩:=x;exact e
theorem Wo{P:AN}{w:AQ}{fs:AG}{H0 H1:Hp}{h0 h1 h2:Heap}(u:Un fs [] H0 H1 h0 h1)(ok:oM P w H1 h1)(fr:∀b∈fs,H1 b=none)
  (kp:∀b o,h1.get? b=some o->((∃v,h0.get? b=some v)\/∃v,H1 b=some v)->b∉fs->h2.get? b=some o) (sl:∀b o,h1.get? b=some o->b∈fs->∃z,h2.get? b=some { o with slots:=z }):
  Un fs [] H0 H1 h0 h2/\oM P w H1 h2:=by
 refine⟨⟨λb o e n hb hx=>kp b o (u.keep b o e n hb hx) (.inl ⟨o,e⟩) hb,λb o e n hb hx=>?_,u.free,λb o e hx=>?_,u.tups,u.yW,u.Bh⟩,λa o e=>?_⟩
 ·obtain⟨z,e1⟩:=u.slot b o e n hb hx;obtain⟨z2,e2⟩:=sl b _ e1 hb;exact⟨z2,e2⟩
 ·obtain⟨o',e1⟩:=u.there b o e hx
  by_cases hb:b∈fs
  ·obtain⟨z,e2⟩:=sl b _ e1 hb;exact⟨_,e2⟩
  ·exact⟨o',kp b o' e1 (.inl ⟨o,e⟩) hb⟩
 ·refine(ok a o e).stay (λb v hb q=>?_) (λ_ q=>q) λ_ _ q=>q;have hs:∃v,H1 b=some v:=by
   rcases hb with z | z
   ·exact⟨o,by rw[z];exact e⟩
   ·exact⟨_,z⟩
  refine kp b v q (.inr hs) λz=>?_;obtain⟨v',e'⟩:=hs;rw[fr b z]at e';cases e'
def Kc(P:AN)(w:AQ):CXT:=λouter H s E e s'=>
 ∃(ea:AJ) (cls:AK) (a0:Option AJ) (B:Heap) (H':Hp),e=.ref ea/\s'.os=s.os/\AllBare s'.gens/\Un (frs outer) [] H H' s.heap s'.heap/\oM P w H' s'.heap/\Zf5 B outer ea cls a0 s'.heap/\
  (∀b o,s'.heap.get? b=some o->((∃v,s.heap.get? b=some v)\/∃v,H' b=some v)->b∉frs outer->B.get? b=some o)/\E cls a0 H'
theorem mL{P:AN}{w:AQ}{X:Cx}:Passes (Kc P w) X E0:=λ_ _ _ _ _ _ _ h=>by
 obtain⟨_,_,_,_,_,_,_,_,_,_,_,_,z⟩:=h;exact z.elim
section
variable {P:AN}{w:AQ}{K:aK}{mg:As}{base:Heap}{N:AI}{qual:Str}{scope:Scope}{f:AJ}{cd:AK}{A:Around}{outer:List Env}{s:AL}{H:Hp}{E:XK}
theorem rD:Passes (Kc P w) (Jo (Kc P w) P w K mg base N qual scope f cd A outer s H E) E:=by
 intro pins σ H1 s1 e s2 I h;obtain⟨ea,cls,a0,B,H2,rfl,os,bare,un,ok,fl,hB,hE⟩:=h;have J:Inv (Jo (Kc P w) P w K mg base N qual scope f cd A outer s H E) pins σ H2 s2:=I.call' os un ok bare (λb z=>nomatch z);have L0:∀b o,s.heap.get? b=some o->b≠(envOfC qual scope s.heap.objs.size f cd).locals:=λb o e=>Nat.ne_of_lt (Nat.lt_of_lt_of_le (Heap.lt_size e) I.ok.above);have nin:∀b,((∃v,s.heap.get? b=some v)\/∃v,H2 b=some v)->b∉frs outer->b∉frs (envOfC qual scope s.heap.objs.size f cd::outer):=λb hb hn hm=>by
  rcases List.mem_cons.mp (J.Gi b hm)with z | z
  ·rcases hb with ⟨v,e⟩ | ⟨v,e⟩
   ·exact L0 b v e z
   ·rw[z]at e;have:=J.free;rw[e]at this;cases this
  ·exact hn z
 have was:∀b,((∃v,s.heap.get? b=some v)\/∃v,H2 b=some v)->(∃v,s1.heap.get? b=some v)\/∃v,H2 b=some v:=λb hb=>by
  rcases hb with ⟨v,e⟩ | hb
  ·exact .inl (I.base.there b v e (λz=>nomatch z))
  ·exact .inr hb
 refine Zdx I.ok.frames rfl fl λh' fl' sm=>?_;have dat:∀b o,s2.heap.get? b=some o->b∈frs outer->∀vs,o.data≠.fields vs:=λb o e hb=>by
  obtain⟨_,o',ho',hd⟩:=J.wQ.mem hb;rw[e]at ho';cases ho';exact hd
 have inB:∀b o,s2.heap.get? b=some o->((∃v,s.heap.get? b=some v)\/∃v,H2 b=some v)->b∉frs outer->B.get? b=some o:=λb o e hb hn=>hB b o e (was b hb) (nin b hb hn);have U:=Wo (P:=P) (w:=w) (h2:=h') J.base J.hok (λb hb=>by
   obtain⟨_,o,ho,_⟩:=J.ok.wQ.mem hb;exact J.base.free b o ho (J.ok.frf b hb) (λz=>nomatch z)) (λb o e hb hn=>fl'.st _ _ (inB b o e hb hn)) λb o e hb=>sm b o e (dat b o e hb)
 refine⟨ea,cls,a0,B,H2,rfl,J.os,J.bare,U.1,U.2,fl',λb o e hb hn=>?_,hE⟩;have there:∃v,s2.heap.get? b=some v:=by
  rcases hb with ⟨v,z⟩ | ⟨v,z⟩
  ·exact J.base.there b v z (λz=>nomatch z)
  ·exact HF (J.hok b v z)
 obtain⟨v,z⟩:=there;have q:=inB b v z hb hn;have:=fl'.st _ _ q;rw[e]at this;cases this;exact q
end
def Ff:AE:=[.type "ValueError",.type "Exception",.type "BaseException",.type "object"]
section
variable {X:Cx}{x:Str}{C:AJ}{np cpos pos:Pos}{e:AO}{es:AH}{ta:TA}{E:XK}
end
def Wk(CX:CXT)(X:Cx)(E:L2.St->XK):Prop:=∀(pins:Au) (σ:L2.St) (H:Hp) (s:AL) (e:AK) (s':AL),Inv X pins σ H s->CX X.stack H s (E σ) e s'->X.xe e s'
section
variable {X:Cx}{CX:CXT}{k:Nat}{f C:AJ}{fd:AM}{ps:AI}{sp:Sp}{vA:List V}{ds:AE}{E:L2.St->XK}{x m:Str}{p pos apos:Pos}{e o:AO}{es:AH}{ta:TE}{t:TA}
theorem Znr{pins:Au}{σ:L2.St}{H:Hp}{s:AL}{Q:VK}{us:AE}{vs:List V}(F:vI X.prog X.w X.K X.mg X.base CX k f fd ps sp)(hr:Room k X.A)(hb:Binds X.K fd ps ds)(hd:Vals vA ds)(hx:Wk CX X E)
  (I:Inv X pins σ H s) (r:Vals vs us) (h:sp (vs++vA) H Q (E σ)):wpAny ς X.A (call (.ref f) us) (EP X pins σ Q) X.xe s:=by
 have r2:Vals (vs++vA) (us++ds):=r.append hd;have hl:(us++ds).length=ps.length:=by rw[<- r2.length];exact F.len _ _ _ _ h
 refine wpAny_call (codeAny_mono (F.run X.A X.stack s H ⟨us,[]⟩ (us++ds) (vs++vA) Q (E σ) hr I.env0 (hb s us I.pL hl) r2 h) λr s' hq=>?_);cases r with
 | error e=>exact hx pins σ H s e s' I hq
 | ok fl=>
  cases fl with
  | ret u=>exact I.after hq
  | next=>exact False.elim hq
  | brk=>exact False.elim hq
  | cont=>exact False.elim hq
theorem Z4(F:vI X.prog X.w X.K X.mg X.base CX k f fd ps sp)(hr:Room k X.A)(hg:Gl X x)(hm:X.mg x=↑f)(hk:W.keepIn X.K (.ref f)=true)(hb:Binds X.K fd ps ds)(hd:Vals vA ds)(hx:Wk CX X E)
  (ha:PA X (e::es) t) (hdb:(x == ("__debug__":Str))=false:=by decide) (he:starEach (e::es) X.env=(false,eval e X.env)::starEach es X.env:=by rfl) (hpl:(backTo pos (starEach es X.env)).any (·.1)=false:=by rfl):
  PE X (.Call (.Name x p) (e::es) [] pos) (Wt sp vA E t):=by
 intro pins s σ H Q I h;refine wpAny_Call_Name_kw (gB I hg hm ?_ hdb);refine W.callWith_K (h₀:=X.base) I.ok.mod.kin hk (iJ (ha pos pins s σ H _ I h) λus s1 ⟨vs,H1,I1,r,q⟩=>⟨I1.pL,?_⟩) he hpl;exact Znr F hr hb hd hx I1 r q
end
abbrev cxB(X:Cx)(pn:Au)(xe:Ap):Cx:={ X with pn:=pn,xe:=xe }
abbrev Mp(X:Cx)(ea:AK)(pn:Au):Cx:={ X with A:=X.A.mark (some ea),calm:=false,pn:=pn,xe:=λ_ _=>False }
section
variable {X:Cx}{pins:Au}{σ:L2.St}{H:Hp}{s:AL}
theorem Zs3(ok:X.Ok)(pn:Au)(xe:Ap):(cxB X pn xe).Ok:=
 ⟨ok.mod,ok.kind,ok.glob,ok.blt,ok.above,ok.inj,ok.has,ok.cab,ok.hd,ok.frames,ok.stk,ok.exf,ok.bs,ok.bsz,ok.Za3,ok.Zev,ok.wQ,ok.frf⟩
theorem Zs2(ok:X.Ok)(ea:AK)(pn:Au):(Mp X ea pn).Ok:=
 ⟨ok.mod,ok.kind,ok.glob,ok.blt,ok.above,ok.inj,ok.has,ok.cab,λz=>(nomatch z),ok.frames,ok.stk,ok.exf,ok.bs,ok.bsz,ok.Za3,ok.Zev,ok.wQ,ok.frf⟩
theorem Zj5(I:Inv X pins σ H s)(xe:Ap):Inv (cxB X (X.pn++pins) xe) [] σ H s:=
 ⟨Zs3 I.ok _ _,I.os,I.bare,I.base,I.loc,I.cell,I.free,I.oJ,λp hp=>I.pin p (by simpa using hp),I.hok,I.len⟩
theorem HD{xe:Ap}{pl:Au}(ok:X.Ok)(I:Inv (cxB X (X.pn++pins) xe) pl σ H s):Inv X pins σ H s:=
 ⟨ok,I.os,I.bare,I.base,I.loc,I.cell,I.free,I.oJ,λp hp=>I.pin p (List.mem_append_left _ hp),I.hok,I.len⟩
theorem mG(I:Inv X pins σ H s)(ea:AK):Inv (Mp X ea (X.pn++pins)) [] σ H s:=
 ⟨Zs2 I.ok _ _,I.os,I.bare,I.base,I.loc,I.cell,I.free,I.oJ,λp hp=>I.pin p (by simpa using hp),I.hok,I.len⟩
theorem Xg{ea:AK}{pl:Au}(ok:X.Ok)(I:Inv (Mp X ea (X.pn++pins)) pl σ H s):Inv X pins σ H s:=
 ⟨ok,I.os,I.bare,I.base,I.loc,I.cell,I.free,I.oJ,λp hp=>I.pin p (List.mem_append_left _ hp),I.hok,I.len⟩
theorem Zje{xe:Ap}{D:Ends}{f:Flow}(ok:X.Ok)(h:SP (cxB X (X.pn++pins) xe) [] D f s):SP X pins D f s:=by
 cases f with
 | next=>obtain⟨σ',H',I,q⟩:=h;exact⟨σ',H',HD ok I,q⟩
 | brk=>obtain⟨σ',H',I,q⟩:=h;exact⟨σ',H',HD ok I,q⟩
 | cont=>obtain⟨σ',H',I,q⟩:=h;exact⟨σ',H',HD ok I,q⟩
 | ret u=>obtain⟨v,σ',H',I,r,q⟩:=h;exact⟨v,σ',H',HD ok I,r,q⟩
theorem Pu{ea:AK}{D:Ends}{f:Flow}(ok:X.Ok)(h:SP (Mp X ea (X.pn++pins)) [] D f s):SP X pins D f s:=by
 cases f with
 | next=>obtain⟨σ',H',I,q⟩:=h;exact⟨σ',H',Xg ok I,q⟩
 | brk=>obtain⟨σ',H',I,q⟩:=h;exact⟨σ',H',Xg ok I,q⟩
 | cont=>obtain⟨σ',H',I,q⟩:=h;exact⟨σ',H',Xg ok I,q⟩
 | ret u=>obtain⟨v,σ',H',I,r,q⟩:=h;exact⟨v,σ',H',Xg ok I,r,q⟩
theorem flown{ea:AJ}{cls:AK}{a0:Option AJ}{B:Heap}{H2:Hp}{s2:AL}{h3:Heap}(I:Inv X pins σ H s)(os:s2.os=s.os)(bare:AllBare s2.gens)(un:Un (frs X.stack) [] H H2 s.heap s2.heap)(ok:oM X.prog X.w H2 s2.heap)
  (fl:Zf5 B X.stack ea cls a0 s2.heap) (hB:∀b o,s2.heap.get? b=some o->((∃v,s.heap.get? b=some v)\/∃v,H2 b=some v)->b∉frs X.stack->B.get? b=some o)
  (st:B.StaysIn h3) (sm:s2.heap.UpToSlots h3):Inv X pins σ H2 { s2 with heap:=h3 }:=by
 have fr:∀b∈frs X.stack,H2 b=none:=λb hb=>by
  obtain⟨_,o,ho,_⟩:=I.stack.mem hb;exact un.free b o ho (I.Ww b hb) (λz=>nomatch z)
 have U:=Wo (P:=X.prog) (w:=X.w) (h2:=h3) un ok fr (λb o e hb hn=>st _ _ (hB b o e hb hn)) λb o e hb=>by
  obtain⟨_,o',ho',hd⟩:=fl.fr.mem hb;rw[e]at ho';cases ho';exact sm b o e hd
 exact I.call' (s':={ s2 with heap:=h3 }) (ch:=[]) os U.1 U.2 bare (λb z=>nomatch z)
end
section
variable {X:Cx}{x:Str}{C:AJ}{np pos hpos:Pos}{body suite:List Stmt}{b₀:Stmt}{Mt:AK->Prop}{tb:(L2.St->XK)->TS}{th:TS}
theorem Zmz{pins:Au}{σ:L2.St}{H:Hp}{s:AL}{ea:AJ}{o:HO}(I:Inv X pins σ H s)(h0:H ea=none)(hn:X.s₀.heap.get? ea=none)(hl:ea≠X.env.locals)(hc:∀y c,X.env.cells.lookup y=some c->c≠ea)
  (hp:∀p∈X.pn++pins,p.1≠ea) (ok:jc X.prog X.w (upd H ea o) s.heap ea o):Inv X pins σ (upd H ea o) s:=by
 have ne:∀b u,H b=some u->b≠ea:=λb u e=>bI e h0;refine⟨I.ok,I.os,I.bare,⟨I.base.keep,I.base.slot,λb u e n hx=>?_,I.base.there,λb xs e=>?_,λb u xs e=>?_,λb ps e=>?_⟩,I.loc,I.cell,?_,λy c e=>?_,λp hm=>?_,λb u e=>?_,I.len⟩
 ·have:b≠ea:=λz=>by rw[z,hn]at e;cases e
  rw[aQ this];exact I.base.free b u e n hx
 ·have:=I.base.tups b xs e;rw[aQ (ne _ _ this)];exact this
 ·have:=I.base.yW b u xs e;rw[aQ (ne _ _ this)];exact this
 ·obtain⟨more,this⟩:=I.base.Bh b ps e;exact⟨more,by rw[aQ (ne _ _ this)];exact this⟩
 ·rw[aQ hl.symm];exact I.free
 ·rw[aQ (hc y c e)];exact I.oJ y c e
 ·obtain⟨p1,p2,p3⟩:=I.pin p hm;exact⟨p1,by rw[aQ (hp p hm)];exact p2,p3⟩
 ·by_cases z:b=ea
  ·subst z;rw[az]at e;cases e;exact ok
  ·rw[aQ z]at e;exact(I.hok b u e).stay (λ_ _ _ q=>q) (λc q=>by rw[aQ (ne _ _ q)];exact q) λc xs q=>by rw[aQ (ne _ _ q)];exact q
theorem gU{pins:Au}{σ:L2.St}{H:Hp}{s:AL}{i:Nat}{x:Str}{pos:Pos}{M:Model}{A:Around}{E:Ap}{Q:Unit->AL->Prop}(I:Inv X pins σ H s)(hN:X.N.Nodup)(hi:X.N[i]? =some x)(hk:X.env.scope.names.lookup x=some .local)
  (h:∀s',Inv X pins (σ.set i none) H s'->Q () s'):wpAny M A (do bindName X.env x .none;unbindBehindTheSuite X.env x pos) Q E s:=by
 obtain⟨m,hn,hl⟩:=id I.loc;have hcls:(X.env.scope.kind == .class || (X.env.scope.kind == .module && X.env.locals != X.env.globals))=false:=by rw[I.ok.kind];rfl
 refine wpAny_nameGoes_keeps hk hn hcls λh' v hn' hs=>h _ ?_;have neL:∀b o,X.s₀.heap.get? b=some o->b≠X.env.locals:=λb o e=>Nat.ne_of_lt (Nat.lt_of_lt_of_le (Heap.lt_size e) I.ok.above);refine⟨I.ok,I.os,I.bare,⟨λb o e n hb hx=>(hs.2 b (neL b o e)).trans (I.base.keep b o e n hb hx),λb o e n hb hx=>?_,I.base.free,λb o e hx=>?_,I.base.tups,I.base.yW,I.base.Bh⟩,⟨_,hn',λj y v' e1 e2 e3=>?_⟩,λy c e=>?_,I.free,I.oJ,λp hp=>?_,λb u e=>?_,by rw[List.length_set];exact I.len⟩
 ·obtain⟨sl,e1⟩:=I.base.slot b o e n hb hx;exact⟨sl,(hs.2 b (neL b o e)).trans e1⟩
 ·obtain⟨o',e1⟩:=I.base.there b o e hx;exact⟨o',(hs.2 b (neL b o e)).trans e1⟩
 ·by_cases hj:i=j
  ·subst hj
   by_cases hiσ:i < σ.length
   ·rw[List.getElem?_set_self hiσ]at e2;cases e2
   ·rw[List.getElem?_eq_none_iff.mpr (by rw[List.length_set];omega)]at e2;cases e2
  ·rw[List.getElem?_set_ne hj]at e2;obtain⟨u',r',q⟩:=hl j y v' e1 e2 e3;refine⟨u',r',?_⟩;rcases q with ⟨k,e⟩ | ⟨k,c,e,z⟩
   ·refine .inl ⟨k,?_⟩;have:y≠x:=λe=>hj (Ql hN hi (e ▸ e1));simp[this,e]
   ·exact .inr ⟨k,c,e,z.sameBut hs (I.cne y c e)⟩
 ·obtain⟨w',z⟩:=I.cell y c e;exact⟨w',z.sameBut hs (I.cne y c e)⟩
 ·obtain⟨e,n,ne,nf,d⟩:=I.pin p hp;exact⟨(hs.2 p.1 ne).trans e,n,ne,nf,d⟩
 ·refine(I.hok b u e).stay (λc w' hc q=>(hs.2 c ?_).trans q) (λ_ q=>q) λ_ _ q=>q;rintro rfl;rcases hc with rfl | hc
  ·rw[I.free]at e;cases e
  ·rw[I.free]at hc;cases hc
theorem Zk1{i:Nat}{nm:Str}(hex:X.ex=[])(hst:X.stack=X.env::X.outer/\X.env.frame=some X.env.locals)(hN:X.N.Nodup)(hi:X.N[i]? =some nm)(hk:X.env.scope.names.lookup nm=some .local)(hg:Gl X x)(hm:X.mg x=↑C)(hMt:∀c,Mt c->W.exmOne X.K c (.ref C)=some true)
  (hb:∀(E:L2.St->XK) (pn:Au) (xe:Ap),Wk (Kc X.prog X.w) (cxB X pn xe) E->Rh (cxB X pn xe) body (tb E))
  (hs:∀(ea:AK) (pn:Au),Rh (Mp X ea pn) (b₀::suite) th) (hd:(x == ("__debug__":Str))=false:=by decide):
  PS X (.Try body [.ExceptHandler (some (.Name x np)) (some nm) (b₀::suite) hpos] [] [] pos) (Zcf Mt i tb th):=by
 intro pins s σ H D I h;refine wpAny_Try_except ?_
 let D':Ends:=⟨λσ2 H2=>D.nx ac H2,D.rt,λσ2 H2=>D.bk ac H2,λσ2 H2=>D.ct ac H2⟩
 have hx:Wk (Kc X.prog X.w) (cxB X (X.pn++pins) λe s'=>∃ σ H s,Inv X pins σ H s/\Kc X.prog X.w X.stack H s (λcls d H'=>Mt cls/\∀ea,H' ea=none->th D' (σ.set i (↑ea)) (upd H' ea (fD ea cls d))) e s')
   (λσ' cls d H'=>Mt cls/\∀ea,H' ea=none->th D' (σ'.set i (↑ea)) (upd H' ea (fD ea cls d))):=
  λpl σ H s e s' J z=>⟨σ,H,s,HD I.ok J,z⟩
 refine wpAny_mono (hb _ _ _ hx [] s σ H D (Zj5 I _) h) (λf s1 q=>?_) λe s1 q=>?_
 ·have q:=Zje I.ok q;cases f with
  | next=>exact wpAny_execs_nil q
  | ret v=>exact q
  | brk=>exact q
  | cont=>exact q
 ·obtain⟨σ1,H1,s0,J,ea,cls,a0,B,H2,rfl,os,bare,un,ok,fl,hB,hM,hth⟩:=q;have fl0:=fl;rw[hst.1]at fl0;refine HR (hst.1 ▸ J.ok.frames) hst.2 fl0 λh4 Zly sm4=>?_;refine sr Zly λh5 fl5 sm5=>?_;have Zjk:s1.heap.UpToSlots h5:=sm4.trans sm5;have J5:=flown J os bare un ok fl hB fl5.st Zjk;refine wpAny_handleBy_cons (codeAny_handlers_test (gB (X:=Mp X (.ref ea) (X.pn++pins)) (mG J5 (.ref ea)) hg hm ?_ hd)) (by intro z;cases z);obtain⟨ob,hob,hoc⟩:=fl5.there;have LT:W.Looks ς h5 (typeOf (.ref ea)) cls:=hoc ▸ (W.Looks.ld hob).andThen .now;refine(W.exm_one J5.pL LT (hMt cls hM)).here ?_;refine codeAny_handlers_suite_as ?_;refine sr fl5 λh6 fl6 sm6=>?_;have J6:=flown J os bare un ok fl hB fl6.st (Zjk.trans sm6);obtain⟨oe,vs,e1,e2,e3,e4⟩:=fl6.first;have nfr:ea∉frs X.stack:=λz=>by
   obtain⟨_,o',ho',hd'⟩:=fl6.fr.mem (show ea∈(X.env::X.outer).filterMap (·.frame) by rw[<- hst.1];exact z);rw[e1]at ho';cases ho';exact hd' _ e3
  obtain⟨o1,eo1,_⟩:=fl.there;have Zko:s0.heap.get? ea=none:=by
   cases z:s0.heap.get? ea with
   | none=>rfl
   | some v=>
    have:=hB ea o1 eo1 (.inl ⟨v,z⟩) nfr;rw[fl.nw]at this;cases this
  have new1:H2 ea=none:=by
   cases z:H2 ea with
   | none=>rfl
   | some v=>
    have:=hB ea o1 eo1 (.inr ⟨v,z⟩) nfr;rw[fl.nw]at this;cases this
  have A6:Inv X pins σ1 (upd H2 ea (fD ea cls a0)) { s1 with heap:=h6 }:=by
   refine Zmz J6 new1 ?_ ?_ ?_ ?_ ?_
   ·cases z:X.s₀.heap.get? ea with
    | none=>rfl
    | some v=>
     obtain⟨o',e'⟩:=J.base.there ea v z (λw=>by rw[hex]at w;cases w);rw[Zko]at e';cases e'
   ·intro z;obtain⟨m,⟨ol,esl,epl,hol,hdl,_⟩,_⟩:=J6.loc;have hol':h6.get? X.env.locals=some ol:=hol;rw[<- z,e1]at hol';cases hol';rw[e3]at hdl;cases hdl
   ·intro y c e z;obtain⟨w',oc,Ztg,hdc⟩:=J6.cell y c e;have Zlw:h6.get? c=some oc:=Ztg;rw[z,e1]at Zlw;cases Zlw;rw[e3]at hdc;cases hdc
   ·intro p hp z;have:=(J.pin p hp).1;rw[z,Zko]at this;cases this
   ·exact⟨⟨oe,vs,e1,e2,e3,e4⟩,⟨oe,e1⟩,λh1 h2 ⟨o2,v2,a1,a2,a3,a4⟩ k=>⟨o2,v2,k _ a1,a2,a3,a4⟩⟩
  refine pU (X:=Mp X (.ref ea) (X.pn++pins)) (v:=.ref ea) (i:=i) (mG A6 (.ref ea)) hN hi (.inl hk) rfl (λs7 I7=>?_) (.inr hk);refine wpAny_mono (hs (.ref ea) (X.pn++pins) [] s7 _ _ D' I7 (hth ea new1)) (λf s8 q=>?_) λ_ _ z=>z.elim;have q:=Pu I.ok q;cases f with
  | next=>
   obtain⟨σ8,H8,I8,q⟩:=q;exact gU I8 hN hi hk λs9 I9=>⟨_,H8,I9,q⟩
  | brk=>
   obtain⟨σ8,H8,I8,q⟩:=q;exact gU I8 hN hi hk λs9 I9=>⟨_,H8,I9,q⟩
  | cont=>
   obtain⟨σ8,H8,I8,q⟩:=q;exact gU I8 hN hi hk λs9 I9=>⟨_,H8,I9,q⟩
  | ret u=>
   obtain⟨v,σ8,H8,I8,r,q⟩:=q;exact gU I8 hN hi hk λs9 I9=>⟨v,_,H8,I9,r,q⟩
end
section
variable {P:AN}{w:AQ}{K:aK}{mg:As}{base:Heap}{x qual:Str}{st:Stmt}{f:AJ}{fd:AM}{N ps:AI}{k:Nat}{sp:Sp}
theorem fok(F:nj K x qual st f fd)(S:bN N ps (aR st))(len:∀vs H Q E,sp vs H Q E->vs.length=ps.length)
  (hbody:∀(cdv:AK) (A:Around) (outer:List Env) (s:AL) (H:Hp) (vs:List V) (Q:VK) (E:XK),Room k (A.deeper (envOfC qual (aR st) s.heap.objs.size f cdv))->sp vs H Q E->
   ∃t,Rh (Jo (Kc P w) P w K mg base N qual (aR st) f cdv A outer s H E).nox (je st) t/\t { nx:=λ_ H'=>Q .non H',rt:=Q } (start N vs) H):vI P w K mg base (Kc P w) (k+1) f fd ps sp:=by
 obtain⟨oc,od,kV,doc,pm,an,cdv,ct,osl,rfl,lk,hcd⟩:=F.ex;refine Zmb lk hcd S len λA outer s H vs Q E hr hsp=>?_;obtain⟨t,h,q⟩:=hbody cdv A outer s H vs Q E hr hsp;exact⟨t,h.nox,q⟩
theorem ZF5(F:nj K x qual st f fd)(S:bN N ps (aR st))(len:∀vs H Q E,sp vs H Q E->vs.length=ps.length)
  (hbody:∀(cdv:AK) (A:Around) (outer:List Env) (s:AL) (H:Hp) (vs:List V) (Q:VK) (E:XK),Room k (A.deeper (envOfC qual (aR st) s.heap.objs.size f cdv))->sp vs H Q E->
   ∃t,Rh (Jo (Kc P w) P w K mg base N qual (aR st) f cdv A outer s H E) (je st) t/\t { nx:=λ_ H'=>Q .non H',rt:=Q } (start N vs) H):vI P w K mg base (Kc P w) (k+1) f fd ps sp:=by
 obtain⟨oc,od,kV,doc,pm,an,cdv,ct,osl,rfl,lk,hcd⟩:=F.ex;exact Zmb lk hcd S len λA outer s H vs Q E hr hsp=>hbody cdv A outer s H vs Q E hr hsp
theorem ZF6(F:Zu8 K x qual st f fd)(S:bN N ps (aR st))(len:∀vs H Q E,sp vs H Q E->vs.length=ps.length)
  (hbody:∀(cdv:AK) (A:Around) (outer:List Env) (s:AL) (H:Hp) (vs:List V) (Q:VK) (E:XK),Room k (A.deeper (envOfC qual (aR st) s.heap.objs.size f cdv))->sp vs H Q E->
   ∃t,Rh (Jo (Kc P w) P w K mg base N qual (aR st) f cdv A outer s H E).nox (je st) t/\t { nx:=λ_ H'=>Q .non H',rt:=Q } (start N vs) H):vI P w K mg base (Kc P w) (k+1) f fd ps sp:=by
 obtain⟨oc,od,dV,kV,doc,pm,an,cdv,ct,osl,rfl,lk,hcd⟩:=F.ex;refine Zmb lk hcd S len λA outer s H vs Q E hr hsp=>?_;obtain⟨t,h,q⟩:=hbody cdv A outer s H vs Q E hr hsp;exact⟨t,h.nox,q⟩
end
structure Uj(K:aK)(C:AJ):Prop where
 ga:W.findIn K (.ref C) "__getattribute__"=some (some (.builtin "BaseException.__getattribute__"))
 no:W.findIn K (.ref C) "__getattr__"=some none
 cl:W.findIn K (.ref C) "__class__"=some (some (.builtin "object.__class__"))
 so:W.mroIn K C (.type "object")=some true
 sb:W.mroIn K C (.type "BaseException")=some true
 is:W.hasDictIn K C=true
section
variable {prog:AN}{w:AQ}{A:Around}{E:Ap}{h:Heap}{g:Array GenState}{d:Drawn}{t:Nat}{os:OsState}{a:AJ}{o:Obj}{C:AJ}{K:aK}
theorem Zr1(X:K.In h)(F:Uj K C){M:Model}{Q:Bool->AL->Prop}(q:Q true ⟨h,g,d,t,os⟩):wpAny M A (isSubtype (.ref C) (.type (".".intercalate ("object.__class__".cutAt '.').dropLast))) Q E ⟨h,g,d,t,os⟩:=by
 rw[PySem.F.owner_object_class];exact(W.looks_mroIn X F.so).here q
theorem Zn9(X:K.In h)(F:Uj K C){M:Model}{Q:Bool->AL->Prop}(q:Q true ⟨h,g,d,t,os⟩):wpAny M A (isSubtype (.ref C) (.type "BaseException")) Q E ⟨h,g,d,t,os⟩:=(W.looks_mroIn X F.sb).here q
theorem JG{n:Str}{r:AC}(X:K.In h)(e:W.findIn K (.ref C) n=some r){M:Model}{Q:AC->AL->Prop}(q:Q r ⟨h,g,d,t,os⟩):wpAny M A (typeLookup (.ref C) n) Q E ⟨h,g,d,t,os⟩:=(W.looks_findIn X e).here q
theorem Zr2{R:Result->AL->Prop}(X:K.In h)(F:Uj K C)(hx:h.get? a=some o)(hc:o.cls=.ref C)(hq:R (.ok (.ret (.ref C))) ⟨h,g,d,t,os⟩):
  codeAny Ξ A (.call (.builtin "getset_descriptor.__get__") ⟨[.builtin "object.__class__",.ref a,.ref C],[]⟩) R ⟨h,g,d,t,os⟩:=by
 have h5:(⟨h,g,d,t,os⟩:AL).TypeIs (.builtin "object.__class__") "getset_descriptor":=PySem.F.typeOf_object_class;refine codeAny_call_builtin PySem.F.slot_gs_get.plain PySem.F.entry_gs_get (PySem.F.slot_gs_get.check _ _ _ _ _ _ _ _ h5 (PySem.F.args_gs_get _ _ _) ?_)
 repeat any_goals (first | assumption | (with_reducible refine wpAny_loadPart_at hx ?_;rw[hc]) | with_reducible refine Zr1 X F ?_ | wp_step)
 refine⟨Code.quiet_builtin _ γ,codeAny_builtin PySem.F.entry_object_class ?_⟩
 repeat any_goals (first | assumption | (with_reducible refine wpAny_loadPart_at hx ?_;rw[hc]) | wp_step)
theorem Ziw{tk:Tok}{Q:Fin->AL->Prop}(X:K.In h)(F:Uj K C)(hx:h.get? a=some o)(hc:o.cls=.ref C)(hq:Q (.done (.ret (.ref C))) ⟨h,g,d,t,os⟩):
  wpAny Ξ A (Builtin.«object.__getattribute__» ⟨[.ref a,.str "__class__" tk],[]⟩) Q E ⟨h,g,d,t,os⟩:=by
 have h5:(⟨h,g,d,t,os⟩:AL).TypeIs (.builtin "object.__class__") "getset_descriptor":=PySem.F.typeOf_object_class;have f5:=PySem.F.typeOf_object_class;have f6:=PySem.F.slot_gs_get.lookup;have f7:=PySem.F.slot_gs_set.lookup
 repeat any_goals (first | assumption | (with_reducible refine wpAny_loadPart_at hx ?_;rw[hc]) | with_reducible refine JG X F.cl ?_ | wp_step)
 refine Zr2 X F hx hc ?_
 repeat any_goals (first | assumption | wp_step)
theorem Zf{M:Model}{nameV:AK}{Q:Unit->AL->Prop}(X:K.In h)(F:Uj K C)(hx:h.get? a=some o)(hc:o.cls=.ref C)(hq:Q () ⟨h,g,d,t,os⟩):wpAny M A (checkBuiltinCall "BaseException.__getattribute__" ⟨[.ref a,nameV],[]⟩) Q E ⟨h,g,d,t,os⟩:=by
 have e1:builtinKind "BaseException.__getattribute__"=some .slot:=γ
 have e2:splitId "BaseException.__getattribute__"=some ("BaseException","__getattribute__"):=γ
 have ha:=PySem.F.args_bexc_ga (.ref a) nameV;simp only[checkBuiltinCall,e1,e2];refine wpAny_bind ?_;unfold isInstance
 repeat (first | (with_reducible refine wpAny_loadPart_at hx ?_;rw[hc]) | with_reducible refine Zn9 X F ?_ | wp_step)
 exact hq
theorem Zua{tk:Tok}{Q:Ap}(X:K.In h)(F:Uj K C)(hx:h.get? a=some o)(hc:o.cls=.ref C)(hq:Q (.ref C) ⟨h,g,d,t,os⟩):wpAny Ξ A (getAttrBy (.ref a) (.str "__class__" tk) false) Q E ⟨h,g,d,t,os⟩:=by
 have f3:=PySem.F.attr_ValueError.ga.bind (.ref a);have e1:(onTheHeap (Value.ref C) && Value.builtin "BaseException.__getattribute__" == Value.builtin "object.__getattribute__")=false:=by
  rw[show(Value.builtin "BaseException.__getattribute__" == Value.builtin "object.__getattribute__")=false by decide +kernel];rfl
 repeat any_goals (first | assumption | (with_reducible refine wpAny_loadPart_at hx ?_;rw[hc]) | with_reducible refine JG X F.ga ?_ | with_reducible refine JG X F.no ?_ | wp_step)
 refine codeAny_call_builtin PySem.F.attr_ValueError.ga.plain PySem.F.entry_bexc_ga (Zf X F hx hc (Ziw X F hx hc ?_))
 repeat any_goals (first | assumption | wp_step)
theorem Zna{Q:AC->AL->Prop}(X:K.In h)(F:Uj K C)(hx:h.get? a=some o)(hc:o.cls=.ref C)(hq:Q (↑C) ⟨h,g,d,t+1,os⟩):wpAny Ξ A (getAttr? (.ref a) "__class__") Q E ⟨h,g,d,t,os⟩:=by
 unfold getAttr? getAttrBy?
 repeat any_goals (first | assumption | with_reducible apply Zua X F hx hc | wp_step)
end
def atX(a C:AJ)(h:Heap):Prop:=∃o,h.get? a=some o/\o.cls=.ref C
theorem Zl7{K:aK}{a C:AJ}(F:Uj K C):W.KitX K (.ref a) (.ref C) (atX a C) where
 ty:=λ_ _ _ ⟨o,h1,h2⟩=>h2 ▸ (W.Looks.ld h1).andThen .now
 it:=λ_ _ X _=>by
  obtain⟨cd,hc,_⟩:=W.any_some F.is;unfold W.clsIn at hc;split at hc
  ·rename_i hob
   intro A' Q' E' s' k q;unfold isType loadHead;exact wpAny_bind (wpAny_loadPart (k _ _ (X _ _ hob)) (wpAny_pure q))
  ·cases hc
 ne:=λh tp dd its n sl X htp=>by
  obtain⟨cd,hc,_⟩:=W.any_some F.is;refine Bool.eq_false_iff.mpr λq=>?_;have e:C=tp:=Value.ref.inj (beq_iff_eq.mp q);subst e;unfold W.clsIn at hc;split at hc
  ·rename_i hob
   have z:=(X _ _ hob).symm.trans htp;cases z
  ·cases hc
 ca:=λ{prog w A E Q s} X ⟨o,h1,h2⟩ k=>by
  obtain⟨h,g,d,t,os⟩:=s;exact Zna X F h1 h2 k
section
variable {X:Cx}
def Y5(K:aK)(Cs:AG):Prop:=∀C∈Cs,Uj K C
theorem jL{Cs:AG}(F:Y5 X.K Cs):oR X (.builtin "isinstance") (rH Cs (W.kitOne X.K)):=by
 intro pins s σ H xs us Q I r h;obtain⟨a,c,C,k,⟨v,rfl,rv⟩,hC,⟨dx,ha⟩,hk,q⟩:=h;obtain⟨u,w',rfl,rx,rn⟩:=vals2 r;obtain rfl:u=Value.ref a:=rx;have ew:w'=c:=by
  cases v with
  | ref b=>exact(show w'=Value.ref b from rn).trans (show c=Value.ref b from rv).symm
  | ty n=>exact(show w'=Value.type n from rn).trans (show c=Value.type n from rv).symm
  | non=>exact(show w'=Value.none from rn).trans (show c=Value.none from rv).symm
  | bl b=>exact(show w'=Value.bool b from rn).trans (show c=Value.bool b from rv).symm
  | int i=>
   obtain⟨t1,e1⟩:=(show ∃t,c=Value.int i t from rv);subst e1;exact absurd hk (by unfold W.kitOne W.kitCls;rw[if_neg ζ];simp)
  | str i=>
   obtain⟨t1,e1⟩:=(show ∃t,c=Value.str i t from rv);subst e1;exact absurd hk (by unfold W.kitOne W.kitCls;rw[if_neg ζ];simp)
  | byt i=>
   obtain⟨t1,e1⟩:=(show ∃t,c=Value.bytes i t from rv);subst e1;exact absurd hk (by unfold W.kitOne W.kitCls;rw[if_neg ζ];simp)
  | flt i=>
   obtain⟨t1,e1⟩:=(show ∃t,c=Value.float i t from rv);subst e1;exact absurd hk (by unfold W.kitOne W.kitCls;rw[if_neg ζ];simp)
 subst ew;obtain⟨⟨o,vs,h1,h2,h3,_⟩,_⟩:=I.hok a _ ha;exact W.kia_one (Zl7 (F C hC)) I.pL ⟨o,h1,h2⟩ hk (λz=>nomatch z) λtk=>⟨.bl k,H,I.tok _,rfl,q⟩
theorem Mq:bootBuiltins "ValueError"=some (.type "ValueError"):=γ
theorem Q7:oR X (.type "list") (YF X.K):=by
 intro pins s σ H xs us Q I r h;obtain⟨p,ys,rfl,hs,q⟩:=h;exact YB pins s σ H [.ref p] us Q I r ⟨p,ys,rfl,.inl hs,q⟩
theorem Zia{xs ys:List V}{us ws:AE}(rx:Vals xs us)(ry:Vals ys ws)(fx:xs.all jE=true)(fy:ys.all jE=true)(hl:xs.length=ys.length):
  (∀(A:Around) (s:AL) (j:Nat) (h1:j<us.toArray.size) (h2:j<ws.toArray.size),SeqAt.EqAt A s us.toArray[j] ws.toArray[j] (match xs[j]?,ys[j]? with | some a,some b=>eqV a b | _,_=>false))/\
  (List.range us.toArray.size).all (λj=>match xs[j]?,ys[j]? with | some a,some b=>eqV a b | _,_=>false)=eqL xs ys:=by
 refine⟨λA s j h1 h2=>?_,?_⟩
 ·rw[List.size_toArray]at h1 h2;have l1:=rx.length;have l2:=ry.length;have a1:xs[j]? =some xs[j]:=dF δ;have a2:ys[j]? =some ys[j]:=dF δ;obtain⟨u,e1,r1⟩:=rx.get a1;obtain⟨w',e2,r2⟩:=ry.get a2;rw[dF h1]at e1;rw[dF h2]at e2;cases e1;cases e2;rw[a1,a2];exact Yv r1 r2 (List.all_eq_true.mp fx _ (List.getElem_mem δ)) (List.all_eq_true.mp fy _ (List.getElem_mem δ))
 ·rw[List.size_toArray,<- rx.length];unfold eqL;rw[beq_iff_eq.mpr hl,Bool.true_and,Bool.eq_iff_iff,List.all_eq_true,List.all_eq_true];constructor
  ·intro h p hp;obtain⟨j,hj,e⟩:=List.getElem_of_mem hp;rw[List.length_zip]at hj;have:=h j (List.mem_range.mpr δ);rw[dF (show j<xs.length by omega),dF (show j<ys.length by omega)]at this;rw[List.getElem_zip]at e;rw[<- e];exact this
  ·intro h j hj;have hj:=List.mem_range.mp hj;rw[dF (show j<xs.length by omega),dF (show j<ys.length by omega)];have hz:j<(xs.zip ys).length:=by rw[List.length_zip];omega
   have:=h _ (List.getElem_mem hz);rw[List.getElem_zip]at this;exact this
theorem Zps{xs ys:List V}(h:xs.length≠ys.length):eqL xs ys=false:=by
 unfold eqL;rw[show(xs.length == ys.length)=false by simpa using h,Bool.false_and]
theorem Zrz(hu:X.A.units+1<cLine):wZ X (compareOp .Eq) (Zue X.K false):=by
 intro pins s σ H x y v u Q I rx ry h;obtain⟨p,q',xs,ys,rfl,rfl,hx,hy,ff,q⟩:=h;cases rx;cases ry;obtain⟨us,r1,pl1,_⟩:=I.list hx;obtain⟨ws,r2,Z3,_⟩:=I.list hy;have hu':X.A.units<cLine:=δ
 by_cases hl:xs.length=ys.length
 ·obtain⟨e1,e2⟩:=Zia r1 r2 (ff hl).1 (ff hl).2 hl;refine SeqAt.eq_listAt pl1.isList Z3.isList (by rw[List.size_toArray,List.size_toArray,<- r1.length,<- r2.length];exact hl) hu' (λj h1 h2=>e1 _ _ j h1 h2) ?_;rw[e2];exact⟨.bl _,H,I,rfl,q⟩
 ·refine SeqAt.eq_list_lengthsAt pl1.isList Z3.isList ?_ hu' ?_
  ·rw[List.size_toArray,List.size_toArray,<- r1.length,<- r2.length];simpa using hl
  ·refine⟨.bl _,H,I,rfl,?_⟩;have:=q;rw[Zps hl]at this;exact this
end
section
variable {K:aK}{A:Around}{a C:AJ}{o:Obj}
end
section
variable {X:Cx}
end
end G
namespace G
open PySem L2
def Pq(C:AJ):TE:=λ_ H Q=>∀x dx,H x=none->H dx=none->dx≠x->Q (.ref x) (upd (upd H dx (.own x)) x (.ins C dx []))
theorem Zp6{C:AJ}{σ:St}{H:Hp}{Q:VK}(h:∀x dx,H x=none->H dx=none->dx≠x->Q (.ref x) (upd (upd H dx (.own x)) x (.ins C dx []))):Pq C σ H Q:=h
def Zj9(t u:TE):TE:=λσ H Q=>t σ H Q\/u σ H Q
theorem Zqj{t u:TE}{σ:St}{H:Hp}{Q:VK}(h:t σ H Q):Zj9 t u σ H Q:=.inl h
theorem Zlo{t u:TE}{σ:St}{H:Hp}{Q:VK}(h:u σ H Q):Zj9 t u σ H Q:=.inr h
end G
namespace G
open PySem L2 PySem.Spec PyProof.Rows
section
variable {X:Cx}
theorem Zfm{e:AO}{t u:TE}(h1:PE X e t)(h2:PE X e u):PE X e (Zj9 t u):=by
 intro pins s σ H Q I h;rcases h with h | h
 ·exact h1 pins s σ H Q I h
 ·exact h2 pins s σ H Q I h
structure Mk0(K:aK)(C:AJ):Prop where
 makes:W.makesIn K C=true
 init:W.findIn K (.ref C) "__init__"=some (some (.builtin "object.__init__"))
 kp:W.keepIn K (.ref C)=true
theorem Zd6{C:AJ}{pins:Au}{σ:L2.St}{H:Hp}{s:AL}{Q:VK}(M:Mk0 X.K C)(I:Inv X pins σ H s)
  (h:∀x dx,H x=none->H dx=none->dx≠x->Q (.ref x) (upd (upd H dx (.own x)) x (.ins C dx []))):wpAny ς X.A (call (.ref C) []) (EP X pins σ Q) X.xe s:=by
 have hq:=h ar s.heap.objs.size (I.hok.fresh (Nat.le_succ _)) (I.hok.fresh χ) (Nat.ne_of_lt (Nat.lt_succ_self _));have I2:=Inv.made (C:=C) I;have Y:=W.makes_of (M:=model X.prog X.w) I.pL M.makes;refine wpAny_call (Zhp I.pL M.makes M.init (λself=>W.Looks.of_pure (W.oi_bind self)) ?_);have e2:((s.heap.push W.emptyDict).push (W.instObj C s.heap.objs.size)).get? (s.heap.objs.size+1)=some (W.instObj C s.heap.objs.size):=by
  have:=Heap.get?_push_size (s.heap.push W.emptyDict) (o:=W.instObj C s.heap.objs.size) rfl;rw[Heap.size_push]at this;exact this
 have t1:W.Looks ς ((s.heap.push W.emptyDict).push (W.instObj C s.heap.objs.size)) (typeOf (.ref ar)) (.ref C):=(W.Looks.ld e2).andThen .now;have t2:W.Looks ς ((s.heap.push W.emptyDict).push (W.instObj C s.heap.objs.size)) (isInstance (.ref ar) (.type "object")) true:=t1.andThen (Y.top.keeps λb o e=>Heap.get?_push_of_some _ (Heap.get?_push_of_some _ e));refine codeAny_call_builtin W.oi_plain W.entry_oi (@W.check_slot ς _ _ _ "object.__init__" "object" "__init__" (.ref ar) [] [] _ W.oi_kind W.oi_split t2 (W.oi_args (.ref ar)) ?_);rw[W.oi_run];exact wpAny_pure (And.intro rfl ⟨V.ref ar,_,I2,rfl,hq⟩)
theorem Hj{C:AJ}{x:Str}{p pos:Pos}(M:Mk0 X.K C)(hg:Gl X x)(hm:X.mg x=↑C)(hdb:(x == ("__debug__":Str))=false:=by decide):PE X (.Call (.Name x p) [] [] pos) (Pq C):=by
 intro pins s σ H Q I h;refine wpAny_Call_Name_kw (gB I hg hm ?_ hdb);exact W.callWith_K0 I.pL M.kp (Zd6 M I h)
structure ZFe(K:aK)(C:AJ):Prop where
 pg:W.plainGet K C "__class__"=true
 hd:W.hasDictIn K C=true
 cl:W.findIn K (.ref C) "__class__"=some (some (.builtin "object.__class__"))
 sp:W.specialIn K (.builtin "object.__class__") "__get__"=some (some (.builtin "getset_descriptor.__get__"))
 tk:W.takesIn K (.builtin "object.__class__")=some true
 so:W.mroIn K C (.type "object")=some true
end
end G
namespace G
open PySem L2
end G
namespace G
open PySem L2 PySem.Spec PyProof.Rows
section
variable {σ:L2.St}{H:Hp}{Q:VK}{td ty tv:TE}{n bk ct:L2.St->Hp->Prop}{r:VK}
theorem Zt9(h:td σ H λx H1=>ty σ H1 λy H2=>∃a v,x=.ref a/\MJ H2 a y (some v)/\Q v H2):Zff td ty σ H Q:=h
theorem Zvr(h:ty σ H λy H1=>td σ H1 λx H2=>∃a o,x=.ref a/\MJ H2 a y o/\Q (.bl o.isSome) H2):Zr9 ty td σ H Q:=h
theorem Zt8(h:tv σ H λv H1=>td σ H1 λx H2=>ty σ H2 λy H3=>∃a H4,x=.ref a/\Zbq H3 a y v H4/\n σ H4):Vk td ty tv ⟨n,r,bk,ct⟩ σ H:=h
end
def Zf1(K:aK)(J:It)(caps:List Nat)(tc:TT)(te:TE)(σ:L2.St)(H1:Hp)(Q:VK):Prop:=∃W:Nat->Nat->List V->Hp->Prop,(∃m,W 0 m [] H1)/\∀i m ys H,W i m ys H->
 (J.stop i H/\∀p,H p=none->Q (.ref p) (upd H p (.lst ys)))\/
 (J.go i H/\ys.length<sizeLine/\∀x H',J.yld i H x H'->∃a u v,x=.ref a/\ig K H' a [u,v]/\tc (some u::some v::caps.map (pick σ)) H' λk H2=>if k=true then te (some u::some v::caps.map (pick σ)) H2 (λy H3=>∃m',m'<m/\W (i+1) m' (ys++[y]) H3)else ∃m',m'<m/\W (i+1) m' ys H2)
def Ws(K:aK)(wi:TI)(caps:List Nat)(tc:TT)(te:TE):TE:=λσ H Q=>wi σ H λJ H1=>Zf1 K J caps tc te σ H1 Q
theorem Zt1{K:aK}{wi:TI}{caps:List Nat}{tc:TT}{te:TE}{σ:L2.St}{H:Hp}{Q:VK}(h:wi σ H λJ H1=>Zf1 K J caps tc te σ H1 Q):Ws K wi caps tc te σ H Q:=h
def Zwf(K:aK)(te:TE):TE:=λσ H Q=>∃a u v r,σ=↑a::r/\ig K H a [u,v]/\te (some u::some v::r) H Q
theorem Zov{K:aK}{J:It}{caps:List Nat}{te:TE}{σ:L2.St}{H:Hp}{Q:VK}(h:LCg J caps oO (Zwf K te) σ H Q):Zf1 K J caps oO te σ H Q:=by
 obtain⟨W,w0,step⟩:=h;refine⟨W,w0,λi m ys H hw=>?_⟩;rcases step i m ys H hw with z | ⟨g,l,st⟩
 ·exact .inl z
 ·refine .inr ⟨g,l,λx H' y=>?_⟩;have h1:=st x H' y;simp only[oO,↓reduceIte]at h1;obtain⟨a,u,v,r,e,hs,q⟩:=h1;cases e;refine⟨a,u,v,rfl,hs,?_⟩;simp only[oO,↓reduceIte];exact q
theorem Zka{X:Cx}{elt iter:AO}{x y:Str}{px py pt pos:Pos}{kt:Nat}{ifs:AH}{scope:Scope}{cl:List (Str×AJ)}{wi:TI}{tc:TT}{te:TE}{cns:AI}(caps:List Nat)
  (hi:PI X (.Tuple [.Name x px,.Name y py] kt pt) iter wi)
  (hf:∀C s H ex pn,PF (Jp X scope cl (x::y::cns) C s H ex pn) ifs tc) (he:∀C s H ex pn,PE (Jp X scope cl (x::y::cns) C s H ex pn) elt te) (hc:X.calm=true)
  (hclos:closureFor scope X.env=pure cl) (hcl:AllIn X.env.cells cl) (hcap:xN X cns caps)
  (hkind:scope.kind=.function) (hcell:(scope.names.all λp=>p.2 != .cell)=true) (hfree:(scope.names.all λp=>p.2 != .free || (cl.lookup p.1).isSome)=true)
  (hcf:(cns.all λy=>scope.names.lookup y == some .free)=true) (hnames:∀y∈scope.names,y.2=.local->scope.names.lookup y.1=some .local) (hx:scope.names.lookup x=some .local) (hy:scope.names.lookup y=some .local) (hnd:(x::y::cns).Nodup)
  (hs:∀v,foldedSetIterable iter X.env v=pure v:=by intro _;rfl):
  PE X (.ListComp elt [⟨.Tuple [.Name x px,.Name y py] kt pt,iter,ifs,0⟩] scope pos) (Ws X.K wi caps tc te):=by
 refine Zk9 (ns:=[x,y]) (gt:=Yn X.K 2 (pZ (aO 0) (pZ (aO 1) Yo))) caps (λJ σ H Q h=>?_) hi (λC s H ex pn=>BR hc (jo (fj hnd rfl (.inl (lookup_relabel_local hx)) (.inr (lookup_relabel_local hx))) (jo (fj hnd rfl (.inl (lookup_relabel_local hy)) (.inr (lookup_relabel_local hy))) wF))) hf he hc hclos hcl hcap hkind hcell hfree hcf hnames hs;obtain⟨W,w0,turn⟩:=h;refine⟨W,w0,λi m ys H hw=>(turn i m ys H hw).imp id λ⟨g,l,st⟩=>⟨g,l,λz H' y vs hv=>?_⟩⟩;obtain⟨ta,u1,u2,ez,hst,st⟩:=st z H' y
 match vs,hv with
 | [v,v'],_=>exact⟨[some u1,some u2],rfl,⟨ta,_,ez,hst,rfl,_,_,rfl,_,_,rfl,rfl,rfl,rfl⟩,st⟩
def Rp(ns:AF):Prop:=∀i∈ns,Builtin.Int.intBits i<=2 ^ 20
theorem Zmx{i:Int}(h:(W.WData.int i).layable=true):Builtin.Int.intBits i<=2 ^ 20:=by
 unfold W.WData.layable at h;simp only[Bool.and_eq_true,decide_eq_true_eq]at h;have:=h.2;simp[W.WData.weight]at this;unfold Builtin.Int.intBits;simpa using this
theorem Ziy{l:W.OpenLaw}{n k:Nat}{q:AN}{loose:AI}{XP:(As)->Heap->Prop}{YP:AQ->Heap->Prop}{d:DefRec}{K:Params->aK}{CX:AQ->CXT}{sp:AQ->Sp}{x:Str}
  (hn:l.most=some n) (hn2:n<=sizeLine) (hdf:d.params.defaults=[]) (hr:Room k callerA)
  (hY:∀(w:AQ) (h:Heap),YP w h->(K w.params).In h)
  (F:∀(w:AQ) (mg:As) (fa:AJ) (h:Heap),(K w.params).In h->h.Ns mainGlobals mg->mg d.name=↑fa->
   ∃fd:AM,(∀(s:AL) (u:AK),BindsTo s fd ⟨[u],[]⟩ [(x,u)])/\
    ∀base:Heap,(K w.params).In base->base.Ns mainGlobals mg->vI l.prog w (K w.params) mg base (CX w) k fa fd [x] (sp w))
  (hsp:∀(w:AQ) (H:Hp) (a:AJ) (ns:AF),ns.length<=n->Only H->cN (K w.params) H a (ns.map V.int)->Rp ns->sp w [.ref a] H (λv _=>v=.bl true) λ_ _ _=>False)
  (hCX:∀(w:AQ) (H:Hp) (s:AL) (e:AK) (s':AL),CX w [] H s (λ_ _ _=>False) e s'->False):
  W.WalkO q loose XP YP l.row.toRowW d [] (λf vs=>PySem.call f vs):=by
 intro w s₀ s₁ mg mb G Y fa o pm cd doc dV kV ho hd hcd hD hmg hg args vals as hpre hlay hrd hwl hlo;obtain rfl:dV=.none:=W.Dflts.none hD hdf;obtain rfl:kV=.none:=W.Dflts.noKw hD;obtain⟨a,vs,ns,rfl,rfl,hobj,hints,hlen⟩:=Att.Zhf hn hpre hwl;have hb:Rp ns:=λi hi=>by
  unfold W.WData.layableAll at hlay;rw[List.all_cons,Bool.and_eq_true]at hlay;exact Zmx (W.layableW_item hlay.1 _ (List.mem_map.mpr ⟨i,hi,rfl⟩))
 have KX:=hY w _ Y;obtain⟨fd,hbd,hF⟩:=F w mg fa _ KX G.T.g hmg;refine W.enter_call (codeAny_mono (Zl6 KX G.T.g G.T.b G.T.builtins G.T.nolimit hg hobj hints (Nat.le_trans hlen hn2) hr hF hbd (λH hO hS=>hsp w H a ns hlen hO hS hb) λH e s'=>hCX w H s₁ e s') λr s' hq=>?_);obtain⟨rfl,h2,h3,h4⟩:=hq;exact⟨.inl ⟨.bool true,.bool true,[],rfl,λ_=>rfl,.bool true,Att.Zhl l _,λ_=>⟨List.Pairwise.nil,λ_ hm=>(nomatch hm)⟩⟩,h2,h3,h4⟩
theorem Zof{X:Cx}:wZ X (binaryOp .Mult) (rI IntMulOk λi j=>.int (i * j)):=opI λ_ _ _ _ _ _ _ hc q=>mul_int q hc
end G
namespace G
open PySem L2
def Ite(K:aK)(a:AJ):It:=
 ⟨λi H=>∃xs x,cN K H a xs/\xs[i]? =some x,λi H x H'=>∃t v,x=.ref t/\H t=none/\H'=upd H t (.tup [.int i,v])/\∀xs,cN K H a xs->xs[i]? =some v,λi H=>∃xs,cN K H a xs/\xs.length<=i⟩
def Zlr(K:aK)(ta:TA):TI:=λσ H R=>ta σ H λvs H1=>∃a,vs=[.ref a]/\(∃xs,cN K H1 a xs)/\R (Ite K a) H1
theorem Zxg{K:aK}{ta:TA}{σ:L2.St}{H:Hp}{R:It->Hp->Prop}(h:ta σ H λvs H1=>∃a,vs=[.ref a]/\(∃xs,cN K H1 a xs)/\R (Ite K a) H1):Zlr K ta σ H R:=h
def Zw8(K:aK):List V->Hp->VK->Prop:=λxs H Q=>∃p ys,xs=[.ref p]/\((cN K H p ys/\∀l,H l=none->Q (.ref l) (upd H l (.tup ys)))\/(ig K H p ys/\Q (.ref p) H))
section
variable {K:aK}{a:AJ}{g:TG}{tb:TS}{σ:L2.St}{H:Hp}{n:L2.St->Hp->Prop}{r:VK}
end
end G
namespace G
open PySem L2 PySem.Spec PyProof.Rows
theorem Zhu{X:Cx}{pins:Au}{σ:L2.St}{H:Hp}{s:AL}{h':Heap}{t':Nat}{e it:AJ}(I:Inv X pins σ H s)(k:∀b u,b≠e->b≠it->s.heap.get? b=some u->h'.get? b=some u)(fe:sG X pins H e)(fi:sG X pins H it):
  Inv X pins σ H { s with heap:=h',toks:=t' }:=by
 have ne:∀b u,H b=some u->b≠e:=λb u q z=>by rw[z,fe.1]at q;cases q
 have ni:∀b u,H b=some u->b≠it:=λb u q z=>by rw[z,fi.1]at q;cases q
 have nm:∀b,b∉[e,it]->b≠e/\b≠it:=λb hb=>⟨λz=>hb (by simp[z]),λz=>hb (by simp[z])⟩;refine I.step (g':=s.gens) (d':=s.drawn) (ch:=[e,it]) (λb hb=>?_) (λb o _ _ hc q _=>k b o (nm b hc).1 (nm b hc).2 q) (λb o _ _ hc q _=>⟨o.slots,k b o (nm b hc).1 (nm b hc).2 q⟩) (λ_ _ _ _ n=>n)
  (λb o hc q=>⟨o,k b o (nm b hc).1 (nm b hc).2 q⟩) (λ_ _ q=>q) (λ_ _ _ q=>q) (λb ps q=>⟨#[],by rw[q];simp⟩) (λm hm=>?_) (λb u q=>?_) I.bare
 ·rcases List.mem_cons.mp hb with z | z
  ·rw[z];exact⟨fe.2.2.2.1,fe.2.1,fe.2.2.2.2.1,fe.2.2.2.2.2⟩
  ·have z':b=it:=by simpa using z
   rw[z'];exact⟨fi.2.2.2.1,fi.2.1,fi.2.2.2.2.1,fi.2.2.2.2.2⟩
 ·obtain⟨o,es,ep,ho,r⟩:=hm;exact⟨o,es,ep,k _ o (Ne.symm fe.2.1) (Ne.symm fi.2.1) ho,r⟩
 ·refine(I.hok b u q).stay (λc v hc z=>?_) (λ_ z=>z) λ_ _ z=>z;rcases hc with y | y
  ·rw[y]at z ⊢;exact k b v (ne b u q) (ni b u q) z
  ·exact k c v (ne c _ y) (ni c _ y) z
theorem QH{X:Cx}{pins:Au}{σ:L2.St}{H:Hp}{s:AL}{h':Heap}{t':Nat}{e it a:AJ}{o:HO}(I:Inv X pins σ H s)(k:∀b u,b≠e->b≠it->s.heap.get? b=some u->h'.get? b=some u)(fe:sG X pins H e)(fi:sG X pins H it)
  (ha:s.heap.objs.size<=a) (new:jc X.prog X.w (upd H a o) h' a o):Inv X pins σ (upd H a o) { s with heap:=h',toks:=t' }:=by
 have hn:=I.hok.fresh ha;have ne:∀b u,H b=some u->b≠e:=λb u q z=>by rw[z,fe.1]at q;cases q
 have ni:∀b u,H b=some u->b≠it:=λb u q z=>by rw[z,fi.1]at q;cases q
 have nm:∀b,b∉[e,it]->b≠e/\b≠it:=λb hb=>⟨λz=>hb (by simp[z]),λz=>hb (by simp[z])⟩;have na:∀b u,s.heap.get? b=some u->b≠a:=λb u q=>Nat.ne_of_lt (Nat.lt_of_lt_of_le (Heap.lt_size q) ha);refine I.step (g':=s.gens) (d':=s.drawn) (ch:=[e,it]) (λb hb=>?_) (λb o _ _ hc q _=>k b o (nm b hc).1 (nm b hc).2 q) (λb o _ _ hc q _=>⟨o.slots,k b o (nm b hc).1 (nm b hc).2 q⟩) (λb u _ q n=>(aQ (na b u q)).trans n)
  (λb o hc q=>⟨o,k b o (nm b hc).1 (nm b hc).2 q⟩) (λb xs q=>(aQ (bI q hn)).trans q) (λb o xs q=>(aQ (bI q hn)).trans q) (λb ps q=>⟨#[],by rw[aQ (bI q hn),q];simp⟩) (λm hm=>?_) (λb u q=>?_) I.bare
 ·rcases List.mem_cons.mp hb with z | z
  ·rw[z];exact⟨fe.2.2.2.1,fe.2.1,fe.2.2.2.2.1,fe.2.2.2.2.2⟩
  ·have z':b=it:=by simpa using z
   rw[z'];exact⟨fi.2.2.2.1,fi.2.1,fi.2.2.2.2.1,fi.2.2.2.2.2⟩
 ·obtain⟨o,es,ep,ho,r⟩:=hm;exact⟨o,es,ep,k _ o (Ne.symm fe.2.1) (Ne.symm fi.2.1) ho,r⟩
 ·by_cases hb:b=a
  ·subst hb;rw[az]at q;cases q;exact new
  ·rw[aQ hb]at q;refine(I.hok b u q).stay (λc v hc z=>?_) (λc z=>by rw[aQ (bI z hn)];exact z) λc xs z=>by rw[aQ (bI z hn)];exact z
   rcases hc with y | y
   ·rw[y]at z ⊢;exact k b v (ne b u q) (ni b u q) z
   ·exact k c v (ne c _ y) (ni c _ y) z
theorem Zh8{P:AN}{w:AQ}{K:aK}{elts:AH}{x1:Nat}{pt:Pos}(a e it:AJ)(hne:e≠it):
    Turn P w K (.Tuple elts x1 pt) (Ite K a) [e,it] e (λi h=>(∃old,IsEnum h e it ((i:Nat):Int) old)/\h.IsListIter it a i) where
  mem:=ζ
  obj:=λi h st b hb=>by
    obtain⟨⟨old,he⟩,o,ho,c,d⟩:=st;rcases List.mem_cons.mp hb with z | z
    · rw[z];exact⟨_,he,λv z=>by cases z⟩
    · have z':b=it:=by simpa using z
      rw[z'];exact⟨o,ho,λv z=>by rw[d]at z;cases z⟩
  keep:=λi h h' st k=>⟨let ⟨old,he⟩:=st.1;⟨old,k e ζ _ he⟩,st.2.at λo q=>k it ζ o q⟩
  item:=by
    intro X hP hw hK hc i pins s σ H E I hf st hg;subst hP hw hK;obtain⟨xs,x,hq,hx⟩:=hg;obtain⟨its,rv,p,hz⟩:=I.list hq;obtain⟨u,hu,ru⟩:=rv.get hx;obtain⟨⟨old,he⟩,hit⟩:=st;have fe:=hf e ζ;have fi:=hf it ζ;have hes:e<s.heap.objs.size:=Heap.lt_size he;have his:it<s.heap.objs.size:=by obtain⟨o,q,_⟩:=hit;exact Heap.lt_size q
    refine wpAny_pyNext_enum_item he hit p.isList (x:=u) (by simpa using hu) hne λh1 ho1 hit1 ht1 hz1 hk1=>?_;refine⟨_,rfl,wpAny_letOwnedTupleGo_enum (s:={ s with heap:=h1,toks:=s.toks+1 }) ho1 λh2 he2 hs2=>?_⟩
    replace hs2:Heap.SameBut e h1 h2:=hs2
    have hn:H s.heap.objs.size=none:=I.hok.fresh χ;have I2:Inv X pins σ (upd H s.heap.objs.size (.tup [.int ((i:Nat):Int),x])) { s with heap:=h2,toks:=s.toks+1 }:=by
      refine QH I (λb v hb hb' q=>hs2.extBut b v hb (hk1 b v hb hb' q)) fe fi χ ?_;refine⟨by show 2<=sizeLine;decide,[.int ((i:Nat):Int) s.toks,u],.cons ⟨_,rfl⟩ (.cons ru .nil),⟨_,hs2.extBut _ _ (Nat.ne_of_gt hes) ht1,rfl,_,rfl⟩⟩
    refine⟨.ref s.heap.objs.size,_,I2,rfl,⟨_,x,rfl,hn,rfl,λys hy=>by rw[I.Qt hy hq];exact hx⟩,⟨⟨u,?_⟩,hit1.extBut hs2.extBut (Ne.symm hne)⟩,λb hb=>?_⟩
    · have e1:(((i+1:Nat)):Int)=(i:Int)+1:=δ
      show IsEnum h2 e it (((i+1:Nat)):Int) u;rw[e1];exact he2
    · rcases List.mem_cons.mp hb with z | z
      · rw[z,aQ (Nat.ne_of_lt hes)];exact fe.1
      · have z':b=it:=by simpa using z
        rw[z',aQ (Nat.ne_of_lt his)];exact fi.1
  done:=by
    intro X hP hw hK hc i pins s σ H E I hf st hg;subst hP hw hK;obtain⟨xs,hq,hx⟩:=hg;obtain⟨its,rv,p,hz⟩:=I.list hq;obtain⟨⟨old,he⟩,hit⟩:=st;have hl:=rv.length;exact wpAny_pyNext_enum_end (I.ok.hd hc) he hit p.isList (by simp;omega) λh' hx'=>⟨rfl,Zhu (t':=s.toks) I (λb o _ hb' q=>hx' b o hb' q) (hf e ζ) (hf it ζ)⟩
  self:=λA i s Q E st h=>let ⟨_,he⟩:=st.1;wpAny_pyIter_enum he h
theorem Zo2{X:Cx}{elts:AH}{x1:Nat}{pt:Pos}{l:AO}{ta:TA}{p pos:Pos}(hg:Gl X "enumerate")(hm:X.mg "enumerate"=none)(ha:PA X [l] ta)(hs:starEach [l] X.env=[(false,eval l X.env)]:=by rfl):
  PI X (.Tuple elts x1 pt) (.Call (.Name "enumerate" p) [l] [] pos) (Zlr X.K ta):=by
 intro pins s σ H R I h;refine Call_ (Ck I hg hm boot_enumerate (PyProof.Rows.callWith_type1 (iJ (ha pos pins s σ H _ I h) λus s1 ⟨vs,H1,I1,r1,q1⟩=>?_) hs rfl));obtain⟨a,e,⟨xs,hq⟩,q⟩:=q1;subst e;cases r1 with
 | cons r rr=>
  cases rr;obtain rfl:_=Value.ref a:=r;obtain⟨its,rv,pl,hz⟩:=I1.list hq;refine call_enumerate_list pl.isList λh' he hit hsz hk=>?_;have I2:Inv X pins σ H1 { s1 with heap:=h' }:=I1.kept (t':=s1.toks) hk
  refine wpAny_pyIter_enum (s:={ s1 with heap:=h' }) he ?_;have hf:∀b,s1.heap.objs.size<=b->sG X pins H1 b:=λb hb=>I1.Zem hb (I1.hok.fresh hb);refine⟨_,[s1.heap.objs.size+1,s1.heap.objs.size],_,_,H1,rfl,I2,Zh8 a _ _ (Nat.succ_ne_self _),⟨⟨_,he⟩,hit⟩,λb hb=>?_,q⟩;rcases List.mem_cons.mp hb with z | z
  ·rw[z];exact hf _ (Nat.le_succ _)
  ·have z':b=s1.heap.objs.size:=by simpa using z
   rw[z'];exact hf _ χ
section
variable {X:Cx}{i o:AO}{ty td:TE}
end
section
variable {X:Cx}
end
section
variable {X:Cx}{pins:Au}{σ:L2.St}{H:Hp}{s:AL}{h':Heap}{t':Nat}{ch:AG}
theorem Zht(I:Inv X pins σ H s)(k:∀b u,b∉ch->s.heap.get? b=some u->h'.get? b=some u)(f:∀e∈ch,sG X pins H e):Inv X pins σ H { s with heap:=h',toks:=t' }:=by
 have ne:∀b u,H b=some u->b∉ch:=λb u q z=>by rw[(f b z).1]at q;cases q
 refine I.step (g':=s.gens) (d':=s.drawn) (ch:=ch) (λb hb=>⟨(f b hb).2.2.2.1,(f b hb).2.1,(f b hb).2.2.2.2.1,(f b hb).2.2.2.2.2⟩) (λb o _ _ hc q _=>k b o hc q) (λb o _ _ hc q _=>⟨o.slots,k b o hc q⟩) (λ_ _ _ _ n=>n)
  (λb o hc q=>⟨o,k b o hc q⟩) (λ_ _ q=>q) (λ_ _ _ q=>q) (λb ps q=>⟨#[],by rw[q];simp⟩) (λm hm=>?_) (λb u q=>?_) I.bare
 ·obtain⟨o,es,ep,ho,r⟩:=hm;exact⟨o,es,ep,k _ o (λz=>(f _ z).2.1 rfl) ho,r⟩
 ·refine(I.hok b u q).stay (λc v hc z=>?_) (λ_ z=>z) λ_ _ z=>z;rcases hc with y | y
  ·rw[y]at z ⊢;exact k b v (ne b u q) z
  ·exact k c v (ne c _ y) z
theorem QG{a:AJ}{o:HO}(I:Inv X pins σ H s)(k:∀b u,b∉ch->s.heap.get? b=some u->h'.get? b=some u)(f:∀e∈ch,sG X pins H e)(ha:s.heap.objs.size<=a)(new:jc X.prog X.w (upd H a o) h' a o):Inv X pins σ (upd H a o) { s with heap:=h',toks:=t' }:=by
 have hn:=I.hok.fresh ha;have ne:∀b u,H b=some u->b∉ch:=λb u q z=>by rw[(f b z).1]at q;cases q
 have na:∀b u,s.heap.get? b=some u->b≠a:=λb u q=>Nat.ne_of_lt (Nat.lt_of_lt_of_le (Heap.lt_size q) ha);refine I.step (g':=s.gens) (d':=s.drawn) (ch:=ch) (λb hb=>⟨(f b hb).2.2.2.1,(f b hb).2.1,(f b hb).2.2.2.2.1,(f b hb).2.2.2.2.2⟩) (λb o _ _ hc q _=>k b o hc q) (λb o _ _ hc q _=>⟨o.slots,k b o hc q⟩) (λb u _ q n=>(aQ (na b u q)).trans n)
  (λb o hc q=>⟨o,k b o hc q⟩) (λb xs q=>(aQ (bI q hn)).trans q) (λb o xs q=>(aQ (bI q hn)).trans q) (λb ps q=>⟨#[],by rw[aQ (bI q hn),q];simp⟩) (λm hm=>?_) (λb u q=>?_) I.bare
 ·obtain⟨o,es,ep,ho,r⟩:=hm;exact⟨o,es,ep,k _ o (λz=>(f _ z).2.1 rfl) ho,r⟩
 ·by_cases hb:b=a
  ·subst hb;rw[az]at q;cases q;exact new
  ·rw[aQ hb]at q;refine(I.hok b u q).stay (λc v hc z=>?_) (λc z=>by rw[aQ (bI z hn)];exact z) λc xs z=>by rw[aQ (bI z hn)];exact z
   rcases hc with y | y
   ·rw[y]at z ⊢;exact k b v (ne b u q) z
   ·exact k c v (ne c _ y) z
end
structure Zd(z TI TO i1 i2:AJ):Prop where
 TIz:TI≠z
 TOz:TO≠z
 i1z:i1≠z
 i2z:i2≠z
 TITO:TI≠TO
 TIi1:TI≠i1
 TIi2:TI≠i2
 TOi1:TO≠i1
 TOi2:TO≠i2
 i12:i1≠i2
theorem Zu9(n:Nat):Zd (n+4) (n+2) (n+3) n (n+1):=⟨(by omega:((n+2:Nat)≠(n+4:Nat))),(by omega:((n+3:Nat)≠(n+4:Nat))),(by omega:((n:Nat)≠(n+4:Nat))),(by omega:((n+1:Nat)≠(n+4:Nat))),(by omega:((n+2:Nat)≠(n+3:Nat))),(by omega:((n+2:Nat)≠(n:Nat))),(by omega:((n+2:Nat)≠(n+1:Nat))),(by omega:((n+3:Nat)≠(n:Nat))),(by omega:((n+3:Nat)≠(n+1:Nat))),(by omega:((n:Nat)≠(n+1:Nat)))⟩
section
variable {K:aK}{a b:AJ}{g:TG}{tb:TS}{σ:L2.St}{H:Hp}{n:L2.St->Hp->Prop}{r:VK}
end
def Dq(K:aK)(H:Hp):Nat->V->V->Prop
 | 0,x,y=>x=y/\jE x=true
 | d+1,x,y=>(x=y/\jE x=true)\/∃a b,x=.ref a/\y=.ref b/\(a=b\/∃xs ys,((cN K H a xs/\cN K H b ys)\/(ig K H a xs/\ig K H b ys))/\Al (Dq K H d) xs ys)
theorem Zpu{K:aK}{H:Hp}{d:Nat}{x:V}(h:jE x=true):Dq K H d x x:=by
 cases d with
 | zero=>exact⟨rfl,h⟩
 | succ d=>exact .inl ⟨rfl,h⟩
theorem vB{K:aK}{H:Hp}{d:Nat}:∀{xs:List V},xs.all jE=true->Al (Dq K H d) xs xs
 | [],_=>.nil
 | x::xs,h=>by
  rw[List.all_cons,Bool.and_eq_true]at h;exact .cons (Zpu h.1) (vB h.2)
def Zdb(K:aK)(neg:Bool):R2:=λx y H Q=>∃a b xs ys,x=.ref a/\y=.ref b/\((cN K H a xs/\cN K H b ys)\/(ig K H a xs/\ig K H b ys))/\Al (Dq K H 6) xs ys/\Q (.bl (!neg)) H
section
variable {X:Cx}
theorem Zb9:∀{x:V},jE x=true->eqV x x=true
 | .non,_=>rfl
 | .bl b,_=>by cases b<;>rfl
 | .int i,_=>by simp[eqV]
 | .str z,_=>by simp[eqV]
theorem Zw5{pins:Au}{σ:L2.St}{H:Hp}{s:AL}(I:Inv X pins σ H s):∀(d:Nat) {A:Around}{x y:V}{u v:AK},A.units+d<cLine->RelV x u->RelV y v->Dq X.K H d x y->SeqAt.EqAt A s u v true:=by
 intro d
 induction d with
 | zero=>
  intro A x y u v hu rx ry h;obtain⟨rfl,hf⟩:=h;have:=Yv (A:=A) (s:=s) rx ry hf hf;rw[Zb9 hf]at this;exact this
 | succ d ih=>
  intro A x y u v hu rx ry h;rcases h with ⟨rfl,hf⟩ | ⟨a,b,rfl,rfl,h⟩
  ·have:=Yv (A:=A) (s:=s) rx ry hf hf;rw[Zb9 hf]at this;exact this
  ·obtain rfl:u=Value.ref a:=rx;obtain rfl:v=Value.ref b:=ry
   by_cases e:a=b
   ·subst e;exact SeqAt.EqAt.same _
   rcases h with rfl | ⟨xs,ys,hs,al⟩
   ·exact absurd rfl e
   ·refine SeqAt.EqAt.of_refs e ?_;have hl:=al.length;have hu':A.units<cLine:=δ
    have item:∀{us ws:AE},Vals xs us->Vals ys ws->∀(j:Nat) (h1:j<us.toArray.size) (h2:j<ws.toArray.size),SeqAt.EqAt A.in1 s us.toArray[j] ws.toArray[j] true:=by
     intro us ws r1 r2 j h1 h2;rw[List.size_toArray]at h1 h2;have l1:=r1.length;have l2:=r2.length;have a1:xs[j]? =some xs[j]:=dF δ;have a2:ys[j]? =some ys[j]:=dF δ;obtain⟨u',e1,q1⟩:=r1.get a1;obtain⟨w',e2,q2⟩:=r2.get a2;rw[dF h1]at e1;rw[dF h2]at e2;cases e1;cases e2;obtain⟨x',e3,dq⟩:=al.get a2;rw[a1]at e3;cases e3;exact ih (A:=A.in1) (by show A.units+1+d<cLine;omega) q1 q2 dq
    rcases hs with ⟨ha,hb⟩ | ⟨ha,hb⟩
    ·obtain⟨us,r1,pl1,_⟩:=I.list ha;obtain⟨ws,r2,Z3,_⟩:=I.list hb;have:=SeqAt.RcAt.lists (A:=A) (e:=λ_=>true) pl1.isList Z3.isList (by rw[List.size_toArray,List.size_toArray,<- r1.length,<- r2.length];exact hl) hu' (λj h1 h2=>item r1 r2 j h1 h2);rw[show(List.range us.toArray.size).all (λ_=>true)=true from by rw[List.all_eq_true];intros;rfl]at this;exact this
    ·obtain⟨us,r1,pl1,_⟩:=I.tuple ha;obtain⟨ws,r2,Z3,_⟩:=I.tuple hb;have e0:us.toArray.size=ws.toArray.size:=by rw[List.size_toArray,List.size_toArray,<- r1.length,<- r2.length];exact hl
     have:=SeqAt.RcAt.tuples (A:=A) (e:=λ_=>true) pl1 Z3 hu' (λj h1 h2=>item r1 r2 j h1 h2);rw[show(List.range (min us.toArray.size ws.toArray.size)).all (λ_=>true)=true from by rw[List.all_eq_true];intros;rfl,e0]at this;simpa using this
theorem zM{pins:Au}{σ:L2.St}{H:Hp}{s:AL}(I:Inv X pins σ H s){A:Around}(hu:A.units+8<cLine){xs ys:List V}{us ws:AE}(al:Al (Dq X.K H 6) xs ys)(r1:Vals xs us)(r2:Vals ys ws)(j:Nat)(h1:j<us.toArray.size)(h2:j<ws.toArray.size):SeqAt.EqAt A.in1 s us.toArray[j] ws.toArray[j] true:=by
 rw[List.size_toArray]at h1 h2;have l1:=r1.length;have l2:=r2.length;have a1:xs[j]? =some xs[j]:=dF δ;have a2:ys[j]? =some ys[j]:=dF δ;obtain⟨u',e1,q1⟩:=r1.get a1;obtain⟨w',e2,q2⟩:=r2.get a2;rw[dF h1]at e1;rw[dF h2]at e2;cases e1;cases e2;obtain⟨x',e3,dq⟩:=al.get a2;rw[a1]at e3;cases e3;exact Zw5 I 6 (A:=A.in1) (by show A.units+1+6<cLine;omega) q1 q2 dq
theorem Zry(hu:X.A.units+64<cLine):wZ X (compareOp .Eq) (Zdb X.K false):=by
 intro pins s σ H x y v u Q I rx ry h;obtain⟨p,q',xs,ys,rfl,rfl,hs,al,q⟩:=h;obtain rfl:v=Value.ref p:=rx;obtain rfl:u=Value.ref q':=ry;have hl:=al.length;rcases hs with ⟨ha,hb⟩ | ⟨ha,hb⟩
 ·obtain⟨us,r1,pl1,_⟩:=I.list ha;obtain⟨ws,r2,Z3,_⟩:=I.list hb;refine SeqAt.eq_listAt (e:=λ_=>true) pl1.isList Z3.isList (by rw[List.size_toArray,List.size_toArray,<- r1.length,<- r2.length];exact hl) δ (zM I δ al r1 r2) ?_;rw[show(List.range us.toArray.size).all (λ_=>true)=true from by rw[List.all_eq_true];intros;rfl];exact⟨.bl _,H,I,rfl,q⟩
 ·obtain⟨us,r1,pl1,_⟩:=I.tuple ha;obtain⟨ws,r2,Z3,_⟩:=I.tuple hb;have e0:us.toArray.size=ws.toArray.size:=by rw[List.size_toArray,List.size_toArray,<- r1.length,<- r2.length];exact hl
  refine SeqAt.eq_tupleAt (e:=λ_=>true) pl1 Z3 δ (zM I δ al r1 r2) ?_;rw[show(List.range (min us.toArray.size ws.toArray.size)).all (λ_=>true)=true from by rw[List.all_eq_true];intros;rfl,e0];simp only[beq_self_eq_true,Bool.and_self];exact⟨.bl _,H,I,rfl,q⟩
theorem Zdg(hu:X.A.units+64<cLine):wZ X (compareOp .NotEq) (Zdb X.K true):=by
 intro pins s σ H x y v u Q I rx ry h;obtain⟨p,q',xs,ys,rfl,rfl,hs,al,q⟩:=h;obtain rfl:v=Value.ref p:=rx;obtain rfl:u=Value.ref q':=ry;have hl:=al.length;rcases hs with ⟨ha,hb⟩ | ⟨ha,hb⟩
 ·obtain⟨us,r1,pl1,_⟩:=I.list ha;obtain⟨ws,r2,Z3,_⟩:=I.list hb;have:=SeqAt.RcNeAt.lists (A:=X.A) (s:=s) (e:=λ_=>true) pl1.isList Z3.isList (by rw[List.size_toArray,List.size_toArray,<- r1.length,<- r2.length];exact hl) δ (zM I δ al r1 r2);rw[show(List.range us.toArray.size).all (λ_=>true)=true from by rw[List.all_eq_true];intros;rfl]at this;exact this _ _ _ _ ⟨.bl _,H,I,rfl,q⟩
 ·obtain⟨us,r1,pl1,_⟩:=I.tuple ha;obtain⟨ws,r2,Z3,_⟩:=I.tuple hb;have e0:us.toArray.size=ws.toArray.size:=by rw[List.size_toArray,List.size_toArray,<- r1.length,<- r2.length];exact hl
  have:=SeqAt.RcNeAt.tuples (A:=X.A) (s:=s) (e:=λ_=>true) pl1 Z3 δ (zM I δ al r1 r2);rw[show(List.range (min us.toArray.size ws.toArray.size)).all (λ_=>true)=true from by rw[List.all_eq_true];intros;rfl,e0]at this;simp only[beq_self_eq_true,Bool.and_self]at this;exact this _ _ _ _ ⟨.bl _,H,I,rfl,q⟩
theorem Zaq{K:aK}{neg:Bool}{H:Hp}{Q:VK}{a b:AJ}{xs ys:List V}(hs:(cN K H a xs/\cN K H b ys)\/(ig K H a xs/\ig K H b ys))(al:Al (Dq K H 6) xs ys)(q:Q (.bl (!neg)) H):Zdb K neg (.ref a) (.ref b) H Q:=⟨a,b,xs,ys,rfl,rfl,hs,al,q⟩
end
end G
namespace G
open PySem L2 PySem.Spec PyProof.Rows PySem.Builtin PySem.Builtin.Str
theorem U0:∀l:List (Str×Tok),Vals ((l.map (·.1)).map V.str) (strValues l)
 | []=>.nil
 | p::l=>.cons ⟨p.2,rfl⟩ (U0 l)
theorem ZF:∀{ys:AI}{us:AE},Vals (ys.map V.str) us->StrsAre us ys
 | [],_,.nil=>.nil
 | y::ys,_,.cons ⟨t,e⟩ r=>by subst e;exact .cons y t (ZF r)
theorem Zhd{prog:AN}{w:AQ}{A:Around}{E:Ap}{s:AL}{x y:Str}{t u:Tok}{Q:Ap}(hy:(y.length == 0)=false)
  (h:∀(l:List (Str×Tok)) (k:Nat),l.map (·.1)=Txt.split x y->Q (.ref s.heap.objs.size) { s with heap:=s.heap.push { cls:=.type "list",data:=.seq (strValues l).toArray },toks:=k })
  (hsz:x.length+2<=sizeLine):wpAny Ξ A (call (.builtin "str.split") [.str x t,.str y u]) Q E s:=by
 have hn:(partsBetween x (occurrences x y 0 x.length (x.length+1)) y.length).length<=sizeLine:=by
  have:=StrLaws.occ_length_le x y 0 x.length (x.length+1);rw[length_partsBetween];omega
 cases h1:(decide (x.length<y.length) || decide (strKind x<strKind y))with
 | false=>
  cases hf:(occurrences x y 0 x.length (x.length+1)).isEmpty with
  | false=>
   refine call_meets PySem.F.slot_str_split (typeIs_str _ _ _) PySem.F.entry_str_split (PySem.F.args_str_split_2 _ _) (meets_str_split_sep x y t u h1 hy hf δ hn) ?_;show wants Q E _ { s with toks:=_,heap:=s.heap.push { cls:=.type "list",data:=.seq (strsFrom s.toks (partsBetween x (occurrences x y 0 x.length (x.length+1)) y.length)).toArray } };rw[strsFrom_eq];exact h (numbered s.toks _) _ ((numbered_texts _ _).trans ((if_neg (ne_true_of_eq_false h1)).trans (if_neg (ne_true_of_eq_false hf))).symm)
  | true=>
   exact call_meets PySem.F.slot_str_split (typeIs_str _ _ _) PySem.F.entry_str_split (PySem.F.args_str_split_2 _ _) (meets_str_split_not_found x y t u h1 hy hf)
    (h [(x,t)] s.toks ((if_neg (ne_true_of_eq_false h1)).trans (if_pos hf)).symm)
 | true=>
  exact call_meets PySem.F.slot_str_split (typeIs_str _ _ _) PySem.F.entry_str_split (PySem.F.args_str_split_2 _ _) (meets_str_split_cannot_occur x y t u h1)
   (h [(x,t)] s.toks (if_pos h1).symm)
def wA:V->List V->Hp->VK->Prop:=λx xs H Q=>∃z y,x=.str z/\xs=[.str y]/\(y.length == 0)=false/\z.length<=1000000/\∀l,H l=none->Q (.ref l) (upd H l (.lst ((Txt.split z y).map V.str)))
def kZ(K:aK):V->List V->Hp->VK->Prop:=λx xs H Q=>∃z a ys,x=.str z/\xs=[.ref a]/\cN K H a (ys.map V.str)/\z.length<=16/\(ys.map (·.length)).sum+ys.length<=1048576/\Q (.str (Txt.join z ys)) H
section
variable {X:Cx}
theorem vg:MtM X "str.split" wA:=by
 intro pins s σ H x xs v us Q I rx rv h;obtain⟨z,y,rfl,rfl,hy,hz,q⟩:=h;obtain⟨t,rfl⟩:=rx;obtain⟨u,rfl,ru⟩:=rv.one;obtain⟨t',rfl⟩:=ru;have hsz:z.length+2<=sizeLine:=by rw[sizeLine_eq];omega
 refine Zhd hy (λl k e=>?_) hsz;have hn:=I.hok.fresh (Nat.le_refl s.heap.objs.size);have hl:=split_le z y;have I1:Inv X pins σ (upd H s.heap.objs.size (.lst ((Txt.split z y).map V.str))) { s with heap:=s.heap.push { cls:=.type "list",data:=.seq (strValues l).toArray },toks:=k }:=
  I.laid (λb u e=>Heap.get?_push_of_some _ e) χ ⟨by rw[bF];omega,strValues l,0,by rw[<- e];exact U0 l,Heap.get?_push_size _ rfl⟩
 exact⟨.ref s.heap.objs.size,_,I1,rfl,q _ hn⟩
theorem mj:MtM X "str.join" (kZ X.K):=by
 intro pins s σ H x xs v us Q I rx rv h;obtain⟨z,a,ys,rfl,rfl,hq,hz,hw,q⟩:=h;obtain⟨t,rfl⟩:=rx;obtain⟨u,rfl,ru⟩:=rv.one;obtain rfl:u=Value.ref a:=ru;obtain⟨its,r,pl,_⟩:=I.list hq;exact join_listW pl.isList (ZF r) hz hw λt' k=>⟨.str (Txt.join z ys),H,I.tok _,⟨t',rfl⟩,q⟩
end
def Zmv:List V->Hp->VK->Prop:=λxs H Q=>xH xs H Q\/∃z,xs=[.str z]/\Q (.str z) H
theorem Zif{X:Cx}:oR X (.type "str") Zmv:=by
 intro pins s σ H xs us Q I r h;rcases h with h | ⟨z,rfl,q⟩
 ·exact pD pins s σ H xs us Q I r h
 ·obtain⟨u,rfl,t,rfl⟩:=vals1 r;exact PySem.P.str_of_str ⟨.str z,H,I,⟨t,rfl⟩,q⟩
def qd(K:aK)(a:AJ)(xs:List V):Prop:=∀H,ig K H a xs
def jl(c:Nat):AI->List Nat
 | []=>[]
 | [x]=>x.cps.toList
 | x::y::r=>x.cps.toList++c::jl c (y::r)
theorem dR(c:Nat):∀ps:AI,(Str.join ⟨#[c]⟩ ps).cps.toList=jl c ps
 | []=>rfl
 | [x]=>rfl
 | x::y::r=>by
  show(x++⟨#[c]⟩++Str.join ⟨#[c]⟩ (y::r)).cps.toList=_;rw[show(x++⟨#[c]⟩++Str.join ⟨#[c]⟩ (y::r)).cps.toList=x.cps.toList++[c]++(Str.join ⟨#[c]⟩ (y::r)).cps.toList from by rw[cps_toList_append,cps_toList_append],dR c (y::r)];show _=x.cps.toList++c::jl c (y::r);rw[List.append_assoc];rfl
theorem Zbf{c:Nat}:∀{a b r r':List Nat},c∉a->c∉b->a++c::r=b++c::r'->a=b/\r=r'
 | [],[],_,_,_,_,e=>⟨rfl,(List.cons.inj e).2⟩
 | [],y::b,_,_,_,hb,e=>absurd (List.cons.inj e).1 (λz=>hb (by rw[z];simp))
 | x::a,[],_,_,ha,_,e=>absurd (List.cons.inj e).1 (λz=>ha (by rw[<- z];simp))
 | x::a,y::b,_,_,ha,hb,e=>by
  obtain⟨e1,e2⟩:=List.cons.inj e;obtain⟨h1,h2⟩:=Zbf (λz=>ha (by simp[z])) (λz=>hb (by simp[z])) e2;exact⟨by rw[e1,h1],h2⟩
theorem lU{p q:Str}(h:p.cps.toList=q.cps.toList):p=q:=by
 cases p;cases q;congr 1;exact Array.toList_inj.mp h
theorem VF(c:Nat):∀{ps qs:AI},ps≠[]->qs≠[]->(∀p∈ps,c∉p.cps.toList)->(∀p∈qs,c∉p.cps.toList)->jl c ps=jl c qs->ps=qs
 | [],_,h,_,_,_,_=>absurd rfl h
 | _::_,[],_,h,_,_,_=>absurd rfl h
 | [p],[q],_,_,_,_,e=>by rw[lU e]
 | [p],q::q'::qs,_,_,hp,_,e=>by
  have e:p.cps.toList=q.cps.toList++c::jl c (q'::qs):=e;exact absurd (by rw[e];simp) (hp p ζ)
 | p::p'::ps,[q],_,_,_,hq,e=>by
  have e:p.cps.toList++c::jl c (p'::ps)=q.cps.toList:=e;exact absurd (by rw[<- e];simp) (hq q ζ)
 | p::p'::ps,q::q'::qs,_,_,hp,hq,e=>by
  obtain⟨h1,h2⟩:=Zbf (hp p ζ) (hq q ζ) (show p.cps.toList++c::jl c (p'::ps)=q.cps.toList++c::jl c (q'::qs)from e);rw[lU h1,VF c ζ ζ (λx hx=>hp x (by simp[hx])) (λx hx=>hq x (by simp[hx])) h2]
theorem nq{c:Nat}{ps:AI}(hn:ps≠[])(h:∀p∈ps,c∉p.cps.toList):Txt.split (Str.join ⟨#[c]⟩ ps) ⟨#[c]⟩=ps:=by
 refine VF c (λz=>?_) hn (StrLaws.split_free _ c) h ?_
 ·have:=split_pos (Str.join ⟨#[c]⟩ ps) ⟨#[c]⟩;rw[z]at this;cases this
 ·rw[<- dR,<- dR,StrLaws.join_split]
theorem Zb2(x y z:Str)(t u v k:Tok)(h0:(u == 0 || v == 0)=false)(huv:(u == v)=false)(hyz:(y == z)=false)(hl:tooLong (x.length+(occurrences x y 0 x.length 1).length * z.length)=false):
    Gives («str.replace» ⟨[.str x t,.str y u,.str z v,.int 1 k],[]⟩) (if ((occurrences x y 0 x.length 1).isEmpty || (y.length == 0 && z.length == 0))=true then .val (.str x t)else .str (glued z (partsBetween x (occurrences x y 0 x.length 1) y.length))):=by
  show Gives (if ((occurrences x y 0 x.length 1).isEmpty || (y.length == 0 && z.length == 0))=true then(do rule "str.replace.nothing";ret (.str x t))else
          (do let same <- isSame (.str y u) (.str z v)
              if same=true then(do rule "str.replace.old-is-new";ret (.str x t))else
              if tooLong (x.length+(occurrences x y 0 x.length 1).length * z.length)=true then unsupported "str.replace:memory" else
              retStr (glued z (partsBetween x (occurrences x y 0 x.length 1) y.length)))) _
  cases hc:((occurrences x y 0 x.length 1).isEmpty || (y.length == 0 && z.length == 0))
  · rw[isSame_str_other y z u v h0 huv hyz,hl]
    exact .of_eq rfl
  · exact .rule (.of_eq rfl)
theorem Zhk(x y z:Str):(glued z (partsBetween x (occurrences x y 0 x.length 1) y.length)).length<=x.length+z.length:=by
 have h1:=size_glued z (partsBetween x (occurrences x y 0 x.length 1) y.length);have h2:=size_glued y (partsBetween x (occurrences x y 0 x.length 1) y.length);rw[StrLaws.glued_between_self]at h2;have h3:=StrLaws.occ_length_le x y 0 x.length 1;have h4:(partsBetween x (occurrences x y 0 x.length 1) y.length).length - 1<=1:=by rw[length_partsBetween];omega
 rw[h1];have h5:((partsBetween x (occurrences x y 0 x.length 1) y.length).length - 1) * z.length<=1 * z.length:=Nat.mul_le_mul_right _ h4;omega
section
variable {X:Cx}
theorem Zl4{i:Nat}{x:Str}{pos:Pos}{pins:Au}{s:AL}{σ:L2.St}{H:Hp}{v:V}{Q:Ap}{E:Ap}(hN:X.N[i]? =some x)(hv:Vis X.env.scope x)(I:Inv X pins σ H s)(e:σ[i]? =some (some v))(h:∀u,RelV v u->Q u s)
  (hd:(x == ("__debug__":Str))=false) (hcd:(x == ("__classdict__":Str))=false):wpAny ς X.A (eval (.Name x pos) X.env) Q E s:=by
 obtain⟨m,hn,hl⟩:=I.loc;obtain⟨u,r,l⟩:=hl i x v hN e hv;rcases l with ⟨hk,hm⟩ | ⟨hk,c,hc,hcell⟩
 ·exact wpAny_Name (wpAny_loadName_local I.ok.kind hk hn hm (h u r)) hd
 ·rcases hk with hk | hk
  ·exact wpAny_Name (wpAny_loadName_cell I.ok.kind hk hc hcell (h u r)) hd
  ·exact wpAny_Name (wpAny_loadName_free I.ok.kind hk hc hcell (h u r) hcd) hd
end
def rep1(z y1 y2:Str):Str:=if ((occurrences z y1 0 z.length 1).isEmpty || (y1.length == 0 && y2.length == 0))=true then z else glued y2 (partsBetween z (occurrences z y1 0 z.length 1) y1.length)
section
variable {X:Cx}
theorem ZX{i:Nat}{x y1 y2:Str}{px ap cpos p1 p2 p3:Pos}{k1 k2 k3:Nat}{pins:Au}{s:AL}{σ:L2.St}{H:Hp}{z:Str}{Q:Ap}(hN:X.N[i]? =some x)(hv:Vis X.env.scope x)(I:Inv X pins σ H s)(e:σ[i]? =some (some (.str z)))
  (hp:0<s.toks) (hy:(y1 == y2)=false) (hz:z.length<=1000000) (hz2:y2.length<=1000)
  (h:∀s' (t:Tok),Inv X pins σ H s'->Q (.str (rep1 z y1 y2) t) s')
  (hd:(x == ("__debug__":Str))=false) (hcd:(x == ("__classdict__":Str))=false)
  (hbase:attributeBase (.Name x px) "replace" X.env (eval (.Name x px) X.env)=eval (.Name x px) X.env) (hline:(ap.endLine == cpos.line)=true):
  wpAny ς X.A (eval (.Call (.Attribute (.Name x px) "replace" ap) [.Constant (.str y1) k1 p1,.Constant (.str y2) k2 p2,.Constant (.int 1) k3 p3] [] cpos) X.env) Q X.xe s:=by
 refine wpAny_Call_method_late hbase rfl hline rfl (Zl4 hN hv I e (λu ru=>?_) hd hcd);obtain⟨t,rfl⟩:=ru;refine⟨"str","str.replace",PySem.F.plainAttrs_str,PySem.F.slot_str_replace,PySem.F.type_str_replace,typeIs_str _ _ _,λb q=>(nomatch q),?_⟩;refine Calls.callWith_builtin rfl (Calls.evalArgs_plain ?_);show wpAny _ _ (spliced [(false,eval (.Constant (.str y1) k1 p1) X.env),(false,eval (.Constant (.str y2) k2 p2) X.env),(false,eval (.Constant (.int 1) k3 p3) X.env)]) _ _ s;refine Calls.spliced_cons (Calls.Constant_str (Calls.spliced_cons (Calls.Constant_str (Calls.spliced_cons (wpAny_Constant_int (Calls.spliced_nil ?_))))));have hl:tooLong (z.length+(occurrences z y1 0 z.length 1).length * y2.length)=false:=by
  have h3:=StrLaws.occ_length_le z y1 0 z.length 1;have h5:(occurrences z y1 0 z.length 1).length * y2.length<=1 * y2.length:=Nat.mul_le_mul_right _ h3;unfold tooLong;simp only[decide_eq_false_iff_not,sizeLine_eq];omega
 have hu:(s.toks == 0 || s.toks+1 == 0)=false:=by
  have a:(s.toks == 0)=false:=by simpa using Nat.ne_of_gt hp
  rw[a];rfl
 refine call_gives PySem.F.slot_str_replace (typeIs_str _ _ _) PySem.F.entry_str_replace (PySem.F.args_str_replace_4 _ _ _ _) (Zb2 z y1 y2 t s.toks (s.toks+1) _ hu ζ hy hl) ?_;have hlen:=Zhk z y1 y2;unfold rep1 at h;split
 ·rename_i c;rw[if_pos c]at h;exact h _ _ (I.tok _)
 ·rename_i c;rw[if_neg c]at h;exact⟨by rw[sizeLine_eq];omega,h _ _ (I.tok _)⟩
end
def Zq8(i:Nat):TA:=λσ H Q=>∃z:Str,σ[i]? =some (some (.str z))/\z.length<=100000/\Q [.str (z++" "),.str (" "++z),.str (rep1 z " " "  "),.str (z++"\t"),.str (rep1 z " " "\t")] H
section
variable {X:Cx}
theorem Zmt{i:Nat}{x y:Str}{px q1 b1:Pos}{j1:Nat}{pins:Au}{s:AL}{σ:L2.St}{H:Hp}{z:Str}{Q:Ap}(hN:X.N[i]? =some x)(hv:Vis X.env.scope x)(I:Inv X pins σ H s)(e:σ[i]? =some (some (.str z)))(hz:z.length<=100000)(hy:y.length=1)
  (hd:(x == ("__debug__":Str))=false) (hcd:(x == ("__classdict__":Str))=false) (h:∀s' (t:Tok),Inv X pins σ H s'->0<s'.toks->Q (.str (z++y) t) s'):wpAny ς X.A (eval (.BinOp (.Name x px) .Add (.Constant (.str y) j1 q1) b1) X.env) Q X.xe s:=by
 refine wpAny_BinOp (Zl4 hN hv I e (λu2 ru2=>Calls.Constant_str ?_) hd hcd);obtain⟨t2,rfl⟩:=ru2;refine PySem.P.add_str ?_;split
 ·rename_i h0
  have h0:z.cps.toList=[]:=by
   have:z.cps.size=0:=by simpa[Str.length]using h0
   exact List.eq_nil_of_length_eq_zero (by rw[Array.length_toList];exact this)
  have ez:z++y=y:=lU (by rw[cps_toList_append,h0];rfl);have:=h { s with toks:=s.toks+1 } s.toks (I.tok _) (Nat.succ_pos _);rw[ez]at this;exact this
 ·rw[if_neg (by rw[hy];decide)];refine⟨?_,h _ _ (I.tok _) (Nat.succ_pos _)⟩;have:(z++y).length=z.length+1:=by
   show(z.cps++y.cps).size=_;rw[Array.size_append];show z.length+y.length=_;rw[hy]
  rw[this,sizeLine_eq];omega
theorem Zoa{i:Nat}{x:Str}{px1 px2 px3 px4 px5 ap3 ap5 cp3 cp5 p31 p32 p33 p51 p52 p53 q1 q2 q4 b1 b2 b4:Pos}{k31 k32 k33 k51 k52 k53 j1 j2 j4:Nat}(hN:X.N[i]? =some x:=by rfl)(hv:Vis X.env.scope x:=by first | exact Or.inl rfl | exact Or.inr (Or.inl rfl) | exact Or.inr (Or.inr rfl))
  (hd:(x == ("__debug__":Str))=false:=by decide) (hcd:(x == ("__classdict__":Str))=false:=by decide)
  (hb3:attributeBase (.Name x px3) "replace" X.env (eval (.Name x px3) X.env)=eval (.Name x px3) X.env:=by rfl) (hl3:(ap3.endLine == cp3.line)=true:=by rfl)
  (hb5:attributeBase (.Name x px5) "replace" X.env (eval (.Name x px5) X.env)=eval (.Name x px5) X.env:=by rfl) (hl5:(ap5.endLine == cp5.line)=true:=by rfl)
  (hs:starEach [.BinOp (.Name x px1) .Add (.Constant (.str " ") j1 q1) b1,.BinOp (.Constant (.str " ") j2 q2) .Add (.Name x px2) b2,.Call (.Attribute (.Name x px3) "replace" ap3) [.Constant (.str " ") k31 p31,.Constant (.str "  ") k32 p32,.Constant (.int 1) k33 p33] [] cp3,.BinOp (.Name x px4) .Add (.Constant (.str "\t") j4 q4) b4,.Call (.Attribute (.Name x px5) "replace" ap5) [.Constant (.str " ") k51 p51,.Constant (.str "\t") k52 p52,.Constant (.int 1) k53 p53] [] cp5] X.env=
   [(false,eval (.BinOp (.Name x px1) .Add (.Constant (.str " ") j1 q1) b1) X.env),(false,eval (.BinOp (.Constant (.str " ") j2 q2) .Add (.Name x px2) b2) X.env),(false,eval (.Call (.Attribute (.Name x px3) "replace" ap3) [.Constant (.str " ") k31 p31,.Constant (.str "  ") k32 p32,.Constant (.int 1) k33 p33] [] cp3) X.env),(false,eval (.BinOp (.Name x px4) .Add (.Constant (.str "\t") j4 q4) b4) X.env),(false,eval (.Call (.Attribute (.Name x px5) "replace" ap5) [.Constant (.str " ") k51 p51,.Constant (.str "\t") k52 p52,.Constant (.int 1) k53 p53] [] cp5) X.env)]:=by rfl):
  PA X [.BinOp (.Name x px1) .Add (.Constant (.str " ") j1 q1) b1,.BinOp (.Constant (.str " ") j2 q2) .Add (.Name x px2) b2,.Call (.Attribute (.Name x px3) "replace" ap3) [.Constant (.str " ") k31 p31,.Constant (.str "  ") k32 p32,.Constant (.int 1) k33 p33] [] cp3,.BinOp (.Name x px4) .Add (.Constant (.str "\t") j4 q4) b4,.Call (.Attribute (.Name x px5) "replace" ap5) [.Constant (.str " ") k51 p51,.Constant (.str "\t") k52 p52,.Constant (.int 1) k53 p53] [] cp5] (Zq8 i):=by
 intro pos pins s σ H Q I h;obtain⟨z,e,hz,q⟩:=h;rw[hs];have e2:PE X (.BinOp (.Constant (.str " ") j2 q2) .Add (.Name x px2) b2) (aN dN (tC (.str " ")) (ak i)):=aL bM aH (Zk8 hN hv hd hcd);have l1:(" ":Str).length=1:=rfl;have ls:(" ":Str).length+z.length<=sizeLine:=by rw[l1,sizeLine_eq];omega
 refine Calls.spliced_cons (Zmt hN hv I e hz rfl hd hcd λs1 t1 I1 hp1=>?_);refine Calls.spliced_cons (wpAny_mono (wpAny_toks (e2 pins s1 σ H (λv H'=>v=.str (" "++z)/\H'=H) I1 ⟨_,e," ",z,rfl,rfl,ls,rfl,rfl⟩)) (λu s2 ⟨ht2,v,H1,I2,r2,ev,eH⟩=>?_) λ_ _ z=>z.2);subst ev;subst eH;refine Calls.spliced_cons (ZX hN hv I2 e (Nat.lt_of_lt_of_le hp1 ht2) ε δ ε (λs3 t3 I3=>?_) hd hcd hb3 hl3);refine Calls.spliced_cons (Zmt hN hv I3 e hz rfl hd hcd λs4 t4 I4 hp4=>?_);refine Calls.spliced_cons (ZX hN hv I4 e hp4 ε δ ε (λs5 t5 I5=>?_) hd hcd hb5 hl5);exact Calls.spliced_nil ⟨[.str (z++" "),.str (" "++z),.str (rep1 z " " "  "),.str (z++"\t"),.str (rep1 z " " "\t")],H1,I5,.cons ⟨_,rfl⟩ (.cons r2 (.cons ⟨_,rfl⟩ (.cons ⟨_,rfl⟩ (.cons ⟨_,rfl⟩ .nil)))),q⟩
end
end G
namespace G
open PySem L2 PySem.Spec PyProof.Rows
def nP(tup:Bool)(h:Heap)(it src:AJ)(k:Nat):Prop:=match tup with
 | true=>h.IsTupleIter it src k
 | false=>h.IsListIter it src k
def qe(tup:Bool)(h:Heap)(src:AJ)(items:Array AK):Prop:=match tup with
 | true=>h.IsTuple src items
 | false=>h.IsList src items
theorem nP.ext{tup:Bool}{h h':Heap}{it src b:AJ}{k:Nat}(x:nP tup h it src k)(hs:Heap.ExtBut b h h')(n:it≠b):nP tup h' it src k:=by
 cases tup
 ·exact Heap.IsListIter.extBut x hs n
 ·exact Heap.IsTupleIter.extBut x hs n
theorem qe.ext{tup:Bool}{h h':Heap}{src b:AJ}{items:Array AK}(x:qe tup h src items)(hs:Heap.ExtBut b h h')(n:src≠b):qe tup h' src items:=by
 cases tup
 ·exact Heap.IsList.extBut x hs n
 ·exact Heap.IsTuple.extBut x hs n
theorem nP.obj{tup:Bool}{h:Heap}{it src:AJ}{k:Nat}(x:nP tup h it src k):∃o,h.get? it=some o/\∃fs,o.data=.fields fs:=by
 cases tup
 ·obtain⟨o,ho,_,d⟩:=(show h.IsListIter it src k from x);exact⟨o,ho,_,d⟩
 ·obtain⟨o,ho,_,d⟩:=(show h.IsTupleIter it src k from x);exact⟨o,ho,_,d⟩
theorem nP.at{tup:Bool}{h h':Heap}{it src:AJ}{k:Nat}(x:nP tup h it src k)(f:∀o,h.get? it=some o->h'.get? it=some o):nP tup h' it src k:=by
 cases tup
 ·obtain⟨o,ho,r⟩:=(show h.IsListIter it src k from x);exact⟨o,f o ho,r⟩
 ·obtain⟨o,ho,r⟩:=(show h.IsTupleIter it src k from x);exact⟨o,f o ho,r⟩
section
variable {prog:AN}{w:AQ}{A:Around}{E:Ap}{s:AL}
theorem Zkn{it t:AJ}{i:Nat}{items:Array AK}{x:AK}{Q:Ap}(hit:s.heap.IsTupleIter it t i)(ht:s.heap.IsTuple t items)(hx:items[i]? =some x)(hQ:∀h',h'.IsTupleIter it t (i+1)->Heap.SameBut it s.heap h'->Q x { s with heap:=h' }):
  wpAny Ξ A (Builtin.SmallTypes.nextOf (.ref it)) Q E s:=by
 obtain⟨o,ho,hc,hd⟩:=id hit;obtain⟨ol,hol,_,nl,hdl⟩:=ht;unfold Builtin.SmallTypes.nextOf;refine wpAny_bind (wpAny_callSpecial?_slot (name:=Str.ofString "__next__") hit.typeIs F.slot_tuple_iterator_next (wpAny_call_entry F.slot_tuple_iterator_next hit.typeIs F.entry_tuple_iterator_next ?_ (F.args_tuple_iterator_next_1 _)));show wpAny _ _ (field (.ref it) 0 >>= _) _ _ s;refine wpAny_bind (wpAny_field ho hd (x:=.ref t) rfl ?_);show wpAny _ _ (if (Value.ref t == Value.none)=true then _ else _) _ _ s;rw[if_neg (show ¬ ((Value.ref t == Value.none)=true)from Bool.false_ne_true)];show wpAny _ _ (field (.ref it) 1 >>= _) _ _ s;refine wpAny_bind (wpAny_field ho hd (x:=.int i 0) rfl ?_);show wpAny _ _ (seqItems? (.ref t) >>= _) _ _ s;refine wpAny_bind (wpAny_seqItems hol hdl ?_);simp only[Int.toNat_natCast,hx];refine wpAny_bind (wpAny_setField ho hd ζ (wpAny_pure ⟨x,rfl,wpAny_pure (hQ _ ?_ (Heap.SameBut.update ..))⟩));exact⟨_,Heap.get?_update_self _ ho (Obj.isFreed_of_fields (Obj.data_mapFields hd _)),(Obj.cls_mapFields ..).trans hc,by rw[Obj.data_mapFields hd];simp[rawInt]⟩
theorem Xk{it t:AJ}{i:Nat}{items:Array AK}{Q:Ap}(hh:A.handled=none)(hit:s.heap.IsTupleIter it t i)(ht:s.heap.IsTuple t items)(hx:items[i]? =none)
  (hE:∀h' e,Heap.ExtBut it s.heap h'->(∃o,h'.get? e=some o/\o.cls=.type "StopIteration")->E (.ref e) { s with heap:=h' }):wpAny Ξ A (Builtin.SmallTypes.nextOf (.ref it)) Q E s:=by
 obtain⟨o,ho,hc,hd⟩:=id hit;obtain⟨ol,hol,_,nl,hdl⟩:=ht;unfold Builtin.SmallTypes.nextOf;refine wpAny_bind (wpAny_callSpecial?_slot (name:=Str.ofString "__next__") hit.typeIs F.slot_tuple_iterator_next (wpAny_call_entry F.slot_tuple_iterator_next hit.typeIs F.entry_tuple_iterator_next ?_ (F.args_tuple_iterator_next_1 _)));show wpAny _ _ (field (.ref it) 0 >>= _) _ _ s;refine wpAny_bind (wpAny_field ho hd (x:=.ref t) rfl ?_);show wpAny _ _ (if (Value.ref t == Value.none)=true then _ else _) _ _ s;rw[if_neg (show ¬ ((Value.ref t == Value.none)=true)from Bool.false_ne_true)];show wpAny _ _ (field (.ref it) 1 >>= _) _ _ s;refine wpAny_bind (wpAny_field ho hd (x:=.int i 0) rfl ?_);show wpAny _ _ (seqItems? (.ref t) >>= _) _ _ s;refine wpAny_bind (wpAny_seqItems hol hdl ?_);simp only[Int.toNat_natCast,hx];refine wpAny_bind (wpAny_rule (wpAny_bind (wpAny_setField ho hd ζ ?_)));show wpAny _ _ (newExc (.type "StopIteration") [] >>= _) _ _ _;refine wpAny_bind ?_;simp only[newExc,newTuple];refine wpAny_bind (wpAny_newObj_type ?_ (by size_fits));refine wpAny_bind (m:=firstArgMember _ _) (wpAny_of_eq (a:=Value.none) (by first | rfl | (simp only[firstArgMember];rfl)) ?_);refine wpAny_newObj_type ?_ (by size_fits);simp only[raiseNew];refine wpAny_bind (wpAny_handled ?_)
 first | rw[show A.in1.handled=none from hh] | rw[hh]
 refine wpAny_bind (wpAny_pure (wpAny_throw ?_));exact hE _ _ (((Heap.SameBut.update ..).extBut.push _).push _) ⟨_,Heap.get?_push_size _ rfl,rfl⟩
theorem Xh{tup:Bool}{it l:AJ}{i:Nat}{items:Array AK}{x:AK}{Q:Ap}(hit:nP tup s.heap it l i)(hl:qe tup s.heap l items)(hx:items[i]? =some x)(hQ:∀h',nP tup h' it l (i+1)->Heap.SameBut it s.heap h'->Q x { s with heap:=h' }):
  wpAny Ξ A (Builtin.SmallTypes.nextOf (.ref it)) Q E s:=by
 cases tup
 ·exact wpAny_nextOf_list_item hit hl hx hQ
 ·exact Zkn hit hl hx hQ
theorem Zkj{tup:Bool}{it l:AJ}{i:Nat}{items:Array AK}{Q:Ap}(hh:A.handled=none)(hit:nP tup s.heap it l i)(hl:qe tup s.heap l items)(hx:items[i]? =none)
  (hE:∀h' e,Heap.ExtBut it s.heap h'->(∃o,h'.get? e=some o/\o.cls=.type "StopIteration")->E (.ref e) { s with heap:=h' }):wpAny Ξ A (Builtin.SmallTypes.nextOf (.ref it)) Q E s:=by
 cases tup
 ·exact wpAny_nextOf_list_end hh hit hl hx hE
 ·exact Xk hh hit hl hx hE
theorem Zn6{t1 t2:Bool}{z TI TO i1 i2 l1 l2:AJ}{k:Nat}{xs ys:Array AK}{x y a b:AK}{Q:Ap}(D:ZipApart z TI TO i1 i2 l1 l2)
  (hz:IsZip s.heap z TI TO .none) (hTI:IsPair s.heap TI (.ref i1) (.ref i2)) (hTO:IsPair s.heap TO a b)
  (h1:nP t1 s.heap i1 l1 k) (h2:nP t2 s.heap i2 l2 k) (hl1:qe t1 s.heap l1 xs) (hl2:qe t2 s.heap l2 ys) (hx:xs[k]? =some x) (hy:ys[k]? =some y)
  (hQ:∀h',IsZip h' z TI TO (rawInt s.heap.objs.size)->IsPair h' TO x y->nP t1 h' i1 l1 (k+1)->nP t2 h' i2 l2 (k+1)->IsPair h' s.heap.objs.size x y->
   (∀c o,c≠z->c≠TO->c≠i1->c≠i2->s.heap.get? c=some o->h'.get? c=some o)->Q (.ref s.heap.objs.size) { s with heap:=h' }):
  wpAny Ξ A (Builtin.«zip.__next__» ⟨[.ref z],[]⟩) (λfin s'=>∃v,fin=.done (.ret v)/\Q v s') E s:=by
 show wpAny _ _ (field (.ref z) 2 >>= _) _ _ _;refine wpAny_bind (wpAny_field hz rfl (x:=.bool false) rfl ?_);show wpAny _ _ (field (.ref z) 3 >>= _) _ _ _;refine wpAny_bind (wpAny_field hz rfl (x:=.ref TI) rfl (wpAny_bind (wpAny_seqItems hTI rfl ?_)));show wpAny _ _ (Builtin.SmallTypes.ownedTupleIsFree (.ref z) >>= _) _ _ _;refine wpAny_bind ?_;unfold Builtin.SmallTypes.ownedTupleIsFree;refine wpAny_bind (wpAny_field hz rfl (x:=.none) rfl (wpAny_pure ?_));simp only[if_true];refine wpAny_bind (wpAny_rule (wpAny_bind (wpAny_field hz rfl (x:=.ref TO) rfl (wpAny_bind (wpAny_setField_rec hz ζ λg1 q1 e1=>wpAny_bind ?_)))))
 replace q1:IsZip g1 z TI TO .ellipsis:=q1
 simp only[List.zipIdx_cons,List.zipIdx_nil,List.forIn_cons,List.forIn_nil];refine wpAny_bind (wpAny_bind (wpAny_onRaise ?_));show wpAny _ _ (Builtin.SmallTypes.nextOf (.ref i1) >>= _) _ _ _;refine wpAny_bind (Xh (h1.ext e1.extBut D.i1z) (hl1.ext e1.extBut D.l1z) hx λg2 n1 e2=>wpAny_pure ?_);have o2:IsPair g2 TO a b:=e2.extBut _ _ D.TOi1 (e1.extBut _ _ D.TOz hTO);refine wpAny_bind (wpAny_seqItems o2 rfl (wpAny_bind (wpAny_updateSeq_pair o2 λg3 o3 e3=>wpAny_bind (wpAny_letGo (wpAny_pure ?_)))))
 replace o3:IsPair g3 TO x b:=o3
 refine wpAny_bind (wpAny_bind (wpAny_onRaise ?_));show wpAny _ _ (Builtin.SmallTypes.nextOf (.ref i2) >>= _) _ _ _;refine wpAny_bind (Xh (((h2.ext e1.extBut D.i2z).ext e2.extBut D.i12.symm).ext e3.extBut D.TOi2.symm) (((hl2.ext e1.extBut D.l2z).ext e2.extBut D.l2i1).ext e3.extBut D.l2TO) hy λg4 n2 e4=>wpAny_pure ?_);have o4:IsPair g4 TO x b:=e4.extBut _ _ D.TOi2 o3;refine wpAny_bind (wpAny_seqItems o4 rfl (wpAny_bind (wpAny_updateSeq_pair o4 λg5 o5 e5=>wpAny_bind (wpAny_letGo (wpAny_pure (wpAny_pure ?_))))))
 replace o5:IsPair g5 TO x y:=o5
 refine wpAny_bind (wpAny_seqItems o5 rfl (wpAny_bind (wpAny_newTuple ?_)));have sz:g5.objs.size=s.heap.objs.size:=by rw[e5.1,e4.1,e3.1,e2.1,e1.1]
 have z5:IsZip g5 z TI TO .ellipsis:=e5.extBut _ _ D.TOz.symm (e4.extBut _ _ D.i2z.symm (e3.extBut _ _ D.TOz.symm (e2.extBut _ _ D.i1z.symm q1)));have k5:∀c o,c≠z->c≠TO->c≠i1->c≠i2->s.heap.get? c=some o->g5.get? c=some o:=λc o c1 c2 c3 c4 e=>e5.extBut _ _ c2 (e4.extBut _ _ c4 (e3.extBut _ _ c2 (e2.extBut _ _ c3 (e1.extBut _ _ c1 e))));have m1:nP t1 g5 i1 l1 (k+1):=((n1.ext e3.extBut D.TOi1.symm).ext e4.extBut D.i12).ext e5.extBut D.TOi1.symm;have m2:nP t2 g5 i2 l2 (k+1):=n2.ext e5.extBut D.TOi2.symm;have zl:z<g5.objs.size:=Heap.lt_size z5;show wpAny _ _ (Builtin.SmallTypes.ownedTupleHandOut (.ref z) (.ref g5.objs.size) >>= _) _ _ _;refine wpAny_bind ?_;unfold Builtin.SmallTypes.ownedTupleHandOut;have z6:IsZip (g5.push { cls:=.type "tuple",data:=.seq #[x,y] }) z TI TO .ellipsis:=Heap.get?_push_of_some _ z5;refine wpAny_bind (wpAny_setField_rec z6 ζ λg7 z7 e7=>?_)
 replace z7:IsZip g7 z TI TO (rawInt g5.objs.size):=z7
 refine wpAny_setField_rec z7 ζ λg8 z8 e8=>?_
 replace z8:IsZip g8 z TI TO (rawInt g5.objs.size):=z8
 have up:∀c o,c≠z->g5.get? c=some o->g8.get? c=some o:=λc o c1 e=>e8.extBut _ _ c1 (e7.extBut _ _ c1 (Heap.get?_push_of_some _ e));have tp:IsPair g8 g5.objs.size x y:=e8.extBut _ _ (Nat.ne_of_gt zl) (e7.extBut _ _ (Nat.ne_of_gt zl) (Heap.get?_push_size _ rfl));rw[sz]at z8 tp;refine wpAny_pure ⟨_,rfl,?_⟩;show Q (.ref g5.objs.size) _;rw[sz];exact hQ g8 z8 (up _ _ D.TOz o5) (m1.at λo e=>up _ o D.i1z e) (m2.at λo e=>up _ o D.i2z e) tp λc o c1 c2 c3 c4 e=>up c o c1 (k5 c o c1 c2 c3 c4 e)
theorem Zqv{t1 t2:Bool}{z TI TO i1 i2 l1 l2:AJ}{k:Nat}{xs ys:Array AK}{a b:AK}{Q:Fin->AL->Prop}(hh:A.handled=none)(D:ZipApart z TI TO i1 i2 l1 l2)
  (hz:IsZip s.heap z TI TO .none) (hTI:IsPair s.heap TI (.ref i1) (.ref i2)) (hTO:IsPair s.heap TO a b)
  (h1:nP t1 s.heap i1 l1 k) (h2:nP t2 s.heap i2 l2 k) (hl1:qe t1 s.heap l1 xs) (hl2:qe t2 s.heap l2 ys) (hend:xs[k]? =none\/ys[k]? =none)
  (hE:∀h' e,(∀c o,c≠z->c≠TO->c≠i1->c≠i2->s.heap.get? c=some o->h'.get? c=some o)->(∃o,h'.get? e=some o/\o.cls=.type "StopIteration")->E (.ref e) { s with heap:=h' }):
  wpAny Ξ A (Builtin.«zip.__next__» ⟨[.ref z],[]⟩) Q E s:=by
 have last:∀{h:Heap}{e:AJ},IsZip h z TI TO .ellipsis->(∃o,h.get? e=some o/\o.cls=.type "StopIteration")->e≠z:=λhz' ⟨o,ho,hc⟩ x=>by subst x;rw[hz']at ho;cases ho;simp at hc
 show wpAny _ _ (field (.ref z) 2 >>= _) _ _ _;refine wpAny_bind (wpAny_field hz rfl (x:=.bool false) rfl ?_);show wpAny _ _ (field (.ref z) 3 >>= _) _ _ _;refine wpAny_bind (wpAny_field hz rfl (x:=.ref TI) rfl (wpAny_bind (wpAny_seqItems hTI rfl ?_)));show wpAny _ _ (Builtin.SmallTypes.ownedTupleIsFree (.ref z) >>= _) _ _ _;refine wpAny_bind ?_;unfold Builtin.SmallTypes.ownedTupleIsFree;refine wpAny_bind (wpAny_field hz rfl (x:=.none) rfl (wpAny_pure ?_));simp only[if_true];refine wpAny_bind (wpAny_rule (wpAny_bind (wpAny_field hz rfl (x:=.ref TO) rfl (wpAny_bind (wpAny_setField_rec hz ζ λg1 q1 e1=>wpAny_bind ?_)))))
 replace q1:IsZip g1 z TI TO .ellipsis:=q1
 simp only[List.zipIdx_cons,List.zipIdx_nil,List.forIn_cons,List.forIn_nil];refine wpAny_bind (wpAny_bind (wpAny_onRaise ?_));show wpAny _ _ (Builtin.SmallTypes.nextOf (.ref i1) >>= _) _ _ _;cases hx:xs[k]? with
 | none=>
  refine wpAny_bind (Zkj hh (h1.ext e1.extBut D.i1z) (hl1.ext e1.extBut D.l1z) hx λg2 e e2 he=>?_);have q2:IsZip g2 z TI TO .ellipsis:=e2 _ _ D.i1z.symm q1;have ez:=last q2 he;obtain⟨oe,hoe,hce⟩:=he;exact wpAny_setField_rec q2 ζ λg3 _ e3=>hE g3 e (λc o c1 _ c3 _ x=>e3.extBut _ _ c1 (e2 _ _ c3 (e1.extBut _ _ c1 x))) ⟨oe,e3.extBut _ _ ez hoe,hce⟩
 | some x=>
  have hy:ys[k]? =none:=by rcases hend with h | h;rw[hx]at h;cases h;exact h
  refine wpAny_bind (Xh (h1.ext e1.extBut D.i1z) (hl1.ext e1.extBut D.l1z) hx λg2 n1 e2=>wpAny_pure ?_);have o2:IsPair g2 TO a b:=e2.extBut _ _ D.TOi1 (e1.extBut _ _ D.TOz hTO);refine wpAny_bind (wpAny_seqItems o2 rfl (wpAny_bind (wpAny_updateSeq_pair o2 λg3 o3 e3=>wpAny_bind (wpAny_letGo (wpAny_pure ?_)))));refine wpAny_bind (wpAny_bind (wpAny_onRaise ?_));show wpAny _ _ (Builtin.SmallTypes.nextOf (.ref i2) >>= _) _ _ _;refine wpAny_bind (Zkj hh (((h2.ext e1.extBut D.i2z).ext e2.extBut D.i12.symm).ext e3.extBut D.TOi2.symm) (((hl2.ext e1.extBut D.l2z).ext e2.extBut D.l2i1).ext e3.extBut D.l2TO) hy λg4 e e4 he=>?_);have q4:IsZip g4 z TI TO .ellipsis:=e4 _ _ D.i2z.symm (e3.extBut _ _ D.TOz.symm (e2.extBut _ _ D.i1z.symm q1));have ez:=last q4 he;obtain⟨oe,hoe,hce⟩:=he;exact wpAny_setField_rec q4 ζ λg5 _ e5=>hE g5 e (λc o c1 c2 c3 c4 x=>e5.extBut _ _ c1 (e4 _ _ c4 (e3.extBut _ _ c2 (e2.extBut _ _ c3 (e1.extBut _ _ c1 x))))) ⟨oe,e5.extBut _ _ ez hoe,hce⟩
theorem Znv{t1 t2:Bool}{z TI TO i1 i2 l1 l2:AJ}{k:Nat}{xs ys:Array AK}{x y a b:AK}{Q:AC->AL->Prop}(D:ZipApart z TI TO i1 i2 l1 l2)
  (hz:IsZip s.heap z TI TO .none) (hTI:IsPair s.heap TI (.ref i1) (.ref i2)) (hTO:IsPair s.heap TO a b)
  (h1:nP t1 s.heap i1 l1 k) (h2:nP t2 s.heap i2 l2 k) (hl1:qe t1 s.heap l1 xs) (hl2:qe t2 s.heap l2 ys) (hx:xs[k]? =some x) (hy:ys[k]? =some y)
  (hQ:∀h',IsZip h' z TI TO (rawInt s.heap.objs.size)->IsPair h' TO x y->nP t1 h' i1 l1 (k+1)->nP t2 h' i2 l2 (k+1)->IsPair h' s.heap.objs.size x y->
   (∀c o,c≠z->c≠TO->c≠i1->c≠i2->s.heap.get? c=some o->h'.get? c=some o)->Q (↑s.heap.objs.size) { s with heap:=h' }):
  wpAny Ξ A (pyNext (.ref z)) Q E s:=by
 have hT:s.TypeIs (.ref z) "zip":=⟨_,hz,rfl⟩;unfold pyNext;exact wpAny_bind (wpAny_attempt (wpAny_callSpecial?_slot (name:=Str.ofString "__next__") hT F.slot_zip_next (wpAny_call_entry F.slot_zip_next hT F.entry_zip_next (Zn6 D hz hTI hTO h1 h2 hl1 hl2 hx hy λh' a1 a2 a3 a4 a5 a6=>wpAny_pure (hQ h' a1 a2 a3 a4 a5 a6)) (F.args_zip_next_1 _))))
theorem Zrp{t1 t2:Bool}{z TI TO i1 i2 l1 l2:AJ}{k:Nat}{xs ys:Array AK}{a b:AK}{Q:AC->AL->Prop}(hh:A.handled=none)(D:ZipApart z TI TO i1 i2 l1 l2)
  (hz:IsZip s.heap z TI TO .none) (hTI:IsPair s.heap TI (.ref i1) (.ref i2)) (hTO:IsPair s.heap TO a b)
  (h1:nP t1 s.heap i1 l1 k) (h2:nP t2 s.heap i2 l2 k) (hl1:qe t1 s.heap l1 xs) (hl2:qe t2 s.heap l2 ys) (hend:xs[k]? =none\/ys[k]? =none)
  (hQ:∀h',(∀c o,c≠z->c≠TO->c≠i1->c≠i2->s.heap.get? c=some o->h'.get? c=some o)->Q none { s with heap:=h' }):wpAny Ξ A (pyNext (.ref z)) Q E s:=by
 have hT:s.TypeIs (.ref z) "zip":=⟨_,hz,rfl⟩;unfold pyNext;refine wpAny_bind (wpAny_attempt (wpAny_callSpecial?_slot (name:=Str.ofString "__next__") hT F.slot_zip_next (wpAny_call_entry F.slot_zip_next hT F.entry_zip_next (Zqv hh D hz hTI hTO h1 h2 hl1 hl2 hend λh' e hk he=>?_) (F.args_zip_next_1 _))));obtain⟨o,ho,hc⟩:=he;exact wpAny_bind (wpAny_isInstance (T:="StopIteration") (b:=true) ⟨o,ho,hc⟩ isSubtype_stop (wpAny_pure (hQ _ hk)))
def itN:Bool->String
 | true=>"tuple_iterator"
 | false=>"list_iterator"
def itO(tup:Bool)(l:AJ):Obj:={ cls:=.type (itN tup),data:=.fields #[.ref l,.int 0 0] }
theorem Zlg{tup:Bool}{l:AJ}{xs:Array AK}{Q:Ap}(hl:qe tup s.heap l xs)(hQ:Q (.ref s.heap.objs.size) { s with heap:=s.heap.push (itO tup l) }):wpAny Ξ A (pyIter (.ref l)) Q E s:=by
 cases tup
 ·exact wpAny_pyIter_list hl hQ
 ·exact wpAny_pyIter_tuple hl hQ
theorem Zlh{tup:Bool}{h:Heap}{it l:AJ}(e:h.get? it=some (itO tup l)):nP tup h it l 0:=by
 cases tup
 ·exact⟨_,e,rfl,rfl⟩
 ·exact⟨_,e,rfl,rfl⟩
theorem qe.push{tup:Bool}{h:Heap}{l:AJ}{xs:Array AK}(x:qe tup h l xs)(o:Obj):qe tup (h.push o) l xs:=by
 cases tup
 ·exact Heap.IsList.push x o
 ·exact Heap.IsTuple.push x o
end
abbrev Zc(t1 t2:Bool)(h:Heap)(l1 l2:AJ):Heap:=(h.push (itO t1 l1)).push (itO t2 l2)
abbrev zh4(t1 t2:Bool)(h:Heap)(l1 l2:AJ):Heap:=((Zc t1 t2 h l1 l2).push { cls:=.type "tuple",data:=.seq #[.ref h.objs.size,.ref (h.push (itO t1 l1)).objs.size] }).push { cls:=.type "tuple",data:=.seq #[.none,.none] }
theorem Zir(t1 t2:Bool)(l1 l2:AJ)(xs ys:Array AK):
  Meets (Builtin.«zip.__new__» ⟨[.type "zip",.ref l1,.ref l2],[]⟩) (λ_ R s=>qe t1 s.heap l1 xs/\qe t2 s.heap l2 ys/\
   R (.ok (.ret (.ref (zh4 t1 t2 s.heap l1 l2).objs.size))) { s with heap:=(zh4 t1 t2 s.heap l1 l2).push { cls:=.type "zip",data:=.fields #[.none,.bool false,.bool false,.ref (Zc t1 t2 s.heap l1 l2).objs.size,.ref ((Zc t1 t2 s.heap l1 l2).push { cls:=.type "tuple",data:=.seq #[.ref s.heap.objs.size,.ref (s.heap.push (itO t1 l1)).objs.size] }).objs.size] } }):=
 .of_wp λprog w A R s h=>by
  obtain⟨hp,g,d,tk,os⟩:=s;obtain⟨hl1,hl2,h⟩:=h;have hsub:=sub_zip;have hL1:qe t1 (Shared.heap ⟨hp,g,d,tk,os⟩) l1 xs:=hl1;have hL2:qe t2 (Shared.heap ⟨hp.push (itO t1 l1),g,d,tk,os⟩) l2 ys:=hl2.push _
  wp_walk using Zlg hL1,Zlg hL2
  exact⟨_,rfl,h⟩
theorem Zie{prog:AN}{w:AQ}{A:Around}{E:Ap}{s:AL}{t1 t2:Bool}{l1 l2:AJ}{xs ys:Array AK}{Q:Ap}(hl1:qe t1 s.heap l1 xs)(hl2:qe t2 s.heap l2 ys)
  (h:∀h',IsZip h' (s.heap.objs.size+4) (s.heap.objs.size+2) (s.heap.objs.size+3) .none->IsPair h' (s.heap.objs.size+2) (.ref s.heap.objs.size) (.ref ar)->
   IsPair h' (s.heap.objs.size+3) .none .none->nP t1 h' s.heap.objs.size l1 0->nP t2 h' ar l2 0->(∀c o,s.heap.get? c=some o->h'.get? c=some o)->Q (.ref (s.heap.objs.size+4)) { s with heap:=h' }):
  wpAny Ξ A (call (.type "zip") [.ref l1,.ref l2]) Q E s:=by
 refine callType_new F.called_zip ε (F.typeCall_zip_2 _ _) (F.newCall_zip_2 _ _) (λobj=>F.args_object_init_3 obj _ _) F.entry_zip_new (Zir t1 t2 l1 l2 xs ys) ⟨hl1,hl2,?_⟩;show _/\_;unfold zh4;have z1:(s.heap.push (itO t1 l1)).objs.size=s.heap.objs.size+1:=Heap.size_push ..;have z2:(Zc t1 t2 s.heap l1 l2).objs.size=s.heap.objs.size+2:=by rw[Heap.size_push,z1]
 generalize hA:({ cls:=.type "tuple",data:=.seq #[.ref s.heap.objs.size,.ref (s.heap.push (itO t1 l1)).objs.size] }:Obj)=oA;have z3:((Zc t1 t2 s.heap l1 l2).push oA).objs.size=s.heap.objs.size+3:=by rw[Heap.size_push,z2]
 generalize hB:({ cls:=.type "tuple",data:=.seq #[.none,.none] }:Obj)=oB;have z4:(((Zc t1 t2 s.heap l1 l2).push oA).push oB).objs.size=s.heap.objs.size+4:=by rw[Heap.size_push,z3]
 generalize hC:({ cls:=.type "zip",data:=.fields #[.none,.bool false,.bool false,.ref (Zc t1 t2 s.heap l1 l2).objs.size,.ref ((Zc t1 t2 s.heap l1 l2).push oA).objs.size] }:Obj)=oC;have fC:oC.isFreed=false:=by rw[<- hC];rfl
 have fB:oB.isFreed=false:=by rw[<- hB];rfl
 have fA:oA.isFreed=false:=by rw[<- hA];rfl
 have f1:(itO t1 l1).isFreed=false:=rfl;have f2:(itO t2 l2).isFreed=false:=rfl;have g5:((((Zc t1 t2 s.heap l1 l2).push oA).push oB).push oC).get? (((Zc t1 t2 s.heap l1 l2).push oA).push oB).objs.size=some oC:=Heap.get?_push_size _ fC;have g4:((((Zc t1 t2 s.heap l1 l2).push oA).push oB).push oC).get? ((Zc t1 t2 s.heap l1 l2).push oA).objs.size=some oB:=Heap.get?_push_of_some _ (Heap.get?_push_size _ fB);have g3:((((Zc t1 t2 s.heap l1 l2).push oA).push oB).push oC).get? (Zc t1 t2 s.heap l1 l2).objs.size=some oA:=Heap.get?_push_of_some _ (Heap.get?_push_of_some _ (Heap.get?_push_size _ fA));have g2:((((Zc t1 t2 s.heap l1 l2).push oA).push oB).push oC).get? (s.heap.push (itO t1 l1)).objs.size=some (itO t2 l2):=Heap.get?_push_of_some _ (Heap.get?_push_of_some _ (Heap.get?_push_of_some _ (Heap.get?_push_size _ f2)));have g1:((((Zc t1 t2 s.heap l1 l2).push oA).push oB).push oC).get? s.heap.objs.size=some (itO t1 l1):=Heap.get?_push_of_some _ (Heap.get?_push_of_some _ (Heap.get?_push_of_some _ (Heap.get?_push_of_some _ (Heap.get?_push_size _ f1))));have kp:∀c o,s.heap.get? c=some o->((((Zc t1 t2 s.heap l1 l2).push oA).push oB).push oC).get? c=some o:=λc o x=>Heap.get?_push_of_some _ (Heap.get?_push_of_some _ (Heap.get?_push_of_some _ (Heap.get?_push_of_some _ (Heap.get?_push_of_some _ x))));rw[z4]at g5;rw[z3]at g4;rw[z2]at g3;rw[z1]at g2;rw[z2,z3]at hC;rw[z1]at hA;rw[z4];subst hC hA hB;exact⟨⟨_,g5,rfl⟩,h _ g5 g3 g4 (Zlh g1) (Zlh g2) kp⟩
def SqV(K:aK)(tup:Bool)(H:Hp)(a:AJ)(xs:List V):Prop:=match tup with
 | true=>ig K H a xs
 | false=>cN K H a xs
def Zf2(K:aK)(t1 t2:Bool)(a b:AJ):It:=
  ⟨λi H=>∃xs ys x y,SqV K t1 H a xs/\SqV K t2 H b ys/\xs[i]? =some x/\ys[i]? =some y,
   λi H v H'=>∃t x y,v=.ref t/\H t=none/\H'=upd H t (.tup [x,y])/\(∀xs,SqV K t1 H a xs->xs[i]? =some x)/\∀ys,SqV K t2 H b ys->ys[i]? =some y,
   λi H=>∃xs ys,SqV K t1 H a xs/\SqV K t2 H b ys/\(xs.length<=i\/ys.length<=i)⟩
def Zar(K:aK)(t1 t2:Bool)(ta:TA):TI:=λσ H R=>ta σ H λvs H1=>∃a b,vs=[.ref a,.ref b]/\(∃xs,SqV K t1 H1 a xs)/\(∃ys,SqV K t2 H1 b ys)/\R (Zf2 K t1 t2 a b) H1
theorem Zvh{K:aK}{t1 t2:Bool}{ta:TA}{σ:L2.St}{H:Hp}{R:It->Hp->Prop}(h:ta σ H λvs H1=>∃a b,vs=[.ref a,.ref b]/\(∃xs,SqV K t1 H1 a xs)/\(∃ys,SqV K t2 H1 b ys)/\R (Zf2 K t1 t2 a b) H1):Zar K t1 t2 ta σ H R:=h
section
variable {X:Cx}{pins:Au}{σ:L2.St}{H:Hp}{s:AL}
theorem Il{tup:Bool}{a:AJ}{xs:List V}(I:Inv X pins σ H s)(h:SqV X.K tup H a xs):∃its:AE,Vals xs its/\qe tup s.heap a its.toArray/\xs.length<=sizeLine:=by
 cases tup
 ·obtain⟨its,r,p,z⟩:=I.list h;exact⟨its,r,p.isList,z⟩
 ·obtain⟨its,r,p,z⟩:=I.tuple h;exact⟨its,r,(show s.heap.IsTuple a its.toArray from p),z⟩
theorem Zg0{tup:Bool}{a:AJ}{xs ys:List V}(I:Inv X pins σ H s)(h:SqV X.K tup H a xs)(h':SqV X.K tup H a ys):xs=ys:=by
 cases tup
 ·exact I.Qt h h'
 ·exact I.Zh9 h h'
end
def Zu7(t1 t2:Bool)(a b z TI TO i1 i2:AJ)(i:Nat)(h:Heap):Prop:=IsZip h z TI TO .none/\IsPair h TI (.ref i1) (.ref i2)/\(∃u v,IsPair h TO u v)/\nP t1 h i1 a i/\nP t2 h i2 b i
theorem Zh5{P:AN}{w:AQ}{K:aK}{elts:AH}{x1:Nat}{pt:Pos}(t1 t2:Bool)(a b z TI TO i1 i2:AJ)(D:ZipApart z TI TO i1 i2 a b):
    Turn P w K (.Tuple elts x1 pt) (Zf2 K t1 t2 a b) [z,TI,TO,i1,i2] z (Zu7 t1 t2 a b z TI TO i1 i2) where
  mem:=ζ
  obj:=λi h st c hc=>by
    obtain⟨hz,hTI,⟨u,v,hTO⟩,h1,h2⟩:=st;obtain⟨o1,q1,f1,d1⟩:=h1.obj;obtain⟨o2,q2,f2,d2⟩:=h2.obj;simp only[List.mem_cons,List.not_mem_nil,or_false]at hc;rcases hc with e | e | e | e | e
    · rw[e];exact⟨_,hz,λv z=>by cases z⟩
    · rw[e];exact⟨_,hTI,λv z=>by cases z⟩
    · rw[e];exact⟨_,hTO,λv z=>by cases z⟩
    · rw[e];exact⟨o1,q1,λv z=>by rw[d1]at z;cases z⟩
    · rw[e];exact⟨o2,q2,λv z=>by rw[d2]at z;cases z⟩
  keep:=λi h h' st k=>by
    obtain⟨hz,hTI,⟨u,v,hTO⟩,h1,h2⟩:=st;exact⟨k z ζ _ hz,k TI ζ _ hTI,⟨u,v,k TO ζ _ hTO⟩,h1.at λo q=>k i1 ζ o q,h2.at λo q=>k i2 ζ o q⟩
  item:=by
    intro X hP hw hK hc i pins s σ H E I hf st hg;subst hP hw hK;obtain⟨xs,ys,x,y,hq,hr,hx,hy⟩:=hg;obtain⟨its,rv,p,hzl⟩:=Il I hq;obtain⟨jts,rw',p2,Zxv⟩:=Il I hr;obtain⟨u,hu,ru⟩:=rv.get hx;obtain⟨v,hv,rv2⟩:=rw'.get hy;obtain⟨hz,hTI,⟨o1,o2,hTO⟩,h1,h2⟩:=st;have lt:∀{c o},s.heap.get? c=some o->c<s.heap.objs.size:=λe=>Heap.lt_size e;have l1:i1<s.heap.objs.size:=by obtain⟨_,e,_⟩:=h1.obj;exact lt e
    have l2:i2<s.heap.objs.size:=by obtain⟨_,e,_⟩:=h2.obj;exact lt e
    refine Znv D hz hTI hTO h1 h2 p p2 (x:=u) (y:=v) (by simpa using hu) (by simpa using hv) λh' a1 a2 a3 a4 a5 hk=>?_;refine⟨_,rfl,wpAny_letOwnedTupleGo_zip (s:={ s with heap:=h' }) a1 λh2' hz2 hs2=>?_⟩
    replace hs2:Heap.SameBut z h' h2':=hs2
    have hn:H s.heap.objs.size=none:=I.hok.fresh χ;have I2:Inv X pins σ (upd H s.heap.objs.size (.tup [x,y])) { s with heap:=h2',toks:=s.toks }:=by
      refine QG (ch:=[z,TI,TO,i1,i2]) I (λc o hcn q=>?_) hf χ ?_
      · simp only[List.mem_cons,List.not_mem_nil,or_false,not_or]at hcn
        exact hs2.extBut c o hcn.1 (hk c o hcn.1 hcn.2.2.1 hcn.2.2.2.1 hcn.2.2.2.2 q)
      · exact⟨by show 2<=sizeLine;decide,[u,v],.cons ru (.cons rv2 .nil),⟨_,hs2.extBut _ _ (Nat.ne_of_gt (lt hz)) a5,rfl,_,rfl⟩⟩
    refine⟨.ref s.heap.objs.size,_,I2,rfl,⟨_,x,y,rfl,hn,rfl,λzs h=>by rw[Zg0 I h hq];exact hx,λzs h=>by rw[Zg0 I h hr];exact hy⟩,⟨hz2,?_,?_,?_,?_⟩,λc hcm=>?_⟩
    · exact hs2.extBut _ _ D.TIz (hk TI _ D.TIz D.TITO D.TIi1 D.TIi2 hTI)
    · exact⟨u,v,hs2.extBut _ _ D.TOz a2⟩
    · exact a3.ext hs2.extBut D.i1z
    · exact a4.ext hs2.extBut D.i2z
    · have lc:c<s.heap.objs.size:=by
        simp only[List.mem_cons,List.not_mem_nil,or_false]at hcm;rcases hcm with e | e | e | e | e
        · rw[e];exact lt hz
        · rw[e];exact lt hTI
        · rw[e];exact lt hTO
        · rw[e];exact l1
        · rw[e];exact l2
      rw[aQ (Nat.ne_of_lt lc)];exact(hf c hcm).1
  done:=by
    intro X hP hw hK hc i pins s σ H E I hf st hg;subst hP hw hK;obtain⟨xs,ys,hq,hr,hx⟩:=hg;obtain⟨its,rv,p,hzl⟩:=Il I hq;obtain⟨jts,rw',p2,Zxv⟩:=Il I hr;obtain⟨hz,hTI,⟨o1,o2,hTO⟩,h1,h2⟩:=st;have e1:=rv.length;have e2:=rw'.length;refine Zrp (I.ok.hd hc) D hz hTI hTO h1 h2 p p2 ?_ λh' hk=>⟨rfl,Zht (ch:=[z,TI,TO,i1,i2]) (t':=s.toks) I (λc o hcn q=>?_) hf⟩
    · rcases hx with hx | hx
      · exact .inl (by simp;omega)
      · exact .inr (by simp;omega)
    · simp only[List.mem_cons,List.not_mem_nil,or_false,not_or]at hcn
      exact hk c o hcn.1 hcn.2.2.1 hcn.2.2.2.1 hcn.2.2.2.2 q
  self:=λA i s Q E st h=>wpAny_pyIter_zip st.1 h
theorem qe.lt{tup:Bool}{h:Heap}{a:AJ}{xs:Array AK}(x:qe tup h a xs):a<h.objs.size:=by
 cases tup
 ·obtain⟨o,ho,_⟩:=(show h.IsList a xs from x);exact Heap.lt_size ho
 ·obtain⟨o,ho,_⟩:=(show h.IsTuple a xs from x);exact Heap.lt_size ho
theorem Zwb(n a b:Nat)(ha:a<n)(hb:b<n):ZipApart (n+4) (n+2) (n+3) n (n+1) a b:=
 have d:=Zu9 n
 ⟨d.TIz,d.TOz,d.i1z,d.i2z,d.TITO,d.TIi1,d.TIi2,d.TOi1,d.TOi2,d.i12,(by omega:(a:Nat)≠(n+4:Nat)),(by omega:(a:Nat)≠(n+3:Nat)),(by omega:(a:Nat)≠(n:Nat)),(by omega:(a:Nat)≠(n+1:Nat)),(by omega:(b:Nat)≠(n+4:Nat)),(by omega:(b:Nat)≠(n+3:Nat)),(by omega:(b:Nat)≠(n:Nat)),(by omega:(b:Nat)≠(n+1:Nat))⟩
theorem W7{X:Cx}{elts:AH}{x1:Nat}{pt:Pos}{l r:AO}{ta:TA}{p pos:Pos}(t1 t2:Bool)(hg:Gl X "zip")(hm:X.mg "zip"=none)(ha:PA X [l,r] ta)(hs:starEach [l,r] X.env=(false,eval l X.env)::starEach [r] X.env:=by rfl)(hp:(backTo pos (starEach [r] X.env)).any (·.1)=false:=by rfl):
  PI X (.Tuple elts x1 pt) (.Call (.Name "zip" p) [l,r] [] pos) (Zar X.K t1 t2 ta):=by
 intro pins s σ H R I h;refine Call_ (Ck I hg hm boot_zip (PyProof.Rows.callWith_type1 (iJ (ha pos pins s σ H _ I h) λus s1 ⟨vs,H1,I1,r1,q1⟩=>?_) hs hp));obtain⟨a,b,e,⟨xs,hq⟩,⟨ys,hr⟩,q⟩:=q1;subst e;cases r1 with
 | cons ra rr=>
  cases rr with
  | cons rb rr=>
   cases rr;obtain rfl:_=Value.ref a:=ra;obtain rfl:_=Value.ref b:=rb;obtain⟨its,rv,pl,hz⟩:=Il I1 hq;obtain⟨jts,rv2,Z3,hz2⟩:=Il I1 hr;refine Zie pl Z3 λh' hzp hTI hTO h1 h2 hk=>?_;have I2:Inv X pins σ H1 { s1 with heap:=h' }:=I1.kept (t':=s1.toks) hk
   refine wpAny_pyIter_zip (s:={ s1 with heap:=h' }) hzp ?_;have hf:∀b,s1.heap.objs.size<=b->sG X pins H1 b:=λb hb=>I1.Zem hb (I1.hok.fresh hb);refine⟨_,[s1.heap.objs.size+4,s1.heap.objs.size+2,s1.heap.objs.size+3,s1.heap.objs.size,s1.heap.objs.size+1],_,_,H1,rfl,I2,Zh5 t1 t2 a b _ _ _ _ _ (Zwb _ _ _ pl.lt Z3.lt),⟨hzp,hTI,⟨_,_,hTO⟩,h1,h2⟩,λc hc=>?_,q⟩;simp only[List.mem_cons,List.not_mem_nil,or_false]at hc;have hc2:(s1.heap.objs.size:Nat)<=(c:Nat):=by
    rcases hc with e | e | e | e | e<;>rw[e]
    ·exact Nat.le_add_right _ _
    ·exact Nat.le_add_right _ _
    ·exact Nat.le_add_right _ _
    ·exact Nat.le_refl _
    ·exact Nat.le_add_right _ _
   exact hf c hc2
section
variable {K:aK}{t1 t2:Bool}{a b:AJ}{g:TG}{tb:TS}{σ:L2.St}{H:Hp}{n:L2.St->Hp->Prop}{r:VK}
theorem Zqq(xs ys:List V)(hlen:xs.length=ys.length)(Pv:Nat->L2.St->Hp->Prop)(h0:Pv 0 σ H)(hl:∀i σ H,i<=xs.length->Pv i σ H->SqV K t1 H a xs/\SqV K t2 H b ys)
  (hs:∀i x y t σ H,xs[i]? =some x->ys[i]? =some y->Pv i σ H->H t=none->g (.ref t) σ (upd H t (.tup [x,y])) λσ2 H2=>tb ⟨Pv (i+1),r,n,Pv (i+1)⟩ σ2 H2) (hd:∀ σ H,Pv xs.length σ H->n σ H):
  ∃W:Nat->Nat->L2.St->Hp->Prop,(∃m,W 0 m σ H)/\∀i m σ H,W i m σ H->
   ((Zf2 K t1 t2 a b).stop i H/\n σ H)\/((Zf2 K t1 t2 a b).go i H/\∃N:L2.St->Hp->Prop,(∀ σ' H',N σ' H'->∃m',m'<m/\W (i+1) m' σ' H')/\∀x H',(Zf2 K t1 t2 a b).yld i H x H'->g x σ H' λσ2 H2=>tb ⟨N,r,n,N⟩ σ2 H2):=by
 refine⟨λi m σ H=>i<=xs.length/\m=xs.length - i/\Pv i σ H,⟨xs.length,Nat.zero_le _,rfl,h0⟩,?_⟩;rintro i m σ H ⟨hi,rfl,p⟩;obtain⟨hq,hr⟩:=hl i σ H hi p
 by_cases hk:i=xs.length
 ·subst hk;exact .inl ⟨⟨xs,ys,hq,hr,.inl χ⟩,hd σ H p⟩
 ·have hlt:i<xs.length:=δ
  have hx:xs[i]? =some xs[i]:=dF hlt;have hy:ys[i]? =some (ys[i]' δ):=dF δ;refine .inr ⟨⟨xs,ys,_,_,hq,hr,hx,hy⟩,Pv (i+1),λσ' H' p'=>⟨xs.length - (i+1),δ,δ,rfl,p'⟩,?_⟩;rintro v H' ⟨t,x,y,rfl,ht,rfl,h1,h2⟩;exact hs i x y t σ H (h1 xs hq) (h2 ys hr) p ht
end
def xJ(w:AQ):List DictEntry->List (Str×V)->Prop
 | [],[]=>True
 | e::es,p::t=>e.hash=hashStr w p.1/\(∃tk,e.key=.str p.1 tk)/\RelV p.2 e.val/\xJ w es t
 | _,_=>False
def Zn4(K:aK)(w:AQ)(mg:As)(nm:Str)(uE:List (Str×V)):Prop:=
 ∃dd o es ep,mg nm=↑dd/\(dd == sysModules)=false/\K.lookup dd=some o/\o.ExactDict/\o.data=.dict es ep/\xJ w es.toList uE
theorem xJ.keys{prog:AN}{w:AQ}:∀{es:List DictEntry}{uE:List (Str×V)},xJ w es uE->∀e∈es,∃k,(strKind prog w).is k e.key=true/\e.hash=(strKind prog w).hash k
 | [],_,_=>λe he=>absurd he List.not_mem_nil
 | e::es,[],h=>h.elim
 | e::es,p::t,h=>λx hx=>by
  obtain⟨h1,⟨tk,h2⟩,_,h4⟩:=h;rcases List.mem_cons.mp hx with rfl | hx
  ·refine⟨p.1,?_,h1⟩;rw[h2];show Value.isStrOf p.1 (.str p.1 tk)=true;simp[Value.isStrOf]
  ·exact xJ.keys h4 x hx
theorem xJ.find{w:AQ}:∀{es:List DictEntry}{uE:List (Str×V)}{k:Str},xJ w es uE->(match (es.find? λe=>Value.isStrOf k e.key).map (·.val),uE.lookup k with
  | some u,some v=>RelV v u
  | none,none=>True
  | _,_=>False)
 | [],[],_,_=>trivial
 | [],_::_,_,h=>h.elim
 | _::_,[],_,h=>h.elim
 | e::es,p::t,k,h=>by
  obtain⟨_,⟨tk,h2⟩,h3,h4⟩:=h;rw[List.find?_cons,h2];obtain⟨a,b⟩:=p
  by_cases hk:k=a
  ·subst hk;have e1:Value.isStrOf k (.str k tk)=true:=by simp[Value.isStrOf]
   simp only[e1,List.lookup,beq_self_eq_true];exact h3
  ·have e1:Value.isStrOf k (.str a tk)=false:=by
    simp only[Value.isStrOf,beq_eq_false_iff_ne,ne_eq];exact λz=>hk z.symm
   simp only[e1,List.lookup,beq_eq_false_iff_ne.mpr hk];exact xJ.find h4
section
variable {X:Cx}{nm:Str}{uE:List (Str×V)}{i:AO}{ti:TE}{p pos ap:Pos}
theorem xJ.map{s:AL}{dd:AJ}{o:Obj}{es:Array DictEntry}{ep:Nat}(hh:s.heap.get? dd=some o)(ho:o.ExactDict)(hda:o.data=.dict es ep)(te:xJ X.w es.toList uE):s.heap.MapOf (strKind X.prog X.w) dd (λk=>findBy Value.isStrOf es k):=
 ⟨o,es,ep,hh,ho,hda,λe he=>te.keys e (by simpa using he),λ_=>rfl⟩
theorem xJ.at{es:Array DictEntry}{k:Str}(te:xJ X.w es.toList uE):(∀v,uE.lookup k=some v->∃u,findBy Value.isStrOf es k=some u/\RelV v u)/\(uE.lookup k=none->findBy Value.isStrOf es k=none):=by
 have e:findBy Value.isStrOf es k=(es.toList.find? λe=>Value.isStrOf k e.key).map (·.val):=by
  show Option.map (λx=>x.val) (Array.find? (λe=>Value.isStrOf k e.key) es)=_;rw[<- Array.find?_toList]
 have f:=te.find (k:=k);rw[<- e]at f;refine⟨λv hv=>?_,λhn=>?_⟩
 ·rw[hv]at f;cases h:findBy Value.isStrOf es k with
  | none=>rw[h]at f;exact f.elim
  | some u=>rw[h]at f;exact⟨u,rfl,f⟩
 ·rw[hn]at f;cases h:findBy Value.isStrOf es k with
  | none=>rfl
  | some u=>rw[h]at f;exact f.elim
theorem Wv{k:Str}{tk:Tok}:(strKind X.prog X.w).is k (.str k tk)=true:=by show Value.isStrOf k (.str k tk)=true;simp[Value.isStrOf]
def Zj7(uE:List (Str×V))(ti:TE):TE:=λσ H Q=>ti σ H λy H1=>∃k v,y=.str k/\uE.lookup k=some v/\Q v H1
theorem Zo6(T:Zn4 X.K X.w X.mg nm uE)(hg:Gl X nm)(hi:PE X i ti)(hs:Zq4 i)(hd:(nm == ("__debug__":Str))=false:=by decide):PE X (.Subscript (.Name nm p) i pos) (Zj7 uE ti):=by
 intro pins s σ H Q I h;obtain⟨dd,o,es,ep,hm,_,hk,ho,hda,te⟩:=T;refine Zfg PySem.F.slot_dict_getitem.lookup hs (gB I hg hm ?_ hd);refine iJ (hi pins s σ H _ I h) λiv s2 ⟨y,H2,I2,ry,k,v,ey,l,q2⟩=>?_;subst ey;have hh:=I2.pL dd o hk;refine⟨⟨o,hh,ho.1⟩,?_⟩;obtain⟨tk,rfl⟩:∃tk,iv=.str k tk:=ry;obtain⟨u,eu,ru⟩:=te.at.1 v l;exact wpAny_getItem_of (knd:=strKind X.prog X.w) (k:=k) (f:=λk=>findBy Value.isStrOf es k) Wv (te.map hh ho hda) (v:=u) eu ⟨v,H2,I2.tok _,ru,q2⟩
def Zj8(uE:List (Str×V))(ti:TE):TE:=λσ H Q=>ti σ H λy H1=>∃k,y=.str k/\Q ((uE.lookup k).getD .non) H1
theorem Zo7(T:Zn4 X.K X.w X.mg nm uE)(hg:Gl X nm)(hi:PE X i ti)(m:M1 X (.Name nm p) "get" ap i pos)(hd:(nm == ("__debug__":Str))=false:=by decide):PE X (.Call (.Attribute (.Name nm p) "get" ap) [i] [] pos) (Zj8 uE ti):=by
 intro pins s σ H Q I h;obtain⟨dd,o,es,ep,hm,hsm,hk,ho,hda,te⟩:=T;refine wpAny_Call_method m.base m.few m.line PySem.F.plainAttrs_dict PySem.F.slot_dict_get PySem.F.type_dict_get (gB I hg hm ?_ hd);have h1:=I.pL dd o hk;refine⟨⟨o,h1,ho.1⟩,?_,?_⟩
 ·intro b q;cases q;exact⟨o,h1,ho.2.1⟩
 rw[m.trees];refine Calls.callWith_builtin rfl (Calls.evalArgs_plain (Calls.spliced_cons (iJ (hi pins s σ H _ I h) λiv s2 ⟨y,H2,I2,ry,k,ey,q2⟩=>Calls.spliced_nil ?_)));subst ey;obtain⟨tk,rfl⟩:∃tk,iv=.str k tk:=ry;have hh:=I2.pL dd o hk;refine call_meetsIn PySem.F.slot_dict_get ⟨o,hh,ho.1⟩ PySem.F.entry_dict_get (PySem.F.args_dict_get_2 _ _) (meets_dict_get (strKind X.prog X.w) dd Wv hsm) ⟨_,te.map hh ho hda,?_⟩;cases l:uE.lookup k with
 | none=>
  rw[te.at.2 l];rw[l]at q2;exact⟨.non,H2,I2.tok _,rfl,q2⟩
 | some v=>
  obtain⟨u,eu,ru⟩:=te.at.1 v l;rw[eu];rw[l]at q2;exact⟨v,H2,I2.tok _,ru,q2⟩
def Zch(ti:TE)(uE:List (Str×V)):TE:=λσ H Q=>ti σ H λy H1=>∃k,y=.str k/\Q (.bl (uE.lookup k).isSome) H1
theorem Zkf(T:Zn4 X.K X.w X.mg nm uE)(hg:Gl X nm)(hi:PE X i ti)(hd:(nm == ("__debug__":Str))=false:=by decide):PC X .In i (.Name nm p) (Zch ti uE):=by
 intro pins s σ H Q I h;obtain⟨dd,o,es,ep,hm,hsm,hk,ho,hda,te⟩:=T;refine iJ (hi pins s σ H _ I h) λiv s1 ⟨y,H1,I1,ry,k,ey,q1⟩=>gB I1 hg hm ?_ hd;subst ey;obtain⟨tk,rfl⟩:∃tk,iv=.str k tk:=ry;have hh:=I1.pL dd o hk;refine wpAny_in_of (knd:=strKind X.prog X.w) Wv hsm (te.map hh ho hda) ?_;have e:(findBy Value.isStrOf es k).isSome=(uE.lookup k).isSome:=by
  cases l:uE.lookup k with
  | none=>rw[te.at.2 l];rfl
  | some v=>obtain⟨u,eu,_⟩:=te.at.1 v l;rw[eu];rfl
 rw[e];exact⟨.bl (uE.lookup k).isSome,H1,I1.tok _,rfl,q1⟩
end
section
variable {σ:L2.St}{H:Hp}{Q:VK}{uE:List (Str×V)}{ti:TE}
theorem Zss(h:ti σ H λy H1=>∃k v,y=.str k/\uE.lookup k=some v/\Q v H1):Zj7 uE ti σ H Q:=h
theorem Zst(h:ti σ H λy H1=>∃k,y=.str k/\Q ((uE.lookup k).getD .non) H1):Zj8 uE ti σ H Q:=h
theorem Zp3(h:ti σ H λy H1=>∃k,y=.str k/\Q (.bl (uE.lookup k).isSome) H1):Zch ti uE σ H Q:=h
end
def Zfh(K:aK):V->List V->Hp->VK->Prop:=λx vs H Q=>∃(p:AJ) (zs:AI) (z:Str) (j:Nat),x=.ref p/\vs=[.str z]/\cN K H p (zs.map V.str)/\zs[j]? =some z/\(∀i,i<j->zs[i]?≠some z)/\Q (.int (j:Nat)) H
theorem Zho{X:Cx}:MtR X "list.index" (Zfh X.K):=by
 intro pins s σ H x xs v us Q I rx rs h;obtain⟨p,zs,z,j,rfl,rfl,hs,hj,hlt,q⟩:=h;obtain rfl:v=Value.ref p:=rx;obtain⟨u,rfl,ru⟩:=Vals.one rs;obtain⟨ws,r,pl,hz⟩:=I.list hs;obtain⟨⟨cls,dd,data,sl⟩,ho,hc,n,hd⟩:=pl.isList;simp only at hc hd;subst hc hd;have hl:=r.length;rw[bF]at hl hz;have fl:(zs.map V.str).all jE=true:=by
  rw[List.all_map,List.all_eq_true];intro x _;rfl
 have hjl:=(iB hj).1;have get:∀(i:Nat) (hi:i<ws.length),Yu (.str z) ws[i]=decide (zs[i]? =some z):=λi hi=>by
  have hi2:i<zs.length:=δ
  obtain⟨w,hw,rw'⟩:=r.get (i:=i) (x:=.str zs[i]) (by rw[fY,dF hi2];rfl);have e:ws[i]=w:=by
   rw[dF hi]at hw;exact Option.some.inj hw
  rw[e,Zew rw' rfl,dF hi2];show(zs[i] == z)=_
  by_cases e:zs[i]=z
  ·rw[e];simp
  ·have:(zs[i] == z)=false:=by simpa using e
   rw[this,decide_eq_false (λq=>e (Option.some.inj q))]
 have hz2:zs.length<2 ^ 62:=Nat.lt_of_le_of_lt hz ε;refine call_meets PySem.F.slot_list_index ⟨_,ho,rfl⟩ PySem.F.entry_list_index (PySem.F.args_list_index_2 _ _)
  (SeqAt.list_indexAt p ws.toArray n dd sl u (Yu (.str z)) j (by simp;omega) δ ?_ ?_) ⟨ho,λy hy=>vh ru rfl r fl y (by simpa using hy),⟨.int _,H,I.tok _,⟨_,rfl⟩,q⟩⟩
 ·show Yu (.str z) ws[j]=true;rw[get j δ,decide_eq_true hj]
 ·intro i his hij;show Yu (.str z) ws[i]=false;rw[get i (by simpa using his),decide_eq_false (hlt i hij)]
theorem Hg{X:Cx}{iz:Nat}{z:Str}{pz Zug:Pos}{elt iter:AO}{x y:Str}{px py pt pos:Pos}{kt:Nat}{ifs:AH}{scope:Scope}{cl:List (Str×AJ)}{wi:TI}{tc:TT}{te:TE}{cns:AI}(caps:List Nat)
  (hi:PI X (.Tuple [.Name x px,.Name y py] kt pt) iter wi)
  (hf:∀C s H ex pn,PF (Jp X scope cl (x::y::cns) C s H ex pn) ifs tc) (he:∀C s H ex pn,PE (Jp X scope cl (x::y::cns) C s H ex pn) elt te) (hc:X.calm=true)
  (hclos:closureFor scope X.env=pure cl) (hcl:AllIn X.env.cells cl) (hcap:xN X cns caps)
  (hkind:scope.kind=.function) (hcell:(scope.names.all λp=>p.2 != .cell)=true) (hfree:(scope.names.all λp=>p.2 != .free || (cl.lookup p.1).isSome)=true)
  (hcf:(cns.all λy=>scope.names.lookup y == some .free)=true) (hnames:∀y∈scope.names,y.2=.local->scope.names.lookup y.1=some .local) (hx:scope.names.lookup x=some .local) (hy:scope.names.lookup y=some .local) (hnd:(x::y::cns).Nodup)
  (hN:X.N.Nodup) (hiz:X.N[iz]? =some z) (hz:Loc X.env.scope z) (hfz:X.fn z=true\/X.env.scope.names.lookup z=some .local)
  (hsw:swapsWithSole [.Name z pz] (.ListComp elt [⟨.Tuple [.Name x px,.Name y py] kt pt,iter,ifs,0⟩] scope pos) Zug.line X.env=pure true) (hs:∀v,foldedSetIterable iter X.env v=pure v:=by intro _;rfl):
  PS X (.Assign [.Name z pz] (.ListComp elt [⟨.Tuple [.Name x px,.Name y py] kt pt,iter,ifs,0⟩] scope pos) Zug) (bO (Ws X.K wi caps tc te) (aO iz)):=by
 intro pins s σ H D I h;generalize hQ:(λv H1=>aO iz v σ H1 D.nx)=Q;have h:Ws X.K wi caps tc te σ H Q:=hQ ▸ h;rw[exec_Assign_arm];refine wpAny_bind (wpAny_standAt ?_);rw[hsw];refine wpAny_bind (wpAny_pure ?_);rw[if_pos rfl];refine wpAny_bind ?_;rw[evalThenUse]
 suffices key:wpAny ς X.A (comprehension (.ListComp elt [⟨.Tuple [.Name x px,.Name y py] kt pt,iter,ifs,0⟩] scope pos) scope X.env (firstIterPos [⟨.Tuple [.Name x px,.Name y py] kt pt,iter,ifs,0⟩] pos) (newList []) (firstAsync [⟨.Tuple [.Name x px,.Name y py] kt pt,iter,ifs,0⟩]) (firstIter [⟨.Tuple [.Name x px,.Name y py] kt pt,iter,ifs,0⟩] X.env) (some λv=>assignAll v ((assignEach [.Name z pz] X.env).map (·.2)))) (λ_ s'=>SP X pins D .next s') X.xe s from
  wpAny_bind (wpAny_mono key (λ_ s' h=>wpAny_pure (wpAny_pure h)) λ_ _ h=>h)
 refine Zfx (ns:=[x,y]) (gt:=Yn X.K 2 (pZ (aO 0) (pZ (aO 1) Yo))) (R:=λJ σ H Q=>Zf1 X.K J caps tc te σ H Q) caps (λJ σ H Q h=>?_) hi (λC s H ex pn=>BR hc (jo (fj hnd rfl (.inl (lookup_relabel_local hx)) (.inr (lookup_relabel_local hx))) (jo (fj hnd rfl (.inl (lookup_relabel_local hy)) (.inr (lookup_relabel_local hy))) wF))) hf he hc hclos hcl hcap hkind hcell hfree hcf hnames hs I h λacc C s6 m r0 hm fCC fin=>?_
 ·obtain⟨W,w0,turn⟩:=h;refine⟨W,w0,λi m ys H hw=>(turn i m ys H hw).imp id λ⟨g,l,st⟩=>⟨g,l,λz H' y vs hv=>?_⟩⟩;obtain⟨ta,u1,u2,ez,hst,st⟩:=st z H' y
  match vs,hv with
  | [v,v'],_=>exact⟨[some u1,some u2],rfl,⟨ta,_,ez,hst,rfl,_,_,rfl,_,_,rfl,rfl,rfl,rfl⟩,st⟩
 obtain⟨v,Hf,If,rf,qf,hfC⟩:=fin s6.heap (Heap.SameBut.refl _ _);have fC:sG X pins Hf C:=fCC hfC;obtain⟨oC,esC,epC,gC,dC,kC,nC⟩:=hm;have Ip:Inv X (pins++[(C,oC)]) σ Hf s6:=Inv.zB If λp hp=>by
  rcases List.mem_append.mp hp with hp | hp
  ·exact If.pin p (List.mem_append_right _ hp)
  ·rw[List.mem_singleton.mp hp];exact⟨gC,fC.1,fC.2.1,fC.2.2.1,λv z=>by rw[dC]at z;cases z⟩
 show wpAny _ _ (assign (.Name z pz) X.env (.ref acc)) _ _ _;refine wpAny_assign_Name (pU Ip hN hiz hz rf (λs7 I7=>?_) hfz);have g7:=(I7.pin (C,oC) (List.mem_append_right _ (List.mem_append_right _ List.mem_cons_self))).1;refine⟨m,⟨oC,esC,epC,g7,dC,kC,nC⟩,λh' hs'=>?_⟩;have I8:=I7.De;have qf:D.nx (σ.set iz (some v)) Hf:=by rw[<- hQ]at qf;exact qf
 have kb:∀b o,b≠C->s7.heap.get? b=some o->h'.get? b=some o:=λb o hb e=>hs'.extBut b o hb e;refine⟨_,Hf,I8.step (ch:=[C]) (λb hb=>?_) (λb o _ _ hb e _=>kb b o (λz=>hb (by rw[z];exact List.mem_cons_self)) e) (λb o _ _ hb e _=>⟨o.slots,kb b o (λz=>hb (by rw[z];exact List.mem_cons_self)) e⟩) (λ_ _ _ _ h=>h) (λb o hb e=>⟨o,kb b o (λz=>hb (by rw[z];exact List.mem_cons_self)) e⟩) (λ_ _ h=>h) (λ_ _ _ h=>h) (λ_ ps h=>⟨#[],by simpa using h⟩) (λm' hm'=>?_) (λb u e=>?_) I8.bare,qf⟩
 ·rw[List.mem_singleton.mp hb];exact⟨fC.2.2.2.1,fC.2.1,fC.2.2.2.2.1,fC.2.2.2.2.2⟩
 ·obtain⟨o',e1,e2,e3,e4,e5⟩:=hm';exact⟨o',e1,e2,kb _ _ fC.2.1.symm e3,e4,e5⟩
 ·refine(I8.hok b u e).stay (λc w' hc q=>kb c w' ?_ q) (λ_ q=>q) λ_ _ q=>q;rintro rfl;rcases hc with rfl | hc
  ·rw[hfC]at e;cases e
  ·rw[hfC]at hc;cases hc
section
variable {X:Cx}
def Zr8(t:TE):TE:=λσ H Q=>t σ H λv H'=>(∃i:Int,v=.int i/\i.natAbs.log2<1920/\Q (.str (Str.ofString (toString i))) H')\/∃z:Str,v=.str z/\z.length<=sizeLine/\Q (.str z) H'
def tFs:List TE->Str->TE
 | [],acc=>λ_ H Q=>acc.length<=sizeLine/\Q (.str acc) H
 | t::ts,acc=>λσ H Q=>t σ H λv H'=>∃z:Str,v=.str z/\(acc++z).length<=sizeLine/\tFs ts (acc++z) σ H' Q
inductive PL(X:Cx):AH->List TE->Prop
 | nil:PL X [] []
 | cons {e:AO}{t:TE}{es:AH}{ts:List TE}:PE X e t->PL X es ts->PL X (e::es) (t::ts)
theorem Zrs{e:AO}{t:TE}{pos:Pos}(h:PE X e t):PE X (.FormattedValue e (-1) none pos) (Zr8 t):=by
 intro pins s σ H Q I q;refine FormattedValue_plain (iJ (h pins s σ H _ I q) λv s1 ⟨x,H1,I1,r1,q1⟩=>?_);rcases q1 with ⟨i,rfl,hd,q⟩ | ⟨z,rfl,hz,q⟩
 ·obtain⟨k,rfl⟩:=r1;exact formatField_int_small hd ⟨.str _,H1,I1.tok _,⟨_,rfl⟩,q⟩
 ·obtain⟨k,rfl⟩:=r1;exact formatField_str (λt' tk=>⟨.str z,H1,I1.tok tk,⟨_,rfl⟩,q⟩) hz
theorem Zux{es:AH}{ts:List TE}(h:PL X es ts):∀(acc:Str) (pins:Au) (s:AL) (σ:L2.St) (H:Hp) (Q:VK),Inv X pins σ H s->tFs ts acc σ H Q->wpAny ς X.A (joinParts acc (evalEach es X.env)) (EP X pins σ Q) X.xe s:=by
 induction h with
 | nil=>
  intro acc pins s σ H Q I q;exact joinParts_nil ⟨.str acc,H,I.tok _,⟨_,rfl⟩,q.2⟩ q.1
 | @cons e t es ts he _ ih=>
  intro acc pins s σ H Q I q;refine joinParts_cons (iJ (he pins s σ H _ I q) λv s1 ⟨x,H1,I1,r1,q1⟩=>?_);obtain⟨z,rfl,hz,q2⟩:=q1;obtain⟨k,rfl⟩:=r1;exact⟨hz,ih _ pins s1 σ H1 Q I1 q2⟩
theorem Zuk{e1 e2:AO}{es:AH}{ts:List TE}{pos:Pos}(h:PL X (e1::e2::es) ts):PE X (.JoinedStr (e1::e2::es) pos) (tFs ts Str.empty):=by
 intro pins s σ H Q I q;exact JoinedStr_many (Zux h Str.empty pins s σ H Q I q)
theorem Zxr{t:TE}{ts:List TE}{acc:Str}{σ:L2.St}{H:Hp}{Q:VK}(h:t σ H λv H'=>∃z:Str,v=.str z/\(acc++z).length<=sizeLine/\tFs ts (acc++z) σ H' Q):tFs (t::ts) acc σ H Q:=h
theorem Zvl{acc:Str}{σ:L2.St}{H:Hp}{Q:VK}(h1:acc.length<=sizeLine)(h:Q (.str acc) H):tFs [] acc σ H Q:=⟨h1,h⟩
theorem Zvn{t:TE}{σ:L2.St}{H:Hp}{Q:VK}(h:t σ H λv H'=>(∃i:Int,v=.int i/\i.natAbs.log2<1920/\Q (.str (Str.ofString (toString i))) H')\/∃z:Str,v=.str z/\z.length<=sizeLine/\Q (.str z) H'):Zr8 t σ H Q:=h
end
def Cz(K:aK)(C:AJ):Prop:=∃(nm q:Str) (N:AJ) (bs:AE) (rs:AG) (sn:AI) (sub:AE) (ab:Bool) (col:Option Bool) (dd:Option AJ) (k0 k1 k2 k3 k5:AC),
 K.lookup C=some (excClassObj nm q C N bs (rs.map Value.ref++Ff) true sn sub ab col dd k0 k1 k2 k3 k5 "ValueError.__new__")
theorem xX(T:String):∀rs:AG,(rs.map Value.ref++Ff).contains (.type T)=Ff.contains (.type T)
 | []=>rfl
 | a::r=>by rw[List.map_cons,List.cons_append,List.contains_cons,xX T r];rfl
theorem Zf9(self:AK):∀rs:AG,refuseLoop self "__setattr__" (rs.map Value.ref++Ff)=pure ()
 | []=>PySem.F.store_ValueError.passes self
 | a::r=>by rw[List.map_cons,List.cons_append,refuseLoop_ref];exact Zf9 self r
structure Wj(K:aK)(C f:AJ):Prop where
 xo:Cz K C
 init:W.findIn K (.ref C) "__init__"=some (↑f)
 fn:W.isFn K (.ref f)=true
section
variable {prog:AN}{w:AQ}{A:Around}{E:Ap}{h:Heap}{g:Array GenState}{d:Drawn}{t:Nat}{os:OsState}{K:aK}
variable {nm q:Str}{C N:AJ}{bs bm:AE}{hdct:Bool}{sn:AI}{sub:AE}{ab:Bool}{col:Option Bool}{dd:Option AJ}{k0 k1 k2 k3 k5:AC}{rs:AG}{rest:AE}
abbrev Oz(rest:AE):Obj:={ cls:=.type "tuple",data:=.seq rest.toArray }
abbrev Ru(C t:AJ):Obj:={ cls:=.ref C,data:=.fields #[.ref t,.none,.none,.none,.bool false,.none] }
theorem Zqz{R:Result->AL->Prop}(hC:h.get? C=some (excClassObj nm q C N bs (rs.map Value.ref++Ff) hdct sn sub ab col dd k0 k1 k2 k3 k5 "ValueError.__new__"))
  (hq:R (.ok (.ret (.ref (h.objs.size+1)))) ⟨(h.push (Oz rest)).push (Ru C h.objs.size),g,d,t,os⟩) (hr:rest.length<=sizeLine):
  codeAny Ξ A (.builtin "ValueError.__new__" ⟨.ref C::rest,[]⟩) R ⟨h,g,d,t,os⟩:=by
 have F:=PySem.F.excBase_ValueError;have e0:=F.ends;have e1:(Value.ref C::(rs.map Value.ref++Ff)).contains (.type "ValueError")=true:=by rw[List.contains_cons,xX];rfl
 have e2:(Value.ref C::(rs.map Value.ref++Ff)).contains (.type "AttributeError")=false:=by rw[List.contains_cons,xX];rfl
 have e3:(Value.ref C::(rs.map Value.ref++Ff)).contains (.type "NameError")=false:=by rw[List.contains_cons,xX];rfl
 refine codeAny_builtinAt F.entry ?_;unfold Builtin.«BaseException.__new__»;refine PySem.wpAt_bind ?_;show PySem.wpAt _ _ _ (stack >>= _) _ _ _;refine PySem.wpAt_bind (PySem.wpAt_stack λp below=>PySem.wpAt_of_wpAny ?_)
 wp_walk
 refine PySem.wpAt_of_wpAny ?_;rw[F.owner]
 repeat (first | with_reducible refine wpAny_madeHere_exc F.canon hC ?_ | with_reducible refine wpAny_loadPart_at hC ?_ | (with_reducible refine wpAny_isSubtype_exc hC ?_;first | rw[e1] | rw[e2] | rw[e3]) | wp_step)
 show R _ _;rw[Heap.size_push];exact hq
theorem Zr0{M:Model}{Q:Unit->AL->Prop}(hC:h.get? C=some (excClassObj nm q C N bs (rs.map Value.ref++Ff) hdct sn sub ab col dd k0 k1 k2 k3 k5 "ValueError.__new__"))
  (hq:Q () ⟨h,g,d,t,os⟩):wpAny M A (checkBuiltinCall "ValueError.__new__" ⟨.ref C::rest,[]⟩) Q E ⟨h,g,d,t,os⟩:=by
 have F:=PySem.F.excBase_ValueError;have e1:(Value.ref C::(rs.map Value.ref++Ff)).contains (.type "ValueError")=true:=by rw[List.contains_cons,xX];rfl
 have e0:=F.noStar;simp only[checkBuiltinCall,F.newKind,F.newSplit,F.newRow]
 repeat (first | refine wpAny_loadPart_at hC ?_ | (refine wpAny_isSubtype_exc hC ?_;rw[e1]) | refine wpAny_staticBase_exc hC ?_ | refine wpAny_madeBy_exc hC ?_ | simp only[bne_self_eq_false,Bool.false_eq_true,if_false] | wp_step)
 exact hq
theorem Zn8{f:AJ}{Q:Ap}(X:K.In h)(F:Wj K C f)
  (hq:wpAny Ξ (A.under (.builtin "type.__call__" ⟨.ref C::rest,[]⟩)) (call (.ref f) (.ref (h.objs.size+1)::rest)) (λr s'=>r=.none/\Q (.ref (h.objs.size+1)) s') E ⟨(h.push (Oz rest)).push (Ru C h.objs.size),g,d,t,os⟩)
  (hr:rest.length<=sizeLine):wpAny Ξ A (call (.ref C) rest) Q E ⟨h,g,d,t,os⟩:=by
 obtain⟨nm,q,N,bs,rs,sn,sub,ab,col,dd,k0,k1,k2,k3,k5,lk⟩:=F.xo;have hC:=X _ _ lk;have f1:=tc_lookup;have f2:=tc_bind (.ref C);have hT:(⟨h,g,d,t,os⟩:AL).TypeIs (.ref C) "type":=⟨_,hC,rfl⟩;have kp:∀b o,h.get? b=some o->((h.push (Oz rest)).push (Ru C h.objs.size)).get? b=some o:=λb o e=>Heap.get?_push_of_some _ (Heap.get?_push_of_some _ e);have X1:K.In ((h.push (Oz rest)).push (Ru C h.objs.size)):=λb o e=>kp _ _ (X b o e);have hC1:=kp _ _ hC;have hge:((h.push (Oz rest)).push (Ru C h.objs.size)).get? (h.objs.size+1)=some (Ru C h.objs.size):=by heap_get
 have ec:(Value.ref C::(rs.map Value.ref++Ff)).contains (.ref C)=true:=ζ
 refine wpAny_call (codeAny_of_tree ?_);show wpAny _ _ (callAny (.ref C) _) _ _ _
 repeat (any_goals (first | assumption | with_reducible refine wpAny_loadPart_at hC ?_ | wp_step))
 refine⟨rfl,?_⟩;refine codeAny_call_builtin_at (Code.quiet_builtin _ γ) entry_typeCall (wpAny_check_type_call_sub hC ?_)
 repeat (first | with_reducible refine wpAny_loadPart_at hC ?_ | with_reducible refine wpAny_madeBy_exc hC ?_ | wp_step)
 refine codeAny_call_builtin_code (Code.quiet_builtin _ PySem.F.excBase_ValueError.quiet) (Zr0 hC ?_);refine Zqz hC ?_ hr;show wpAny _ _ _ _ _ _;unfold isInstance
 repeat (first | with_reducible refine wpAny_loadPart_at hge ?_ | wp_step)
 refine wpAny_isSubtype_exc hC1 ?_;rw[ec]
 repeat (first | with_reducible refine wpAny_loadPart_at hge ?_ | wp_step)
 show wpAny _ _ (typeLookup (.ref C) _) _ _ _;refine JG X1 F.init ?_;refine wpAny_holding (wpAny_bind ((W.bind_fn X1 _ (beq_iff_eq.mp F.fn)).here ?_));refine wpAny_bind (wpAny_mono hq (λr s' z=>?_) λ_ _ z=>z);obtain⟨rfl,z⟩:=z
 wp_walk
 exact z
end
def del(H:Hp)(e:AJ):Hp:=λb=>if b=e then none else H b
theorem Yx{H:Hp}{e b:AJ}(n:b≠e):del H e b=H b:=by unfold del;rw[if_neg n]
theorem Zbe{H:Hp}{e:AJ}:del H e e=none:=by unfold del;rw[if_pos rfl]
theorem Zpt{X:Cx}{pins:Au}{σ:L2.St}{H:Hp}{s:AL}{e:AJ}{φ:Heap->Prop}(I:Inv X pins σ H s)(he:H e=some (.ext φ)):Inv X pins σ (del H e) s:=by
 have k0:∀b,H b=none->del H e b=none:=λb z=>by unfold del;split<;>first | rfl | exact z
 have k1:∀b u,H b=some u->(∀ ψ,u≠.ext ψ)->del H e b=some u:=λb u z n=>by
  rw[Yx (λq=>?_)];exact z;subst q;rw[he]at z;cases z;exact n _ rfl
 refine⟨I.ok,I.os,I.bare,⟨I.base.keep,I.base.slot,λb u q n hx=>k0 b (I.base.free b u q n hx),I.base.there,λb xs q=>k1 _ _ (I.base.tups b xs q) (λ_ z=>nomatch z),λb u xs q=>k1 _ _ (I.base.yW b u xs q) (λ_ z=>nomatch z),λb ps q=>?_⟩,I.loc,I.cell,k0 _ I.free,λy c q=>k0 _ (I.oJ y c q),λp hp=>?_,λb u q=>?_,I.len⟩
 ·obtain⟨m,z⟩:=I.base.Bh b ps q;exact⟨m,k1 _ _ z (λ_ z=>nomatch z)⟩
 ·obtain⟨p1,p2,p3⟩:=I.pin p hp;exact⟨p1,k0 _ p2,p3⟩
 ·have n:b≠e:=λz=>by subst z;rw[Zbe]at q;cases q
  rw[Yx n]at q;exact(I.hok b u q).stay (λ_ _ _ z=>z) (λc z=>k1 _ _ z (λ_ z=>nomatch z)) λc xs z=>k1 _ _ z (λ_ z=>nomatch z)
section
variable {P:AN}{w:AQ}{K:aK}{mg:As}{base:Heap}{N:AI}{qual:Str}{scope:Scope}{f:AJ}{cd:AK}{A:Around}{outer:List Env}{s:AL}{H:Hp}{E:XK}
theorem BL{pins:Au}{σ:L2.St}{H1:Hp}{s1:AL}{e:AJ}{c:AK}{dx:Option AJ}{o:Obj}{vs:Array AK}(I:Inv (Jo (Kc P w) P w K mg base N qual scope f cd A outer s H E) pins σ H1 s1)
  (h0:H1 e=none) (hn:s.heap.get? e=none) (he:s1.heap.get? e=some o) (hc:o.cls=c) (hd:o.dict=dx) (hf:o.data=.fields vs) (h1:vs[1]? =some .none) (hE:E c dx H1):
  (Jo (Kc P w) P w K mg base N qual scope f cd A outer s H E).xe (.ref e) s1:=by
 subst hc hd;have L0:∀b o,s.heap.get? b=some o->b≠(envOfC qual scope s.heap.objs.size f cd).locals:=λb o e=>Nat.ne_of_lt (Nat.lt_of_lt_of_le (Heap.lt_size e) I.ok.above);have nin:∀b,((∃v,s.heap.get? b=some v)\/∃v,H1 b=some v)->b∉frs outer->b∉e::frs (envOfC qual scope s.heap.objs.size f cd::outer):=λb hb hn' hm=>by
  rcases List.mem_cons.mp hm with z | hm
  ·subst z;rcases hb with ⟨v,q⟩ | ⟨v,q⟩
   ·rw[hn]at q;cases q
   ·rw[h0]at q;cases q
  rcases List.mem_cons.mp (I.Gi b hm)with z | z
  ·rcases hb with ⟨v,e⟩ | ⟨v,e⟩
   ·exact L0 b v e z
   ·rw[z]at e;have:=I.free;rw[e]at this;cases this
  ·exact hn' z
 have fh:s1.heap.FunFrames (W.hideAll s1.heap (e::frs (envOfC qual scope s.heap.objs.size f cd::outer))) (envOfC qual scope s.heap.objs.size f cd::outer):=
  W.funFrames_hide I.stack λenv he b hb=>List.mem_cons_of_mem _ (List.mem_filterMap.mpr ⟨env,he,hb⟩)
 have nB:(W.hideAll s1.heap (e::frs (envOfC qual scope s.heap.objs.size f cd::outer))).get? e=none:=W.hideAll_none _ (.head _);refine wpAny_bind (Zi8 (B:=W.hideAll s1.heap (e::frs (envOfC qual scope s.heap.objs.size f cd::outer))) I.ok.frames fh rfl he (λb o q=>W.of_hideAll _ q) nB hf h1 λh2 y k1=>sr (s:={ s1 with heap:=h2 }) y λh' z k2=>?_);have fl:=z.Zqp;have sm:=k1.trans k2;have inB:∀b o,s1.heap.get? b=some o->((∃v,s.heap.get? b=some v)\/∃v,H1 b=some v)->b∉frs outer->(W.hideAll s1.heap (e::frs (envOfC qual scope s.heap.objs.size f cd::outer))).get? b=some o:=
  λb o e hb hn=>W.hideAll_get _ e (nin b hb hn)
 have dat:∀b o,s1.heap.get? b=some o->b∈frs outer->∀vs,o.data≠.fields vs:=λb o e hb=>by
  obtain⟨_,o',ho',hd⟩:=I.wQ.mem hb;rw[e]at ho';cases ho';exact hd
 have U:=Wo (P:=P) (w:=w) (h2:=h') I.base I.hok (λb hb=>by
   obtain⟨_,o,ho,_⟩:=I.ok.wQ.mem hb;exact I.base.free b o ho (I.ok.frf b hb) (λz=>nomatch z)) (λb o e hb hn=>fl.st _ _ (inB b o e hb hn)) λb o e hb=>sm b o e (dat b o e hb)
 refine⟨e,o.cls,o.dict,_,H1,rfl,I.os,I.bare,U.1,U.2,fl,λb o q hb hn=>?_,hE⟩;have there:∃v,s1.heap.get? b=some v:=by
  rcases hb with ⟨v,z⟩ | ⟨v,z⟩
  ·exact I.base.there b v z (λz=>nomatch z)
  ·exact HF (I.hok b v z)
 obtain⟨v,z⟩:=there;have q2:=inB b v z hb hn;have:=fl.st _ _ q2;rw[q]at this;cases this;exact q2
end
def u5(a:AJ)(cls:AK)(d:Option AJ):HO:=.ext λh=>∃o vs,h.get? a=some o/\o.cls=cls/\o.data=.fields vs/\o.dict=d/\vs[1]? =some .none
def rK(C:AJ)(sp:Sp)(E:XK)(t:TA):TS:=λ_ σ H=>t σ H λvs H1=>vs.length<=100/\∀e,H1 e=none->sp (.ref e::vs) (upd H1 e (u5 e (.ref C) none)) (λv H2=>v=.non/\∃dx,H2 e=some (u5 e (.ref C) dx)/\E (.ref C) dx (del H2 e)) E0
theorem Zln{C:AJ}{sp:Sp}{E:XK}{t:TA}{σ:L2.St}{H:Hp}{n:L2.St->Hp->Prop}{r:VK}{b c:L2.St->Hp->Prop}
  (h:t σ H λvs H1=>vs.length<=100/\∀e,H1 e=none->sp (.ref e::vs) (upd H1 e (u5 e (.ref C) none)) (λv H2=>v=.non/\∃dx,H2 e=some (u5 e (.ref C) dx)/\E (.ref C) dx (del H2 e)) E0):rK C sp E t ⟨n,r,b,c⟩ σ H:=h
theorem Ziu{M:Model}{A:Around}{E:Ap}{s:AL}{K:aK}{C:AJ}{env:Env}{x:Sem AK}{Q:Flow->AL->Prop}(hh:A.handled=none)(F:Cz K C)
  (h:wpAny M A x (λv s1=>∃e o vs,v=.ref e/\K.In s1.heap/\s1.heap.get? e=some o/\o.cls=.ref C/\o.data=.fields vs/\vs[1]? =some .none/\E (.ref e) s1) E s):wpAny M A (raiseStmt env (some x) none) Q E s:=by
 obtain⟨nm,q,N,bs,rs,sn,sub,ab,col,dd,k0,k1,k2,k3,k5,lk⟩:=F;have e1:(Value.ref C::(rs.map Value.ref++Ff)).contains (.type "BaseException")=true:=by rw[List.contains_cons,xX];rfl
 unfold raiseStmt;refine wpAny_bind (wpAny_mono h (λv s1 z=>?_) λ_ _ z=>z);obtain⟨e,⟨oc,od,dt,sl⟩,vs,rfl,X,he,hc,hdt,h1,hE⟩:=z;dsimp only at hc hdt;subst hc hdt;have hC:=X _ _ lk;obtain⟨hp,g,d,tk,os⟩:=s1
 repeat (first | with_reducible refine wpAny_loadPart_at he ?_ | with_reducible refine wpAny_field he rfl h1 ?_ | with_reducible refine wpAny_loadPart_at hC ?_ | (with_reducible refine wpAny_isSubtype_exc hC ?_;rw[e1]) | wp_step)
 exact wpAny_raiseNew_none hh hE
section
variable {X:Cx}{CX:CXT}{k:Nat}{f C:AJ}{fd:AM}{ps:AI}{sp:Sp}{E:XK}{x:Str}{np cpos pos:Pos}{e:AO}{es:AH}{t:TA}
theorem o9(hc:X.calm=true)(hg:Gl X x)(hm:X.mg x=↑C)(hx:Wj X.K C f)(F:vI X.prog X.w X.K X.mg X.base CX k f fd ps sp)(hr:Room (k+1) X.A)(hb:Binds X.K fd ps [])(hp0:Passes CX X E0)(ha:PA X (e::es) t)
  (hE:∀(pins:Au) (σ:L2.St) (H:Hp) (s:AL) (ea:AJ) (dx:Option AJ) (o:Obj) (vs:Array AK),Inv X pins σ H s->H ea=none->X.s₀.heap.get? ea=none->s.heap.get? ea=some o->o.cls=.ref C->o.dict=dx->o.data=.fields vs->vs[1]? =some .none->E (.ref C) dx H->X.xe (.ref ea) s)
  (hs:starEach (e::es) X.env=(false,eval e X.env)::starEach es X.env:=by rfl) (hpl:(backTo cpos (starEach es X.env)).any (·.1)=false:=by rfl) (hd:(x == ("__debug__":Str))=false:=by decide):
  PS X (.Raise (some (.Call (.Name x np) (e::es) [] cpos)) none pos) (rK C sp E t):=by
 intro pins s σ H D I h;obtain⟨nm,q,N,bs,rs,sn,sub,ab,col,dd,k0,k1,k2,k3,k5,lk⟩:=id hx.xo;have Zvv:(backTo cpos (starEach (e::es) X.env)).any (·.1)=false:=by
  rw[hs];show(false || (backTo cpos (starEach es X.env)).any (·.1))=false;rw[hpl];rfl
 rw[arm_exec_Raise];refine wpAny_bind (wpAny_standAt ?_);refine Ziu (I.ok.hd hc) hx.xo (wpAny_bind (wpAny_mono (wpAny_Call_ofName (gB I hg hm ?_ hd)) (λv s3 h3=>wpAny_bind (wpAny_standAt (wpAny_pure h3))) λ_ _ z=>z));unfold callWith;refine wpAny_bind (wpAny_holding ?_);have q0:=ha cpos pins s σ H _ I h;rw[hs]at q0 ⊢;refine Calls.evalArgs_plain (iJ q0 λus s1 ⟨vs,H1,I1,r,l1,q1⟩=>wpAny_bind (wpAny_standAt ?_));rw[hs]at Zvv;simp only[Zvv];have hl:us.length<=sizeLine:=by rw[<- r.length];exact Nat.le_trans l1 ε
 have hC:=I1.pL _ _ lk;obtain⟨h1,g1,d1,t1,os1⟩:=s1;refine wpAny_bind (wpAny_keeperOf_exc hC (wpAny_bind (Zn8 I1.pL hx ?_ hl)));have kp:∀b o,h1.get? b=some o->((h1.push (Oz us)).push (Ru C h1.objs.size)).get? b=some o:=λb o e=>Heap.get?_push_of_some _ (Heap.get?_push_of_some _ e);have hge:((h1.push (Oz us)).push (Ru C h1.objs.size)).get? (h1.objs.size+1)=some (Ru C h1.objs.size):=by heap_get
 have I2:Inv X pins σ (upd H1 (h1.objs.size+1) (u5 (h1.objs.size+1) (.ref C) none)) ⟨(h1.push (Oz us)).push (Ru C h1.objs.size),g1,d1,t1,os1⟩:=
  I1.laid (t':=t1) kp (Nat.le_succ _) ⟨⟨_,_,hge,rfl,rfl,rfl,rfl⟩,⟨_,hge⟩,λg1 g2 ⟨o2,v2,a1,a2⟩ k=>⟨o2,v2,k _ a1,a2⟩⟩
 have hq:=q1 (h1.objs.size+1) (I1.hok.fresh (Nat.le_succ _));have r2:Vals (V.ref (h1.objs.size+1)::vs) (Value.ref (h1.objs.size+1)::us):=.cons rfl r;have hl2:(Value.ref (h1.objs.size+1)::us).length=ps.length:=by rw[<- r2.length];exact F.len _ _ _ _ hq
 refine wpAny_call (codeAny_mono (F.run _ X.stack _ _ ⟨Value.ref (h1.objs.size+1)::us,[]⟩ (Value.ref (h1.objs.size+1)::us) _ _ E0 (hr.make C us []) (I2.env0.make C us []) (by have:=hb _ (Value.ref (h1.objs.size+1)::us) I2.pL (by rw[List.append_nil];exact hl2);rw[List.append_nil]at this;exact this) r2 hq) λr' s' hq'=>?_);cases r' with
 | error e=>exact hp0 pins σ _ _ e s' I2 hq'
 | ok fl=>
  cases fl with
  | ret u=>
   obtain⟨v,H',I3,rv,ev,dx,e3,q3⟩:=I2.after hq';subst ev;obtain⟨⟨o,ws,z1,z2,z3,z4,z5⟩,_⟩:=I3.hok _ _ e3;refine⟨rv,wpAny_bind (wpAny_holding (wpAny_point (wpAny_pure ⟨_,o,ws,rfl,I3.pL,z1,z2,z3,z5,?_⟩)))⟩;exact hE pins σ _ s' _ dx o ws (Zpt I3 e3) Zbe (Heap.get?_none_of_le (Nat.le_trans I1.sz (Nat.le_succ _))) z1 z2 z4 z3 z5 q3
  | next=>exact False.elim hq'
  | brk=>exact False.elim hq'
  | cont=>exact False.elim hq'
end
def Zcl(K:aK)(t:TA):TE:=λσ H Q=>t σ H λvs H1=>∃a v C d,vs=[.ref a,v]/\H1 a=some (u5 a (.ref C) d)/\Cz K C/\Q .non H1
theorem Zp9{K:aK}{t:TA}{σ:L2.St}{H:Hp}{Q:VK}(h:t σ H λvs H1=>∃a v C d,vs=[.ref a,v]/\H1 a=some (u5 a (.ref C) d)/\Cz K C/\Q .non H1):Zcl K t σ H Q:=h
structure XBase(K:aK)(C:AJ):Prop where
 sp:W.specialIn K (.ref C) "__getattribute__"=some (some (.builtin "type.__getattribute__"))
 rd:W.readsIn K C (.type "type")=true
 fc:W.findCls K (.ref C) (.type "type") "__init__"=some (.val (.builtin "ValueError.__init__"))
theorem Zn7{H:Hp}{a:AJ}{o:HO}(h:H a=some o):upd H a o=H:=by
 funext b
 by_cases z:b=a
 ·subst z;rw[az,h]
 ·rw[aQ z]
section
variable {prog:AN}{w:AQ}{A:Around}{E:Ap}{h:Heap}{g:Array GenState}{d:Drawn}{t:Nat}{os:OsState}{K:aK}{C e:AJ}{o:Obj}{rest:AE}
theorem Zqy{M:Model}{Q:Unit->AL->Prop}(X:K.In h)(F:Cz K C)(he:h.get? e=some o)(hc:o.cls=.ref C)(hq:Q () ⟨h,g,d,t,os⟩):
  wpAny M A (checkBuiltinCall "ValueError.__init__" ⟨.ref e::rest,[]⟩) Q E ⟨h,g,d,t,os⟩:=by
 obtain⟨nm,q,N,bs,rs,sn,sub,ab,col,dd,k0,k1,k2,k3,k5,lk⟩:=F;have hC:=X _ _ lk;have F:=PySem.F.excBase_ValueError;have e1:(Value.ref C::(rs.map Value.ref++Ff)).contains (.type "ValueError")=true:=by rw[List.contains_cons,xX];rfl
 have e0:=F.noStar;simp only[checkBuiltinCall,F.initKind,F.initSplit,F.initRow]
 repeat (first | (with_reducible refine wpAny_loadPart_at he ?_;rw[hc]) | with_reducible refine wpAny_loadPart_at hC ?_ | (with_reducible refine wpAny_isSubtype_exc hC ?_;rw[e1]) | wp_step)
 refine wpAny_onRaise ?_;rw[show ∀(a b:String) (n:Nat),Bind.check ⟨.positional,"*","ValueError",.self,[⟨"args",.varPos,false⟩]⟩ a b n (List.map (λx=>x.fst) ({ pos:=Value.ref e::rest }:Args).kw)=pure ()from λa b n=>check_star_args _ _ _ _ _ _];exact wpAny_pure hq
end
section
variable {X:Cx}{x:Str}{C0:AJ}{p apos pos:Pos}{e:AO}{es:AH}{t:TA}
theorem Zke{pl:Sem Bool}(hg:Gl X x)(hm:X.mg x=↑C0)(F:XBase X.K C0)(ha:PA X (e::es) t)(hd:(x == ("__debug__":Str))=false:=by decide)
  (hst:starEach (e::es) X.env=(false,eval e X.env)::starEach es X.env:=by rfl) (hpl:(backTo pos (starEach es X.env)).any (·.1)=false:=by rfl)
  (ht:eval (.Call (.Attribute (.Name x p) "__init__" apos) (e::es) [] pos) X.env=(do
   let ov <- eval (.Name x p) X.env
   standAt apos.atName
   let (f,first) <- holding [ov] (getMethod ov "__init__" pl)
   callWith pos f first (backTo pos (starEach (e::es) X.env)) (backToKw pos (keywordEach [] X.env))):=by rfl):
  PE X (.Call (.Attribute (.Name x p) "__init__" apos) (e::es) [] pos) (Zcl X.K t):=by
 intro pins s σ H Q I h;refine W.methodCall_KW (pl:=pl) (gB I hg hm ?_ hd) ht;refine W.method_cls I.pL F.sp (W.cls_value I.pL F.rd F.fc ε ?_);refine callWith_builtin1 (iJ (ha pos pins _ σ H _ (I.tok _) h) λus s1 ⟨vs,H1,I1,r,a,v,C,d,ev,ea,xo,q⟩=>?_) hst hpl;subst ev;obtain⟨u,w',rfl,ru,rw'⟩:=vals2 r;obtain rfl:u=Value.ref a:=ru;obtain⟨⟨o,ws,z1,z2,z3,z4,z5⟩,_⟩:=I1.hok _ _ ea;obtain⟨h1,g1,d1,t1,os1⟩:=s1;have FE:=PySem.F.excBase_ValueError;have zt:0<ws.size:=Nat.lt_trans (Nat.zero_lt_succ 0) (Array.getElem?_eq_some_iff.mp z5).1;refine wpAny_call (codeAny_call_builtin FE.init.plain FE.initEntry (Zqy I1.pL xo z1 z2 ?_));have z1':=Heap.get?_push_of_some (h:=h1) (Oz [w']) z1;have h0:ws[0]? =some ws[0]:=Array.getElem?_eq_getElem zt;have J:=I1.kept (t':=t1) (h':=h1.push (Oz [w'])) λb u q=>Heap.get?_push_of_some _ q;have e2:=Heap.get?_update_self (Obj.mapFields (·.setIfInBounds 0 (Value.ref h1.objs.size))) z1' (Obj.isFreed_of_fields (Obj.data_mapFields z3 _));have J2:=J.write (x:=a) (e:=a) (o:=u5 a (.ref C) d) (t':=t1) (h':=(h1.push (Oz [w'])).update a (Obj.mapFields (·.setIfInBounds 0 (Value.ref h1.objs.size)))) (by rw[ea];trivial) (.inl rfl) (λb u n q=>(Heap.get?_update_other _ _ (Ne.symm n)).trans q) ⟨_,e2⟩
  ⟨⟨_,_,e2,(Obj.cls_mapFields _ _).trans z2,Obj.data_mapFields z3 _,(Zgd _ _).trans z4,by rw[Array.getElem?_setIfInBounds_ne ε];exact z5⟩,⟨_,e2⟩,λg1 g2 ⟨o2,v2,a1,a2⟩ k=>⟨o2,v2,k _ a1,a2⟩⟩
 rw[Zn7 ea]at J2;unfold Builtin.«BaseException.__init__»
 repeat (any_goals (first | assumption | with_reducible refine wpAny_field z1' z3 h0 ?_ | with_reducible refine wpAny_setField z1' z3 zt ?_ | wp_step))
 generalize ws[0]=y;cases y<;>(repeat (any_goals (first | exact⟨.non,H1,J2,rfl,q⟩ | assumption | wp_step)))
end
structure Fj(K:aK)(C:AJ)(f:Str):Prop where
 sa:W.findIn K (.ref C) "__setattr__"=some (some (.builtin "object.__setattr__"))
 no:W.findIn K (.ref C) f=some none
structure Zez(K:aK)(C:AJ)(f:Str):Prop where
 ex:Uj K C
 no:W.findIn K (.ref C) f=some none
def Zjp(K:aK)(f:Str)(ta tv:TE):TS:=λD σ H=>tv σ H λy H1=>ta σ H1 λx H2=>∃a C,x=.ref a/\H2 a=some (u5 a (.ref C) none)/\Cz K C/\Fj K C f/\
 ∀dx,H2 dx=none->dx≠a->D.nx σ (upd (upd H2 a (u5 a (.ref C) (some dx))) dx (.xd [(f,y)]))
def Vh(K:aK)(ta:TE)(f:Str):TE:=λσ H Q=>ta σ H λx H1=>∃a C dx fs v,x=.ref a/\H1 a=some (fD a (.ref C) (some dx))/\H1 dx=some (.xd fs)/\Zez K C f/\fs.lookup f=some v/\Q v H1
theorem Zsp{K:aK}{f:Str}{ta tv:TE}{σ:L2.St}{H:Hp}{n:L2.St->Hp->Prop}{r:VK}{b c:L2.St->Hp->Prop}(h:tv σ H λy H1=>ta σ H1 λx H2=>∃a C,x=.ref a/\H2 a=some (u5 a (.ref C) none)/\Cz K C/\Fj K C f/\
 ∀dx,H2 dx=none->dx≠a->n σ (upd (upd H2 a (u5 a (.ref C) (some dx))) dx (.xd [(f,y)]))):Zjp K f ta tv ⟨n,r,b,c⟩ σ H:=h
theorem Zsq{K:aK}{ta:TE}{f:Str}{σ:L2.St}{H:Hp}{Q:VK}(h:ta σ H λx H1=>∃a C dx fs v,x=.ref a/\H1 a=some (fD a (.ref C) (some dx))/\H1 dx=some (.xd fs)/\Zez K C f/\fs.lookup f=some v/\Q v H1):Vh K ta f σ H Q:=h
section
variable {prog:AN}{w:AQ}{A:Around}{E:Ap}{h:Heap}{g:Array GenState}{d:Drawn}{t:Nat}{os:OsState}{K:aK}{C x:AJ}{o:Obj}{v:AK}{name:Str}
theorem Zqw{Q:Unit->AL->Prop}{vs:Array AK}(X:K.In h)(F:Cz K C)(S:Fj K C name)(hx:h.get? x=some o)(hc:o.cls=.ref C)(hd:o.data=.fields vs)(hn:o.dict=none)
  (hq:∀h' tk,h'.Ns1 h.objs.size (λy=>if y=name then some v else none)->h'.get? x=some { o with dict:=some h.objs.size }->(∀b u,b≠x->h.get? b=some u->h'.get? b=some u)->Q () ⟨h',g,d,tk,os⟩):
  wpAny Ξ A (setAttr (.ref x) name v) Q E ⟨h,g,d,t,os⟩:=by
 obtain⟨nm,q,N,bs,rs,sn,sub,ab,col,dd,k0,k1,k2,k3,k5,lk⟩:=F;have hC:=X _ _ lk;have SF:=PySem.F.store_ValueError;have hp:=Zf9 (.ref x) rs;have f3:=SF.slot.bind (.ref x);have e1:(Value.ref C::(rs.map Value.ref++Ff)).contains (.type "object")=true:=by rw[List.contains_cons,xX];rfl
 have ha:=λ(nv:AK)=>SF.args (.ref x) nv v;have hx1:(h.push { cls:=.type "dict",data:=.dict #[] }).get? x=some o:=Heap.get?_push_of_some _ hx;have nx:x≠h.objs.size:=Nat.ne_of_lt (Heap.lt_size hx);unfold setAttr callSpecial? specialOf
 repeat (any_goals (first | assumption | (with_reducible refine wpAny_loadPart_at hx ?_;rw[hc]) | (with_reducible refine JG X S.sa ?_) | wp_step))
 refine codeAny_call_builtin SF.slot.plain SF.entry ?_;have chk:∀(M:Model) (B:Around) (EE:Ap) (tk:Nat) (nv:AK) (QQ:Unit->AL->Prop),QQ () ⟨h,g,d,tk,os⟩->wpAny M B (checkBuiltinCall "object.__setattr__" ⟨[.ref x,nv,v],[]⟩) QQ EE ⟨h,g,d,tk,os⟩:=λM B EE tk nv QQ z=>by
  have ha:=SF.args (.ref x) nv v;simp only[checkBuiltinCall,SF.kind,SF.split];refine wpAny_bind ?_;unfold isInstance
  repeat (first | (with_reducible refine wpAny_loadPart_at hx ?_;rw[hc]) | (with_reducible refine wpAny_isSubtype_exc hC ?_;rw[e1]) | wp_step)
  exact z
 refine chk _ _ _ _ _ _ ?_;unfold Builtin.«object.__setattr__»
 repeat (first | rw[refuse_eq] | (rw[refuseLoop_ref,hp]) | (with_reducible refine wpAny_loadPart_at hx ?_;rw[hc]) | with_reducible refine wpAny_mroOf_exc hC ?_ | with_reducible refine JG X S.no ?_ | wp_step)
 rw[hn,if_neg (by simp[typeHasDict])];split
 ·rename_i z;cases z
 split
 ·rename_i c z;rw[hd]at z;cases z
 ·refine wpAny_bind (wpAny_alloc' (wpAny_bind (wpAny_update' hx1 (wpAny_pure ?_))));have hgd:((h.push { cls:=.type "dict",data:=.dict #[] }).update x λo=>{ cls:=o.cls,dict:=some h.objs.size,data:=o.data,slots:=o.slots }).get? h.objs.size=some { cls:=.type "dict",data:=.dict #[] }:=
   (Heap.get?_update_ne _ _ _ _ nx.symm).trans (Heap.get?_push_at rfl rfl)
  have hnd:((h.push { cls:=.type "dict",data:=.dict #[] }).update x λo=>{ cls:=o.cls,dict:=some h.objs.size,data:=o.data,slots:=o.slots }).Ns h.objs.size (λ_=>none):=⟨_,#[],_,hgd,rfl,λe he=>absurd he ζ,λ_=>rfl⟩;show wpAny _ _ (Builtin.ObjectAttr.storeInDict h.objs.size (.str name _) name v) _ _ _;unfold Builtin.ObjectAttr.storeInDict Builtin.ObjectAttr.newKeyGuard;refine wpAny_bind (wpAny_pure (wpAny_bind (wpAny_nsSet1 (Heap.Ns1.of_empty hnd) λh' hn' hs=>?_)));obtain⟨oD,esD,epD,hoD,hdD,hcD⟩:=hn'.count (Within.cons name v Within.nil);refine wpAny_bind (wpAny_lookBehind hoD (by rw[hdD];exact pastItsLine_dict (Nat.le_trans hcD (by rw[List.length_cons,List.length_nil,sizeLine_eq];omega))) ?_)
  wp_walk
  refine hq h' _ hn' ((hs.2 x nx).trans (Heap.get?_update_self _ hx1 (Obj.isFreed_of_fields (vs:=vs) hd))) λb u n hb=>?_;exact(hs.2 b (Nat.ne_of_lt (Heap.lt_size hb))).trans ((Heap.get?_update_ne _ _ _ _ n).trans (Heap.get?_push_of_some _ hb))
theorem Zqx{Q:Ap}{od:Obj}{expr:Bool}(X:K.In h)(F:Zez K C name)(J:W.InstAt h x o C (some od))(hl:W.lookIn name od=some (some v))(hv:W.handedIn v=true)(hq:Q v ⟨h,g,d,t+1,os⟩):
  wpAny Ξ A (getAttr (.ref x) name expr) Q E ⟨h,g,d,t,os⟩:=by
 have hx:=J.at_;have hc:=J.cls;have LF:=λ(M:Model)=>W.looks_find (M:=M) X J (W.findObj_own F.ex.is F.no rfl hl);have f3:=PySem.F.attr_ValueError.ga.bind (.ref x);have e1:(onTheHeap (Value.ref C) && Value.builtin "BaseException.__getattribute__" == Value.builtin "object.__getattribute__")=false:=by
  rw[show(Value.builtin "BaseException.__getattribute__" == Value.builtin "object.__getattribute__")=false by decide +kernel];rfl
 have e2:(expr && onTheHeap (Value.builtin "BaseException.__getattribute__"))=false:=by cases expr<;>rfl
 unfold getAttr getAttrBy
 repeat any_goals (first | assumption | (with_reducible refine wpAny_loadPart_at hx ?_;rw[hc]) | with_reducible refine JG X F.ex.ga ?_ | with_reducible refine JG X F.ex.no ?_ | wp_step)
 refine codeAny_call_builtin PySem.F.attr_ValueError.ga.plain PySem.F.entry_bexc_ga (Zf X F.ex hx hc ?_);unfold Builtin.«object.__getattribute__»
 repeat any_goals (first | assumption | (with_reducible refine wpAny_loadPart_at hx ?_;rw[hc]) | (refine(LF _).here ?_) | wp_step)
 show wpAny _ _ (handedOut v) _ _ _;rw[W.handedOut_of hv];exact wpAny_pure hq
end
section
variable {X:Cx}{o e value:AO}{f:Str}{pos pos':Pos}{ta tv:TE}
theorem Zny(ha:PE X o ta)(hv:PE X value tv)(hs:swapsWith value (some (.Attribute o f pos')) pos.line X.env=pure false):PS X (.Assign [.Attribute o f pos'] value pos) (Zjp X.K f ta tv):=by
 intro pins s σ H D I h;refine plainObj_wpAny_Assign_Attribute (iJ (hv pins s σ H _ I h) λu s1 ⟨y,H1,I1,ry,q⟩=>iJ (ha pins s1 σ H1 _ I1 q) λov s2 ⟨x,H2,I2,rx,a,C,ex,ea,xo,xs,q2⟩=>?_) hs;subst ex;obtain rfl:ov=Value.ref a:=rx;obtain⟨⟨ob,ws,z1,z2,z3,z4,z5⟩,_⟩:=I2.hok _ _ ea;obtain⟨h1,g1,d1,t1,os1⟩:=s2;refine Zqw I2.pL xo xs z1 z2 z3 z4 λh' tk hn hx k=>?_;have na:h1.objs.size≠a:=Nat.ne_of_gt (Heap.lt_size z1);have fr:=I2.hok.fresh (Nat.le_refl h1.objs.size);have J:=I2.write (x:=a) (e:=a) (o:=u5 a (.ref C) (some h1.objs.size)) (t':=tk) (h':=h') (by rw[ea];trivial) (.inl rfl) k ⟨_,hx⟩ ⟨⟨_,ws,hx,z2,z3,rfl,z5⟩,⟨_,hx⟩,λg1 g2 ⟨o2,v2,a1,a2⟩ k=>⟨o2,v2,k _ a1,a2⟩⟩;refine⟨σ,_,?_,q2 h1.objs.size fr na⟩;have kk:(upd H2 a (u5 a (.ref C) (some h1.objs.size))) h1.objs.size=none:=by rw[aQ na];exact fr
 exact⟨J.ok,J.os,J.bare,⟨J.base.keep,J.base.slot,λb o q n hx=>(by
   rw[aQ (Nat.ne_of_lt (Nat.lt_of_lt_of_le (Heap.lt_size q) I2.sz))];exact J.base.free b o q n hx),J.base.there,λb xs q=>(by
   rw[aQ (bI (J.base.tups b xs q) kk)];exact J.base.tups b xs q),λb o xs q=>(by
   rw[aQ (bI (J.base.yW b o xs q) kk)];exact J.base.yW b o xs q),λb ps q=>(by
   obtain⟨m,z⟩:=J.base.Bh b ps q;exact⟨m,by rw[aQ (bI z kk)];exact z⟩)⟩,J.loc,J.cell,(by
   rw[aQ (Nat.ne_of_lt I2.lt)];exact J.free),λy c q=>(by
   obtain⟨v,⟨oc,hoc,_⟩⟩:=I2.cell y c q;rw[aQ (Nat.ne_of_lt (Heap.lt_size hoc))];exact J.oJ y c q),λp hp=>(by
   obtain⟨p1,p2,p3⟩:=J.pin p hp;obtain⟨r1,_⟩:=I2.pin p hp;exact⟨p1,by rw[aQ (Nat.ne_of_lt (Heap.lt_size r1))];exact p2,p3⟩),λb u q=>(by
   by_cases z:b=h1.objs.size
   ·subst z;rw[az]at q;cases q;refine⟨_,hn,λy=>?_⟩
    by_cases hy:y=f
    ·subst hy;simp only[if_true];show wY (List.lookup y [(y,_)]) _;rw[List.lookup_cons,beq_self_eq_true];exact ry
    ·rw[if_neg hy];show wY (List.lookup y [(f,_)]) _;rw[List.lookup_cons,beq_eq_false_iff_ne.mpr hy];exact trivial
   ·rw[aQ z]at q;exact(J.hok b u q).stay (λ_ _ _ z=>z) (λc z=>by rw[aQ (bI z kk)];exact z) λc xs z=>by rw[aQ (bI z kk)];exact z),J.len⟩
theorem M5(he:PE X e ta)(hb:attributeBase e f X.env (eval e X.env)=eval e X.env):PE X (.Attribute e f pos) (Vh X.K ta f):=by
 intro pins s σ H Q I h;refine Zgo hb (iJ (he pins s σ H _ I h) λu s1 ⟨x,H1,I1,rx,a,C,dx,fs,v,ex,ea,edx,F,l,q⟩=>?_);subst ex;obtain rfl:u=Value.ref a:=rx;obtain⟨⟨ob,ws,z1,z2,z3,z4⟩,_⟩:=I1.hok _ _ ea;obtain⟨mA,hn,hr⟩:=I1.hok _ _ edx;obtain⟨od,hod,hlk⟩:=Vz hn;have r1:=hr f;rw[l]at r1;obtain⟨h1,g1,d1,t1,os1⟩:=s1;cases hm:mA f with
 | none=>rw[hm]at r1;exact absurd r1 (by simp[wY])
 | some u=>
  rw[hm]at r1;have ru:RelV v u:=r1;refine Zqx I1.pL F ⟨z1,z2,by simp[W.notCls,z3],by rw[z4];exact hod⟩ (by rw[hlk,hm]) ?_ ⟨v,H1,I1.tok _,ru,q⟩;exact V7 ru
end
def Zqu:List V->Hp->VK->Prop:=λxs H Q=>∃b,xs=[.bl b]/\Q (.int (if b then 1 else 0)) H
theorem Zii{X:Cx}:oR X (.type "int") Zqu:=by
 intro pins s σ H xs us Q I r h;obtain⟨b,rfl,q⟩:=h;obtain⟨u,rfl,hu⟩:=vals1 r;have hu:u=.bool b:=hu;subst hu;exact PySem.call_int_bool ⟨.int (if b then 1 else 0),H,I.tok _,⟨_,rfl⟩,q⟩
def Zcg(M1 M2 M3 M4:AK->Prop)(i:Nat)(tb:(L2.St->XK)->TS)(t1 t2 t3 t4:TS):TS:=λD σ H=>
 tb (λσ' cls dx H'=>(M1 cls/\∀ea,H' ea=none->t1 ⟨λσ2 H2=>D.nx ac H2,D.rt,λσ2 H2=>D.bk ac H2,λσ2 H2=>D.ct ac H2⟩ (σ'.set i (↑ea)) (upd H' ea (fD ea cls dx)))\/(M2 cls/\∀ea,H' ea=none->t2 ⟨λσ2 H2=>D.nx ac H2,D.rt,λσ2 H2=>D.bk ac H2,λσ2 H2=>D.ct ac H2⟩ (σ'.set i (↑ea)) (upd H' ea (fD ea cls dx)))\/(M3 cls/\∀ea,H' ea=none->t3 ⟨λσ2 H2=>D.nx ac H2,D.rt,λσ2 H2=>D.bk ac H2,λσ2 H2=>D.ct ac H2⟩ (σ'.set i (↑ea)) (upd H' ea (fD ea cls dx)))\/(M4 cls/\∀ea,H' ea=none->t4 ⟨λσ2 H2=>D.nx ac H2,D.rt,λσ2 H2=>D.bk ac H2,λσ2 H2=>D.ct ac H2⟩ (σ'.set i (↑ea)) (upd H' ea (fD ea cls dx)))) D σ H
theorem Zp2{M1 M2 M3 M4:AK->Prop}{i:Nat}{tb:(L2.St->XK)->TS}{t1 t2 t3 t4:TS}{σ:L2.St}{H:Hp}{n:L2.St->Hp->Prop}{r:VK}{b c:L2.St->Hp->Prop}(h:tb (λσ' cls dx H'=>(M1 cls/\∀ea,H' ea=none->t1 ⟨λσ2 H2=>n ac H2,r,λσ2 H2=>b ac H2,λσ2 H2=>c ac H2⟩ (σ'.set i (↑ea)) (upd H' ea (fD ea cls dx)))\/(M2 cls/\∀ea,H' ea=none->t2 ⟨λσ2 H2=>n ac H2,r,λσ2 H2=>b ac H2,λσ2 H2=>c ac H2⟩ (σ'.set i (↑ea)) (upd H' ea (fD ea cls dx)))\/(M3 cls/\∀ea,H' ea=none->t3 ⟨λσ2 H2=>n ac H2,r,λσ2 H2=>b ac H2,λσ2 H2=>c ac H2⟩ (σ'.set i (↑ea)) (upd H' ea (fD ea cls dx)))\/(M4 cls/\∀ea,H' ea=none->t4 ⟨λσ2 H2=>n ac H2,r,λσ2 H2=>b ac H2,λσ2 H2=>c ac H2⟩ (σ'.set i (↑ea)) (upd H' ea (fD ea cls dx)))) ⟨n,r,b,c⟩ σ H):Zcg M1 M2 M3 M4 i tb t1 t2 t3 t4 ⟨n,r,b,c⟩ σ H:=h
section
variable {X:Cx}{i:Nat}{nm:Str}{x1 x2 x3 x4:Str}{C1 C2 C3 C4:AJ}{pos np1 np2 np3 np4 hp1 hp2 hp3 hp4:Pos}{body su1 su2 su3 su4:List Stmt}{b1 b2 b3 b4:Stmt}{M1 M2 M3 M4:AK->Prop}{tb:(L2.St->XK)->TS}{t1 t2 t3 t4:TS}
theorem Zk2(hex:X.ex=[])(hst:X.stack=X.env::X.outer/\X.env.frame=some X.env.locals)(hN:X.N.Nodup)(hi:X.N[i]? =some nm)(hk:X.env.scope.names.lookup nm=some .local)(hg1:Gl X x1)(hm1:X.mg x1=↑C1)(hg2:Gl X x2)(hm2:X.mg x2=↑C2)(hg3:Gl X x3)(hm3:X.mg x3=↑C3)(hg4:Gl X x4)(hm4:X.mg x4=↑C4)(hM1:∀c,M1 c->W.exmOne X.K c (.ref C1)=some true)(hM2:∀c,M2 c->W.exmOne X.K c (.ref C1)=some false/\W.exmOne X.K c (.ref C2)=some true)(hM3:∀c,M3 c->W.exmOne X.K c (.ref C1)=some false/\W.exmOne X.K c (.ref C2)=some false/\W.exmOne X.K c (.ref C3)=some true)(hM4:∀c,M4 c->W.exmOne X.K c (.ref C1)=some false/\W.exmOne X.K c (.ref C2)=some false/\W.exmOne X.K c (.ref C3)=some false/\W.exmOne X.K c (.ref C4)=some true)
  (hb:∀(E:L2.St->XK) (pn:Au) (xe:Ap),Wk (Kc X.prog X.w) (cxB X pn xe) E->Rh (cxB X pn xe) body (tb E))
  (hs1:∀(ea:AK) (pn:Au),Rh (Mp X ea pn) (b1::su1) t1) (hs2:∀(ea:AK) (pn:Au),Rh (Mp X ea pn) (b2::su2) t2) (hs3:∀(ea:AK) (pn:Au),Rh (Mp X ea pn) (b3::su3) t3) (hs4:∀(ea:AK) (pn:Au),Rh (Mp X ea pn) (b4::su4) t4) (hd1:(x1 == ("__debug__":Str))=false:=by decide) (hd2:(x2 == ("__debug__":Str))=false:=by decide) (hd3:(x3 == ("__debug__":Str))=false:=by decide) (hd4:(x4 == ("__debug__":Str))=false:=by decide):
  PS X (.Try body [.ExceptHandler (some (.Name x1 np1)) (some nm) (b1::su1) hp1,.ExceptHandler (some (.Name x2 np2)) (some nm) (b2::su2) hp2,.ExceptHandler (some (.Name x3 np3)) (some nm) (b3::su3) hp3,.ExceptHandler (some (.Name x4 np4)) (some nm) (b4::su4) hp4] [] [] pos) (Zcg M1 M2 M3 M4 i tb t1 t2 t3 t4):=by
 intro pins s σ H D I h;refine wpAny_Try_except ?_
 let D':Ends:=⟨λσ2 H2=>D.nx ac H2,D.rt,λσ2 H2=>D.bk ac H2,λσ2 H2=>D.ct ac H2⟩
 have hx:Wk (Kc X.prog X.w) (cxB X (X.pn++pins) λe s'=>∃ σ H s,Inv X pins σ H s/\Kc X.prog X.w X.stack H s (λcls dx H'=>(M1 cls/\∀ea,H' ea=none->t1 D' (σ.set i (↑ea)) (upd H' ea (fD ea cls dx)))\/(M2 cls/\∀ea,H' ea=none->t2 D' (σ.set i (↑ea)) (upd H' ea (fD ea cls dx)))\/(M3 cls/\∀ea,H' ea=none->t3 D' (σ.set i (↑ea)) (upd H' ea (fD ea cls dx)))\/(M4 cls/\∀ea,H' ea=none->t4 D' (σ.set i (↑ea)) (upd H' ea (fD ea cls dx)))) e s') (λσ' cls dx H'=>(M1 cls/\∀ea,H' ea=none->t1 D' (σ'.set i (↑ea)) (upd H' ea (fD ea cls dx)))\/(M2 cls/\∀ea,H' ea=none->t2 D' (σ'.set i (↑ea)) (upd H' ea (fD ea cls dx)))\/(M3 cls/\∀ea,H' ea=none->t3 D' (σ'.set i (↑ea)) (upd H' ea (fD ea cls dx)))\/(M4 cls/\∀ea,H' ea=none->t4 D' (σ'.set i (↑ea)) (upd H' ea (fD ea cls dx)))):=
  λpl σ H s e s' J z=>⟨σ,H,s,HD I.ok J,z⟩
 refine wpAny_mono (hb _ _ _ hx [] s σ H D (Zj5 I _) h) (λf s1 q=>?_) λe s1 q=>?_
 ·have q:=Zje I.ok q;cases f with
  | next=>exact wpAny_execs_nil q
  | ret v=>exact q
  | brk=>exact q
  | cont=>exact q
 ·obtain⟨σ1,H1,s0,J,ea,cls,a0,B,H2,rfl,os,bare,un,ok,fl,hB,hM⟩:=q;have fl0:=fl;rw[hst.1]at fl0;refine HR (hst.1 ▸ J.ok.frames) hst.2 fl0 λh4 Zly sm4=>?_;refine sr Zly λh5 fl5 sm5=>?_;have Zjk:s1.heap.UpToSlots h5:=sm4.trans sm5;have J5:=flown J os bare un ok fl hB fl5.st Zjk;obtain⟨ob,hob,hoc⟩:=id fl5.there;have LT:W.Looks ς h5 (typeOf (.ref ea)) cls:=hoc ▸ (W.Looks.ld hob).andThen .now;have AD:∀{h6:Heap} (fl6:Zf5 B (X.env::X.outer) ea cls a0 h6) (sm6:h5.UpToSlots h6),H2 ea=none/\Inv X pins σ1 (upd H2 ea (fD ea cls a0)) { s1 with heap:=h6 }:=by
   intro h6 fl6 sm6;have J6:=flown J os bare un ok fl hB fl6.st (Zjk.trans sm6);obtain⟨oe,vs,e1,e2,e3,e4⟩:=fl6.first;have nfr:ea∉frs X.stack:=λz=>by
    obtain⟨_,o',ho',hd'⟩:=fl6.fr.mem (show ea∈(X.env::X.outer).filterMap (·.frame) by rw[<- hst.1];exact z);rw[e1]at ho';cases ho';exact hd' _ e3
   obtain⟨o1,eo1,_⟩:=fl.there;have Zko:s0.heap.get? ea=none:=by
    cases z:s0.heap.get? ea with
    | none=>rfl
    | some v=>
     have:=hB ea o1 eo1 (.inl ⟨v,z⟩) nfr;rw[fl.nw]at this;cases this
   have new1:H2 ea=none:=by
    cases z:H2 ea with
    | none=>rfl
    | some v=>
     have:=hB ea o1 eo1 (.inr ⟨v,z⟩) nfr;rw[fl.nw]at this;cases this
   refine⟨new1,Zmz J6 new1 ?_ ?_ ?_ ?_ ?_⟩
   ·cases z:X.s₀.heap.get? ea with
    | none=>rfl
    | some v=>
     obtain⟨o',e'⟩:=J.base.there ea v z (λw=>by rw[hex]at w;cases w);rw[Zko]at e';cases e'
   ·intro z;obtain⟨m,⟨ol,esl,epl,hol,hdl,_⟩,_⟩:=J6.loc;have hol':h6.get? X.env.locals=some ol:=hol;rw[<- z,e1]at hol';cases hol';rw[e3]at hdl;cases hdl
   ·intro y c e z;obtain⟨w',oc,Ztg,hdc⟩:=J6.cell y c e;have Zlw:h6.get? c=some oc:=Ztg;rw[z,e1]at Zlw;cases Zlw;rw[e3]at hdc;cases hdc
   ·intro p hp z;have:=(J.pin p hp).1;rw[z,Zko]at this;cases this
   ·exact⟨⟨oe,vs,e1,e2,e3,e4⟩,⟨oe,e1⟩,λh1 h2 ⟨o2,v2,a1,a2,a3,a4⟩ k=>⟨o2,v2,k _ a1,a2,a3,a4⟩⟩
  rcases hM with ⟨hM,hth⟩ | ⟨hM,hth⟩ | ⟨hM,hth⟩ | ⟨hM,hth⟩
  ·obtain m1:=hM1 cls hM;refine wpAny_handleBy_cons (codeAny_handlers_test (gB (X:=Mp X (.ref ea) (X.pn++pins)) (mG J5 (.ref ea)) hg1 hm1 ?_ hd1)) (by intro z;cases z);refine(W.exm_one J5.pL LT m1).here ?_;refine codeAny_handlers_suite_as ?_;refine sr fl5 λh6 fl6 sm6=>?_;obtain⟨new1,A6⟩:=AD fl6 sm6;refine pU (X:=Mp X (.ref ea) (X.pn++pins)) (v:=.ref ea) (i:=i) (mG A6 (.ref ea)) hN hi (.inl hk) rfl (λs7 I7=>?_) (.inr hk);refine wpAny_mono (hs1 (.ref ea) (X.pn++pins) [] s7 _ _ D' I7 (hth ea new1)) (λf s8 q=>?_) λ_ _ z=>z.elim;have q:=Pu I.ok q;cases f with
   | next=>
    obtain⟨σ8,H8,I8,q⟩:=q;exact gU I8 hN hi hk λs9 I9=>⟨_,H8,I9,q⟩
   | brk=>
    obtain⟨σ8,H8,I8,q⟩:=q;exact gU I8 hN hi hk λs9 I9=>⟨_,H8,I9,q⟩
   | cont=>
    obtain⟨σ8,H8,I8,q⟩:=q;exact gU I8 hN hi hk λs9 I9=>⟨_,H8,I9,q⟩
   | ret u=>
    obtain⟨v,σ8,H8,I8,r,q⟩:=q;exact gU I8 hN hi hk λs9 I9=>⟨v,_,H8,I9,r,q⟩
  ·obtain⟨m1,m2⟩:=hM2 cls hM;refine wpAny_handleBy_cons (codeAny_handlers_test (gB (X:=Mp X (.ref ea) (X.pn++pins)) (mG J5 (.ref ea)) hg1 hm1 ?_ hd1)) (by intro z;cases z);refine(W.exm_one J5.pL LT m1).here ?_;refine wpAny_handleBy_cons (codeAny_handlers_test (gB (X:=Mp X (.ref ea) (X.pn++pins)) (mG J5 (.ref ea)) hg2 hm2 ?_ hd2)) (by intro z;cases z);refine(W.exm_one J5.pL LT m2).here ?_;refine codeAny_handlers_suite_as ?_;refine sr fl5 λh6 fl6 sm6=>?_;obtain⟨new1,A6⟩:=AD fl6 sm6;refine pU (X:=Mp X (.ref ea) (X.pn++pins)) (v:=.ref ea) (i:=i) (mG A6 (.ref ea)) hN hi (.inl hk) rfl (λs7 I7=>?_) (.inr hk);refine wpAny_mono (hs2 (.ref ea) (X.pn++pins) [] s7 _ _ D' I7 (hth ea new1)) (λf s8 q=>?_) λ_ _ z=>z.elim;have q:=Pu I.ok q;cases f with
   | next=>
    obtain⟨σ8,H8,I8,q⟩:=q;exact gU I8 hN hi hk λs9 I9=>⟨_,H8,I9,q⟩
   | brk=>
    obtain⟨σ8,H8,I8,q⟩:=q;exact gU I8 hN hi hk λs9 I9=>⟨_,H8,I9,q⟩
   | cont=>
    obtain⟨σ8,H8,I8,q⟩:=q;exact gU I8 hN hi hk λs9 I9=>⟨_,H8,I9,q⟩
   | ret u=>
    obtain⟨v,σ8,H8,I8,r,q⟩:=q;exact gU I8 hN hi hk λs9 I9=>⟨v,_,H8,I9,r,q⟩
  ·obtain⟨m1,m2,m3⟩:=hM3 cls hM;refine wpAny_handleBy_cons (codeAny_handlers_test (gB (X:=Mp X (.ref ea) (X.pn++pins)) (mG J5 (.ref ea)) hg1 hm1 ?_ hd1)) (by intro z;cases z);refine(W.exm_one J5.pL LT m1).here ?_;refine wpAny_handleBy_cons (codeAny_handlers_test (gB (X:=Mp X (.ref ea) (X.pn++pins)) (mG J5 (.ref ea)) hg2 hm2 ?_ hd2)) (by intro z;cases z);refine(W.exm_one J5.pL LT m2).here ?_;refine wpAny_handleBy_cons (codeAny_handlers_test (gB (X:=Mp X (.ref ea) (X.pn++pins)) (mG J5 (.ref ea)) hg3 hm3 ?_ hd3)) (by intro z;cases z);refine(W.exm_one J5.pL LT m3).here ?_;refine codeAny_handlers_suite_as ?_;refine sr fl5 λh6 fl6 sm6=>?_;obtain⟨new1,A6⟩:=AD fl6 sm6;refine pU (X:=Mp X (.ref ea) (X.pn++pins)) (v:=.ref ea) (i:=i) (mG A6 (.ref ea)) hN hi (.inl hk) rfl (λs7 I7=>?_) (.inr hk);refine wpAny_mono (hs3 (.ref ea) (X.pn++pins) [] s7 _ _ D' I7 (hth ea new1)) (λf s8 q=>?_) λ_ _ z=>z.elim;have q:=Pu I.ok q;cases f with
   | next=>
    obtain⟨σ8,H8,I8,q⟩:=q;exact gU I8 hN hi hk λs9 I9=>⟨_,H8,I9,q⟩
   | brk=>
    obtain⟨σ8,H8,I8,q⟩:=q;exact gU I8 hN hi hk λs9 I9=>⟨_,H8,I9,q⟩
   | cont=>
    obtain⟨σ8,H8,I8,q⟩:=q;exact gU I8 hN hi hk λs9 I9=>⟨_,H8,I9,q⟩
   | ret u=>
    obtain⟨v,σ8,H8,I8,r,q⟩:=q;exact gU I8 hN hi hk λs9 I9=>⟨v,_,H8,I9,r,q⟩
  ·obtain⟨m1,m2,m3,m4⟩:=hM4 cls hM;refine wpAny_handleBy_cons (codeAny_handlers_test (gB (X:=Mp X (.ref ea) (X.pn++pins)) (mG J5 (.ref ea)) hg1 hm1 ?_ hd1)) (by intro z;cases z);refine(W.exm_one J5.pL LT m1).here ?_;refine wpAny_handleBy_cons (codeAny_handlers_test (gB (X:=Mp X (.ref ea) (X.pn++pins)) (mG J5 (.ref ea)) hg2 hm2 ?_ hd2)) (by intro z;cases z);refine(W.exm_one J5.pL LT m2).here ?_;refine wpAny_handleBy_cons (codeAny_handlers_test (gB (X:=Mp X (.ref ea) (X.pn++pins)) (mG J5 (.ref ea)) hg3 hm3 ?_ hd3)) (by intro z;cases z);refine(W.exm_one J5.pL LT m3).here ?_;refine wpAny_handleBy_cons (codeAny_handlers_test (gB (X:=Mp X (.ref ea) (X.pn++pins)) (mG J5 (.ref ea)) hg4 hm4 ?_ hd4)) (by intro z;cases z);refine(W.exm_one J5.pL LT m4).here ?_;refine codeAny_handlers_suite_as ?_;refine sr fl5 λh6 fl6 sm6=>?_;obtain⟨new1,A6⟩:=AD fl6 sm6;refine pU (X:=Mp X (.ref ea) (X.pn++pins)) (v:=.ref ea) (i:=i) (mG A6 (.ref ea)) hN hi (.inl hk) rfl (λs7 I7=>?_) (.inr hk);refine wpAny_mono (hs4 (.ref ea) (X.pn++pins) [] s7 _ _ D' I7 (hth ea new1)) (λf s8 q=>?_) λ_ _ z=>z.elim;have q:=Pu I.ok q;cases f with
   | next=>
    obtain⟨σ8,H8,I8,q⟩:=q;exact gU I8 hN hi hk λs9 I9=>⟨_,H8,I9,q⟩
   | brk=>
    obtain⟨σ8,H8,I8,q⟩:=q;exact gU I8 hN hi hk λs9 I9=>⟨_,H8,I9,q⟩
   | cont=>
    obtain⟨σ8,H8,I8,q⟩:=q;exact gU I8 hN hi hk λs9 I9=>⟨_,H8,I9,q⟩
   | ret u=>
    obtain⟨v,σ8,H8,I8,r,q⟩:=q;exact gU I8 hN hi hk λs9 I9=>⟨v,_,H8,I9,r,q⟩
end
end G
local macro_rules | `(tactic| walk_at "g2")=>`(tactic| with_reducible first | refine G.Zsy ?_ | refine G.Zt7 ?_ | refine G.Zv6 ?_ | refine G.Zxd ?_ | refine G.Zvs ?_ | refine G.i_C ?_ | refine G.Zxb ?_ | refine G.Zx7 ?_ | refine G.i_B ?_ | refine G.Zsr ?_ | refine G.Zx8 ?_ | refine G.Zvt ?_ | refine G.Zxa ?_ | refine G.Zv7 ?_ | refine G.Ztc ?_ | refine G.Zsx ?_ | refine G.Zvg ?_ | refine G.Zxt ?_ | refine G.i_U ?_ | refine G.Zvq ?_ | refine G.Zvp ?_ | refine G.Zva ?_ | refine G.Zv9 ?_ | refine G.Zt4 ?_ | refine G.Zt3 ?_ | refine G.Zt2 ?_ | refine G.Zp5 ?_ | refine G.Zp4 ?_ | refine G.Im ?_ | refine G.QJ ?_ | refine G.Zg4 ?_ | refine G.Zg5 ?_ | refine G.Zv8 ?_ | refine G.Zta ?_ | refine G.Zvc ?_ | refine G.Zv4 ?_ | refine G.Ztb ?_ | refine G.Zxu ?_ | refine G.Zt0 ?_ | refine G.Zvo ?_ | refine G.Zsu ?_ | refine G.Zsz ?_ | refine G.Zlp ?_ | refine G.Zsw ?_ | refine G.Zxc ?_ | refine G.Zx9 ?_ | refine G.Zxs ?_ | refine G.Zvm ?_ | refine G.Zxf ?_ | refine G.Zxe ?_ | refine G.Zx6 ?_ | refine G.Zx5 ?_ | refine G.Zx4 ?_ | refine G.Zx3 ?_ | refine G.Zx2 ?_ | refine G.Zx1 ?_ | refine G.Zx0 ?_ | refine G.Zwz ?_ | refine G.Zwy ?_ | refine G.Zwx ?_ | refine G.Zv2 ?_ | refine G.Zv1 ?_ | refine G.Zv0 ?_ | refine G.Zxq ?_ | refine G.Zxp ?_ | refine G.Zxo ?_ | refine G.Zxn ?_ | refine G.Zxm ?_ | refine G.Zxl ?_ | refine G.Zxk ?_ | refine G.Zxj ?_ | refine G.Zxi ?_ | refine G.Zxh ?_ | refine G.Zvk ?_ | refine G.Zvj ?_ | refine G.Zvi ?_ | refine G.Zvf ?_ | refine G.Zv3 ?_ | refine G.Yg ?_ | refine G.Zp7 ?_ | refine G.Zlm ?_ | refine G.Zvb ?_ | refine G.Zp8 ?_ | refine G.Zp1 ?_ | refine G.Zt6 ?_ | refine G.Zp6 ?_ | refine G.Zt9 ?_ | refine G.Zvr ?_ | refine G.Zt8 ?_ | refine G.Zt1 ?_ | refine G.Ze8 ?_ | refine G.Zap ?_ | refine G.Ze7 ?_ | refine G.Ze6 ?_ | refine G.Zxg ?_ | refine G.Zvh ?_ | refine G.Zss ?_ | refine G.Zst ?_ | refine G.Zp3 ?_ | refine G.Zxr ?_ | refine G.Zvn ?_ | refine G.Zln ?_ | refine G.Zp9 ?_ | refine G.Zsp ?_ | refine G.Zsq ?_ | refine G.Zp2 ?_)
local macro_rules | `(tactic| walk_at "g1")=>`(tactic| first | (with_reducible refine G.Zg2 ?_) | walk_at "g2")
local macro_rules | `(tactic| walk_at "ne")=>`(tactic| first | assumption | (exact Ne.symm (by assumption)) | exact L2.bI (by assumption) (by assumption) | exact Ne.symm (L2.bI (by assumption) (by assumption)) | exact Nat.ne_of_lt (by assumption))
local macro_rules | `(tactic| walk_at "hp")=>`(tactic| first | assumption | exact L2.az | (refine Eq.trans (L2.aQ ?hne) ?_;(case hne=>walk_at "ne");walk_at "hp"))
local macro_rules | `(tactic| walk_at"d")=>`(tactic| first | omega | decide | (show (_:Int)<_;decide) | exact ⟨ε,ε⟩ | exact ⟨ε,ε,ε⟩ | (unfold L2.Zn5;omega) | exact .inl (by unfold L2.Zn5;omega))
local macro_rules | `(tactic| walk_at"e")=>`(tactic| repeat (first | walk_at "g1" | ((with_reducible refine G.i_I ?hc ?_);(case hc=>walk_at"d"))))
local macro_rules | `(tactic| walk_at"s")=>`(tactic| repeat (first | walk_at "g2" | ((with_reducible refine G.i_I ?hc ?_);(case hc=>walk_at"d"))))
local macro_rules | `(tactic| walk_at"c")=>`(tactic| simp only [List.map_cons,List.map_nil,G.pick,List.getElem?_cons_zero,List.getElem?_cons_succ])
local macro_rules | `(tactic| apply $e)=>`(tactic| (walk_at"e";refine $e))
local macro_rules | `(tactic| exists $e,*)=>`(tactic| (walk_at"e";refine⟨$e,*, ?_⟩))
local macro_rules | `(tactic| ext)=>`(tactic| walk_at"e")
local macro_rules | `(tactic| left)=>`(tactic| walk_at"s")
namespace K37
open PySem L2 G
def JT(lk:AJ)(tl:Int):List (Str×V):=[("looking",.ref lk),("tells",.int tl)]
theorem pB{lk:AJ}{tl:Int}:List.lookup ("looking":Str) (JT lk tl)=some (.ref lk:V):=rfl
theorem lJ{lk:AJ}{tl:Int}:List.lookup ("tells":Str) (JT lk tl)=some (.int tl:V):=rfl
theorem Zl9{lk:AJ}{tl:Int}:(tQ "tells" (.int tl) (tQ "looking" (.ref lk) []))=JT lk tl:=rfl
theorem Qw{lk:AJ}{tl:Int}:List.lookup ("words":Str) (JT lk tl)=none:=rfl
def Gr(rm:Int)(kd:AJ)(hd:AJ)(rw:AJ):List (Str×V):=[("room",.int rm),("kind",.ref kd),("hands",.ref hd),("rows",.ref rw)]
theorem PB{rm:Int}{kd:AJ}{hd:AJ}{rw:AJ}:List.lookup ("rows":Str) (Gr rm kd hd rw)=some (.ref rw:V):=rfl
theorem Zhg{rm:Int}{kd:AJ}{hd:AJ}{rw:AJ}:(tQ "rows" (.ref rw) (tQ "hands" (.ref hd) (tQ "kind" (.ref kd) (tQ "room" (.int rm) []))))=Gr rm kd hd rw:=rfl
def kY(K:aK):TS:=
 (bw (pR (G.Zcl K (aj Γ (aj (G.tFs [(tC (.str "row ")),(G.Zr8 Δ)] Str.empty) aM))))
   (G.Zjp K "row" Γ Δ))
def vW(K:aK):TS:=
 (cC ((ZC (Zck (ir λi j=>.bl (decide (i<=j))) (ir λi j=>.bl (decide (i<=j))) υ (mH (G.We) (aj Γ aM)) (ak 2)) (mH (G.Ztz K) (aj (G.tLC (G.Ztd Γ) [1] G.oO (aN (G.Znu) Γ Δ)) aM)))))
def rO(K:aK)(Bk:Sp):TS:=
 (bw (cZ (RJ (tB (bW Bk [] E0 (aj Γ (aj (tC (.str "0123456789")) (aj (tC (.int 60)) aM)))))) (cC (tC .non)) bV)
   (bw (cZ ((qp (tB (xq K "str" G.rP Γ (aj (tC (.str "0")) aM))) (bJ (aN (MT) Γ (tC (.str "0")))))) (cC (tC .non)) bV)
   (bw (bO (mH (G.Zgm) (aj Γ aM)) (aO 2))
   (bw (cZ ((qp (bJ (aN (G.Z1) Δ (tC .non))) (bJ (aN (ir λi j=>.bl (decide (j<i))) (ak 2) Δ)))) (cC (tC .non)) bV)
   (cC (ak 2))))))
def vX(K:aK)(lV:Sp):TS:=
 (bw (cZ (RJ (tB (xq K "str" G.rP Γ (aj (tC (.str "-")) aM)))) (cC (bW lV [.non] E0 (aj Γ aM))) bV)
   (bw (bO (bW lV [.non] E0 (aj (RG (G.W3) Γ (mF υ) gR) aM)) (aO 1))
   (bw (cZ ((tOr (bJ (aN (G.R4) Δ (tC .non))) (bJ (aN (lH) Δ ω)))) (cC (tC .non)) bV)
   (cC (tUn (rU λi=>.int (-i)) Δ)))))
def By(Bk:Sp):TS:=
 (cC (bW Bk [] E0 (aj Γ (aj (tC (.str "abcdefghijklmnopqrstuvwxyz")) (aj (tC (.int 12)) aM)))))
def yD(bh bf bA aZ aY aX bz aW aV aP:AJ):TS:=
 (cC (G.Zj8 [("make",.ref aY),("get",.ref bA),("put",.ref bz),("copy",.ref bh),("drop",.ref bf),("give",.ref aZ),("write",.ref aP),("read",.ref aW),("name",.ref aX),("seek",.ref aV)] Γ))
def uP:TS:=
 (cC (tC (.str "first")))
def wz:TS:=
 (cC (tC (.str "each")))
def wu:TS:=
 (cC (tC (.str "last")))
def o8(K:aK):TS:=
 (bw (ZW K Γ Δ "looking")
   (ZW K Γ (ak 2) "tells"))
def uO(K:aK)(cH bR cG:AJ)(WD RP Wz:Sp):TS:=
 (bw (bO (G.Zj9 (Vi bR "word" RP [] E0 (RK K Γ "looking") aM) (G.Zj9 (Vi cH "word" WD [] E0 (RK K Γ "looking") aM) (Vi cG "word" Wz [] E0 (RK K Γ "looking") aM))) (aO 1))
   (bw (cZ (bJ (aN (MT) (aN (ir λi j=>.int (Builtin.bitAnd i j)) (RK K Γ "tells") υ) ω)) (bO (aN (G.dN) Δ (tC (.str " old"))) (aO 1)) bV)
   (bw (cZ (bJ (aN (MT) (aN (ir λi j=>.int (Builtin.bitAnd i j)) (RK K Γ "tells") av) ω)) (bO (aN (G.dN) Δ (tC (.str " new"))) (aO 1)) bV)
   (cC Δ))))
def Bw(K:aK)(cH bR bK cG:AJ)(Gp RN:Sp):TS:=
 (bw (zR (Em K (gY (aj (G.Pq bR) (aj (G.Pq cH) (aj (G.Pq cG) aM))))) (aO 1)
   (zR (El (aj (tC (.int 4)) aM)) (aO 2)
   (bw (bO (Zfe bK Gp [] E0 (aj Δ (aj (ak 2) aM))) (aO 3))
   (cZ (bJ (aN (lH) (Vi bK "words" RN [] E0 (ak 3) aM) Γ)) (cC (ak 3)) bV))))
   (cC (tC .non)))
def nW(K:aK):TS:=
 (bw (ZW K Γ Δ "room")
   (bw (ZW K Γ (ak 2) "kind")
   (bw (ZW K Γ (mH (G.YF K) (aj (ak 3) aM)) "hands")
   (ZW K Γ (mH (G.YF K) (aj (ak 4) aM)) "rows"))))
def W0(K:aK)(aU:AJ)(Dn ZL Zcs Zcp sO ZG iQ:Sp)(E:XK):TS:=
 (bw (bO (xq K "str" G.wA Γ (aj (tC (.str "\n")) aM)) (aO 1))
   (bw (bO (bW iQ [] E (aj (bW Zcp [] E0 (aj (bW sO [] E (aj Δ (aj υ aM))) aM)) (aj υ aM))) (aO 2))
   (bw (bO (bW iQ [] E (aj (bW Zcs [] E0 (aj (bW sO [] E (aj Δ (aj av aM))) aM)) (aj av aM))) (aO 3))
   (bw (bO (bW ZL [] E (aj Δ aM)) (aO 4))
   (bw (bO (aN ρ (aN ρ (tC (.int 3)) (mH (G.jg K) (aj (ak 4) aM))) υ) (aO 5))
   (cC (Zfe aU Dn [] E0 (aj (ak 2) (aj (ak 3) (aj (ak 4) (aj (bW ZG [] E (aj Δ (aj (ak 5) (aj (ak 4) aM)))) aM)))))))))))
def GZ(K:aK)(aq:AJ)(cg:Sp)(E:XK):TS:=
 (bw (cZ (bJ (aN (ir λi j=>.bl (decide (j<i))) Δ (mH (G.jg K) (aj Γ aM)))) (G.rK aq cg E (aj Δ aM)) bV)
   (cC (aN (fM K) Γ (aN (ir λi j=>.int (i - j)) Δ υ))))
def tK(aq:AJ)(cg:Sp)(E:XK):TS:=
 (bw (cZ (bJ (aN (G.R4) Γ (tC .non))) (G.rK aq cg E (aj Δ aM)) bV)
   (cC Γ))
def nU(lV:Sp):TS:=
 (bw (bO (bW lV [] E0 (aj Γ (aj (ak 2) aM))) (aO 3))
   (bw (cZ ((tOr (bJ (aN (G.R4) (ak 3) (tC .non))) (bJ (aN (ir λi j=>.bl (decide (i<j))) (ak 3) Δ)))) (cC (tC .non)) bV)
   (cC (ak 3))))
def Bv(K:aK)(jj:Sp):TS:=
 (bw (bO (xq K "str" G.wA Γ (aj (tC (.str " ")) aM)) (aO 1))
   (bw (cZ ((tOr (bJ (aN (MT) (mH (G.jg K) (aj Δ aM)) av)) (bJ (aN (MT) (aN (fM K) Δ ω) (tC (.str "room")))))) (cC (tC .non)) bV)
   (cC (bW jj [] E0 (aj (aN (fM K) Δ υ) (aj (tC (.int 4)) (aj (tC (.int 1000000000000000)) aM)))))))
def Bx(K:aK)(Zcr:Sp):TS:=
 (bw (bO (xq K "str" G.wA Γ (aj (tC (.str " ")) aM)) (aO 1))
   (bw (cZ (bJ (aN (MT) (aN (fM K) Δ ω) (tC (.str "kind")))) (cC (tC .non)) bV)
   (cC (bW Zcr [] E0 (aj (xq K "str" (G.kZ K) (tC (.str " ")) (aj (RG (Qe K) Δ (mF υ) gR) aM)) aM)))))
def yC(K:aK)(aq:AJ)(cg Pr sO:Sp)(E:XK):TS:=
 (bw (bO (gY (aj (bW Pr [] E (aj Γ (aj (tC (.int 3)) (aj (gY aM) aM)))) aM)) (aO 1))
   (bw (bO (aN ρ (tC (.int 3)) υ) (aO 2))
   (bw (Zj6 (bJ (aN (MT) (bW sO [] E (aj Γ (aj (ak 2) aM))) (tC (.str "weave")))) (bw (cZ (bJ (aN (lH) (mH (G.jg K) (aj Δ aM)) (tC (.int 5)))) (G.rK aq cg E (aj (ak 2) aM)) bV)
   (bw (pR (xq K "list" mW Δ (aj (bW Pr [] E (aj Γ (aj (ak 2) (aj Δ aM)))) aM)))
   (bO (aN ρ (ak 2) υ) (aO 2)))))
   (cC Δ))))
def BJ(K:aK)(aF:AJ)(cg Zct yf sO iQ:Sp)(E:XK):TS:=
 (bw (bO (bW iQ [] E (aj (bW Zct [] E0 (aj (bW sO [] E (aj Γ (aj Δ aM))) aM)) (aj Δ aM))) (aO 3))
   (bw (cZ (bJ (aN (rIn K false) (aN (jf K) (ak 3) ω) (bW yf [] E0 (aj (ak 2) aM)))) (G.rK aF cg E (aj Δ aM)) bV)
   (cC (ak 3))))
def yw(K:aK):TS:=
 (cC (G.Ws K (Em K Γ) [] G.oO Γ))
def BK(K:aK)(KN jj:Sp):TS:=
 (bw (bO (xq K "str" G.wA Γ (aj (tC (.str " ")) aM)) (aO 1))
   (bw (cZ ((tOr (bJ (aN (MT) (mH (G.jg K) (aj Δ aM)) (tC (.int 3)))) (tOr (bJ (aN (MT) (aN (fM K) Δ ω) (tC (.str "hand")))) (RJ (tB (bW KN [] E0 (aj (aN (fM K) Δ υ) aM))))))) (cC (tC .non)) bV)
   (bw (bO (bW jj [] E0 (aj (aN (fM K) Δ av) (aj (tC (.int 3)) (aj (tC (.int 9)) aM)))) (aO 2))
   (bw (cZ (bJ (aN (G.R4) (ak 2) (tC .non))) (cC (tC .non)) bV)
   (cC (fU (aj (aN (fM K) Δ υ) (aj (ak 2) aM))))))))
def qF(Bl:Sp):TS:=
 (cC ((ZC (bW Bl [] E0 (aj Γ aM)) (aN (MT) Γ (tC (.str "sweep"))))))
def yr(K:aK)(aq:AJ)(cg Wx:Sp)(E:XK):TS:=
 (bw (bO (gY aM) (aO 3))
   (bw (zR (Zas (aj Δ (aj (aN ρ (mH (G.jg K) (aj Γ aM)) υ) aM))) (aO 4)
   (bw (cZ (bJ (aN (lH) (mH (G.jg K) (aj (ak 3) aM)) (tC (.int 400)))) (G.rK aq cg E (aj (ak 4) aM)) bV)
   (pR (xq K "list" mW (ak 3) (aj (bW Wx [] E (aj (xq K "str" G.wA (aN (fM K) Γ (aN (ir λi j=>.int (i - j)) (ak 4) υ)) (aj (tC (.str " ")) aM)) (aj (ak 4) (aj (ak 2) aM)))) aM)))))
   (cC (ak 3))))
def vV(K:aK)(yg Gk ZK Zco iQ RM:Sp)(E:XK):TS:=
 (bw (cZ (bJ (aN (lH) (aN (fM K) Γ ω) (tC (.str "sweep")))) (cC (bW iQ [] E (aj (bW ZK [] E0 (aj Γ aM)) (aj Δ aM)))) bV)
   (bw (bO (bW iQ [] E (aj (bW Zco [] E0 (aj Γ aM)) (aj Δ aM))) (aO 3))
   (bw (bO (bW yg [] E0 (aj (aN (fM K) Γ υ) aM)) (aO 4))
   (bw (bO (bW RM [] E (aj (ak 4) (aj (ak 3) (aj Δ (aj (ak 2) aM))))) (aO 5))
   (bw (pR (bW Gk [] E (aj (ak 4) (aj (ak 5) (aj Δ (aj (ak 2) aM))))))
   (cC (mH (G.Zw8 K) (aj (aN (Dv) (gY (aj (aN (fM K) Γ υ) aM)) (ak 5)) aM))))))))
def yu(K:aK)(jj:Sp):TS:=
 (bw (cZ (bJ (aN (MT) (mH (G.jg K) (aj Γ aM)) av)) (cC (tC .non)) bV)
   (bw (bO (bW jj [] E0 (aj (aN (fM K) Γ υ) (aj υ (aj (tC (.int 9999)) aM)))) (aO 1))
   (bw (cZ (bJ (aN (G.R4) Δ (tC .non))) (cC (tC .non)) bV)
   (cC (fU (aj (tC (.str "sweep")) (aj Δ aM)))))))
def Bu(K:aK)(yg ZJ:Sp):TS:=
 (bw (bO (tIf (bJ (aN (ir λi j=>.bl (decide (j<i))) (mH (G.jg K) (aj Γ aM)) υ)) (bW yg [] E0 (aj (aN (fM K) Γ υ) aM)) (tC .non)) (aO 1))
   (bw (bO (aN (Dv) (RG (Qe K) Γ gR (mF υ)) (RG (Qe K) Γ (mF av) gR)) (aO 2))
   (bw (cZ ((tOr (bJ (aN (G.R4) Δ (tC .non))) (bJ (aN (MT) (mH (G.jg K) (aj (ak 2) aM)) (mH (G.jg K) (aj Δ aM)))))) (cC (tC .non)) bV)
   (bw (bO (G.Ws K (G.Zar K true false (aj Δ (aj (ak 2) aM))) [] G.oO (bW ZJ [] E0 (aj Γ (aj Δ aM)))) (aO 3))
   (bw (cZ (bJ (aN (rIn K false) (tC .non) (ak 3))) (cC (tC .non)) bV)
   (cC (ak 3)))))))
def yt(Bl Zcq lV:Sp):TS:=
 (bw (cZ (tB (G.Zch Γ [("slot",.int 999),("field",.int 999),("many",.int 8),("bulk",.int 1000000000000)])) (cC (bW lV [] E0 (aj Δ (aj (G.Zj7 [("slot",.int 999),("field",.int 999),("many",.int 8),("bulk",.int 1000000000000)] Γ) aM)))) bV)
   (bw (cZ (bJ (aN (lH) Γ (tC (.str "load")))) (cC (bW Zcq [] E0 (aj Δ aM))) bV)
   (cC (tIf (tB (bW Bl [] E0 (aj Δ aM))) Δ (tC .non)))))
def uK(K:aK)(aD:AJ)(cg yf:Sp)(E:XK):TS:=
 (bw (bO (bW yf [] E0 (aj (ak 3) aM)) (aO 4))
   (bw (bO (gY aM) (aO 5))
   (bw (zR (G.Zar K true false (aj Γ (aj Δ aM))) (Yn K 2 (pZ (aO 6) (pZ (aO 7) Yo)))
   (bw (cZ ((qp (bJ (aN (lH) (ak 6) (tC (.str "hand")))) (bJ (aN (rIn K true) (ak 7) (ak 4))))) (G.rK aD cg E (aj (ak 2) aM)) bV)
   (pR (xq K "list" mW (ak 5) (aj (tIf (bJ (aN (lH) (ak 6) (tC (.str "hand")))) (xq K "list" (G.Zfh K) (ak 4) (aj (ak 7) aM)) (ak 7)) aM)))))
   (cC (ak 5)))))
def oX(K:aK)(aC:AJ)(cg:Sp)(E:XK):TS:=
 (bw (bO ω (aO 4))
   (zR (G.Zar K true false (aj Γ (aj Δ aM))) (Yn K 2 (pZ (aO 5) (pZ (aO 6) Yo)))
   (bw (cZ (bJ (aN (lH) (ak 5) (tC (.str "hand")))) (bO (ak 6) (aO 4)) bV)
   (cZ ((qp (bJ (aN (lH) (ak 5) (tC (.str "slot")))) (bJ (aN (ir λi j=>.bl (decide (j<=i))) (ak 6) (aN (jf K) (aN (fM K) (ak 3) (ak 4)) υ))))) (G.rK aC cg E (aj (ak 2) aM)) bV))))
def mV(K:aK):TS:=
 (bw (cZ (bJ (aN (ir λi j=>.bl (decide (i<j))) Δ (mH (G.jg K) (aj Γ aM)))) (cC (aN (fM K) Γ Δ)) bV)
   (cC ω))
def pJ:TS:=
 (cC ((ZC (mH (G.Zbk) (aj Γ (aj (tC (.ty "int")) aM))) (Zja (mH (G.Zbk) (aj Γ (aj (tC (.ty "bool")) aM)))))))
def wj:TS:=
 (bw (cZ (bJ (aN (lH) Γ (tC (.str "sweep")))) (cC (tC (.str "sweeps"))) bV)
   (cC Γ))
def o6(K:aK)(Wy:Sp):TS:=
 (bw (bO (tC (.str "abcdefghijklmnopqrstuvwxyz")) (aO 2))
   (bw (bO (aN ρ υ (aN ο (aN τ Δ (tC (.int 26))) (tC (.int 12)))) (aO 3))
   (bw (bO (gY aM) (aO 4))
   (bw (zR (El (aj (aN ρ υ (aN ο Γ (tC (.int 5)))) aM)) (aO 5)
   (bw (bO (tC (.str "")) (aO 6))
   (bw (zR (El (aj (ak 3) aM)) (aO 7)
   (bw (bO (aN ρ (aN Ψ (aN Ψ (ak 7) (ak 7)) (tC (.int 3))) (aN Ψ (ak 7) (aN ο (aN τ Δ (tC (.int 312))) (tC (.int 26))))) (aO 8))
   (bw (cZ (bJ (aN (lH) (ak 7) (aN ο (aN τ Γ (tC (.int 7))) (ak 3)))) (bO (aN ρ (ak 8) (ak 5)) (aO 8)) bV)
   (bO (aN (G.dN) (ak 6) (aN (Zda) (ak 2) (aN ο (aN ρ Δ (ak 8)) (tC (.int 26))))) (aO 6)))))
   (bw (cZ (bJ (aN (lH) (aN ο (aN τ Γ (tC (.int 91))) (tC (.int 3))) υ)) (bO (aN (G.Zjw) (aN (Zda) (ak 2) (aN ο Δ (tC (.int 26)))) (aN ρ υ (aN ο (aN ρ (ak 5) (aN τ Δ (tC (.int 26)))) (tC (.int 12))))) (aO 6)) bV)
   (pR (xq K "list" mW (ak 4) (aj (fU (aj (bW Wy [] E0 (aj (ak 6) aM)) (aj (aN ρ (tC (.int 3)) (aN ο (aN ρ (aN τ Δ (tC (.int 7))) (aN Ψ (aN Ψ (ak 5) (ak 5)) av)) (tC (.int 7)))) aM))) aM)))))))
   (bw (cZ ((qp (bJ (aN (lH) (aN ο (aN τ Γ (tC (.int 273))) (tC (.int 4))) υ)) (bJ (aN (rIn K true) (tC (.str "sweeper")) (G.Ws K (Em K (ak 4)) [] G.oO Γ))))) (bO (fU (aj (tC (.str "sweeper")) (aj (aN (jf K) (aN (fM K) (ak 4) ω) υ) aM))) (Jg (ak 4) ω xr)) bV)
   (cC (ak 4)))))))
def qK(K:aK):TS:=
 (bw (bO (aN (fM K) (gY (aj (tC (.str "first")) (aj (tC (.str "each")) (aj (tC (.str "last")) aM)))) (aN ο Γ (tC (.int 3)))) (aO 1))
   (bw (cZ (bJ (aN (lH) (aN ο (aN τ Γ (tC (.int 3))) av) υ)) (bO (aN (G.dN) Δ (tC (.str " old"))) (aO 1)) bV)
   (bw (cZ (bJ (aN (lH) (aN ο (aN τ Γ (tC (.int 6))) av) υ)) (bO (aN (G.dN) Δ (tC (.str " new"))) (aO 1)) bV)
   (cC Δ))))
def qG:TS:=
 (bw (bO (tC (.str "abcdefghijklmnopqrstuvwxyz")) (aO 2))
   (bw (bO (tC (.str "")) (aO 3))
   (bw (zR (El (aj (aN ρ υ (aN ο Δ (tC (.int 12)))) aM)) (aO 4)
   (bO (aN (G.dN) (ak 3) (aN (Zda) (ak 2) (aN ο (aN ρ Γ (aN Ψ (aN Ψ (ak 4) (ak 4)) (aN ο (aN τ Δ (tC (.int 12))) (tC (.int 26))))) (tC (.int 26))))) (aO 3)))
   (cC (ak 3)))))
def uM:TS:=
 (bw (cZ (bJ (aN (lH) (aN ο (aN τ Δ (tC (.int 605))) (tC (.int 3))) υ)) (cC (aN ο (aN (rI PySem.IntMulOk λi j=>.int (i * j)) (aN ρ Γ (tC (.int 3))) (tC (.int 31415926535897932384626433832795028841971693993751))) (aN ρ (ak 2) υ))) bV)
   (cC (aN ο Γ (aN ρ (ak 2) υ))))
def tL(K:aK)(pI KR:Sp):TS:=
 (bw (bO (aN ο (aN Ψ (aN ρ (aN ρ Γ (aN Ψ (aN Ψ (tC (.int 17)) Δ) Δ)) (tC (.int 29))) (tC (.int 48271))) (tC (.int 7919))) (aO 3))
   (bw (bO (aN ο (aN Ψ (aN ρ (aN ρ Γ (aN Ψ (tC (.int 31)) Δ)) (tC (.int 7))) (tC (.int 16807))) (tC (.int 6133))) (aO 4))
   (bw (bO (aN ο (aN τ (ak 3) (tC (.int 11))) (mH (G.jg K) (aj (ak 2) aM))) (aO 5))
   (bw (bO (aN ο (ak 4) (mH (G.jg K) (aj (ak 2) aM))) (aO 6))
   (bw (bO (aN ο (aN τ (ak 4) (tC (.int 5))) (aN (jf K) (aN (fM K) (ak 2) (ak 5)) υ)) (aO 7))
   (bw (bO (aN ο (aN τ (ak 3) (tC (.int 55))) (aN (jf K) (aN (fM K) (ak 2) (ak 5)) υ)) (aO 8))
   (bw (bO (bW pI [] E0 (aj Γ (aj (ak 3) (aj (aN (fM K) (gY (aj (tC (.int 8)) (aj (tC (.int 999)) aM))) (aN ο (ak 4) av)) aM)))) (aO 9))
   (bw (bO (bW pI [] E0 (aj Γ (aj (ak 3) (aj (aN (ir λi j=>.int (i - j)) (aN (rI FT λi j=>.int (i ^ j.toNat)) (tC (.int 10)) (tC (.int 60))) υ) aM)))) (aO 10))
   (bw (cZ (bJ (aN (lH) (aN ο (aN τ (ak 4) av) av) υ)) (bO (aN (ir λi j=>.int (i - j)) ω (ak 10)) (aO 10)) bV)
   (bw (bO (bW KR [] E0 (aj Γ (aj (ak 4) aM))) (aO 11))
   (bw (cZ (bJ (aN (lH) (aN ο (aN τ (ak 4) (tC (.int 3))) (tC (.int 5))) υ)) (bO (tC (.str "sweep")) (aO 11)) bV)
   (cC (aN (fM K) (gY (aj (fU (aj (tC (.str "make")) (aj (ak 5) (aj (ak 7) (aj (aN ο (aN τ (ak 4) (tC (.int 45))) (tC (.int 9))) (aj (bW pI [] E0 (aj Γ (aj (ak 3) (aj (aN (rI FT λi j=>.int (i ^ j.toNat)) (tC (.int 10)) (tC (.int 12))) aM)))) aM)))))) (aj (fU (aj (tC (.str "get")) (aj (ak 5) (aj (ak 7) (aj (ak 8) (aj (ak 9) aM)))))) (aj (fU (aj (tC (.str "put")) (aj (ak 5) (aj (ak 8) (aj (ak 9) (aj (ak 7) aM)))))) (aj (fU (aj (tC (.str "copy")) (aj (ak 5) (aj (ak 7) (aj (ak 8) aM))))) (aj (fU (aj (tC (.str "drop")) (aj (ak 5) (aj (ak 7) aM)))) (aj (fU (aj (tC (.str "give")) (aj (ak 5) (aj (ak 7) (aj (ak 6) (aj (aN ο (aN τ (ak 3) (tC (.int 55))) (aN (jf K) (aN (fM K) (ak 2) (ak 6)) υ)) aM)))))) (aj (fU (aj (tC (.str "write")) (aj (ak 5) (aj (ak 8) (aj (ak 10) aM))))) (aj (fU (aj (tC (.str "read")) (aj (ak 5) (aj (ak 8) aM)))) (aj (fU (aj (tC (.str "name")) (aj (ak 5) (aj (ak 8) (aj (ak 11) aM))))) (aj (fU (aj (tC (.str "seek")) (aj (ak 5) (aj (ak 7) (aj (ak 11) aM))))) (aj (fU (aj (tC (.str "sweep")) (aj (aN ρ υ (bW pI [] E0 (aj Γ (aj (ak 3) (aj (tC (.int 9998)) aM))))) aM))) aM)))))))))))) (aN ο (ak 3) (tC (.int 11))))))))))))))))
def qI(K:aK):TS:=
 (bw (cZ (bJ (aN (lH) (aN (jf K) Γ ω) (tC (.str "sweep")))) (cC (aN (G.dN) (tC (.str "sweep ")) (mH (G.xH) (aj (aN (jf K) Γ υ) aM)))) bV)
   (bw (bO (aN (G.dN) (aN (G.dN) (aN (jf K) (aN (fM K) Δ (aN (jf K) Γ υ)) ω) (tC (.str " "))) (aN (jf K) Γ ω)) (aO 2))
   (bw (zR (Zas (aj av (aj (mH (G.jg K) (aj Γ aM)) aM))) (aO 3)
   (bw (bO (mH (G.Zmv) (aj (aN (jf K) Γ (ak 3)) aM)) (aO 4))
   (bw (cZ ((qp (bJ (aN (lH) (aN (jf K) Γ ω) (tC (.str "give")))) (bJ (aN (lH) (ak 3) (tC (.int 3)))))) (bO (aN (jf K) (aN (fM K) Δ (aN (jf K) Γ (tC (.int 3)))) ω) (aO 4)) bV)
   (bO (aN (G.dN) (aN (G.dN) (ak 2) (tC (.str " "))) (ak 4)) (aO 2)))))
   (cC (ak 2)))))
def oY(K:aK):TS:=
 (bw (bO (G.Ws K (Em K Γ) [] G.oO Γ) (aO 2))
   (bw (bO (aN (fM K) (ak 2) (aN ο Δ (mH (G.jg K) (aj (ak 2) aM)))) (aO 3))
   (bw (zR (Em K (gY (aj (aN (G.dN) (RG (G.W3) (ak 3) gR (mF (tC (.int 11)))) (tC (.str "a"))) (aj (RG (G.W3) (ak 3) (mF υ) gR) (aj (aN (G.dN) (tC (.str "b")) (RG (G.W3) (ak 3) gR (mF (tC (.int 11))))) (aj (tC (.str "q")) (aj (tC (.str "qq")) (aj (tC (.str "qqq")) (aj (tC (.str "qqqq")) (aj (tC (.str "qqqqq")) aM)))))))))) (aO 4)
   (cZ ((qp (bJ (aN (MT) (ak 4) (tC (.str "")))) (qp (bJ (aN (MT) (ak 4) (tC (.str "sweep")))) (bJ (aN (rIn K true) (ak 4) (ak 2)))))) (cC (ak 4)) bV))
   (cC (tC (.str "qqqqqq"))))))
def tM(K:aK):TS:=
 (bw (cZ (bJ (aN (lH) (aN (jf K) Γ ω) (tC (.str "sweep")))) (cC (aN (fM K) (gY (aj (tC (.str "0")) (aj (tC (.str "10000")) aM))) (aN ο (ak 2) av))) bV)
   (bw (bO (aN (jf K) Γ Δ) (aO 3))
   (bw (cZ ((tOr ((qp (bJ (aN (lH) (aN (jf K) Γ ω) (tC (.str "give")))) (bJ (aN (lH) Δ (tC (.int 3)))))) (tB (mH (G.Zbk) (aj (ak 3) (aj (tC (.ty "str")) aM)))))) (cC (tC (.str "abcdefghijklm"))) bV)
   (bw (cZ ((qp (bJ (aN (lH) (aN (jf K) Γ ω) (tC (.str "make")))) (bJ (aN (ir λi j=>.bl (decide (j<i))) Δ av)))) (cC (aN (fM K) (gY (aj (tC (.str "9")) (aj (mH (G.xH) (aj (aN ρ (aN (rI FT λi j=>.int (i ^ j.toNat)) (tC (.int 10)) (tC (.int 12))) υ) aM)) aM))) (aN (ir λi j=>.int (i - j)) Δ (tC (.int 3))))) bV)
   (bw Φ
   (cC (tC (.str "1000"))))))))
def kW(K:aK)(sW:Sp):TS:=
 (bw (bO (xq K "str" (G.kZ K) (tC (.str " ")) (aj Δ aM)) (aO 5))
   (bw (bO (aN ο (ak 2) (tC (.int 8))) (aO 6))
   (bw (cZ (bJ (aN (lH) (ak 6) ω)) (cC (aN (G.dN) (ak 5) (tC (.str " 1")))) bV)
   (bw (cZ (bJ (aN (lH) (ak 6) υ)) (cC (xq K "str" (G.kZ K) (tC (.str " ")) (aj (RG (Qe K) Δ gR (mF (aN (ir λi j=>.int (i - j)) (mH (G.jg K) (aj Δ aM)) υ))) aM))) bV)
   (bw (cZ (bJ (aN (lH) (ak 6) av)) (cC (aN (fM K) (gY (G.Zq8 5)) (aN ο (ak 3) (tC (.int 5))))) bV)
   (bw (cZ (bJ (aN (lH) (ak 6) (tC (.int 3)))) (bw (bO (aN (fM K) (gY (aj (tC (.str "mak")) (aj (tC (.str "Get")) (aj (tC (.str "sweep")) (aj (tC (.str "keep")) (aj (tC (.str "")) (aj (tC (.str "PUT")) aM))))))) (aN ο (ak 3) (tC (.int 6)))) (Jg Δ υ xr))
   (cC (xq K "str" (G.kZ K) (tC (.str " ")) (aj Δ aM)))) bV)
   (bw (cZ (bJ (aN (lH) (ak 6) (tC (.int 4)))) (bw (bO (aN (G.dN) (tC (.str "0")) (aN (fM K) Δ (ak 4))) (Jg Δ (ak 4) xr))
   (cC (xq K "str" (G.kZ K) (tC (.str " ")) (aj Δ aM)))) bV)
   (bw (cZ ((qp (bJ (aN (lH) (ak 6) (tC (.int 5)))) ((tOr (bJ (aN (MT) (aN (jf K) Γ ω) (tC (.str "write")))) (bJ (aN (lH) (ak 4) av)))))) (bw (bO (aN (G.dN) (tC (.str "-")) (aN (fM K) Δ (ak 4))) (Jg Δ (ak 4) xr))
   (cC (xq K "str" (G.kZ K) (tC (.str " ")) (aj Δ aM)))) bV)
   (bw (cZ (bJ (aN (lH) (ak 6) (tC (.int 6)))) (bw (bO (bW sW [] E0 (aj Γ (aj (ak 4) (aj (ak 3) aM)))) (Jg Δ (ak 4) xr))
   (cC (xq K "str" (G.kZ K) (tC (.str " ")) (aj Δ aM)))) bV)
   (cC ah))))))))))
def o7(K:aK)(sW:Sp):TS:=
 (bw (bO (aN ρ av (aN ο (ak 3) (mH (G.Zw9) (aj υ (aj (aN (ir λi j=>.int (i - j)) (mH (G.jg K) (aj Δ aM)) av) aM))))) (aO 4))
   (bw (cZ (bJ (aN (lH) (aN (jf K) Γ ω) (tC (.str "sweep")))) (bO υ (aO 4)) bV)
   (kW K sW)))
def gw(K:aK):TS:=
 (bw (bO (aN ρ (aN (jf K) (aN (fM K) Δ (ak 4)) υ) (aN (fM K) (gY (aj ω (aj υ (aj (tC (.int 90)) aM)))) (aN ο (aN τ (ak 2) av) (tC (.int 3))))) (aO 5))
   (cC (aN (Zjx K) (aN (Zjx K) (RG (Zrn K) Γ gR (mF (ak 3))) (fU (aj (ak 5) aM))) (RG (Zrn K) Γ (mF (aN ρ (ak 3) υ)) gR))))
def kO(K:aK):TS:=
 (bw (cZ ((qp (bJ (aN (lH) (aN ο (ak 2) av) υ)) (bJ (aN (rIn K false) (aN (jf K) Γ ω) (gY (aj (tC (.str "put")) (aj (tC (.str "give")) aM))))))) (bO (tC (.int 4)) (aO 3)) bV)
   (bw (bO (aN (jf K) Γ υ) (aO 4))
   (bw (cZ ((qp (bJ (aN (lH) (ak 3) (tC (.int 4)))) (bJ (aN (lH) (aN (jf K) Γ ω) (tC (.str "give")))))) (bO (aN (jf K) Γ (tC (.int 3))) (aO 4)) bV)
   (gw K))))
def oZ(K:aK):TS:=
 (bw (bO av (aO 3))
   (bw (cZ ((qp (bJ (aN (lH) (aN ο (ak 2) av) υ)) (bJ (aN (rIn K false) (aN (jf K) Γ ω) (gY (aj (tC (.str "get")) (aj (tC (.str "copy")) aM))))))) (bO (tC (.int 3)) (aO 3)) bV)
   (kO K)))
def eX(K:aK)(iK:Sp):TS:=
 (bw (cZ (bJ (aN (MT) (aN (ir λi j=>.int (Builtin.bitAnd i j)) (ak 4) (tC (.int 4))) ω)) (cC (fU (aj (tC (.str "form")) (aj (bW iK [] E0 (aj Γ (aj (ak 6) (aj (ak 2) (aj (ak 3) aM))))) aM)))) bV)
   (cC (fU (aj (ak 5) (aj (xq K "str" (G.kZ K) (tC (.str " ")) (aj (ak 6) aM)) aM)))))
def jh(K:aK)(iK oU jX:Sp):TS:=
 (bw (bO (xq K "str" G.wA (bW jX [] E0 (aj Γ (aj Δ aM))) (aj (tC (.str " ")) aM)) (aO 6))
   (bw (cZ (bJ (aN (MT) (aN (ir λi j=>.int (Builtin.bitAnd i j)) (ak 4) av) ω)) (bw (bO (tC (.str "hand")) (aO 5))
   (bw (bO ω (aO 7))
   (bw (bO (bW oU [] E0 (aj Δ (aj (ak 3) aM))) (aO 8))
   (bw (cZ ((qp (bJ (aN (lH) (aN (jf K) Γ ω) (tC (.str "give")))) (bJ (aN (ir λi j=>.bl (decide (j<i))) (aN ο (aN τ (ak 2) (tC (.int 56))) (tC (.int 3))) ω)))) (bw (bO (tC (.int 3)) (aO 7))
   (cZ (bJ (aN (lH) (aN ο (aN τ (ak 2) (tC (.int 56))) (tC (.int 3))) av)) (bO (tC (.str "sweep")) (aO 8)) bV)) bV)
   (bO (ak 8) (Jg (ak 6) (ak 7) xr)))))) bV)
   (eX K iK)))
def lG(K:aK)(iK Gm oU jX:Sp):TS:=
 (bw (cZ (bJ (aN (lH) (aN (jf K) Γ ω) (tC (.str "sweep")))) (cC (fU (aj (tC (.str "form")) (aj (bW iK [] E0 (aj Γ (aj (gY (aj (tC (.str "sweep")) (aj (mH (G.xH) (aj (aN (jf K) Γ υ) aM)) aM))) (aj (ak 2) (aj (ak 3) aM))))) aM)))) bV)
   (bw (bO (aN ρ υ (aN ο (aN τ (ak 2) (tC (.int 8))) (tC (.int 7)))) (aO 4))
   (bw (bO (tC (.str "slot")) (aO 5))
   (bw (cZ (bJ (aN (MT) (aN (ir λi j=>.int (Builtin.bitAnd i j)) (ak 4) υ) ω)) (bO (bW Gm [] E0 (aj Γ (aj Δ (aj (aN τ (ak 2) (tC (.int 56))) aM)))) (aO 0)) bV)
   (jh K iK oU jX)))))
def jw(K:aK):TS:=
 (bw (bO (aN (jf K) (aN (fM K) Γ (aN (ir λi j=>.int (i - j)) (ak 2) av)) ω) (aO 4))
   (bw (cZ (bJ (aN (lH) (aN ο Δ (tC (.int 7))) υ)) (cC (fU (aj (tC (.str "form")) (aj (aN (G.dN) (aN (G.dN) (aN (fM K) (gY (aj (tC (.str "hands ")) (aj (tC (.str "Hand ")) (aj (tC (.str "handy ")) aM)))) (aN ο (aN τ Δ (tC (.int 7))) (tC (.int 3)))) (ak 4)) (tC (.str " 4"))) aM)))) bV)
   (bw (cZ ((qp (bJ (aN (ir λi j=>.bl (decide (j<i))) (ak 2) av)) (bJ (aN (lH) (aN ο Δ (tC (.int 3))) ω)))) (bw (bO (aN (fM K) (gY (aj (tC (.str " 5")) (aj (tC (.str " 5")) (aj (tC (.str " 10")) (aj (tC (.str " 2")) (aj (tC (.str "")) aM)))))) (aN ο (aN τ Δ (tC (.int 15))) (tC (.int 5)))) (aO 5))
   (cC (fU (aj (aN (fM K) (gY (aj (tC (.str "form")) (aj (tC (.str "twice")) aM))) (mH (G.Zqu) (aj (aN (lH) (ak 5) (tC (.str " 5"))) aM))) (aj (aN (G.dN) (aN (G.dN) (tC (.str "hand ")) (aN (jf K) (aN (fM K) Γ (aN ο (aN τ Δ (tC (.int 3))) (aN (ir λi j=>.int (i - j)) (ak 2) av))) ω)) (ak 5)) aM))))) bV)
   (bw (bO (gY (aj (aN (G.dN) (ak 4) (tC (.str " 2"))) (aj (aN (G.dN) (ak 4) (tC (.str " 10"))) (aj (tC (.str "sweep 4")) (aj (tC (.str "abcdefghijklm 4")) (aj (aN (G.dN) (ak 4) (tC (.str "A 4"))) (aj (ak 4) (aj (aN (G.dN) (ak 4) (tC (.str " 04"))) (aj (tC (.str " 4")) aM))))))))) (aO 3))
   (bw (pR (xq K "list" mW (ak 3) (aj (aN (G.dN) (ak 4) (tC (.str " 4 "))) aM)))
   (cC (fU (aj (tC (.str "form")) (aj (aN (G.dN) (tC (.str "hand ")) (aN (fM K) (ak 3) (aN ο Δ (tC (.int 9))))) aM)))))))))
def mK(K:aK):TS:=
 (bw (cZ (bJ (aN (lH) (ak 2) ω)) (bw (bO (gY (aj (tC (.str "room 3")) (aj (tC (.str "room 1000000000000001")) (aj (tC (.str "room 04")) (aj (tC (.str "room")) (aj (tC (.str "Room 9")) (aj (tC (.str "room 9 ")) (aj (tC (.str "rooms 9")) (aj (tC (.str "")) (aj (tC (.str "room 9 9")) aM)))))))))) (aO 3))
   (cC (fU (aj (tC (.str "form")) (aj (aN (fM K) (ak 3) (aN ο Δ (tC (.int 9)))) aM))))) bV)
   (bw (cZ (bJ (aN (lH) (ak 2) υ)) (bw (bO (gY (aj (tC (.str "kind")) (aj (tC (.str "kind First")) (aj (tC (.str "kind  first")) (aj (tC (.str "kind first new old")) (aj (tC (.str "kind last old old")) (aj (tC (.str "first")) (aj (tC (.str "kind old")) (aj (tC (.str "kind each,new")) (aj (tC (.str "kind each new ")) (aj (tC (.str "")) aM))))))))))) (aO 3))
   (cC (fU (aj (tC (.str "form")) (aj (aN (fM K) (ak 3) (aN ο Δ (tC (.int 10)))) aM))))) bV)
   (bw (cZ (bJ (aN (lH) (ak 2) (aN ρ (mH (G.jg K) (aj Γ aM)) av))) (cC (fU (aj (tC (.str "form")) (aj (aN (fM K) (gY (aj (tC (.str "weaves")) (aj (tC (.str "weave ")) (aj (tC (.str "")) (aj (tC (.str "Weave")) (aj (tC (.str "weave 1")) aM)))))) (aN ο Δ (tC (.int 5)))) aM)))) bV)
   (jw K))))
def wg(K:aK)(aq aD aC aF:AJ)(rM:Sp):TS:=
 (bw (bO (fU (aj (tC (.str "good")) (aj ω aM))) (aO 1))
   (bw (G.Zcg (λcls=>cls=Value.ref aq) (λcls=>cls=Value.ref aF) (λcls=>cls=Value.ref aD) (λcls=>cls=Value.ref aC) 2 (λEx=>(pR (G.Wt rM [] Ex (aj Γ aM)))) (bO (fU (aj (tC (.str "form")) (aj (G.Vh K (ak 2) "row") aM))) (aO 1)) (bO (fU (aj (tC (.str "twice")) (aj (G.Vh K (ak 2) "row") aM))) (aO 1)) (bO (fU (aj (tC (.str "hand")) (aj (G.Vh K (ak 2) "row") aM))) (aO 1)) (bO (fU (aj (tC (.str "slot")) (aj (G.Vh K (ak 2) "row") aM))) (aO 1)))
   (cC Δ)))
def qL(aq cW jN bQ dX aD fX aC gW aF:AJ)(rM:Sp)(vm:AK->AK->Option Bool):TS:=
 (bw (bO (gY aM) (aO 1))
   (bw (G.Zcf (λcls=>cls=Value.ref aq\/cls=Value.ref aF\/cls=Value.ref aD\/cls=Value.ref aC) 2 (λEx=>(pR (G.Wt rM [] Ex (aj Γ aM)))) (bO (gY (aj (mH (G.rH [aq,aF,aD,aC] vm) (aj (ak 2) (aj (tC (.ref aq)) aM))) (aj (mH (G.rH [aq,aF,aD,aC] vm) (aj (ak 2) (aj (tC (.ref aF)) aM))) (aj (mH (G.rH [aq,aF,aD,aC] vm) (aj (ak 2) (aj (tC (.ref aD)) aM))) (aj (mH (G.rH [aq,aF,aD,aC] vm) (aj (ak 2) (aj (tC (.ref aC)) aM))) (aj (mH (G.rH [aq,aF,aD,aC] vm) (aj (ak 2) (aj (tC (.ref bQ)) aM))) (aj (mH (G.rH [aq,aF,aD,aC] vm) (aj (ak 2) (aj (tC (.ty "ValueError")) aM))) (aj (mH (G.rH [aq,aF,aD,aC] vm) (aj (ak 2) (aj (tC (.ref cW)) aM))) (aj (mH (G.rH [aq,aF,aD,aC] vm) (aj (ak 2) (aj (tC (.ref dX)) aM))) (aj (mH (G.rH [aq,aF,aD,aC] vm) (aj (ak 2) (aj (tC (.ref jN)) aM))) (aj (mH (G.rH [aq,aF,aD,aC] vm) (aj (ak 2) (aj (tC (.ref fX)) aM))) (aj (mH (G.rH [aq,aF,aD,aC] vm) (aj (ak 2) (aj (tC (.ref gW)) aM))) aM)))))))))))) (aO 1)))
   (cC Δ)))
def qJ(K:aK)(cT KZ:Sp):TS:=
 (bw (bO (aN ρ (tC (.int 4)) (aN ο (bW cT [] E0 (aj Γ (aj av aM))) (aN (ir λi j=>.int (i - j)) (aN (rI FT λi j=>.int (i ^ j.toNat)) (tC (.int 10)) (tC (.int 15))) (tC (.int 3))))) (aO 2))
   (bw (bO (gY (aj (aN (G.dN) (tC (.str "room ")) (mH (G.xH) (aj (ak 2) aM))) (aj (aN (G.dN) (tC (.str "kind ")) (bW KZ [] E0 (aj (bW cT [] E0 (aj Γ (aj ω aM))) aM))) aM))) (aO 3))
   (bw (zR (Em K Δ) (Yn K 2 (pZ (aO 4) (pZ (aO 5) Yo)))
   (pR (xq K "list" mW (ak 3) (aj (aN (G.dN) (aN (G.dN) (aN (G.dN) (tC (.str "hand ")) (ak 4)) (tC (.str " "))) (mH (G.xH) (aj (ak 5) aM))) aM))))
   (bw (pR (xq K "list" mW (ak 3) (aj (tC (.str "weave")) aM)))
   (cC (ak 3))))))
def nD(K:aK)(qt jQ uF:Sp):TS:=
 (bw (bO (xq K "str" (G.kZ K) (tC (.str "\n")) (aj Γ aM)) (aO 4))
   (bw (bO (bW jQ [] E0 (aj (ak 4) aM)) (aO 5))
   (bw (cZ ((tOr (bJ (aN (G.Zdb K true) (ak 5) (ak 2))) (RJ (tB (bW uF [] E0 (aj (aN (jf K) (ak 5) υ) aM)))))) (cC (tC (.bl false))) bV)
   (bw (cZ (bJ (aN (lH) (aN (jf K) (ak 2) ω) (tC (.str "good")))) (cC (tC (.bl true))) bV)
   (bw (bO (aN (jf K) (ak 2) ω) (aO 6))
   (bw (bO (gY (aj (aN (lH) (ak 6) (tC (.str "form"))) (aj (aN (lH) (ak 6) (tC (.str "twice"))) (aj (aN (lH) (ak 6) (tC (.str "hand"))) (aj (aN (lH) (ak 6) (tC (.str "slot"))) aM))))) (aO 7))
   (cC (aN (G.Zue K false) (bW qt [] E0 (aj (ak 4) aM)) (aN (Dv) (ak 7) (gY (aj (tC (.bl true)) (aj (tC (.bl true)) (aj (tC (.bl false)) (aj (tC (.bl false)) (aj (tC (.bl false)) (aj (tC (.bl false)) (aj (tC (.bl false)) aM)))))))))))))))))
def uN(K:aK)(qt jQ uF:Sp):TS:=
 (bw (bO (fU (aj (tC (.str "good")) (aj ω aM))) (aO 2))
   (bw (zR (El (aj (aN ρ (mH (G.jg K) (aj Γ aM)) υ) aM)) (aO 3)
   (cZ ((qp (bJ (aN (lH) (aN (jf K) (ak 2) ω) (tC (.str "good")))) (tB (Zr9 (ak 3) Δ)))) (bO (fU (aj (Zff Δ (ak 3)) (aj (aN ρ (ak 3) υ) aM))) (aO 2)) bV))
   (nD K qt jQ uF)))
def nA(K:aK)(dH:Sp):TS:=
 (bw (bO (aN ρ Δ (aN ο (ak 2) (aN ρ (aN (ir λi j=>.int (i - j)) (mH (G.jg K) (aj Γ aM)) Δ) υ))) (aO 3))
   (bw (cZ (RJ (tB (bW dH [] E0 (aj (aN (Dv) Γ (gY (aj (tC (.str "")) aM))) (aj (Zjb [((mH (G.jg K) (aj Γ aM)),(tC (.str "form")))]) aM))))) (cC (tC (.bl false))) bV)
   (cC (bW dH [] E0 (aj (aN (Dv) (aN (Dv) (RG (Qe K) Γ gR (mF (ak 3))) (gY (aj (tC (.str "")) aM))) (RG (Qe K) Γ (mF (ak 3)) gR)) (aj (Zjb [((ak 3),(tC (.str "form")))]) aM))))))
def uL(K:aK)(jQ:Sp):TS:=
 (bw (bO (tC (.str "abcdefghijklmnopqrstuvwxyz")) (aO 1))
   (bw (bO (gY (aj (tC (.str "room 9")) (aj (tC (.str "kind last")) aM))) (aO 2))
   (bw (cZ (bJ (aN (G.Zdb K true) (bW jQ [] E0 (aj (xq K "str" (G.kZ K) (tC (.str "\n")) (aj (aN (Dv) (ak 2) (gY (aj (tC (.str "weave")) aM))) aM)) aM)) (fU (aj (tC (.str "form")) (aj (tC (.int 3)) aM))))) (cC (tC (.bl false))) bV)
   (bw (zR (El (aj (tC (.int 5)) aM)) (aO 3)
   (pR (xq K "list" mW (ak 2) (aj (aN (G.dN) (aN (G.dN) (tC (.str "hand ")) (aN (Zda) Δ (aN ο (aN ρ Γ (ak 3)) (tC (.int 26))))) (tC (.str " 4"))) aM))))
   (bw (cZ (bJ (aN (G.Zdb K true) (bW jQ [] E0 (aj (xq K "str" (G.kZ K) (tC (.str "\n")) (aj (aN (Dv) (ak 2) (gY (aj (tC (.str "weave")) aM))) aM)) aM)) (fU (aj (tC (.str "good")) (aj ω aM))))) (cC (tC (.bl false))) bV)
   (bw (pR (xq K "list" mW (ak 2) (aj (aN (G.dN) (aN (G.dN) (tC (.str "hand ")) (aN (Zda) Δ (aN ο (aN ρ Γ (aN ο (aN τ Γ (tC (.int 26))) (tC (.int 7)))) (tC (.int 26))))) (tC (.str " 4"))) aM)))
   (cC (aN (G.Zdb K false) (bW jQ [] E0 (aj (xq K "str" (G.kZ K) (tC (.str "\n")) (aj (aN (Dv) (ak 2) (gY (aj (tC (.str "weave")) aM))) aM)) aM)) (fU (aj (tC (.str "form")) (aj (tC (.int 8)) aM)))))))))))
def vY(K:aK)(dH:Sp):TS:=
 (bw (cZ (bJ (aN (lH) (aN ο (aN τ Δ (tC (.int 35))) (tC (.int 8))) av)) (bw (bO (RG (Qe K) (ak 3) gR (mF (aN ο Δ (ak 4)))) (aO 3))
   (Vk (ak 8) (mH (G.jg K) (aj (ak 3) aM)) (tC (.str "form")))) bV)
   (cC (bW dH [] E0 (aj (ak 3) (aj (ak 8) aM)))))
def vZ(K:aK)(dH cT eY dY:Sp):TS:=
 (bw (zR (El (aj (aN ρ υ (aN ο (aN τ Δ (tC (.int 35))) (tC (.int 4)))) aM)) (aO 5)
   (bw (bO (bW cT [] E0 (aj Γ (aj (aN ρ av (aN Ψ (tC (.int 3)) (ak 5))) aM))) (aO 6))
   (bw (bO (aN ο (aN ο (aN Ψ (aN ρ (aN ρ (ak 6) (aN Ψ (tC (.int 41)) (ak 5))) (tC (.int 3))) (tC (.int 16807))) (tC (.int 6133))) (mH (G.jg K) (aj (ak 3) aM))) (aO 9))
   (bw (bO (aN ο (aN Ψ (aN ρ (aN ρ (ak 6) (aN Ψ (tC (.int 23)) (ak 5))) υ) (tC (.int 69621))) (tC (.int 5003))) (aO 10))
   (bw (cZ (bJ (aN (ir λi j=>.bl (decide (i<j))) (ak 9) (ak 4))) (bO (bW eY [] E0 (aj (ak 2) (aj (ak 10) (aj (ak 9) aM)))) (Yn K 2 (pZ (aO 11) (pZ (aO 12) Yo)))) (bO (bW dY [] E0 (aj (aN (fM K) (ak 7) (aN (ir λi j=>.int (i - j)) (ak 9) (ak 4))) (aj (ak 2) (aj (ak 10) (aj (ak 6) aM))))) (Yn K 2 (pZ (aO 11) (pZ (aO 12) Yo)))))
   (bw (Vk (ak 8) (ak 9) (ak 11))
   (bO (ak 12) (Jg (ak 3) (ak 9) xr))))))))
   (vY K dH))
def yx(K:aK)(dH cT iR eY dY rM:Sp):TS:=
 (bw (cZ ((tOr (RJ (tB (bW dH [] E0 (aj (ak 3) (aj (ak 8) aM))))) (bJ (aN (MT) (mH (G.jg K) (aj (RK K (bW rM [] E0 (aj (xq K "str" (G.kZ K) (tC (.str "\n")) (aj (ak 3) aM)) aM)) "rows") aM)) (mH (G.jg K) (aj (ak 7) aM)))))) (cC (tC (.bl false))) bV)
   (bw (cZ (RJ (tB (bW iR [] E0 (aj (ak 3) (aj (ak 4) (aj (bW cT [] E0 (aj Γ (aj av aM))) aM)))))) (cC (tC (.bl false))) bV)
   (vZ K dH cT eY dY)))
def yz(K:aK)(dH cT iR eY uG dY rM:Sp):TS:=
 (bw (cZ (RJ (tB (bW uG [] E0 (aj (bW cT [] E0 (aj Γ (aj υ aM))) aM)))) (cC (tC (.bl false))) bV)
   (bw (cZ (bJ (aN (lH) (aN ο (aN τ Δ (tC (.int 35))) (tC (.int 16))) υ)) (bw (cZ (bJ (aN (lH) (aN ο Δ av) υ)) (Vk (ak 8) (aN ρ (ak 4) (tC (.int 400))) (tC (.str "form"))) bV)
   (cC (bW dH [] E0 (aj (aN (Dv) (RG (Qe K) (ak 3) gR (mF (ak 4))) (aN (Zro) (gY (aj (tC (.str "sweep 7")) aM)) (aN ρ (tC (.int 400)) (aN ο Δ av)))) (aj (ak 8) aM))))) bV)
   (yx K dH cT iR eY dY rM)))
def Zd9(K:aK)(dH cT iR Gn eY Px KY uG jX dY rM:Sp):TS:=
 (bw (bO (aN ο (aN Ψ (aN ρ (bW cT [] E0 (aj Γ (aj ω aM))) (tC (.int 13))) (tC (.int 48271))) (tC (.int 7919))) (aO 1))
   (bw (bO (bW Gn [] E0 (aj Δ (aj (bW cT [] E0 (aj Γ (aj υ aM))) aM))) (aO 2))
   (bw (bO (bW KY [] E0 (aj Γ (aj (ak 2) aM))) (aO 3))
   (bw (bO (mH (G.jg K) (aj (ak 3) aM)) (aO 4))
   (bw (bO (G.Ws K (G.Zlr K (aj (RG (Qe K) Γ (mF (tC (.int 3))) (mF (tC (.int 43)))) aM)) [2] G.oO (bW Px [] E0 (aj Δ (aj Γ (aj (ak 2) aM))))) (aO 7))
   (bw (bO (aN (Dv) (ak 3) (G.tLC (Em K (ak 7)) [2] G.oO (bW jX [] E0 (aj Γ (aj Δ aM))))) (aO 3))
   (bw (bO (Zjc) (aO 8))
   (yz K dH cT iR eY uG dY rM))))))))
def dJ(t signs:Str)(most:Int):Bool:=decide (1<=(t.length:Int)) && (decide ((t.length:Int)<=most) && t.cps.toList.all λc=>decide (c∈signs.cps.toList))
def Zng:Sp:=λvs H Q _=>∃t signs most,vs=[.str t,.str signs,.int most]/\t.length<=100000/\∀H',bD H H'->Q (.bl (dJ t signs most)) H'
section
variable {K:aK}{H:Hp}{Q:VK}{n:ν}{bk ct:ν}
theorem Zsa{t signs:Str}{most:Int}(hl:t.length<=100000)(h:∀H',bD H H'->Q (.bl (dJ t signs most)) H'):vW K ξ [some (.str t),some (.str signs),some (.int most)] H:=by
 unfold vW;unfold dJ at h;apply Zlq (cB δ) ?_;apply iM (λh1=>?_) (λh1=>?_)
 ·ext;rw[decide_eq_true h1]at h;refine iM (λh2=>?_) (λh2=>?_)
  ·rw[decide_eq_true h2]at h;apply Zve (z:=t) (λc=>.bl (decide (c∈signs.cps.toList))) (λk hk=>?_) (Nat.lt_of_le_of_lt hl ε) (λc k hk=>?_) λp hp=>?_
   ·apply hk
   ·show aN Znu Γ Δ [some (.str ⟨#[c]⟩),some (.str signs)] H k;apply hk
   ·ext;have e:t.cps.toList.map (λc=>V.bl (decide (c∈signs.cps.toList)))=(t.cps.toList.map λc=>decide (c∈signs.cps.toList)).map V.bl:=by rw[List.map_map];rfl
    rw[e];refine Zvu (cN.of az) ?_;have e2:((t.cps.toList.map λc=>decide (c∈signs.cps.toList)).all id)=t.cps.toList.all λc=>decide (c∈signs.cps.toList):=by rw[List.all_map];rfl
    rw[e2];exact h _ (aG hp _)
  ·rw[decide_eq_false h2]at h;exact h _ (bD.refl _)
 ·rw[decide_eq_false h1]at h;apply h _ (bD.refl _)
end
section
variable {K:aK}{bR cH cG bK aU bh bf bA aZ aY aX bz aW aV aP aq aF aD aC:AJ}{H:Hp}{Q:VK}{E:XK}{n:ν}{bk ct:ν}
theorem ZF9{a:AJ}{ns:AF}{k:Int}(hS:cN K H a (List.map V.int ns))(h0:0<=k)(h:∀z:Int,Q (.int z) H):mV K ξ [↑a,some (.int k)] H:=by
 unfold mV;apply gZ hS ?_;apply iM (λh1=>?_) (λh1=>?_)
 ·ext;rw[bF]at h1;have hk:k.toNat<ns.length:=δ
  have ek:k=((k.toNat:Nat):Int):=δ
  have q:CW (ns.map V.int) ((k.toNat:Nat):Int)=some (.int ns[k.toNat]):=pN (by rw[fY,dF hk]<;>rfl);rw[<- ek]at q;exact cV hS q (h _)
 ·apply h _
end
def Zto:Str:="0123456789"
def Dig(t:Str):Prop:=∀c∈t.cps.toList,48<=c/\c<=57
instance (t:Str):Decidable (Dig t):=inferInstanceAs (Decidable (∀c∈t.cps.toList,48<=c/\c<=57))
def pQ(t:Str):AB:=if (1<=t.length/\t.length<=60/\¬ (t.cps.toList[0]? =some 48/\1<t.length))/\Dig t then some (Yw t.cps.toList)else none
def vO:AB->V
 | none=>.non
 | some v=>.int v
def over(v:Int):V->Bool
 | .int m=>decide (m<v)
 | _=>false
def qX(t:Str)(most:V):AB:=match pQ t with
 | none=>none
 | some v=>if over v most=true then none else some v
def Zra:Sp:=λvs H Q _=>∃t most,vs=[.str t,most]/\t.length<=100000/\(most=.non\/∃m,most=.int m)/\∀H',bD H H'->Q (vO (qX t most)) H'
section
variable {K:aK}{H:Hp}{Q:VK}{n:ν}{bk ct:ν}
theorem UW{t:Str}:dJ t Zto 60=true↔1<=t.length/\t.length<=60/\Dig t:=by
 unfold dJ;rw[Bool.and_eq_true,Bool.and_eq_true,decide_eq_true_eq,decide_eq_true_eq,List.all_eq_true];constructor
 ·rintro⟨h1,h2,h3⟩;exact⟨δ,δ,λc hc=>VJ.mp (of_decide_eq_true (h3 c hc))⟩
 ·rintro⟨h1,h2,h3⟩;exact⟨δ,δ,λc hc=>decide_eq_true (VJ.mpr (h3 c hc))⟩
theorem is_zero{t:Str}:t=⟨#[48]⟩↔t.cps.toList[0]? =some 48/\t.length=1:=by
 constructor
 ·rintro rfl;exact⟨rfl,rfl⟩
 ·rintro⟨h1,h2⟩;obtain⟨c⟩:=t;have h3:c.toList.length=1:=by rw[Array.length_toList];exact h2
  have h4:c.toList=[48]:=by
   cases e:c.toList with
   | nil=>rw[e]at h3;cases h3
   | cons a l=>
    cases l with
    | nil=>have h1':c.toList[0]? =some 48:=h1;rw[e]at h1';simp at h1';rw[h1']
    | cons b l=>rw[e]at h3;simp at h3
  have:c=#[48]:=by rw[<- Array.toArray_toList (xs:=c),h4]
  rw[this]
theorem Znb{i:Int}(h:Q (.bl true) H):pJ ξ [some (.int i)] H:=by
 unfold pJ;apply h
theorem Zum{t:Str}{most:V}(hl:t.length<=100000)(hm:most=.non\/∃m,most=.int m)(h:∀H',bD H H'->Q (vO (qX t most)) H'):rO K Zng ξ [some (.str t),some most,none] H:=by
 unfold rO;rw[Zrj];apply⟨t,Zto,60,rfl,hl,λH1 s1=>?_⟩;have h':=h H1 s1;clear h;ext;cases hw:dJ t Zto 60 with
 | false=>
  refine Zg5 ?_;ext;have e:qX t most=none:=by
   unfold qX pQ;rw[if_neg];rintro⟨⟨h1,h2,_⟩,h3⟩;rw[UW.mpr ⟨h1,h2,h3⟩]at hw;cases hw
  rw[e]at h';exact h'
 | true=>
  obtain⟨w1,w2,w3⟩:=UW.mp hw;refine Zg4 ?_;ext;have last:¬ (t.cps.toList[0]? =some 48/\1<t.length)->(bw (bO (mH Zgm (aj Γ aM)) (aO 2))
   (bw (cZ (qp (bJ (aN Z1 Δ (tC .non))) (bJ (aN (ir λi j=>.bl (decide (j<i))) (ak 2) Δ))) (cC (tC .non)) bV) (cC (ak 2)))) ξ [some (.str t),some most,none] H1:=λhz=>by
   have ev:pQ t=some (Yw t.cps.toList):=by
    unfold pQ;rw[if_pos ⟨⟨w1,w2,hz⟩,w3⟩]
   apply Zt5 w1 δ w3 ?_;ext;unfold qX at h';rw[ev]at h';dsimp only at h';rcases hm with rfl | ⟨m,rfl⟩
   ·apply h'
   ·apply iM (λhgt=>?_) (λhgt=>?_)
    ·ext;have eo:over (Yw t.cps.toList) (.int m)=true:=decide_eq_true hgt;rw[eo]at h';exact h'
    ·ext;have eo:over (Yw t.cps.toList) (.int m)=false:=decide_eq_false hgt;rw[eo]at h';exact h'
  refine iM (λz0=>?_) (λz0=>?_)
  ·apply pC (λz1=>?_) (λz1=>?_)
   ·ext;have e:qX t most=none:=by
     unfold qX pQ;rw[if_neg];rintro⟨⟨_,_,h3⟩,_⟩;refine h3 ⟨z0,?_⟩;have:¬ t.length=1:=λe=>z1 (is_zero.mpr ⟨z0,e⟩);omega
    rw[e]at h';exact h'
   ·exact last λz=>by
     have:=(is_zero.mp z1).2;omega
  ·exact last λz=>z0 z.1
end
def oH(t:Str):AB:=if t.cps.toList[0]? =some 45 then(match pQ (ue t (some 1) none)with
 | none=>none
 | some v=>if v=0 then none else some (-v))else pQ t
section
variable {K:aK}{bR cH cG bK aU bh bf bA aZ aY aX bz aW aV aP aq aF aD aC:AJ}{H:Hp}{Q:VK}{E:XK}{n:ν}{bk ct:ν}
theorem Zfp(t:Str):qX t .non=pQ t:=by
 unfold qX;cases pQ t<;>rfl
theorem Zse{t:Str}(hl:t.length<=100000)(h:∀H',bD H H'->Q (vO (oH t)) H'):vX K Zra ξ [some (.str t),none] H:=by
 unfold vX;rw[Zrk];apply pC (λh1=>?_) (λh1=>?_)
 ·apply⟨t,.non,rfl,hl,.inl rfl,λH1 s1=>?_⟩;have e:oH t=pQ t:=by unfold oH;rw[if_neg h1]
  rw[Zfp,<- e];exact h _ s1
 ·apply Zv5 (cB δ) ?_;ext;have lc:=J4 t (some 1) none;refine⟨_,.non,rfl,δ,.inl rfl,λH1 s1=>?_⟩;have h':=h _ s1;unfold oH at h';rw[if_pos h1]at h';rw[Zfp];cases ev:pQ (ue t (some 1) none)with
  | none=>
   rw[ev]at h';dsimp only[vO];apply h'
  | some v=>
   rw[ev]at h';dsimp only at h';dsimp only[vO];apply iM (λz=>?_) (λz=>?_)
   ·ext;rw[if_pos z]at h';exact h'
   ·ext;rw[if_neg z]at h';exact h'
end
def wd(w:Int):Str:=if w=0 then "first" else if w=1 then "each" else "last"
def tl(t:Int):Str:=if t=0 then "" else if t=1 then " old" else if t=2 then " new" else " old new"
def words(w t:Int):Str:=wd w++tl t
theorem Zix(w:Int):(wd w).length<=5:=by
 unfold wd
 by_cases h:w=0
 ·rw[if_pos h];decide
 ·rw[if_neg h]
  by_cases h:w=1
  ·rw[if_pos h];decide
  ·rw[if_neg h];decide
structure KdO(CK CF CE CL:AJ)(H:Hp)(ki lk:AJ)(w t:Int):Prop where
 ok:∃dx,H ki=some (.ins CK dx (JT lk t))
 ol:∃dx,(w=0/\H lk=some (.ins CF dx []))\/(w=1/\H lk=some (.ins CE dx []))\/(w=2/\H lk=some (.ins CL dx []))
def zO(CK CF CE CL:AJ):Sp:=λvs H Q E=>∃z,vs=[.str z]/\z.length<=100/\(∀w t,0<=w->w<3->0<=t->t<4->z=words w t->∀ki lk H',bD H H'->KdO CK CF CE CL H' ki lk w t->Q (.ref ki) H')/\((∀w t,0<=w->w<3->0<=t->t<4->z≠words w t)->∀H',bD H H'->Q .non H')
def rA(v:V):Sp:=λvs H Q E=>∃a,vs=[.ref a]/\Q v H
def Nj(CK CF CE CL:AJ):Sp:=λvs H Q E=>∃ki,vs=[.ref ki]/\∃lk w t,KdO CK CF CE CL H ki lk w t/\0<=t/\t<4/\∀H',bD H H'->Q (.str (words w t)) H'
structure Za(K:aK)(bK aU bh bf bA aZ aY aX bz aW aV aP aq aF aD aC:AJ):Prop where
 Ztv:qd K bh [.str "hand",.str "slot",.str "slot"]
 Ztu:qd K bf [.str "hand",.str "slot"]
 Zw2:qd K bA [.str "hand",.str "slot",.str "slot",.str "field"]
 Ztt:qd K aZ [.str "hand",.str "slot",.str "hand",.str "slot"]
 Zts:qd K aY [.str "hand",.str "slot",.str "many",.str "bulk"]
 Ztr:qd K aX [.str "hand",.str "slot",.str "word"]
 Zw1:qd K bz [.str "hand",.str "slot",.str "field",.str "slot"]
 oK:qd K aW [.str "hand",.str "slot"]
 Ztq:qd K aV [.str "hand",.str "slot",.str "word"]
 Zpr:qd K aP [.str "hand",.str "slot",.str "load"]
 zq:Cz K aq
 lR:Fj K aq "row"
 Zh3:Zez K aq "row"
 Zis:Cz K aF
 uW:Fj K aF "row"
 Ziv:Zez K aF "row"
 Zgx:Cz K aD
 sI:Fj K aD "row"
 Zh2:Zez K aD "row"
 Zgw:Cz K aC
 sH:Fj K aC "row"
 Zh1:Zez K aC "row"
 lB:Y7 K bK
 gm:jD K bK "looking"
 gk:jD K bK "tells"
 qb:Y7 K aU
 Zs7:jD K aU "room"
 Zs8:jD K aU "kind"
 Zom:jD K aU "hands"
 Zkq:jD K aU "rows"
def uD(CK:AJ):Sp:=λvs H Q E=>∃p l t,vs=[.ref p,.ref l,.int t]/\∃dx,H p=some (.ins CK dx [])/\∀H',H' p=some (.ins CK dx (JT l t))->(∀b o,H b=some o->b≠p->H' b=some o)->Q .non H'
section
variable {K:aK}{bR cH cG bK aU bh bf bA aZ aY aX bz aW aV aP aq aF aD aC:AJ}{H:Hp}{Q:VK}{E:XK}{n:ν}{bk ct:ν}
theorem Ui{a:AJ}(q:Q (.str "first") H):uP ξ [↑a] H:=by
 unfold uP;apply q
theorem Y6{a:AJ}(q:Q (.str "each") H):wz ξ [↑a] H:=by
 unfold wz;apply q
theorem YZ{a:AJ}(q:Q (.str "last") H):wu ξ [↑a] H:=by
 unfold wu;apply q
theorem Jv{p l:AJ}{t:Int}(T:Za K bK aU bh bf bA aZ aY aX bz aW aV aP aq aF aD aC)(q:∃dx,H p=some (.ins bK dx [])/\∀H',H' p=some (.ins bK dx (JT l t))->(∀b o,H b=some o->b≠p->H' b=some o)->Q .non H'):
  o8 K ⟨λ_ H'=>Q .non H',Q,bk,ct⟩ [↑p,↑l,some (.int t)] H:=by
 obtain⟨dx,hp,h⟩:=q;unfold o8;exists p,bK,dx,[],rfl,hp,T.lB,T.gm,ε;apply⟨p,bK,dx,_,rfl,az,T.lB,T.gk,by show 1<1000;decide,?_⟩;rw[Wn];refine h _ ?_ λb o hb nb=>?_
 ·rw[az,Zl9]
 ·rw[aQ nb];exact hb
theorem w0{w:Int}(hw:w=0\/w=1\/w=2):words w 0=wd w:=by rcases hw with rfl | rfl | rfl<;>decide +kernel
theorem w3{w:Int}(hw:w=0\/w=1\/w=2):words w 3=(wd w++" old")++" new":=by rcases hw with rfl | rfl | rfl<;>decide +kernel
theorem w3l{w:Int}(hw:w=0\/w=1\/w=2):(wd w++" old":Str).length<=20:=by rcases hw with rfl | rfl | rfl<;>decide +kernel
theorem OJ{p lk:AJ}{dx:AJ}{w t:Int}(hw:w=0\/w=1\/w=2)(T:Za K bK aU bh bf bA aZ aY aX bz aW aV aP aq aF aD aC)(hp:H p=some (.ins bK dx (JT lk t)))(t0:0<=t)(t1:t<4)(q:Q (.str (words w t)) H):
  (bw (cZ (bJ (aN (MT) (aN (ir λi j=>.int (Builtin.bitAnd i j)) (RK K Γ "tells") υ) ω)) (bO (aN (G.dN) Δ (tC (.str " old"))) (aO 1)) bV)
   (bw (cZ (bJ (aN (MT) (aN (ir λi j=>.int (Builtin.bitAnd i j)) (RK K Γ "tells") av) ω)) (bO (aN (G.dN) Δ (tC (.str " new"))) (aO 1)) bV)
   (cC Δ))) ξ [↑p,some (.str (wd w))] H:=by
 have lw:=Zix w;have ht:t=0\/t=1\/t=2\/t=3:=δ
 apply wO hp T.lB T.gk lJ ?_;ext;rcases ht with rfl | rfl | rfl | rfl
 ·refine pC (λz=>absurd ε z) ad;apply wO hp T.lB T.gk lJ ?_;apply pC (λz=>absurd ε z) ad;ext;rw[w0 hw]at q;exact q
 ·refine pC ad (λz=>absurd z ε);apply dh (cB (by have:(" old":Str).length=4:=rfl;omega)) ?_;apply wO hp T.lB T.gk lJ ?_;apply pC (λz=>absurd ε z) ad;apply q
 ·refine pC (λz=>absurd ε z) ad;apply wO hp T.lB T.gk lJ ?_;apply pC ad (λz=>absurd z ε);apply dh (cB (by have:(" new":Str).length=4:=rfl;omega)) ?_;apply q
 ·refine pC ad (λz=>absurd z ε);apply dh (cB (by have:(" old":Str).length=4:=rfl;omega)) ?_;apply wO hp T.lB T.gk lJ ?_;apply pC ad (λz=>absurd z ε);apply dh (cB (by have:(" new":Str).length=4:=rfl;have:=w3l hw;omega)) ?_;ext;rw[w3 hw]at q;exact q
theorem Ue{p:AJ}(T:Za K bK aU bh bf bA aZ aY aX bz aW aV aP aq aF aD aC)(q:∃lk w t,KdO bK bR cH cG H p lk w t/\0<=t/\t<4/\∀H',bD H H'->Q (.str (words w t)) H'):
  uO K cH bR cG (rA (.str "each")) (rA (.str "first")) (rA (.str "last")) ξ [↑p,none] H:=by
 obtain⟨lk,w,t,⟨⟨dx,hp⟩,⟨dl,ol⟩⟩,t0,t1,h⟩:=q;have h:=h H (bD.refl _);unfold uO;refine Zg2 ?_;left;rcases ol with ⟨rfl,o⟩ | ⟨rfl,o⟩ | ⟨rfl,o⟩
 ·refine Zqj ?_;apply wO hp T.lB T.gm pB ?_;left;refine⟨lk,dl,_,rfl,o,rfl,?_⟩;left;refine⟨lk,rfl,?_⟩;left;exact OJ (w:=0) ε T hp t0 t1 h
 ·refine Zlo (Zqj ?_);apply wO hp T.lB T.gm pB ?_;left;refine⟨lk,dl,_,rfl,o,rfl,?_⟩;left;refine⟨lk,rfl,?_⟩;left;exact OJ (w:=1) ε T hp t0 t1 h
 ·refine Zlo (Zlo ?_);apply wO hp T.lB T.gm pB ?_;left;refine⟨lk,dl,_,rfl,o,rfl,?_⟩;left;refine⟨lk,rfl,?_⟩;left;exact OJ (w:=2) ε T hp t0 t1 h
theorem Ze3{z:Str}(T:Za K bK aU bh bf bA aZ aY aX bz aW aV aP aq aF aD aC)(q:z.length<=100/\(∀w t,0<=w->w<3->0<=t->t<4->z=words w t->∀ki lk H',bD H H'->KdO bK bR cH cG H' ki lk w t->Q (.ref ki) H')/\((∀w t,0<=w->w<3->0<=t->t<4->z≠words w t)->∀H',bD H H'->Q .non H')):
  Bw K cH bR bK cG (uD bK) (Nj bK bR cH cG) ξ [some (.str z),none,none,none] H:=by
 obtain⟨hz,h1,h2⟩:=q;unfold Bw;ext;intro af df n1 m1 e1;have s1:bD H (upd (upd H df (.own af)) af (.ins bR df [])):=λb o hb=>by rw[aQ (bI hb n1),aQ (bI hb m1)];exact hb
 have o1:upd (upd H df (.own af)) af (.ins bR df []) af=some (.ins bR df []):=az;generalize upd (upd H df (.own af)) af (.ins bR df [])=H1 at s1 o1 ⊢;ext;intro ae de n2 m2 e2;have s2:bD H1 (upd (upd H1 de (.own ae)) ae (.ins cH de [])):=λb o hb=>by rw[aQ (bI hb n2),aQ (bI hb m2)];exact hb
 have o2:upd (upd H1 de (.own ae)) ae (.ins cH de []) ae=some (.ins cH de []):=az;generalize upd (upd H1 de (.own ae)) ae (.ins cH de [])=H2 at s2 o2 ⊢;ext;intro al dl n3 m3 e3;have s3:bD H2 (upd (upd H2 dl (.own al)) al (.ins cG dl [])):=λb o hb=>by rw[aQ (bI hb n3),aQ (bI hb m3)];exact hb
 have o3:upd (upd H2 dl (.own al)) al (.ins cG dl []) al=some (.ins cG dl []):=az;generalize upd (upd H2 dl (.own al)) al (.ins cG dl [])=H3 at s3 o3 ⊢;apply⟨cB ζ,λlp hlp=>?_⟩;generalize zz:upd H3 lp _=H4;obtain⟨s4,g4⟩:=nwO hlp zz;have of4:=s4 _ _ (s3 _ _ (s2 _ _ o1));have oe4:=s4 _ _ (s3 _ _ o2);have ol4:=s4 _ _ o3;have s04:=s1.trans (s2.trans (s3.trans s4));have lko:∀{i:Nat}{x:V},([.ref af,.ref ae,.ref al]:List V)[i]? =some x->i<3/\∃lk,x=.ref lk/\∃dx,((i:Int)=0/\H4 lk=some (.ins bR dx []))\/((i:Int)=1/\H4 lk=some (.ins cH dx []))\/((i:Int)=2/\H4 lk=some (.ins cG dx [])):=by
  intro i x hx
  match i,hx with
  | 0,hx=>cases hx;exact⟨δ,af,rfl,df,.inl ⟨rfl,of4⟩⟩
  | 1,hx=>cases hx;exact⟨δ,ae,rfl,de,.inr (.inl ⟨rfl,oe4⟩)⟩
  | 2,hx=>cases hx;exact⟨δ,al,rfl,dl,.inr (.inr ⟨rfl,ol4⟩)⟩
  | k+3,hx=>cases hx
 clear s1 s2 s3 s4 of4 oe4 ol4;refine⟨lp,rfl,⟨_,cN.of g4⟩,forL [.ref af,.ref ae,.ref al] (λi σ Hx=>∃v1 v2 v3,σ=[some (.str z),v1,v2,v3]/\bD H4 Hx/\∀(w:Nat) (t:Int),w<i->0<=t->t<4->z≠words w t) ⟨_,_,_,rfl,bD.refl _,λw t hw=>absurd hw (Nat.not_lt_zero _)⟩ (λ_ _ _ _ ⟨_,_,_,_,s,_⟩=>cN.of (s _ _ g4)) ?_ ?_⟩
 ·rintro i x σ H5 hi ⟨v1,v2,v3,rfl,s5,hn⟩;obtain⟨hi3,lk,rfl,dlk,ol⟩:=lko hi;exists 4,rfl,δ,δ;refine forR (λk σ Hx=>∃v2 v3,σ=[some (.str z),↑lk,v2,v3]/\bD H4 Hx/\∀(t:Int),0<=t->t<k->z≠words i t) ⟨_,_,rfl,s5,λt h0 h1=>absurd h1 δ⟩ ?_ ?_
  ·rintro k σ H6 hk ⟨v2,v3,rfl,s6,hn2⟩;have hk4:k<4:=hk;have e0:(0:Int)+(k:Int)=k:=δ
   rw[e0];ext;intro p dx np ndx ned;refine⟨p,lk,k,rfl,dx,az,λH7 k1 k2=>⟨rfl,?_⟩⟩;have s7:bD H6 H7:=λb o hb=>by
    refine k2 b o ?_ (bI hb np);rw[aQ (bI hb np),aQ (bI hb ndx)];exact hb
   have kd:KdO bK bR cH cG H7 p lk i k:=⟨⟨dx,k1⟩,⟨dlk,by
    rcases ol with ⟨e,o⟩ | ⟨e,o⟩ | ⟨e,o⟩
    ·exact .inl ⟨e,s7 _ _ (s6 _ _ o)⟩
    ·exact .inr (.inl ⟨e,s7 _ _ (s6 _ _ o)⟩)
    ·exact .inr (.inr ⟨e,s7 _ _ (s6 _ _ o)⟩)⟩⟩
   exists p,dx,_,rfl,k1,Qw;apply⟨p,rfl,lk,i,k,kd,δ,δ,λH8 s8=>?_⟩;apply iM (λe=>?_) (λe=>?_)
   ·apply h1 i k δ δ δ δ e.symm p lk _ (s04.trans (s6.trans (s7.trans s8))) ⟨⟨dx,s8 _ _ k1⟩,?_⟩;obtain⟨_,⟨d,od⟩⟩:=kd;refine⟨d,?_⟩;rcases od with ⟨e,o⟩ | ⟨e,o⟩ | ⟨e,o⟩
    ·exact .inl ⟨e,s8 _ _ o⟩
    ·exact .inr (.inl ⟨e,s8 _ _ o⟩)
    ·exact .inr (.inr ⟨e,s8 _ _ o⟩)
   ·apply⟨_,_,rfl,s6.trans (s7.trans s8),λt t0 t1=>?_⟩
    by_cases ht:t=k
    ·rw[ht];exact λw=>e w.symm
    ·exact hn2 t t0 δ
  ·rintro σ H3 ⟨v2,v3,rfl,s3,hn2⟩;refine⟨_,_,_,rfl,s3,λw t hw t0 t1=>?_⟩
   by_cases hwi:w=i
   ·rw[hwi];exact hn2 t t0 t1
   ·exact hn w t δ t0 t1
 ·rintro σ H2 ⟨v1,v2,v3,rfl,s2,hn⟩;apply h2 (λw t w0 w1 t0 t1=>?_) _ (s04.trans s2);have:=hn w.toNat t (by show w.toNat<3;omega) t0 t1;have e:((w.toNat:Nat):Int)=w:=δ
  rw[e]at this;exact this
end
def CJ:Sp:=λvs H Q E=>∃t signs most,vs=[.str t,.str signs,.int most]/\t.length<=100000/\∀H',bD H H'->Q (.bl (dJ t signs most)) H'
def Bf:Sp:=λvs H Q E=>∃t most,vs=[.str t,most]/\t.length<=100000/\(most=.non\/∃m,most=.int m)/\∀H',bD H H'->Q (vO (qX t most)) H'
def letters:Str:="abcdefghijklmnopqrstuvwxyz"
def CG:Sp:=λvs H Q E=>∃t,vs=[.str t]/\t.length<=100000/\∀H',bD H H'->Q (.bl (dJ t letters 12)) H'
def Ud(K:aK):Sp:=λvs H Q E=>∃a k,vs=[.ref a,.int k]/\∃ns:AF,cN K H a (ns.map V.int)/\0<=k/\∀z:Int,Q (.int z) H
def Fq:Sp:=λvs H Q E=>∃i,vs=[.int i]/\Q (.bl true) H
section
variable {K:aK}{bR cH cG bK aU bh bf bA aZ aY aX bz aW aV aP aq aF aD aC:AJ}{H:Hp}{Q:VK}{E:XK}{n:ν}{bk ct:ν}
theorem Zdu{t signs:Str}{most:Int}(q:t.length<=100000/\∀H',bD H H'->Q (.bl (dJ t signs most)) H'):vW K ξ [some (.str t),some (.str signs),some (.int most)] H:=Zsa q.1 q.2
theorem Xi{t:Str}{most:V}(q:t.length<=100000/\(most=.non\/∃m,most=.int m)/\∀H',bD H H'->Q (vO (qX t most)) H'):rO K CJ ξ [some (.str t),some most,none] H:=Zum q.1 q.2.1 q.2.2
theorem Ze5{t:Str}(q:t.length<=100000/\∀H',bD H H'->Q (.bl (dJ t letters 12)) H'):By CJ ξ [some (.str t)] H:=by
 unfold By;apply⟨t,letters,12,rfl,q.1,q.2⟩
theorem Mx{a:AJ}{k:Int}(q:∃ns:AF,cN K H a (ns.map V.int)/\0<=k/\∀z:Int,Q (.int z) H):mV K ξ [↑a,some (.int k)] H:=by
 obtain⟨ns,h1,h2,h3⟩:=q;exact ZF9 h1 h2 h3
theorem T8{i:Int}(q:Q (.bl true) H):pJ ξ [some (.int i)] H:=Znb q
end
def YW:Sp:=λvs H Q E=>∃t,vs=[.str t]/\t.length<=100000/\∀H',bD H H'->Q (vO (oH t)) H'
section
variable {K:aK}{bR cH cG bK aU bh bf bA aZ aY aX bz aW aV aP aq aF aD aC:AJ}{H:Hp}{Q:VK}{E:XK}{n:ν}{bk ct:ν}
theorem Zdv{t:Str}(q:t.length<=100000/\∀H',bD H H'->Q (vO (oH t)) H'):vX K Bf ξ [some (.str t),none] H:=Zse q.1 q.2
end
def tS(i:Int):Str:=Str.ofString (toString i)
theorem wN{w:Str}:∀l:AI,inV (.str w) (l.map V.str)=decide (w∈l)
 | []=>by simp[inV]
 | x::l=>by
  have ih:=wN (w:=w) l;unfold inV at ih ⊢;rw[List.map_cons,List.any_cons,ih];show(x == w || _)=_
  by_cases e:x=w
  ·subst e;simp
  ·have:(x == w)=false:=by simpa using e
   rw[this];have e2:¬ w=x:=λz=>e z.symm;simp[e2]
theorem Ez(l:AI):(l.map V.str).all jE=true:=by
 rw[List.all_map,List.all_eq_true];intro x _;rfl
theorem Ziz:∀(r:List Nat) (a:Nat),(∀c∈r,48<=c/\c<=57)->r.foldl (λacc c=>acc * 10+(c - 48)) a<(a+1) * 10 ^ r.length
 | [],a,_=>ζ
 | c::r,a,h=>by
  have hc:=h c List.mem_cons_self;have ih:=Ziz r (a * 10+(c - 48)) (λd hd=>h d (List.mem_cons_of_mem _ hd));rw[List.foldl_cons,List.length_cons,Nat.pow_succ];have:(a * 10+(c - 48)+1) * 10 ^ r.length<=((a+1) * 10) * 10 ^ r.length:=Nat.mul_le_mul_right _ δ;have e:(a+1) * (10 ^ r.length * 10)=((a+1) * 10) * 10 ^ r.length:=by rw[Nat.mul_comm (10 ^ r.length) 10,Nat.mul_assoc]
  omega
theorem Ztw(m:Nat):∀c∈(Nat.toDigits 10 m).map Char.toNat,48<=c/\c<=57:=by
 intro c hc;obtain⟨ch,hch,e⟩:=List.mem_map.mp hc;have r:=PyProof.Rows.digit_range (Nat.isDigit_of_mem_toDigits ε ε hch);rw[<- e];exact r
theorem Zt{t:Str}{m:Nat}(e:t.cps.toList=(Nat.toDigits 10 m).map Char.toNat)(h1:m<10 ^ 60):pQ t=some (m:Int):=by
 have hd:=Ztw m;have hl:t.length=(Nat.toDigits 10 m).length:=by rw[<- str_len,e,bF]
 have h60:=(Nat.length_toDigits_le_iff (n:=m) (b:=10) (k:=60) ε ε).mpr h1;have hp:=Nat.length_toDigits_pos (b:=10) (n:=m);have hb:=W.KIN.val_back m;unfold pQ;have dg:Dig t:=by unfold Dig;rw[e];exact hd
 have nz:¬ (t.cps.toList[0]? =some 48/\1<t.length):=by
  rintro⟨z1,z2⟩;rw[e]at z1;generalize hc:(Nat.toDigits 10 m).map Char.toNat=cs at *;have hcl:cs.length=(Nat.toDigits 10 m).length:=by rw[<- hc,bF]
  cases cs with
  | nil=>cases z1
  | cons c r=>
   have z1:some c=some 48:=z1;cases z1;have b1:=Ziz r 0 (λd hd'=>hd d (List.mem_cons_of_mem _ hd'));have hb:NumText.digitsVal (48::r)=m:=hb;have hb2:r.foldl (λacc c=>acc * 10+(c - 48)) 0=m:=hb;rw[hb2]at b1;have b2:=(Nat.length_toDigits_le_iff (n:=m) (b:=10) (k:=r.length) ε (by rw[List.length_cons]at hcl;omega)).mpr δ;rw[List.length_cons]at hcl;omega
 rw[if_pos ⟨⟨δ,δ,nz⟩,dg⟩];rw[e];have:=Zbb _ hd 0;unfold Yw;rw[show((0:Int))=((0:Nat):Int)from rfl,this];show some (((NumText.digitsVal _:Nat):Int))=_;rw[hb]
theorem zy{i:Int}(h0:0<=i)(h1:i<10 ^ 60):pQ (tS i)=some i:=by
 obtain⟨m,rfl⟩:=Int.eq_ofNat_of_zero_le h0;exact Zt (W.KIN.signs_num m) δ
theorem Zdq(m:Nat):(tS (-((m+1:Nat):Int))).cps.toList=45::(Nat.toDigits 10 (m+1)).map Char.toNat:=by
 unfold tS;rw[PyProof.Rows.signs_ofString,Int.toString_eq_repr,Int.repr_eq_if];rw[if_neg δ,String.toList_append,Nat.toList_repr,List.map_append];have e:(-((m+1:Nat):Int)).natAbs=m+1:=δ
 first | rw[e] | rw[show(- -((m+1:Nat):Int)).toNat=m+1 from δ]
 rfl
theorem Zkz{i:Int}(h0:-(10 ^ 60)<i)(h1:i<10 ^ 60):oH (tS i)=some i:=by
 by_cases hi:0<=i
 ·have e:=zy hi h1;obtain⟨m,rfl⟩:=Int.eq_ofNat_of_zero_le hi;unfold oH;rw[if_neg,e];intro z;have z:(Str.ofString (toString ((m:Nat):Int))).cps.toList[0]? =some 45:=z;rw[W.KIN.signs_num]at z;have:=Ztw m 45 (List.mem_of_getElem? z);omega
 ·obtain⟨m,rfl⟩:∃m:Nat,i=-((m+1:Nat):Int):=⟨(-i).toNat - 1,δ⟩;have ec:=Zdq m;have e2:(ue (tS (-((m+1:Nat):Int))) (some 1) none).cps.toList=(Nat.toDigits 10 (m+1)).map Char.toNat:=by
   have hl:(tS (-((m+1:Nat):Int))).length=(Nat.toDigits 10 (m+1)).length+1:=by rw[<- str_len,ec,List.length_cons,bF]
   unfold ue;rw[ec];have x1:HT.fO (tS (-((m+1:Nat):Int))).length 0 (some 1)=1:=by rw[hl];unfold HT.fO;simp;try omega
   have x2:HT.fO (tS (-((m+1:Nat):Int))).length (tS (-((m+1:Nat):Int))).length none=(tS (-((m+1:Nat):Int))).length:=rfl;rw[x1,x2,hl];simp only[List.drop_succ_cons,List.drop_zero,Nat.add_sub_cancel];rw[List.take_of_length_le (by rw[bF];exact Nat.le_refl _)]
  have e3:=Zt e2 δ;unfold oH;rw[if_pos (by rw[ec];rfl),e3];show(if ((m+1:Nat):Int)=0 then none else some (-((m+1:Nat):Int)))=_;rw[if_neg δ]
theorem yR(c:Nat):∀{ps:AI},ps≠[]->(jl c ps).length+1=(ps.map (·.length)).sum+ps.length
 | [],h=>absurd rfl h
 | [x],_=>by simp[jl,<- str_len]
 | x::y::r,_=>by
  have ih:=yR c (ps:=y::r) ζ;show(x.cps.toList++c::jl c (y::r)).length+1=_;rw[List.length_append,List.length_cons,str_len,List.map_cons,List.sum_cons,List.length_cons (as:=y::r)];omega
theorem zK(c:Nat)(p:Str):∀{ps:AI},ps≠[]->jl c (ps++[p])=jl c ps++c::p.cps.toList
 | [],h=>absurd rfl h
 | [x],_=>rfl
 | x::y::r,_=>by
  have ih:=zK c p (ps:=y::r) ζ;show x.cps.toList++c::jl c ((y::r)++[p])=(x.cps.toList++c::jl c (y::r))++c::p.cps.toList;rw[ih,List.append_assoc];rfl
theorem join_snoc{ps:AI}{p:Str}(h:ps≠[]):Str.join ⟨#[32]⟩ (ps++[p])=Str.join ⟨#[32]⟩ ps++⟨#[32]⟩++p:=by
 refine lU ?_;rw[dR,zK 32 p h,PyProof.Rows.cps_toList_append,PyProof.Rows.cps_toList_append,dR,List.append_assoc];rfl
theorem Zsd{i:Int}(h0:-(10 ^ 60)<i)(h1:i<10 ^ 60):i.natAbs.log2<1920:=by
 by_cases e:i.natAbs=0
 ·rw[e];decide
 ·exact(Nat.log2_lt e).mpr (Nat.lt_trans (show i.natAbs<10 ^ 60 by omega) ε)
def iD:Str:=⟨#[32]⟩
def xQ:Str:=⟨#[10]⟩
def cX:Str:="sweep"
def oN(t:Str):Prop:=dJ t letters 12=true/\t≠cX
def hdT(x:Str×Int):Str:=("hand ":Str)++x.1++(" ":Str)++tS x.2
def oM(hs:List π):Prop:=1<=hs.length/\hs.length<=5/\(hs.map (·.1)).Nodup/\∀x∈hs,oN x.1/\3<=x.2/\x.2<=9
def HL(H:Hp)(l:AJ)(hs:List π):Prop:=∃as:AG,H l=some (.lst (as.map V.ref))/\as.length=hs.length/\∀(i:Nat) a,as[i]? =some a->∃x,hs[i]? =some x/\H a=some (.tup [.str x.1,.int x.2])
def cP(m w t:Int)(hs:List π):AI:=(("room ":Str)++tS m)::(("kind ":Str)++words w t)::(hs.map hdT++[("weave":Str)])
theorem HL.same{H H1:Hp}{l:AJ}{hs:List π}(h:HL H l hs)(s:bD H H1):HL H1 l hs:=by
 obtain⟨as,h1,h2,h3⟩:=h;exact⟨as,s _ _ h1,h2,λi a ha=>let ⟨x,e,q⟩:=h3 i a ha;⟨x,e,s _ _ q⟩⟩
theorem Zl3:∀c∈letters.cps.toList,97<=c/\c<=122:=γ
theorem oN.let{t:Str}(h:oN t):(1<=t.length/\t.length<=12)/\∀c∈t.cps.toList,97<=c/\c<=122:=by
 have h:=h.1;unfold dJ at h;rw[Bool.and_eq_true,Bool.and_eq_true]at h;have h1:=of_decide_eq_true h.1;have h2:=of_decide_eq_true h.2.1;refine⟨⟨δ,δ⟩,λc hc=>?_⟩;have:=List.all_eq_true.mp h.2.2 c hc;exact Zl3 c (of_decide_eq_true this)
theorem oN.free{t:Str}(h:oN t)(k:Nat)(hk:k<97):k∉t.cps.toList:=λz=>by
 have:=h.let.2 k z;omega
theorem nR(k:Nat)(hk:k≠45/\(k<48\/57<k))(i:Int):k∉(tS i).cps.toList:=PyProof.Rows.int_text_free' k hk i
theorem Zh{w t:Int}(w0:0<=w)(w1:w<3)(t0:0<=t)(t1:t<4):10∉(words w t).cps.toList/\(words w t).length<=20:=by
 have hw:w=0\/w=1\/w=2:=δ
 have ht:t=0\/t=1\/t=2\/t=3:=δ
 rcases hw with rfl | rfl | rfl<;>rcases ht with rfl | rfl | rfl | rfl<;>decide +kernel
theorem bL(a b:Str):(a++b).cps.toList=a.cps.toList++b.cps.toList:=PyProof.Rows.cps_toList_append a b
theorem cO(a b:Str):(a++b).length=a.length+b.length:=by rw[<- str_len,bL,List.length_append,str_len,str_len]
theorem Bj{i:Int}(h0:0<=i)(h1:i<10 ^ 60):(tS i).length<=61:=(M7 h0 (Int.lt_trans h1 ε)).2
theorem Zd7(m:Int):Txt.split (("room ":Str)++tS m) iD=[("room":Str),tS m]:=by
 have e:("room ":Str)++tS m=Str.join ⟨#[32]⟩ [("room":Str),tS m]:=by
  refine lU ?_;rw[dR,bL];rfl
 rw[e];exact nq ζ (λp hp=>by
  rcases List.mem_cons.mp hp with rfl | hp
  ·decide
  ·rw[List.mem_singleton.mp hp];exact nR 32 ⟨ε,ε⟩ m)
theorem Zeb{x:Str×Int}(h:oN x.1):Txt.split (hdT x) iD=[("hand":Str),x.1,tS x.2]:=by
 have e:hdT x=Str.join ⟨#[32]⟩ [("hand":Str),x.1,tS x.2]:=by
  refine lU ?_;unfold hdT;rw[dR,bL,bL,bL];show _=("hand":Str).cps.toList++32::(x.1.cps.toList++32::(tS x.2).cps.toList);rw[List.append_assoc,List.append_assoc];rfl
 rw[e];exact nq ζ (λp hp=>by
  rcases List.mem_cons.mp hp with rfl | hp
  ·decide
  rcases List.mem_cons.mp hp with rfl | hp
  ·exact h.free 32 ε
  ·rw[List.mem_singleton.mp hp];exact nR 32 ⟨ε,ε⟩ x.2)
theorem Ze2(z:Str):Txt.split (("kind ":Str)++z) iD=("kind":Str)::Txt.split z iD:=by
 have hn:Txt.split z iD≠[]:=λq=>by
  have:=PyProof.Rows.split_pos z iD;rw[q]at this;cases this
 have e:("kind ":Str)++z=Str.join ⟨#[32]⟩ (("kind":Str)::Txt.split z iD):=by
  refine lU ?_;have j:=StrLaws.join_split z iD;rw[dR,bL];cases hs:Txt.split z iD with
  | nil=>exact absurd hs hn
  | cons y r=>
   rw[hs]at j;have j2:jl 32 (y::r)=z.cps.toList:=by rw[<- dR];exact congrArg (λq:Str=>q.cps.toList) j
   show _=("kind":Str).cps.toList++32::jl 32 (y::r);rw[j2];rfl
 rw[e];exact nq ζ (λp hp=>by
  rcases List.mem_cons.mp hp with rfl | hp
  ·decide
  ·exact StrLaws.split_free z 32 p hp)
theorem Zm2{x:Str×Int}(h:oN x.1):10∉(hdT x).cps.toList:=by
 unfold hdT;rw[bL,bL,bL];intro z;rcases List.mem_append.mp z with z | z
 ·rcases List.mem_append.mp z with z | z
  ·rcases List.mem_append.mp z with z | z
   ·exact absurd z ε
   ·exact h.free 10 ε z
  ·exact absurd z ε
 ·exact nR 10 ⟨ε,ε⟩ x.2 z
theorem Zpd{x:Str×Int}(h:oN x.1)(h0:0<=x.2)(h1:x.2<10):(hdT x).length<=100:=by
 unfold hdT;have:=h.let.1;have:=Bj h0 (Int.lt_trans h1 ε);rw[cO,cO,cO];show 5+_+1+_<=_;omega
theorem Zen{α β:Type}(f:α->β):∀xs:List α,(List.range xs.length).filterMap (λi=>(xs[i]?).map f)=xs.map f
 | []=>rfl
 | x::xs=>by
  rw[List.length_cons,List.range_succ_eq_map,List.filterMap_cons];simp only[List.getElem?_cons_zero,Option.map_some,List.map_cons,List.filterMap_map];congr 1;exact Zen f xs
def nO:List (Str×V):=[("slot",.int 999),("field",.int 999),("many",.int 8),("bulk",.int 1000000000000)]
def bZ:Str:="hand"
def jO:Str:="load"
def rF:Str:="word"
def cM:Str:="slot"
def jy:List (Str×AI):=[("make",["hand","slot","many","bulk"]),("get",["hand","slot","slot","field"]),("put",["hand","slot","field","slot"]),("copy",["hand","slot","slot"]),("drop",["hand","slot"]),("give",["hand","slot","hand","slot"]),("write",["hand","slot","load"]),("read",["hand","slot"]),("name",["hand","slot","word"]),("seek",["hand","slot","word"])]
inductive Cl
 | form | twice | hand | slot
def J7(t:Str)(lo hi:Int):AB:=match qX t (.int hi)with
 | some v=>if v<lo then none else some v
 | none=>none
def Dt(ps:AI):AB:=match ps with
 | [a,b]=>if a=("room":Str)then J7 b 4 1000000000000000 else none
 | _=>none
def JS(ps:AI):Prop:=∃r w t,ps=("kind":Str)::r/\0<=w/\w<3/\0<=t/\t<4/\Str.join iD r=words w t
def nmB(t:Str):Bool:=dJ t letters 12 && !decide (t=cX)
def lK(ps:AI):Option π:=match ps with
 | [a,b,c]=>if a=("hand":Str)/\nmB b=true then(J7 c 3 9).map λm=>(b,m)else none
 | _=>none
def vJ(ps:AI):AB:=match ps with
 | [_,b]=>J7 b 1 9999
 | _=>none
def cD(f t:Str):Option V:=match nO.lookup f with
 | some most=>(qX t most).map V.int
 | none=>if f=jO then(oH t).map V.int else if dJ t letters 12=true then some (.str t)else none
def nQ:AI->AI->Option (List V)
 | f::fs,t::ts=>(cD f t).bind λv=>(nQ fs ts).map λvs=>v::vs
 | _,_=>some []
def nJ(ps:AI):Option (AI×List V):=match ps with
 | a::w::r=>(jy.lookup w).bind λfs=>if r.length+1=fs.length then(nQ fs (a::r)).map λvs=>(fs,vs)else none
 | _=>none
def VG(names:AI)(v:V):Option Nat:=match v with
 | .str z=>names.findIdx? λy=>decide (y=z)
 | _=>none
def fQ(names:AI):AI->List V->Option (List V)
 | f::fs,v::vs=>if f=bZ then(VG names v).bind λi=>(fQ names fs vs).map λus=>.int i::us else(fQ names fs vs).map λus=>v::us
 | _,_=>some []
def fV(hs:List π):Nat->AI->List V->Bool
 | o,f::fs,v::vs=>if f=bZ then(match v with | .int i=>fV hs i.toNat fs vs | _=>false)else if f=cM then(match v,hs[o]? with | .int m,some x=>decide (m<x.2) && fV hs o fs vs | _,_=>false)else fV hs o fs vs
 | _,_,_=>true
def fP(hs:List π)(ps:AI):Option Cl:=
 if ps.head? =some cX then(if (vJ ps).isSome=true then none else some .form)else match nJ ps with
 | none=>some .form
 | some (fs,vs)=>match fQ (hs.map (·.1)) fs vs with
  | none=>some .hand
  | some us=>if fV hs 0 fs us=true then none else some .slot
inductive RS
 | s0 | s1 | s2 (hs:List (Str×Int)) | s3 (hs:List (Str×Int)) (c:Nat)
def gh:Str:="weave"
open Classical in
noncomputable def dM:RS->Str->Except Cl RS
 | .s0,r=>if (Dt ag).isSome=true then .ok .s1 else .error .form
 | .s1,r=>if JS ag then .ok (.s2 [])else .error .form
 | .s2 hs,r=>if hs≠[]/\r=gh then .ok (.s3 hs 0)else if hs.length=5 then .error .form else match lK ag with
  | none=>.error .form
  | some x=>if x.1∈hs.map (·.1)then .error .twice else .ok (.s2 (hs++[x]))
 | .s3 hs c,r=>if c=400 then .error .form else match fP hs ag with
  | some e=>.error e
  | none=>.ok (.s3 hs (c+1))
noncomputable def um (rs:AI):Nat->Option RS
 | 0=>some .s0
 | i+1=>(um rs i).bind λst=>(rs[i]?).bind λr=>match dM st r with
  | .ok st'=>some st'
  | .error _=>none
def jZ(rs:AI)(c:Cl)(k:Nat):Prop:=∃st,um rs k=some st/\((∃r,rs[k]? =some r/\dM st r=.error c)\/(rs[k]? =none/\c=.form/\∀hs n,st≠.s3 hs n))
def xU(rs:AI)(n:Nat):Prop:=∃hs,um rs rs.length=some (.s3 hs n)
theorem mQ{rs:AI}{i:Nat}{st st':RS}{r:Str}(h:um rs i=some st)(hr:rs[i]? =some r)(hs:dM st r=.ok st'):um rs (i+1)=some st':=by
 show(um rs i).bind _=_;rw[h,Option.bind_some,hr,Option.bind_some,hs]
theorem zA{rs ts:AI}:∀i,(∀j,j<i->rs[j]? =ts[j]?)->um rs i=um ts i
 | 0,_=>rfl
 | i+1,h=>by
  show(um rs i).bind _=(um ts i).bind _;rw[zA i λj hj=>h j (Nat.lt_succ_of_lt hj),h i (Nat.lt_succ_self _)]
theorem Dw{rs:AI}{i:Nat}{st:RS}(h:um rs (i+1)=some st):∃st0 r,um rs i=some st0/\rs[i]? =some r/\dM st0 r=.ok st:=by
 have h:(um rs i).bind (λst=>(rs[i]?).bind λr=>match dM st r with | .ok st'=>some st' | .error _=>none)=some st:=h;cases e:um rs i with
 | none=>rw[e]at h;cases h
 | some st0=>
  rw[e,Option.bind_some]at h;cases e2:rs[i]? with
  | none=>rw[e2]at h;cases h
  | some r=>
   rw[e2,Option.bind_some]at h;cases e3:dM st0 r with
   | error c=>rw[e3]at h;cases h
   | ok st'=>rw[e3]at h;cases h;exact⟨st0,r,rfl,rfl,e3⟩
theorem Zdc{rs:AI}:∀{i j:Nat}{st:RS},i<=j->um rs j=some st->∃st',um rs i=some st'
 | i,0,st,h,e=>by
  have:i=0:=δ
  subst this;exact⟨_,e⟩
 | i,j+1,st,h,e=>by
  by_cases z:i=j+1
  ·subst z;exact⟨_,e⟩
  ·obtain⟨st0,_,e0,_⟩:=Dw e;exact Zdc δ e0
theorem Zfi{rs:AI}{i:Nat}{st:RS}(e:um rs i=some st):i<=rs.length:=by
 cases i with
 | zero=>exact Nat.zero_le _
 | succ i=>
  obtain⟨_,r,_,hr,_⟩:=Dw e;exact(iB hr).1
theorem jZ.uniq{rs:AI}{c c':Cl}{k k':Nat}(h:jZ rs c k)(h':jZ rs c' k'):c=c'/\k=k':=by
 have main:∀{c c':Cl}{k k':Nat},jZ rs c k->jZ rs c' k'->k<=k'->k=k':=by
  intro c c' k k' ⟨st,e,q⟩ ⟨st',e',_⟩ hk
  by_cases z:k=k'
  ·exact z
  ·obtain⟨s2,e2⟩:=Zdc (i:=k+1) δ e';obtain⟨s1,r,e1,hr,hs⟩:=Dw e2;rw[e]at e1;cases e1;rcases q with ⟨r',hr',hs'⟩ | ⟨hr',_⟩
   ·rw[hr]at hr';cases hr';rw[hs]at hs';cases hs'
   ·rw[hr]at hr';cases hr'
 have hk:k=k':=by
  rcases Nat.le_total k k' with z | z
  ·exact main h h' z
  ·exact(main h' h z).symm
 subst hk;obtain⟨st,e,q⟩:=h;obtain⟨st',e',q'⟩:=h';rw[e]at e';cases e';refine⟨?_,rfl⟩;rcases q with ⟨r,hr,hs⟩ | ⟨hr,hc,_⟩
 ·rcases q' with ⟨r',hr',hs'⟩ | ⟨hr',_⟩
  ·rw[hr]at hr';cases hr';rw[hs]at hs';cases hs';rfl
  ·rw[hr]at hr';cases hr'
 ·rcases q' with ⟨r',hr',_⟩ | ⟨_,hc',_⟩
  ·rw[hr]at hr';cases hr'
  ·rw[hc,hc']
theorem jZ.Ce{rs:AI}{c:Cl}{k n:Nat}(h:jZ rs c k)(h':xU rs n):False:=by
 obtain⟨st,e,q⟩:=h;obtain⟨hs,e'⟩:=h'
 by_cases z:k<rs.length
 ·obtain⟨s2,e2⟩:=Zdc (i:=k+1) δ e';obtain⟨s1,r,e1,hr,hs⟩:=Dw e2;rw[e]at e1;cases e1;rcases q with ⟨r',hr',hs'⟩ | ⟨hr',_⟩
  ·rw[hr]at hr';cases hr';rw[hs]at hs';cases hs'
  ·rw[hr]at hr';cases hr'
 ·have:=Zfi e;have hk:k=rs.length:=δ
  subst hk;rw[e']at e;cases e;rcases q with ⟨r',hr',_⟩ | ⟨_,_,z⟩
  ·rw[List.getElem?_eq_none χ]at hr';cases hr'
  ·exact z _ _ rfl
def Ex(C:AJ)(k:Int)(H:Hp)(E:XK):Prop:=∀D H',bD H H'->H' D=some (.xd [("row",.int k)])->E (.ref C) (some D) H'
theorem Ex.go{C:AJ}{k:Int}{H H1:Hp}{E:XK}(h:Ex C k H E)(s:bD H H1):Ex C k H1 E:=λD H' s' hd=>h D H' (s.trans s') hd
def jb(K:aK):Sp:=λvs H Q E=>∃e k,vs=[.ref e,.int k]/\∃C,H e=some (u5 e (.ref C) none)/\Cz K C/\Fj K C "row"/\0<=k/\k<=100000/\∀dx,H dx=none->dx≠e->Q .non (upd (upd H e (u5 e (.ref C) (some dx))) dx (.xd [("row",.int k)]))
theorem tO{K:aK}{C:AJ}{k:Int}{H:Hp}{E:XK}(xo:Cz K C)(xs:Fj K C "row")(k0:0<=k)(k1:k<=100000)(h:Ex C k H E):[V.int k].length<=100/\∀e:AJ,H e=none->jb K [.ref e,.int k] (upd H e (u5 e (.ref C) none)) (λv H2=>v=.non/\∃dx,H2 e=some (u5 e (.ref C) dx)/\E (.ref C) dx (del H2 e)) E0:=by
 refine⟨by show 1<=100;decide,λe0 he0=>⟨e0,_,rfl,C,az,xo,xs,k0,k1,λdx hdx ne=>⟨rfl,some dx,?_,?_⟩⟩⟩
 ·rw[aQ (Ne.symm ne)];exact az
 ·refine h dx _ (λb o hb=>?_) ?_
  ·have n1:b≠e0:=bI hb he0;have n2:b≠dx:=λz=>by
    rw[aQ ne]at hdx;rw[z,hdx]at hb;cases hb
   rw[Yx n1,aQ n2,aQ n1,aQ n1];exact hb
  ·rw[Yx ne];exact az
def pO(C:AJ):Sp:=λvs H Q E=>∃a k,vs=[.ref a,.int k]/\∃rows:AI,H a=some (.lst (rows.map V.str))/\1<=k/\k<=100000/\(∀r,rows[(k - 1).toNat]? =some r->Q (.str r) H)/\(rows[(k - 1).toNat]? =none->Ex C k H E)
def uV(C:AJ):Sp:=λvs H Q E=>∃v k,vs=[v,.int k]/\1<=k/\k<=100000/\(v≠.non->Q v H)/\(v=.non->Ex C k H E)
def Bg:Sp:=λvs H Q E=>∃t lo hi,vs=[.str t,.int lo,.int hi]/\t.length<=100000/\∀H',bD H H'->Q (vO (J7 t lo hi)) H'
def YS:Sp:=λvs H Q E=>∃r,vs=[.str r]/\r.length<=10000/\∀H',bD H H'->Q (vO (Dt ag)) H'
def Fx:Sp:=λvs H Q E=>∃r,vs=[.str r]/\r.length<=100/\(JS ag->∀ki H',bD H H'->Q (.ref ki) H')/\(¬ JS ag->∀H',bD H H'->Q .non H')
def Nr:Sp:=λvs H Q E=>∃t,vs=[.str t]/\t.length<=10000/\∀H',bD H H'->Q (.bl (nmB t)) H'
def FJ:Sp:=λvs H Q E=>∃r,vs=[.str r]/\r.length<=10000/\(lK ag=none->∀H',bD H H'->Q .non H')/\(∀x,lK ag=some x->∀a H',bD H H'->H' a=some (.tup [.str x.1,.int x.2])->Q (.ref a) H')
def wW:Sp:=λvs H Q E=>∃l,vs=[.ref l]/\∃hs,HL H l hs/\hs.length<=5/\∀p,H p=none->Q (.ref p) (upd H p (.lst ((hs.map (·.1)).map V.str)))
def Fz(C D:AJ):Sp:=λvs H Q E=>∃a k l,vs=[.ref a,.int k,.ref l]/\∃(rows:AI) (hs:List π),H a=some (.lst (rows.map V.str))/\(∀r∈rows,r.length<=10000)/\1<=k/\k<=100000/\HL H l hs/\hs.length<=5/\
 (rows[(k - 1).toNat]? =none->Ex C k H E)/\∀r,rows[(k - 1).toNat]? =some r->(lK ag=none->Ex C k H E)/\∀x,lK ag=some x->(x.1∈hs.map (·.1)->Ex D k H E)/\(x.1∉hs.map (·.1)->∀b H',bD H H'->H' b=some (.tup [.str x.1,.int x.2])->Q (.ref b) H')
theorem Dm(z:Str):Txt.split z iD≠[]:=λq=>by
 have:=PyProof.Rows.split_pos z iD;rw[q]at this;cases this
theorem Gj(z:Str):((Txt.split z iD).map (·.length)).sum+(Txt.split z iD).length=z.length+1:=by
 rw[<- yR 32 (Dm z),<- dR,str_len];exact congrArg (λq:Str=>q.length+1) (StrLaws.join_split z iD)
theorem Zfr:∀{ps:AI}{p:Str},p∈ps->p.length<=(ps.map (·.length)).sum
 | q::ps,p,h=>by
  rw[List.map_cons,List.sum_cons];rcases List.mem_cons.mp h with rfl | h
  ·omega
  ·have:=Zfr h;omega
theorem split_len{z p:Str}(h:p∈Txt.split z iD):p.length<=z.length:=by
 have:=Gj z;have:=Zfr h;have:0<(Txt.split z iD).length:=List.length_pos_iff.mpr (Dm z);omega
section
variable {K:aK}{bR cH cG bK aU bh bf bA aZ aY aX bz aW aV aP aq aF aD aC:AJ}{H:Hp}{Q:VK}{E:XK}{n:ν}{bk ct:ν}
theorem Zhj(T:Za K bK aU bh bf bA aZ aY aX bz aW aV aP aq aF aD aC){a:AJ}{k:Int}(q:∃rows:AI,H a=some (.lst (rows.map V.str))/\1<=k/\k<=100000/\(∀r,rows[(k - 1).toNat]? =some r->Q (.str r) H)/\(rows[(k - 1).toNat]? =none->Ex aq k H E)):GZ K aq (jb K) E ξ [↑a,some (.int k)] H:=by
 obtain⟨rows,ha,k0,k1,h1,h2⟩:=q;unfold GZ;apply gZ (cN.of ha) ?_;ext;rw[bF];refine iM (λz=>?_) (λz=>?_)
 ·apply tO T.zq T.lR δ k1 (h2 (List.getElem?_eq_none δ))
 ·ext;have hl:(k - 1).toNat<rows.length:=δ
  exact cV (cN.of ha) (bT δ (by rw[fY,dF hl];rfl)) (h1 _ (dF hl))
theorem O2(T:Za K bK aU bh bf bA aZ aY aX bz aW aV aP aq aF aD aC){v:V}{k:Int}(q:1<=k/\k<=100000/\(v≠.non->Q v H)/\(v=.non->Ex aq k H E)):tK aq (jb K) E ξ [some v,some (.int k)] H:=by
 unfold tK;refine Zg2 ?_;refine⟨v,rfl,?_⟩;refine⟨rfl,?_⟩
 by_cases z:v=.non
 ·rw[decide_eq_true z];refine⟨true,rfl,Im ?_⟩;apply tO T.zq T.lR δ q.2.1 (q.2.2.2 z)
 ·rw[decide_eq_false z];refine⟨false,rfl,QJ ?_⟩;exact⟨v,rfl,q.2.2.1 z⟩
theorem DP{t:Str}{lo hi:Int}(q:t.length<=100000/\∀H',bD H H'->Q (vO (J7 t lo hi)) H'):nU Bf ξ [some (.str t),some (.int lo),some (.int hi),none] H:=by
 obtain⟨hl,h⟩:=q;unfold nU;apply⟨t,_,rfl,δ,.inr ⟨hi,rfl⟩,λH1 s1=>?_⟩;have h:=h _ s1;unfold J7 at h;cases e:qX t (.int hi)with
 | none=>
  rw[e]at h;dsimp only[vO]at h ⊢;apply h
 | some v=>
  rw[e]at h;dsimp only[vO]at h ⊢;apply iM (λz=>?_) (λz=>?_)
  ·rw[if_pos z]at h;apply h
  ·rw[if_neg z]at h;apply h
theorem Zd8{r:Str}(q:r.length<=10000/\∀H',bD H H'->Q (vO (Dt ag)) H'):Bv K Bg ξ [some (.str r),none] H:=by
 obtain⟨hl,h⟩:=q;unfold Bv;apply⟨_,_,rfl,rfl,ε,δ,λl hl0=>?_⟩;have hps:∀p∈Txt.split r iD,p.length<=10000:=λp hp=>Nat.le_trans (split_len hp) hl;rw[show Txt.split r " "=Txt.split r iD from rfl];generalize zz:upd H l _=H1;obtain⟨s1,c1⟩:=nwO hl0 zz;generalize Txt.split r iD=ps at c1 h hps;apply gZ (cN.of c1) ?_;ext;rw[bF];have no:∀{H2:Hp},bD H H2->Dt ps=none->Q .non H2:=λs e=>by have:=h _ s;rw[e]at this;exact this
 refine pC (λz=>?_) (λz=>?_)
 ·apply no s1 ?_;unfold Dt;split
  ·exact absurd rfl z
  ·rfl
 ·match ps,z with
  | [a,b],_=>
   apply cV (cN.of c1) (bT ε rfl) ?_;apply pC (λz=>?_) (λz=>?_)
   ·apply no s1 ?_;show(if a=("room":Str)then _ else none)=none;rw[if_neg z]
   ·apply cV (cN.of c1) (bT ε rfl) ?_;apply⟨b,_,_,rfl,by have:=hps b ζ;omega,λH2 s2=>?_⟩;have:=h _ (s1.trans s2);rw[show Dt [a,b]=J7 b 4 1000000000000000 from if_pos z]at this;exact this
end
section
variable {K:aK}{bR cH cG bK aU bh bf bA aZ aY aX bz aW aV aP aq aF aD aC:AJ}{H:Hp}{Q:VK}{E:XK}{n:ν}{bk ct:ν}
theorem xT{e:AJ}{k:Int}(q:∃C,H e=some (u5 e (.ref C) none)/\Cz K C/\Fj K C "row"/\0<=k/\k<=100000/\∀dx,H dx=none->dx≠e->Q .non (upd (upd H e (u5 e (.ref C) (some dx))) dx (.xd [("row",.int k)]))):
  kY K ⟨λ_ H'=>Q .non H',Q,bk,ct⟩ [↑e,some (.int k)] H:=by
 obtain⟨C,he,xo,xs,k0,k1,h⟩:=q;unfold kY;exists ("row ":Str),rfl,ε;apply .inl ⟨k,rfl,Zsd δ (Int.lt_of_le_of_lt k1 ε),?_⟩;have lk:(tS k).length<=61:=Bj δ (Int.lt_of_le_of_lt k1 ε);have l1:((("row ":Str)++tS k)).length=4+(tS k).length:=by rw[cO];rfl
 refine⟨tS k,rfl,cB (by show(("row ":Str)++tS k).length<=_;omega),Zvl (cB (by show(("row ":Str)++tS k).length<=_;omega)) ?_⟩;exists e,_,C,none,rfl,he,xo;apply⟨e,C,rfl,he,xo,xs,h⟩
theorem Qu{l:AJ}{hs:List π}{σ:St}{Q':VK}(hl:HL H l hs)(h5:hs.length<=5)(h:∀p,H p=none->Q' (.ref p) (upd H p (.lst ((hs.map (·.1)).map V.str)))):Zf1 K (Itl K l) [] oO Γ σ H Q':=by
 obtain⟨as,h1,h2,h3⟩:=hl;refine Zov ?_;refine Zfw (cN.of h1) (λi=>(hs[i]?).map λx=>.str x.1) (by rw[bF];omega) (λi x hx=>?_) λp hp=>?_
 ·rw[fY]at hx;obtain⟨a,ha,rfl⟩:=Option.map_eq_some_iff.mp hx;obtain⟨y,ey,hy⟩:=h3 i a ha;refine⟨λq hq=>?_,λv q hv hq=>?_⟩
  ·rw[ey]at hq;exact hq
  ·rw[ey]at hv;cases hv;exact⟨a,_,_,_,rfl,ig.of hy,_,rfl,hq⟩
 ·have:=h p hp;rw[bF,h2,Zen (λx:Str×Int=>V.str x.1)];rw[List.map_map]at this;exact this
theorem Za4{l:AJ}(q:∃hs,HL H l hs/\hs.length<=5/\∀p,H p=none->Q (.ref p) (upd H p (.lst ((hs.map (·.1)).map V.str)))):yw K ξ [↑l] H:=by
 obtain⟨hs,hl,h5,h⟩:=q;unfold yw;ext;obtain⟨as,h1,_⟩:=id hl;exact⟨l,rfl,⟨_,cN.of h1⟩,Qu hl h5 h⟩
theorem Ze4{r:Str}(q:r.length<=100/\(JS ag->∀ki H',bD H H'->Q (.ref ki) H')/\(¬ JS ag->∀H',bD H H'->Q .non H')):Bx K (zO bK bR cH cG) ξ [some (.str r),none] H:=by
 obtain⟨hl,h1,h2⟩:=q;unfold Bx;apply⟨_,_,rfl,rfl,ε,δ,λl hl0=>?_⟩;have hsum:=Gj r;have hne:=Dm r;rw[show Txt.split r " "=Txt.split r iD from rfl];generalize zz:upd H l _=H1;obtain⟨s1,c1⟩:=nwO hl0 zz;generalize Txt.split r iD=ps at c1 h1 h2 hsum hne;cases ps with
 | nil=>exact absurd rfl hne
 | cons a rest=>
  apply cV (cN.of c1) (bT ε rfl) ?_;apply pC (λz=>?_) (λz=>?_)
  ·apply h2 ?_ _ s1;rintro⟨_,_,_,e,_⟩
   injection e with e1 e2
   exact z e1
  ·have z:a=("kind":Str):=z;subst z;apply⟨l,_,rfl,cN.of c1,λm hm=>?_⟩;have ec:vC ((("kind":Str)::rest).map V.str) (some 1) none=rest.map V.str:=by
    unfold vC;have x1:HT.fO ((("kind":Str)::rest).map V.str).length 0 (some 1)=1:=by
     unfold HT.fO;simp
     try omega
    have x2:HT.fO ((("kind":Str)::rest).map V.str).length ((("kind":Str)::rest).map V.str).length none=((("kind":Str)::rest).map V.str).length:=rfl;rw[x1,x2];simp only[List.map_cons,List.drop_succ_cons,List.drop_zero];exact List.take_of_length_le ζ
   rw[ec];have s2:=aG hm (.lst (rest.map V.str));ext;rw[List.map_cons,List.sum_cons,List.length_cons]at hsum;refine⟨" ",m,rest,rfl,rfl,cN.of az,ε,δ,?_⟩;rw[show Txt.join " " rest=Str.join iD rest from StrLaws.glued_eq_join _ _];ext;have jl:(Str.join iD rest).length<=100:=by
    cases hr:rest with
    | nil=>decide
    | cons y ys=>
     have hj:(Str.join iD rest).length+1=(rest.map (·.length)).sum+rest.length:=by
      rw[<- yR 32 (by rw[hr];simp),<- dR,str_len];rfl
     rw[<- hr];omega
   refine⟨_,rfl,jl,λw2 t2 a0 a1 b0 b1 e2 ki lk H' s' k=>h1 ⟨rest,w2,t2,rfl,a0,a1,b0,b1,e2⟩ ki H' (s1.trans (s2.trans s')),λno H' s'=>h2 ?_ H' (s1.trans (s2.trans s'))⟩;rintro⟨_,w,t,e,w0,w1,t0,t1,ej⟩
   injection e with _ e2
   subst e2;exact no w t w0 w1 t0 t1 ej
theorem Lj{t:Str}(q:t.length<=10000/\∀H',bD H H'->Q (.bl (nmB t)) H'):qF CG ξ [some (.str t)] H:=by
 obtain⟨hl,h⟩:=q;unfold qF;unfold nmB at h;apply⟨t,rfl,δ,λH1 s1=>?_⟩;have h:=h _ s1;cases e:dJ t letters 12 with
 | false=>
  rw[e]at h;apply h
 | true=>
  rw[e]at h;apply h
theorem Zed{r:Str}(q:r.length<=10000/\(lK ag=none->∀H',bD H H'->Q .non H')/\(∀x,lK ag=some x->∀a H',bD H H'->H' a=some (.tup [.str x.1,.int x.2])->Q (.ref a) H')):BK K Nr Bg ξ [some (.str r),none,none] H:=by
 obtain⟨hl,h1,h2⟩:=q;unfold BK;apply⟨_,_,rfl,rfl,ε,δ,λl hl0=>?_⟩;have hps:∀p∈Txt.split r iD,p.length<=10000:=λp hp=>Nat.le_trans (split_len hp) hl;rw[show Txt.split r " "=Txt.split r iD from rfl];generalize zz:upd H l _=H1;obtain⟨s1,c1⟩:=nwO hl0 zz;generalize Txt.split r iD=ps at c1 h1 h2 hps;apply gZ (cN.of c1) ?_;ext;rw[bF];refine pC (λz=>?_) (λz=>?_)
 ·apply h1 ?_ _ s1;unfold lK;split
  ·exact absurd rfl z
  ·rfl
 ·match ps,z with
  | [a,b,c],_=>
   apply cV (cN.of c1) (bT ε rfl) ?_;apply pC (λz=>?_) (λz=>?_)
   ·apply h1 ?_ _ s1;show(if a=("hand":Str)/\nmB b=true then _ else none)=none;rw[if_neg (λy=>z y.1)]
   ·have z:a=("hand":Str):=z;apply cV (cN.of c1) (bT ε rfl) ?_;apply⟨b,rfl,hps b ζ,λH2 s2=>?_⟩;cases eb:nmB b with
    | false=>
     apply h1 ?_ _ (s1.trans s2);show(if a=("hand":Str)/\nmB b=true then _ else none)=none;rw[if_neg (λy=>by rw[eb]at y;exact Bool.false_ne_true y.2)]
    | true=>
     ext;have e0:lK [a,b,c]=(J7 c 3 9).map λm=>(b,m):=if_pos ⟨z,eb⟩;refine cV (cN.of (s2 _ _ c1)) (bT ε rfl) ?_;apply⟨c,_,_,rfl,by have:=hps c ζ;omega,λH3 s3=>?_⟩;cases ec:J7 c 3 9 with
     | none=>
      dsimp only[vO];apply h1 (by rw[e0,ec];rfl) _ (s1.trans (s2.trans s3))
     | some m=>
      dsimp only[vO];apply cV (cN.of (s3 _ _ (s2 _ _ c1))) (bT ε rfl) ?_;apply⟨by show 2<=_;decide,λtp htp=>?_⟩;exact h2 (b,m) (by rw[e0,ec];rfl) tp _ (s1.trans (s2.trans (s3.trans (aG htp _)))) az
theorem Zec(T:Za K bK aU bh bf bA aZ aY aX bz aW aV aP aq aF aD aC){a l:AJ}{k:Int}(q:∃(rows:AI) (hs:List π),H a=some (.lst (rows.map V.str))/\(∀r∈rows,r.length<=10000)/\1<=k/\k<=100000/\HL H l hs/\hs.length<=5/\
 (rows[(k - 1).toNat]? =none->Ex aq k H E)/\∀r,rows[(k - 1).toNat]? =some r->(lK ag=none->Ex aq k H E)/\∀x,lK ag=some x->(x.1∈hs.map (·.1)->Ex aF k H E)/\(x.1∉hs.map (·.1)->∀b H',bD H H'->H' b=some (.tup [.str x.1,.int x.2])->Q (.ref b) H')):
  BJ K aF (jb K) FJ wW (pO aq) (uV aq) E ξ [↑a,some (.int k),↑l,none] H:=by
 obtain⟨rows,hs,ha,hlr,k0,k1,hl,h5,g1,g2⟩:=q;unfold BJ;apply⟨a,k,rfl,rows,ha,k0,k1,λr hr=>?_,g1⟩;obtain⟨g3,g4⟩:=g2 r hr;apply⟨_,rfl,hlr r (List.mem_of_getElem? hr),λhn H1 s1=>?_,λx hx b H1 s1 hb=>?_⟩
 ·apply⟨_,k,rfl,k0,k1,λz=>absurd rfl z,λ_=>(g3 hn).go s1⟩
 ·obtain⟨g5,g6⟩:=g4 x hx;apply⟨_,k,rfl,k0,k1,λ_=>?_,λz=>by cases z⟩;exists b,_,0,_,rfl,rfl,ig.of hb,rfl;apply⟨l,rfl,hs,hl.same s1,h5,λp hp=>?_⟩;have s2:=aG hp (.lst ((hs.map (·.1)).map V.str));refine⟨p,_,rfl,.inl (cN.of az),rfl,Ez _,?_⟩;rw[if_neg Bool.false_ne_true,wN]
  by_cases nx:x.1∈hs.map (·.1)
  ·rw[decide_eq_true nx];refine⟨true,rfl,?_⟩;apply tO T.Zis T.uW δ k1 ((g5 nx).go (s1.trans s2))
  ·rw[decide_eq_false nx];refine⟨false,rfl,?_⟩;apply g6 nx b _ (s1.trans s2) (s2 _ _ hb)
end
def Cd:Option V->V
 | some v=>v
 | none=>.non
def Np:Sp:=λvs H Q E=>∃f t,vs=[.str f,.str t]/\t.length<=10000/\∀H',bD H H'->Q (Cd (cD f t)) H'
def wX(K:aK):Sp:=λvs H Q E=>∃w,vs=[.str w]/\(jy.lookup w=none->Q .non H)/\∀fs,jy.lookup w=some fs->∀a,qd K a (fs.map V.str)->Q (.ref a) H
def zN:Sp:=λvs H Q E=>∃p,vs=[.ref p]/\∃ps:AI,H p=some (.lst (ps.map V.str))/\(∀t∈ps,t.length<=10000)/\(vJ ps=none->∀H',bD H H'->Q .non H')/\∀m,vJ ps=some m->∀a H',bD H H'->H' a=some (.tup [.str cX,.int m])->Q (.ref a) H'
theorem Zk{f t:Str}:(∃i,Cd (cD f t)=.int i)\/(∃z,Cd (cD f t)=.str z)\/cD f t=none:=by
 unfold cD;split
 ·cases qX t _ with
  | none=>exact .inr (.inr rfl)
  | some v=>exact .inl ⟨v,rfl⟩
 ·split
  ·cases oH t with
   | none=>exact .inr (.inr rfl)
   | some v=>exact .inl ⟨v,rfl⟩
  ·split
   ·exact .inr (.inl ⟨t,rfl⟩)
   ·exact .inr (.inr rfl)
theorem O3{f t:Str}:jE (Cd (cD f t))=true:=by
 rcases Zk (f:=f) (t:=t)with ⟨i,e⟩ | ⟨z,e⟩ | e
 ·rw[e];rfl
 ·rw[e];rfl
 ·rw[e];rfl
theorem Zfb:∀{fs ts:AI},fs.length=ts.length->(List.zipWith (λf t=>Cd (cD f t)) fs ts).all jE=true/\((inV .non (List.zipWith (λf t=>Cd (cD f t)) fs ts)=true/\nQ fs ts=none)\/(inV .non (List.zipWith (λf t=>Cd (cD f t)) fs ts)=false/\nQ fs ts=some (List.zipWith (λf t=>Cd (cD f t)) fs ts)))
 | [],[],_=>⟨rfl,.inr ⟨rfl,rfl⟩⟩
 | [],_::_,h=>by cases h
 | _::_,[],h=>by cases h
 | f::fs,t::ts,h=>by
  obtain⟨ih1,ih⟩:=Zfb (fs:=fs) (ts:=ts) (Nat.succ.inj h);rw[List.zipWith_cons_cons,List.all_cons,O3,ih1];refine⟨rfl,?_⟩;have ev:nQ (f::fs) (t::ts)=(cD f t).bind λv=>(nQ fs ts).map λvs=>v::vs:=rfl;rw[ev];unfold inV at ih ⊢;rw[List.any_cons];rcases Zk (f:=f) (t:=t)with ⟨i,e⟩ | ⟨z,e⟩ | e
  ·obtain⟨v,e2⟩:∃v,cD f t=some v:=by
    cases z:cD f t with
    | none=>rw[z]at e;cases e
    | some v=>exact⟨v,rfl⟩
   rw[e2]at e ⊢;have e:v=.int i:=e;subst e;rcases ih with ⟨a,b⟩ | ⟨a,b⟩
   ·refine .inl ?_;rw[a,b];exact⟨ζ,rfl⟩
   ·right;rw[a,b];exact⟨rfl,rfl⟩
  ·obtain⟨v,e2⟩:∃v,cD f t=some v:=by
    cases z:cD f t with
    | none=>rw[z]at e;cases e
    | some v=>exact⟨v,rfl⟩
   rw[e2]at e ⊢;have e:v=.str z:=e;subst e;rcases ih with ⟨a,b⟩ | ⟨a,b⟩
   ·refine .inl ?_;rw[a,b];exact⟨ζ,rfl⟩
   ·right;rw[a,b];exact⟨rfl,rfl⟩
  ·rw[e]
   refine .inl ?_
   exact⟨rfl,rfl⟩
section
variable {K:aK}{bR cH cG bK aU bh bf bA aZ aY aX bz aW aV aP aq aF aD aC:AJ}{H:Hp}{Q:VK}{E:XK}{n:ν}{bk ct:ν}
theorem ZD{p:AJ}(q:∃ps:AI,H p=some (.lst (ps.map V.str))/\(∀t∈ps,t.length<=10000)/\(vJ ps=none->∀H',bD H H'->Q .non H')/\∀m,vJ ps=some m->∀a H',bD H H'->H' a=some (.tup [.str cX,.int m])->Q (.ref a) H'):yu K Bg ξ [↑p,none] H:=by
 obtain⟨ps,hp,hl,h1,h2⟩:=q;unfold yu;apply gZ (cN.of hp) ?_;ext;rw[bF];refine pC (λz=>?_) (λz=>?_)
 ·apply h1 ?_ _ (bD.refl _);unfold vJ;split
  ·exact absurd rfl z
  ·rfl
 ·match ps,z with
  | [a,b],_=>
   apply cV (cN.of hp) (bT ε rfl) ?_;apply⟨b,_,_,rfl,by have:=hl b ζ;omega,λH1 s1=>?_⟩;cases ec:J7 b 1 9999 with
   | none=>
    dsimp only[vO];apply h1 ec _ s1
   | some m=>
    dsimp only[vO];apply⟨by show 2<=_;decide,λtp htp=>?_⟩;exact h2 m ec tp _ (s1.trans (aG htp _)) az
theorem Zm{f t:Str}(q:t.length<=10000/\∀H',bD H H'->Q (Cd (cD f t)) H'):yt CG YW Bf ξ [some (.str f),some (.str t)] H:=by
 obtain⟨hl,h⟩:=q;unfold yt;unfold cD at h;exists f,rfl,_,rfl;show if (nO.lookup f).isSome=true then _ else _
 cases e:nO.lookup f with
 | some most=>
  rw[e]at h;have hm:∃m,most=.int m:=by
   have:(f,most)∈nO:=by
    obtain⟨l1,l2,e1,_⟩:=List.lookup_eq_some_iff.mp e;rw[e1];simp
   unfold nO at this;simp only[List.mem_cons,List.not_mem_nil,or_false,Prod.mk.injEq]at this;rcases this with ⟨_,z⟩ | ⟨_,z⟩ | ⟨_,z⟩ | ⟨_,z⟩<;>exact⟨_,z⟩
  obtain⟨m,rfl⟩:=hm;refine Im ?_;exists f,_,rfl,e;apply⟨t,_,rfl,δ,.inr ⟨m,rfl⟩,λH1 s1=>?_⟩;have h:=h _ s1;dsimp only at h;cases e2:qX t (.int m)with
  | none=>rw[e2]at h;exact h
  | some v=>rw[e2]at h;exact h
 | none=>
  rw[e]at h;dsimp only at h;refine QJ ?_;apply iM (λz=>?_) (λz=>?_)
  ·rw[if_pos (show f=jO from z)]at h;apply⟨t,rfl,δ,λH1 s1=>?_⟩;have h:=h _ s1;cases e2:oH t with
   | none=>rw[e2]at h;exact h
   | some v=>rw[e2]at h;exact h
  ·rw[if_neg (show ¬ f=jO from z)]at h;apply⟨t,rfl,δ,λH1 s1=>?_⟩;have h:=h _ s1;cases e2:dJ t letters 12 with
   | false=>
    rw[e2,if_neg Bool.false_ne_true]at h;apply h
   | true=>
    rw[e2,if_pos rfl]at h;apply h
theorem uz{α:Type}{w k:Str}{v:α}{r:List (Str×α)}(h:w≠k):List.lookup w ((k,v)::r)=List.lookup w r:=by
 rw[List.lookup_cons];have:(w == k)=false:=by simpa using h
 rw[this]
theorem Zb3{w:Str}(T:Za K bK aU bh bf bA aZ aY aX bz aW aV aP aq aF aD aC)(q:(jy.lookup w=none->Q .non H)/\∀fs,jy.lookup w=some fs->∀a,qd K a (fs.map V.str)->Q (.ref a) H):yD bh bf bA aZ aY aX bz aW aV aP ξ [some (.str w)] H:=by
 obtain⟨h1,h2⟩:=q;unfold yD;exists w,rfl;unfold jy at h1 h2
 by_cases Zmi:w=("make":Str)
 ·subst Zmi;exact h2 _ rfl _ T.Zts
 rw[uz Zmi]at h1 h2 ⊢
 by_cases Zqs:w=("get":Str)
 ·subst Zqs;exact h2 _ rfl _ T.Zw2
 rw[uz Zqs]at h1 h2 ⊢
 by_cases Zqr:w=("put":Str)
 ·subst Zqr;exact h2 _ rfl _ T.Zw1
 rw[uz Zqr]at h1 h2 ⊢
 by_cases Zml:w=("copy":Str)
 ·subst Zml;exact h2 _ rfl _ T.Ztv
 rw[uz Zml]at h1 h2 ⊢
 by_cases Zmk:w=("drop":Str)
 ·subst Zmk;exact h2 _ rfl _ T.Ztu
 rw[uz Zmk]at h1 h2 ⊢
 by_cases Zmj:w=("give":Str)
 ·subst Zmj;exact h2 _ rfl _ T.Ztt
 rw[uz Zmj]at h1 h2 ⊢
 by_cases Zga:w=("write":Str)
 ·subst Zga;exact h2 _ rfl _ T.Zpr
 rw[uz Zga]at h1 h2 ⊢
 by_cases Zmg:w=("read":Str)
 ·subst Zmg;exact h2 _ rfl _ T.oK
 rw[uz Zmg]at h1 h2 ⊢
 by_cases Zmh:w=("name":Str)
 ·subst Zmh;exact h2 _ rfl _ T.Ztr
 rw[uz Zmh]at h1 h2 ⊢
 by_cases Zmf:w=("seek":Str)
 ·subst Zmf;exact h2 _ rfl _ T.Ztq
 rw[uz Zmf]at h1 h2 ⊢;exact h1 rfl
end
theorem Zms(x:Str)(r:AI):vC ((x::r).map V.str) none (some 1)=[.str x]:=by
 unfold vC;have x1:HT.fO ((x::r).map V.str).length 0 none=0:=rfl;have x2:HT.fO ((x::r).map V.str).length ((x::r).map V.str).length (some 1)=1:=by
  unfold HT.fO;simp
  try omega
 rw[x1,x2];simp
theorem Zmr(x:Str)(r:AI):vC ((x::r).map V.str) (some 2) none=(r.drop 1).map V.str:=by
 unfold vC;have x2:HT.fO ((x::r).map V.str).length ((x::r).map V.str).length none=((x::r).map V.str).length:=rfl;cases r with
 | nil=>rfl
 | cons y r=>
  have x1:HT.fO ((x::y::r).map V.str).length 0 (some 2)=2:=by
   unfold HT.fO;simp
   try omega
  rw[x1,x2];simp only[List.map_cons,List.drop_succ_cons,List.drop_zero];exact List.take_of_length_le ζ
section
variable {K:aK}{t1 t2:Bool}{a b:AJ}{caps:List Nat}{te:TE}{σ:St}{H:Hp}{Q:VK}
theorem Zow{xs ys:List V}(hq:∀H',bD H H'->SqV K t1 H' a xs)(hr:∀H',bD H H'->SqV K t2 H' b ys)(hlen:xs.length=ys.length)(hz:xs.length<=1000000)(R:Nat->V->Prop)
  (hte:∀(i:Nat) x y H1,xs[i]? =some x->ys[i]? =some y->bD H H1->∀q:VK,(∀v H2,bD H1 H2->R i v->q v H2)->te (some x::some y::caps.map (pick σ)) H1 q)
  (h:∀vs H',bD H H'->vs.length=xs.length->(∀(i:Nat) v,vs[i]? =some v->R i v)->∀p,H' p=none->Q (.ref p) (upd H' p (.lst vs))):Zf1 K (Zf2 K t1 t2 a b) caps oO te σ H Q:=by
 refine⟨λi m vs H'=>i<=xs.length/\m=xs.length - i/\vs.length=i/\bD H H'/\∀(j:Nat) v,vs[j]? =some v->R j v,⟨_,Nat.zero_le _,rfl,rfl,bD.refl _,λj v e=>by cases e⟩,?_⟩;rintro i m vs H1 ⟨hi,rfl,hl,s1,hv⟩
 by_cases hk:i=xs.length
 ·exact .inl ⟨⟨xs,ys,hq _ s1,hr _ s1,.inl δ⟩,λp hp=>h vs H1 s1 δ hv p hp⟩
 ·have hlt:i<xs.length:=δ
  refine .inr ⟨⟨xs,ys,xs[i],ys[i]' δ,hq _ s1,hr _ s1,dF hlt,dF δ⟩,Nat.lt_of_lt_of_le (by omega:vs.length<1000000) ε,?_⟩;rintro v H2 ⟨t,x,y,rfl,ht,rfl,e1,e2⟩;have s2:=aG ht (.tup [x,y]);refine⟨t,x,y,rfl,ig.of az,Yg (Zlf ?_)⟩;refine hte i x y _ (e1 _ (hq _ s1)) (e2 _ (hr _ s1)) (s1.trans s2) _ λw H3 s3 rw'=>⟨xs.length - (i+1),δ,δ,rfl,by rw[List.length_append,hl];rfl,s1.trans (s2.trans s3),λj u hj=>?_⟩
  by_cases hji:j<vs.length
  ·rw[List.getElem?_append_left hji]at hj;exact hv j u hj
  ·have hjl:=(iB hj).1;rw[List.length_append]at hjl;have:[w].length=1:=rfl;have hje:j=vs.length:=δ
   rw[hje,List.getElem?_append_right χ,Nat.sub_self]at hj;cases hj;rw[hje,hl];exact rw'
end
def YQ:Sp:=λvs H Q E=>∃p,vs=[.ref p]/\∃ps:AI,H p=some (.lst (ps.map V.str))/\ps≠[]/\ps.length<=10001/\(∀t∈ps,t.length<=10000)/\(nJ ps=none->∀H',bD H H'->Q .non H')/\∀fs us,nJ ps=some (fs,us)->∀l H',bD H H'->H' l=some (.lst us)->Q (.ref l) H'
section
variable {K:aK}{H:Hp}{Q:VK}{E:XK}{n:ν}{bk ct:ν}
theorem Zce{p:AJ}(q:∃ps:AI,H p=some (.lst (ps.map V.str))/\ps≠[]/\ps.length<=10001/\(∀t∈ps,t.length<=10000)/\(nJ ps=none->∀H',bD H H'->Q .non H')/\∀fs us,nJ ps=some (fs,us)->∀l H',bD H H'->H' l=some (.lst us)->Q (.ref l) H'):Bu K (wX K) Np ξ [↑p,none,none,none] H:=by
 obtain⟨ps,hp,hne,hlen,hl,h1,h2⟩:=q;cases ps with
 | nil=>exact absurd rfl hne
 | cons a r=>
  unfold Bu;apply gZ (cN.of hp) ?_;ext;rw[bF];refine iM (λz=>?_) (λz=>?_)
  ·cases r with
   | nil=>exact absurd z ζ
   | cons w r=>
    apply cV (cN.of hp) (bT ε rfl) ?_;ext;have et0:nJ (a::w::r)=(jy.lookup w).bind λfs=>if r.length+1=fs.length then(nQ fs (a::r)).map λvs=>(fs,vs)else none:=rfl
    refine⟨w,rfl,λhn=>?_,λfs hf fa tf=>?_⟩
    ·apply⟨p,_,rfl,cN.of hp,λla hla=>?_⟩;rw[Zms];generalize zz:upd H la _=H1;obtain⟨s1,c1⟩:=nwO hla zz;apply⟨p,_,rfl,cN.of (s1 _ _ hp),λlb hlb=>?_⟩;rw[Zmr];generalize zz:upd H1 lb _=H2;obtain⟨s2,c2⟩:=nwO hlb zz;refine⟨la,lb,_,_,rfl,rfl,s2 _ _ c1,c2,cB (by rw[bF,List.length_drop];have h:=hlen;rw[List.length_cons]at h;show 1+_<=_;omega),λlt hlt=>?_⟩;have s3:=aG hlt (.lst ([.str a]++((w::r).drop 1).map V.str));apply h1 (by rw[et0,hn];rfl) _ (s1.trans (s2.trans s3))
    ·apply⟨p,_,rfl,cN.of hp,λla hla=>?_⟩;rw[Zms];generalize zz:upd H la _=H1;obtain⟨s1,c1⟩:=nwO hla zz;apply⟨p,_,rfl,cN.of (s1 _ _ hp),λlb hlb=>?_⟩;rw[Zmr];have s2:=aG hlb (.lst (r.map V.str));have c2:upd H1 lb (.lst (r.map V.str)) lb=some (.lst (r.map V.str)):=az;rw[show(w::r).drop 1=r from rfl];generalize upd H1 lb (.lst (r.map V.str))=H2 at s2 c2 ⊢;have hl2:r.length<=10000:=by rw[List.length_cons,List.length_cons]at hlen;omega
     refine⟨la,lb,_,_,rfl,rfl,s2 _ _ c1,c2,cB (by rw[bF];show 1+_<=_;omega),λlt hlt=>?_⟩;rw[show [V.str a]++r.map V.str=(a::r).map V.str from rfl];generalize zz:upd H2 lt _=H3;obtain⟨s3,c3⟩:=nwO hlt zz;have s13:=s1.trans (s2.trans s3);apply gZ (cN.of c3) ?_;exists fa,_,rfl,.inr (tf _);ext;rw[bF,bF,List.length_cons];refine pC (λz=>?_) (λz=>?_)
     ·apply h1 ?_ _ s13;rw[et0,hf,Option.bind_some,if_neg (λy=>z (by rw[<- y]))]
     ·have hlf:fs.length=(a::r).length:=by rw[List.length_cons];omega
      have e1:nJ (a::w::r)=(nQ fs (a::r)).map λvs=>(fs,vs):=by rw[et0,hf,Option.bind_some,if_pos (by rw[List.length_cons]at hlf;omega)]
      obtain⟨fl,hv⟩:=Zfb hlf;exists fa,lt,rfl,⟨_,tf _⟩,⟨_,cN.of c3⟩;refine Zow (t1:=true) (t2:=false) (xs:=fs.map V.str) (ys:=(a::r).map V.str) (λH' _=>tf H') (λH' s'=>cN.of (s' _ _ c3)) (by rw[bF,bF];exact hlf) (by rw[bF,hlf,List.length_cons];omega) (λi v=>∃f t,fs[i]? =some f/\(a::r)[i]? =some t/\v=Cd (cD f t)) (λi x y H4 hx hy s4 q' hq=>?_) λvs H4 s4 hlv hvv l hl4=>?_
      ·rw[fY]at hx hy;obtain⟨f,hf',rfl⟩:=Option.map_eq_some_iff.mp hx;obtain⟨t,ht',rfl⟩:=Option.map_eq_some_iff.mp hy;have lt':t.length<=10000:=by
        rcases List.mem_cons.mp (List.mem_of_getElem? ht')with rfl | hm
        ·exact hl t ζ
        ·exact hl t (by simp[hm])
       walk_at"c";apply⟨f,t,rfl,lt',λH5 s5=>hq _ _ s5 ⟨f,t,hf',ht',rfl⟩⟩
      have ev:vs=List.zipWith (λf t=>Cd (cD f t)) fs (a::r):=by
       refine List.ext_getElem? λi=>?_;rw[List.getElem?_zipWith];cases e1:vs[i]? with
       | none=>
        have:=List.getElem?_eq_none_iff.mp e1;rw[bF]at hlv;rw[List.getElem?_eq_none (show fs.length<=i by omega)]
       | some v=>
        obtain⟨f,t,ef,et,rfl⟩:=hvv i v e1;rw[ef,et]
      subst ev;generalize zz:upd H4 l _=H5;obtain⟨s5,c5⟩:=nwO hl4 zz;have s15:=s13.trans (s4.trans s5);exists l,_,rfl,.inl (cN.of c5),rfl,fl;rw[if_neg Bool.false_ne_true];rcases hv with ⟨v1,v2⟩ | ⟨v1,v2⟩
      ·rw[v1];refine⟨true,rfl,Im ?_⟩;apply h1 (by rw[e1,v2];rfl) _ s15
      ·rw[v1];refine⟨false,rfl,QJ ?_⟩;apply h2 fs _ (by rw[e1,v2];rfl) l _ s15 c5
  ·have hr:r=[]:=by
    cases r with
    | nil=>rfl
    | cons y r=>exact absurd (by rw[List.length_cons,List.length_cons];omega) z
   subst hr;apply⟨p,_,rfl,cN.of hp,λla hla=>?_⟩;rw[Zms];generalize zz:upd H la _=H1;obtain⟨s1,c1⟩:=nwO hla zz;apply⟨p,_,rfl,cN.of (s1 _ _ hp),λlb hlb=>?_⟩;rw[Zmr];have s2:=aG hlb (.lst []);have c2:upd H1 lb (.lst []) lb=some (.lst []):=az;rw[show(([]:AI).drop 1).map V.str=[]from rfl];generalize upd H1 lb (.lst [])=H2 at s2 c2 ⊢;refine⟨la,lb,_,_,rfl,rfl,s2 _ _ c1,c2,by show 1<=sizeLine;decide,λlt hlt=>?_⟩;have s3:=aG hlt (.lst ([.str a]++[]));apply h1 rfl _ (s1.trans (s2.trans s3))
end
theorem FZ{names:AI}:∀{f1 f2:AI}{u1 u2:List V},f1.length=u1.length->fQ names (f1++f2) (u1++u2)=(fQ names f1 u1).bind λa=>(fQ names f2 u2).map λb=>a++b
 | [],f2,[],u2,_=>by
  show fQ names f2 u2=(some []).bind _;rw[Option.bind_some];cases fQ names f2 u2<;>rfl
 | [],_,_::_,_,h=>by cases h
 | _::_,_,[],_,h=>by cases h
 | f::f1,f2,u::u1,u2,h=>by
  have ih:=FZ (names:=names) (f1:=f1) (f2:=f2) (u1:=u1) (u2:=u2) (Nat.succ.inj h);show(if f=bZ then(VG names u).bind λi=>(fQ names (f1++f2) (u1++u2)).map λus=>V.int i::us else(fQ names (f1++f2) (u1++u2)).map λus=>u::us)=(if f=bZ then(VG names u).bind λi=>(fQ names f1 u1).map λus=>V.int i::us else(fQ names f1 u1).map λus=>u::us).bind _;rw[ih];split
  ·cases VG names u with
   | none=>rfl
   | some i=>
    rw[Option.bind_some,Option.bind_some];cases fQ names f1 u1 with
    | none=>rfl
    | some a=>
     rw[Option.bind_some,Option.map_some,Option.bind_some];cases fQ names f2 u2<;>rfl
  ·cases fQ names f1 u1 with
   | none=>rfl
   | some a=>
    rw[Option.bind_some,Option.map_some,Option.bind_some];cases fQ names f2 u2<;>rfl
theorem FW{names:AI}{f:Str}{u:V}:fQ names [f] [u]=if f=bZ then(VG names u).map λi=>[V.int i]else some [u]:=by
 show(if f=bZ then(VG names u).bind λi=>(some []).map λus=>V.int i::us else(some []).map λus=>u::us)=_;split
 ·cases VG names u<;>rfl
 ·rfl
theorem iT{H Hx:Hp}{p:AJ}{o:HO}(s:bD H Hx)(hp:H p=none):bD H (upd Hx p o):=λb u q=>by rw[aQ (bI q hp)];exact s b u q
theorem Zld{names:AI}{z:Str}{j:Nat}(h:VG names (.str z)=some j):names[j]? =some z/\∀i,i<j->names[i]?≠some z:=by
 have h:(names.findIdx? λy=>decide (y=z))=some j:=h;obtain⟨hj,e,hf⟩:=List.findIdx?_eq_some_iff_getElem.mp h;refine⟨by rw[dF hj,of_decide_eq_true e],λi hi q=>?_⟩;have:=hf i hi;rw[dF (Nat.lt_trans hi hj)]at q;exact this (decide_eq_true (Option.some.inj q))
theorem Zle{names:AI}{z:Str}(h:VG names (.str z)=none):z∉names:=λhm=>by
 have h:(names.findIdx? λy=>decide (y=z))=none:=h;have:=List.findIdx?_eq_none_iff.mp h z hm;rw[decide_eq_true rfl]at this;cases this
def HSt(fs:AI)(us:List V):Prop:=∀(i:Nat) u,fs[i]? =some bZ->us[i]? =some u->∃z,u=.str z
def YM(K:aK)(C:AJ):Sp:=λvs H Q E=>∃fa tl k l,vs=[.ref fa,.ref tl,.int k,.ref l]/\∃(hs:List π) (fs:AI) (us:List V),qd K fa (fs.map V.str)/\H tl=some (.lst us)/\fs.length=us.length/\us.all jE=true/\HSt fs us/\HL H l hs/\hs.length<=5/\fs.length<=9/\1<=k/\k<=100000/\
 (fQ (hs.map (·.1)) fs us=none->Ex C k H E)/\∀ws,fQ (hs.map (·.1)) fs us=some ws->∀a H',bD H H'->H' a=some (.lst ws)->Q (.ref a) H'
section
variable {K:aK}{bR cH cG bK aU bh bf bA aZ aY aX bz aW aV aP aq aF aD aC:AJ}{H:Hp}{Q:VK}{E:XK}{n:ν}{bk ct:ν}
theorem Rv(T:Za K bK aU bh bf bA aZ aY aX bz aW aV aP aq aF aD aC){fa tl l:AJ}{k:Int}(q:∃(hs:List π) (fs:AI) (us:List V),qd K fa (fs.map V.str)/\H tl=some (.lst us)/\fs.length=us.length/\us.all jE=true/\HSt fs us/\HL H l hs/\hs.length<=5/\fs.length<=9/\1<=k/\k<=100000/\
 (fQ (hs.map (·.1)) fs us=none->Ex aD k H E)/\∀ws,fQ (hs.map (·.1)) fs us=some ws->∀a H',bD H H'->H' a=some (.lst ws)->Q (.ref a) H'):
  uK K aD (jb K) wW E ξ [↑fa,↑tl,some (.int k),↑l,none,none,none,none] H:=by
 obtain⟨hs,fs,us,tf,ht,hfu,hfl,hst,hl,h5,h9,k0,k1,h1,h2⟩:=q;unfold uK;apply⟨l,rfl,hs,hl,h5,λnm hnm=>?_⟩;generalize zz:upd H nm _=H1;obtain⟨s1,c1⟩:=nwO hnm zz;generalize hs.map (·.1)=names at c1 h1 h2;apply⟨ε,λa ha=>?_⟩;generalize zz:upd H1 a _=H2;obtain⟨s2,c2⟩:=nwO ha zz;exists fa,tl,rfl,⟨_,tf _⟩,⟨_,cN.of (s2 _ _ (s1 _ _ ht))⟩;refine Zqq (t1:=true) (t2:=false) (fs.map V.str) us (by rw[bF];exact hfu) (λi σ Hx=>∃v6 v7 ws,σ=[↑fa,↑tl,some (.int k),↑l,↑nm,↑a,v6,v7]/\bD H1 Hx/\fQ names (fs.take i) (us.take i)=some ws/\ws.length<=i/\Hx a=some (.lst ws)) ⟨none,none,[],rfl,s2,rfl,Nat.le_refl _,c2⟩ (λi σ Hx _ ⟨_,_,_,_,s,_⟩=>⟨tf Hx,cN.of (s _ _ (s1 _ _ ht))⟩) ?_ ?_
 ·rintro i x u tp σ Hx hx hu ⟨v6,v7,ws,rfl,sx,ew,lw,cx⟩ htp;rw[fY]at hx;obtain⟨f,hf,rfl⟩:=Option.map_eq_some_iff.mp hx;have hi:=(iB hf).1;have ef:fs.take (i+1)=fs.take i++[f]:=by rw[List.take_add_one,hf];rfl
  have eu:us.take (i+1)=us.take i++[u]:=by rw[List.take_add_one,hu];rfl
  have lf:(fs.take i).length=(us.take i).length:=by rw[List.length_take,List.length_take];omega
  have e1:fQ names (fs.take (i+1)) (us.take (i+1))=(fQ names [f] [u]).map λb=>ws++b:=by rw[ef,eu,FZ lf,ew];rfl
  have fu:jE u=true:=List.all_eq_true.mp hfl u (List.mem_of_getElem? hu);generalize zz:upd Hx tp _=H3;obtain⟨s3,c3⟩:=nwO htp zz;refine⟨tp,_,rfl,ig.of c3,rfl,?_⟩;refine⟨_,_,rfl,?_⟩;exists _,_,rfl;exists rfl;ext;have put:∀{v:V},fQ names [f] [u]=some [v]->(∃v6 v7 ws',[some (V.ref fa),↑tl,some (.int k),↑l,↑nm,↑a,some (.str f),some u]=[some (V.ref fa),↑tl,some (.int k),↑l,↑nm,↑a,v6,v7]/\bD H1 (upd H3 a (.lst (ws++[v])))/\fQ names (fs.take (i+1)) (us.take (i+1))=some ws'/\ws'.length<=i+1/\upd H3 a (.lst (ws++[v])) a=some (.lst ws')):=λ{v} e=>⟨_,_,ws++[v],rfl,iT (sx.trans s3) ha,by rw[e1,e];rfl,by rw[List.length_append];show ws.length+1<=_;omega,az⟩
  by_cases eh:f=bZ
  ·obtain⟨z,rfl⟩:=hst i u (by rw[hf,eh]) hu;refine iM ad (λz=>absurd eh z);exists nm,_,rfl,.inl (cN.of (s3 _ _ (sx _ _ c1))),rfl,Ez _;rw[if_pos rfl,wN];cases ei:VG names (.str z)with
   | none=>
    rw[decide_eq_false (Zle ei)];refine⟨_,rfl,?_⟩;apply tO T.Zgx T.sI δ k1 ((h1 ?_).go (s1.trans (sx.trans s3)));have e2:fQ names [f] [.str z]=none:=by rw[FW,if_pos eh,ei];rfl
    have e3:=FZ (names:=names) (f1:=fs.take (i+1)) (f2:=fs.drop (i+1)) (u1:=us.take (i+1)) (u2:=us.drop (i+1)) (by rw[List.length_take,List.length_take];omega);rw[List.take_append_drop,List.take_append_drop,e1,e2]at e3;exact e3
   | some j=>
    obtain⟨gj,gf⟩:=Zld ei;rw[decide_eq_true (List.mem_of_getElem? gj)];refine⟨_,rfl,?_⟩;exists .inl ⟨rfl,_,cN.of (s3 _ _ cx)⟩;apply iM ad (λz=>absurd eh z);exists .inl ⟨rfl,_,cN.of (s3 _ _ (sx _ _ c1))⟩;exists nm,_,_,j,rfl,rfl,cN.of (s3 _ _ (sx _ _ c1)),gj,gf;apply⟨a,_,_,rfl,rfl,s3 _ _ cx,by rw[sizeLine_eq];omega,?_⟩;apply put (by rw[FW,if_pos eh,ei];rfl)
  ·refine iM (λz=>absurd z eh) ad;exists .inl ⟨rfl,_,cN.of (s3 _ _ cx)⟩;apply iM (λz=>absurd z eh) ad;apply⟨a,_,_,rfl,rfl,s3 _ _ cx,by rw[sizeLine_eq];omega,?_⟩;apply put (by rw[FW,if_neg eh])
 ·rintro σ Hx ⟨v6,v7,ws,rfl,sx,ew,lw,cx⟩;rw[bF,List.take_length,hfu,List.take_length]at ew;apply h2 ws ew a _ (s1.trans sx) cx
end
def YX(hs:List π):AI->List V->Prop
 | f::fs,u::us=>(f=bZ->∃j:Nat,u=.int j/\j<hs.length)/\(f=cM->∃m,u=.int m)/\YX hs fs us
 | _,_=>True
theorem YX.drop{hs:List π}:∀{fs:AI}{us:List V} (i:Nat),YX hs fs us->YX hs (fs.drop i) (us.drop i)
 | fs,us,0,h=>h
 | [],us,i+1,h=>by rw[List.drop_nil];exact trivial
 | f::fs,[],i+1,h=>by
  rw[List.drop_nil];cases (f::fs).drop (i+1)<;>exact trivial
 | f::fs,u::us,i+1,h=>YX.drop i h.2.2
theorem Zcb{t:Str}{v:V}(h:cD bZ t=some v):v=.str t:=by
 unfold cD at h;rw[show nO.lookup bZ=none by decide]at h;dsimp only at h;rw[if_neg ε]at h;split at h
 ·cases h;rfl
 ·cases h
theorem Zca{t:Str}{v:V}(h:cD cM t=some v):∃m,v=.int m:=by
 unfold cD at h;rw[show nO.lookup cM=some (.int 999) by decide]at h;dsimp only at h;cases e:qX t (.int 999)with
 | none=>rw[e]at h;cases h
 | some m=>rw[e]at h;cases h;exact⟨m,rfl⟩
theorem O4:∀{fs ts:AI}{us:List V},fs.length=ts.length->nQ fs ts=some us->fs.length=us.length/\us.all jE=true/\(∀(i:Nat) f u,fs[i]? =some f->us[i]? =some u->∃t,ts[i]? =some t/\cD f t=some u)
 | [],[],us,_,h=>by
  have h:some []=some us:=h;cases h;exact⟨rfl,rfl,λi f u hf=>by simp at hf⟩
 | [],_::_,_,h,_=>by cases h
 | _::_,[],_,h,_=>by cases h
 | f::fs,t::ts,us,hl,h=>by
  have h:((cD f t).bind λv=>(nQ fs ts).map λvs=>v::vs)=some us:=h;cases e:cD f t with
  | none=>rw[e]at h;cases h
  | some v=>
   rw[e,Option.bind_some]at h;cases e2:nQ fs ts with
   | none=>rw[e2]at h;cases h
   | some ws=>
    rw[e2]at h;cases h;obtain⟨i1,i2,i3⟩:=O4 (Nat.succ.inj hl) e2;refine⟨by rw[List.length_cons,List.length_cons,i1],?_,λi g u hg hu=>?_⟩
    ·have:=O3 (f:=f) (t:=t);rw[e]at this;rw[List.all_cons,i2];show(jE v && true)=true;rw[show jE v=true from this];rfl
    ·cases i with
     | zero=>cases hg;cases hu;exact⟨t,rfl,e⟩
     | succ i=>exact i3 i g u hg hu
theorem Gb{ps:AI}{fs:AI}{us:List V}(h:nJ ps=some (fs,us)):∃a w r,ps=a::w::r/\jy.lookup w=some fs/\r.length+1=fs.length/\nQ fs (a::r)=some us:=by
 unfold nJ at h;split at h
 ·rename_i a w r
  cases e:jy.lookup w with
  | none=>rw[e]at h;cases h
  | some gs=>
   rw[e,Option.bind_some]at h;split at h
   ·rename_i hl
    cases e2:nQ gs (a::r)with
    | none=>rw[e2]at h;cases h
    | some vs=>rw[e2]at h;cases h;exact⟨a,w,r,rfl,e,hl,e2⟩
   ·cases h
 ·cases h
theorem Zpg:∀x∈jy,2<=x.2.length/\x.2.length<=4/\x.2.head? =some bZ/\x.1≠cX:=ε
theorem Zsf{α:Type}{l:List (Str×α)}{w:Str}{x:α}(h:l.lookup w=some x):(w,x)∈l:=by
 obtain⟨l1,l2,e1,_⟩:=List.lookup_eq_some_iff.mp h;rw[e1];simp
theorem Znd{ps:AI}{fs:AI}{us:List V}(h:nJ ps=some (fs,us)):fs.length=us.length/\us.all jE=true/\HSt fs us/\fs.length<=9:=by
 obtain⟨a,w,r,rfl,hf,hl,hv⟩:=Gb h;obtain⟨i1,i2,i3⟩:=O4 (by rw[List.length_cons];omega) hv;refine⟨i1,i2,λi u he hu=>?_,by have:fs.length<=4:=(Zpg _ (Zsf hf)).2.1;omega⟩;obtain⟨t,_,hv⟩:=i3 i _ u he hu;exact⟨t,Zcb hv⟩
theorem O1{names:AI}:∀{fs:AI}{us ws:List V},fs.length=us.length->fQ names fs us=some ws->ws.length=us.length/\∀(i:Nat) f w,fs[i]? =some f->ws[i]? =some w->(f=bZ->∃j:Nat,w=.int j/\j<names.length)/\(f≠bZ->us[i]? =some w)
 | [],[],ws,_,h=>by
  have h:some []=some ws:=h;cases h;exact⟨rfl,λi f u hf=>by simp at hf⟩
 | [],_::_,_,h,_=>by cases h
 | _::_,[],_,h,_=>by cases h
 | f::fs,u::us,ws,hl,h=>by
  have h:(if f=bZ then(VG names u).bind λi=>(fQ names fs us).map λus=>V.int i::us else(fQ names fs us).map λus=>u::us)=some ws:=h;split at h
  ·rename_i ef
   cases e:VG names u with
   | none=>rw[e]at h;cases h
   | some j=>
    rw[e,Option.bind_some]at h;cases e2:fQ names fs us with
    | none=>rw[e2]at h;cases h
    | some vs=>
     rw[e2]at h;cases h;obtain⟨i1,i2⟩:=O1 (Nat.succ.inj hl) e2;refine⟨by rw[List.length_cons,List.length_cons,i1],λi g w hg hw=>?_⟩;cases i with
     | zero=>
      cases hg;cases hw;refine⟨λ_=>⟨j,rfl,?_⟩,λz=>absurd ef z⟩;unfold VG at e;split at e
      ·exact(List.findIdx?_eq_some_iff_getElem.mp e).1
      ·cases e
     | succ i=>exact i2 i g w hg hw
  ·rename_i ef
   cases e2:fQ names fs us with
   | none=>rw[e2]at h;cases h
   | some vs=>
    rw[e2]at h;cases h;obtain⟨i1,i2⟩:=O1 (Nat.succ.inj hl) e2;refine⟨by rw[List.length_cons,List.length_cons,i1],λi g w hg hw=>?_⟩;cases i with
    | zero=>cases hg;cases hw;exact⟨λz=>absurd z ef,λ_=>rfl⟩
    | succ i=>exact i2 i g w hg hw
theorem Zqi{hs:List π}:∀{fs:AI}{us:List V},fs.length=us.length->(∀(i:Nat) f w,fs[i]? =some f->us[i]? =some w->(f=bZ->∃j:Nat,w=.int j/\j<hs.length)/\(f=cM->∃m,w=.int m))->YX hs fs us
 | [],_,_,_=>trivial
 | _::_,[],h,_=>by cases h
 | f::fs,u::us,hl,h=>⟨(h 0 f u rfl rfl).1,(h 0 f u rfl rfl).2,Zqi (Nat.succ.inj hl) λi g w hg hw=>h (i+1) g w hg hw⟩
theorem Zne{hs:List π}{ps fs:AI}{us ws:List V}(h:nJ ps=some (fs,us))(hw:fQ (hs.map (·.1)) fs us=some ws):fs.length=ws.length/\YX hs fs ws:=by
 obtain⟨a,w,r,rfl,hf,hl,hv⟩:=Gb h;obtain⟨i1,i2,i3⟩:=O4 (by rw[List.length_cons];omega) hv;obtain⟨g1,g2⟩:=O1 i1 hw;refine⟨δ,Zqi δ λi f v hf hv=>?_⟩;obtain⟨g3,g4⟩:=g2 i f v hf hv;refine⟨λz=>by obtain⟨j,e,lt⟩:=g3 z;rw[bF]at lt;exact⟨j,e,lt⟩,λz=>?_⟩;obtain⟨t,_,e⟩:=i3 i f v hf (g4 (by rw[z];decide));rw[z]at e;exact Zca e
theorem Xp{hs:List π}{o:Nat}{f:Str}{fs:AI}{j:Int}{us:List V}(e:f=bZ):fV hs o (f::fs) (.int j::us)=fV hs j.toNat fs us:=by rw[fV,if_pos e]
theorem Nb{hs:List π}{o:Nat}{f:Str}{fs:AI}{m:Int}{us:List V}{x:Str×Int}(n:¬ f=bZ)(e:f=cM)(h:hs[o]? =some x):fV hs o (f::fs) (.int m::us)=(decide (m<x.2) && fV hs o fs us):=by rw[fV,if_neg n,if_pos e,h]
theorem Xo{hs:List π}{o:Nat}{f:Str}{fs:AI}{u:V}{us:List V}(n:¬ f=bZ)(n2:¬ f=cM):fV hs o (f::fs) (u::us)=fV hs o fs us:=by
 conv=>lhs;unfold fV
 rw[if_neg n,if_neg n2]
def YT(K:aK)(C:AJ):Sp:=λvs H Q E=>∃fa vl k l,vs=[.ref fa,.ref vl,.int k,.ref l]/\∃(hs:List π) (fs:AI) (us:List V),qd K fa (fs.map V.str)/\H vl=some (.lst us)/\fs.length=us.length/\YX hs fs us/\HL H l hs/\1<=hs.length/\1<=k/\k<=100000/\
 (fV hs 0 fs us=false->Ex C k H E)/\(fV hs 0 fs us=true->∀H',bD H H'->Q .non H')
section
variable {K:aK}{bR cH cG bK aU bh bf bA aZ aY aX bz aW aV aP aq aF aD aC:AJ}{H:Hp}{Q:VK}{E:XK}{n:ν}{bk ct:ν}
theorem HS(T:Za K bK aU bh bf bA aZ aY aX bz aW aV aP aq aF aD aC){fa vl l:AJ}{k:Int}(q:∃(hs:List π) (fs:AI) (us:List V),qd K fa (fs.map V.str)/\H vl=some (.lst us)/\fs.length=us.length/\YX hs fs us/\HL H l hs/\1<=hs.length/\1<=k/\k<=100000/\
 (fV hs 0 fs us=false->Ex aC k H E)/\(fV hs 0 fs us=true->∀H',bD H H'->Q .non H')):
  oX K aC (jb K) E ⟨λ_ H'=>Q .non H',Q,bk,ct⟩ [↑fa,↑vl,some (.int k),↑l,none,none,none] H:=by
 obtain⟨hs,fs,us,tf,hv,hfu,lk,hl,hl1,k0,k1,h1,h2⟩:=q;unfold oX;exists fa,vl,rfl,⟨_,tf _⟩,⟨_,cN.of hv⟩;refine Zqq (t1:=true) (t2:=false) (fs.map V.str) us (by rw[bF];exact hfu) (λi σ Hx=>∃(o:Nat) (v5 v6:Option V),σ=[↑fa,↑vl,some (.int k),↑l,some (.int o),v5,v6]/\bD H Hx/\o<hs.length/\fV hs 0 fs us=fV hs o (fs.drop i) (us.drop i)) ⟨0,none,none,rfl,bD.refl _,hl1,rfl⟩ (λi σ Hx _ ⟨_,_,_,_,s,_⟩=>⟨tf Hx,cN.of (s _ _ hv)⟩) ?_ ?_
 ·rintro i x u tp σ Hx hx hu ⟨o,v5,v6,rfl,sx,lo,el⟩ htp;rw[fY]at hx;obtain⟨f,hf,rfl⟩:=Option.map_eq_some_iff.mp hx;have hi:=(iB hf).1;have ef:fs.drop i=f::fs.drop (i+1):=by
   rw[List.drop_eq_getElem_cons hi];congr 1;exact(iB hf).2
  have eu:us.drop i=u::us.drop (i+1):=by
   rw[List.drop_eq_getElem_cons δ];congr 1;exact(iB hu).2
  have lki:=lk.drop i;rw[ef,eu]at lki el;obtain⟨q1,q2,_⟩:=lki;generalize zz:upd Hx tp _=H3;obtain⟨s3,c3⟩:=nwO htp zz;refine⟨tp,_,rfl,ig.of c3,rfl,?_⟩;refine⟨_,_,rfl,?_⟩;exists _,_,rfl;exists rfl;ext
  by_cases eh:f=bZ
  ·obtain⟨j,rfl,lj⟩:=q1 eh;rw[Xp eh]at el;refine iM ad (λz=>absurd eh z);apply iM (λe=>absurd (eh.symm.trans e) ε) ad;apply⟨j,_,_,rfl,sx.trans s3,lj,el⟩
  ·refine iM (λz=>absurd z eh) ad;apply iM (λe=>?_) (λe=>?_)
   ·obtain⟨m,rfl⟩:=q2 e;have eo:hs[o]? =some hs[o]:=dF lo;rw[Nb eh e eo]at el;obtain⟨as,g1,g2,g3⟩:=hl;have ao:as[o]? =some (as[o]' δ):=dF δ;obtain⟨x',ex',ax⟩:=g3 o _ ao;rw[eo]at ex';cases ex';apply cV (cN.of (s3 _ _ (sx _ _ g1))) (pN (by rw[fY,ao];rfl)) ?_;exists _,_,1,_,rfl,rfl,ig.of (s3 _ _ (sx _ _ ax)),rfl;apply iM (λz=>?_) (λz=>?_)
    ·ext;rw[decide_eq_false δ,Bool.false_and]at el;exact tO T.Zgw T.sH δ k1 ((h1 el).go (sx.trans s3))
    ·ext;rw[decide_eq_true δ,Bool.true_and]at el;exact⟨o,_,_,rfl,sx.trans s3,lo,el⟩
   ·rw[Xo eh e]at el;apply⟨o,_,_,rfl,sx.trans s3,lo,el⟩
 ·rintro σ Hx ⟨o,v5,v6,rfl,sx,_,el⟩;rw[bF,List.drop_length]at el;exact h2 el _ sx
end
def clA(B T N S:AJ):Cl->AJ
 | .form=>B
 | .twice=>T
 | .hand=>N
 | .slot=>S
def YL(B T N S:AJ):Sp:=λvs H Q E=>∃p k l,vs=[.ref p,.int k,.ref l]/\∃(hs:List π) (ps:AI),H p=some (.lst (ps.map V.str))/\ps≠[]/\ps.length<=10001/\(∀t∈ps,t.length<=10000)/\HL H l hs/\1<=hs.length/\hs.length<=5/\1<=k/\k<=100000/\(fP hs ps=none->∀a H',bD H H'->Q (.ref a) H')/\∀c,fP hs ps=some c->Ex (clA B T N S c) k H E
section
variable {K:aK}{bR cH cG bK aU aq aF aD aC:AJ}{H:Hp}{Q:VK}{E:XK}{n:ν}{bk ct:ν}
theorem Wm{p l:AJ}{k:Int}(q:∃(hs:List π) (ps:AI),H p=some (.lst (ps.map V.str))/\ps≠[]/\ps.length<=10001/\(∀t∈ps,t.length<=10000)/\HL H l hs/\1<=hs.length/\hs.length<=5/\1<=k/\k<=100000/\(fP hs ps=none->∀a H',bD H H'->Q (.ref a) H')/\∀c,fP hs ps=some c->Ex (clA aq aF aD aC c) k H E):
  vV K (wX K) (YT K aC) zN YQ (uV aq) (YM K aD) E ξ [↑p,some (.int k),↑l,none,none,none] H:=by
 obtain⟨hs,ps,hp,hne,hlen,hlt,hl,hl1,h5,k0,k1,h1,h2⟩:=q;cases ps with
 | nil=>exact absurd rfl hne
 | cons a r=>
  unfold vV;apply cV (cN.of hp) (bT ε rfl) ?_;apply iM (λz=>?_) (λz=>?_)
  ·have ew:fP hs (a::r)=if (vJ (a::r)).isSome=true then none else some .form:=by
    unfold fP;rw[if_pos (show(a::r).head? =some cX from congrArg some z)]
   apply⟨p,rfl,_,hp,hlt,λhn H1 s1=>?_,λm hm a' H1 s1 ha=>?_⟩
   ·apply⟨_,k,rfl,k0,k1,λy=>absurd rfl y,λ_=>(h2 .form ?_).go s1⟩;rw[ew,hn];rfl
   ·apply⟨_,k,rfl,k0,k1,λ_=>h1 ?_ a' _ s1,λy=>by cases y⟩;rw[ew,hm];rfl
  ·have ew:fP hs (a::r)=match nJ (a::r)with
     | none=>some .form
     | some (fs,vs)=>match fQ (hs.map (·.1)) fs vs with
      | none=>some .hand
      | some us=>if fV hs 0 fs us=true then none else some .slot:=by
    conv=>lhs;unfold fP
    rw[if_neg (show ¬ (a::r).head? =some cX from λy=>z (Option.some.inj y))]
    try rfl
   apply⟨p,rfl,_,hp,hne,hlen,hlt,λhn H1 s1=>?_,λfs us hm tl H1 s1 ht=>?_⟩
   ·apply⟨_,k,rfl,k0,k1,λy=>absurd rfl y,λ_=>(h2 .form ?_).go s1⟩;rw[ew,hn]
   ·rw[hm]at ew;dsimp only at ew;obtain⟨a',w,r',e0,hf,hlf,hv⟩:=Gb hm;cases e0;obtain⟨t1,t2,t3,t4⟩:=Znd hm;apply⟨_,k,rfl,k0,k1,λ_=>?_,λy=>by cases y⟩;apply cV (cN.of (s1 _ _ hp)) (bT ε rfl) ?_;apply⟨w,rfl,λhn=>(by rw[hf]at hn;cases hn),λgs hg fa tf=>?_⟩;rw[hf]at hg;cases hg;apply⟨fa,tl,k,l,rfl,hs,fs,us,tf,ht,t1,t2,t3,hl.same s1,h5,t4,k0,k1,λhn=>(h2 .hand ?_).go s1,λws hw vl H2 s2 hv2=>?_⟩
    ·rw[ew,hn]
    rw[hw]at ew;dsimp only at ew;obtain⟨l1,l2⟩:=Zne hm hw;apply⟨fa,vl,k,l,rfl,hs,fs,ws,tf,hv2,l1,l2,hl.same (s1.trans s2),hl1,k0,k1,λhn=>(h2 .slot ?_).go (s1.trans s2),λhn H3 s3=>?_⟩
    ·rw[ew,if_neg (by rw[hn];exact Bool.false_ne_true)]
    rw[if_pos hn]at ew;have s13:=s1.trans (s2.trans s3);apply cV (cN.of (s13 _ _ hp)) (bT ε rfl) ?_;apply⟨by show 1<=_;decide,λlw hlw=>?_⟩;generalize zz:upd H3 lw _=H4;obtain⟨s4,c4⟩:=nwO hlw zz;apply⟨lw,vl,_,_,rfl,rfl,c4,s4 _ _ (s3 _ _ hv2),cB (by show 1+_<=_;omega),λlc hlc=>?_⟩;have s5:=aG hlc (.lst ([.str w]++ws));apply⟨lc,_,rfl,.inl ⟨cN.of az,λtp htp=>?_⟩⟩;exact h1 ew tp _ (s13.trans (s4.trans (s5.trans (aG htp _))))
end
theorem HL.add{H Hx:Hp}{l b:AJ}{hs:List π}{x:Str×Int}{as:AG}(h1:Hx l=some (.lst (as.map V.ref)))(h2:as.length=hs.length)(h3:∀(i:Nat) a,as[i]? =some a->∃x,hs[i]? =some x/\Hx a=some (.tup [.str x.1,.int x.2]))(hb:Hx b=some (.tup [.str x.1,.int x.2])):HL (upd Hx l (.lst (as.map V.ref++[.ref b]))) l (hs++[x]):=by
 have nt:∀{c:AJ}{xs:List V},Hx c=some (.tup xs)->c≠l:=λhc e=>by rw[e,h1]at hc;cases hc
 refine⟨as++[b],by rw[az,List.map_append];rfl,by rw[List.length_append,List.length_append,h2];rfl,λi a ha=>?_⟩
 by_cases hi:i<as.length
 ·rw[List.getElem?_append_left hi]at ha;obtain⟨y,ey,hy⟩:=h3 i a ha;exact⟨y,by rw[List.getElem?_append_left δ];exact ey,by rw[aQ (nt hy)];exact hy⟩
 ·rw[List.getElem?_append_right δ]at ha;have hi2:i - as.length=0:=by
   have:=(iB ha).1;simp at this;omega
  rw[hi2]at ha;cases ha;refine⟨x,?_,by rw[aQ (nt hb)];exact hb⟩;rw[List.getElem?_append_right δ,<- h2,hi2];rfl
def su(C:AJ):Sp:=λvs H Q E=>∃p m kd hl rl,vs=[.ref p,.int m,.ref kd,.ref hl,.ref rl]/\∃dx xs ys,H p=some (.ins C dx [])/\H hl=some (.lst xs)/\H rl=some (.lst ys)/\∀H' h2 r2,H' p=some (.ins C dx (Gr m kd h2 r2))->H' h2=some (.lst xs)->H' r2=some (.lst ys)->(∀b o,H b=some o->b≠p->H' b=some o)->Q .non H'
def zP(B T N S:AJ):Sp:=λvs H Q E=>∃a,vs=[.ref a]/\∃rows:AI,H a=some (.lst (rows.map V.str))/\(∀r∈rows,r.length<=10000)/\um rows 2=some (.s2 [])/\(∀hs:List π,um rows (3+hs.length)=some (.s3 hs 0)->1<=hs.length->hs.length<=5->∀l H',bD H H'->HL H' l hs->Q (.ref l) H')/\∀c k,jZ rows c k->Ex (clA B T N S c) ((k:Int)+1) H E
def Nk(B T N S:AJ):Sp:=λvs H Q E=>∃a k l,vs=[.ref a,.int k,.ref l]/\∃(rows:AI) (hs:List π),H a=some (.lst (rows.map V.str))/\(∀r∈rows,r.length<=10000)/\rows.length<=10000/\HL H l hs/\1<=hs.length/\hs.length<=5/\k=4+(hs.length:Int)/\um rows (3+hs.length)=some (.s3 hs 0)/\(∀m,xU rows m->∀p ys H',bD H H'->H' p=some (.lst ys)->ys.length=m->Q (.ref p) H')/\∀c j,jZ rows c j->Ex (clA B T N S c) ((j:Int)+1) H E
def rB(CS B T N S:AJ):Sp:=λvs H Q E=>∃z,vs=[.str z]/\z.length<=1000000/\(Txt.split z xQ).length<=10000/\(∀r∈Txt.split z xQ,r.length<=10000)/\(∀r,(Txt.split z xQ)[1]? =some r->r.length<=100)/\(∀m,xU (Txt.split z xQ) m->∀sc dx rm kd hl rl ys H',bD H H'->H' sc=some (.ins CS dx (Gr rm kd hl rl))->H' rl=some (.lst ys)->ys.length=m->Q (.ref sc) H')/\∀c j,jZ (Txt.split z xQ) c j->Ex (clA B T N S c) ((j:Int)+1) H E
theorem Zhc{hs:List π}{r:Str}(h:hs=[]\/r≠gh)(h5:hs.length≠5):dM (.s2 hs) r=match lK ag with
  | none=>.error .form
  | some x=>if x.1∈hs.map (·.1)then .error .twice else .ok (.s2 (hs++[x])):=by
 conv=>lhs;unfold dM;dsimp only
 rw[if_neg (λz=>h.elim z.1 (λy=>y z.2)),if_neg h5]
 try rfl
section
variable {K:aK}{bR cH cG bK aU bh bf bA aZ aY aX bz aW aV aP aq aF aD aC:AJ}{H:Hp}{Q:VK}{E:XK}{n:ν}{bk ct:ν}
theorem Fp{p kd hl rl:AJ}{m:Int}(T:Za K bK aU bh bf bA aZ aY aX bz aW aV aP aq aF aD aC)(q:∃dx xs ys,H p=some (.ins aU dx [])/\H hl=some (.lst xs)/\H rl=some (.lst ys)/\∀H' h2 r2,H' p=some (.ins aU dx (Gr m kd h2 r2))->H' h2=some (.lst xs)->H' r2=some (.lst ys)->(∀b o,H b=some o->b≠p->H' b=some o)->Q .non H'):
  nW K ⟨λ_ H'=>Q .non H',Q,bk,ct⟩ [↑p,some (.int m),↑kd,↑hl,↑rl] H:=by
 obtain⟨dx,xs,ys,hp,hh,hr,h⟩:=q;have nhp:hl≠p:=λe=>by rw[e,hp]at hh;cases hh
 have nrp:rl≠p:=λe=>by rw[e,hp]at hr;cases hr
 unfold nW;exists p,aU,dx,[],rfl,hp,T.qb,T.Zs7,ε;apply⟨p,aU,dx,_,rfl,az,T.qb,T.Zs8,by show 1<1000;decide,?_⟩;rw[Wn];apply Zg3 (cN.of (by rw[aQ nhp];exact hh)) λh2 nh2=>?_;have np2:p≠h2:=λe=>by rw[<- e,az]at nh2;cases nh2
 apply⟨p,aU,dx,_,rfl,by rw[aQ np2];exact az,T.qb,T.Zom,by show 2<1000;decide,?_⟩;ext;have Zs6:h2≠p:=Ne.symm np2;have nrh:rl≠h2:=λe=>by rw[<- e,aQ nrp,hr]at nh2;cases nh2
 refine Zg3 (cN.of (by rw[aQ nrp,aQ nrh,aQ nrp];exact hr)) λr2 nr2=>?_;have npr:p≠r2:=λe=>by rw[<- e,az]at nr2;cases nr2
 have Zwp:r2≠p:=Ne.symm npr;have nhr:h2≠r2:=λe=>by rw[<- e,aQ Zs6,az]at nr2;cases nr2
 apply⟨p,aU,dx,_,rfl,by rw[aQ npr];exact az,T.qb,T.Zkq,by show 3<1000;decide,?_⟩;refine h _ h2 r2 ?_ ?_ ?_ λb o hb nb=>?_
 ·rw[az,Zhg]
 ·rw[aQ Zs6,aQ nhr,aQ Zs6,az]
 ·rw[aQ Zwp,az]
 ·have n1:b≠h2:=λe=>by rw[<- e,aQ nb,hb]at nh2;cases nh2
  have n2:b≠r2:=λe=>by rw[<- e,aQ nb,aQ n1,aQ nb,hb]at nr2;cases nr2
  rw[aQ nb,aQ n2,aQ nb,aQ n1,aQ nb];exact hb
theorem Zb0(T:Za K bK aU bh bf bA aZ aY aX bz aW aV aP aq aF aD aC){a:AJ}(q:∃rows:AI,H a=some (.lst (rows.map V.str))/\(∀r∈rows,r.length<=10000)/\um rows 2=some (.s2 [])/\(∀hs:List π,um rows (3+hs.length)=some (.s3 hs 0)->1<=hs.length->hs.length<=5->∀l H',bD H H'->HL H' l hs->Q (.ref l) H')/\∀c k,jZ rows c k->Ex (clA aq aF aD aC c) ((k:Int)+1) H E):
  yC K aq (jb K) (Fz aq aF) (pO aq) E ξ [↑a,none,none] H:=by
 obtain⟨rows,ha,hlr,e2,hq,he⟩:=q;have hx:∀{hs:List π}{i:Nat}{H1:Hp},um rows (2+i)=some (.s2 hs)->hs.length=i->bD H H1->(rows[2+i]? =none->Ex aq (3+(i:Int)) H1 E)/\∀r,rows[2+i]? =some r->((hs=[]\/r≠gh)->hs.length≠5->(lK ag=none->Ex aq (3+(i:Int)) H1 E)/\∀x,lK ag=some x->(x.1∈hs.map (·.1)->Ex aF (3+(i:Int)) H1 E)/\(x.1∉hs.map (·.1)->um rows (2+(i+1))=some (.s2 (hs++[x])))):=by
  intro hs i H1 er hl s1;have ek:((2+i:Nat):Int)+1=3+(i:Int):=δ
  refine⟨λhn=>?_,λr hr hw h5=>?_⟩
  ·have:=(he .form (2+i) ⟨_,er,.inr ⟨hn,rfl,λ_ _ z=>by cases z⟩⟩).go s1;rw[ek]at this;exact this
  ·have st:=Zhc hw h5;refine⟨λhn=>?_,λx hxx=>⟨λhm=>?_,λhm=>?_⟩⟩
   ·rw[hn]at st;have:=(he .form (2+i) ⟨_,er,.inl ⟨r,hr,st⟩⟩).go s1;rw[ek]at this;exact this
   ·rw[hxx]at st;dsimp only at st;rw[if_pos hm]at st;have:=(he .twice (2+i) ⟨_,er,.inl ⟨r,hr,st⟩⟩).go s1;rw[ek]at this;exact this
   ·rw[hxx]at st;dsimp only at st;rw[if_neg hm]at st;exact mQ er hr st
 unfold yC;apply⟨ε,λe0 he0=>?_⟩;generalize zz:upd H e0 _=H1;obtain⟨s1,c1⟩:=nwO he0 zz;ext;have g0:=hx (hs:=[]) (i:=0) e2 rfl s1;refine⟨a,3,e0,rfl,rows,[],s1 _ _ ha,hlr,ε,ε,⟨[],c1,rfl,λi a h=>by cases h⟩,ε,g0.1,λr hr=>?_⟩;obtain⟨g1,g2⟩:=g0.2 r hr (.inl rfl) ε;refine⟨g1,λx hxx=>⟨(g2 x hxx).1,λnx b H2 s2 hb=>?_⟩⟩;have er1:=(g2 x hxx).2 nx;apply⟨by show 1<=_;decide,λl hl=>?_⟩;generalize zz:upd H2 l _=H3;obtain⟨s3,c3⟩:=nwO hl zz;have hl0:H l=none:=s1.free (s2.free hl);exists λk σ Hx=>∃(i:Nat) (hs:List π),k=6 - i/\1<=i/\i<=5/\hs.length=i/\σ=[↑a,↑l,some (.int (3+(i:Int)))]/\bD H Hx/\HL Hx l hs/\um rows (2+i)=some (.s2 hs),⟨_,1,[x],rfl,Nat.le_refl _,ε,rfl,rfl,s1.trans (s2.trans s3),⟨[b],c3,rfl,λi c hc=>?_⟩,er1⟩
 ·match i,hc with
  | 0,hc=>cases hc;exact⟨x,rfl,s3 _ _ hb⟩
  | i+1,hc=>cases hc
 rintro k σ Hx ⟨i,hs,rfl,i1,i5,li,rfl,sx,hlx,er⟩;obtain⟨as,g1,g2,g3⟩:=id hlx;have gx:=hx er li sx;have hidx:((3+(i:Int)) - 1).toNat=2+i:=δ
 apply⟨a,_,rfl,rows,sx _ _ ha,δ,δ,λr hr=>?_,λhn=>?_⟩
 ·rw[hidx]at hr;apply pC (λnw=>?_) (λew=>?_)
  ·refine⟨λσ' H'=>∃m',m'<6 - i/\∃(i:Nat) (hs:List π),m'=6 - i/\1<=i/\i<=5/\hs.length=i/\σ'=[↑a,↑l,some (.int (3+(i:Int)))]/\bD H H'/\HL H' l hs/\um rows (2+i)=some (.s2 hs),λσ' H' z=>z,?_⟩;apply gZ (cN.of g1) ?_;ext;rw[bF,g2,li];refine iM (λz=>?_) (λz=>?_)
   ·apply tO T.zq T.lR δ δ ?_;have st:dM (.s2 hs) r=.error .form:=by
     conv=>lhs;unfold dM;dsimp only
     rw[if_neg (λy=>nw y.2),if_pos δ]
    have:=(he .form (2+i) ⟨_,er,.inl ⟨r,hr,st⟩⟩).go sx;rw[show((2+i:Nat):Int)+1=3+(i:Int) by omega]at this;exact this
   ·obtain⟨q1,q2⟩:=gx.2 r hr (.inr nw) δ;exists .inl ⟨rfl,_,cN.of g1⟩;apply⟨a,_,l,rfl,rows,hs,sx _ _ ha,hlr,δ,δ,hlx,δ,λhn=>?_,λr' hr'=>?_⟩
    ·rw[hidx,hr]at hn;cases hn
    rw[hidx,hr]at hr';cases hr';refine⟨q1,λy hy=>⟨(q2 y hy).1,λny c H4 s4 hc=>?_⟩⟩;apply⟨l,_,_,rfl,rfl,s4 _ _ g1,by rw[bF,sizeLine_eq];omega,?_⟩;apply⟨_,Nat.sub_lt_sub_left δ (Nat.lt_succ_self i),i+1,hs++[y],rfl,δ,δ,by rw[List.length_append,li];rfl,by rw[show(3:Int)+(i:Int)+1=3+((i+1:Nat):Int)from δ],iT (sx.trans s4) hl0,?_,(q2 y hy).2 ny⟩;exact HL.add (H:=H) (s4 _ _ g1) g2 (λj c hc=>let ⟨x,e1,e2⟩:=g3 j c hc;⟨x,e1,s4 _ _ e2⟩) hc
  ·apply hq hs ?_ δ δ l _ sx hlx;have st:dM (.s2 hs) r=.ok (.s3 hs 0):=by
    conv=>lhs;unfold dM;dsimp only
    rw[if_pos ⟨λy=>by rw[y]at li;rw[<- li]at i1;exact absurd i1 ε,ew⟩]
   have:=mQ er hr st;rw[li,show 3+i=2+i+1 by omega];exact this
 ·rw[hidx]at hn;exact gx.1 hn
theorem Zj(T:Za K bK aU bh bf bA aZ aY aX bz aW aV aP aq aF aD aC){a l:AJ}{k:Int}(q:∃(rows:AI) (hs:List π),H a=some (.lst (rows.map V.str))/\(∀r∈rows,r.length<=10000)/\rows.length<=10000/\HL H l hs/\1<=hs.length/\hs.length<=5/\k=4+(hs.length:Int)/\um rows (3+hs.length)=some (.s3 hs 0)/\(∀m,xU rows m->∀p ys H',bD H H'->H' p=some (.lst ys)->ys.length=m->Q (.ref p) H')/\∀c j,jZ rows c j->Ex (clA aq aF aD aC c) ((j:Int)+1) H E):
  yr K aq (jb K) (YL aq aF aD aC) E ξ [↑a,some (.int k),↑l,none,none] H:=by
 obtain⟨rows,hs,ha,hlr,lr,hl,h1,h5,rfl,er,hq,he⟩:=q;have hle:=Zfi er;unfold yr;apply⟨ε,λw hw=>?_⟩;generalize zz:upd H w _=H1;obtain⟨s1,c1⟩:=nwO hw zz;ext;unfold Zas;apply gZ (cN.of (s1 _ _ ha)) ?_;ext;rw[bF];refine⟨_,_,rfl,⟨δ,δ,δ,δ⟩,?_⟩;rw[show((rows.length:Int)+1 - (4+(hs.length:Int))).toNat=rows.length - (3+hs.length)from δ];refine forR (λi σ Hx=>∃v4 ys,σ=[↑a,some (.int (4+(hs.length:Int))),↑l,↑w,v4]/\bD H Hx/\Hx w=some (.lst ys)/\ys.length=i/\um rows (3+hs.length+i)=some (.s3 hs i)) ⟨none,[],rfl,s1,c1,rfl,er⟩ ?_ ?_
 ·rintro i σ Hx hi ⟨v4,ys,rfl,sx,cw,ly,ei⟩;have hri:rows[3+hs.length+i]? =some rows[3+hs.length+i]:=dF δ;have hlen:=hlr _ (List.getElem_mem (show 3+hs.length+i<rows.length by omega));generalize rows[3+hs.length+i]=r at hri hlen;have ek:((3+hs.length+i:Nat):Int)+1=4+(hs.length:Int)+(i:Int):=δ
  have bad:∀{c:Cl}{H2:Hp},bD H H2->dM (.s3 hs i) r=.error c->Ex (clA aq aF aD aC c) (4+(hs.length:Int)+(i:Int)) H2 E:=λ{c H2} s st=>by
   have:=(he c _ ⟨_,ei,.inl ⟨r,hri,st⟩⟩).go s;rw[ek]at this;exact this
  apply gZ (cN.of cw) ?_;ext;rw[ly];refine iM (λz=>?_) (λz=>?_)
  ·apply tO T.zq T.lR δ δ (bad (c:=.form) sx ?_)
   conv=>lhs;unfold dM;dsimp only
   rw[if_pos δ]
  ·have st:dM (.s3 hs i) r=match fP hs ag with
     | some e=>.error e
     | none=>.ok (.s3 hs (i+1)):=by
    conv=>lhs;unfold dM;dsimp only
    rw[if_neg δ]
    try rfl
   exists .inl ⟨rfl,_,cN.of cw⟩;apply cV (cN.of (sx _ _ ha)) (bT δ (by rw[fY,show((4+(hs.length:Int)+(i:Int)) - 1).toNat=3+hs.length+i by omega,hri];rfl)) ?_;apply⟨r,_,rfl,rfl,ε,δ,λp hp=>?_⟩;rw[show Txt.split r " "=Txt.split r iD from rfl];generalize zz:upd Hx p _=H2;obtain⟨s2,c2⟩:=nwO hp zz;ext;have ss:=Gj r;refine⟨p,_,l,rfl,hs,Txt.split r iD,c2,Dm r,δ,λt ht=>Nat.le_trans (split_len ht) hlen,hl.same (sx.trans s2),h1,h5,δ,δ,λhn tp H3 s3=>?_,λc hc=>bad (sx.trans s2) (by rw[st,hc])⟩;rw[hn]at st;have s23:=s2.trans s3;apply⟨w,_,_,rfl,rfl,s23 _ _ cw,by rw[ly,sizeLine_eq];omega,?_⟩;apply⟨_,ys++[.ref tp],rfl,iT (sx.trans s23) hw,az,by rw[List.length_append,ly];rfl,mQ ei hri st⟩
 ·rintro σ Hx ⟨v4,ys,rfl,sx,cw,ly,ei⟩;apply hq _ ⟨hs,?_⟩ w ys _ sx cw ly;rw[show 3+hs.length+(rows.length - (3+hs.length))=rows.length by omega]at ei;exact ei
end
def rG:Cl->Str
 | .form=>"form"
 | .twice=>"twice"
 | .hand=>"hand"
 | .slot=>"slot"
def J8(z:Str):Prop:=z.length<=1000000/\(Txt.split z xQ).length<=10000/\(∀r∈Txt.split z xQ,r.length<=10000)/\∀r,(Txt.split z xQ)[1]? =some r->r.length<=100
def uB:Sp:=λvs H Q E=>∃z,vs=[.str z]/\J8 z/\(∀m,xU (Txt.split z xQ) m->∀p H',bD H H'->H' p=some (.tup [.str "good",.int 0])->Q (.ref p) H')/\∀c (j:Nat),jZ (Txt.split z xQ) c j->∀p H',bD H H'->H' p=some (.tup [.str (rG c),.int ((j:Int)+1)])->Q (.ref p) H'
def clB(c:Cl):List V:=(match c with
 | .form=>[.bl true,.bl false,.bl false,.bl false]
 | .twice=>[.bl false,.bl true,.bl false,.bl false]
 | .hand=>[.bl false,.bl false,.bl true,.bl false]
 | .slot=>[.bl false,.bl false,.bl false,.bl true])++[.bl true,.bl true,.bl false,.bl false,.bl false,.bl false,.bl false]
def ug:Sp:=λvs H Q E=>∃z,vs=[.str z]/\J8 z/\∃c j,jZ (Txt.split z xQ) c j/\∀p H',bD H H'->H' p=some (.lst (clB c))->Q (.ref p) H'
section
variable {K:aK}{bR cH cG bK aU bh bf bA aZ aY aX bz aW aV aP aq aF aD aC bQ cW dX jN fX gW:AJ}{H:Hp}{Q:VK}{E:XK}{n:ν}{bk ct:ν}
theorem Znt{z:Str}(q:z.length<=1000000/\(Txt.split z xQ).length<=10000/\(∀r∈Txt.split z xQ,r.length<=10000)/\(∀r,(Txt.split z xQ)[1]? =some r->r.length<=100)/\(∀m,xU (Txt.split z xQ) m->∀sc dx rm kd hl rl ys H',bD H H'->H' sc=some (.ins aU dx (Gr rm kd hl rl))->H' rl=some (.lst ys)->ys.length=m->Q (.ref sc) H')/\∀c j,jZ (Txt.split z xQ) c j->Ex (clA aq aF aD aC c) ((j:Int)+1) H E):
  W0 K aU (su aU) (zP aq aF aD aC) Fx YS (pO aq) (Nk aq aF aD aC) (uV aq) E ξ [some (.str z),none,none,none,none,none] H:=by
 obtain⟨hz,hlr,hrl,hk,hq,he⟩:=q;unfold W0;apply⟨_,_,rfl,rfl,ε,δ,λa ha0=>?_⟩;rw[show Txt.split z "\n"=Txt.split z xQ from rfl];generalize zz:upd H a _=H1;obtain⟨s1,c1⟩:=nwO ha0 zz;generalize Txt.split z xQ=rows at c1 hlr hrl hk hq he;apply⟨a,1,rfl,rows,c1,ε,ε,λr hr=>?_,λhn=>?_⟩
 rotate_left
 ·exact(he .form 0 ⟨.s0,rfl,.inr ⟨hn,rfl,λ_ _ y=>by cases y⟩⟩).go s1
 have hr:rows[0]? =some r:=hr;apply⟨r,rfl,hrl r (List.mem_of_getElem? hr),λH2 s2=>?_⟩;ext;cases er:Dt ag with
 | none=>
  dsimp only[vO];refine⟨_,1,rfl,ε,ε,λy=>absurd rfl y,λ_=>(he .form 0 ⟨.s0,rfl,.inl ⟨r,hr,?_⟩⟩).go (s1.trans s2)⟩
  conv=>lhs;unfold dM;dsimp only
  rw[er,if_neg ε]
 | some rm=>
  have e1:um rows 1=some .s1:=mQ (i:=0) rfl hr (by
   conv=>lhs;unfold dM;dsimp only
   rw[er,if_pos η])
  dsimp only[vO];refine⟨_,1,rfl,ε,ε,λ_=>?_,λy=>by cases y⟩;apply⟨a,2,rfl,rows,s2 _ _ c1,ε,ε,λr2 hr2=>?_,λhn=>?_⟩
  rotate_left
  ·exact(he .form 1 ⟨.s1,e1,.inr ⟨hn,rfl,λ_ _ y=>by cases y⟩⟩).go (s1.trans s2)
  have hr2:rows[1]? =some r2:=hr2;apply⟨r2,rfl,hk r2 hr2,λhkp kd H3 s3=>?_,λhkp H3 s3=>?_⟩
  rotate_left
  ·apply⟨_,2,rfl,ε,ε,λy=>absurd rfl y,λ_=>(he .form 1 ⟨.s1,e1,.inl ⟨r2,hr2,?_⟩⟩).go (s1.trans (s2.trans s3))⟩
   conv=>lhs;unfold dM;dsimp only
   rw[if_neg hkp]
  have e2:um rows 2=some (.s2 []):=mQ (i:=1) e1 hr2 (by
   conv=>lhs;unfold dM;dsimp only
   rw[if_pos hkp])
  apply⟨_,2,rfl,ε,ε,λ_=>?_,λy=>by cases y⟩;ext;have s13:=s1.trans (s2.trans s3);refine⟨a,rfl,rows,s3 _ _ (s2 _ _ c1),hrl,e2,λhs e3 h1 h5 l H4 s4 hl4=>?_,λc j hj=>(he c j hj).go s13⟩;obtain⟨as,g1,g2,g3⟩:=id hl4;have s14:=s13.trans s4;apply gZ (cN.of g1) ?_;ext;rw[bF,g2];refine⟨a,_,l,rfl,rows,hs,s4 _ _ (s3 _ _ (s2 _ _ c1)),hrl,hlr,hl4,h1,h5,δ,e3,λm hm p ys H5 s5 hp hy=>?_,λc j hj=>(he c j hj).go s14⟩;ext;intro x dx nx ndx ne;have s6:bD H5 (upd (upd H5 dx (.own x)) x (.ins aU dx [])):=λb o hb=>by rw[aQ (bI hb nx),aQ (bI hb ndx)];exact hb
  refine⟨x,rm,kd,l,p,rfl,dx,_,_,az,s6 _ _ (s5 _ _ g1),s6 _ _ hp,λH7 h2 r2' e1' e2' e3' fr=>⟨rfl,?_⟩⟩;have s57:bD H5 H7:=λb o hb=>fr b o (s6 _ _ hb) (bI hb nx);exact hq m hm x dx rm kd h2 r2' ys H7 (s14.trans (s5.trans s57)) e1' e3' hy
theorem YH(T:Za K bK aU bh bf bA aZ aY aX bz aW aV aP aq aF aD aC){z:Str}(q:J8 z/\(∀m,xU (Txt.split z xQ) m->∀p H',bD H H'->H' p=some (.tup [.str "good",.int 0])->Q (.ref p) H')/\∀c (j:Nat),jZ (Txt.split z xQ) c j->∀p H',bD H H'->H' p=some (.tup [.str (rG c),.int ((j:Int)+1)])->Q (.ref p) H'):
  wg K aq aD aC aF (rB aU aq aF aD aC) ξ [some (.str z),none,none] H:=by
 obtain⟨⟨t1,t2,t3,t4⟩,h1,h2⟩:=q;unfold wg;apply⟨by show 2<=_;decide,λp0 hp0=>?_⟩;generalize zz:upd H p0 _=H0;obtain⟨s0,c0⟩:=nwO hp0 zz;apply⟨z,rfl,t1,t2,t3,t4,λm hm sc dx rm kd hl rl ys H' s _ _ _=>?_,λc j hj D H' s hD=>?_⟩
 ·apply h1 m hm p0 _ (s0.trans s) (s _ _ c0)
 ·have go:=h2 c j hj;cases c
  ·refine .inl ⟨rfl,λea hea=>?_⟩;have s1:=aG hea (fD ea (.ref aq) (some D));have c1:upd H' ea (fD ea (.ref aq) (some D)) ea=some (fD ea (.ref aq) (some D)):=az;have d1:=s1 _ _ hD;show bO _ _ _ _ (upd H' ea (fD ea (.ref aq) (some D)));generalize upd H' ea (fD ea (.ref aq) (some D))=H1 at s1 c1 d1 ⊢;simp only[List.set_cons_succ,List.set_cons_zero];exists ea,aq,D,_,_,rfl,c1,d1,T.Zh3,rfl;apply⟨by show 2<=_;decide,λp hp=>?_⟩;ext;simp only[List.set_cons_succ,List.set_cons_zero];apply go p _ (s0.trans (s.trans (s1.trans (aG hp _)))) az
  ·refine .inr (.inl ⟨rfl,λea hea=>?_⟩);have s1:=aG hea (fD ea (.ref aF) (some D));have c1:upd H' ea (fD ea (.ref aF) (some D)) ea=some (fD ea (.ref aF) (some D)):=az;have d1:=s1 _ _ hD;show bO _ _ _ _ (upd H' ea (fD ea (.ref aF) (some D)));generalize upd H' ea (fD ea (.ref aF) (some D))=H1 at s1 c1 d1 ⊢;simp only[List.set_cons_succ,List.set_cons_zero];exists ea,aF,D,_,_,rfl,c1,d1,T.Ziv,rfl;apply⟨by show 2<=_;decide,λp hp=>?_⟩;ext;simp only[List.set_cons_succ,List.set_cons_zero];apply go p _ (s0.trans (s.trans (s1.trans (aG hp _)))) az
  ·refine .inr (.inr (.inl ⟨rfl,λea hea=>?_⟩));have s1:=aG hea (fD ea (.ref aD) (some D));have c1:upd H' ea (fD ea (.ref aD) (some D)) ea=some (fD ea (.ref aD) (some D)):=az;have d1:=s1 _ _ hD;show bO _ _ _ _ (upd H' ea (fD ea (.ref aD) (some D)));generalize upd H' ea (fD ea (.ref aD) (some D))=H1 at s1 c1 d1 ⊢;simp only[List.set_cons_succ,List.set_cons_zero];exists ea,aD,D,_,_,rfl,c1,d1,T.Zh2,rfl;apply⟨by show 2<=_;decide,λp hp=>?_⟩;ext;simp only[List.set_cons_succ,List.set_cons_zero];apply go p _ (s0.trans (s.trans (s1.trans (aG hp _)))) az
  ·refine .inr (.inr (.inr ⟨rfl,λea hea=>?_⟩));have s1:=aG hea (fD ea (.ref aC) (some D));have c1:upd H' ea (fD ea (.ref aC) (some D)) ea=some (fD ea (.ref aC) (some D)):=az;have d1:=s1 _ _ hD;show bO _ _ _ _ (upd H' ea (fD ea (.ref aC) (some D)));generalize upd H' ea (fD ea (.ref aC) (some D))=H1 at s1 c1 d1 ⊢;simp only[List.set_cons_succ,List.set_cons_zero];exists ea,aC,D,_,_,rfl,c1,d1,T.Zh1,rfl;apply⟨by show 2<=_;decide,λp hp=>?_⟩;ext;simp only[List.set_cons_succ,List.set_cons_zero];apply go p _ (s0.trans (s.trans (s1.trans (aG hp _)))) az
end
structure KQ1(vm:AK->AK->Option Bool)(C:AJ)(b1 b2 b3 b4:Bool)(B T N S G ES NF F NN SD:AJ):Prop where
 a1:vm (.ref C) (.ref B)=some b1
 a2:vm (.ref C) (.ref T)=some b2
 a3:vm (.ref C) (.ref N)=some b3
 a4:vm (.ref C) (.ref S)=some b4
 a5:vm (.ref C) (.ref G)=some true
 a6:vm (.ref C) (.type "ValueError")=some true
 a7:vm (.ref C) (.ref ES)=some false
 a8:vm (.ref C) (.ref NF)=some false
 a9:vm (.ref C) (.ref F)=some false
 a10:vm (.ref C) (.ref NN)=some false
 a11:vm (.ref C) (.ref SD)=some false
structure KQ(vm:AK->AK->Option Bool)(B T N S G ES NF F NN SD:AJ):Prop where
 form:KQ1 vm B true false false false B T N S G ES NF F NN SD
 twice:KQ1 vm T false true false false B T N S G ES NF F NN SD
 hand:KQ1 vm N false false true false B T N S G ES NF F NN SD
 slot:KQ1 vm S false false false true B T N S G ES NF F NN SD
section
variable {K:aK}{aU aq aF aD aC bQ cW dX jN fX gW:AJ}{H:Hp}{Q:VK}{E:XK}{n:ν}{bk ct:ν}
theorem Mw{vm:AK->AK->Option Bool}(kq:KQ vm aq aF aD aC bQ cW dX jN fX gW){z:Str}(q:J8 z/\∃c j,jZ (Txt.split z xQ) c j/\∀p H',bD H H'->H' p=some (.lst (clB c))->Q (.ref p) H'):
  qL aq cW jN bQ dX aD fX aC gW aF (rB aU aq aF aD aC) vm ξ [some (.str z),none,none] H:=by
 obtain⟨⟨t1,t2,t3,t4⟩,c,j,hj,h⟩:=q;unfold qL;apply⟨ε,λp0 hp0=>?_⟩;have s0:=aG hp0 (.lst []);generalize upd H p0 (.lst [])=H0 at s0 ⊢;apply⟨z,rfl,t1,t2,t3,t4,λm hm=>absurd (hj.Ce hm) id,λc' j' hj' D H' s hD=>?_⟩
 ·obtain⟨rfl,rfl⟩:=hj.uniq hj';cases c
  ·refine⟨(.inl rfl),λea hea=>?_⟩;have kq:=kq.form;have s1:=aG hea (fD ea (.ref aq) (some D));have c1:upd H' ea (fD ea (.ref aq) (some D)) ea=some (fD ea (.ref aq) (some D)):=az;show bO _ _ _ _ (upd H' ea (fD ea (.ref aq) (some D)));generalize upd H' ea (fD ea (.ref aq) (some D))=H1 at s1 c1 ⊢;have ask:∀(C:V) (u:AK) (b:Bool) (Q':VK),RelV C u->vm (.ref aq) u=some b->Q' (.bl b) H1->rH [aq,aF,aD,aC] vm [.ref ea,C] H1 Q':=λC u b Q' r e k=>⟨ea,u,aq,b,⟨_,rfl,r⟩,ζ,⟨_,c1⟩,e,k⟩;simp only[List.set_cons_succ,List.set_cons_zero];apply ask _ _ _ _ rfl kq.a1 ?_;apply ask _ _ _ _ rfl kq.a2 ?_;apply ask _ _ _ _ rfl kq.a3 ?_;apply ask _ _ _ _ rfl kq.a4 ?_;apply ask _ _ _ _ rfl kq.a5 ?_;apply ask _ _ _ _ rfl kq.a6 ?_;apply ask _ _ _ _ rfl kq.a7 ?_;apply ask _ _ _ _ rfl kq.a8 ?_;apply ask _ _ _ _ rfl kq.a9 ?_;apply ask _ _ _ _ rfl kq.a10 ?_;apply ask _ _ _ _ rfl kq.a11 ?_;apply⟨by show 11<=_;decide,λp hp=>?_⟩;ext;simp only[List.set_cons_succ,List.set_cons_zero];apply h p _ (s0.trans (s.trans (s1.trans (aG hp _)))) az
  ·refine⟨(.inr (.inl rfl)),λea hea=>?_⟩;have kq:=kq.twice;have s1:=aG hea (fD ea (.ref aF) (some D));have c1:upd H' ea (fD ea (.ref aF) (some D)) ea=some (fD ea (.ref aF) (some D)):=az;show bO _ _ _ _ (upd H' ea (fD ea (.ref aF) (some D)));generalize upd H' ea (fD ea (.ref aF) (some D))=H1 at s1 c1 ⊢;have ask:∀(C:V) (u:AK) (b:Bool) (Q':VK),RelV C u->vm (.ref aF) u=some b->Q' (.bl b) H1->rH [aq,aF,aD,aC] vm [.ref ea,C] H1 Q':=λC u b Q' r e k=>⟨ea,u,aF,b,⟨_,rfl,r⟩,ζ,⟨_,c1⟩,e,k⟩;simp only[List.set_cons_succ,List.set_cons_zero];apply ask _ _ _ _ rfl kq.a1 ?_;apply ask _ _ _ _ rfl kq.a2 ?_;apply ask _ _ _ _ rfl kq.a3 ?_;apply ask _ _ _ _ rfl kq.a4 ?_;apply ask _ _ _ _ rfl kq.a5 ?_;apply ask _ _ _ _ rfl kq.a6 ?_;apply ask _ _ _ _ rfl kq.a7 ?_;apply ask _ _ _ _ rfl kq.a8 ?_;apply ask _ _ _ _ rfl kq.a9 ?_;apply ask _ _ _ _ rfl kq.a10 ?_;apply ask _ _ _ _ rfl kq.a11 ?_;apply⟨by show 11<=_;decide,λp hp=>?_⟩;ext;simp only[List.set_cons_succ,List.set_cons_zero];apply h p _ (s0.trans (s.trans (s1.trans (aG hp _)))) az
  ·refine⟨(.inr (.inr (.inl rfl))),λea hea=>?_⟩;have kq:=kq.hand;have s1:=aG hea (fD ea (.ref aD) (some D));have c1:upd H' ea (fD ea (.ref aD) (some D)) ea=some (fD ea (.ref aD) (some D)):=az;show bO _ _ _ _ (upd H' ea (fD ea (.ref aD) (some D)));generalize upd H' ea (fD ea (.ref aD) (some D))=H1 at s1 c1 ⊢;have ask:∀(C:V) (u:AK) (b:Bool) (Q':VK),RelV C u->vm (.ref aD) u=some b->Q' (.bl b) H1->rH [aq,aF,aD,aC] vm [.ref ea,C] H1 Q':=λC u b Q' r e k=>⟨ea,u,aD,b,⟨_,rfl,r⟩,ζ,⟨_,c1⟩,e,k⟩;simp only[List.set_cons_succ,List.set_cons_zero];apply ask _ _ _ _ rfl kq.a1 ?_;apply ask _ _ _ _ rfl kq.a2 ?_;apply ask _ _ _ _ rfl kq.a3 ?_;apply ask _ _ _ _ rfl kq.a4 ?_;apply ask _ _ _ _ rfl kq.a5 ?_;apply ask _ _ _ _ rfl kq.a6 ?_;apply ask _ _ _ _ rfl kq.a7 ?_;apply ask _ _ _ _ rfl kq.a8 ?_;apply ask _ _ _ _ rfl kq.a9 ?_;apply ask _ _ _ _ rfl kq.a10 ?_;apply ask _ _ _ _ rfl kq.a11 ?_;apply⟨by show 11<=_;decide,λp hp=>?_⟩;ext;simp only[List.set_cons_succ,List.set_cons_zero];apply h p _ (s0.trans (s.trans (s1.trans (aG hp _)))) az
  ·refine⟨(.inr (.inr (.inr rfl))),λea hea=>?_⟩;have kq:=kq.slot;have s1:=aG hea (fD ea (.ref aC) (some D));have c1:upd H' ea (fD ea (.ref aC) (some D)) ea=some (fD ea (.ref aC) (some D)):=az;show bO _ _ _ _ (upd H' ea (fD ea (.ref aC) (some D)));generalize upd H' ea (fD ea (.ref aC) (some D))=H1 at s1 c1 ⊢;have ask:∀(C:V) (u:AK) (b:Bool) (Q':VK),RelV C u->vm (.ref aC) u=some b->Q' (.bl b) H1->rH [aq,aF,aD,aC] vm [.ref ea,C] H1 Q':=λC u b Q' r e k=>⟨ea,u,aC,b,⟨_,rfl,r⟩,ζ,⟨_,c1⟩,e,k⟩;simp only[List.set_cons_succ,List.set_cons_zero];apply ask _ _ _ _ rfl kq.a1 ?_;apply ask _ _ _ _ rfl kq.a2 ?_;apply ask _ _ _ _ rfl kq.a3 ?_;apply ask _ _ _ _ rfl kq.a4 ?_;apply ask _ _ _ _ rfl kq.a5 ?_;apply ask _ _ _ _ rfl kq.a6 ?_;apply ask _ _ _ _ rfl kq.a7 ?_;apply ask _ _ _ _ rfl kq.a8 ?_;apply ask _ _ _ _ rfl kq.a9 ?_;apply ask _ _ _ _ rfl kq.a10 ?_;apply ask _ _ _ _ rfl kq.a11 ?_;apply⟨by show 11<=_;decide,λp hp=>?_⟩;ext;simp only[List.set_cons_succ,List.set_cons_zero];apply h p _ (s0.trans (s.trans (s1.trans (aG hp _)))) az
end
inductive Fv(hs:List π):Str->V->Str->V->Prop
 | hand {h:Nat}{x:Str×Int} (e:hs[h]? =some x) (k:oN x.1):Fv hs bZ (.int h) x.1 (.str x.1)
 | num {f:Str}{m n:Int} (e:nO.lookup f=some (.int m)) (h0:0<=n) (h1:n<=m) (hm:m<=1000000000000):Fv hs f (.int n) (tS n) (.int n)
 | load {n:Int} (h0:-(10 ^ 60)<n) (h1:n<10 ^ 60):Fv hs jO (.int n) (tS n) (.int n)
 | word {z:Str} (k:dJ z letters 12=true):Fv hs rF (.str z) z (.str z)
abbrev Qd:=Str×V×Str×V
def QOk(hs:List π)(q:Qd):Prop:=Fv hs q.1 q.2.1 q.2.2.1 q.2.2.2/\q.2.2.1.length<=100
def Uc(hs:List π):Nat->List Qd->Prop
 | _,[]=>True
 | o,q::r=>(q.1=bZ/\∃h:Nat,q.2.1=.int h/\Uc hs h r)\/(q.1≠bZ/\Uc hs o r/\(q.1=cM->∃(m:Int) (x:Str×Int),q.2.1=.int m/\hs[o]? =some x/\m<x.2))
inductive lD
 | sw (m:Int)
 | dd (w:Str) (q:Qd) (qs:List Qd)
def partsOf:lD->AI
 | .sw m=>[cX,tS m]
 | .dd w q qs=>q.2.2.1::w::qs.map λz:Qd=>z.2.2.1
def cu:lD->List V
 | .sw m=>[.str cX,.int m]
 | .dd w q qs=>.str w::(q::qs).map λz:Qd=>z.2.1
def WQ(hs:List π):lD->Prop
 | .sw m=>1<=m/\m<=9999
 | .dd w q qs=>q.1=bZ/\(w,(q::qs).map λz:Qd=>z.1)∈jy/\(∀x∈q::qs,QOk hs x)/\True/\qs.length<=8
def WOk(hs:List π):lD->Prop
 | .sw m=>1<=m/\m<=9999
 | .dd w q qs=>q.1=bZ/\(w,(q::qs).map λz:Qd=>z.1)∈jy/\(∀x∈q::qs,QOk hs x)/\Uc hs 0 (q::qs)/\qs.length<=8
theorem WOk.q{hs:List π}{r:lD}(h:WOk hs r):WQ hs r:=by
 cases r with
 | sw m=>exact h
 | dd w q qs=>exact⟨h.1,h.2.1,h.2.2.1,trivial,h.2.2.2.2⟩
theorem Fv.nm{hs:List π}{f t:Str}{v d:V}(h:Fv hs f v t d)(e:f=bZ):oN t:=by
 cases h with
 | hand _ k=>exact k
 | num e2=>rw[e,show nO.lookup bZ=none by decide]at e2;cases e2
 | load=>exact absurd e ε
 | word=>exact absurd e ε
def iV(r:lD):Str:=Str.join ⟨#[32]⟩ (partsOf r)
theorem vo:∀x∈jy,32∉x.1.cps.toList/\10∉x.1.cps.toList/\x.1.length<=100:=ε
theorem sU{t:Str}(h:dJ t letters 12=true):t.length<=12/\∀c∈t.cps.toList,97<=c/\c<=122:=by
 unfold dJ at h;rw[Bool.and_eq_true,Bool.and_eq_true]at h;have h2:=of_decide_eq_true h.2.1;refine⟨δ,λc hc=>?_⟩;have:=List.all_eq_true.mp h.2.2 c hc;exact Zl3 c (of_decide_eq_true this)
theorem Fv.free{hs:List π}{f t:Str}{v d:V}(h:Fv hs f v t d)(k:Nat)(hk:k=32\/k=10):k∉t.cps.toList:=by
 cases h with
 | hand _ n=>exact n.free k δ
 | num=>exact nR k δ _
 | load=>exact nR k δ _
 | word w=>exact λz=>by have:=(sU w).2 k z;omega
theorem WQ.free{hs:List π}{r:lD}(h:WQ hs r)(k:Nat)(hk:k=32\/k=10):∀p∈partsOf r,k∉p.cps.toList:=by
 cases r with
 | sw m=>
  intro p hp;rcases List.mem_cons.mp hp with rfl | hp
  ·rcases hk with rfl | rfl<;>decide
  ·rw[List.mem_singleton.mp hp];exact nR k δ m
 | dd w q qs=>
  obtain⟨ef,hm,Y8,so,h8⟩:=h;intro p hp;rcases List.mem_cons.mp hp with rfl | hp
  ·exact(Y8 q List.mem_cons_self).1.free k hk
  rcases List.mem_cons.mp hp with rfl | hp
  ·rcases hk with rfl | rfl
   ·exact(vo _ hm).1
   ·exact(vo _ hm).2.1
  ·obtain⟨z,hz,rfl⟩:=List.mem_map.mp hp;exact(Y8 z (List.mem_cons_of_mem _ hz)).1.free k hk
theorem Z5(r:lD):partsOf r≠[]:=by cases r<;>simp[partsOf]
theorem WQ.split{hs:List π}{r:lD}(h:WQ hs r):Txt.split (iV r) ⟨#[32]⟩=partsOf r:=nq (Z5 r) (h.free 32 (.inl rfl))
theorem Gh:∀{ps:AI},(∀p∈ps,p.length<=100)->(ps.map (·.length)).sum<=100 * ps.length
 | [],_=>Nat.zero_le _
 | p::ps,h=>by
  have:=Gh (ps:=ps) (λq hq=>h q (List.mem_cons_of_mem _ hq));have:=h p List.mem_cons_self;rw[List.map_cons,List.sum_cons,List.length_cons];omega
theorem WQ.len{hs:List π}{r:lD}(h:WQ hs r):(iV r).length<=2000:=by
 have e:(iV r).length+1=((partsOf r).map (·.length)).sum+(partsOf r).length:=by
  unfold iV;rw[<- yR 32 (Z5 r),<- dR,str_len]
 have b:(∀p∈partsOf r,p.length<=100)/\(partsOf r).length<=10:=by
  cases r with
  | sw m=>
   refine⟨λp hp=>?_,by show 2<=10;decide⟩;rcases List.mem_cons.mp hp with rfl | hp
   ·decide
   ·rw[List.mem_singleton.mp hp];have:=Bj (i:=m) (by have:=h.1;omega) (Int.lt_of_le_of_lt h.2 ε);omega
  | dd w q qs=>
   obtain⟨ef,hm,Y8,so,h8⟩:=h;refine⟨λp hp=>?_,by show(qs.map _).length+1+1<=10;rw[bF];omega⟩;rcases List.mem_cons.mp hp with rfl | hp
   ·exact(Y8 q List.mem_cons_self).2
   rcases List.mem_cons.mp hp with rfl | hp
   ·exact(vo _ hm).2.2
   ·obtain⟨z,hz,rfl⟩:=List.mem_map.mp hp;exact(Y8 z (List.mem_cons_of_mem _ hz)).2
 have:=Gh b.1;omega
def RL(H:Hp)(l:AJ)(rs:List lD):Prop:=∃as:AG,H l=some (.lst (as.map V.ref))/\as.length=rs.length/\∀(i:Nat) a,as[i]? =some a->∃r,rs[i]? =some r/\H a=some (.tup (cu r))
theorem Nf{c:Nat}(hc:c≠32):∀{ps:AI},(∀p∈ps,c∉p.cps.toList)->c∉jl 32 ps
 | [],_=>by simp[jl]
 | [x],h=>h x List.mem_cons_self
 | x::y::r,h=>by
  have ih:=Nf hc (ps:=y::r) (λp hp=>h p (List.mem_cons_of_mem _ hp));show c∉x.cps.toList++32::jl 32 (y::r);intro z;rcases List.mem_append.mp z with z | z
  ·exact h x List.mem_cons_self z
  ·rcases List.mem_cons.mp z with z | z
   ·exact hc z
   ·exact ih z
theorem WQ.nl{hs:List π}{r:lD}(h:WQ hs r):10∉(iV r).cps.toList:=by
 unfold iV;rw[dR];exact Nf ε (h.free 10 (.inr rfl))
theorem RL.same{H H1:Hp}{l:AJ}{rs:List lD}(h:RL H l rs)(s:bD H H1):RL H1 l rs:=by
 obtain⟨as,h1,h2,h3⟩:=h;exact⟨as,s _ _ h1,h2,λi a ha=>let ⟨x,e,q⟩:=h3 i a ha;⟨x,e,s _ _ q⟩⟩
def ur(t:Str):Str:=if t=cX then("sweeps":Str)else t
def Rg:Sp:=λvs H Q E=>∃t,vs=[.str t]/\Q (.str (ur t)) H
def zQ:Sp:=λvs H Q E=>∃way c,vs=[.int way,.int c]/\∀l hs H',bD H H'->HL H' l hs->oM hs->Q (.ref l) H'
def Nm(cA:Bool)(q size base:Int)(pos i:Nat)(nm:Str):Prop:=∃raw:Str,nm=ur raw/\dJ raw letters 12=true/\(if cA=true then(raw.length:Int)=1+((i:Int)+q) % 12/\raw≠cX else(raw.length:Int)=size/\raw.cps.toList[pos]? =some (97+((base+i) % 26).toNat))
theorem Znn{raw:Str}(h:dJ raw letters 12=true):oN (ur raw):=by
 unfold ur;split
 ·exact⟨γ,ε⟩
 ·rename_i e;exact⟨h,e⟩
theorem Nm.ne{cA:Bool}{q size base:Int}{pos i j:Nat}{a b:Str}(ha:Nm cA q size base pos i a)(hb:Nm cA q size base pos j b)(ij:i<j)(hj:j<=4):a≠b:=by
 obtain⟨r,rfl,_,h1⟩:=ha;obtain⟨r',rfl,_,h2⟩:=hb;cases cA with
 | true=>
  rw[if_pos rfl]at h1 h2;unfold ur;rw[if_neg h1.2,if_neg h2.2];intro e;rw[e,h2.1]at h1;have:=h1.1;omega
 | false=>
  rw[if_neg Bool.false_ne_true]at h1 h2;have nr:r≠r':=λe=>by
   rw[e]at h1;rw[h1.2]at h2;have:=Option.some.inj h2.2;omega
  have ls:(cX:Str).length=5:=rfl;have ls6:("sweeps":Str).length=6:=rfl;unfold ur
  by_cases e1:r=cX
  ·rw[if_pos e1,if_neg (λe2=>nr (e1.trans e2.symm))];intro e;rw[e1]at h1;rw[<- e]at h2;have a1:=h1.1;have a2:=h2.1;rw[ls]at a1;rw[ls6]at a2;omega
  ·rw[if_neg e1]
   by_cases e2:r'=cX
   ·rw[if_pos e2];intro e;rw[e2]at h2;rw[e]at h1;have a1:=h1.1;have a2:=h2.1;rw[ls6]at a1;rw[ls]at a2;omega
   ·rw[if_neg e2];exact nr
theorem Xl{l:AI}{y:Str}(h:l.Nodup)(hy:y∉l):(l++[y]).Nodup:=by
 rw[List.nodup_append];refine⟨h,ζ,λa ha b hb=>?_⟩;rw[List.mem_singleton.mp hb];exact λe=>hy (e ▸ ha)
theorem Ia{i:Int}(h0:0<=i)(h1:i<26):CW letters.cps.toList i=some (97+i.toNat):=by
 have hk:∀k:Nat,k<26->letters.cps.toList[k]? =some (97+k):=γ
 exact bT h0 (hk _ δ)
theorem Ef{i:Nat}(h1:i<26):97+i∈letters.cps.toList:=by
 have hk:∀k:Nat,k<26->97+k∈letters.cps.toList:=γ
 exact hk _ h1
theorem zJ:letters.length=26:=γ
section
variable {K:aK}{bR cH cG bK aU:AJ}{H:Hp}{Q:VK}{E:XK}{n:ν}{bk ct:ν}
theorem YJ{t:Str}(q:Q (.str (ur t)) H):wj ξ [some (.str t)] H:=by
 unfold wj;unfold ur at q;apply iM (λe=>?_) (λe=>?_)
 ·rw[if_pos (show t=cX from e)]at q;apply q
 ·rw[if_neg (show ¬ t=cX from e)]at q;apply q
end
theorem Zjt{ch:Nat}{k:Int}:(ZZ ⟨#[ch]⟩ k).cps.toList=List.replicate k.toNat ch:=by
 show((List.replicate k.toNat [ch]).flatten.toArray).toList=_;rw[List.flatten_replicate_singleton]
theorem Zns{t:Str}{ch:Nat}{k:Int}(et:t=ZZ ⟨#[ch]⟩ k)(h0:1<=k)(h1:k<=12)(hc:ch∈letters.cps.toList):dJ t letters 12=true/\(t.length:Int)=k/\t≠cX:=by
 have el:t.cps.toList=List.replicate k.toNat ch:=by rw[et];exact Zjt
 have hl:t.length=k.toNat:=by rw[<- str_len,el,List.length_replicate]
 refine⟨?_,δ,λe=>?_⟩
 ·unfold dJ;rw[decide_eq_true (show(1:Int)<=(t.length:Int) by omega),decide_eq_true (show(t.length:Int)<=12 by omega),el];rw[Bool.true_and,Bool.true_and,List.all_eq_true];intro c hcm;rw[List.eq_of_mem_replicate hcm];exact decide_eq_true hc
 ·have es:t.cps.toList=[115,119,101,101,112]:=by rw[e];decide +kernel
  rw[el]at es;have m1:(115:Nat)∈List.replicate k.toNat ch:=by rw[es];simp
  have m2:(119:Nat)∈List.replicate k.toNat ch:=by rw[es];simp
  have:=List.eq_of_mem_replicate m1;have:=List.eq_of_mem_replicate m2;omega
theorem vd{t:Str}(h1:1<=t.length)(h2:t.length<=12)(h:∀c∈t.cps.toList,c∈letters.cps.toList):dJ t letters 12=true:=by
 unfold dJ;rw[decide_eq_true (show(1:Int)<=(t.length:Int) by omega),decide_eq_true (show(t.length:Int)<=12 by omega),Bool.true_and,Bool.true_and,List.all_eq_true];exact λc hc=>decide_eq_true (h c hc)
section
variable {K:aK}{bR cH cG bK aU:AJ}{H:Hp}{Q:VK}{E:XK}{n:ν}{bk ct:ν}
theorem Zm3{way c size h:Int}{l:AJ}{raw:Str}{hs:List π}{v7 v8:Option V}(g:HL H l hs)(h5:hs.length<=5)(h0:0<=h)(h4:h<=4)
  (q:∀H',HL H' l (hs++[(ur raw,3+(c / 7+h * h * 2) % 7)])->(∀b o,b≠l->H b=some o->H' b=some o)->n [some (.int way),some (.int c),some (.str letters),some (.int size),↑l,some (.int h),some (.str raw),v7,v8] H'):
  (pR (xq K "list" mW (ak 4) (aj (fU (aj (bW Rg [] E0 (aj (ak 6) aM)) (aj (aN ρ (tC (.int 3)) (aN ο (aN ρ (aN τ Δ (tC (.int 7))) (aN Ψ (aN Ψ (ak 5) (ak 5)) av)) (tC (.int 7)))) aM))) aM))) ξ [some (.int way),some (.int c),some (.str letters),some (.int size),↑l,some (.int h),some (.str raw),v7,v8] H:=by
 obtain⟨as,g1,g2,g3⟩:=g;exists .inl ⟨rfl,_,cN.of g1⟩;exists raw,rfl;apply⟨by show 2<=_;decide,λtp htp=>?_⟩;have s1:=aG htp (.tup [.str (ur raw),.int (3+(c / 7+h * h * 2) % 7)]);apply⟨l,_,_,rfl,rfl,s1 _ _ g1,by rw[bF,sizeLine_eq];omega,?_⟩;apply q _ (HL.add (H:=H) (x:=(ur raw,3+(c / 7+h * h * 2) % 7)) (s1 _ _ g1) g2 (λi a ha=>let ⟨x,e,z⟩:=g3 i a ha;⟨x,e,s1 _ _ z⟩) az) λb o nb hb=>?_;rw[aQ nb];exact s1 _ _ hb
theorem Js{way c:Int}(q:∀l hs H',bD H H'->HL H' l hs->oM hs->Q (.ref l) H'):o6 K Rg ξ [some (.int way),some (.int c),none,none,none,none,none,none,none] H:=by
 unfold o6;apply⟨ε,λl hl=>?_⟩;generalize zz:upd H l _=H1;obtain⟨s1,c1⟩:=nwO hl zz;ext;have z0:1<=1+c / 26 % 12:=δ
 have z1:1+c / 26 % 12<=12:=δ
 generalize 1+c / 26 % 12=size at z0 z1 ⊢;have p0:=Int.emod_nonneg (way / 7) (b:=size) δ;have p1:=Int.emod_lt_of_pos (way / 7) (b:=size) δ;have g0:0<=c / 312 % 26:=δ
 have g26:c / 312 % 26<26:=δ
 refine⟨_,rfl,δ,δ,forR (λi σ Hx=>∃hs v5 v6 v7 v8,σ=[some (.int way),some (.int c),some (.str letters),some (.int size),↑l,v5,v6,v7,v8]/\bD H Hx/\HL Hx l hs/\hs.length=i/\(hs.map (·.1)).Nodup/\∀(j:Nat) x,hs[j]? =some x->Nm (decide (way / 91 % 3=1)) (c / 26) size (c+((way / 7 % size) * (way / 7 % size) * 3+(way / 7 % size) * (c / 312 % 26))) (way / 7 % size).toNat j x.1/\3<=x.2/\x.2<=9) ⟨[],none,none,none,none,rfl,s1,⟨[],c1,rfl,λi a h=>by cases h⟩,rfl,ζ,λj x h=>by cases h⟩ ?_ ?_⟩
 ·rintro i σ Hx hi ⟨hs,v5,v6,v7,v8,rfl,sx,hlx,hlen,nd,hx⟩;have hi4:i<=4:=δ
  have e0:(0:Int)+(i:Int)=i:=δ
  rw[e0];ext;have fin:∀(raw:Str) (v7 v8:Option V),dJ raw letters 12=true->(if decide (way / 91 % 3=1)=true then(raw.length:Int)=1+((i:Int)+c / 26) % 12/\raw≠cX else(raw.length:Int)=size/\raw.cps.toList[(way / 7 % size).toNat]? =some (97+((c+((way / 7 % size) * (way / 7 % size) * 3+(way / 7 % size) * (c / 312 % 26))+i) % 26).toNat))->∀H',HL H' l (hs++[(ur raw,3+(c / 7+(i:Int) * i * 2) % 7)])->(∀b o,b≠l->Hx b=some o->H' b=some o)->
    ∃(hs:List π) (v5 v6 v7' v8':Option V),([some (.int way),some (.int c),some (.str letters),some (.int size),↑l,some (.int i),some (.str raw),v7,v8]:St)=[some (.int way),some (.int c),some (.str letters),some (.int size),↑l,v5,v6,v7',v8']/\bD H H'/\HL H' l hs/\hs.length=i+1/\(hs.map (·.1)).Nodup/\∀(j:Nat) x,hs[j]? =some x->Nm (decide (way / 91 % 3=1)) (c / 26) size (c+((way / 7 % size) * (way / 7 % size) * 3+(way / 7 % size) * (c / 312 % 26))) (way / 7 % size).toNat j x.1/\3<=x.2/\x.2<=9:=by
   intro raw v7 v8 wb cond H' hl' fr;have nm:Nm (decide (way / 91 % 3=1)) (c / 26) size (c+((way / 7 % size) * (way / 7 % size) * 3+(way / 7 % size) * (c / 312 % 26))) (way / 7 % size).toNat i (ur raw):=⟨raw,rfl,wb,cond⟩;refine⟨_,_,_,_,_,rfl,λb o hb=>fr b o (bI hb hl) (sx _ _ hb),hl',by rw[List.length_append,hlen];rfl,?_,λj x hj=>?_⟩
   ·rw[List.map_append];refine Xl nd λz=>?_;obtain⟨x,hxm,ex⟩:=List.mem_map.mp z;obtain⟨j,hj⟩:=List.getElem?_of_mem hxm;have jl:=(iB hj).1;exact(hx j x hj).1.ne nm δ hi4 ex
   ·by_cases hji:j<hs.length
    ·rw[List.getElem?_append_left hji]at hj;exact hx j x hj
    ·have hjl:=(iB hj).1;rw[List.length_append]at hjl;have hje:j=hs.length:=by
      have:[(ur raw,3+(c / 7+(i:Int) * i * 2) % 7)].length=1:=rfl;omega
     subst hje;rw[List.getElem?_append_right χ,Nat.sub_self]at hj;cases hj;rw[hlen];exact⟨nm,δ,δ⟩
  refine⟨_,rfl,δ,δ,forR (λk σ Hy=>∃t v7 v8,σ=[some (.int way),some (.int c),some (.str letters),some (.int size),↑l,some (.int i),some (.str t),v7,v8]/\Hy=Hx/\t.length=k/\(∀ch∈t.cps.toList,ch∈letters.cps.toList)/\((way / 7 % size).toNat<k->t.cps.toList[(way / 7 % size).toNat]? =some (97+((c+((way / 7 % size) * (way / 7 % size) * 3+(way / 7 % size) * (c / 312 % 26))+i) % 26).toNat))) ⟨_,_,_,rfl,rfl,rfl,(λch h=>by cases h),λh=>absurd h (Nat.not_lt_zero _)⟩ ?_ ?_⟩
  ·rintro k σ Hy hk ⟨t,v7,v8,rfl,rfl,tl,tm,tp⟩;have e0:(0:Int)+(k:Int)=k:=δ
   rw[e0];have Zy3:(k:Int)<=12:=δ
   have snoc:∀idx:Int,0<=idx->idx<26->((k:Int)=way / 7 % size->idx=(c+((way / 7 % size) * (way / 7 % size) * 3+(way / 7 % size) * (c / 312 % 26))+i) % 26)->∀v7 v8:Option V,∃(t':Str) (v7' v8':Option V),([some (.int way),some (.int c),some (.str letters),some (.int size),↑l,some (.int i),some (.str (t++⟨#[97+idx.toNat]⟩)),v7,v8]:St)=[some (.int way),some (.int c),some (.str letters),some (.int size),↑l,some (.int i),some (.str t'),v7',v8']/\Hy=Hy/\t'.length=k+1/\(∀ch∈t'.cps.toList,ch∈letters.cps.toList)/\((way / 7 % size).toNat<k+1->t'.cps.toList[(way / 7 % size).toNat]? =some (97+((c+((way / 7 % size) * (way / 7 % size) * 3+(way / 7 % size) * (c / 312 % 26))+i) % 26).toNat)):=by
    intro idx i0 i1 ek v7 v8;refine⟨_,_,_,rfl,rfl,by rw[cO,tl];rfl,λch hch=>?_,λhp=>?_⟩
    ·rw[bL]at hch;rcases List.mem_append.mp hch with h | h
     ·exact tm ch h
     ·have:ch=97+idx.toNat:=List.mem_singleton.mp h;rw[this];exact Ef δ
    ·rw[bL]
     by_cases hpk:(way / 7 % size).toNat<k
     ·rw[List.getElem?_append_left (by rw[str_len,tl];exact hpk)];exact tp hpk
     ·have epk:(way / 7 % size).toNat=k:=δ
      rw[epk,List.getElem?_append_right (by rw[str_len,tl];exact Nat.le_refl _),str_len,tl,Nat.sub_self];rw[<- ek δ];rfl
   apply iM (λe=>?_) (λe=>?_)
   ·ext;have f0:=Int.emod_nonneg (c+((k:Int) * k * 3+k * (c / 312 % 26)+i)) (b:=26) ε;have f1:=Int.emod_lt_of_pos (c+((k:Int) * k * 3+k * (c / 312 % 26)+i)) (b:=26) ε;refine VL (z:=letters) (by rw[zJ];exact cB ε) (Ia f0 f1) ?_;refine dh (cB (by show _+1<=_;omega)) ?_;apply snoc _ f0 f1 (λek=>?_) _ _;rw[<- ek];congr 1;omega
   ·ext;have f0:=Int.emod_nonneg (c+((k:Int) * k * 3+k * (c / 312 % 26))) (b:=26) ε;have f1:=Int.emod_lt_of_pos (c+((k:Int) * k * 3+k * (c / 312 % 26))) (b:=26) ε;refine VL (z:=letters) (by rw[zJ];exact cB ε) (Ia f0 f1) ?_;refine dh (cB (by show _+1<=_;omega)) ?_;apply snoc _ f0 f1 (λek=>absurd ek e) _ _
  ·rintro σ Hy ⟨t,v7,v8,rfl,rfl,tl,tm,tp⟩;have tls:(t.length:Int)=size:=δ
   refine Zg2 ?_;left;refine iM (λe=>?_) (λe=>?_)
   ·left;have f0:0<=c % 26:=δ
    have f1:c % 26<26:=δ
    refine VL (z:=letters) (by rw[zJ];exact cB ε) (Ia f0 f1) ?_;left;refine Zsv δ δ (by show 1<=1000;decide) λt' _ et=>?_;obtain⟨r1,r2,r3⟩:=Zns et δ δ (Ef δ);exact Zm3 hlx δ δ δ (λH' h1 h2=>fin t' v7 v8 r1 (by rw[decide_eq_true e,if_pos rfl];exact⟨r2,r3⟩) H' h1 h2)
   ·exact Zm3 hlx δ δ δ (λH' h1 h2=>fin t v7 v8 (vd δ δ tm) (by rw[decide_eq_false e,if_neg Bool.false_ne_true];exact⟨tls,tp δ⟩) H' h1 h2)
 ·rintro σ Hx ⟨hs,v5,v6,v7,v8,rfl,sx,hlx,hlen,nd,hx⟩;have hh:∀x∈hs,oN x.1/\3<=x.2/\x.2<=9:=λx hxm=>by
   obtain⟨j,hj⟩:=List.getElem?_of_mem hxm;obtain⟨⟨raw,e,wb,_⟩,b⟩:=hx j x hj;exact⟨by rw[e];exact Znn wb,b⟩
  have ok:oM hs:=⟨δ,δ,nd,hh⟩;apply iM (λe=>?_) (λe=>?_)
  ·ext;obtain⟨as,g1,g2,g3⟩:=id hlx;refine⟨l,rfl,⟨_,cN.of g1⟩,Qu hlx δ λp hp=>?_⟩;have s2:=aG hp (.lst ((hs.map (·.1)).map V.str));refine⟨p,_,rfl,.inl (cN.of az),rfl,Ez _,?_⟩;rw[if_pos rfl,wN];refine⟨_,rfl,?_⟩;generalize upd Hx p (.lst ((hs.map (·.1)).map V.str))=H2 at s2 ⊢;refine pC (λni=>?_) ad
   ·obtain⟨x,hs,rfl⟩:∃x r,hs=x::r:=by
      cases hs with
      | nil=>exact absurd ok.1 ε
      | cons x r=>exact⟨x,r,rfl⟩
    obtain⟨a,as,rfl⟩:∃x r,as=x::r:=by
      cases as with
      | nil=>cases g2
      | cons x r=>exact⟨x,r,rfl⟩
    have ga:=g3 0 a rfl;obtain⟨x',e1,e2⟩:=ga;cases e1;apply cV (cN.of (s2 _ _ g1)) (bT ε rfl) ?_;exists a,_,1,_,rfl,rfl,ig.of (s2 _ _ e2),rfl;apply⟨by show 2<=_;decide,λtp htp=>?_⟩;generalize zz:upd H2 tp _=H3;obtain⟨s3,c3⟩:=nwO htp zz;have s23:=s2.trans s3;exists l,_,0,0,rfl,rfl,s23 _ _ g1,wM (by rw[bF];show 0<as.length+1;omega);ext;have nt:∀{d:AJ}{xs:List V},H3 d=some (.tup xs)->d≠l:=λhc e=>by rw[e,s23 _ _ g1]at hc;cases hc
    refine q l (("sweeper",x.2)::hs) _ (iT (sx.trans s23) hl) ⟨tp::as,az,by rw[List.length_cons,List.length_cons];simpa using g2,λj d hd=>?_⟩ ⟨by rw[List.length_cons];omega,by rw[List.length_cons]at hlen ⊢;omega,?_,λy hy=>?_⟩
    ·match j,hd with
     | 0,hd=>cases hd;exact⟨_,rfl,by rw[aQ (nt c3)];exact c3⟩
     | j+1,hd=>
      obtain⟨y,q1,q2⟩:=g3 (j+1) d hd;exact⟨y,q1,by rw[aQ (nt (s23 _ _ q2))];exact s23 _ _ q2⟩
    ·rw[List.map_cons,List.nodup_cons]at nd ⊢;exact⟨λz=>ni (by rw[List.map_cons];exact List.mem_cons_of_mem _ z),nd.2⟩
    ·rcases List.mem_cons.mp hy with rfl | hy
     ·have:=hh x List.mem_cons_self;exact⟨(show oN ("sweeper":Str)from⟨γ,ε⟩),this.2⟩
     ·exact hh y (List.mem_cons_of_mem _ hy)
   ·apply q l hs _ (sx.trans s2) (hlx.same s2) ok
  ·apply q l hs _ sx hlx ok
end
def zm:Sp:=λvs H Q E=>∃c o,vs=[.int c,.int o]/\∀z:Str,dJ z letters 12=true->Q (.str z) H
def uC:Sp:=λvs H Q E=>∃c w m,vs=[.int c,.int w,.int m]/\Builtin.Int.intBits (c+3)<=2 ^ 20+4/\0<=m/\∀z:Int,0<=z->z<=m->Q (.int z) H
section
variable {K:aK}{H:Hp}{Q:VK}{E:XK}{n:ν}{bk ct:ν}
theorem Mr{c o:Int}(q:∀z:Str,dJ z letters 12=true->Q (.str z) H):qG ξ [some (.int c),some (.int o),none,none,none] H:=by
 unfold qG;ext;have g0:0<=o / 12 % 26:=δ
 have g26:o / 12 % 26<26:=δ
 refine⟨_,rfl,δ,δ,forR (λk σ Hy=>∃t v4,σ=[some (.int c),some (.int o),some (.str letters),some (.str t),v4]/\Hy=H/\t.length=k/\∀ch∈t.cps.toList,ch∈letters.cps.toList) ⟨_,_,rfl,rfl,rfl,λch h=>by cases h⟩ ?_ ?_⟩
 ·rintro k σ Hy hk ⟨t,v4,rfl,rfl,tl,tm⟩;have e0:(0:Int)+(k:Int)=k:=δ
  rw[e0];have Zy3:(k:Int)<=12:=δ
  ext;have f0:=Int.emod_nonneg (c+(k:Int) * k * (o / 12 % 26)) (b:=26) ε;have f1:=Int.emod_lt_of_pos (c+(k:Int) * k * (o / 12 % 26)) (b:=26) ε;refine VL (z:=letters) (by rw[zJ];exact cB ε) (Ia f0 f1) ?_;refine dh (cB (by show _+1<=_;omega)) ?_;apply⟨_,_,rfl,rfl,by rw[cO,tl];rfl,λch hch=>?_⟩;rw[bL]at hch;rcases List.mem_append.mp hch with h | h
  ·exact tm ch h
  ·have:ch=97+((c+(k:Int) * k * (o / 12 % 26)) % 26).toNat:=List.mem_singleton.mp h;rw[this];exact Ef δ
 ·rintro σ Hy ⟨t,v4,rfl,rfl,tl,tm⟩;apply q t (vd δ δ tm)
end
section
variable {K:aK}{H:Hp}{Q:VK}{E:XK}{n:ν}{bk ct:ν}
theorem Ua{c w m:Int}(q:Builtin.Int.intBits (c+3)<=2 ^ 20+4/\0<=m/\∀z:Int,0<=z->z<=m->Q (.int z) H):uM ξ [some (.int c),some (.int w),some (.int m)] H:=by
 obtain⟨hb,m0,h⟩:=q;unfold uM;apply iM ad ad
 ·apply i_I (IntMulOk.of_le hb (show Builtin.Int.intBits 31415926535897932384626433832795028841971693993751<=200 by decide) ε) ?_;ext;have f0:=Int.emod_nonneg ((c+3) * 31415926535897932384626433832795028841971693993751) (b:=m+1) δ;have f1:=Int.emod_lt_of_pos ((c+3) * 31415926535897932384626433832795028841971693993751) (b:=m+1) δ;exact h _ f0 δ
 ·ext;have f0:=Int.emod_nonneg c (b:=m+1) δ;have f1:=Int.emod_lt_of_pos c (b:=m+1) δ;exact h _ f0 δ
end
def Wb:Str:="many"
def Wc:Str:="bulk"
def rz:Str:="field"
def qH(h:Nat)(x:Str×Int):Qd:=(bZ,.int h,x.1,.str x.1)
def qN(f:Str)(i:Int):Qd:=(f,.int i,tS i,.int i)
def qW(z:Str):Qd:=(rF,.str z,z,.str z)
theorem HL.at{H:Hp}{l:AJ}{hs:List π}(h:HL H l hs){i:Nat}{x:Str×Int}(e:hs[i]? =some x):∃(as:AG) (b:AJ),H l=some (.lst (as.map V.ref))/\as[i]? =some b/\H b=some (.tup [.str x.1,.int x.2]):=by
 obtain⟨as,h1,h2,h3⟩:=h;have hi:i<as.length:=by rw[h2];exact(iB e).1
 obtain⟨y,e1,e2⟩:=h3 i as[i] (dF hi);rw[e]at e1;cases e1;exact⟨as,as[i],h1,dF hi,e2⟩
section
variable {hs:List π}
theorem okH{h:Nat}{x:Str×Int}(e:hs[h]? =some x)(k:oN x.1):QOk hs (qH h x):=⟨.hand e k,by have:=(sU k.1).1;show x.1.length<=100;omega⟩
theorem okN{f:Str}{m i:Int}(e:nO.lookup f=some (.int m))(hm:m<=1000000000000)(h0:0<=i)(h1:i<=m):QOk hs (qN f i):=
 ⟨.num e h0 h1 hm,Nat.le_trans (Bj h0 (Int.lt_of_le_of_lt (Int.le_trans h1 hm) ε)) ε⟩
theorem Znf{i:Int}(h0:-(10 ^ 60)<i)(h1:i<10 ^ 60):(tS i).length<=62:=by
 by_cases hi:0<=i
 ·exact Nat.le_trans (Bj hi h1) ε
 ·obtain⟨m,rfl⟩:∃m:Nat,i=-((m+1:Nat):Int):=⟨(-i).toNat - 1,δ⟩;have e1:=Zdq m;have e2:=(Nat.length_toDigits_le_iff (n:=m+1) (b:=10) (k:=60) ε ε).mpr δ;rw[<- str_len,e1,List.length_cons,bF];omega
theorem okL{i:Int}(h0:-(10 ^ 60)<i)(h1:i<10 ^ 60):QOk hs (qN jO i):=⟨.load h0 h1,Nat.le_trans (Znf h0 h1) ε⟩
theorem okW{z:Str}(k:dJ z letters 12=true):QOk hs (qW z):=⟨.word k,by have:=(sU k).1;show z.length<=100;omega⟩
theorem slH{o h:Nat}{x:Str×Int}{r:List Qd}(q:Uc hs h r):Uc hs o (qH h x::r):=.inl ⟨rfl,h,rfl,q⟩
theorem slS{o:Nat}{x:Str×Int}{s:Int}{r:List Qd}(e:hs[o]? =some x)(l:s<x.2)(q:Uc hs o r):Uc hs o (qN cM s::r):=.inr ⟨by show cM≠bZ;decide,q,λ_=>⟨s,x,rfl,e,l⟩⟩
theorem slO{o:Nat}{p:Qd}{r:List Qd}(h1:p.1≠bZ)(h2:p.1≠cM)(q:Uc hs o r):Uc hs o (p::r):=.inr ⟨h1,q,λz=>absurd z h2⟩
end
theorem Be{p:Qd->Prop}:(∀x∈([]:List Qd),p x):=λx h=>by cases h
theorem iI{p:Qd->Prop}{q:Qd}{r:List Qd}(h:p q)(t:∀x∈r,p x):∀x∈q::r,p x:=λx hx=>by
 rcases List.mem_cons.mp hx with rfl | hx
 ·exact h
 ·exact t x hx
theorem Zpm:(("make":Str),[bZ,cM,Wb,Wc])∈jy:=ε
theorem Zpo:(("get":Str),[bZ,cM,cM,rz])∈jy:=ε
theorem Ztn:(("put":Str),[bZ,cM,rz,cM])∈jy:=ε
theorem Zpq:(("copy":Str),[bZ,cM,cM])∈jy:=ε
theorem Zpp:(("drop":Str),[bZ,cM])∈jy:=ε
theorem Zpn:(("give":Str),[bZ,cM,bZ,cM])∈jy:=ε
theorem Zmc:(("write":Str),[bZ,cM,jO])∈jy:=ε
theorem Zpk:(("read":Str),[bZ,cM])∈jy:=ε
theorem Zpl:(("name":Str),[bZ,cM,rF])∈jy:=ε
theorem Zpj:(("seek":Str),[bZ,cM,rF])∈jy:=ε
def Nq:Sp:=λvs H Q E=>∃c k l,vs=[.int c,.int k,.ref l]/\∃hs:List π,HL H l hs/\oM hs/\0<=k/\k<1000/\Builtin.Int.intBits c<=2 ^ 20/\∀a r H',bD H H'->WOk hs r->H' a=some (.tup (cu r))->Q (.ref a) H'
section
variable {K:aK}{H:Hp}{Q:VK}{E:XK}{n:ν}{bk ct:ν}
theorem Vl{c k way other s t f load:Int}{h g:Nat}{word:Str}{l:AJ}{hs:List π}{x y:Str×Int}(hl:HL H l hs)(ok:oM hs)(cb:Builtin.Int.intBits (c+3)<=2 ^ 20+4)
  (xh:hs[h]? =some x) (xg:hs[g]? =some y) (w0:0<=way) (s0:0<=s) (s1:s<x.2) (t0:0<=t) (t1:t<x.2) (f0:0<=f) (f1:f<=999) (l0:-(10 ^ 60)<load) (l1:load<10 ^ 60) (wb:dJ word letters 12=true)
  (q:∀a r H',bD H H'->WOk hs r->H' a=some (.tup (cu r))->Q (.ref a) H'):
  (cC (aN (fM K) (gY (aj (fU (aj (tC (.str "make")) (aj (ak 5) (aj (ak 7) (aj (aN ο (aN τ (ak 4) (tC (.int 45))) (tC (.int 9))) (aj (bW uC [] E0 (aj Γ (aj (ak 3) (aj (aN (rI FT λi j=>.int (i ^ j.toNat)) (tC (.int 10)) (tC (.int 12))) aM)))) aM)))))) (aj (fU (aj (tC (.str "get")) (aj (ak 5) (aj (ak 7) (aj (ak 8) (aj (ak 9) aM)))))) (aj (fU (aj (tC (.str "put")) (aj (ak 5) (aj (ak 8) (aj (ak 9) (aj (ak 7) aM)))))) (aj (fU (aj (tC (.str "copy")) (aj (ak 5) (aj (ak 7) (aj (ak 8) aM))))) (aj (fU (aj (tC (.str "drop")) (aj (ak 5) (aj (ak 7) aM)))) (aj (fU (aj (tC (.str "give")) (aj (ak 5) (aj (ak 7) (aj (ak 6) (aj (aN ο (aN τ (ak 3) (tC (.int 55))) (aN (jf K) (aN (fM K) (ak 2) (ak 6)) υ)) aM)))))) (aj (fU (aj (tC (.str "write")) (aj (ak 5) (aj (ak 8) (aj (ak 10) aM))))) (aj (fU (aj (tC (.str "read")) (aj (ak 5) (aj (ak 8) aM)))) (aj (fU (aj (tC (.str "name")) (aj (ak 5) (aj (ak 8) (aj (ak 11) aM))))) (aj (fU (aj (tC (.str "seek")) (aj (ak 5) (aj (ak 7) (aj (ak 11) aM))))) (aj (fU (aj (tC (.str "sweep")) (aj (aN ρ υ (bW uC [] E0 (aj Γ (aj (ak 3) (aj (tC (.int 9998)) aM))))) aM))) aM)))))))))))) (aN ο (ak 3) (tC (.int 11))))) ξ [some (.int c),some (.int k),↑l,some (.int way),some (.int other),some (.int h),some (.int g),some (.int s),some (.int t),some (.int f),some (.int load),some (.str word)] H:=by
 obtain⟨k1,k5,nd,hx⟩:=ok;have bx:=hx x (List.mem_of_getElem? xh);have by':=hx y (List.mem_of_getElem? xg);obtain⟨as,g1,g2,g3⟩:=id hl;have eb:∀i:Nat,i<as.length->as[i]? =some (as.getD i 0):=λi hi=>by rw[dF hi,List.getD_eq_getElem?_getD,dF hi];rfl
 have hgl:g<as.length:=by rw[g2];exact(iB xg).1
 obtain⟨y',ey,gy⟩:=g3 g _ (eb g hgl);rw[xg]at ey;cases ey;apply⟨_,_,_,rfl,cb,ε,λbulk b0 b1=>?_⟩;apply⟨by show 5<=_;decide,λa0 n0=>?_⟩;generalize zz:upd H a0 _=H1;obtain⟨e0,c0⟩:=nwO n0 zz;have z1:bD H H1:=e0;apply⟨by show 5<=_;decide,λa1 n1=>?_⟩;generalize zz:upd H1 a1 _=H2;obtain⟨e1,c1⟩:=nwO n1 zz
 replace c0:=e1 _ _ c0
 have z2:bD H H2:=z1.trans e1;apply⟨by show 5<=_;decide,λa2 n2=>?_⟩;generalize zz:upd H2 a2 _=H3;obtain⟨e2,c2⟩:=nwO n2 zz
 replace c0:=e2 _ _ c0
 replace c1:=e2 _ _ c1
 have z3:bD H H3:=z2.trans e2;apply⟨by show 4<=_;decide,λa3 n3=>?_⟩;generalize zz:upd H3 a3 _=H4;obtain⟨e3,c3⟩:=nwO n3 zz
 replace c0:=e3 _ _ c0
 replace c1:=e3 _ _ c1
 replace c2:=e3 _ _ c2
 have z4:bD H H4:=z3.trans e3;apply⟨by show 3<=_;decide,λa4 n4=>?_⟩;generalize zz:upd H4 a4 _=H5;obtain⟨e4,c4⟩:=nwO n4 zz
 replace c0:=e4 _ _ c0
 replace c1:=e4 _ _ c1
 replace c2:=e4 _ _ c2
 replace c3:=e4 _ _ c3
 have z5:bD H H5:=z4.trans e4;apply cV (v:=.ref (as.getD g 0)) (cN.of (z5 _ _ g1)) (pN (by rw[fY,eb g hgl];rfl)) ?_;exists _,_,1,_,rfl,rfl,ig.of (z5 _ _ gy),rfl;apply⟨by show 5<=_;decide,λa5 n5=>?_⟩;generalize zz:upd H5 a5 _=H6;obtain⟨e5,c5⟩:=nwO n5 zz
 replace c0:=e5 _ _ c0
 replace c1:=e5 _ _ c1
 replace c2:=e5 _ _ c2
 replace c3:=e5 _ _ c3
 replace c4:=e5 _ _ c4
 have z6:bD H H6:=z5.trans e5;apply⟨by show 4<=_;decide,λa6 n6=>?_⟩;generalize zz:upd H6 a6 _=H7;obtain⟨e6,c6⟩:=nwO n6 zz
 replace c0:=e6 _ _ c0
 replace c1:=e6 _ _ c1
 replace c2:=e6 _ _ c2
 replace c3:=e6 _ _ c3
 replace c4:=e6 _ _ c4
 replace c5:=e6 _ _ c5
 have z7:bD H H7:=z6.trans e6;apply⟨by show 3<=_;decide,λa7 n7=>?_⟩;generalize zz:upd H7 a7 _=H8;obtain⟨e7,c7⟩:=nwO n7 zz
 replace c0:=e7 _ _ c0
 replace c1:=e7 _ _ c1
 replace c2:=e7 _ _ c2
 replace c3:=e7 _ _ c3
 replace c4:=e7 _ _ c4
 replace c5:=e7 _ _ c5
 replace c6:=e7 _ _ c6
 have z8:bD H H8:=z7.trans e7;apply⟨by show 4<=_;decide,λa8 n8=>?_⟩;generalize zz:upd H8 a8 _=H9;obtain⟨e8,c8⟩:=nwO n8 zz
 replace c0:=e8 _ _ c0
 replace c1:=e8 _ _ c1
 replace c2:=e8 _ _ c2
 replace c3:=e8 _ _ c3
 replace c4:=e8 _ _ c4
 replace c5:=e8 _ _ c5
 replace c6:=e8 _ _ c6
 replace c7:=e8 _ _ c7
 have z9:bD H H9:=z8.trans e8;apply⟨by show 4<=_;decide,λa9 n9=>?_⟩;generalize zz:upd H9 a9 _=H10;obtain⟨e9,c9⟩:=nwO n9 zz
 replace c0:=e9 _ _ c0
 replace c1:=e9 _ _ c1
 replace c2:=e9 _ _ c2
 replace c3:=e9 _ _ c3
 replace c4:=e9 _ _ c4
 replace c5:=e9 _ _ c5
 replace c6:=e9 _ _ c6
 replace c7:=e9 _ _ c7
 replace c8:=e9 _ _ c8
 have z10:bD H H10:=z9.trans e9;apply⟨_,_,_,rfl,cb,ε,λstp p0 p1=>?_⟩;apply⟨by show 2<=_;decide,λa10 n10=>?_⟩;generalize zz:upd H10 a10 _=H11;obtain⟨e10,c10⟩:=nwO n10 zz
 replace c0:=e10 _ _ c0
 replace c1:=e10 _ _ c1
 replace c2:=e10 _ _ c2
 replace c3:=e10 _ _ c3
 replace c4:=e10 _ _ c4
 replace c5:=e10 _ _ c5
 replace c6:=e10 _ _ c6
 replace c7:=e10 _ _ c7
 replace c8:=e10 _ _ c8
 replace c9:=e10 _ _ c9
 have z11:bD H H11:=z10.trans e10;apply⟨by show 11<=_;decide,λal nl=>?_⟩;generalize zz:upd H11 al _=H12;obtain⟨e11,c11⟩:=nwO nl zz;have z12:=z11.trans e11;ext;have sx:s<=999:=δ
 have tx:t<=999:=δ
 have gs0:0<=way / 55 % y.2:=Int.emod_nonneg _ δ;have gs1:way / 55 % y.2<y.2:=Int.emod_lt_of_pos _ δ;have kh:=okH xh bx.1;have kg:=okH xg by'.1;have ks:QOk hs (qN cM s):=okN (m:=999) rfl ε s0 sx;have kt:QOk hs (qN cM t):=okN (m:=999) rfl ε t0 tx;have kf:QOk hs (qN rz f):=okN (m:=999) rfl ε f0 f1;have kl:QOk hs (qN jO load):=okL l0 l1;have kw:QOk hs (qW word):=okW wb;have hc:way % 11=0\/way % 11=1\/way % 11=2\/way % 11=3\/way % 11=4\/way % 11=5\/way % 11=6\/way % 11=7\/way % 11=8\/way % 11=9\/way % 11=10:=δ
 rcases hc with hc | hc | hc | hc | hc | hc | hc | hc | hc | hc | hc
 ·rw[hc];refine cV (cN.of c11) (bT ε rfl) ?_;exact q a0 (.dd "make" (qH h x) [qN cM s,qN Wb (other / 45 % 9),qN Wc bulk]) H12 z12 ⟨rfl,Zpm,(iI kh (iI ks (iI (okN (m:=8) rfl ε δ δ) (iI (okN (m:=1000000000000) rfl ε b0 b1) Be)))),(slH (slS xh s1 (slO (by show Wb≠bZ;decide) (by show Wb≠cM;decide) (slO (by show Wc≠bZ;decide) (by show Wc≠cM;decide) trivial)))),(show 3<=8 by decide)⟩ (e11 _ _ c0)
 ·rw[hc];refine cV (cN.of c11) (bT ε rfl) ?_;exact q a1 (.dd "get" (qH h x) [qN cM s,qN cM t,qN rz f]) H12 z12 ⟨rfl,Zpo,(iI kh (iI ks (iI kt (iI kf Be)))),(slH (slS xh s1 (slS xh t1 (slO (by show rz≠bZ;decide) (by show rz≠cM;decide) trivial)))),(show 3<=8 by decide)⟩ (e11 _ _ c1)
 ·rw[hc];refine cV (cN.of c11) (bT ε rfl) ?_;exact q a2 (.dd "put" (qH h x) [qN cM t,qN rz f,qN cM s]) H12 z12 ⟨rfl,Ztn,(iI kh (iI kt (iI kf (iI ks Be)))),(slH (slS xh t1 (slO (by show rz≠bZ;decide) (by show rz≠cM;decide) (slS xh s1 trivial)))),(show 3<=8 by decide)⟩ (e11 _ _ c2)
 ·rw[hc];refine cV (cN.of c11) (bT ε rfl) ?_;exact q a3 (.dd "copy" (qH h x) [qN cM s,qN cM t]) H12 z12 ⟨rfl,Zpq,(iI kh (iI ks (iI kt Be))),(slH (slS xh s1 (slS xh t1 trivial))),(show 2<=8 by decide)⟩ (e11 _ _ c3)
 ·rw[hc];refine cV (cN.of c11) (bT ε rfl) ?_;exact q a4 (.dd "drop" (qH h x) [qN cM s]) H12 z12 ⟨rfl,Zpp,(iI kh (iI ks Be)),(slH (slS xh s1 trivial)),(show 1<=8 by decide)⟩ (e11 _ _ c4)
 ·rw[hc];refine cV (cN.of c11) (bT ε rfl) ?_;exact q a5 (.dd "give" (qH h x) [qN cM s,qH g y,qN cM (way / 55 % y.2)]) H12 z12 ⟨rfl,Zpn,(iI kh (iI ks (iI kg (iI (okN (m:=999) rfl ε gs0 δ) Be)))),(slH (slS xh s1 (slH (slS xg gs1 trivial)))),(show 3<=8 by decide)⟩ (e11 _ _ c5)
 ·rw[hc];refine cV (cN.of c11) (bT ε rfl) ?_;exact q a6 (.dd "write" (qH h x) [qN cM t,qN jO load]) H12 z12 ⟨rfl,Zmc,(iI kh (iI kt (iI kl Be))),(slH (slS xh t1 (slO (by show jO≠bZ;decide) (by show jO≠cM;decide) trivial))),(show 2<=8 by decide)⟩ (e11 _ _ c6)
 ·rw[hc];refine cV (cN.of c11) (bT ε rfl) ?_;exact q a7 (.dd "read" (qH h x) [qN cM t]) H12 z12 ⟨rfl,Zpk,(iI kh (iI kt Be)),(slH (slS xh t1 trivial)),(show 1<=8 by decide)⟩ (e11 _ _ c7)
 ·rw[hc];refine cV (cN.of c11) (bT ε rfl) ?_;exact q a8 (.dd "name" (qH h x) [qN cM t,qW word]) H12 z12 ⟨rfl,Zpl,(iI kh (iI kt (iI kw Be))),(slH (slS xh t1 (slO (by show rF≠bZ;decide) (by show rF≠cM;decide) trivial))),(show 2<=8 by decide)⟩ (e11 _ _ c8)
 ·rw[hc];refine cV (cN.of c11) (bT ε rfl) ?_;exact q a9 (.dd "seek" (qH h x) [qN cM s,qW word]) H12 z12 ⟨rfl,Zpj,(iI kh (iI ks (iI kw Be))),(slH (slS xh s1 (slO (by show rF≠bZ;decide) (by show rF≠cM;decide) trivial))),(show 2<=8 by decide)⟩ (e11 _ _ c9)
 ·rw[hc];refine cV (cN.of c11) (bT ε rfl) ?_;exact q a10 (.sw (1+stp)) H12 z12 ⟨δ,δ⟩ (e11 _ _ c10)
theorem Qa{c k way other s t f load:Int}{h g:Nat}{l:AJ}{hs:List π}{x y:Str×Int}(hl:HL H l hs)(ok:oM hs)(cb:Builtin.Int.intBits (c+3)<=2 ^ 20+4)
  (xh:hs[h]? =some x) (xg:hs[g]? =some y) (w0:0<=way) (s0:0<=s) (s1:s<x.2) (t0:0<=t) (t1:t<x.2) (f0:0<=f) (f1:f<=999) (l0:-(10 ^ 60)<load) (l1:load<10 ^ 60)
  (q:∀a r H',bD H H'->WOk hs r->H' a=some (.tup (cu r))->Q (.ref a) H'):
  (bw (bO (bW zm [] E0 (aj Γ (aj (ak 4) aM))) (aO 11))
   (bw (cZ (bJ (aN (lH) (aN ο (aN τ (ak 4) (tC (.int 3))) (tC (.int 5))) υ)) (bO (tC (.str "sweep")) (aO 11)) bV)
   (cC (aN (fM K) (gY (aj (fU (aj (tC (.str "make")) (aj (ak 5) (aj (ak 7) (aj (aN ο (aN τ (ak 4) (tC (.int 45))) (tC (.int 9))) (aj (bW uC [] E0 (aj Γ (aj (ak 3) (aj (aN (rI FT λi j=>.int (i ^ j.toNat)) (tC (.int 10)) (tC (.int 12))) aM)))) aM)))))) (aj (fU (aj (tC (.str "get")) (aj (ak 5) (aj (ak 7) (aj (ak 8) (aj (ak 9) aM)))))) (aj (fU (aj (tC (.str "put")) (aj (ak 5) (aj (ak 8) (aj (ak 9) (aj (ak 7) aM)))))) (aj (fU (aj (tC (.str "copy")) (aj (ak 5) (aj (ak 7) (aj (ak 8) aM))))) (aj (fU (aj (tC (.str "drop")) (aj (ak 5) (aj (ak 7) aM)))) (aj (fU (aj (tC (.str "give")) (aj (ak 5) (aj (ak 7) (aj (ak 6) (aj (aN ο (aN τ (ak 3) (tC (.int 55))) (aN (jf K) (aN (fM K) (ak 2) (ak 6)) υ)) aM)))))) (aj (fU (aj (tC (.str "write")) (aj (ak 5) (aj (ak 8) (aj (ak 10) aM))))) (aj (fU (aj (tC (.str "read")) (aj (ak 5) (aj (ak 8) aM)))) (aj (fU (aj (tC (.str "name")) (aj (ak 5) (aj (ak 8) (aj (ak 11) aM))))) (aj (fU (aj (tC (.str "seek")) (aj (ak 5) (aj (ak 7) (aj (ak 11) aM))))) (aj (fU (aj (tC (.str "sweep")) (aj (aN ρ υ (bW uC [] E0 (aj Γ (aj (ak 3) (aj (tC (.int 9998)) aM))))) aM))) aM)))))))))))) (aN ο (ak 3) (tC (.int 11))))))) ξ [some (.int c),some (.int k),↑l,some (.int way),some (.int other),some (.int h),some (.int g),some (.int s),some (.int t),some (.int f),some (.int load),none] H:=by
 apply⟨_,_,rfl,λword wb=>?_⟩;apply iM ad ad
 ·exact Vl (word:="sweep") hl ok cb xh xg w0 s0 s1 t0 t1 f0 f1 l0 l1 γ q
 ·exact Vl hl ok cb xh xg w0 s0 s1 t0 t1 f0 f1 l0 l1 wb q
theorem p60:((10:Int) ^ Int.toNat 60)=10 ^ 60:=rfl
theorem Rc{c k:Int}{l:AJ}(q:∃hs:List π,HL H l hs/\oM hs/\0<=k/\k<1000/\Builtin.Int.intBits c<=2 ^ 20/\∀a r H',bD H H'->WOk hs r->H' a=some (.tup (cu r))->Q (.ref a) H'):tL K uC zm ξ [some (.int c),some (.int k),↑l,none,none,none,none,none,none,none,none,none] H:=by
 obtain⟨hs,hl,ok,k0,k1,cb',q⟩:=q;have cb:Builtin.Int.intBits (c+3)<=2 ^ 20+4:=Nat.le_trans (intBits_add_le (n:=2) cb' ε) ε;obtain⟨o1,o5,nd,hx⟩:=id ok;obtain⟨as,g1,g2,g3⟩:=id hl;have eb:∀i:Nat,i<as.length->as[i]? =some (as.getD i 0):=λi hi=>by rw[dF hi,List.getD_eq_getElem?_getD,dF hi];rfl
 unfold tL;ext;generalize Zxx:(c+17 * k * k+29) * 48271 % 7919=way;generalize hoth:(c+31 * k+7) * 16807 % 6133=other;have w0:0<=way:=by rw[<- Zxx];exact Int.emod_nonneg _ ε
 have v0:0<=other:=by rw[<- hoth];exact Int.emod_nonneg _ ε
 refine gZ (cN.of g1) ?_;rw[bF,g2];apply gZ (cN.of g1) ?_;rw[bF,g2];ext;have hn1:(0:Int)<(hs.length:Int):=δ
 have a0:=Int.emod_nonneg (way / 11) (b:=(hs.length:Int)) δ;have a1:=Int.emod_lt_of_pos (way / 11) hn1;have b0:=Int.emod_nonneg other (b:=(hs.length:Int)) δ;have b1:=Int.emod_lt_of_pos other hn1;generalize way / 11 % (hs.length:Int)=h' at a0 a1 ⊢;generalize other % (hs.length:Int)=g' at b0 b1 ⊢;obtain⟨h,rfl⟩:=Int.eq_ofNat_of_zero_le a0;obtain⟨g,rfl⟩:=Int.eq_ofNat_of_zero_le b0;have xh:hs[h]? =some hs[h]:=dF δ;have xg:hs[g]? =some hs[g]:=dF δ;have bx:=hx _ (List.mem_of_getElem? xh);obtain⟨x,hxe⟩:∃x,x=hs[h]:=⟨_,rfl⟩;rw[<- hxe]at xh bx;obtain⟨as1,b,g1',eb',gb⟩:=hl.at xh;have x0:0<x.2:=δ
 have ixh:∀{H':Hp},bD H H'->cN K H' l (as1.map V.ref):=λs=>cN.of (s _ _ g1');have ixa:CW (as1.map V.ref) (h:Int)=↑b:=pN (by rw[fY,eb'];rfl);refine cV (ixh (bD.refl _)) ixa ?_;exists b,_,1,_,rfl,rfl,ig.of gb,rfl;apply cV (ixh (bD.refl _)) ixa ?_;exists b,_,1,_,rfl,rfl,ig.of gb,rfl;ext;have s0:=Int.emod_nonneg (other / 5) (b:=x.2) δ;have s1:=Int.emod_lt_of_pos (other / 5) x0;have t0:=Int.emod_nonneg (way / 55) (b:=x.2) δ;have t1:=Int.emod_lt_of_pos (way / 55) x0;generalize other / 5 % x.2=s at s0 s1 ⊢;generalize way / 55 % x.2=t at t0 t1 ⊢;refine⟨by show 2<=_;decide,λe he=>?_⟩;generalize zz:upd H e _=H2;obtain⟨s2,c2⟩:=nwO he zz;ext;obtain⟨m,em,m0,m1⟩:∃m:Int,CW [V.int 8,V.int 999] (other % 2)=some (.int m)/\0<=m/\m<=999:=by
  rcases(show other % 2=0\/other % 2=1 by omega)with z | z<;>rw[z]
  ·exact⟨8,rfl,ε,ε⟩
  ·exact⟨999,rfl,ε,ε⟩
 refine cV (cN.of c2) em ?_;apply⟨_,_,_,rfl,cb,m0,λf f0 f1=>?_⟩;apply⟨_,_,_,rfl,cb,by rw[p60];decide,λload l0 l1=>?_⟩;rw[p60]at l1;ext;have q2:∀a r H',bD H2 H'->WOk hs r->H' a=some (.tup (cu r))->Q (.ref a) H':=λa r H' s3=>q a r H' (s2.trans s3);refine iM ad ad
 ·left;exact Qa (load:=0 - load) (hl.same s2) ok cb xh xg w0 s0 s1 t0 t1 f0 δ δ δ q2
 ·exact Qa (hl.same s2) ok cb xh xg w0 s0 s1 t0 t1 f0 δ δ δ q2
end
def Er:Str:="give"
theorem vp:∀p∈jy,p.1≠cX/\∀i:Nat,i<8->(p.2[i+1]? =some bZ↔p.1=Er/\i=1):=γ
theorem Fv.Ye{hs:List π}{f t:Str}{v d:V}(h:Fv hs f v t d)(e:f=bZ):∃(k:Nat) (x:Str×Int),hs[k]? =some x/\v=.int k/\t=x.1/\oN x.1:=by
 cases h with
 | hand e2 k=>exact⟨_,_,e2,rfl,rfl,k⟩
 | num e2=>rw[e,show nO.lookup bZ=none by decide]at e2;cases e2
 | load=>exact absurd e ε
 | word=>exact absurd e ε
theorem Fv.str{hs:List π}{f t:Str}{v d:V}(h:Fv hs f v t d)(e:f≠bZ){H:Hp}{Q:VK}(q:Q (.str t) H):Zmv [v] H Q:=by
 have big:∀i:Int,-(10 ^ 60)<i->i<10 ^ 60->i.natAbs.log2<1920:=λi a b=>by
  by_cases h0:i.natAbs=0
  ·rw[h0];decide
  ·rw[Nat.log2_lt h0];have h1:i.natAbs<10 ^ 60:=δ
   exact Nat.lt_trans (Nat.lt_trans h1 (show(10:Nat) ^ 60<2 ^ 200 by decide)) (Nat.pow_lt_pow_right ε ε)
 cases h with
 | hand e2 k=>exact absurd rfl e
 | num e2 h0 h1 hm=>exact .inl ⟨_,rfl,big _ (Int.lt_of_lt_of_le ε h0) (Int.lt_of_le_of_lt (Int.le_trans h1 hm) ε),q⟩
 | load h0 h1=>exact .inl ⟨_,rfl,big _ h0 h1,q⟩
 | word k=>exact .inr ⟨_,rfl,q⟩
def qg:Sp:=λvs H Q E=>∃a l,vs=[.ref a,.ref l]/\∃(hs:List π) (r:lD),HL H l hs/\hs.length<=5/\H a=some (.tup (cu r))/\WQ hs r/\Q (.str (iV r)) H
section
variable {K:aK}{H:Hp}{Q:VK}{E:XK}{n:ν}{bk ct:ν}
theorem Ms{a l:AJ}(q:∃(hs:List π) (r:lD),HL H l hs/\hs.length<=5/\H a=some (.tup (cu r))/\WQ hs r/\Q (.str (iV r)) H):qI K ξ [↑a,↑l,none,none,none] H:=by
 obtain⟨hs,r,hl,h5,ha,ok,h⟩:=q;have b1l:(" ":Str).length=1:=rfl;have b6l:("sweep ":Str).length=6:=rfl;unfold qI;cases r with
 | sw m=>
  exists a,_,0,_,rfl,rfl,ig.of ha,rfl;apply iM ad (λz=>absurd rfl z);exists a,_,1,_,rfl,rfl,ig.of ha,rfl;ext;have ok1:=ok.1;refine Cp δ (Int.lt_of_le_of_lt ok.2 ε) λt et _ t2=>?_;obtain rfl:t=tS m:=et;refine dh (cB δ) ?_;have e:("sweep ":Str)++tS m=iV (.sw m):=by
   refine lU ?_;unfold iV;rw[dR,bL];rfl
  rw[e];exact h
 | dd w q0 qs=>
  obtain⟨ef,hm,Y8,so,h8⟩:=ok;obtain⟨k,x,ek,ev,et,nk⟩:=(Y8 q0 List.mem_cons_self).1.Ye ef;obtain⟨as,b,g1,g2,g3⟩:=hl.at ek;have fh:=vp _ hm;have wl:w.length<=100:=(vo _ hm).2.2;have xl:=(sU nk.1).1;have v0:CW (cu (.dd w q0 qs)) 0=some (.str w):=bT ε rfl;have v1:CW (cu (.dd w q0 qs)) 1=some (.int k):=bT ε (congrArg some ev);have vi:∀(i:Nat) z,qs[i]? =some z->CW (cu (.dd w q0 qs)) (2+(i:Int))=some z.2.1:=λi z e=>bT δ (by
   rw[show(2+(i:Int)).toNat=i+1+1 from δ];show((q0::qs).map λz:Qd=>z.2.1)[i+1]? =_;rw[fY,List.getElem?_cons_succ,e];rfl)
  have vl:(cu (.dd w q0 qs)).length=qs.length+2:=by show(List.map _ (q0::qs)).length+1=_;rw[bF,List.length_cons]
  have tl:∀i:Nat,(Str.join ⟨#[32]⟩ (x.1::w::(qs.take i).map λz:Qd=>z.2.2.1)).length<=1100:=λi=>by
   have e:=yR 32 (ps:=x.1::w::(qs.take i).map λz:Qd=>z.2.2.1) ζ;rw[<- dR,str_len]at e;have b:=Gh (ps:=x.1::w::(qs.take i).map λz:Qd=>z.2.2.1) (λp hp=>by
    rcases List.mem_cons.mp hp with rfl | hp
    ·omega
    rcases List.mem_cons.mp hp with rfl | hp
    ·exact wl
    obtain⟨z,hz,rfl⟩:=List.mem_map.mp hp;exact(Y8 z (List.mem_cons_of_mem _ (List.mem_of_mem_take hz))).2)
   have c:(x.1::w::(qs.take i).map λz:Qd=>z.2.2.1).length<=10:=by
    rw[List.length_cons,List.length_cons,bF,List.length_take];omega
   omega
  exists a,_,0,_,rfl,rfl,ig.of ha,v0;apply iM (λz=>absurd z fh.1) ad;exists a,_,1,_,rfl,rfl,ig.of ha,v1;apply cV (v:=.ref b) (cN.of g1) (pN (by rw[fY,g2];rfl)) ?_;exists b,_,0,_,rfl,rfl,ig.of g3,rfl;apply dh (cB δ) ?_;exists a,_,0,_,rfl,rfl,ig.of ha,v0;apply dh (cB (by rw[cO];omega)) ?_;ext;unfold Zas;exists a,_,rfl,.inr (ig.of ha);rw[vl];exists _,_,rfl,⟨δ,δ,δ,δ⟩;rw[show(((qs.length+2:Nat):Int) - 2).toNat=qs.length from δ];refine forR (λi σ Hx=>∃v3 v4,σ=[↑a,↑l,some (.str (Str.join ⟨#[32]⟩ (x.1::w::(qs.take i).map λz:Qd=>z.2.2.1))),v3,v4]/\Hx=H) ⟨none,none,rfl,rfl⟩ ?_ ?_
  ·rintro i σ Hx hi ⟨v3,v4,rfl,rfl⟩;have ez:qs[i]? =some qs[i]:=dF hi;have zk:=Y8 _ (List.mem_cons_of_mem _ (List.getElem_mem hi));have fi:=fh.2 i δ;have fz:((w,(q0::qs).map λz:Qd=>z.1).2)[i+1]? =some qs[i].1:=by
    show((q0::qs).map λz:Qd=>z.1)[i+1]? =_;rw[fY,List.getElem?_cons_succ,ez];rfl
   rw[fz]at fi;have vz:=vi i _ ez;have et2:qs.take (i+1)=qs.take i++[qs[i]]:=by rw[List.take_add_one,ez];rfl
   have ti:=tl i;generalize qs[i]=z at zk fi vz et2;have zl:=zk.2;have fin:Str.join ⟨#[32]⟩ (x.1::w::(qs.take (i+1)).map λz:Qd=>z.2.2.1)=Str.join ⟨#[32]⟩ (x.1::w::(qs.take i).map λz:Qd=>z.2.2.1)++(" ":Str)++z.2.2.1:=by
    rw[et2,List.map_append];exact join_snoc (ps:=x.1::w::(qs.take i).map λz:Qd=>z.2.2.1) ζ
   exists a,_,_,_,rfl,rfl,ig.of ha,vz;ext
   by_cases hz:z.1=bZ
   ·obtain⟨k2,x2,ek2,ev2,ZF7,nk2⟩:=zk.1.Ye hz;obtain⟨as2,b2,g12,g22,g32⟩:=hl.at ek2;have hk2:=(iB ek2).1;obtain⟨ew,ei⟩:=fi.mp (congrArg some hz);have ew:w=Er:=ew;subst ei;rw[ev2]at vz ⊢;refine .inl ⟨_,rfl,?_,?_⟩
    ·show k2.log2<1920;exact Nat.lt_of_le_of_lt (Nat.log2_le_self k2) δ
    exists a,_,0,_,rfl,rfl,ig.of ha,v0;apply iM ad (λe=>absurd ew e);apply iM ad (λe=>absurd ε e);exists a,_,3,_,rfl,rfl,ig.of ha,vz;apply cV (v:=.ref b2) (cN.of g12) (pN (by rw[fY,g22];rfl)) ?_;exists b2,_,0,_,rfl,rfl,ig.of g32,rfl;rw[ZF7]at fin zl;apply dh (cB δ) ?_;apply dh (cB (by rw[cO];omega)) ?_;apply⟨_,_,by rw[fin],rfl⟩
   ·refine zk.1.str hz ?_;exists a,_,0,_,rfl,rfl,ig.of ha,v0;apply iM (λew=>?_) ad
    ·apply iM (λe3=>absurd (Option.some.inj (fi.mpr ⟨ew,δ⟩)) hz) ad;apply dh (cB δ) ?_;apply dh (cB (by rw[cO];omega)) ?_;apply⟨_,_,by rw[fin],rfl⟩
    ·skip
     apply dh (cB δ) ?_;apply dh (cB (by rw[cO];omega)) ?_;apply⟨_,_,by rw[fin],rfl⟩
  ·rintro σ Hx ⟨v3,v4,rfl,rfl⟩;rw[List.take_length];ext;rw[<- et];exact h
end
def Fy:Sp:=λvs H Q E=>∃c,vs=[.int c]/\∀w t H',0<=w->w<3->0<=t->t<4->bD H H'->Q (.str (words w t)) H'
section
variable {K:aK}{H:Hp}{Q:VK}{E:XK}{n:ν}{bk ct:ν}
theorem Mv{c:Int}(q:∀w t H',0<=w->w<3->0<=t->t<4->bD H H'->Q (.str (words w t)) H'):qK K ξ [some (.int c),none] H:=by
 unfold qK;apply⟨ε,λl hl=>?_⟩;generalize zz:upd H l _=H1;obtain⟨s1,c1⟩:=nwO hl zz;ext;have w0:0<=c % 3:=δ
 have w1:c % 3<3:=δ
 generalize c % 3=w at w0 w1 ⊢;have hw:w=0\/w=1\/w=2:=δ
 have ea:CW ([.str "first",.str "each",.str "last"]:List V) w=some (.str (wd w)):=by
  rcases hw with rfl | rfl | rfl<;>rfl
 refine cV (cN.of c1) ea ?_;have lw:=Zix w;have l4:(" old":Str).length=4:=rfl;have l5:(" new":Str).length=4:=rfl;apply iM (λe=>?_) (λe=>?_)
 ·apply dh (cB δ) ?_;apply iM (λe=>?_) (λe=>?_)
  ·apply dh (cB (by rw[cO];omega)) ?_;ext;rw[<- w3 hw];exact q w 3 _ w0 w1 ε ε s1
  ·apply q w 1 _ w0 w1 ε ε s1
 ·apply iM (λe=>?_) (λe=>?_)
  ·apply dh (cB δ) ?_;apply q w 2 _ w0 w1 ε ε s1
  ·ext;rw[<- K37.w0 hw];exact q w 0 _ w0 w1 ε ε s1
end
theorem O5{t:Str}{v:Int}(h:pQ t=some v):1<=t.length/\t.length<=60/\Dig t:=by
 unfold pQ at h;split at h
 ·rename_i z;exact⟨z.1.1,z.1.2.1,z.2⟩
 ·cases h
theorem zz{t:Str}{c:Nat}(h:c∈t.cps.toList)(hc:c<48\/57<c):pQ t=none:=by
 cases e:pQ t with
 | none=>rfl
 | some v=>have:=(O5 e).2.2 c h;omega
theorem Ga{t:Str}(h:1<=t.length):pQ (("0":Str)++t)=none:=by
 unfold pQ;rw[if_neg];intro z;exact z.1.2.2 ⟨by rw[bL];rfl,by rw[cO];show 1<1+_;omega⟩
theorem vf{t:Str}{c:Nat}(h:c∈t.cps.toList)(hc:c<97\/122<c):dJ t letters 12=false:=by
 cases e:dJ t letters 12 with
 | false=>rfl
 | true=>have:=(sU e).2 c h;omega
theorem Zbg{t:Str}{j:Nat}(h:j<=t.length):(ue t (some (j:Int)) none).cps.toList=t.cps.toList.drop j:=by
 have x1:HT.fO t.length 0 (some (j:Int))=j:=by
  unfold HT.fO;dsimp only;rw[if_neg δ];simp;omega
 have x2:HT.fO t.length t.length none=t.length:=rfl;unfold ue;rw[x1,x2];show(t.cps.toList.drop j).take (t.length - j)=_;exact List.take_of_length_le (by rw[List.length_drop,str_len];omega)
theorem Zl0{t:Str}{c:Nat}(h:c∈t.cps.toList)(hc:c<45):oH t=none:=by
 unfold oH;split
 ·rename_i z
  have hl:=(iB z).1;rw[str_len]at hl;have e:=Zbg (t:=t) (j:=1) hl;have m:c∈(ue t (some 1) none).cps.toList:=by
   rw[show((1:Nat):Int)=1 from rfl]at e;rw[e];cases et:t.cps.toList with
   | nil=>rw[et]at h;cases h
   | cons x r=>
    rw[et]at h z;have zx:some x=some 45:=z;cases zx;rcases List.mem_cons.mp h with rfl | h
    ·omega
    ·exact h
  rw[zz m δ]
 ·exact zz h δ
theorem VB{t:Str}(h:t.cps.toList[0]?≠some 45):oH t=pQ t:=by
 unfold oH;rw[if_neg h]
theorem Vq{t:Str}(h:pQ t=none)(m:V):qX t m=none:=by unfold qX;rw[h]
theorem Q9{t:Str}(h:pQ t=none)(lo hi:Int):J7 t lo hi=none:=by unfold J7;rw[Vq h]
theorem Zj1{f t:Str}(h1:pQ t=none)(h2:f=jO->oH t=none)(h3:dJ t letters 12=false):cD f t=none:=by
 unfold cD;split
 ·rw[Vq h1];rfl
 ·split
  ·rename_i e;rw[h2 e];rfl
  ·rw[if_neg (by rw[h3];exact Bool.false_ne_true)]
theorem Zr3{f t:Str}(h:1<=t.length):cD f (("0":Str)++t)=none:=by
 have e:(("0":Str)++t).cps.toList=48::t.cps.toList:=by rw[bL];rfl
 refine Zj1 (Ga h) ad (vf (c:=48) (by rw[e];exact List.mem_cons_self) δ);rw[VB (by rw[e];show some 48≠some 45;decide)];exact Ga h
theorem Zuc{f t:Str}:cD f (t++("\t":Str))=none:=by
 have m:9∈(t++("\t":Str)).cps.toList:=by rw[bL];exact List.mem_append_right _ ε
 exact Zj1 (zz m δ) (λ_=>Zl0 m δ) (vf m δ)
theorem Znc{f t:Str}(h:f≠jO):cD f (("-":Str)++t)=none:=by
 have m:45∈(("-":Str)++t).cps.toList:=by rw[bL];exact List.mem_append_left _ ε
 exact Zj1 (zz m δ) (λe=>absurd e h) (vf m δ)
theorem Zj0{f:Str}{m i:Int}(e:nO.lookup f=some (.int m))(h:m<i)(h0:0<=i)(h1:i<10 ^ 60):cD f (tS i)=none:=by
 unfold cD;rw[e];show(qX (tS i) (.int m)).map V.int=none;unfold qX;rw[zy h0 h1];show Option.map V.int (if decide (m<i)=true then none else some i)=none;rw[if_pos (decide_eq_true h)];rfl
theorem Zr4{i:Int}(h:10 ^ 60<=i):cD jO (tS i)=none:=by
 obtain⟨m,rfl⟩:=Int.eq_ofNat_of_zero_le (Int.le_trans ε h);have e:(tS ((m:Nat):Int)).cps.toList=(Nat.toDigits 10 m).map Char.toNat:=W.KIN.signs_num m;have hn:pQ (tS ((m:Nat):Int))=none:=by
  cases ev:pQ (tS ((m:Nat):Int))with
  | none=>rfl
  | some v=>
   have h60:=(O5 ev).2.1;rw[<- str_len,e,bF]at h60;have:=(Nat.length_toDigits_le_iff (n:=m) (b:=10) (k:=60) ε ε).mp h60;omega
 unfold cD;rw[show nO.lookup jO=none by decide];show(if jO=jO then(oH (tS ((m:Nat):Int))).map V.int else _)=none;rw[if_pos rfl,VB (λz=>?_),hn]
 ·rfl
 ·rw[e]at z;have:=Ztw m 45 (List.mem_of_getElem? z);omega
theorem Fv.value{hs:List π}{f t:Str}{v d:V}(h:Fv hs f v t d):cD f t=some d:=by
 unfold cD;cases h with
 | hand e k=>
  rw[show nO.lookup bZ=none by decide];show(if bZ=jO then _ else if dJ _ letters 12=true then _ else none)=_;rw[if_neg ε,if_pos k.1]
 | @num f m i e h0 h1 hm=>
  rw[e];show(qX (tS i) (.int m)).map V.int=_;unfold qX;rw[zy h0 (Int.lt_of_le_of_lt (Int.le_trans h1 hm) ε)];show Option.map V.int (if decide (m<i)=true then none else some i)=_;rw[if_neg (by rw[decide_eq_false δ];exact Bool.false_ne_true)];rfl
 | @load i h0 h1=>
  rw[show nO.lookup jO=none by decide];show(if jO=jO then(oH (tS i)).map V.int else _)=_;rw[if_pos rfl,Zkz h0 h1];rfl
 | word k=>
  rw[show nO.lookup rF=none by decide];show(if rF=jO then _ else if dJ _ letters 12=true then _ else none)=_;rw[if_neg ε,if_pos k]
theorem Zn{s:Str}(h:dJ s letters 12=true):cD bZ s=some (.str s):=by
 unfold cD;rw[show nO.lookup bZ=none by decide];show(if bZ=jO then _ else if dJ _ letters 12=true then _ else none)=_;rw[if_neg ε,if_pos h]
theorem Zcc{hs:List π}:∀{qs:List Qd},(∀q∈qs,QOk hs q)->nQ (qs.map λz:Qd=>z.1) (qs.map λz:Qd=>z.2.2.1)=some (qs.map λz:Qd=>z.2.2.2)
 | [],_=>rfl
 | q::qs,h=>by
  have ih:=Zcc (qs:=qs) λx hx=>h x (List.mem_cons_of_mem _ hx);show(cD q.1 q.2.2.1).bind _=_;rw[(h q List.mem_cons_self).1.value,Option.bind_some,ih];rfl
theorem Zq:∀{fs ts:AI}{i:Nat}{f t:Str},fs[i]? =some f->ts[i]? =some t->cD f t=none->nQ fs ts=none
 | [],_,i,f,t,h,_,_=>by cases h
 | _::_,[],i,f,t,_,h,_=>by cases h
 | f0::fs,t0::ts,0,f,t,h1,h2,h3=>by
  cases h1;cases h2;show(cD f0 t0).bind _=none;rw[h3];rfl
 | f0::fs,t0::ts,i+1,f,t,h1,h2,h3=>by
  have ih:=Zq (fs:=fs) (ts:=ts) h1 h2 h3;show(cD f0 t0).bind _=none;rw[ih];cases cD f0 t0<;>rfl
theorem Zo:∀{fs ts:AI}{vs:List V}{i:Nat}{f s:Str}{v:V},nQ fs ts=some vs->fs[i]? =some f->cD f s=some v->i<ts.length->nQ fs (ts.set i s)=some (vs.set i v)
 | [],_,_,i,f,s,v,_,h,_,_=>by cases h
 | _::_,[],_,i,f,s,v,_,_,_,h=>by cases h
 | f0::fs,t0::ts,vs,i,f,s,v,h,h1,h2,hi=>by
  have h:(cD f0 t0).bind (λv=>(nQ fs ts).map λvs=>v::vs)=some vs:=h;cases e0:cD f0 t0 with
  | none=>rw[e0]at h;cases h
  | some v0=>
   rw[e0,Option.bind_some]at h;obtain⟨vs',e1,rfl⟩:=Option.map_eq_some_iff.mp h;cases i with
   | zero=>
    cases h1;show(cD f0 s).bind _=_;rw[h2,Option.bind_some,e1];rfl
   | succ i=>
    have ih:=Zo (fs:=fs) (ts:=ts) (i:=i) e1 h1 h2 (Nat.lt_of_succ_lt_succ hi);show(cD f0 t0).bind _=_;rw[e0,Option.bind_some,ih];rfl
theorem Zup{names:AI}(nd:names.Nodup){i:Nat}{x:Str}(e:names[i]? =some x):VG names (.str x)=some i:=by
 show names.findIdx? (λy=>decide (y=x))=some i;obtain⟨hi,ex⟩:=iB e;rw[List.findIdx?_eq_some_iff_getElem];refine⟨hi,decide_eq_true ex,λj hj z=>?_⟩;have z:=of_decide_eq_true z;exact(List.pairwise_iff_getElem.mp nd j i (Nat.lt_trans hj hi) hi hj) (z.trans ex.symm)
theorem Zuy{names:AI}{s:Str}(h:s∉names):VG names (.str s)=none:=by
 show names.findIdx? (λy=>decide (y=s))=none;rw[List.findIdx?_eq_none_iff];intro x hx;exact decide_eq_false λe=>h (e ▸ hx)
theorem Zc9{hs:List π}(nd:(hs.map (·.1)).Nodup):∀{qs:List Qd},(∀q∈qs,QOk hs q)->fQ (hs.map (·.1)) (qs.map λz:Qd=>z.1) (qs.map λz:Qd=>z.2.2.2)=some (qs.map λz:Qd=>z.2.1)
 | [],_=>rfl
 | q::qs,h=>by
  have ih:=Zc9 nd (qs:=qs) λx hx=>h x (List.mem_cons_of_mem _ hx);have hq:=(h q List.mem_cons_self).1;obtain⟨f,v,t,d⟩:=q;have hq:Fv hs f v t d:=hq;show(if f=bZ then(VG (hs.map (·.1)) d).bind _ else(fQ _ _ _).map _)=_;rw[ih];cases hq with
  | @hand i x e k=>
   rw[if_pos rfl,Zup nd (i:=i) (by rw[fY,e];rfl)];rfl
  | num e=>
   rw[if_neg (λz=>by rw[z,show nO.lookup bZ=none by decide]at e;cases e)];rfl
  | load=>rw[if_neg ε];rfl
  | word=>rw[if_neg ε];rfl
theorem Zi{names:AI}:∀{fs:AI}{vs:List V}{i:Nat}{v:V},fs[i]? =some bZ->vs[i]? =some v->VG names v=none->fQ names fs vs=none
 | [],_,i,v,h,_,_=>by cases h
 | _::_,[],i,v,_,h,_=>by cases h
 | f0::fs,v0::vs,0,v,h1,h2,h3=>by
  cases h1;cases h2;show(if bZ=bZ then(VG names v0).bind _ else _)=none;rw[if_pos rfl,h3];rfl
 | f0::fs,v0::vs,i+1,v,h1,h2,h3=>by
  have ih:=Zi (fs:=fs) (vs:=vs) h1 h2 h3;show(if f0=bZ then(VG names v0).bind _ else(fQ names fs vs).map _)=none;rw[ih];split
  ·cases VG names v0<;>rfl
  ·rfl
theorem Xn{hs:List π}:∀{qs:List Qd}{o:Nat},Uc hs o qs->fV hs o (qs.map λz:Qd=>z.1) (qs.map λz:Qd=>z.2.1)=true
 | [],_,_=>by rw[List.map_nil,List.map_nil,fV];intros;rename_i h _ ;cases h
 | q::qs,o,h=>by
  obtain⟨f,v,t,d⟩:=q;rw[List.map_cons,List.map_cons];dsimp only;rcases h with ⟨e,i,ev,h⟩ | ⟨e,h,g⟩
  ·have e:f=bZ:=e;have ev:v=.int i:=ev;rw[ev,Xp e];exact Xn h
  ·have e:f≠bZ:=e
   by_cases e2:f=cM
   ·obtain⟨m,x,em,ex,lt⟩:=g e2;have em:v=.int m:=em;rw[em,Nb e e2 ex,decide_eq_true lt,Xn h];rfl
   ·rw[Xo e e2];exact Xn h
theorem Zph:∀p∈jy,jy.lookup p.1=some p.2:=ε
theorem Yp:∀p∈jy,p.2[0]? =some bZ/\2<=p.2.length/\p.2.length<=4:=ε
theorem Zur{w:Str}{fs:AI}(h:jy.lookup w=some fs):(w,fs)∈jy:=by
 have g:∀(l:List (Str×AI)),l.lookup w=some fs->(w,fs)∈l:=by
  intro l
  induction l with
  | nil=>intro h;cases h
  | cons p l ih=>
   intro h;rw[List.lookup_cons]at h;split at h
   ·rename_i e
    have e:=eq_of_beq e;cases h;rw[e];exact List.mem_cons_self
   ·exact List.mem_cons_of_mem _ (ih h)
 exact g _ h
theorem MN{a w:Str}{r fs:AI}(hm:(w,fs)∈jy):nJ (a::w::r)=if r.length+1=fs.length then(nQ fs (a::r)).map λvs=>(fs,vs)else none:=by
 show(jy.lookup w).bind _=_;rw[Zph _ hm];rfl
theorem Zu{a w:Str}{r fs:AI}(hm:(w,fs)∈jy)(h:r.length+1≠fs.length):nJ (a::w::r)=none:=by
 rw[MN hm,if_neg h]
theorem O6{a w:Str}{r:AI}(h:jy.lookup w=none):nJ (a::w::r)=none:=by
 show(jy.lookup w).bind _=none;rw[h];rfl
theorem Zv{a w:Str}{r fs:AI}(hm:(w,fs)∈jy){i:Nat}{f t:Str}(h1:fs[i]? =some f)(h2:(a::r)[i]? =some t)(h3:cD f t=none):nJ (a::w::r)=none:=by
 rw[MN hm,Zq h1 h2 h3];split<;>rfl
theorem Zha{a:Str}{r:AI}(h:dJ a letters 12=false):nJ (a::r)=none:=by
 cases r with
 | nil=>rfl
 | cons w r=>
  cases e:jy.lookup w with
  | none=>exact O6 e
  | some fs=>
   have hm:=Zur e;refine Zv hm (i:=0) (f:=bZ) (Yp _ hm).1 rfl ?_;unfold cD;rw[show nO.lookup bZ=none by decide];show(if bZ=jO then _ else if dJ a letters 12=true then _ else none)=none;rw[if_neg ε,if_neg (by rw[h];exact Bool.false_ne_true)]
theorem sJ{hs:List π}{ps:AI}(h:ps.head?≠some cX)(t:nJ ps=none):fP hs ps=some .form:=by
 unfold fP;rw[if_neg h,t]
theorem zu{hs:List π}{a:Str}{r:AI}(h:dJ a letters 12=false):fP hs (a::r)=some .form:=by
 refine sJ (λe=>?_) (Zha h);have e:a=cX:=Option.some.inj e;rw[e]at h;exact absurd h γ
theorem Dc{hs:List π}{r:AI}(h:vJ (cX::r)=none):fP hs (cX::r)=some .form:=by
 unfold fP;rw[if_pos (show(cX::r).head? =some cX from rfl),h];rfl
theorem OD{hs:List π}{m:Int}(h0:1<=m)(h1:m<=9999):fP hs [cX,tS m]=none:=by
 unfold fP;rw[if_pos (show [cX,tS m].head? =some cX from rfl)];have:vJ [cX,tS m]=some m:=by
  show J7 (tS m) 1 9999=some m;unfold J7 qX;rw[zy δ (Int.lt_of_le_of_lt h1 ε)];show(match (if decide ((9999:Int)<m)=true then none else some m)with | some v=>if v<1 then none else some v | none=>none)=_;rw[if_neg (by rw[decide_eq_false δ];exact Bool.false_ne_true)];show(if m<1 then none else some m)=_;rw[if_neg δ]
 rw[this];rfl
theorem Zj4{hs:List π}{w:Str}{q:Qd}{qs:List Qd}(h:WQ hs (.dd w q qs)):nJ (partsOf (.dd w q qs))=some ((q::qs).map (λz:Qd=>z.1),(q::qs).map λz:Qd=>z.2.2.2):=by
 obtain⟨ef,hm,Y8,_,h8⟩:=h;show nJ (q.2.2.1::w::qs.map λz:Qd=>z.2.2.1)=_;rw[MN hm,if_pos (by rw[bF,bF,List.length_cons])];have:=Zcc Y8;rw[List.map_cons (f:=λz:Qd=>z.2.2.1)]at this;rw[this];rfl
theorem WQ.nh{hs:List π}{w:Str}{q:Qd}{qs:List Qd}(h:WQ hs (.dd w q qs)):oN q.2.2.1:=(h.2.2.1 q List.mem_cons_self).1.nm h.1
theorem Zfa{hs:List π}(nd:(hs.map (·.1)).Nodup){r:lD}(h:WOk hs r):fP hs (partsOf r)=none:=by
 cases r with
 | sw m=>exact OD h.1 h.2
 | dd w q qs=>
  have t:=Zj4 h.q;unfold fP;rw[if_neg (show ¬ (partsOf (.dd w q qs)).head? =some cX from λe=>h.q.nh.2 (Option.some.inj e)),t];show(match fQ (hs.map (·.1)) ((q::qs).map λz:Qd=>z.1) ((q::qs).map λz:Qd=>z.2.2.2)with | none=>some Cl.hand | some us=>if fV hs 0 ((q::qs).map λz:Qd=>z.1) us=true then none else some Cl.slot)=none;rw[Zc9 nd h.2.2.1];show(if fV hs 0 ((q::qs).map λz:Qd=>z.1) ((q::qs).map λz:Qd=>z.2.1)=true then none else some Cl.slot)=none;rw[if_pos (Xn h.2.2.2.1)]
theorem Zh4{hs:List π}(nd:(hs.map (·.1)).Nodup){w:Str}{q:Qd}{qs:List Qd}(h:WQ hs (.dd w q qs))(b:fV hs 0 ((q::qs).map λz:Qd=>z.1) ((q::qs).map λz:Qd=>z.2.1)=false):fP hs (partsOf (.dd w q qs))=some .slot:=by
 have t:=Zj4 h;unfold fP;rw[if_neg (show ¬ (partsOf (.dd w q qs)).head? =some cX from λe=>h.nh.2 (Option.some.inj e)),t];show(match fQ (hs.map (·.1)) ((q::qs).map λz:Qd=>z.1) ((q::qs).map λz:Qd=>z.2.2.2)with | none=>some Cl.hand | some us=>if fV hs 0 ((q::qs).map λz:Qd=>z.1) us=true then none else some Cl.slot)=_;rw[Zc9 nd h.2.2.1];show(if fV hs 0 ((q::qs).map λz:Qd=>z.1) ((q::qs).map λz:Qd=>z.2.1)=true then none else some Cl.slot)=_;rw[if_neg (by rw[b];exact Bool.false_ne_true)]
theorem UT{hs:List π}{w:Str}{q:Qd}{qs:List Qd}(h:WQ hs (.dd w q qs)){i:Nat}{z:Qd}(ei:(q::qs)[i]? =some z)(ef:z.1=bZ){s:Str}(sw:dJ s letters 12=true)(sn:s∉hs.map (·.1)){a:Str}{r:AI}(e:a::r=((q::qs).map λz:Qd=>z.2.2.1).set i s)(na:a≠cX):fP hs (a::w::r)=some .hand:=by
 obtain⟨_,hm,Y8,_,h8⟩:=h;have hl:r.length+1=((q::qs).map λz:Qd=>z.1).length:=by
  have:=congrArg List.length e;rw[List.length_set,bF,List.length_cons]at this;rw[bF,this]
 have hi:=(iB ei).1;have ez:((q::qs).map λz:Qd=>z.1)[i]? =some bZ:=by rw[fY,ei];exact congrArg some ef
 have v:=Zo (i:=i) (Zcc Y8) ez (Zn sw) (by rw[bF];exact hi);rw[<- e]at v;unfold fP;rw[if_neg (show ¬ (a::w::r).head? =some cX from λe=>na (Option.some.inj e)),MN hm,if_pos hl,v];show(match fQ (hs.map (·.1)) ((q::qs).map λz:Qd=>z.1) (((q::qs).map λz:Qd=>z.2.2.2).set i (.str s))with | none=>some Cl.hand | some us=>if fV hs 0 ((q::qs).map λz:Qd=>z.1) us=true then none else some Cl.slot)=_;rw[Zi ez (List.getElem?_set_self (by rw[bF];exact hi)) (Zuy sn)]
def YK(hs:List π)(t:Str)(c:Cl):Prop:=fP hs (Txt.split t iD)=some c/\10∉t.cps.toList/\t.length<=4000
def lC(p:Str):Prop:=p.length<=300/\32∉p.cps.toList/\10∉p.cps.toList
theorem MP:∀{ps:AI},(∀p∈ps,lC p)->(ps.map (·.length)).sum<=300 * ps.length
 | [],_=>Nat.zero_le _
 | p::ps,h=>by
  have:=MP (ps:=ps) (λq hq=>h q (List.mem_cons_of_mem _ hq));have:=(h p List.mem_cons_self).1;rw[List.map_cons,List.sum_cons,List.length_cons];omega
theorem sV{hs:List π}{ps:AI}{t:Str}{c:Cl}(e:t.cps.toList=jl 32 ps)(ne:ps≠[])(ok:∀p∈ps,lC p)(ln:ps.length<=12)(w:fP hs ps=some c):YK hs t c:=by
 have et:t=Str.join ⟨#[32]⟩ ps:=lU (by rw[dR];exact e);refine⟨?_,?_,?_⟩
 ·rw[et,show Txt.split (Str.join ⟨#[32]⟩ ps) iD=ps from nq ne λp hp=>(ok p hp).2.1];exact w
 ·rw[e];exact Nf ε λp hp=>(ok p hp).2.2
 ·have h1:=yR 32 ne;rw[<- e,str_len]at h1;have:=MP ok;omega
def Rb:lD->Nat->Str->Prop
 | .sw _,_,t=>J7 t 1 9999=none
 | .dd _ _ qs,k,t=>∀z:Qd,qs[k - 2]? =some z->cD z.1 t=none
def kOk:lD->AI->Nat->Prop
 | .sw _,_,k=>k=1
 | .dd _ _ _,ws,k=>2<=k/\k<ws.length
def Bb:AI:=["mak","Get","sweep","keep","","PUT"]
structure Fl(hs:List π)(r:lD)(ws:AI):Prop where
 fr:∀p∈ws,1<=p.length/\p.length<=100/\32∉p.cps.toList/\10∉p.cps.toList
 ex:∃a b ts,ws=a::b::ts
 ln:ws.length<=8
 lst:kOk r ws (ws.length - 1)
 kl:∀k,kOk r ws k->k<ws.length
 more:∀x,fP hs (ws++[x])=some .form
 less:fP hs ws.dropLast=some .form
 mid:∀a b ts,ws=a::b::ts->fP hs (a::("":Str)::b::ts)=some .form
 key:∀w'∈Bb,fP hs (ws.set 1 w')=some .form
 at_:∀k t,kOk r ws k->Rb r k t->fP hs (ws.set k t)=some .form
theorem Zpf:∀p∈jy,1<=p.1.length:=ε
theorem XR:∀w'∈Bb,jy.lookup w'=none/\J7 w' 1 9999=none/\lC w':=by
 unfold lC;decide +kernel
theorem Zci{i:Int}(h0:0<=i)(h1:i<10 ^ 60):1<=(tS i).length:=(O5 (zy h0 h1)).1
theorem Zw0{hs:List π}{m:Int}(h0:1<=m)(h1:m<=9999):Fl hs (.sw m) [cX,tS m] where
 fr p hp:=by
  have l:=Bj (i:=m) δ (Int.lt_of_le_of_lt h1 ε);have l1:=Zci (i:=m) δ (Int.lt_of_le_of_lt h1 ε);rcases List.mem_cons.mp hp with rfl | hp
  ·decide +kernel
  ·rw[List.mem_singleton.mp hp];exact⟨l1,δ,nR 32 ε m,nR 10 ε m⟩
 ex:=⟨_,_,_,rfl⟩
 ln:=by show 2<=8;decide
 lst:=rfl
 kl k hk:=by
  have hk:k=1:=hk;rw[hk];show 1<2;decide
 more x:=Dc rfl
 less:=Dc rfl
 mid a b ts e:=by cases e;exact Dc rfl
 key w' h:=Dc (XR w' h).2.1
 at_ k t hk h:=by
  have hk:k=1:=hk;subst hk;exact Dc h
theorem Zmd{hs:List π}{w:Str}{q:Qd}{qs:List Qd}(hm:(w,(q::qs).map λz:Qd=>z.1)∈jy){a:Str}{ts:AI}(wa:dJ a letters 12=true)(na:a≠cX)(tl:ts.length=qs.length)(tf:∀p∈ts,1<=p.length/\p.length<=100/\32∉p.cps.toList/\10∉p.cps.toList):Fl hs (.dd w q qs) (a::w::ts):=by
 have hd:=(Yp _ hm).2;have hd1:2<=qs.length+1:=by have:=hd.1;rw[bF,List.length_cons]at this;exact this
 have hd2:qs.length+1<=4:=by have:=hd.2;rw[bF,List.length_cons]at this;exact this
 have fl:((q::qs).map λz:Qd=>z.1).length=qs.length+1:=by rw[bF,List.length_cons]
 have nh:∀r:AI,(a::r).head?≠some cX:=λr e=>na (Option.some.inj e);have wl:=sU wa;refine⟨λp hp=>?_,⟨_,_,_,rfl⟩,by rw[List.length_cons,List.length_cons];omega,⟨by rw[List.length_cons,List.length_cons];omega,by rw[List.length_cons,List.length_cons];omega⟩,λk hk=>hk.2,λx=>?_,?_,λa' b ts' e=>?_,λw' hw=>?_,λk t hk hb=>?_⟩
 ·rcases List.mem_cons.mp hp with rfl | hp
  ·refine⟨?_,δ,λz=>by have:=wl.2 _ z;omega,λz=>by have:=wl.2 _ z;omega⟩;unfold dJ at wa;rw[Bool.and_eq_true]at wa;have:=of_decide_eq_true wa.1;omega
  rcases List.mem_cons.mp hp with rfl | hp
  ·have:=vo _ hm;exact⟨Zpf _ hm,this.2.2,this.1,this.2.1⟩
  ·exact tf p hp
 ·exact sJ (nh _) (Zu (r:=ts++[x]) hm (by rw[fl,List.length_append];show ts.length+1+1≠_;omega))
 ·have e:(a::w::ts).dropLast=a::w::ts.dropLast:=by
   cases ts with
   | nil=>rw[<- tl]at hd1;exact absurd hd1 ε
   | cons x r=>rfl
  rw[e];exact sJ (nh _) (Zu hm (by rw[fl,List.length_dropLast];omega))
 ·cases e;exact sJ (nh _) (O6 ε)
 ·exact sJ (nh _) (O6 (r:=ts) (XR w' hw).1)
 ·obtain⟨k1,k2⟩:=hk;obtain⟨j,rfl⟩:∃j,k=j+2:=⟨k - 2,δ⟩;have hj:j<ts.length:=by rw[List.length_cons,List.length_cons]at k2;omega
  have ez:qs[j]? =some (qs[j]' δ):=dF δ;show fP hs (a::w::ts.set j t)=_;refine sJ (nh _) (Zv hm (i:=j+1) (f:=(qs[j]' δ).1) ?_ (t:=t) ?_ (hb _ ?_))
  ·rw[fY,List.getElem?_cons_succ,ez];rfl
  ·rw[List.getElem?_cons_succ];exact List.getElem?_set_self hj
  ·exact ez
section
variable {hs:List π}{r:lD}{ws:AI}
theorem Fl.ok(h:Fl hs r ws):∀p∈ws,lC p:=λp hp=>by
 have:=h.fr p hp;exact⟨δ,this.2.2.1,this.2.2.2⟩
theorem Fl.ne(h:Fl hs r ws):ws≠[]:=by obtain⟨a,b,ts,rfl⟩:=h.ex;simp
theorem DK{p:Str}{ps:AI}(h:lC p)(t:∀x∈ps,lC x):∀x∈p::ps,lC x:=λx hx=>by
 rcases List.mem_cons.mp hx with rfl | hx
 ·exact h
 ·exact t x hx
theorem W9{p:Str}{ps:AI}(h:lC p)(t:∀x∈ps,lC x):∀x∈ps++[p],lC x:=λx hx=>by
 rcases List.mem_append.mp hx with hx | hx
 ·exact t x hx
 ·rw[List.mem_singleton.mp hx];exact h
theorem Xa{k:Nat}{p:Str}{ps:AI}(h:lC p)(t:∀x∈ps,lC x):∀x∈ps.set k p,lC x:=λx hx=>by
 rcases List.mem_or_eq_of_mem_set hx with hx | rfl
 ·exact t x hx
 ·exact h
theorem Hs{a b:Str}(ha:32∉a.cps.toList/\10∉a.cps.toList)(hb:32∉b.cps.toList/\10∉b.cps.toList)(hl:a.length+b.length<=300):lC (a++b):=by
 unfold lC;rw[cO,bL];exact⟨hl,λz=>(List.mem_append.mp z).elim ha.1 hb.1,λz=>(List.mem_append.mp z).elim ha.2 hb.2⟩
theorem Fl.f0(h:Fl hs r ws):YK hs (Str.join ⟨#[32]⟩ ws++(" 1":Str)) .form:=by
 have:=h.ln;refine sV (ps:=ws++[("1":Str)]) ?_ ζ (W9 (by unfold lC;decide +kernel) h.ok) (by rw[List.length_append];show _+1<=_;omega) (h.more _);rw[bL,dR,zK 32 _ h.ne];rfl
theorem Fl.f1(h:Fl hs r ws):YK hs (Str.join ⟨#[32]⟩ ws.dropLast) .form:=by
 have:=h.ln;obtain⟨a,b,ts,rfl⟩:=h.ex;refine sV (ps:=(a::b::ts).dropLast) (by rw[dR]) ζ (λp hp=>h.ok p (List.dropLast_subset _ hp)) (by rw[List.length_dropLast];omega) h.less
theorem Fl.f2a(h:Fl hs r ws):YK hs (Str.join ⟨#[32]⟩ ws++(" ":Str)) .form:=by
 have:=h.ln;refine sV (ps:=ws++[("":Str)]) ?_ ζ (W9 (by unfold lC;decide +kernel) h.ok) (by rw[List.length_append];show _+1<=_;omega) (h.more _);rw[bL,dR,zK 32 _ h.ne];rfl
theorem Fl.f2b(h:Fl hs r ws):YK hs ((" ":Str)++Str.join ⟨#[32]⟩ ws) .form:=by
 have:=h.ln;refine sV (ps:=("":Str)::ws) ?_ ζ (DK (by unfold lC;decide +kernel) h.ok) (by rw[List.length_cons];omega) (zu γ);obtain⟨a,b,ts,rfl⟩:=h.ex;rw[bL,dR];rfl
theorem Zj2{c:Nat}{a r:List Nat}(h:c∉a):(a++c::r).takeWhile (λx=>decide (x≠c))=a/\(a++c::r).dropWhile (λx=>decide (x≠c))=c::r:=by
 induction a with
 | nil=>simp
 | cons x a ih=>
  have hx:x≠c:=λe=>h (e ▸ List.mem_cons_self);have ih:=ih (λz=>h (List.mem_cons_of_mem _ z));refine⟨?_,?_⟩
  ·rw[List.cons_append,List.takeWhile_cons,if_pos (decide_eq_true hx),ih.1]
  ·rw[List.cons_append,List.dropWhile_cons,if_pos (decide_eq_true hx),ih.2]
theorem Zex(t:Str)(i:Nat):StrLaws.At t ⟨#[32]⟩ t.length i↔t.cps.toList[i]? =some 32:=by
 unfold StrLaws.At;rw[StrLaws.subAt_eq];have hl:t.length=t.cps.toList.length:=(str_len t).symm;rw[hl];show i+1<=_/\((t.cps.toList.drop i).take 1 == [32])=true↔_;generalize t.cps.toList=l;constructor
 ·rintro⟨h1,h2⟩;have hi:i<l.length:=δ
  rw[List.drop_eq_getElem_cons hi,List.take_succ_cons,List.take_zero]at h2;have:l[i]=32:=by simpa using h2
  rw[dF hi,this]
 ·intro h;obtain⟨hi,e⟩:=iB h;refine⟨hi,?_⟩;rw[List.drop_eq_getElem_cons hi,List.take_succ_cons,List.take_zero,e];rfl
theorem Zb4(t:Str):(32∉t.cps.toList/\Builtin.Str.occurrences t ⟨#[32]⟩ 0 t.length 1=[])\/∃a r,t.cps.toList=a++32::r/\32∉a/\Builtin.Str.occurrences t ⟨#[32]⟩ 0 t.length 1=[a.length]:=by
 rcases StrLaws.occ_head t ⟨#[32]⟩ 1 (Nat.le_refl 1)with ⟨h0,hn⟩ | ⟨i,r,h0,hi,hn⟩
 ·refine .inl ⟨λhm=>?_,h0⟩;obtain⟨i,hi⟩:=List.getElem?_of_mem hm;exact hn i ((Zex t i).mpr hi)
 ·have hi':=(Zex t i).mp hi;obtain⟨hlt,e⟩:=iB hi';have hr:r=[]:=by
   have:=StrLaws.occ_length_le t ⟨#[32]⟩ 0 t.length 1;rw[h0,List.length_cons]at this;exact List.eq_nil_of_length_eq_zero δ
  subst hr;have la:(t.cps.toList.take i).length=i:=by rw[List.length_take];omega
  refine .inr ⟨t.cps.toList.take i,t.cps.toList.drop (i+1),?_,λhm=>?_,by rw[h0,la]⟩
  ·rw[<- e,<- List.drop_eq_getElem_cons hlt,List.take_append_drop]
  ·obtain⟨k,hk⟩:=List.getElem?_of_mem hm;have hki:k<i:=by
    have:=(iB hk).1;omega
   rw[List.getElem?_take_of_lt hki]at hk;exact hn k hki ((Zex t k).mpr hk)
theorem Zju{t y:Str}{a r:List Nat}(et:t.cps.toList=a++32::r)(h:32∉a)(hy:y.length≠0):(rep1 t ⟨#[32]⟩ y).cps.toList=a++y.cps.toList++r:=by
 rcases Zb4 t with ⟨h',_⟩ | ⟨a',r',et',h',e⟩
 ·exact absurd (by rw[et];simp) h'
 ·have ea:a'=a/\r'=r:=by
   have z:=Zj2 (r:=r) h;have z':=Zj2 (r:=r') h';rw[<- et]at z;rw[<- et']at z';exact⟨z'.1.symm.trans z.1,(List.cons.inj (z'.2.symm.trans z.2)).2⟩
  obtain⟨rfl,rfl⟩:=ea;unfold rep1;rw[e];rw[if_neg (show ¬ ([a'.length].isEmpty || (⟨#[32]⟩:Str).length == 0 && y.length == 0)=true from Bool.false_ne_true)];show(Builtin.Str.glued y [Builtin.Str.strSub t 0 a'.length,Builtin.Str.strSub t (a'.length+1) t.length]).cps.toList=_;have s1:(Builtin.Str.strSub t 0 a'.length).cps.toList=a':=by rw[StrLaws.strSub_toList,et];simp
  have s2:(Builtin.Str.strSub t (a'.length+1) t.length).cps.toList=r':=by
   rw[StrLaws.strSub_toList,et,<- str_len,et,List.drop_append,List.drop_eq_nil_of_le (Nat.le_succ _),Nat.add_sub_cancel_left,List.nil_append,List.drop_succ_cons,List.drop_zero];exact List.take_of_length_le (by simp;omega)
  show((Builtin.Str.strSub t 0 a'.length).cps++y.cps++(Builtin.Str.strSub t (a'.length+1) t.length).cps).toList=_;rw[Array.toList_append,Array.toList_append,s1,s2]
theorem Fl.f2c(h:Fl hs r ws):YK hs (rep1 (Str.join ⟨#[32]⟩ ws) ⟨#[32]⟩ ("  ":Str)) .form:=by
 have hl:=h.ln;obtain⟨a,b,ts,rfl⟩:=h.ex;have fa:=h.fr a List.mem_cons_self;refine sV (ps:=a::("":Str)::b::ts) ?_ ζ (DK (h.ok _ List.mem_cons_self) (DK (by unfold lC;decide +kernel) λx hx=>h.ok x (List.mem_cons_of_mem _ hx))) (by simp only[List.length_cons]at hl ⊢;omega) (h.mid a b ts rfl);rw[Zju (a:=a.cps.toList) (r:=jl 32 (b::ts)) (by rw[dR];rfl) fa.2.2.1 ε,List.append_assoc];rfl
theorem Fl.f2d(h:Fl hs r ws):YK hs (Str.join ⟨#[32]⟩ ws++("\t":Str)) .form:=by
 have hl:=h.ln;obtain⟨a,b,ts,rfl⟩:=h.ex;obtain⟨pr,p,e⟩:∃pr p,a::b::ts=(a::pr)++[p]:=by
  refine⟨(b::ts).dropLast,(b::ts).getLast ζ,?_⟩;rw[List.cons_append,List.dropLast_concat_getLast]
 have ep:p∈a::b::ts:=by rw[e];simp
 have fp:=h.fr p ep;have b1:Rb r ((a::b::ts).length - 1) (p++("\t":Str)):=by
  cases r with
  | sw m=>exact Q9 (zz (c:=9) (by rw[bL];exact List.mem_append_right _ ε) δ) _ _
  | dd w q qs=>exact λz _=>Zuc
 have w1:=h.at_ _ _ h.lst b1;have es:(a::b::ts).set ((a::b::ts).length - 1) (p++("\t":Str))=(a::pr)++[p++("\t":Str)]:=by
  rw[e,List.length_append,List.set_append_right (h:=by show _<=_+1 - 1;omega)];show(a::pr)++[p].set ((a::pr).length+1 - 1 - (a::pr).length) _=_;rw[show(a::pr).length+1 - 1 - (a::pr).length=0 from δ];rfl
 rw[es]at w1;have hok:=h.ok;rw[e]at hok hl;refine sV (ps:=(a::pr)++[p++("\t":Str)]) ?_ ζ (W9 (Hs ⟨fp.2.2.1,fp.2.2.2⟩ γ (by show _+1<=_;omega)) λx hx=>hok x (List.mem_append_left _ hx)) (by rw[List.length_append]at hl ⊢;have:[p].length=1:=rfl;show _+1<=_;omega) w1;rw[bL,dR,e,zK 32 _ ζ,zK 32 _ ζ,bL,List.append_assoc];rfl
theorem Fl.f2e(h:Fl hs r ws):YK hs (rep1 (Str.join ⟨#[32]⟩ ws) ⟨#[32]⟩ ("\t":Str)) .form:=by
 have hl:=h.ln;obtain⟨a,b,ts,rfl⟩:=h.ex;have fa:=h.fr a List.mem_cons_self;have fb:=h.fr b ζ;have m9:9∈(a++("\t":Str)++b).cps.toList:=by rw[bL,bL];exact List.mem_append_left _ (List.mem_append_right _ ε)
 have o1:lC (a++("\t":Str)):=Hs ⟨fa.2.2.1,fa.2.2.2⟩ γ (by show _+1<=_;omega);have l1:(a++("\t":Str)).length=a.length+1:=cO _ _;refine sV (ps:=(a++("\t":Str)++b)::ts) ?_ ζ (DK (Hs o1.2 fb.2.2 δ) λx hx=>h.ok x (by simp[hx])) (by simp only[List.length_cons]at hl ⊢;omega) (zu (vf m9 δ));rw[Zju (a:=a.cps.toList) (r:=jl 32 (b::ts)) (by rw[dR];rfl) fa.2.2.1 ε];cases ts with
 | nil=>show _=(a++("\t":Str)++b).cps.toList;rw[bL,bL];rfl
 | cons x r=>show _=(a++("\t":Str)++b).cps.toList++32::jl 32 (x::r);rw[bL,bL,List.append_assoc,List.append_assoc,List.append_assoc];rfl
theorem Fl.f3(h:Fl hs r ws){w:Str}(hw:w∈Bb):YK hs (Str.join ⟨#[32]⟩ (ws.set 1 w)) .form:=by
 have hl:=h.ln;refine sV (ps:=ws.set 1 w) (by rw[dR]) (by obtain⟨a,b,ts,rfl⟩:=h.ex;simp) (Xa (XR w hw).2.2 h.ok) (by rw[List.length_set];omega) (h.key w hw)
theorem Fl.f4(h:Fl hs r ws){k:Nat}{t:Str}(hk:kOk r ws k)(hb:Rb r k t)(ht:lC t):YK hs (Str.join ⟨#[32]⟩ (ws.set k t)) .form:=by
 have hl:=h.ln;refine sV (ps:=ws.set k t) (by rw[dR]) (by obtain⟨a,b,ts,rfl⟩:=h.ex;cases k<;>simp) (Xa ht h.ok) (by rw[List.length_set];omega) (h.at_ k t hk hb)
theorem Fl.f7{a c:Str}{ts:AI}(h:Fl hs r (a::ts)){x:Nat}(hc:c=⟨#[x]⟩)(hx:x<97/\x≠32/\x≠10):YK hs (a++c++ue (Str.join ⟨#[32]⟩ (a::ts)) (some (a.length:Int)) none) .form:=by
 have hl:=h.ln;subst hc;have fa:=h.fr a List.mem_cons_self;have l1:(⟨#[x]⟩:Str).length=1:=rfl;have m9:x∈(a++(⟨#[x]⟩:Str)).cps.toList:=by rw[bL];exact List.mem_append_right _ (List.mem_singleton.mpr rfl)
 obtain⟨b,ts,rfl⟩:∃b r,ts=b::r:=by
  obtain⟨a',b,r,e⟩:=h.ex;cases e;exact⟨_,_,rfl⟩
 have ej:(Str.join ⟨#[32]⟩ (a::b::ts)).cps.toList=a.cps.toList++32::jl 32 (b::ts):=by rw[dR];rfl
 have ll:a.length<=(Str.join ⟨#[32]⟩ (a::b::ts)).length:=by rw[<- str_len (Str.join ⟨#[32]⟩ (a::b::ts)),ej,List.length_append,str_len];omega
 refine sV (ps:=(a++⟨#[x]⟩)::b::ts) ?_ ζ (DK (Hs ⟨fa.2.2.1,fa.2.2.2⟩ ⟨λz=>hx.2.1 (List.mem_singleton.mp z).symm,λz=>hx.2.2 (List.mem_singleton.mp z).symm⟩ δ) λy hy=>h.ok y (List.mem_cons_of_mem _ hy)) (by simp only[List.length_cons]at hl ⊢;omega) (zu (vf m9 δ));rw[bL,Zbg ll,ej,<- str_len,List.drop_left];rfl
end
theorem WY{n k d:Nat}(h:k<=n):HT.fO n d (some (k:Int))=k:=by
 unfold HT.fO;dsimp only;rw[if_neg δ];simp;omega
theorem Q5{l:List V}{k:Nat}(h:k<=l.length):vC l none (some (k:Int))=l.take k:=by
 have x1:HT.fO l.length l.length (some (k:Int))=k:=by
  unfold HT.fO;dsimp only;rw[if_neg δ];simp;omega
 unfold vC;rw[x1,show HT.fO l.length 0 none=0 from rfl];simp
theorem Zmq{l:List V}{k:Nat}(h:k<=l.length):vC l (some (k:Int)) none=l.drop k:=by
 have x1:HT.fO l.length 0 (some (k:Int))=k:=by
  unfold HT.fO;dsimp only;rw[if_neg δ];simp;omega
 unfold vC;rw[x1,show HT.fO l.length l.length none=l.length from rfl];exact List.take_of_length_le (by rw[List.length_drop];omega)
def vN(o:Nat):V->Nat
 | .int j=>j.toNat
 | _=>o
def zU:Nat->List Qd->Nat->Nat
 | o,_,0=>o
 | o,[],_+1=>o
 | o,q::qs,i+1=>zU (if q.1=bZ then vN o q.2.1 else o) qs i
theorem Qq{hs:List π}{s:Int}{x:Str×Int}:∀{qs:List Qd}{o i:Nat}{z:Qd},qs[i]? =some z->z.1=cM->z.2.1=.int s->hs[zU o qs i]? =some x->x.2<=s->fV hs o (qs.map λz:Qd=>z.1) (qs.map λz:Qd=>z.2.1)=false
 | [],o,i,z,h,_,_,_,_=>by cases h
 | (f,v,t,d)::qs,o,0,z,h,e1,e2,e3,e4=>by
  cases h;have e1:f=cM:=e1;have e2:v=.int s:=e2;have e3:hs[o]? =some x:=e3;rw[List.map_cons,List.map_cons];dsimp only;rw[e2,Nb (by rw[e1];decide) e1 e3,decide_eq_false δ];rfl
 | (f,v,t,d)::qs,o,i+1,z,h,e1,e2,e3,e4=>by
  rw[List.map_cons,List.map_cons];dsimp only;have e3:hs[zU (if f=bZ then vN o v else o) qs i]? =some x:=e3
  by_cases hf:f=bZ
  ·rw[if_pos hf]at e3;cases v with
   | int j=>rw[Xp hf];exact Qq (i:=i) h e1 e2 e3 e4
   | _=>rw[fV,if_pos hf]<;>(intros;first | rfl | (rename_i h;cases h) | (rename_i h _;cases h))
  ·rw[if_neg hf]at e3;have ih:=Qq (i:=i) h e1 e2 e3 e4
   by_cases hf2:f=cM
   ·cases v with
    | int m=>
     cases eo:hs[o]? with
     | none=>rw[fV,if_neg hf,if_pos hf2,eo]<;>(intros;first | rfl | (rename_i h;cases h) | (rename_i h _;cases h))
     | some y=>rw[Nb hf hf2 eo,ih,Bool.and_false]
    | _=>rw[fV,if_neg hf,if_pos hf2]<;>(intros;first | rfl | (rename_i h;cases h) | (rename_i h _;cases h))
   ·rw[Xo hf hf2];exact ih
theorem Z6{z:Qd}:∀(l:List Qd) (o i:Nat),zU o (l.set i z) i=zU o l i
 | [],_,_=>rfl
 | q::l,_,0=>rfl
 | q::l,o,i+1=>Z6 l _ i
theorem own1{q:Qd}{qs:List Qd}{h:Nat}(e1:q.1=bZ)(e2:q.2.1=.int h):zU 0 (q::qs) 1=h:=by
 obtain⟨f,v,t,d⟩:=q;have e1:f=bZ:=e1;have e2:v=.int h:=e2;show zU (if f=bZ then vN 0 v else 0) qs 0=h;rw[if_pos e1,e2];cases qs<;>rfl
theorem Zob{q:Qd}{qs:List Qd}{o i:Nat}(e1:q.1≠bZ):zU o (q::qs) (i+1)=zU o qs i:=by
 show zU (if q.1=bZ then _ else o) qs i=_;rw[if_neg e1]
theorem Zoc{q:Qd}{qs:List Qd}{o i h:Nat}(e1:q.1=bZ)(e2:q.2.1=.int h):zU o (q::qs) (i+1)=zU h qs i:=by
 obtain⟨f,v,t,d⟩:=q;have e1:f=bZ:=e1;have e2:v=.int h:=e2;show zU (if f=bZ then vN o v else o) qs i=_;rw[if_pos e1,e2];rfl
theorem Zru{qs:List Qd}{o:Nat}:zU o qs 0=o:=by cases qs<;>rfl
theorem Zrh{hs:List π}{w:Str}{q:Qd}{qs:List Qd}(ok:WQ hs (.dd w q qs)){j:Nat}{z:Qd}(ez:qs[j]? =some z)(zf:z.1=cM){s:Int}{x:Str×Int}(ex:hs[zU 0 (q::qs) (j+1)]? =some x)(lx:x.2<=s)(s0:0<=s)(s1:s<=999):
  WQ hs (.dd w q (qs.set j (qN cM s)))/\fV hs 0 ((q::qs.set j (qN cM s)).map λz:Qd=>z.1) ((q::qs.set j (qN cM s)).map λz:Qd=>z.2.1)=false/\cu (.dd w q (qs.set j (qN cM s)))=(cu (.dd w q qs)).set (j+2) (.int s):=by
 obtain⟨ef,hm,Y8,_,h8⟩:=ok;have hj:=(iB ez).1;have em:(qs.set j (qN cM s)).map (λz:Qd=>z.1)=qs.map λz:Qd=>z.1:=by
  rw[List.map_set];refine List.ext_getElem? λi=>?_;rw[List.getElem?_set];split
  ·rename_i e
   subst e;rw[if_pos (by rw[bF];exact hj),fY,ez,Option.map_some,zf];rfl
  ·rfl
 refine⟨⟨ef,?_,λy hy=>?_,trivial,by rw[List.length_set];exact h8⟩,?_,?_⟩
 ·rw[List.map_cons,em];exact hm
 ·rcases List.mem_cons.mp hy with rfl | hy
  ·exact Y8 _ List.mem_cons_self
  ·rcases List.mem_or_eq_of_mem_set hy with hy | rfl
   ·exact Y8 y (List.mem_cons_of_mem _ hy)
   ·exact okN (m:=999) ε ε s0 s1
 ·refine Qq (qs:=q::qs.set j (qN cM s)) (i:=j+1) (z:=qN cM s) (s:=s) (x:=x) (by rw[List.getElem?_cons_succ];exact List.getElem?_set_self hj) rfl rfl ?_ lx;rw[show q::qs.set j (qN cM s)=(q::qs).set (j+1) (qN cM s)from rfl,Z6];exact ex
 ·show V.str w::(q::qs.set j (qN cM s)).map (λz:Qd=>z.2.1)=V.str w::((q::qs).map λz:Qd=>z.2.1).set (j+1) (.int s);rw[List.map_cons,List.map_set];rfl
theorem Ztm:∀p∈jy,p.2[1]? =some cM/\(p.1=("get":Str)\/p.1=("copy":Str)->p.2[2]? =some cM)/\(p.1=("put":Str)->p.2[3]? =some cM/\p.2[2]? =some rz)/\(p.1=("give":Str)->p.2[3]? =some cM/\p.2[2]? =some bZ):=ε
def wV:Sp:=λvs H Q E=>∃ra l way,vs=[.ref ra,.ref l,.int way]/\∃hs w q qs,HL H l hs/\oM hs/\H ra=some (.tup (cu (.dd w q qs)))/\WQ hs (.dd w q qs)/\∀a uQ H',bD H H'->H' a=some (.tup (cu (.dd w q uQ)))->WQ hs (.dd w q uQ)->fV hs 0 ((q::uQ).map λz:Qd=>z.1) ((q::uQ).map λz:Qd=>z.2.1)=false->Q (.ref a) H'
section
variable {K:aK}{H:Hp}{Q:VK}{E:XK}{n:ν}{bk ct:ν}
theorem sl5{ra l:AJ}{way:Int}{o j:Nat}{hs:List π}{w:Str}{q z:Qd}{qs:List Qd}{x:Str×Int}{v5:Option V}(hl:HL H l hs)(bx:3<=x.2/\x.2<=9)(ha:H ra=some (.tup (cu (.dd w q qs))))(ok:WQ hs (.dd w q qs))(ez:qs[j]? =some z)(zf:z.1=cM)(eo:zU 0 (q::qs) (j+1)=o)(ex:hs[o]? =some x)
  (h:∀a uQ H',bD H H'->H' a=some (.tup (cu (.dd w q uQ)))->WQ hs (.dd w q uQ)->fV hs 0 ((q::uQ).map λz:Qd=>z.1) ((q::uQ).map λz:Qd=>z.2.1)=false->Q (.ref a) H'):
  gw K ξ [↑ra,↑l,some (.int way),some (.int ((j:Int)+2)),some (.int (o:Int)),v5] H:=by
 unfold gw;obtain⟨as,b,g1,g2,g3⟩:=hl.at ex;have h8:=ok.2.2.2.2;have hj:=(iB ez).1;have vl:(cu (.dd w q qs)).length=qs.length+2:=by show(List.map _ (q::qs)).length+1=_;rw[bF,List.length_cons]
 apply cV (v:=.ref b) (cN.of g1) (pN (by rw[fY,g2];rfl)) ?_;exists b,_,1,_,rfl,rfl,ig.of g3,rfl;apply⟨by show 3<=_;decide,λp hp=>?_⟩;generalize zz:upd H p _=H1;obtain⟨s1,c1⟩:=nwO hp zz;ext;have i3:way / 2 % 3=0\/way / 2 % 3=1\/way / 2 % 3=2:=δ
 obtain⟨d,ed,d0,d1⟩:∃d:Int,CW [V.int 0,V.int 1,V.int 90] (way / 2 % 3)=some (.int d)/\0<=d/\d<=90:=by
  rcases i3 with e | e | e<;>rw[e]
  ·exact⟨0,rfl,ε,ε⟩
  ·exact⟨1,rfl,ε,ε⟩
  ·exact⟨90,rfl,ε,ε⟩
 refine cV (cN.of c1) ed ?_;ext;obtain⟨k1,k2,k3⟩:=Zrh ok ez zf (s:=x.2+d) (x:=x) (by rw[eo];exact ex) δ δ δ;have e1:vC (cu (.dd w q qs)) none (some ((j:Int)+2))=(cu (.dd w q qs)).take (j+2):=Q5 (k:=j+2) δ;have e2:vC (cu (.dd w q qs)) (some ((j:Int)+2+1)) none=(cu (.dd w q qs)).drop (j+3):=Zmq (k:=j+3) δ;refine⟨ra,_,rfl,ig.of (s1 _ _ ha),λz=>?_,λpa hpa=>?_⟩
 ·have z:=z.2;rw[vl,show((j:Int)+2)=((j+2:Nat):Int)from rfl,WY δ]at z;omega
 rw[e1];generalize zz:upd H1 pa _=H2;obtain⟨s2,c2⟩:=nwO hpa zz;apply⟨by show 1<=_;decide,λpb hpb=>?_⟩;generalize zz:upd H2 pb _=H3;obtain⟨s3,c3⟩:=nwO hpb zz;have ne:(cu (.dd w q qs)).take (j+2)≠[]:=λe=>by
  have:=congrArg List.length e;rw[List.length_take,vl]at this;simp at this
 have sz:∀k:Nat,k<=100->k<=sizeLine:=λk hk=>cB δ;refine⟨pa,pb,_,_,rfl,rfl,ig.of (s3 _ _ c2),ig.of c3,ne,sz _ (by rw[List.length_take,vl];show _+1<=_;omega),(λe=>by cases e),λ_ pc hpc=>?_⟩;generalize zz:upd H3 pc _=H4;obtain⟨s4,c4⟩:=nwO hpc zz;have s14:=s1.trans (s2.trans (s3.trans s4));apply⟨ra,_,rfl,ig.of (s14 _ _ ha),λz=>?_,λpd hpd=>?_⟩
 ·have z:=z.1;rw[vl,show((j:Int)+2+1)=((j+3:Nat):Int)from rfl,WY δ]at z;omega
 rw[e2];generalize zz:upd H4 pd _=H5;obtain⟨s5,c5⟩:=nwO hpd zz;have es:(cu (.dd w q qs)).set (j+2) (.int (x.2+d))=(cu (.dd w q qs)).take (j+2)++[.int (x.2+d)]++(cu (.dd w q qs)).drop (j+3):=by
  rw[List.set_eq_take_append_cons_drop,if_pos δ,List.append_assoc];rfl
 rw[es]at k3;refine⟨pc,pd,_,_,rfl,rfl,ig.of (s5 _ _ c4),ig.of c5,ζ,sz _ (by rw[List.length_append,List.length_take,List.length_drop,vl];show _+1+_<=_;omega),λe=>?_,λ_ pe hpe=>?_⟩
 ·rw[e,List.append_nil]at k3;exact h pc _ _ (s14.trans s5) (by rw[k3];exact s5 _ _ c4) k1 k2
 ·exact h pe _ _ (s14.trans (s5.trans (aG hpe _))) (by rw[k3];exact az) k1 k2
theorem wR{w:Str}{q:Qd}{qs:List Qd}{i:Nat}{f:Str}(h:((w,(q::qs).map λz:Qd=>z.1).2)[i+1]? =some f):∃z,qs[i]? =some z/\z.1=f:=by
 have h:((q::qs).map λz:Qd=>z.1)[i+1]? =some f:=h;rw[fY,List.getElem?_cons_succ]at h;exact Option.map_eq_some_iff.mp h
theorem sl2{ra l:AJ}{way:Int}{hs:List π}{w:Str}{q:Qd}{qs:List Qd}{j:Nat}(hl:HL H l hs)(hok:oM hs)(ha:H ra=some (.tup (cu (.dd w q qs))))(ok:WQ hs (.dd w q qs))(hj:(j=0/\¬ (way % 2=1/\(w=("get":Str)\/w=("copy":Str))))\/(j=1/\way % 2=1/\(w=("get":Str)\/w=("copy":Str))))
  (h:∀a uQ H',bD H H'->H' a=some (.tup (cu (.dd w q uQ)))->WQ hs (.dd w q uQ)->fV hs 0 ((q::uQ).map λz:Qd=>z.1) ((q::uQ).map λz:Qd=>z.2.1)=false->Q (.ref a) H'):
  kO K ξ [↑ra,↑l,some (.int way),some (.int ((j:Int)+2)),none,none] H:=by
 have fs:=Ztm _ ok.2.1;obtain⟨k,x,ek,ev,et,nk⟩:=(ok.2.2.1 q List.mem_cons_self).1.Ye ok.1;have bx:=(hok.2.2.2 x (List.mem_of_getElem? ek)).2;have v0:CW (cu (.dd w q qs)) 0=some (.str w):=bT ε rfl;have v1:CW (cu (.dd w q qs)) 1=some (.int k):=bT ε (congrArg some ev);unfold kO;have own:∀H1,bD H H1->(j=0\/(j=1/\(w=("get":Str)\/w=("copy":Str))))->gw K ξ [↑ra,↑l,some (.int way),some (.int ((j:Int)+2)),some (.int (k:Int)),none] H1:=by
  intro H1 s1 hj;have h1:∀a uQ H',bD H1 H'->H' a=some (.tup (cu (.dd w q uQ)))->WQ hs (.dd w q uQ)->fV hs 0 ((q::uQ).map λz:Qd=>z.1) ((q::uQ).map λz:Qd=>z.2.1)=false->Q (.ref a) H':=λa uQ H' s=>h a uQ H' (s1.trans s);obtain⟨z1,e1,f1⟩:=wR fs.1;rcases hj with rfl | ⟨rfl,hw⟩
  ·exact sl5 (hl.same s1) bx (s1 _ _ ha) ok e1 f1 (own1 ok.1 ev) ek h1
  ·obtain⟨z2,e2,f2⟩:=wR (fs.2.1 hw);refine sl5 (hl.same s1) bx (s1 _ _ ha) ok e2 f2 ?_ ek h1;cases qs with
   | nil=>cases e1
   | cons y r=>
    cases e1;rw[Zoc ok.1 ev,Zob (by rw[f1];decide),Zru]
 have last:∀H1,bD H H1->(j=0\/(j=1/\(w=("get":Str)\/w=("copy":Str))))->(bw (bO (aN (jf K) Γ υ) (aO 4)) (bw (cZ ((qp (bJ (aN (lH) (ak 3) (tC (.int 4)))) (bJ (aN (lH) (aN (jf K) Γ ω) (tC (.str "give")))))) (bO (aN (jf K) Γ (tC (.int 3))) (aO 4)) bV) (gw K))) ξ [↑ra,↑l,some (.int way),some (.int ((j:Int)+2)),none,none] H1:=by
  intro H1 s1 hj;exists ra,_,1,_,rfl,rfl,ig.of (s1 _ _ ha),v1;apply iM (λz=>absurd z δ) ad;apply own H1 s1 hj
 have hj2:j=0\/(j=1/\(w=("get":Str)\/w=("copy":Str))):=hj.elim (λz=>.inl z.1) λz=>.inr ⟨z.1,z.2.2⟩;apply iM (λe=>?_) (λe=>?_)
 ·exists ra,_,0,_,rfl,rfl,ig.of ha,v0;apply⟨by show 2<=_;decide,λp hp=>?_⟩;have s1:=aG hp (.lst [.str "put",.str "give"]);refine⟨p,[.str "put",.str "give"],rfl,.inl (cN.of az),rfl,rfl,?_⟩;rw[if_neg Bool.false_ne_true,show inV (.str w) [.str "put",.str "give"]=decide (w∈[("put":Str),("give":Str)])from wN [("put":Str),("give":Str)]];refine⟨_,rfl,?_⟩;generalize upd H p (.lst [.str "put",.str "give"])=H1 at s1 ⊢;refine iM (λm=>?_) (λm=>?_)
  ·have h1:∀a uQ H',bD H1 H'->H' a=some (.tup (cu (.dd w q uQ)))->WQ hs (.dd w q uQ)->fV hs 0 ((q::uQ).map λz:Qd=>z.1) ((q::uQ).map λz:Qd=>z.2.1)=false->Q (.ref a) H':=λa uQ H' s=>h a uQ H' (s1.trans s);exists ra,_,1,_,rfl,rfl,ig.of (s1 _ _ ha),v1;apply iM ad (λz=>absurd rfl z);exists ra,_,0,_,rfl,rfl,ig.of (s1 _ _ ha),v0;ext;obtain⟨z1,e1,f1⟩:=wR fs.1;refine iM (λeg=>?_) (λng=>?_)
   ·obtain⟨z3,e3,f3⟩:=wR (fs.2.2.2 eg).1;obtain⟨z2,e2,f2⟩:=wR (fs.2.2.2 eg).2;obtain⟨k2,x2,ek2,ev2,_,_⟩:=(ok.2.2.1 z2 (List.mem_cons_of_mem _ (List.mem_of_getElem? e2))).1.Ye f2;exists ra,_,3,.int k2,rfl,rfl,ig.of (s1 _ _ ha),bT ε ?_
    ·show((q::qs).map λz:Qd=>z.2.1)[2]? =_;rw[fY,List.getElem?_cons_succ,e2,<- ev2];rfl
    apply sl5 (j:=2) (hl.same s1) (hok.2.2.2 x2 (List.mem_of_getElem? ek2)).2 (s1 _ _ ha) ok e3 f3 ?_ ek2 h1
    match qs,e1,e2 with
    | y1::y2::r,e1,e2=>
     cases e1;cases e2;rw[Zoc ok.1 ev,Zob (by rw[f1];decide),Zoc f2 ev2,Zru]
   ·have ep:w=("put":Str):=by
     rcases List.mem_cons.mp m with m | m
     ·exact m
     ·exact absurd (List.mem_singleton.mp m) ng
    obtain⟨z3,e3,f3⟩:=wR (fs.2.2.1 ep).1;obtain⟨z2,e2,f2⟩:=wR (fs.2.2.1 ep).2;apply sl5 (j:=2) (hl.same s1) bx (s1 _ _ ha) ok e3 f3 ?_ ek h1
    match qs,e1,e2 with
    | y1::y2::r,e1,e2=>
     cases e1;cases e2;rw[Zoc ok.1 ev,Zob (by rw[f1];decide),Zob (by rw[f2];decide),Zru]
  ·left;exact last H1 s1 hj2
 ·left;exact last H (bD.refl _) hj2
theorem Jr{ra l:AJ}{way:Int}(q:∃hs w q qs,HL H l hs/\oM hs/\H ra=some (.tup (cu (.dd w q qs)))/\WQ hs (.dd w q qs)/\∀a uQ H',bD H H'->H' a=some (.tup (cu (.dd w q uQ)))->WQ hs (.dd w q uQ)->fV hs 0 ((q::uQ).map λz:Qd=>z.1) ((q::uQ).map λz:Qd=>z.2.1)=false->Q (.ref a) H'):
  oZ K ξ [↑ra,↑l,some (.int way),none,none,none] H:=by
 obtain⟨hs,w,q,qs,hl,hok,ha,ok,h⟩:=q;have v0:CW (cu (.dd w q qs)) 0=some (.str w):=bT ε rfl;unfold oZ;apply iM (λe=>?_) (λe=>?_)
 ·exists ra,_,0,_,rfl,rfl,ig.of ha,v0;apply⟨by show 2<=_;decide,λp hp=>?_⟩;have s1:=aG hp (.lst [.str "get",.str "copy"]);refine⟨p,[.str "get",.str "copy"],rfl,.inl (cN.of az),rfl,rfl,?_⟩;rw[if_neg Bool.false_ne_true,show inV (.str w) [.str "get",.str "copy"]=decide (w∈[("get":Str),("copy":Str)])from wN [("get":Str),("copy":Str)]];refine⟨_,rfl,?_⟩;generalize upd H p (.lst [.str "get",.str "copy"])=H1 at s1 ⊢;have h1:∀a uQ H',bD H1 H'->H' a=some (.tup (cu (.dd w q uQ)))->WQ hs (.dd w q uQ)->fV hs 0 ((q::uQ).map λz:Qd=>z.1) ((q::uQ).map λz:Qd=>z.2.1)=false->Q (.ref a) H':=λa uQ H' s=>h a uQ H' (s1.trans s);refine iM (λm=>?_) (λm=>?_)
  ·apply sl2 (j:=1) (hl.same s1) hok (s1 _ _ ha) ok (.inr ⟨rfl,e,?_⟩) h1;rcases List.mem_cons.mp m with m | m
   ·exact .inl m
   ·exact .inr (List.mem_singleton.mp m)
  ·apply sl2 (j:=0) (hl.same s1) hok (s1 _ _ ha) ok (.inl ⟨rfl,λz=>m ?_⟩) h1;rcases z.2 with z | z
   ·rw[z];simp
   ·rw[z];simp
 ·apply sl2 (j:=0) hl hok ha ok (.inl ⟨rfl,λz=>e z.1⟩) h
end
theorem Zfq:∀{l:AI}{i:Nat}{y:Str},l.Nodup->l[i]? =some y->y∉l.take i
 | [],_,_,_,h=>by cases h
 | _::_,0,_,_,_=>ζ
 | x::l,i+1,y,nd,h=>by
  rw[List.nodup_cons]at nd;rw[List.take_succ_cons];intro z;rw[List.getElem?_cons_succ]at h;rcases List.mem_cons.mp z with e | z
  ·exact nd.1 (e ▸ List.mem_of_getElem? h)
  ·exact Zfq nd.2 h z
theorem Zmw{i lo hi:Int}(h0:0<=i)(hl:lo<=i)(hh:i<=hi)(h1:i<10 ^ 60):J7 (tS i) lo hi=some i:=by
 unfold J7 qX;rw[zy h0 h1];show(match (if decide (hi<i)=true then none else some i)with | some v=>if v<lo then none else some v | none=>none)=_;rw[if_neg (by rw[decide_eq_false δ];exact Bool.false_ne_true)];show(if i<lo then none else some i)=_;rw[if_neg δ]
structure Hd(m w t:Int)(hs:List π):Prop where
 m0:4<=m
 m1:m<=1000000000000000
 w0:0<=w
 w1:w<3
 t0:0<=t
 t1:t<4
 ok:oM hs
def Beg(R:AI)(m w t:Int)(hs:List π)(n:Nat):Prop:=∀j,j<n->R[j]? =(cP m w t hs)[j]?
theorem Beg.le{R:AI}{m w t:Int}{hs:List π}{n k:Nat}(h:Beg R m w t hs n)(hk:k<=n):Beg R m w t hs k:=λj hj=>h j (Nat.lt_of_lt_of_le hj hk)
theorem iU{m w t:Int}{hs:List π}:(cP m w t hs).length=hs.length+3:=by
 unfold cP;rw[List.length_cons,List.length_cons,List.length_append,bF];rfl
theorem Zjs{m w t:Int}{hs:List π}{i:Nat}{x:Str×Int}(h:hs[i]? =some x):(cP m w t hs)[i+2]? =some (hdT x):=by
 unfold cP;rw[List.getElem?_cons_succ,List.getElem?_cons_succ,List.getElem?_append_left (by rw[bF];exact(iB h).1),fY,h];rfl
theorem Zhi{m w t:Int}{hs:List π}:(cP m w t hs)[hs.length+2]? =some gh:=by
 unfold cP;rw[List.getElem?_cons_succ,List.getElem?_cons_succ,List.getElem?_append_right (by rw[bF];exact Nat.le_refl _),bF,Nat.sub_self];rfl
theorem yJ{t:Str}{c:Nat}(h:t.cps.toList.head? =some c)(hc:c≠119):t≠gh:=λe=>by
 rw[e]at h;have:some 119=some c:=h;cases this;exact hc rfl
theorem Zm1(x:Str×Int):(hdT x).cps.toList.head? =some 104:=by
 unfold hdT;simp only[bL,List.append_assoc];rfl
theorem Zkm{t:Str}(h:oN t):nmB t=true:=by
 unfold nmB;rw[h.1,decide_eq_false h.2];rfl
theorem Zm4{x:Str×Int}(h:oN x.1)(h0:3<=x.2)(h1:x.2<=9):lK (Txt.split (hdT x) iD)=some x:=by
 rw[Zeb h];show(if ("hand":Str)=("hand":Str)/\nmB x.1=true then(J7 (tS x.2) 3 9).map λm=>(x.1,m)else none)=some x;rw[if_pos ⟨rfl,Zkm h⟩,Zmw δ h0 h1 (Int.lt_of_le_of_lt h1 ε)];rfl
section
variable {R:AI}{m w t:Int}{hs:List π}
theorem st1(g:Hd m w t hs)(h:Beg R m w t hs 1):um R 1=some .s1:=by
 refine mQ (i:=0) rfl (h 0 ε) ?_;show(if (Dt (Txt.split (("room ":Str)++tS m) iD)).isSome=true then Except.ok RS.s1 else Except.error Cl.form)=_;rw[Zd7,if_pos];show(if ("room":Str)=("room":Str)then J7 (tS m) 4 1000000000000000 else none).isSome=true;have:=g.m0;rw[if_pos rfl,Zmw δ g.m0 g.m1 (Int.lt_of_le_of_lt g.m1 ε)];rfl
theorem st2(g:Hd m w t hs)(h:Beg R m w t hs 2):um R 2=some (.s2 []):=by
 refine mQ (i:=1) (st1 g (h.le ε)) (h 1 ε) ?_;have e:(cP m w t hs)[1]? =some (("kind ":Str)++words w t):=rfl;have k:JS (Txt.split (("kind ":Str)++words w t) iD):=by
  rw[Ze2];exact⟨_,w,t,rfl,g.w0,g.w1,g.t0,g.t1,StrLaws.join_split _ iD⟩
 conv=>lhs;unfold dM;dsimp only
 rw[if_pos k]
theorem stH(g:Hd m w t hs):∀{i:Nat},i<=hs.length->Beg R m w t hs (i+2)->um R (i+2)=some (.s2 (hs.take i))
 | 0,_,h=>by rw[List.take_zero];exact st2 g h
 | i+1,hi,h=>by
  have xi:hs[i]? =some hs[i]:=dF hi;have ih:=stH g (i:=i) δ (h.le δ);have b:=g.ok.2.2.2 _ (List.getElem_mem hi);have h5:=g.ok.2.1;refine mQ (i:=i+2) ih (by rw[h (i+2) δ];exact Zjs xi) ?_;have et:hs.take (i+1)=hs.take i++[hs[i]]:=by rw[List.take_add_one,xi];rfl
  have nw:¬ (hs.take i≠[]/\hdT hs[i]=gh):=λz=>yJ (Zm1 _) ε z.2;have nl:¬ (hs.take i).length=5:=by rw[List.length_take];omega
  have nm:hs[i].1∉(hs.take i).map (·.1):=by
   rw[List.map_take];exact Zfq g.ok.2.2.1 (by rw[fY,xi];rfl)
  conv=>lhs;unfold dM;dsimp only
  rw[if_neg nw,if_neg nl,Zm4 b.1 b.2.1 b.2.2];dsimp only;rw[if_neg nm,et]
theorem stW(g:Hd m w t hs)(h:Beg R m w t hs (hs.length+3)):um R (hs.length+3)=some (.s3 hs 0):=by
 have ih:=stH g χ (h.le (Nat.le_succ _));rw[List.take_length]at ih;refine mQ (i:=hs.length+2) ih (by rw[h (hs.length+2) (Nat.lt_succ_self _)];exact Zhi) ?_;have:hs≠[]:=λe=>by have:=g.ok.1;rw[e]at this;exact absurd this ε
 conv=>lhs;unfold dM;dsimp only
 rw[if_pos ⟨this,rfl⟩]
theorem stV(g:Hd m w t hs)(h:Beg R m w t hs (hs.length+3)):∀{i:Nat},i<=400->(∀j,j<i->∃r,R[hs.length+3+j]? =some r/\fP hs ag=none)->um R (hs.length+3+i)=some (.s3 hs i)
 | 0,_,_=>stW g h
 | i+1,hi,q=>by
  obtain⟨r,hr,hw⟩:=q i (Nat.lt_succ_self _);refine mQ (i:=hs.length+3+i) (stV g h δ λj hj=>q j (Nat.lt_succ_of_lt hj)) hr ?_
  conv=>lhs;unfold dM;dsimp only
  rw[if_neg δ,hw]
end
theorem Zbl{m w t:Int}{hs:List π}(ws:AI):Beg (cP m w t hs++ws) m w t hs (hs.length+3):=λj hj=>List.getElem?_append_left (by rw[iU];exact hj)
theorem stA{m w t:Int}{hs:List π}(g:Hd m w t hs){ws:AI}(hw:∀r∈ws,fP hs ag=none){i:Nat}(h4:i<=400)(hi:i<=ws.length):um (cP m w t hs++ws) (hs.length+3+i)=some (.s3 hs i):=
 stV g (Zbl ws) h4 λj hj=>by
  have hjl:j<ws.length:=δ
  refine⟨ws[j],?_,hw _ (List.getElem_mem hjl)⟩;rw[List.getElem?_append_right (by rw[iU];omega),iU,Nat.add_sub_cancel_left];exact dF hjl
theorem W2{m w t:Int}{hs:List π}(g:Hd m w t hs){ws:AI}(hw:∀r∈ws,fP hs ag=none)(h4:ws.length<=400):xU (cP m w t hs++ws) ws.length:=by
 refine⟨hs,?_⟩;rw[List.length_append,iU];exact stA g hw h4 χ
theorem Zib{hs:List π}{c:Nat}:dM (.s3 hs c) ("":Str)=.error .form:=by
 conv=>lhs;unfold dM;dsimp only
 split
 ·rfl
 ·rw[show Txt.split ("":Str) iD=[("":Str)]from γ,zu γ]
def Zpx:AI:=[words 0 0,words 0 1,words 0 2,words 0 3,words 1 0,words 1 1,words 1 2,words 1 3,words 2 0,words 2 1,words 2 2,words 2 3]
theorem Zox{ps:AI}(h:∀a r,ps=a::r->a=("kind":Str)->Str.join iD r∉Zpx):¬ JS ps:=by
 rintro⟨r,w,t,e,w0,w1,t0,t1,ew⟩;refine h _ r e rfl ?_;rw[ew];have hw:w=0\/w=1\/w=2:=δ
 have ht:t=0\/t=1\/t=2\/t=3:=δ
 unfold Zpx;rcases hw with rfl | rfl | rfl<;>rcases ht with rfl | rfl | rfl | rfl<;>simp
def kindB(ps:AI):Bool:=match ps with
 | a::r=>decide (a=("kind":Str)) && decide (Str.join iD r∈Zpx)
 | []=>false
theorem Zl8{ps:AI}(h:kindB ps=false):¬ JS ps:=Zox λa r e ea hm=>by
 rw[e]at h;have h:(decide (a=("kind":Str)) && decide (Str.join iD r∈Zpx))=false:=h;rw[decide_eq_true ea,decide_eq_true hm]at h;cases h
def spR:AI:=["room 3","room 1000000000000001","room 04","room","Room 9","room 9 ","rooms 9","","room 9 9"]
def spK:AI:=["kind","kind First","kind  first","kind first new old","kind last old old","first","kind old","kind each,new","kind each new ",""]
def spW:AI:=["weaves","weave ","","Weave","weave 1"]
def Tq(t:Str):Prop:=t.length<=100/\10∉t.cps.toList
theorem Zjg:∀r∈spR,Dt ag=none/\Tq r:=by unfold Tq;decide +kernel
theorem Zjh:∀r∈spK,kindB ag=false/\Tq r:=by unfold Tq;decide +kernel
theorem Zrb:∀r∈spW,r≠gh/\lK ag=none/\Tq r:=by unfold Tq;decide +kernel
theorem Zjf{r:Str}(h:r∈spR):dM .s0 r=.error .form:=by
 conv=>lhs;unfold dM;dsimp only
 rw[(Zjg r h).1];rfl
theorem Zre{r:Str}(h:r∈spK):dM .s1 r=.error .form:=by
 conv=>lhs;unfold dM;dsimp only
 rw[if_neg (Zl8 (Zjh r h).1)]
theorem Zcu{r:Str}{hs:List π}(h:r≠gh)(hn:lK ag=none):dM (.s2 hs) r=.error .form:=by
 conv=>lhs;unfold dM;dsimp only
 rw[if_neg (λz=>h z.2)];split
 ·rfl
 ·rw[hn]
theorem Zrc{r:Str}{hs:List π}{x:Str×Int}(h:r≠gh)(h5:hs.length<5)(hn:lK ag=some x)(hm:x.1∈hs.map (·.1)):dM (.s2 hs) r=.error .twice:=by
 conv=>lhs;unfold dM;dsimp only
 rw[if_neg (λz=>h z.2),if_neg δ,hn];dsimp only;rw[if_pos hm]
theorem Zqk{t:Str}{ps:AI}(e:t.cps.toList=jl 32 ps)(ne:ps≠[])(fr:∀p∈ps,32∉p.cps.toList/\10∉p.cps.toList):Txt.split t iD=ps/\10∉t.cps.toList:=by
 have et:t=Str.join ⟨#[32]⟩ ps:=lU (by rw[dR];exact e);refine⟨by rw[et];exact nq ne λp hp=>(fr p hp).1,?_⟩;rw[e];exact Nf ε λp hp=>(fr p hp).2
def bC(w:Str)(i:Nat)(f:Str):Bool:=
 (decide (f=bZ) && (decide (w=Er) && decide (i=1))) || ((decide (f=rF) && !(decide (w=Er) && decide (i=1))) || ((decide (f=Wb) && (decide (w=("make":Str)) && decide (i=1))) || ((decide (f=Wc) && (decide (w=("make":Str)) && decide (i=2))) || ((decide (f=jO) && (decide (w=("write":Str)) && decide (i=1))) || ((decide (f=cM) || decide (f=rz)) && (!(decide (w=Er) && decide (i=1)) && (!(decide (w=("make":Str)) && decide (0<i)) && !(decide (w=("write":Str)) && decide (i=1)))))))))
theorem Zu1:∀p∈jy,∀i:Nat,i<4->∀f∈p.2,p.2[i+1]? =some f->bC p.1 i f=true:=γ
theorem Zpi{p:Str×AI}(hp:p∈jy){i:Nat}(hi:i<4){f:Str}(hf:f∈p.2)(e:p.2[i+1]? =some f):(f=bZ/\p.1=Er/\i=1)\/(f=rF/\¬ (p.1=Er/\i=1))\/(f=Wb/\p.1=("make":Str)/\i=1)\/(f=Wc/\p.1=("make":Str)/\i=2)\/(f=jO/\p.1=("write":Str)/\i=1)\/((f=cM\/f=rz)/\¬ (p.1=Er/\i=1)/\¬ (p.1=("make":Str)/\0<i)/\¬ (p.1=("write":Str)/\i=1)):=by
 have h:=Zu1 p hp i hi f hf e;unfold bC at h;simp only[Bool.or_eq_true,Bool.and_eq_true,decide_eq_true_eq,Bool.not_eq_true',Bool.and_eq_false_iff,decide_eq_false_iff_not]at h;rcases h with h | h | h | h | h | h
 ·exact .inl h
 ·exact .inr (.inl ⟨h.1,λz=>h.2.elim (λy=>y z.1) λy=>y z.2⟩)
 ·exact .inr (.inr (.inl h))
 ·exact .inr (.inr (.inr (.inl h)))
 ·exact .inr (.inr (.inr (.inr (.inl h))))
 ·exact .inr (.inr (.inr (.inr (.inr ⟨h.1,λz=>h.2.1.elim (λy=>y z.1) λy=>y z.2,λz=>h.2.2.1.elim (λy=>y z.1) λy=>y z.2,λz=>h.2.2.2.elim (λy=>y z.1) λy=>y z.2⟩))))
def vG:Sp:=λvs H Q E=>∃ra k c,vs=[.ref ra,.int k,.int c]/\∃(hs:List π) (r:lD) (kn:Nat),k=kn/\H ra=some (.tup (cu r))/\WQ hs r/\(∀w q qs,r=.dd w q qs->2<=kn/\kn - 2<qs.length)/\∀t H',bD H H'->Rb r kn t->lC t->Q (.str t) H'
theorem Zwe{f:Str}(h:f=bZ\/f=rF):cD f ("abcdefghijklm":Str)=none:=by
 rcases h with rfl | rfl<;>decide +kernel
theorem Zq5{i:Int}(h0:0<=i)(h1:i<10 ^ 61):lC (tS i):=⟨Nat.le_trans (M7 h0 h1).2 ε,nR 32 ε i,nR 10 ε i⟩
section
variable {K:aK}{H:Hp}{Q:VK}{E:XK}{n:ν}{bk ct:ν}
theorem Rf{ra:AJ}{k c:Int}(q:∃(hs:List π) (r:lD) (kn:Nat),k=kn/\H ra=some (.tup (cu r))/\WQ hs r/\(∀w q qs,r=.dd w q qs->2<=kn/\kn - 2<qs.length)/\∀t H',bD H H'->Rb r kn t->lC t->Q (.str t) H'):
  tM K ξ [↑ra,some (.int k),some (.int c),none] H:=by
 obtain⟨hs,r,kn,rfl,ha,ok,hk,h⟩:=q;unfold tM;cases r with
 | sw m=>
  exists ra,_,0,_,rfl,rfl,ig.of ha,rfl;apply iM ad (λz=>absurd rfl z);apply⟨by show 2<=_;decide,λp hp=>?_⟩;generalize zz:upd H p _=H1;obtain⟨s1,c1⟩:=nwO hp zz;ext;have e:c % 2=0\/c % 2=1:=δ
  rcases e with e | e<;>rw[e]
  ·exact cV (cN.of c1) (bT ε rfl) (h _ _ s1 (show J7 ("0":Str) 1 9999=none by decide +kernel) (by unfold lC;decide +kernel))
  ·exact cV (cN.of c1) (bT ε rfl) (h _ _ s1 (show J7 ("10000":Str) 1 9999=none by decide +kernel) (by unfold lC;decide +kernel))
 | dd w q0 qs=>
  obtain⟨k2,kl⟩:=hk _ _ _ rfl;obtain⟨j,rfl⟩:∃j,kn=j+2:=⟨kn - 2,δ⟩;have kl:j<qs.length:=kl;have ej:qs[j]? =some qs[j]:=dF kl;have oz:=ok.2.2.1 _ (List.mem_cons_of_mem _ (List.getElem_mem kl));have fb:=Zpi ok.2.1 (i:=j) (by have:=(Yp _ ok.2.1).2.2;rw[bF,List.length_cons]at this;omega) (f:=qs[j].1) (by
   show qs[j].1∈(q0::qs).map λz:Qd=>z.1;exact List.mem_map.mpr ⟨_,List.mem_cons_of_mem _ (List.getElem_mem kl),rfl⟩) (by
   show((q0::qs).map λz:Qd=>z.1)[j+1]? =_;rw[fY,List.getElem?_cons_succ,ej];rfl)
  have v0:CW (cu (.dd w q0 qs)) 0=some (.str w):=bT ε rfl;have vk:CW (cu (.dd w q0 qs)) (((j+2:Nat):Int))=some qs[j].2.1:=pN (by
   show((q0::qs).map λz:Qd=>z.2.1)[j+1]? =_;rw[fY,List.getElem?_cons_succ,ej];rfl)
  have hh:∀t H',bD H H'->cD qs[j].1 t=none->lC t->Q (.str t) H':=λt H' s b o=>h t H' s (λz hz=>by
   have hz:qs[j]? =some z:=hz;rw[ej]at hz;cases hz;exact b) o
  generalize qs[j]=z at oz fb vk hh;have oz:=oz.1;obtain⟨f,v,t,d⟩:=z;have oz:Fv hs f v t d:=oz;dsimp only at fb vk hh;have w4:lC ("1000":Str):=by unfold lC;decide +kernel
  have w9:lC ("9":Str):=by unfold lC;decide +kernel
  have w13:lC ("abcdefghijklm":Str):=by unfold lC;decide +kernel
  have e4:("1000":Str)=tS 1000:=γ
  have e9:("9":Str)=tS 9:=γ
  have isn:f≠rF->∃i,v=.int i:=λnf=>by
   cases oz with
   | hand=>exact⟨_,rfl⟩
   | num=>exact⟨_,rfl⟩
   | load=>exact⟨_,rfl⟩
   | word=>exact absurd rfl nf
  exists ra,_,0,_,rfl,rfl,ig.of ha,v0;apply iM (λz=>absurd z (vp _ ok.2.1).1) ad;exists ra,_,_,_,rfl,rfl,ig.of ha,vk;exists ra,_,0,_,rfl,rfl,ig.of ha,v0;ext;have Ztj:f=bZ\/f=rF->Q (.str ("abcdefghijklm":Str)) H:=λhf=>hh _ _ (bD.refl _) (Zwe hf) w13;rcases fb with ⟨ef,ew,ei⟩ | ⟨ef,hn⟩ | ⟨ef,ew,ei⟩ | ⟨ef,ew,ei⟩ | ⟨ef,ew,ei⟩ | ⟨ef,n1,n2,n3⟩
  ·refine iM ad (λz=>absurd ew z);apply iM ad (λz=>absurd δ z);apply Ztj (.inl ef)
  ·obtain⟨s,rfl⟩:∃s,v=.str s:=by
    cases oz with
    | hand=>exact absurd ef ε
    | num e=>rw[ef,show nO.lookup rF=none by decide]at e;cases e
    | load=>exact absurd ef ε
    | word=>exact⟨_,rfl⟩
   refine iM (λeg=>?_) ad
   ·apply iM (λe3=>absurd ⟨eg,δ⟩ hn) ad;apply Ztj (.inr ef)
   ·apply Ztj (.inr ef)
  ·obtain⟨i,rfl⟩:=isn (by rw[ef];decide);refine iM (λeg=>absurd (ew.symm.trans eg) ε) ad;exists ra,_,0,_,rfl,rfl,ig.of ha,v0;apply iM ad (λz=>absurd ew z);apply iM ad (λz=>absurd δ z);apply Cp ε ε λtt et _ _=>?_;refine⟨by show 2<=_;decide,λp hp=>?_⟩;generalize zz:upd H p _=H1;obtain⟨s1,c1⟩:=nwO hp zz;ext;subst ei;refine cV (cN.of c1) (bT ε rfl) (hh _ _ s1 ?_ w9);rw[e9,ef];exact Zj0 (m:=8) ε ε ε ε
  ·obtain⟨i,rfl⟩:=isn (by rw[ef];decide);refine iM (λeg=>absurd (ew.symm.trans eg) ε) ad;exists ra,_,0,_,rfl,rfl,ig.of ha,v0;apply iM ad (λz=>absurd ew z);apply iM ad (λz=>absurd δ z);apply Cp ε ε λtt et _ _=>?_;obtain rfl:tt=tS 1000000000001:=et;refine⟨by show 2<=_;decide,λp hp=>?_⟩;generalize zz:upd H p _=H1;obtain⟨s1,c1⟩:=nwO hp zz;ext;subst ei;refine cV (cN.of c1) (bT ε rfl) (hh _ _ s1 ?_ (Zq5 ε ε));rw[ef];exact Zj0 (m:=1000000000000) ε ε ε ε
  ·obtain⟨i,rfl⟩:=isn (by rw[ef];decide);refine iM (λeg=>absurd (ew.symm.trans eg) ε) ad;exists ra,_,0,_,rfl,rfl,ig.of ha,v0;apply iM (λeg=>absurd (ew.symm.trans eg) ε) ad;exists ra,_,0,_,rfl,rfl,ig.of ha,v0;apply iM ad (λz=>absurd ew z);apply iM ad (λz=>absurd δ z);ext;rw[p60];have f0:=Int.emod_nonneg c (b:=10 ^ 60) ε;have f1:=Int.emod_lt_of_pos c (b:=10 ^ 60) ε;generalize c % 10 ^ 60=x at f0 f1 ⊢;refine Cp (Int.le_trans f0 (Int.le_add_of_nonneg_left ε)) (Int.lt_of_lt_of_le (Int.add_lt_add_left f1 _) ε) λtt et _ _=>?_;obtain rfl:tt=tS (10 ^ 60+x):=et;refine hh _ _ (bD.refl _) ?_ (Zq5 (Int.le_trans f0 (Int.le_add_of_nonneg_left ε)) (Int.lt_of_lt_of_le (Int.add_lt_add_left f1 _) ε));rw[ef];exact Zr4 (Int.le_add_of_nonneg_right f0)
  ·obtain⟨i,rfl⟩:=isn (by rcases ef with ef | ef<;>rw[ef]<;>decide);have fin:Q (.str ("1000":Str)) H:=hh _ _ (bD.refl _) (by
    rw[e4];rcases ef with ef | ef<;>rw[ef]<;>exact Zj0 (m:=999) ε ε ε ε) w4
   have wr:(bw Φ (cC (tC (.str "1000")))) ξ [↑ra,some (.int ((j+2:Nat):Int)),some (.int c),some (.int i)] H:=by
    exists ra,_,0,_,rfl,rfl,ig.of ha,v0;apply iM (λew=>?_) ad
    ·apply iM (λe3=>absurd ⟨ew,δ⟩ n3) ad;apply fin
    ·apply fin
   have mk:(bw (cZ ((qp (bJ (aN (lH) (aN (jf K) Γ ω) (tC (.str "make")))) (bJ (aN (ir λi j=>.bl (decide (j<i))) Δ av)))) (cC (aN (fM K) (gY (aj (tC (.str "9")) (aj (mH (G.xH) (aj (aN ρ (aN (rI FT λi j=>.int (i ^ j.toNat)) (tC (.int 10)) (tC (.int 12))) υ) aM)) aM))) (aN (ir λi j=>.int (i - j)) Δ (tC (.int 3))))) bV) (bw Φ (cC (tC (.str "1000"))))) ξ [↑ra,some (.int ((j+2:Nat):Int)),some (.int c),some (.int i)] H:=by
    exists ra,_,0,_,rfl,rfl,ig.of ha,v0;apply iM (λew=>?_) ad
    ·apply iM (λe3=>absurd ⟨ew,δ⟩ n2) ad;left;exact wr
    ·left;exact wr
   refine iM (λeg=>?_) ad
   ·apply iM (λe3=>absurd ⟨eg,δ⟩ n1) ad;left;exact mk
   ·left;exact mk
end
theorem Zqh:∀{l m:AI},l.Nodup->(∀x∈l,x∈m)->l.length<=m.length
 | [],m,_,_=>Nat.zero_le _
 | x::l,m,nd,h=>by
  rw[List.nodup_cons]at nd;have hx:=h x List.mem_cons_self;have ih:=Zqh (l:=l) (m:=m.erase x) nd.2 (λy hy=>(List.mem_erase_of_ne (λe:y=x=>nd.1 (e ▸ hy))).mpr (h y (List.mem_cons_of_mem _ hy)));rw[List.length_erase_of_mem hx]at ih;have:0<m.length:=List.length_pos_of_mem hx;rw[List.length_cons];omega
def qsS:AI:=["q","qq","qqq","qqqq","qqqqq"]
theorem Zqc:∀t∈qsS,t≠("":Str)/\dJ t letters 12=true/\t≠cX:=γ
theorem Zuf{names:AI}(h5:names.length<=5)(h:∀t∈qsS,t∈names):("qqqqqq":Str)∉names:=λz=>by
 have:=Zqh (l:=("qqqqqq":Str)::qsS) (m:=names) γ (λx hx=>by
  rcases List.mem_cons.mp hx with rfl | hx
  ·exact z
  ·exact h x hx)
 have e:(("qqqqqq":Str)::qsS).length=6:=rfl;omega
theorem Zpv{t:Str}{lo hi:AB}{c:Nat}(h:c∈(ue t lo hi).cps.toList):c∈t.cps.toList:=by
 unfold ue at h;exact List.mem_of_mem_drop (List.mem_of_mem_take h)
theorem Zgh{t:Str}{lo hi:AB}:(ue t lo hi).length<=t.length:=by
 rw[<- str_len,<- str_len t];show(List.take _ _).length<=_;rw[List.length_take,List.length_drop];omega
theorem Ztx{t:Str}:(ue t none (some 11)).length<=11:=by
 rw[<- str_len];show(List.take _ _).length<=_;rw[List.length_take,show HT.fO t.length 0 none=0 from rfl];have:HT.fO t.length t.length (some 11)<=11:=by
  unfold HT.fO;dsimp only;rw[if_neg ε];simp;omega
 omega
theorem Zdw{c:Nat}(h:97<=c/\c<=122):c∈letters.cps.toList:=by
 have:=Ef (i:=c - 97) δ
 rwa [show 97+(c - 97)=c from δ]at this
def uf:Sp:=λvs H Q E=>∃l c,vs=[.ref l,.int c]/\∃hs,HL H l hs/\oM hs/\∀t H',bD H H'->dJ t letters 12=true->t≠cX->t∉hs.map (·.1)->Q (.str t) H'
section
variable {K:aK}{H:Hp}{Q:VK}{E:XK}{n:ν}{bk ct:ν}
theorem Jq{l:AJ}{c:Int}(q:∃hs,HL H l hs/\oM hs/\∀t H',bD H H'->dJ t letters 12=true->t≠cX->t∉hs.map (·.1)->Q (.str t) H'):
  oY K ξ [↑l,some (.int c),none,none,none] H:=by
 obtain⟨hs,hl,ok,h⟩:=q;obtain⟨as,g1,g2,g3⟩:=id hl;have h1:=ok.1;have h5:=ok.2.1;unfold oY;apply⟨l,rfl,⟨_,cN.of g1⟩,Qu hl δ λp hp=>?_⟩;generalize zz:upd H p _=H1;obtain⟨s1,c1⟩:=nwO hp zz;have nl:(hs.map (·.1)).length=hs.length:=bF ..;have nk:∀x∈hs.map (·.1),oN x:=λx hx=>by
  obtain⟨y,hy,rfl⟩:=List.mem_map.mp hx;exact(ok.2.2.2 y hy).1
 generalize hs.map (·.1)=names at c1 h nl nk;apply gZ (cN.of c1) ?_;rw[bF];ext;have m0:=Int.emod_nonneg c (b:=names.length) δ;have m1:=Int.emod_lt_of_pos c (b:=names.length) δ;have hi:(c % names.length).toNat<names.length:=δ
 refine cV (v:=.str names[(c % names.length).toNat]) (cN.of c1) (bT m0 (by rw[fY,dF hi];rfl)) ?_;have nn:=nk _ (List.getElem_mem hi);generalize names[(c % names.length).toNat]=near at nn;have nlt:=nn.let;have sz:∀k:Nat,k<=100->k<=sizeLine:=λk hk=>cB δ;have k11:=Ztx (t:=near);have k1:=Zgh (t:=near) (lo:=some 1) (hi:=none);have la:("a":Str).length=1:=rfl;have lb:("b":Str).length=1:=rfl;exists near,rfl,sz _ δ;apply dh (sz _ δ) ?_;exists near,rfl,sz _ δ;exists near,rfl,sz _ δ;apply dh (sz _ δ) ?_;apply⟨by show 8<=_;decide,λp2 hp2=>?_⟩;generalize eT:ue near none (some 11)++("a":Str)=ta;generalize eU:ue near (some 1) none=tb;generalize eV:("b":Str)++ue near none (some 11)=tc;have lt:∀t∈[ta,tb,tc]++qsS,t≠("":Str)->dJ t letters 12=true:=by
  intro t ht ne;have cl:∀{lo hi:AB}{ch:Nat},ch∈(ue near lo hi).cps.toList->ch∈letters.cps.toList:=λhm=>Zdw (nlt.2 _ (Zpv hm));have l0:1<=t.length:=Nat.pos_of_ne_zero λe=>ne (lU (by
   rw[<- str_len]at e;exact List.eq_nil_of_length_eq_zero e))
  rcases List.mem_append.mp ht with ht | ht
  ·rcases List.mem_cons.mp ht with rfl | ht
   ·rw[<- eT]at l0 ⊢;refine vd l0 (by rw[cO];omega) λch hm=>?_;rw[bL]at hm;rcases List.mem_append.mp hm with hm | hm
    ·exact cl hm
    ·rw[List.mem_singleton.mp hm];exact Zdw ε
   rcases List.mem_cons.mp ht with rfl | ht
   ·rw[<- eU]at l0 ⊢;exact vd l0 δ λch hm=>cl hm
   ·rw[List.mem_singleton.mp ht,<- eV];rw[List.mem_singleton.mp ht,<- eV]at l0;refine vd l0 (by rw[cO];omega) λch hm=>?_;rw[bL]at hm;rcases List.mem_append.mp hm with hm | hm
    ·rw[List.mem_singleton.mp hm];exact Zdw ε
    ·exact cl hm
  ·exact(Zqc t ht).2.1
 generalize zz:upd H1 p2 _=H2;obtain⟨s2,c2⟩:=nwO hp2 zz;have c2:H2 p2=some (.lst (([ta,tb,tc]++qsS).map V.str)):=c2;have c12:=s2 _ _ c1;have hq:∀t∈qsS,t∈[ta,tb,tc]++qsS:=λt ht=>List.mem_append_right _ ht;generalize [ta,tb,tc]++qsS=ts at c2 lt hq;refine⟨p2,rfl,⟨_,cN.of c2⟩,forL (ts.map V.str) (λi σ Hx=>∃v4,σ=[↑l,some (.int c),↑p,some (.str near),v4]/\Hx=H2/\∀j t,j<i->ts[j]? =some t->t=("":Str)\/t=cX\/t∈names) ⟨none,rfl,rfl,λj t hj=>δ⟩ (λi σ Hx _ ⟨_,_,e,_⟩=>by rw[e];exact cN.of c2) ?_ ?_⟩
 ·rintro i v σ Hx hv ⟨v4,rfl,rfl,inv⟩;rw[fY]at hv;obtain⟨t,et,rfl⟩:=Option.map_eq_some_iff.mp hv;have nxt:(t=("":Str)\/t=cX\/t∈names)->∀j t',j<i+1->ts[j]? =some t'->t'=("":Str)\/t'=cX\/t'∈names:=λz j t' hj e=>by
   by_cases hji:j=i
   ·subst hji;rw[et]at e;cases e;exact z
   ·exact inv j t' δ e
  apply pC (λn1=>?_) (λe1=>?_)
  ·apply pC (λn2=>?_) (λe2=>?_)
   ·exists p,_,rfl,.inl (cN.of c12),rfl,Ez _;rw[if_pos rfl,wN];refine⟨_,rfl,?_⟩;refine pC (λn3=>?_) (λe3=>?_)
    ·apply h t _ (s1.trans s2) (lt t (List.mem_of_getElem? et) n1) n2 n3
    ·apply⟨_,rfl,rfl,nxt (.inr (.inr e3))⟩
   ·apply⟨_,rfl,rfl,nxt (.inr (.inl e2))⟩
  ·apply⟨_,rfl,rfl,nxt (.inl e1)⟩
 ·rintro σ Hx ⟨v4,rfl,rfl,inv⟩;apply h _ _ (s1.trans s2) γ γ (Zuf δ λt ht=>?_);obtain⟨j,hj⟩:=List.getElem?_of_mem (hq t ht);have hjl:=(iB hj).1;have:=Zqc t ht;rcases inv j t (by rw[bF];exact hjl) hj with e | e | e
  ·exact absurd e this.1
  ·exact absurd e this.2.2
  ·exact e
end
def Kx(wl:AJ)(H H':Hp):Prop:=∀b o,b≠wl->H b=some o->H' b=some o
theorem Kx.of{wl:AJ}{H H':Hp}(h:bD H H'):Kx wl H H':=λb o _ hb=>h b o hb
theorem Kx.put{wl:AJ}{H H':Hp}{o:HO}(h:bD H H'):Kx wl H (upd H' wl o):=λb o n hb=>by rw[aQ n];exact h b o hb
def lO:Sp:=λvs H Q E=>∃ra wl way c,vs=[.ref ra,.ref wl,.int way,.int c]/\∃(hs:List π) (r:lD) (ws:AI),H ra=some (.tup (cu r))/\WQ hs r/\H wl=some (.lst (ws.map V.str))/\Fl hs r ws/\(∀w q qs,r=.dd w q qs->ws.length=qs.length+2)/\(∀m,r=.sw m->ws.length=2)/\∀t H',Kx wl H H'->YK hs t .form->Q (.str t) H'
theorem jt{ws:AI}:Txt.join " " ws=Str.join ⟨#[32]⟩ ws:=StrLaws.glued_eq_join _ _
theorem Fl.sum{hs:List π}{r:lD}{ws:AI}(h:Fl hs r ws):(ws.map (·.length)).sum+ws.length<=3000:=by
 have:=MP h.ok;have:=h.ln;omega
theorem Zcm{ps:AI}(h:∀p∈ps,lC p)(l:ps.length<=12):(ps.map (·.length)).sum+ps.length<=1048576:=by
 have:=MP h;omega
theorem Zlc{hs:List π}{r:lD}{ws:AI}(h:Fl hs r ws):(Str.join ⟨#[32]⟩ ws).length<=3000:=by
 have e:=yR 32 h.ne;rw[<- dR,str_len]at e;have:=h.sum;omega
theorem Zm9:∀p∈jy,∀i:Nat,i<8->p.2[i+1]? =some jO->p.1=("write":Str)/\i=1:=γ
section
variable {K:aK}{H:Hp}{Q:VK}{E:XK}{n:ν}{bk ct:ν}
theorem fm2{ra wl:AJ}{way c:Int}{kn:Nat}{hs:List π}{r:lD}{ws:AI}(ha:H ra=some (.tup (cu r)))(ok:WQ hs r)(hw:H wl=some (.lst (ws.map V.str)))(fl:Fl hs r ws)(hk:kOk r ws kn)(hd:∀w q qs,r=.dd w q qs->ws.length=qs.length+2)(h:∀t H',Kx wl H H'->YK hs t .form->Q (.str t) H'):
  kW K vG ξ [↑ra,↑wl,some (.int way),some (.int c),some (.int (kn:Int)),none,none] H:=by
 have ln:=fl.ln;have sm:=fl.sum;have jl3:=Zlc fl;have kl:=fl.kl kn hk;unfold kW;exists " ",wl,ws,rfl,rfl,cN.of hw,ε,δ;rw[jt];ext;have k8:way % 8=0\/way % 8=1\/way % 8=2\/way % 8=3\/way % 8=4\/way % 8=5\/way % 8=6\/way % 8=7:=δ
 generalize way % 8=kd at k8 ⊢;have fin:∀(n':ν) (H1:Hp) (t:Str),bD H H1->Rb r kn t->lC t->Jg Δ (ak 4) xr (.str t) [↑ra,↑wl,some (.int way),some (.int c),some (.int (kn:Int)),some (.str (Str.join ⟨#[32]⟩ ws)),some (.int kd)] H1 (cC (xq K "str" (G.kZ K) (tC (.str " ")) (aj Δ aM)) ⟨n',Q,bk,ct⟩):=by
  intro n' H1 t s1 hb ht;exists wl,_,kn,kn,rfl,rfl,s1 _ _ hw,wM (by rw[bF];exact kl);exists " ",wl,ws.set kn t,rfl,rfl,cN.of (by rw[az,List.map_set]),ε,Zcm (Xa ht fl.ok) (by rw[List.length_set];omega);rw[jt];exact h _ _ (Kx.put s1) (fl.f4 hk hb ht)
 refine iM (λe=>?_) (λn0=>?_)
 ·apply dh (cB (by show _+2<=_;omega)) ?_;exact h _ _ (Kx.of (bD.refl _)) fl.f0
 apply iM (λe=>?_) (λn1=>?_)
 ·apply gZ (cN.of hw) ?_;rw[bF];ext;have l1:1<=ws.length:=List.length_pos_iff.mpr fl.ne;refine⟨wl,_,rfl,cN.of hw,λp hp=>?_⟩;rw[show((ws.length:Int) - 1)=((ws.length - 1:Nat):Int)from δ,Q5 (by rw[bF];omega),<- List.map_take,<- List.dropLast_eq_take];refine⟨" ",p,ws.dropLast,rfl,rfl,cN.of az,ε,Zcm (λx hx=>fl.ok x (List.dropLast_subset _ hx)) (by rw[List.length_dropLast];omega),?_⟩;rw[jt];exact h _ _ (Kx.of (aG hp _)) fl.f1
 apply iM (λe=>?_) (λn2=>?_)
 ·apply⟨_,rfl,δ,by show 5<=_;decide,λp hp=>?_⟩;ext;have s1:=aG hp (.lst [.str (Str.join ⟨#[32]⟩ ws++" "),.str (" "++Str.join ⟨#[32]⟩ ws),.str (rep1 (Str.join ⟨#[32]⟩ ws) " " "  "),.str (Str.join ⟨#[32]⟩ ws++"\t"),.str (rep1 (Str.join ⟨#[32]⟩ ws) " " "\t")]);have e5:c % 5=0\/c % 5=1\/c % 5=2\/c % 5=3\/c % 5=4:=δ
  rcases e5 with e | e | e | e | e<;>rw[e]
  ·exact cV (cN.of az) (bT ε rfl) (h _ _ (Kx.of s1) fl.f2a)
  ·exact cV (cN.of az) (bT ε rfl) (h _ _ (Kx.of s1) fl.f2b)
  ·exact cV (cN.of az) (bT ε rfl) (h _ _ (Kx.of s1) fl.f2c)
  ·exact cV (cN.of az) (bT ε rfl) (h _ _ (Kx.of s1) fl.f2d)
  ·exact cV (cN.of az) (bT ε rfl) (h _ _ (Kx.of s1) fl.f2e)
 apply iM (λe=>?_) (λn3=>?_)
 ·apply⟨by show 6<=_;decide,λp hp=>?_⟩;ext;have s1:=aG hp (.lst [.str "mak",.str "Get",.str "sweep",.str "keep",.str "",.str "PUT"]);have hw1:=s1 _ _ hw;have m0:0<=c % 6:=δ
  have m1:(c % 6).toNat<6:=δ
  have ek:([.str "mak",.str "Get",.str "sweep",.str "keep",.str "",.str "PUT"]:List V)=Bb.map V.str:=rfl;have ex:Bb[(c % 6).toNat]? =some (Bb[(c % 6).toNat]'m1):=dF m1;have hx:Bb[(c % 6).toNat]'m1∈Bb:=List.getElem_mem _;refine cV (v:=.str (Bb[(c % 6).toNat]'m1)) (cN.of az) (bT m0 (by rw[ek,fY,ex];rfl)) ?_;generalize Bb[(c % 6).toNat]'m1=w' at hx;generalize upd H p (.lst [.str "mak",.str "Get",.str "sweep",.str "keep",.str "",.str "PUT"])=H1 at s1 hw1 ⊢;have l2:1<ws.length:=by obtain⟨a,b,ts,rfl⟩:=fl.ex;simp
  exists wl,_,1,1,rfl,rfl,hw1,wM (by rw[bF];exact l2);exists " ",wl,ws.set 1 w',rfl,rfl,cN.of (by rw[az,List.map_set]),ε,Zcm (Xa (XR w' hx).2.2 fl.ok) (by rw[List.length_set];omega);rw[jt];exact h _ _ (Kx.put s1) (fl.f3 hx)
 ext;have ek:ws[kn]? =some ws[kn]:=dF kl;have ik:CW (ws.map V.str) (kn:Int)=some (.str ws[kn]):=pN (by rw[fY,ek];rfl);have fk:=fl.fr _ (List.getElem_mem kl);generalize ws[kn]=tk at ik fk;refine iM (λe=>?_) (λn4=>?_)
 ·apply cV (cN.of hw) ik ?_;refine dh (cB (by show 1+_<=_;omega)) ?_;refine fin _ _ _ (bD.refl _) ?_ (Hs γ fk.2.2 (by show 1+_<=_;omega));cases r with
  | sw m=>exact Q9 (Ga fk.1) _ _
  | dd w q qs=>exact λz _=>Zr3 fk.1
 ext;have f7:(cC ah) ξ [↑ra,↑wl,some (.int way),some (.int c),some (.int (kn:Int)),some (.str (Str.join ⟨#[32]⟩ ws)),some (.int kd)] H:=by
  obtain⟨a,b,ts,rfl⟩:=fl.ex;have fa:=fl.fr a List.mem_cons_self;apply cV (v:=.str a) (cN.of hw) (bT ε rfl) ?_;apply⟨by show 4<=_;decide,λp hp=>?_⟩;ext;have s1:=aG hp (.lst [.str "A",.str "1",.str "-",.str "."]);have hw1:=s1 _ _ hw;have c1:upd H p (.lst [.str "A",.str "1",.str "-",.str "."]) p=some (.lst [.str "A",.str "1",.str "-",.str "."]):=az;generalize upd H p (.lst [.str "A",.str "1",.str "-",.str "."])=H1 at s1 hw1 c1 ⊢;obtain⟨x,ex,hx⟩:∃x:Nat,CW ([.str "A",.str "1",.str "-",.str "."]:List V) (c % 4)=some (.str ⟨#[x]⟩)/\x<97/\x≠32/\x≠10:=by
   have e4:c % 4=0\/c % 4=1\/c % 4=2\/c % 4=3:=δ
   rcases e4 with e | e | e | e<;>rw[e]
   ·exact⟨65,rfl,ε,ε,ε⟩
   ·exact⟨49,rfl,ε,ε,ε⟩
   ·exact⟨45,rfl,ε,ε,ε⟩
   ·exact⟨46,rfl,ε,ε,ε⟩
  refine cV (cN.of c1) ex ?_;refine dh (cB (by show _+1<=_;omega)) ?_;apply cV (v:=.str a) (cN.of hw1) (bT ε rfl) ?_;apply Zlq (cB δ) ?_;exists _,rfl,cB δ;refine dh (cB ?_) ?_
  ·have:=Zgh (t:=Str.join ⟨#[32]⟩ (a::b::ts)) (lo:=some (a.length:Int)) (hi:=none);rw[cO];show _+1+_<=_;omega
  exact h _ _ (Kx.of s1) (fl.f7 rfl hx)
 have f6:(bw (cZ (bJ (aN (lH) (ak 6) (tC (.int 6)))) (bw (bO (bW vG [] E0 (aj Γ (aj (ak 4) (aj (ak 3) aM)))) (Jg Δ (ak 4) xr)) (cC (xq K "str" (G.kZ K) (tC (.str " ")) (aj Δ aM)))) bV) (cC ah)) ξ [↑ra,↑wl,some (.int way),some (.int c),some (.int (kn:Int)),some (.str (Str.join ⟨#[32]⟩ ws)),some (.int kd)] H:=by
  apply iM (λe=>?_) (λn6=>?_)
  ·apply⟨ra,_,_,rfl,hs,r,kn,rfl,ha,ok,λw q qs er=>?_,λt H1 s1 hb ht=>fin _ H1 t s1 hb ht⟩;subst er;have:=hd _ _ _ rfl;have hk:2<=kn/\kn<ws.length:=hk;omega
  ·exact f7
 obtain⟨w0,v0,hm⟩:∃w0:Str,CW (cu r) 0=some (.str w0)/\(w0≠("write":Str)\/kn=2->Rb r kn (("-":Str)++tk)):=by
  cases r with
  | sw m=>exact⟨cX,rfl,λ_=>Q9 (zz (c:=45) (by rw[bL];exact List.mem_append_left _ ε) δ) _ _⟩
  | dd w q qs=>
   refine⟨w,bT ε rfl,λhw z hz=>Znc λez=>?_⟩;obtain⟨k1,k2⟩:2<=kn/\kn<ws.length:=hk;have k3:=hd _ _ _ rfl;have:=Zm9 _ ok.2.1 (kn - 2) δ (by
    show((q::qs).map λz:Qd=>z.1)[kn - 2+1]? =_;rw[fY,List.getElem?_cons_succ,hz];exact congrArg some ez)
   rcases hw with hw | hw
   ·exact hw this.1
   ·omega
 have mi:∀n',fM K (.ref wl) (.int (kn:Int)) H (λy H2=>dN (.str "-") y H2 λx H1=>Jg Δ (ak 4) xr x [↑ra,↑wl,some (.int way),some (.int c),some (.int (kn:Int)),some (.str (Str.join ⟨#[32]⟩ ws)),some (.int kd)] H1 (cC (xq K "str" (G.kZ K) (tC (.str " ")) (aj Δ aM)) ⟨n',Q,bk,ct⟩))\/¬ (w0≠("write":Str)\/kn=2):=λn'=>by
  by_cases hc:w0≠("write":Str)\/kn=2
  ·refine .inl (cV (cN.of hw) ik ?_);refine dh (cB (by show 1+_<=_;omega)) ?_;exact fin _ _ _ (bD.refl _) (hm hc) (Hs γ fk.2.2 (by show 1+_<=_;omega))
  ·exact .inr hc
 refine iM (λe=>?_) (λn5=>?_)
 ·exists ra,_,0,_,rfl,rfl,ig.of ha,v0;apply pC (λnw=>?_) (λew=>?_)
  ·apply(mi _).resolve_right λz=>z (.inl nw)
  ·apply iM (λe2=>?_) (λn2=>?_)
   ·apply(mi _).resolve_right λz=>z (.inr δ)
   ·left;exact f6
 ·left;exact f6
theorem Jt{ra wl:AJ}{way c:Int}(q:∃(hs:List π) (r:lD) (ws:AI),H ra=some (.tup (cu r))/\WQ hs r/\H wl=some (.lst (ws.map V.str))/\Fl hs r ws/\(∀w q qs,r=.dd w q qs->ws.length=qs.length+2)/\(∀m,r=.sw m->ws.length=2)/\∀t H',Kx wl H H'->YK hs t .form->Q (.str t) H'):
  o7 K vG ξ [↑ra,↑wl,some (.int way),some (.int c),none,none,none] H:=by
 obtain⟨hs,r,ws,ha,ok,hw,fl,hd,h2,h⟩:=q;unfold o7;apply gZ (cN.of hw) ?_;rw[bF];ext;cases r with
 | sw m=>
  have l2:=h2 _ rfl;rw[l2];exists ra,_,0,_,rfl,rfl,ig.of ha,rfl;apply iM ad (λz=>absurd rfl z);apply fm2 (kn:=1) ha ok hw fl rfl hd h
 | dd w q qs=>
  have l2:=hd _ _ _ rfl;have hl:=(Yp _ ok.2.1).2.1;rw[bF,List.length_cons]at hl;have em:(if (ws.length:Int) - 2 > 1 then(ws.length:Int) - 2 else 1)=(qs.length:Int):=by split<;>omega
  rw[em];have f0:=Int.emod_nonneg c (b:=qs.length) δ;have f1:=Int.emod_lt_of_pos c (b:=qs.length) δ;obtain⟨kn,ekn⟩:∃kn:Nat,2+c % (qs.length:Int)=kn:=⟨(2+c % (qs.length:Int)).toNat,δ⟩;rw[ekn];refine⟨ra,_,0,_,rfl,rfl,ig.of ha,bT ε rfl,?_⟩;apply iM (λz=>absurd z (vp _ ok.2.1).1) ad;apply fm2 (kn:=kn) ha ok hw fl ⟨δ,δ⟩ hd h
end
theorem Fv.one{hs:List π}{f t:Str}{v d:V}(h:Fv hs f v t d):1<=t.length:=by
 cases h with
 | hand _ k=>exact k.let.1.1
 | num e h0 h1 hm=>exact Zci h0 (Int.lt_of_le_of_lt (Int.le_trans h1 hm) ε)
 | @load i h0 h1=>
  by_cases hi:0<=i
  ·exact Zci hi h1
  ·obtain⟨m,rfl⟩:∃m:Nat,i=-((m+1:Nat):Int):=⟨(-i).toNat - 1,δ⟩;rw[<- str_len,Zdq,List.length_cons];omega
 | word k=>
  unfold dJ at k;rw[Bool.and_eq_true]at k;have:=of_decide_eq_true k.1;omega
theorem QOk.fr{hs:List π}{z:Qd}(h:QOk hs z):1<=z.2.2.1.length/\z.2.2.1.length<=100/\32∉z.2.2.1.cps.toList/\10∉z.2.2.1.cps.toList:=⟨h.1.one,h.2,h.1.free 32 (.inl rfl),h.1.free 10 (.inr rfl)⟩
theorem Zub{s:Str}(h:dJ s letters 12=true):1<=s.length/\s.length<=100/\32∉s.cps.toList/\10∉s.cps.toList:=by
 have wl:=sU h;refine⟨?_,δ,λz=>by have:=wl.2 _ z;omega,λz=>by have:=wl.2 _ z;omega⟩;unfold dJ at h;rw[Bool.and_eq_true]at h;have:=of_decide_eq_true h.1;omega
theorem Fl.spo{hs:List π}{r:lD}{ws:AI}(h:Fl hs r ws){c:Cl}(w:fP hs ws=some c):YK hs (Str.join ⟨#[32]⟩ ws) c:=by
 have:=h.ln;exact sV (by rw[dR]) h.ne h.ok δ w
def pF:Sp:=λvs H Q E=>∃ra l way c,vs=[.ref ra,.ref l,.int way,.int c]/\∃(hs:List π) (r:lD),HL H l hs/\oM hs/\H ra=some (.tup (cu r))/\WOk hs r/\∀c' t p H',bD H H'->H' p=some (.tup [.str (rG c'),.str t])->YK hs t c'->Q (.ref p) H'
section
variable {K:aK}{H:Hp}{Q:VK}{E:XK}{n:ν}{bk ct:ν}
theorem ws6{H0:Hp}{ra wl l:AJ}{way c bits:Int}{due:Str}{hs:List π}{w:Str}{q:Qd}{qs:List Qd}{ws:AI}{v7 v8:Option V}(ha:H ra=some (.tup (cu (.dd w q qs))))(ok:WQ hs (.dd w q qs))(hw:H wl=some (.lst (ws.map V.str)))(fl:Fl hs (.dd w q qs) ws)(l2:ws.length=qs.length+2)(hf:H0 wl=none)(s0:bD H0 H)
  (hb:Builtin.bitAnd bits 4=0->∃c',due=rG c'/\fP hs ws=some c') (h:∀c' t p H',bD H0 H'->H' p=some (.tup [.str (rG c'),.str t])->YK hs t c'->Q (.ref p) H'):
  eX K lO ξ [↑ra,↑l,some (.int way),some (.int c),some (.int bits),some (.str due),↑wl,v7,v8] H:=by
 unfold eX;apply pC (λnb=>?_) (λe=>?_)
 ·apply⟨ra,wl,_,_,rfl,hs,_,ws,ha,ok,hw,fl,λw' q' uQ er=>by cases er;exact l2,λm er=>(nomatch er),λt H1 kx sp=>?_⟩;apply⟨by show 2<=_;decide,λp hp=>?_⟩;have s1:bD H0 H1:=λb o hb=>kx b o (bI hb hf) (s0 b o hb);exact h .form t p _ (s1.trans (aG hp _)) az sp
 ·obtain⟨c',ed,wr⟩:=hb e;have:=fl.sum;exists " ",wl,ws,rfl,rfl,cN.of hw,ε,δ;rw[jt];apply⟨by show 2<=_;decide,λp hp=>?_⟩;exact h c' _ p _ (s0.trans (aG hp _)) (by rw[az,ed]) (fl.spo wr)
theorem ws4{H0:Hp}{ra l:AJ}{way c bits:Int}{hs:List π}{w:Str}{q:Qd}{qs:List Qd}(hl:HL H l hs)(hok:oM hs)(ha:H ra=some (.tup (cu (.dd w q qs))))(ok:WQ hs (.dd w q qs))(s0:bD H0 H)
  (hb:Builtin.bitAnd bits 2=0->Builtin.bitAnd bits 4=0->fV hs 0 ((q::qs).map λz:Qd=>z.1) ((q::qs).map λz:Qd=>z.2.1)=false) (h:∀c' t p H',bD H0 H'->H' p=some (.tup [.str (rG c'),.str t])->YK hs t c'->Q (.ref p) H'):
  jh K lO uf qg ξ [↑ra,↑l,some (.int way),some (.int c),some (.int bits),some (.str "slot"),none,none,none] H:=by
 have h5:=hok.2.1;have Y8:=ok.2.2.1;have nh:=ok.nh;have tl:(qs.map λz:Qd=>z.2.2.1).length=qs.length:=bF ..;have tf:∀p∈qs.map λz:Qd=>z.2.2.1,1<=p.length/\p.length<=100/\32∉p.cps.toList/\10∉p.cps.toList:=λp hp=>by
  obtain⟨z,hz,rfl⟩:=List.mem_map.mp hp;exact(Y8 z (List.mem_cons_of_mem _ hz)).fr
 have v0:CW (cu (.dd w q qs)) 0=some (.str w):=bT ε rfl;unfold jh;exists ra,l,rfl,hs,_,hl,h5,ha,ok;have rl:=ok.len;apply⟨_,_,rfl,rfl,ε,δ,λwl hwl=>?_⟩;rw[show Txt.split (iV (.dd w q qs)) " "=partsOf (.dd w q qs)from ok.split];generalize zz:upd H wl _=H1;obtain⟨s1,c1⟩:=nwO hwl zz;have s01:=s0.trans s1;have hf:H0 wl=none:=s0.free hwl;have ha1:=s1 _ _ ha;apply pC (λnb=>?_) (λe=>?_)
 ·apply⟨l,_,rfl,hs,hl.same s1,hok,λs H2 s2 sw ns nn=>?_⟩;have c2:=s2 _ _ c1;have ha2:=s2 _ _ ha1;have s02:=s01.trans s2;have at0:∀v7 v8,eX K lO ξ [↑ra,↑l,some (.int way),some (.int c),some (.int bits),some (.str "hand"),↑wl,v7,v8] (upd H2 wl (.lst (((partsOf (.dd w q qs)).map V.str).set 0 (.str s)))):=λv7 v8=>by
   refine ws6 (H0:=H0) (ws:=s::w::qs.map λz:Qd=>z.2.2.1) (by rw[aQ (bI ha hwl)];exact ha2) ok az (Zmd ok.2.1 sw ns tl tf) (by rw[List.length_cons,List.length_cons,tl]) hf (iT s02 hf) (λ_=>⟨.hand,rfl,?_⟩) h;exact UT ok (i:=0) rfl ok.1 sw nn rfl ns
  have at3:w=Er->∀s',dJ s' letters 12=true->s'∉hs.map (·.1)->∀v7 v8,eX K lO ξ [↑ra,↑l,some (.int way),some (.int c),some (.int bits),some (.str "hand"),↑wl,v7,v8] (upd H2 wl (.lst (((partsOf (.dd w q qs)).map V.str).set 3 (.str s')))):=λeg s' sw' nn' v7 v8=>by
   obtain⟨z2,e2,f2⟩:=wR (((vp _ ok.2.1).2 1 ε).mpr ⟨eg,rfl⟩);refine ws6 (H0:=H0) (ws:=q.2.2.1::w::(qs.map λz:Qd=>z.2.2.1).set 1 s') (by rw[aQ (bI ha hwl)];exact ha2) ok ?_ (Zmd ok.2.1 nh.1 nh.2 (by rw[List.length_set,tl]) λp hp=>?_) (by rw[List.length_cons,List.length_cons,List.length_set,tl]) hf (iT s02 hf) (λ_=>⟨.hand,rfl,?_⟩) h
   ·rw[az,List.map_cons,List.map_cons,List.map_set];rfl
   ·rcases List.mem_or_eq_of_mem_set hp with hp | rfl
    ·exact tf p hp
    ·exact Zub sw'
   ·exact UT ok (i:=2) (z:=z2) e2 f2 sw' nn' rfl nh.2
  exists ra,_,0,_,rfl,rfl,ig.of ha2,v0;apply iM (λeg=>?_) (λng=>?_)
  ·apply iM (λe3=>?_) (λn3=>?_)
   ·have il:ixN ((partsOf (.dd w q qs)).map V.str).length 3=some 3:=by
     obtain⟨z2,e2,f2⟩:=wR (((vp _ ok.2.1).2 1 ε).mpr ⟨eg,rfl⟩);have:=(iB e2).1;exact wM (i:=3) (by rw[bF];show 3<(qs.map _).length+1+1;rw[tl];omega)
    apply iM (λe2=>?_) (λn2=>?_)
    ·exists wl,_,3,3,rfl,rfl,c2,il;apply at3 eg ("sweep":Str) γ (λz=>by
      obtain⟨y,hy,e⟩:=List.mem_map.mp z;exact(hok.2.2.2 y hy).1.2 e) _ _
    ·exists wl,_,3,3,rfl,rfl,c2,il;apply at3 eg s sw nn _ _
   ·apply⟨wl,_,0,0,rfl,rfl,c2,wM (i:=0) (by rw[bF];show 0<(qs.map _).length+1+1;omega),?_⟩;apply at0 _ _
  ·apply⟨wl,_,0,0,rfl,rfl,c2,wM (i:=0) (by rw[bF];show 0<(qs.map _).length+1+1;omega),?_⟩;apply at0 _ _
 ·apply ws6 (H0:=H0) (ws:=partsOf (.dd w q qs)) ha1 ok c1 (Zmd ok.2.1 nh.1 nh.2 tl tf) (by show(qs.map _).length+1+1=_;rw[tl]) hf s01 (λe4=>⟨.slot,rfl,?_⟩) h;exact Zh4 hok.2.2.1 ok (hb e e4)
theorem zj{ra l:AJ}{way c:Int}(q:∃(hs:List π) (r:lD),HL H l hs/\oM hs/\H ra=some (.tup (cu r))/\WOk hs r/\∀c' t p H',bD H H'->H' p=some (.tup [.str (rG c'),.str t])->YK hs t c'->Q (.ref p) H'):
  lG K lO wV uf qg ξ [↑ra,↑l,some (.int way),some (.int c),none,none,none,none,none] H:=by
 obtain⟨hs,r,hl,hok,ha,ok,h⟩:=q;unfold lG;cases r with
 | sw m=>
  exists ra,_,0,_,rfl,rfl,ig.of ha,rfl;apply iM ad (λz=>absurd rfl z);exists ra,_,1,_,rfl,rfl,ig.of ha,rfl;have o1:=ok.1;apply Cp δ (Int.lt_of_le_of_lt ok.2 ε) λt et _ t2=>?_;obtain rfl:t=tS m:=et;apply⟨by show 2<=_;decide,λwl hwl=>?_⟩;ext;have s1:=aG hwl (.lst [.str "sweep",.str (tS m)]);refine⟨ra,wl,_,_,rfl,hs,_,[cX,tS m],s1 _ _ ha,ok,az,Zw0 ok.1 ok.2,λw' q' uQ er=>(nomatch er),λm er=>rfl,λt H1 kx sp=>?_⟩;apply⟨by show 2<=_;decide,λp hp=>?_⟩;have s2:bD H H1:=λb o hb=>kx b o (bI hb hwl) (s1 b o hb);exact h .form t p _ (s2.trans (aG hp _)) az sp
 | dd w q qs=>
  exists ra,_,0,_,rfl,rfl,ig.of ha,bT ε rfl;apply iM (λz=>absurd z (vp _ ok.2.1).1) ad;ext;have b7:0<=way / 8 % 7/\way / 8 % 7<7:=δ
  generalize way / 8 % 7=x at b7 ⊢;refine pC (λnb=>?_) (λe=>?_)
  ·apply⟨ra,l,_,rfl,hs,w,q,qs,hl,hok,ha,ok.q,λa uQ H1 s1 h1 w1 lk=>?_⟩;apply ws4 (H0:=H) (hl.same s1) hok h1 w1 s1 (λ_ _=>lk) h
  ·apply ws4 (H0:=H) hl hok ha ok.q (bD.refl _) (λe2 e4=>?_) h
   exfalso
   have hx:x=0\/x=1\/x=2\/x=3\/x=4\/x=5\/x=6:=δ
   revert e e2 e4
   rcases hx with rfl | rfl | rfl | rfl | rfl | rfl | rfl<;>decide
end
def hst(hs:List π)(k:Nat):RS:=if k=0 then .s0 else if k=1 then .s1 else .s2 (hs.take (k - 2))
theorem Zql{b:Str}{ps:AI}(e:b.cps.toList=jl 32 ps)(ne:ps≠[])(fr:∀p∈ps,32∉p.cps.toList/\10∉p.cps.toList):Txt.split (("hand ":Str)++b) iD=("hand":Str)::ps/\10∉(("hand ":Str)++b).cps.toList:=by
 refine Zqk (ps:=("hand":Str)::ps) ?_ ζ λp hp=>?_
 ·rw[bL,e];cases ps with
  | nil=>exact absurd rfl ne
  | cons p r=>rfl
 ·rcases List.mem_cons.mp hp with rfl | hp
  ·decide +kernel
  ·exact fr p hp
theorem hrow{b:Str}{ps:AI}{hs':List π}(e:b.cps.toList=jl 32 ps)(ne:ps≠[])(fr:∀p∈ps,32∉p.cps.toList/\10∉p.cps.toList)(hn:lK (("hand":Str)::ps)=none)(lb:b.length<=90):dM (.s2 hs') (("hand ":Str)++b)=.error .form/\Tq (("hand ":Str)++b):=by
 obtain⟨h1,h2⟩:=Zql e ne fr;refine⟨Zcu (yJ (c:=104) (by rw[bL];rfl) ε) (by rw[h1];exact hn),by rw[cO];show 5+_<=_;omega,h2⟩
theorem Zee{ps:AI}(h:ps.length≠2):lK (("hand":Str)::ps)=none:=by
 match ps,h with
 | [],_=>rfl
 | [a],_=>rfl
 | [a,b],h=>exact absurd rfl h
 | a::b::c::r,_=>rfl
theorem Zg7{b c:Str}(h:nmB b=false):lK [("hand":Str),b,c]=none:=by
 show(if ("hand":Str)=("hand":Str)/\nmB b=true then _ else none)=none;rw[if_neg (λz=>by rw[h]at z;exact Bool.false_ne_true z.2)]
theorem Zb1{b c:Str}(h:J7 c 3 9=none):lK [("hand":Str),b,c]=none:=by
 show(if ("hand":Str)=("hand":Str)/\nmB b=true then(J7 c 3 9).map λm=>(b,m)else none)=none;rw[h];split<;>rfl
theorem Zs5{t:Str}(h:dJ t letters 12=false):nmB t=false:=by unfold nmB;rw[h];rfl
def spH(x:Str):AI:=[x++(" 2":Str),x++(" 10":Str),"sweep 4","abcdefghijklm 4",x++("A 4":Str),x,x++(" 04":Str)," 4",x++(" 4 ":Str)]
theorem fr1{x:Str}(h:oN x):32∉x.cps.toList/\10∉x.cps.toList:=⟨h.free 32 ε,h.free 10 ε⟩
theorem fr2{p q:Str}(hp:32∉p.cps.toList/\10∉p.cps.toList)(hq:32∉q.cps.toList/\10∉q.cps.toList):∀z∈[p,q],32∉z.cps.toList/\10∉z.cps.toList:=λz hz=>by
 rcases List.mem_cons.mp hz with rfl | hz
 ·exact hp
 ·rw[List.mem_singleton.mp hz];exact hq
theorem Zrf{x:Str}(h:oN x){hs':List π}:∀b∈spH x,dM (.s2 hs') (("hand ":Str)++b)=.error .form/\Tq (("hand ":Str)++b):=by
 have fx:=fr1 h;have lx:=h.let.1.2;intro b hb;unfold spH at hb;rcases List.mem_cons.mp hb with rfl | hb
 ·exact hrow (ps:=[x,("2":Str)]) (by rw[bL];rfl) ζ (fr2 fx γ) (Zb1 γ) (by rw[cO];show _+2<=_;omega)
 rcases List.mem_cons.mp hb with rfl | hb
 ·exact hrow (ps:=[x,("10":Str)]) (by rw[bL];rfl) ζ (fr2 fx γ) (Zb1 γ) (by rw[cO];show _+3<=_;omega)
 rcases List.mem_cons.mp hb with rfl | hb
 ·exact hrow (ps:=[("sweep":Str),("4":Str)]) γ ζ (fr2 γ γ) (Zg7 γ) γ
 rcases List.mem_cons.mp hb with rfl | hb
 ·exact hrow (ps:=[("abcdefghijklm":Str),("4":Str)]) γ ζ (fr2 γ γ) (Zg7 γ) γ
 rcases List.mem_cons.mp hb with rfl | hb
 ·refine hrow (ps:=[x++("A":Str),("4":Str)]) ?_ ζ (fr2 ?_ γ) (Zg7 (Zs5 (vf (c:=65) ?_ δ))) (by rw[cO];show _+3<=_;omega)
  ·show _=(x++("A":Str)).cps.toList++32::("4":Str).cps.toList;rw[bL,bL,List.append_assoc];rfl
  ·rw[bL];exact⟨λz=>(List.mem_append.mp z).elim fx.1 ε,λz=>(List.mem_append.mp z).elim fx.2 ε⟩
  ·rw[bL];exact List.mem_append_right _ ε
 rcases List.mem_cons.mp hb with rfl | hb
 ·exact hrow (ps:=[b]) rfl ζ (λz hz=>by rw[List.mem_singleton.mp hz];exact fx) (Zee ζ) δ
 rcases List.mem_cons.mp hb with rfl | hb
 ·exact hrow (ps:=[x,("04":Str)]) (by rw[bL];rfl) ζ (fr2 fx γ) (Zb1 γ) (by rw[cO];show _+3<=_;omega)
 rcases List.mem_cons.mp hb with rfl | hb
 ·exact hrow (ps:=[("":Str),("4":Str)]) γ ζ (fr2 γ γ) (Zg7 γ) γ
 ·rw[List.mem_singleton.mp hb];refine hrow (ps:=[x,("4":Str),("":Str)]) (by rw[bL];rfl) ζ (λz hz=>?_) (Zee ζ) (by rw[cO];show _+3<=_;omega);rcases List.mem_cons.mp hz with rfl | hz
  ·exact fx
  ·exact fr2 γ γ z hz
def spA:AI:=["hands ","Hand ","handy "]
theorem Zrg{x:Str}(h:oN x){hs':List π}:∀a∈spA,dM (.s2 hs') (a++x++(" 4":Str))=.error .form/\Tq (a++x++(" 4":Str)):=by
 have fx:=fr1 h;have lx:=h.let.1.2;have main:∀(a w:Str),a.cps.toList=w.cps.toList++[32]->(32∉w.cps.toList/\10∉w.cps.toList)->w≠("hand":Str)->w.length<=6->(∃c r,a.cps.toList=c::r/\c≠119)->dM (.s2 hs') (a++x++(" 4":Str))=.error .form/\Tq (a++x++(" 4":Str)):=by
  rintro a w ea fw nw lw ⟨c,r,ec,nc⟩;have e:(a++x++(" 4":Str)).cps.toList=jl 32 [w,x,("4":Str)]:=by
   rw[bL,bL,ea,List.append_assoc,List.append_assoc];rfl
  obtain⟨h1,h2⟩:=Zqk e ζ (λz hz=>by
   rcases List.mem_cons.mp hz with rfl | hz
   ·exact fw
   ·exact fr2 fx γ z hz)
  have la:a.length=w.length+1:=by rw[<- str_len,ea,List.length_append,str_len];rfl
  refine⟨Zcu (yJ (c:=c) (by rw[bL,bL,ec];rfl) nc) ?_,by rw[cO,cO];show _+2<=_;omega,h2⟩;rw[h1];show(if w=("hand":Str)/\nmB x=true then _ else none)=none;rw[if_neg (λz=>nw z.1)]
 intro a ha;unfold spA at ha;rcases List.mem_cons.mp ha with rfl | ha
 ·exact main _ "hands" γ γ γ γ ⟨104,_,rfl,ε⟩
 rcases List.mem_cons.mp ha with rfl | ha
 ·exact main _ "Hand" γ γ γ γ ⟨72,_,rfl,ε⟩
 ·rw[List.mem_singleton.mp ha];exact main _ "handy" γ γ γ γ ⟨104,_,rfl,ε⟩
def spT:AI:=[" 5"," 5"," 10"," 2",""]
theorem Zrd{y:Str}(h:oN y){hs':List π}(h5:hs'.length<5)(hm:y∈hs'.map (·.1)):∀a∈spT,dM (.s2 hs') (("hand ":Str)++y++a)=.error (if a=(" 5":Str)then .twice else .form)/\Tq (("hand ":Str)++y++a):=by
 have fx:=fr1 h;have lx:=h.let.1.2;have as:∀a:Str,("hand ":Str)++y++a=("hand ":Str)++(y++a):=λa=>lU (by rw[bL,bL,bL,bL,List.append_assoc]);intro a ha;rw[as];unfold spT at ha;have e5:dM (.s2 hs') (("hand ":Str)++(y++(" 5":Str)))=.error .twice/\Tq (("hand ":Str)++(y++(" 5":Str))):=by
  obtain⟨h1,h2⟩:=Zql (b:=y++(" 5":Str)) (ps:=[y,("5":Str)]) (by rw[bL];rfl) ζ (fr2 fx γ);refine⟨Zrc (x:=(y,5)) (yJ (c:=104) (by rw[bL];rfl) ε) h5 ?_ hm,by rw[cO,cO];show 5+(_+2)<=_;omega,h2⟩;rw[h1];show(if ("hand":Str)=("hand":Str)/\nmB y=true then(J7 ("5":Str) 3 9).map λm=>(y,m)else none)=_;rw[if_pos ⟨rfl,Zkm h⟩,show J7 ("5":Str) 3 9=some 5 by decide +kernel];rfl
 rcases List.mem_cons.mp ha with rfl | ha
 ·rw[if_pos rfl];exact e5
 rcases List.mem_cons.mp ha with rfl | ha
 ·rw[if_pos rfl];exact e5
 rcases List.mem_cons.mp ha with rfl | ha
 ·rw[if_neg γ];exact hrow (ps:=[y,("10":Str)]) (by rw[bL];rfl) ζ (fr2 fx γ) (Zb1 γ) (by rw[cO];show _+3<=_;omega)
 rcases List.mem_cons.mp ha with rfl | ha
 ·rw[if_neg γ];exact hrow (ps:=[y,("2":Str)]) (by rw[bL];rfl) ζ (fr2 fx γ) (Zb1 γ) (by rw[cO];show _+2<=_;omega)
 ·rw[List.mem_singleton.mp ha,if_neg γ];exact hrow (ps:=[y]) (by rw[bL];exact List.append_nil _) ζ (λz hz=>by rw[List.mem_singleton.mp hz];exact fx) (Zee ζ) (by rw[cO];show _+0<=_;omega)
theorem Zni:∀t∈spA,t.length<=6:=γ
theorem Znh:∀t∈spT,t.length<=6:=γ
def pG:Sp:=λvs H Q E=>∃l way at_,vs=[.ref l,.int way,.int at_]/\∃(hs:List π) (k:Nat),at_=k/\HL H l hs/\oM hs/\k<hs.length+3/\∀c' t p H',bD H H'->H' p=some (.tup [.str (rG c'),.str t])->dM (hst hs k) t=.error c'->Tq t->Q (.ref p) H'
theorem Vm{l:AI}{i:Int}(h0:0<=i)(h1:i<l.length):∃t,t∈l/\CW (l.map V.str) i=some (.str t):=by
 have hi:i.toNat<l.length:=δ
 exact⟨l[i.toNat],List.getElem_mem hi,bT h0 (by rw[fY,dF hi];rfl)⟩
section
variable {K:aK}{H:Hp}{Q:VK}{E:XK}{n:ν}{bk ct:ν}
theorem hs3{l:AJ}{way:Int}{hs:List π}{i:Nat}(hl:HL H l hs)(ok:oM hs)(hi:i<hs.length)(h:∀c' t p H',bD H H'->H' p=some (.tup [.str (rG c'),.str t])->dM (.s2 (hs.take i)) t=.error c'->Tq t->Q (.ref p) H'):
  jw K ξ [↑l,some (.int way),some (.int ((i:Int)+2)),none,none,none] H:=by
 have xi:hs[i]? =some hs[i]:=dF hi;obtain⟨as,b,g1,g2,g3⟩:=hl.at xi;have nx:=(ok.2.2.2 _ (List.getElem_mem hi)).1;generalize hs[i]=x at xi g3 nx;have lx:=nx.let.1.2;have h5:=ok.2.1;unfold jw;apply cV (v:=.ref b) (cN.of g1) (bT δ (by rw[show((i:Int)+2 - 2).toNat=i from δ,fY,g2];rfl)) ?_;exists b,_,0,_,rfl,rfl,ig.of g3,rfl;apply iM (λe=>?_) ad
 ·apply⟨by show 3<=_;decide,λp hp=>?_⟩;ext;have s1:=aG hp (.lst [.str "hands ",.str "Hand ",.str "handy "]);obtain⟨t,ht,et⟩:=Vm (l:=spA) (i:=way / 7 % 3) δ (by show _<((3:Nat):Int);omega);have lt:=Zni t ht;refine cV (cN.of az) et ?_;apply dh (cB δ) ?_;apply dh (cB (by rw[cO];show _+2<=_;omega)) ?_;refine⟨by show 2<=_;decide,λp2 hp2=>?_⟩;have k:=Zrg nx (hs':=hs.take i) t ht;exact h .form _ p2 _ (s1.trans (aG hp2 _)) az k.1 k.2
 ext;have l9:(bw (bO (gY (aj (aN (G.dN) (ak 4) (tC (.str " 2"))) (aj (aN (G.dN) (ak 4) (tC (.str " 10"))) (aj (tC (.str "sweep 4")) (aj (tC (.str "abcdefghijklm 4")) (aj (aN (G.dN) (ak 4) (tC (.str "A 4"))) (aj (ak 4) (aj (aN (G.dN) (ak 4) (tC (.str " 04"))) (aj (tC (.str " 4")) aM))))))))) (aO 3))
   (bw (pR (xq K "list" mW (ak 3) (aj (aN (G.dN) (ak 4) (tC (.str " 4 "))) aM)))
   (cC (fU (aj (tC (.str "form")) (aj (aN (G.dN) (tC (.str "hand ")) (aN (fM K) (ak 3) (aN ο Δ (tC (.int 9))))) aM)))))) ξ [↑l,some (.int way),some (.int ((i:Int)+2)),none,some (.str x.1),none] H:=by
  have c2:∀z:Str,z.length<=50->x.1.length+z.length<=sizeLine:=λz hz=>cB δ;apply dh (c2 _ ε) ?_;apply dh (c2 _ ε) ?_;apply dh (c2 _ ε) ?_;apply dh (c2 _ ε) ?_;apply⟨by show 8<=_;decide,λp hp=>?_⟩;generalize zz:upd H p _=H1;obtain⟨s1,c1⟩:=nwO hp zz;exists .inl ⟨rfl,_,cN.of c1⟩;apply dh (c2 _ ε) ?_;refine⟨p,_,_,rfl,rfl,c1,by show 8<_;decide,?_⟩;have s2:bD H (upd H1 p (.lst ([.str (x.1++(" 2":Str)),.str (x.1++(" 10":Str)),.str "sweep 4",.str "abcdefghijklm 4",.str (x.1++("A 4":Str)),.str x.1,.str (x.1++(" 04":Str)),.str " 4"]++[.str (x.1++(" 4 ":Str))]))):=iT s1 hp;ext;obtain⟨t,ht,et⟩:=Vm (l:=spH x.1) (i:=way % 9) δ (by show _<((9:Nat):Int);omega);have k:=Zrf nx (hs':=hs.take i) t ht;have kl:=k.2.1;rw[cO]at kl;refine cV (cN.of az) et ?_;refine dh (cB δ) ?_;refine⟨by show 2<=_;decide,λp2 hp2=>?_⟩;exact h .form _ p2 _ (s2.trans (aG hp2 _)) az k.1 k.2
 refine iM (λe=>?_) ad
 ·apply iM (λe3=>?_) ad
  ·have i0:0<i:=δ
   apply⟨by show 5<=_;decide,λp hp=>?_⟩;ext;have s1:=aG hp (.lst [.str " 5",.str " 5",.str " 10",.str " 2",.str ""]);obtain⟨t,ht,et⟩:=Vm (l:=spT) (i:=way / 15 % 5) δ (by show _<((5:Nat):Int);omega);have lt:=Znh t ht;refine cV (cN.of az) et ?_;generalize upd H p (.lst [.str " 5",.str " 5",.str " 10",.str " 2",.str ""])=H1 at s1 ⊢;apply⟨by show 2<=_;decide,λp1 hp1=>?_⟩;generalize zz:upd H1 p1 _=H2;obtain⟨s2,c2⟩:=nwO hp1 zz;have s12:=s1.trans s2;exists _,rfl;obtain⟨c',ec,es⟩:∃c',CW ([.str "form",.str "twice"]:List V) (if decide (t=(" 5":Str))=true then 1 else 0)=some (.str (rG c'))/\(if t=(" 5":Str)then Cl.twice else Cl.form)=c':=by
    by_cases z:t=(" 5":Str)
    ·rw[if_pos (decide_eq_true z),if_pos z];exact⟨_,rfl,rfl⟩
    ·rw[if_neg (by rw[decide_eq_false z];exact Bool.false_ne_true),if_neg z];exact⟨_,rfl,rfl⟩
   refine cV (cN.of c2) ec ?_;ext;have f0:=Int.emod_nonneg (way / 3) (b:=i) δ;have f1:=Int.emod_lt_of_pos (way / 3) (b:=i) δ;have ej:(way / 3 % ((i:Int)+2 - 2))=way / 3 % i:=by rw[show(i:Int)+2 - 2=i from δ]
   obtain⟨j,hj⟩:∃j:Nat,way / 3 % (i:Int)=j:=⟨(way / 3 % (i:Int)).toNat,δ⟩;have hji:j<i:=δ
   have xj:hs[j]? =some (hs[j]' δ):=dF δ;obtain⟨as',b',g1',g2',g3'⟩:=hl.at xj;have ny:=(ok.2.2.2 _ (List.getElem_mem (show j<hs.length by omega))).1;have my:(hs[j]' δ).1∈(hs.take i).map (·.1):=List.mem_map.mpr ⟨_,List.mem_of_getElem? (by rw[List.getElem?_take_of_lt hji];exact xj),rfl⟩;generalize hs[j]' δ=y at xj g3' ny my;have ly:=ny.let.1.2;refine cV (v:=.ref b') (cN.of (s12 _ _ g1')) (bT δ (by rw[show(way / 3 % ((i:Int)+2 - 2)).toNat=j from δ,fY,g2'];rfl)) ?_;exists b',_,0,_,rfl,rfl,ig.of (s12 _ _ g3'),rfl;refine dh (cB (by show 5+_<=_;omega)) ?_;apply dh (cB (by rw[cO];show 5+_+_<=_;omega)) ?_;refine⟨by show 2<=_;decide,λp2 hp2=>?_⟩;have k:=Zrd ny (hs':=hs.take i) (by rw[List.length_take];omega) my t ht;rw[es]at k;exact h c' _ p2 _ (s12.trans (aG hp2 _)) az k.1 k.2
  ·left;exact l9
 ·left;exact l9
theorem Ae{l:AJ}{way at_:Int}(q:∃(hs:List π) (k:Nat),at_=k/\HL H l hs/\oM hs/\k<hs.length+3/\∀c' t p H',bD H H'->H' p=some (.tup [.str (rG c'),.str t])->dM (hst hs k) t=.error c'->Tq t->Q (.ref p) H'):
  mK K ξ [↑l,some (.int way),some (.int at_),none,none,none] H:=by
 obtain⟨hs,k,rfl,hl,ok,hk,h⟩:=q;obtain⟨as,g1,g2,g3⟩:=id hl;have h5:=ok.2.1;unfold mK;apply iM (λe=>?_) (λn0=>?_)
 ·obtain rfl:k=0:=δ
  apply⟨by show 9<=_;decide,λp hp=>?_⟩;have s1:=aG hp (.lst (spR.map V.str));have c1:upd H p (.lst (spR.map V.str)) p=some (.lst (spR.map V.str)):=az;show cC _ _ _ (upd H p (.lst (spR.map V.str)));generalize upd H p (.lst (spR.map V.str))=H1 at s1 c1 ⊢;simp only[List.set_cons_succ,List.set_cons_zero];ext;obtain⟨t,ht,et⟩:=Vm (l:=spR) (i:=way % 9) δ (by show _<((9:Nat):Int);omega);refine cV (cN.of c1) et ?_;refine⟨by show 2<=_;decide,λp2 hp2=>?_⟩;exact h .form t p2 _ (s1.trans (aG hp2 _)) az (Zjf ht) (Zjg t ht).2
 apply iM (λe=>?_) (λn1=>?_)
 ·obtain rfl:k=1:=δ
  apply⟨by show 10<=_;decide,λp hp=>?_⟩;have s1:=aG hp (.lst (spK.map V.str));have c1:upd H p (.lst (spK.map V.str)) p=some (.lst (spK.map V.str)):=az;show cC _ _ _ (upd H p (.lst (spK.map V.str)));generalize upd H p (.lst (spK.map V.str))=H1 at s1 c1 ⊢;simp only[List.set_cons_succ,List.set_cons_zero];ext;obtain⟨t,ht,et⟩:=Vm (l:=spK) (i:=way % 10) δ (by show _<((10:Nat):Int);omega);refine cV (cN.of c1) et ?_;refine⟨by show 2<=_;decide,λp2 hp2=>?_⟩;exact h .form t p2 _ (s1.trans (aG hp2 _)) az (Zre ht) (Zjh t ht).2
 have hk2:hst hs k=.s2 (hs.take (k - 2)):=by
  unfold hst;rw[if_neg δ,if_neg δ]
 rw[hk2]at h;apply gZ (cN.of g1) ?_;rw[bF,g2];apply iM (λe=>?_) (λn2=>?_)
 ·apply⟨by show 5<=_;decide,λp hp=>?_⟩;ext;have s1:=aG hp (.lst (spW.map V.str));obtain⟨t,ht,et⟩:=Vm (l:=spW) (i:=way % 5) δ (by show _<((5:Nat):Int);omega);refine cV (cN.of (az (o:=.lst (spW.map V.str)))) et ?_;refine⟨by show 2<=_;decide,λp2 hp2=>?_⟩;have k:=Zrb t ht;exact h .form t p2 _ (s1.trans (aG hp2 _)) az (Zcu k.1 k.2.1) k.2.2
 ·ext;obtain⟨i,rfl⟩:∃i,k=i+2:=⟨k - 2,δ⟩;exact hs3 (i:=i) hl ok δ h
end
def R3(rows:AI):AI:=if rows=[]then [("":Str)]else rows
theorem yq{rows:AI}(h:rows≠[]):R3 rows=rows:=if_neg h
theorem jn{rows:AI}:Txt.join "\n" rows=Str.join xQ rows:=StrLaws.glued_eq_join _ _
theorem Ds{rows:AI}(h:∀r∈rows,10∉r.cps.toList):Txt.split (Str.join xQ rows) xQ=R3 rows:=by
 by_cases e:rows=[]
 ·subst e;decide +kernel
 ·rw[yq e];exact nq e h
structure pH(rows:AI):Prop where
 len:rows.length<=500
 row:∀r∈rows,r.length<=10000/\10∉r.cps.toList
 two:∀r,rows[1]? =some r->r.length<=100
 sum:(rows.map (·.length)).sum<=900000
theorem pH.txt{rows:AI}(h:pH rows):J8 (Str.join xQ rows):=by
 have hl:=h.len;have hs:=h.sum;have h10:∀r∈rows,10∉r.cps.toList:=λr hr=>(h.row r hr).2;unfold J8;rw[Ds h10]
 by_cases e:rows=[]
 ·subst e;refine⟨γ,γ,γ,λr hr=>by cases hr⟩
 ·rw[yq e];have el:=yR 10 e;rw[<- show(Str.join xQ rows).cps.toList=jl 10 rows from dR _ _,str_len]at el;exact⟨δ,δ,λr hr=>(h.row r hr).1,h.two⟩
def Du(kvs:List (Key×V))(rows:AI):Prop:=
 (∃(k:Nat) (c:Cl),k<=rows.length/\lE kvs (.inl (k:Int))=some (.str (rG c))/\(∀j:Nat,j<k->lE kvs (.inl (j:Int))=none)/\jZ (R3 rows) c k)\/
 ((∀j:Nat,j<=rows.length->lE kvs (.inl (j:Int))=none)/\∃m,xU (R3 rows) m)
def m8:Sp:=λvs H Q E=>∃a d,vs=[.ref a,.ref d]/\∃(rows:AI) (kvs:List (Key×V)),H a=some (.lst (rows.map V.str))/\H d=some (.dK kvs)/\pH rows/\Du kvs rows/\∀H',bD H H'->Q (.bl true) H'
theorem Zgj(c:Cl):rG c≠("good":Str):=by cases c<;>decide +kernel
section
variable {K:aK}{H:Hp}{Q:VK}{E:XK}{n:ν}{bk ct:ν}
theorem Zu2{a d pd:AJ}{rows:AI}{v3:Option V}(ha:H a=some (.lst (rows.map V.str)))(ro:pH rows)(hd:(∃(k:Nat) (c:Cl),H pd=some (.tup [.str (rG c),.int ((k:Int)+1)])/\jZ (R3 rows) c k)\/(H pd=some (.tup [.str "good",.int 0])/\∃m,xU (R3 rows) m))(h:∀H',bD H H'->Q (.bl true) H'):
  nD K ug uB Fq ξ [↑a,↑d,↑pd,v3,none,none,none,none] H:=by
 have hl:=ro.len;have hs:=ro.sum;have tk:=ro.txt;have es:=Ds λr hr=>(ro.row r hr).2;unfold nD;exists "\n",a,rows,rfl,rfl,cN.of ha,ε,δ;rw[jn];ext;rw[<- es]at hd;generalize Str.join xQ rows=z at tk hd;rcases hd with ⟨k,c,hpd,er⟩ | ⟨hpd,m,okk⟩
 ·refine⟨z,rfl,tk,λm hm=>absurd (er.Ce hm) id,λc' j' er' p H1 s1 hp=>?_⟩;obtain⟨rfl,rfl⟩:=er.uniq er';apply Zaq (.inr ⟨ig.of hp,ig.of (s1 _ _ hpd)⟩) (vB rfl) ?_;refine⟨false,rfl,?_⟩;exists p,_,1,_,rfl,rfl,ig.of hp,rfl;exists _,rfl;exists pd,_,0,_,rfl,rfl,ig.of (s1 _ _ hpd),rfl;apply iM (λe=>absurd e (Zgj c)) ad;exists pd,_,0,_,rfl,rfl,ig.of (s1 _ _ hpd),rfl;apply⟨by show 4<=_;decide,λpo hpo=>?_⟩;generalize zz:upd H1 po _=H2;obtain⟨s2,c2⟩:=nwO hpo zz;apply⟨z,rfl,tk,c,k,er,λpc H3 s3 hpc=>?_⟩;apply⟨by show 7<=_;decide,λpr hpr=>?_⟩;generalize zz:upd H3 pr _=H4;obtain⟨s4,c4⟩:=nwO hpr zz;refine⟨po,pr,_,_,rfl,rfl,s4 _ _ (s3 _ _ c2),c4,by show 11<=_;decide,λpx hpx=>?_⟩;have s5:=aG hpx (.lst ([.bl (decide (rG c="form")),.bl (decide (rG c="twice")),.bl (decide (rG c="hand")),.bl (decide (rG c="slot"))]++[.bl true,.bl true,.bl false,.bl false,.bl false,.bl false,.bl false]));refine⟨pc,px,_,_,rfl,rfl,cN.of (s5 _ _ (s4 _ _ hpc)),cN.of az,λ_=>⟨by cases c<;>rfl,rfl⟩,?_⟩;have e:(if false=true then !eqL (clB c) ([.bl (decide (rG c="form")),.bl (decide (rG c="twice")),.bl (decide (rG c="hand")),.bl (decide (rG c="slot"))]++[.bl true,.bl true,.bl false,.bl false,.bl false,.bl false,.bl false])else eqL (clB c) ([.bl (decide (rG c="form")),.bl (decide (rG c="twice")),.bl (decide (rG c="hand")),.bl (decide (rG c="slot"))]++[.bl true,.bl true,.bl false,.bl false,.bl false,.bl false,.bl false]))=true:=by
   cases c<;>decide +kernel
  rw[e];exact h _ (s1.trans (s2.trans (s3.trans (s4.trans s5))))
 ·refine⟨z,rfl,tk,λm hm p H1 s1 hp=>?_,λc' j' er'=>absurd (er'.Ce okk) id⟩;apply Zaq (.inr ⟨ig.of hp,ig.of (s1 _ _ hpd)⟩) (vB rfl) ?_;refine⟨false,rfl,?_⟩;exists p,_,1,_,rfl,rfl,ig.of hp,rfl;exists _,rfl;exists pd,_,0,_,rfl,rfl,ig.of (s1 _ _ hpd),rfl;apply iM ad (λe=>absurd rfl e);apply h _ s1
theorem Ub{a d:AJ}(q:∃(rows:AI) (kvs:List (Key×V)),H a=some (.lst (rows.map V.str))/\H d=some (.dK kvs)/\pH rows/\Du kvs rows/\∀H',bD H H'->Q (.bl true) H'):
  uN K ug uB Fq ξ [↑a,↑d,none,none,none,none,none,none] H:=by
 obtain⟨rows,kvs,ha,hd,ro,du,h⟩:=q;have hl:=ro.len;obtain⟨k,c,hk,hv,hn,fin⟩:∃(k:Nat) (c:Cl),k<=rows.length+1/\(k<=rows.length->lE kvs (.inl (k:Int))=some (.str (rG c)))/\(∀j:Nat,j<k->lE kvs (.inl (j:Int))=none)/\((k<=rows.length/\jZ (R3 rows) c k)\/(k=rows.length+1/\∃m,xU (R3 rows) m)):=by
  rcases du with ⟨k,c,h1,h2,h3,h4⟩ | ⟨h1,h2⟩
  ·exact⟨k,c,δ,λ_=>h2,h3,.inl ⟨h1,h4⟩⟩
  ·exact⟨rows.length+1,.form,δ,λz=>absurd z δ,λj hj=>h1 j δ,.inr ⟨rfl,h2⟩⟩
 unfold uN;apply⟨by show 2<=_;decide,λp0 hp0=>?_⟩;generalize zz:upd H p0 _=H1;obtain⟨s0,c0⟩:=nwO hp0 zz;apply gZ (cN.of (s0 _ _ ha)) ?_;rw[bF];apply⟨_,rfl,δ,δ,forR (λi σ Hx=>∃pd v3,σ=[↑a,↑d,↑pd,v3,none,none,none,none]/\bD H Hx/\Hx pd=some (.tup (if i<=k then [.str "good",.int 0]else [.str (rG c),.int ((k:Int)+1)]))) ⟨p0,none,rfl,s0,by rw[if_pos (Nat.zero_le _)];exact c0⟩ ?_ ?_⟩
 ·rintro i σ Hx hi ⟨pd,v3,rfl,sx,cx⟩;have e0:(0:Int)+(i:Int)=i:=δ
  rw[e0];have hi2:i<=rows.length:=δ
  have hdx:=sx _ _ hd;ext
  by_cases hik:i<=k
  ·rw[if_pos hik]at cx;refine⟨pd,_,0,_,rfl,rfl,ig.of cx,rfl,?_⟩;apply iM ad (λz=>absurd rfl z);ext
   by_cases hj:i=k
   ·subst hj;have hv:=hv hi2;refine⟨d,_,rfl,MJ.k (k:=.inl (i:Int)) hdx,?_⟩;rw[hv];refine⟨true,rfl,Im ?_⟩;apply⟨d,.str (rG c),rfl,by rw[<- hv];exact MJ.k (k:=.inl (i:Int)) hdx,?_⟩;apply⟨by show 2<=_;decide,λp hp=>?_⟩;apply⟨p,_,rfl,sx.trans (aG hp _),by rw[if_neg δ];exact az⟩
   ·have hv:=hn i δ;refine⟨d,_,rfl,MJ.k (k:=.inl (i:Int)) hdx,?_⟩;rw[hv];refine⟨false,rfl,QJ ?_⟩;apply⟨pd,_,rfl,sx,by rw[if_pos δ];exact cx⟩
  ·rw[if_neg hik]at cx;refine⟨pd,_,0,_,rfl,rfl,ig.of cx,rfl,?_⟩;apply iM (λe=>absurd e (Zgj c)) ad;apply⟨pd,_,rfl,sx,by rw[if_neg δ];exact cx⟩
 ·rintro σ Hx ⟨pd,v3,rfl,sx,cx⟩;refine Zu2 (sx _ _ ha) ro ?_ λH' s=>h H' (sx.trans s);rcases fin with ⟨h1,h2⟩ | ⟨h1,h2⟩
  ·rw[if_neg δ]at cx;exact .inl ⟨k,c,cx,h2⟩
  ·rw[if_pos δ]at cx;exact .inr ⟨cx,h2⟩
end
def Fw(K:aK):Sp:=λvs H Q E=>∃a l,vs=[.ref a,.ref l]/\∃(ns:AF) (hs:List π),cN K H a (ns.map V.int)/\HL H l hs/\oM hs/\∀p m w t H',bD H H'->H' p=some (.lst ((cP m w t hs).map V.str))->Hd m w t hs->Q (.ref p) H'
def Ac(m w t:Int):AI:=[("room ":Str)++tS m,("kind ":Str)++words w t]
theorem Zea(m w t:Int)(hs:List π):Ac m w t++(hs.map hdT++[("weave":Str)])=cP m w t hs:=rfl
section
variable {K:aK}{H:Hp}{Q:VK}{E:XK}{n:ν}{bk ct:ν}
theorem Mu{a l:AJ}(q:∃(ns:AF) (hs:List π),cN K H a (ns.map V.int)/\HL H l hs/\oM hs/\∀p m w t H',bD H H'->H' p=some (.lst ((cP m w t hs).map V.str))->Hd m w t hs->Q (.ref p) H'):
  qJ K (Ud K) Fy ξ [↑a,↑l,none,none,none,none] H:=by
 obtain⟨ns,hs,hS,hl,ok,h⟩:=q;obtain⟨as,g1,g2,g3⟩:=id hl;have ok5:=ok.2.1;have h5l:("hand ":Str).length=5:=rfl;have b1l:(" ":Str).length=1:=rfl;unfold qJ;apply⟨a,_,rfl,ns,hS,ε,λc2=>?_⟩;ext;obtain⟨m,em,m0,m1⟩:∃m:Int,4+c2 % (10 ^ Int.toNat 15 - 3)=m/\4<=m/\m<=1000000000000000:=by
  have e:((10:Int) ^ Int.toNat 15 - 3)=999999999999997:=rfl;rw[e];exact⟨_,rfl,δ,δ⟩
 rw[em];refine Cp δ (Int.lt_of_le_of_lt m1 ε) λtm et _ tml=>?_;obtain rfl:tm=tS m:=et;refine dh (cB (by show 5+_<=_;omega)) ?_;apply⟨a,_,rfl,ns,hS,ε,λc0=>?_⟩;apply⟨_,rfl,λw t H1 w0 w1 t0 t1 s1=>?_⟩;have wl:=(Zh w0 w1 t0 t1).2;refine dh (cB (by show 5+_<=_;omega)) ?_;refine⟨by show 2<=_;decide,λp hp=>?_⟩;have g:Hd m w t hs:=⟨m0,m1,w0,w1,t0,t1,ok⟩;have s3:=s1.trans (aG hp (.lst [.str (("room ":Str)++tS m),.str (("kind ":Str)++words w t)]));have c3:upd H1 p (.lst [.str (("room ":Str)++tS m),.str (("kind ":Str)++words w t)]) p=some (.lst ((Ac m w t++([]:List π).map hdT).map V.str)):=az;have hpf:H p=none:=s1.free hp;generalize upd H1 p (.lst [.str (("room ":Str)++tS m),.str (("kind ":Str)++words w t)])=H3 at s3 c3 ⊢;apply⟨l,rfl,⟨_,cN.of (s3 _ _ g1)⟩,forL (as.map V.ref) (λi σ Hx=>∃v4 v5,σ=[↑a,↑l,some (.int m),↑p,v4,v5]/\bD H Hx/\Hx p=some (.lst ((Ac m w t++(hs.take i).map hdT).map V.str))) ⟨none,none,rfl,s3,c3⟩ (λi σ Hx _ ⟨_,_,_,sx,_⟩=>cN.of (sx _ _ g1)) ?_ ?_⟩
 ·rintro i v σ Hx hv ⟨v4,v5,rfl,sx,cx⟩;rw[fY]at hv;obtain⟨b,hb,rfl⟩:=Option.map_eq_some_iff.mp hv;obtain⟨x,ep,bp⟩:=g3 i b hb;have pk:=ok.2.2.2 x (List.mem_of_getElem? ep);have pl:=pk.1.let.1;have hi:=(iB ep).1;refine⟨b,_,rfl,ig.of (sx _ _ bp),rfl,?_⟩;refine⟨_,_,rfl,?_⟩;exists _,_,rfl;exists rfl;exists .inl ⟨rfl,_,cN.of cx⟩;apply dh (cB δ) ?_;apply dh (cB (by rw[cO];omega)) ?_;apply Cp δ (Int.lt_of_le_of_lt pk.2.2 ε) λtp em f1 f2=>?_;obtain rfl:tp=tS x.2:=em;refine dh (cB (by rw[cO,cO];omega)) ?_;apply⟨p,_,_,rfl,rfl,cx,by rw[bF,List.length_append,bF,List.length_take,sizeLine_eq];show 2+_<_;omega,?_⟩;exists _,_,rfl,iT sx hpf;have et:hs.take (i+1)=hs.take i++[x]:=by rw[List.take_add_one,ep];rfl
  rw[az,et,List.map_append (f:=hdT),<- List.append_assoc];show _=some (HO.lst ((Ac m w t++(hs.take i).map hdT++[hdT x]).map V.str));rw[List.map_append (f:=V.str) (l₂:=[hdT x])];rfl
 ·rintro σ Hx ⟨v4,v5,rfl,sx,cx⟩;rw[bF,g2,List.take_length]at cx;exists .inl ⟨rfl,_,cN.of cx⟩;apply⟨p,_,_,rfl,rfl,cx,by rw[bF,List.length_append,bF,sizeLine_eq];show 2+_<_;omega,?_⟩;apply h p m w t _ (iT sx hpf) ?_ g;rw[az,<- Zea,<- List.append_assoc,List.map_append (f:=V.str) (l₂:=[("weave":Str)])];rfl
end
theorem Zji{rows:AI}(hl:rows.length<=12)(h:∀r∈rows,Tq r):pH rows:=by
 have:=Gh (ps:=rows) λp hp=>(h p hp).1;exact⟨δ,λr hr=>⟨Nat.le_trans (h r hr).1 ε,(h r hr).2⟩,λr hr=>(h r (List.mem_of_getElem? hr)).1,δ⟩
theorem pH.ins{rows:AI}(h:pH rows)(hl:rows.length<=499){k:Nat}(k2:2<=k)(hk:k<=rows.length):pH (rows.take k++[("":Str)]++rows.drop k):=by
 refine⟨?_,λr hr=>?_,λr hr=>?_,?_⟩
 ·rw[List.length_append,List.length_append,List.length_take,List.length_drop];show _+1+_<=_;omega
 ·rcases List.mem_append.mp hr with hr | hr
  ·rcases List.mem_append.mp hr with hr | hr
   ·exact h.row r (List.mem_of_mem_take hr)
   ·rw[List.mem_singleton.mp hr];decide +kernel
  ·exact h.row r (List.mem_of_mem_drop hr)
 ·rw[List.append_assoc,List.getElem?_append_left (by rw[List.length_take];omega),List.getElem?_take_of_lt δ]at hr;exact h.two r hr
 ·have e:(rows.map (·.length)).sum=((rows.take k).map (·.length)).sum+((rows.drop k).map (·.length)).sum:=by
   rw[<- List.sum_append,<- List.map_append,List.take_append_drop]
  have:=h.sum;rw[List.map_append,List.map_append,List.sum_append,List.sum_append];show _+0+_<=_;omega
theorem Zg1{rows:AI}{k:Nat}{hs:List π}{c:Nat}(hk:k<=rows.length)(st:um rows k=some (.s3 hs c)):jZ (R3 (rows.take k++[("":Str)]++rows.drop k)) .form k:=by
 rw[yq ζ];refine⟨.s3 hs c,?_,.inl ⟨("":Str),?_,Zib⟩⟩
 ·rw[<- st];refine zA k λj hj=>?_;rw[List.append_assoc,List.getElem?_append_left (by rw[List.length_take];omega),List.getElem?_take_of_lt hj]
 ·rw[List.append_assoc,List.getElem?_append_right (by rw[List.length_take];omega),List.length_take,Nat.min_eq_left hk,Nat.sub_self];rfl
theorem Zmn{rows:AI}{k:Nat}(hk:k<=rows.length)(e:jZ (R3 rows) .form k):Du (nG [] [(.inl (k:Int),.str "form")]) rows:=by
 have em:nG [] [((.inl (k:Int):Key),V.str "form")]=[((.inl (k:Int):Key),V.str "form")]:=rfl;rw[em];refine .inl ⟨k,.form,hk,jF rfl,λj hj=>?_,e⟩;rw[jG (λz=>by have z:(Sum.inl (k:Int):Key)=.inl (j:Int):=z;cases z;omega)];rfl
def vD:Sp:=λvs H Q E=>∃a h c,vs=[.ref a,.int h,.int c]/\∃(m w t:Int) (hs:List π) (ws:AI),H a=some (.lst ((cP m w t hs++ws).map V.str))/\Hd m w t hs/\(∀r∈ws,fP hs ag=none)/\ws.length<=400/\pH (cP m w t hs++ws)/\h=((hs.length+3:Nat):Int)/\∀H',bD H H'->Q (.bl true) H'
section
variable {K:aK}{H:Hp}{Q:VK}{E:XK}{n:ν}{bk ct:ν}
theorem Cy{a:AJ}{hd c:Int}(q:∃(m w t:Int) (hs:List π) (ws:AI),H a=some (.lst ((cP m w t hs++ws).map V.str))/\Hd m w t hs/\(∀r∈ws,fP hs ag=none)/\ws.length<=400/\pH (cP m w t hs++ws)/\hd=((hs.length+3:Nat):Int)/\∀H',bD H H'->Q (.bl true) H'):
  nA K m8 ξ [↑a,some (.int hd),some (.int c),none] H:=by
 obtain⟨m,w,t,hs,ws,ha,g,hw,h4,ro,rfl,h⟩:=q;have h5:=g.ok.2.1;have rl:(cP m w t hs++ws).length=hs.length+3+ws.length:=by rw[List.length_append,iU]
 have st:∀i,i<=ws.length->um (cP m w t hs++ws) (hs.length+3+i)=some (.s3 hs i):=λi hi=>stA g hw δ hi;generalize cP m w t hs++ws=rows at ha ro rl st;unfold nA;apply gZ (cN.of ha) ?_;rw[bF,rl];ext;have ei:(((hs.length+3+ws.length:Nat):Int) - ((hs.length+3:Nat):Int)+1)=((ws.length+1:Nat):Int):=δ
 rw[ei];have f0:=Int.emod_nonneg c (b:=((ws.length+1:Nat):Int)) δ;have f1:=Int.emod_lt_of_pos c (b:=((ws.length+1:Nat):Int)) δ;obtain⟨i,hi⟩:∃i:Nat,c % ((ws.length+1:Nat):Int)=i:=⟨(c % ((ws.length+1:Nat):Int)).toNat,δ⟩;rw[hi]at f0 f1 ⊢;have ek:((hs.length+3:Nat):Int)+(i:Int)=((hs.length+3+i:Nat):Int):=δ
 rw[ek];have sz:∀k:Nat,k<=1000->k<=sizeLine:=λk hk=>cB δ;apply⟨by show 1<=_;decide,λp1 hp1=>?_⟩;generalize zz:upd H p1 _=H1;obtain⟨s1,c1⟩:=nwO hp1 zz;refine⟨a,p1,_,_,rfl,rfl,s1 _ _ ha,c1,sz _ (by rw[bF];show _+1<=_;omega),λp2 hp2=>?_⟩;have s2:=aG hp2 (.lst (rows.map V.str++[.str ""]));have c2:upd H1 p2 (.lst (rows.map V.str++[.str ""])) p2=some (.lst ((rows.take rows.length++[("":Str)]++rows.drop rows.length).map V.str)):=by
  rw[az,List.take_length,List.drop_length,List.append_nil,List.map_append];rfl
 generalize upd H1 p2 (.lst (rows.map V.str++[.str ""]))=H2 at s2 c2 ⊢;ext;intro p3 hp3;generalize zz:upd H2 p3 _=H3;obtain⟨s3,c3⟩:=nwO hp3 zz;have s13:=s1.trans (s2.trans s3);have Zxz:H2 p3=none:=hp3;show mH (G.jg K) (aj Γ aM) _ _ _;apply gZ (cN.of (s13 _ _ ha)) ?_;rw[bF];refine⟨c3,[(.inl (rows.length:Int),.str "form")],rfl,by show 1<=15;decide,?_⟩;have s4:bD H2 (upd H3 p3 (.dK (nG [] [((.inl (rows.length:Int):Key),V.str "form")]))):=iT s3 Zxz;have c4:upd H3 p3 (.dK (nG [] [((.inl (rows.length:Int):Key),V.str "form")])) p3=some (.dK (nG [] [((.inl (rows.length:Int):Key),V.str "form")])):=az;generalize upd H3 p3 (.dK (nG [] [((.inl (rows.length:Int):Key),V.str "form")]))=H4 at s4 c4 ⊢;have s14:=s1.trans (s2.trans s4);have e1:=st ws.length χ;rw[<- rl]at e1;apply⟨p2,p3,rfl,_,_,s4 _ _ c2,c4,ro.ins δ δ χ,Zmn (by rw[List.length_append,List.length_append,List.length_take,List.length_drop];show _<=_+1+_;omega) (Zg1 χ e1),λH5 s5=>?_⟩;have s15:=s14.trans s5;apply⟨a,_,rfl,cN.of (s15 _ _ ha),λp6 hp6=>?_⟩;rw[Q5 (by rw[bF];omega)];generalize zz:upd H5 p6 _=H6;obtain⟨s6,c6⟩:=nwO hp6 zz;apply⟨by show 1<=_;decide,λp7 hp7=>?_⟩;generalize zz:upd H6 p7 _=H7;obtain⟨s7,c7⟩:=nwO hp7 zz;refine⟨p6,p7,_,_,rfl,rfl,s7 _ _ c6,c7,sz _ (by rw[List.length_take,bF];show _+1<=_;omega),λp8 hp8=>?_⟩;generalize zz:upd H7 p8 _=H8;obtain⟨s8,c8⟩:=nwO hp8 zz;have s18:=s15.trans (s6.trans (s7.trans s8));apply⟨a,_,rfl,cN.of (s18 _ _ ha),λp9 hp9=>?_⟩;rw[Zmq (by rw[bF];omega)];generalize zz:upd H8 p9 _=H9;obtain⟨s9,c9⟩:=nwO hp9 zz;refine⟨p8,p9,_,_,rfl,rfl,s9 _ _ c8,c9,sz _ (by rw[List.length_append,List.length_take,List.length_drop,bF];show _+1+_<=_;omega),λpx hpx=>?_⟩;have sx:=aG hpx (.lst ((rows.map V.str).take (hs.length+3+i)++[.str ""]++(rows.map V.str).drop (hs.length+3+i)));have cx:upd H9 px (.lst ((rows.map V.str).take (hs.length+3+i)++[.str ""]++(rows.map V.str).drop (hs.length+3+i))) px=some (.lst ((rows.take (hs.length+3+i)++[("":Str)]++rows.drop (hs.length+3+i)).map V.str)):=by
  rw[az,List.map_append,List.map_append,List.map_take,List.map_drop];rfl
 generalize upd H9 px (.lst ((rows.map V.str).take (hs.length+3+i)++[.str ""]++(rows.map V.str).drop (hs.length+3+i)))=HX at sx cx ⊢;have s1x:=s18.trans (s9.trans sx);ext;intro py hpy;generalize zz:upd HX py _=HY;obtain⟨sy,cy⟩:=nwO hpy zz;show ak 3 _ _ _;apply⟨cy,[(.inl ((hs.length+3+i:Nat):Int),.str "form")],rfl,by show 1<=15;decide,?_⟩;have sz4:bD HX (upd HY py (.dK (nG [] [((.inl ((hs.length+3+i:Nat):Int):Key),V.str "form")]))):=iT sy hpy;have cz:upd HY py (.dK (nG [] [((.inl ((hs.length+3+i:Nat):Int):Key),V.str "form")])) py=some (.dK (nG [] [((.inl ((hs.length+3+i:Nat):Int):Key),V.str "form")])):=az;generalize upd HY py (.dK (nG [] [((.inl ((hs.length+3+i:Nat):Int):Key),V.str "form")]))=HZ at sz4 cz ⊢;apply⟨px,py,rfl,_,_,sz4 _ _ cx,cz,ro.ins δ δ δ,Zmn (by rw[List.length_append,List.length_append,List.length_take,List.length_drop];show _<=_+1+_;omega) (Zg1 δ (st i δ)),λH5 s5=>?_⟩;exact h _ (s1x.trans (sz4.trans s5))
end
def ltr(c:Int):Str:=⟨#[97+(c % 26).toNat]⟩
def JZ(c:Int):List π:=(List.range 5).map λh:Nat=>(ltr (c+h),4)
theorem Zky(c:Int):oN (ltr c):=by
 have l:(ltr c).length=1:=rfl;refine⟨vd δ δ λch hc=>?_,λe=>?_⟩
 ·rw[List.mem_singleton.mp hc];exact Ef δ
 ·have:=congrArg Str.length e;rw[l]at this;exact absurd this ε
theorem Zsb{c d:Int}(h:c % 26≠d % 26):ltr c≠ltr d:=λe=>by
 have e:([97+(c % 26).toNat]:List Nat)=[97+(d % 26).toNat]:=congrArg (λz:Str=>z.cps.toList) e
 injection e with e
 omega
theorem Ztf(c:Int):oM (JZ c):=by
 refine⟨by show 1<=5;decide,by show 5<=5;decide,?_,λx hx=>?_⟩
 ·unfold JZ;rw[List.map_map];refine List.pairwise_map.mpr (List.Pairwise.imp_of_mem ?_ (List.pairwise_lt_range (n:=5)));intro i j hi hj hij;rw[List.mem_range]at hi hj;exact Zsb δ
 ·obtain⟨h,_,rfl⟩:=List.mem_map.mp hx;exact⟨Zky _,by show(3:Int)<=4;decide,by show(4:Int)<=9;decide⟩
theorem hd5(c:Int):Hd 9 2 0 (JZ c):=⟨ε,ε,ε,ε,ε,ε,Ztf c⟩
theorem Zvy(t:Str):("hand ":Str)++t++(" 4":Str)=hdT (t,4):=by
 refine lU ?_;unfold hdT;rw[bL,bL,bL,bL,bL,show(tS (t,(4:Int)).2).cps.toList=[52]from(show(tS 4).cps.toList=[52] by decide +kernel)];simp only[List.append_assoc];rfl
theorem Zvx:Ac 9 2 0=[("room 9":Str),("kind last":Str)]:=γ
theorem Zqm{x:Str×Int}(h:oN x.1)(h0:0<=x.2)(h1:x.2<10):Tq (hdT x):=⟨Zpd h h0 h1,Zm2 h⟩
theorem Zrl(c:Int){hs:List π}(hh:∀x∈hs,oN x.1/\x.2=4):∀r∈Ac 9 2 0++hs.map hdT++[gh],Tq r:=λr hr=>by
 rcases List.mem_append.mp hr with hr | hr
 ·rcases List.mem_append.mp hr with hr | hr
  ·rw[Zvx]at hr;rcases List.mem_cons.mp hr with rfl | hr
   ·unfold Tq;decide +kernel
   ·rw[List.mem_singleton.mp hr];unfold Tq;decide +kernel
  ·obtain⟨x,hx,rfl⟩:=List.mem_map.mp hr;have:=hh x hx;exact Zqm this.1 δ δ
 ·rw[List.mem_singleton.mp hr];unfold Tq;decide +kernel
theorem Zwk(c:Int):jZ (Ac 9 2 0++([]:List π).map hdT++[gh]) .form 2:=by
 have b:Beg (Ac 9 2 0++([]:List π).map hdT++[gh]) 9 2 0 (JZ c) 2:=λj hj=>by
  match j,hj with
  | 0,_=>rfl
  | 1,_=>rfl
 refine⟨.s2 [],st2 (hd5 c) b,.inl ⟨gh,rfl,?_⟩⟩
 conv=>lhs;unfold dM;dsimp only
 rw[if_neg (λz=>z.1 rfl),if_neg ε,show lK (Txt.split gh iD)=none from γ]
theorem Zwj(c:Int):xU (Ac 9 2 0++(JZ c).map hdT++[gh]) 0:=by
 have:=W2 (hd5 c) (ws:=[]) (λr hr=>by cases hr) ε;rw[List.append_nil,<- Zea,<- List.append_assoc]at this;exact this
theorem Zwi(c:Int)(x:Str×Int):jZ (Ac 9 2 0++(JZ c++[x]).map hdT++[gh]) .form 7:=by
 have e:Ac 9 2 0++(JZ c++[x]).map hdT++[gh]=(Ac 9 2 0++(JZ c).map hdT)++[hdT x,gh]:=by
  rw[List.map_append,<- List.append_assoc,List.append_assoc _ ([x].map hdT)];rfl
 have l7:(Ac 9 2 0++(JZ c).map hdT).length=7:=by rw[List.length_append,bF];rfl
 rw[e];have b:Beg ((Ac 9 2 0++(JZ c).map hdT)++[hdT x,gh]) 9 2 0 (JZ c) 7:=λj hj=>by
  rw[<- Zea,<- List.append_assoc,List.getElem?_append_left (l₁:=Ac 9 2 0++(JZ c).map hdT) δ,List.getElem?_append_left (l₁:=Ac 9 2 0++(JZ c).map hdT) δ]
 have st:=stH (hd5 c) (i:=5) (by show 5<=5;decide) b;refine⟨_,st,.inl ⟨hdT x,by rw[List.getElem?_append_right δ,l7];rfl,?_⟩⟩
 conv=>lhs;unfold dM;dsimp only
 rw[if_neg (λz=>yJ (Zm1 _) ε z.2),if_pos (by rw[List.length_take];rfl)]
def Ft:Sp:=λvs H Q E=>∃c,vs=[.int c]/\∀H',bD H H'->Q (.bl true) H'
section
variable {K:aK}{H:Hp}{Q:VK}{E:XK}{n:ν}{bk ct:ν}
theorem Znk{c:Int}{hs:List π}(hh:∀x∈hs,oN x.1/\x.2=4)(h6:hs.length<=6):J8 (Str.join xQ (Ac 9 2 0++hs.map hdT++[gh]))/\Txt.split (Str.join xQ (Ac 9 2 0++hs.map hdT++[gh])) xQ=Ac 9 2 0++hs.map hdT++[gh]/\((Ac 9 2 0++hs.map hdT++[gh]).map (·.length)).sum+(Ac 9 2 0++hs.map hdT++[gh]).length<=2000:=by
 have ok:=Zrl c hh;have hl:(Ac 9 2 0++hs.map hdT++[gh]).length<=9:=by
  rw[List.length_append,List.length_append,bF];show 2+_+1<=_;omega
 have ro:=Zji δ ok;have sm:=Gh (ps:=Ac 9 2 0++hs.map hdT++[gh]) λp hp=>(ok p hp).1;refine⟨ro.txt,?_,δ⟩;rw[Ds λr hr=>(ok r hr).2,yq ζ]
theorem T9{c:Int}(q:∀H',bD H H'->Q (.bl true) H'):
  uL K uB ξ [some (.int c),none,none,none] H:=by
 have n4:∀hs:List π,(∀x∈hs,∃d,x=(ltr d,4))->∀x∈hs,oN x.1/\x.2=4:=λhs h x hx=>by
  obtain⟨d,rfl⟩:=h x hx;exact⟨Zky d,rfl⟩
 have ask:∀(H1:Hp) (p:AJ) (hs:List π) (σ:St) (k:VK),(∀x∈hs,∃d,x=(ltr d,4))->hs.length<=6->H1 p=some (.lst ((Ac 9 2 0++hs.map hdT).map V.str))->(∀z H2,bD H1 H2->J8 z->Txt.split z xQ=Ac 9 2 0++hs.map hdT++[gh]->k (.str z) H2)->[V.str "weave"].length<=sizeLine/\∀p1,H1 p1=none->Dv (.ref p) (.ref p1) (upd H1 p1 (.lst [.str "weave"])) λx H1=>aM σ H1 λxs H2=>kZ K (.str "\n") (x::xs) H2 k:=by
  intro H1 p hs σ k hx h6 hp go;obtain⟨t1,t2,t3⟩:=Znk (c:=c) (n4 hs hx) h6;refine⟨by show 1<=_;decide,λp1 hp1=>?_⟩;have s1:=aG hp1 (.lst [.str "weave"]);refine⟨p,p1,_,_,rfl,rfl,s1 _ _ hp,az,cB (by rw[bF,List.length_append,bF];show 2+_+1<=_;omega),λp2 hp2=>?_⟩;have s2:=aG hp2 (.lst ((Ac 9 2 0++hs.map hdT).map V.str++[.str "weave"]));refine⟨"\n",p2,Ac 9 2 0++hs.map hdT++[gh],rfl,rfl,cN.of (by rw[az,List.map_append (l₂:=[gh])];rfl),ε,δ,?_⟩;rw[jn];exact go _ _ (s1.trans s2) t1 t2
 unfold uL;apply⟨by show 2<=_;decide,λp hp=>?_⟩;have s1:=aG hp (.lst [.str "room 9",.str "kind last"]);have c1:upd H p (.lst [.str "room 9",.str "kind last"]) p=some (.lst ((Ac 9 2 0++([]:List π).map hdT).map V.str)):=by rw[az,Zvx];rfl
 generalize upd H p (.lst [.str "room 9",.str "kind last"])=H1 at s1 c1 ⊢;apply ask H1 p [] _ _ (λx hx=>by cases hx) ε c1 λz H2 s2 tk ez=>?_;ext;have e0:=Zwk c;rw[<- ez]at e0;refine⟨z,rfl,tk,λm hm=>absurd (e0.Ce hm) id,λc' j' er' pr H3 s3 hpr=>?_⟩;obtain⟨rfl,rfl⟩:=e0.uniq er';apply⟨by show 2<=_;decide,λp4 hp4=>?_⟩;have s4:=aG hp4 (.tup [.str "form",.int 3]);refine Zaq (.inr ⟨ig.of (s4 _ _ hpr),ig.of az⟩) (vB rfl) ?_;refine⟨false,rfl,?_⟩;generalize upd H3 p4 (.tup [.str "form",.int 3])=H4 at s4 ⊢;have s14:=s2.trans (s3.trans s4);have c4:=s14 _ _ c1;have s04:=s1.trans s14;apply⟨_,rfl,δ,δ,forR (λi σ Hx=>∃v3,σ=[some (.int c),some (.str letters),↑p,v3]/\bD H Hx/\Hx p=some (.lst ((Ac 9 2 0++((JZ c).take i).map hdT).map V.str))) ⟨none,rfl,s04,c4⟩ ?_ ?_⟩
 ·rintro i σ Hx hi ⟨v3,rfl,sx,cx⟩;have hi:i<5:=δ
  have e0:(0:Int)+(i:Int)=i:=δ
  rw[e0];exists .inl ⟨rfl,_,cN.of cx⟩;apply VL (z:=letters) (by rw[zJ];exact cB ε) (Ia (i:=(c+i) % 26) δ δ) ?_;refine dh (cB (by show 5+1<=1000000;decide)) ?_;apply dh (cB (by rw[cO];show 5+1+2<=1000000;decide)) ?_;have ei:(JZ c)[i]? =some (ltr (c+i),4):=by unfold JZ;rw[fY,List.getElem?_range hi];rfl
  have et:(JZ c).take (i+1)=(JZ c).take i++[(ltr (c+i),4)]:=by rw[List.take_add_one,ei];rfl
  refine⟨p,_,_,rfl,rfl,cx,by rw[bF,List.length_append,bF,List.length_take,sizeLine_eq];show 2+min i 5<_;omega,?_⟩;exists _,rfl,iT sx hp;rw[az,et,List.map_append (f:=hdT),<- List.append_assoc];show _=some (HO.lst ((Ac 9 2 0++((JZ c).take i).map hdT++[hdT (ltr (c+i),4)]).map V.str));rw[List.map_append (f:=V.str) (l₂:=[hdT (ltr (c+i),4)]),<- Zvy];rfl
 ·rintro σ Hx ⟨v3,rfl,sx,cx⟩;rw[show(JZ c).take (Int.toNat 5)=JZ c from rfl]at cx;apply ask Hx p (JZ c) _ _ (λx hx=>?_) (by show 5<=6;decide) cx λz H2 s2 tk ez=>?_
  ·obtain⟨h,_,rfl⟩:=List.mem_map.mp hx;exact⟨_,rfl⟩
  ext;have e5:=Zwj c;rw[<- ez]at e5;refine⟨z,rfl,tk,λm hm pr H3 s3 hpr=>?_,λc' j' er'=>absurd (er'.Ce e5) id⟩;apply⟨by show 2<=_;decide,λp4 hp4=>?_⟩;have s4:=aG hp4 (.tup [.str "good",.int 0]);refine Zaq (.inr ⟨ig.of (s4 _ _ hpr),ig.of az⟩) (vB rfl) ?_;refine⟨false,rfl,?_⟩;generalize upd H3 p4 (.tup [.str "good",.int 0])=H4 at s4 ⊢;have sx4:=s2.trans (s3.trans s4);have c4:=sx4 _ _ cx;have s04:=sx.trans sx4;exists .inl ⟨rfl,_,cN.of c4⟩;apply VL (z:=letters) (by rw[zJ];exact cB ε) (Ia (i:=(c+c / 26 % 7) % 26) δ δ) ?_;refine dh (cB (by show 5+1<=1000000;decide)) ?_;apply dh (cB (by rw[cO];show 5+1+2<=1000000;decide)) ?_;refine⟨p,_,_,rfl,rfl,c4,by rw[bF,List.length_append,bF,sizeLine_eq];show 2+5<_;omega,?_⟩;have s5:=iT (o:=.lst ((Ac 9 2 0++(JZ c).map hdT).map V.str++[.str (("hand ":Str)++ltr (c+c / 26 % 7)++(" 4":Str))])) s04 hp;have c5:upd H4 p (.lst ((Ac 9 2 0++(JZ c).map hdT).map V.str++[.str (("hand ":Str)++ltr (c+c / 26 % 7)++(" 4":Str))])) p=some (.lst ((Ac 9 2 0++(JZ c++[(ltr (c+c / 26 % 7),4)]).map hdT).map V.str)):=by
   rw[az,Zvy,List.map_append (f:=hdT),<- List.append_assoc,List.map_append (f:=V.str) (l₂:=[(ltr (c+c / 26 % 7),4)].map hdT)];rfl
  apply ask _ p (JZ c++[(ltr (c+c / 26 % 7),4)]) _ _ (λx hx=>?_) (by rw[List.length_append];show 5+1<=6;decide) c5 λz' H6 s6 tk' ez'=>?_
  ·rcases List.mem_append.mp hx with hx | hx
   ·obtain⟨h,_,rfl⟩:=List.mem_map.mp hx;exact⟨_,rfl⟩
   ·exact⟨_,List.mem_singleton.mp hx⟩
  ext;have e6:=Zwi c (ltr (c+c / 26 % 7),4);rw[<- ez']at e6;refine⟨z',rfl,tk',λm hm=>absurd (e6.Ce hm) id,λc' j' er' pr H7 s7 hpr=>?_⟩;obtain⟨rfl,rfl⟩:=e6.uniq er';apply⟨by show 2<=_;decide,λp8 hp8=>?_⟩;have s8:=aG hp8 (.tup [.str "form",.int 8]);refine Zaq (.inr ⟨ig.of (s8 _ _ hpr),ig.of az⟩) (vB rfl) ?_;exact q _ (s5.trans (s6.trans (s7.trans s8)))
end
theorem Zfj{m w t:Int}{hs:List π}(g:Hd m w t hs)(ws:AI){k:Nat}(hk:k<hs.length+3):um (cP m w t hs++ws) k=some (hst hs k):=by
 have b:=Zbl (m:=m) (w:=w) (t:=t) (hs:=hs) ws
 match k,hk with
 | 0,_=>rfl
 | 1,hk=>exact st1 g (b.le δ)
 | i+2,hk=>exact stH g δ (b.le δ)
theorem Zte{hs:List π}{k:Nat}:∀h n,hst hs k≠.s3 h n:=λh n e=>by
 unfold hst at e;split at e
 ·cases e
 ·split at e<;>cases e
structure Zb(orig cur:AI)(kvs:List (Key×V)):Prop where
 len:cur.length=orig.length
 at_:∀j,j<orig.length->(lE kvs (.inl (j:Int))=none/\cur[j]? =orig[j]?)\/∃c t s,lE kvs (.inl (j:Int))=some (.str (rG c))/\cur[j]? =some t/\um orig j=some s/\dM s t=.error c
 out:∀j:Nat,orig.length<=j->lE kvs (.inl (j:Int))=none
 few:kvs.length<=50
structure Ro(cur:AI):Prop where
 len:cur.length<=60
 row:∀r∈cur,r.length<=4000/\10∉r.cps.toList
 two:∀r,cur[1]? =some r->r.length<=100
theorem Zq9:∀{ps:AI},(∀p∈ps,p.length<=4000)->(ps.map (·.length)).sum<=4000 * ps.length
 | [],_=>Nat.zero_le _
 | p::ps,h=>by
  have:=Zq9 (ps:=ps) (λq hq=>h q (List.mem_cons_of_mem _ hq));have:=h p List.mem_cons_self;rw[List.map_cons,List.sum_cons,List.length_cons];omega
theorem Ro.ok{cur:AI}(h:Ro cur):pH cur:=by
 have:=Zq9 (ps:=cur) λp hp=>(h.row p hp).1;have hl:=h.len;exact⟨δ,λr hr=>⟨Nat.le_trans (h.row r hr).1 ε,(h.row r hr).2⟩,h.two,δ⟩
theorem Ro.take{cur:AI}(h:Ro cur)(x:Nat):Ro (cur.take x):=by
 have hl:=h.len;refine⟨by rw[List.length_take];omega,λr hr=>h.row r (List.mem_of_mem_take hr),λr hr=>?_⟩
 by_cases hx:1<x
 ·rw[List.getElem?_take_of_lt hx]at hr;exact h.two r hr
 ·rw[List.getElem?_eq_none (by rw[List.length_take];omega)]at hr;cases hr
theorem Ro.set{cur:AI}(h:Ro cur){j:Nat}{t:Str}(ht:t.length<=4000/\10∉t.cps.toList)(h1:j=1->t.length<=100):Ro (cur.set j t):=by
 refine⟨by rw[List.length_set];exact h.len,λr hr=>?_,λr hr=>?_⟩
 ·rcases List.mem_or_eq_of_mem_set hr with hr | rfl
  ·exact h.row r hr
  ·exact ht
 ·rw[List.getElem?_set]at hr;split at hr
  ·rename_i e
   split at hr
   ·cases hr;exact h1 e
   ·cases hr
  ·exact h.two r hr
theorem Zb.nil{orig:AI}:Zb orig orig []:=⟨rfl,λj _=>.inl ⟨rfl,rfl⟩,λj _=>rfl,ε⟩
theorem Zfv{kvs:List (Key×V)}{k:Key}{v:V}:(putK kvs k v).length<=kvs.length+1:=uA kvs k v
theorem Zb.set{orig cur:AI}{kvs:List (Key×V)}(h:Zb orig cur kvs){j:Nat}(hj:j<orig.length){t:Str}{c:Cl}{s:RS}(es:um orig j=some s)(e:dM s t=.error c)(fw:kvs.length<=49):Zb orig (cur.set j t) (putK kvs (.inl (j:Int)) (.str (rG c))):=by
 refine⟨by rw[List.length_set];exact h.len,λi hi=>?_,λi hi=>?_,by have:=Zfv (kvs:=kvs) (k:=.inl (j:Int)) (v:=.str (rG c));omega⟩
 ·rw[pP]
  by_cases z:i=j
  ·subst z;rw[if_pos rfl];exact .inr ⟨c,t,s,rfl,List.getElem?_set_self (by rw[h.len];exact hj),es,e⟩
  ·rw[if_neg (λy=>by cases y;omega),List.getElem?_set_ne (λy=>z y.symm)];exact h.at_ i hi
 ·rw[pP,if_neg (λy=>by cases y;omega)];exact h.out i hi
theorem least(P:Nat->Option V):∀n:Nat,(∀j,j<=n->P j=none)\/∃k v,k<=n/\P k=some v/\∀j,j<k->P j=none
 | 0=>by
  cases e:P 0 with
  | none=>exact .inl λj hj=>by rw[Nat.le_zero.mp hj];exact e
  | some v=>exact .inr ⟨0,v,Nat.le_refl _,e,λj hj=>absurd hj δ⟩
 | n+1=>by
  rcases least P n with h | ⟨k,v,h1,h2,h3⟩
  ·cases e:P (n+1)with
   | none=>
    refine .inl λj hj=>?_
    by_cases z:j=n+1
    ·rw[z];exact e
    ·exact h j δ
   | some v=>exact .inr ⟨n+1,v,Nat.le_refl _,e,λj hj=>h j δ⟩
  ·exact .inr ⟨k,v,δ,h2,h3⟩
theorem Zb.err{orig cur R:AI}{kvs:List (Key×V)}(h:Zb orig cur kvs){k:Nat}{c:Cl}{t:Str}{s:RS}(hk:k<orig.length)(hn:∀j,j<k->lE kvs (.inl (j:Int))=none)(hR:∀j,j<=k->R[j]? =cur[j]?)(et:cur[k]? =some t)(es:um orig k=some s)(e:dM s t=.error c):jZ R c k:=by
 refine⟨s,?_,.inl ⟨t,by rw[hR k χ];exact et,e⟩⟩;rw[<- es];refine zA k λj hj=>?_;rw[hR j δ];rcases h.at_ j δ with ⟨_,z⟩ | ⟨_,_,_,z,_⟩
 ·exact z
 ·rw[hn j hj]at z;cases z
theorem Zb.same{orig cur R:AI}{kvs:List (Key×V)}(h:Zb orig cur kvs){x:Nat}(hx:x<=orig.length)(hn:∀j,j<x->lE kvs (.inl (j:Int))=none)(hR:∀j,j<x->R[j]? =cur[j]?):um R x=um orig x:=by
 refine zA x λj hj=>?_;rw[hR j hj];rcases h.at_ j δ with ⟨_,z⟩ | ⟨_,_,_,z,_⟩
 ·exact z
 ·rw[hn j hj]at z;cases z
theorem Zb.du{orig cur:AI}{kvs:List (Key×V)}(h:Zb orig cur kvs)(h0:0<orig.length){m:Nat}(ok:xU orig m):Du kvs cur:=by
 have ne:cur≠[]:=λe=>by have:=h.len;rw[e]at this;rw[<- this]at h0;exact absurd h0 ε
 unfold Du;rw[yq ne];rcases least (λj=>lE kvs (.inl (j:Int))) cur.length with hn | ⟨k,v,h1,h2,h3⟩
 ·refine .inr ⟨hn,m,?_⟩;obtain⟨hs,e⟩:=ok;refine⟨hs,?_⟩;rw[h.len,<- e];exact h.same χ (λj hj=>hn j (by rw[h.len];omega)) λ_ _=>rfl
 ·by_cases hk:k<orig.length
  ·rcases h.at_ k hk with ⟨z,_⟩ | ⟨c,t,s,z1,z2,z3,z4⟩
   ·rw[show lE kvs (.inl (k:Int))=some v from h2]at z;cases z
   ·exact .inl ⟨k,c,h1,z1,h3,h.err hk h3 (λ_ _=>rfl) z2 z3 z4⟩
  ·have:=h.out k δ;rw[show lE kvs (.inl (k:Int))=some v from h2]at this;cases this
theorem Zme:dM .s0 ("":Str)=.error .form:=Zjf γ
theorem Zb.cut{orig cur:AI}{kvs:List (Key×V)}(h:Zb orig cur kvs){x:Nat}(hx:x<orig.length){s:RS}(es:um orig x=some s)(ns:∀hs n,s≠.s3 hs n):Du (putK kvs (.inl (x:Int)) (.str "form")) (cur.take x):=by
 have lt:(cur.take x).length=x:=by rw[List.length_take,h.len];omega
 have get:∀j,j<x->(cur.take x)[j]? =cur[j]? :=λj hj=>List.getElem?_take_of_lt hj;rcases least (λj=>lE kvs (.inl (j:Int))) x with hn | ⟨k,v,h1,h2,h3⟩
 ·-- at the cut itself
  refine .inl ⟨x,.form,δ,by rw[pP,if_pos rfl];rfl,λj hj=>by rw[pP,if_neg (λy=>by cases y;omega)];exact hn j δ,?_⟩
  by_cases x0:x=0
  ·subst x0;rw[List.take_zero];exact⟨.s0,rfl,.inl ⟨("":Str),rfl,Zme⟩⟩
  ·rw[yq (λe=>by rw[e]at lt;exact x0 lt.symm)];exact⟨s,by rw[h.same δ (λj hj=>hn j δ) get];exact es,.inr ⟨List.getElem?_eq_none δ,rfl,ns⟩⟩
 ·by_cases kx:k<x
  ·rcases h.at_ k δ with ⟨z,_⟩ | ⟨c,t,s',z1,z2,z3,z4⟩
   ·rw[show lE kvs (.inl (k:Int))=some v from h2]at z;cases z
   ·refine .inl ⟨k,c,δ,by rw[pP,if_neg (λy=>by cases y;omega)];exact z1,λj hj=>by rw[pP,if_neg (λy=>by cases y;omega)];exact h3 j hj,?_⟩;rw[yq (λe=>by rw[e]at lt;have:0=x:=lt;omega)];exact h.err δ h3 (λj hj=>get j δ) z2 z3 z4
  ·have ek:k=x:=δ
   subst ek;refine .inl ⟨k,.form,δ,by rw[pP,if_pos rfl];rfl,λj hj=>by rw[pP,if_neg (λy=>by cases y;omega)];exact h3 j hj,?_⟩
   by_cases x0:k=0
   ·subst x0;rw[List.take_zero];exact⟨.s0,rfl,.inl ⟨("":Str),rfl,Zme⟩⟩
   ·rw[yq (λe=>by rw[e]at lt;exact x0 lt.symm)];exact⟨s,by rw[h.same δ h3 get];exact es,.inr ⟨List.getElem?_eq_none δ,rfl,ns⟩⟩
def Wu:Str:="sweep 7"
theorem Zjd(hs:List π):fP hs (Txt.split Wu iD)=none:=by
 rw[show Txt.split Wu iD=[cX,tS 7]from γ];exact OD ε ε
theorem Yh{m w t:Int}{hs:List π}(g:Hd m w t hs):∀r∈cP m w t hs,r.length<=100/\10∉r.cps.toList:=by
 intro r hr;have l5:("room ":Str).length=5:=rfl;have k5:("kind ":Str).length=5:=rfl;have m0:=g.m0;have m1:=g.m1;have w:=Zh g.w0 g.w1 g.t0 g.t1;unfold cP at hr;rcases List.mem_cons.mp hr with rfl | hr
 ·have:=Bj (i:=m) δ (Int.lt_of_le_of_lt m1 ε);rw[cO,bL];exact⟨δ,λz=>(List.mem_append.mp z).elim ε (nR 10 ε m)⟩
 rcases List.mem_cons.mp hr with rfl | hr
 ·rw[cO,bL];exact⟨δ,λz=>(List.mem_append.mp z).elim ε w.1⟩
 rcases List.mem_append.mp hr with hr | hr
 ·obtain⟨x,hx,rfl⟩:=List.mem_map.mp hr;have:=g.ok.2.2.2 x hx;exact Zqm this.1 δ δ
 ·rw[List.mem_singleton.mp hr];decide +kernel
theorem Zoq{m w t:Int}{hs:List π}(g:Hd m w t hs){k:Nat}(hk:k<=401):pH (cP m w t hs++List.replicate k Wu):=by
 have h5:=g.ok.2.1;have rl:=iU (m:=m) (w:=w) (t:=t) (hs:=hs);have all:∀r∈cP m w t hs++List.replicate k Wu,r.length<=100/\10∉r.cps.toList:=λr hr=>by
  rcases List.mem_append.mp hr with hr | hr
  ·exact Yh g r hr
  ·rw[List.eq_of_mem_replicate hr];decide +kernel
 have hl:(cP m w t hs++List.replicate k Wu).length<=409:=by rw[List.length_append,rl,List.length_replicate];omega
 have:=Gh (ps:=cP m w t hs++List.replicate k Wu) λp hp=>(all p hp).1;exact⟨δ,λr hr=>⟨Nat.le_trans (all r hr).1 ε,(all r hr).2⟩,λr hr=>(all r (List.mem_of_getElem? hr)).1,δ⟩
theorem Zor{m w t:Int}{hs:List π}(g:Hd m w t hs):Du [] (cP m w t hs++List.replicate 400 Wu):=by
 refine .inr ⟨λj _=>rfl,400,?_⟩;rw[yq (by unfold cP;simp)];have:=W2 g (ws:=List.replicate 400 Wu) (λr hr=>by rw[List.eq_of_mem_replicate hr];exact Zjd hs) (by rw[List.length_replicate];decide);rw[List.length_replicate]at this;exact this
theorem Zks{m w t:Int}{hs:List π}(g:Hd m w t hs):Du [(.inl (((hs.length+3+400:Nat):Int)),.str "form")] (cP m w t hs++List.replicate 401 Wu):=by
 have rl:=iU (m:=m) (w:=w) (t:=t) (hs:=hs);have st:=stA g (ws:=List.replicate 401 Wu) (λr hr=>by rw[List.eq_of_mem_replicate hr];exact Zjd hs) (i:=400) χ (by rw[List.length_replicate];decide);refine .inl ⟨hs.length+3+400,.form,by rw[List.length_append,rl,List.length_replicate];omega,jF rfl,λj hj=>?_,?_⟩
 ·rw[jG (λz=>by have z:(Sum.inl ((hs.length+3+400:Nat):Int):Key)=.inl (j:Int):=z;injection z with z;omega)];rfl
 ·rw[yq (by unfold cP;simp)];refine⟨_,st,.inl ⟨Wu,?_,?_⟩⟩
  ·rw[List.getElem?_append_right δ,rl,Nat.add_sub_cancel_left,List.getElem?_replicate,if_pos ε]
  ·conv=>lhs;unfold dM;dsimp only
   rw[if_pos rfl]
def Zgp(K:aK):Sp:=λvs H Q E=>∃a,vs=[.ref a]/\∃ns:AF,cN K H a (ns.map V.int)/\ns.length<=63/\Rp ns/\∀H',Q (.bl true) H'
section
variable {K:aK}{a:AJ}{caps:List Nat}{te:TE}{σ:St}{H:Hp}{Q:VK}
theorem Zl5{xs:List V}(hq:cN K H a xs)(hz:xs.length<=1000000)(R:Nat->V->Hp->Prop)(mono:∀i y H1 H2,R i y H1->bD H1 H2->R i y H2)
  (hte:∀(i:Nat) x H1,xs[i]? =some x->bD H H1->∀q:VK,(∀v H2,bD H1 H2->R i v H2->q v H2)->te (some (.int i)::some x::caps.map (pick σ)) H1 q)
  (h:∀vs H',bD H H'->vs.length=xs.length->(∀(i:Nat) v,vs[i]? =some v->R i v H')->∀p,H' p=none->Q (.ref p) (upd H' p (.lst vs))):Zf1 K (Ite K a) caps oO te σ H Q:=by
 refine⟨λi m vs H'=>i<=xs.length/\m=xs.length - i/\vs.length=i/\bD H H'/\∀(j:Nat) v,vs[j]? =some v->R j v H',⟨_,Nat.zero_le _,rfl,rfl,bD.refl _,λj v e=>by cases e⟩,?_⟩;rintro i m vs H1 ⟨hi,rfl,hl,s1,hv⟩
 by_cases hk:i=xs.length
 ·exact .inl ⟨⟨xs,s1.seq hq,δ⟩,λp hp=>h vs H1 s1 δ hv p hp⟩
 ·have hlt:i<xs.length:=δ
  refine .inr ⟨⟨xs,xs[i],s1.seq hq,dF hlt⟩,Nat.lt_of_lt_of_le (by omega:vs.length<1000000) ε,?_⟩;rintro v H2 ⟨t,x,rfl,ht,rfl,e1⟩;have s2:=aG ht (.tup [.int i,x]);refine⟨t,.int i,x,rfl,ig.of az,Yg (Zlf ?_)⟩;refine hte i x _ (e1 _ (s1.seq hq)) (s1.trans s2) _ λw H3 s3 rw'=>⟨xs.length - (i+1),δ,δ,rfl,by rw[List.length_append,hl];rfl,s1.trans (s2.trans s3),λj u hj=>?_⟩
  by_cases hji:j<vs.length
  ·rw[List.getElem?_append_left hji]at hj;exact mono _ _ _ _ (hv j u hj) (s2.trans s3)
  ·have hjl:=(iB hj).1;rw[List.length_append]at hjl;have:[w].length=1:=rfl;have hje:j=vs.length:=δ
   rw[hje,List.getElem?_append_right χ,Nat.sub_self]at hj;cases hj;rw[hje,hl];exact rw'
end
theorem Zqa{hs:List π}{H:Hp}:∀{vs:List V},(∀(i:Nat) v,vs[i]? =some v->∃b r,v=.ref b/\WOk hs r/\H b=some (.tup (cu r)))->∃(as:AG) (rs:List lD),vs=as.map V.ref/\as.length=rs.length/\(∀r∈rs,WOk hs r)/\∀(i:Nat) a,as[i]? =some a->∃r,rs[i]? =some r/\H a=some (.tup (cu r))
 | [],_=>⟨[],[],rfl,rfl,(λ_ h=>by cases h),(λ_ _ h=>by cases h)⟩
 | v::vs,h=>by
  obtain⟨as,rs,e1,e2,e3,e4⟩:=Zqa (vs:=vs) (λi v e=>h (i+1) v e);obtain⟨b,r,rfl,ok,hb⟩:=h 0 v rfl;refine⟨b::as,r::rs,by rw[e1];rfl,by rw[List.length_cons,List.length_cons,e2],λx hx=>?_,λi a ha=>?_⟩
  ·rcases List.mem_cons.mp hx with rfl | hx
   ·exact ok
   ·exact e3 x hx
  ·match i,ha with
   | 0,ha=>cases ha;exact⟨r,rfl,hb⟩
   | i+1,ha=>exact e4 i a ha
section
variable {K:aK}{H:Hp}{Q:VK}{E:XK}{n:ν}{bk ct:ν}
theorem Zus{a l pr wv d:AJ}{way m w t:Int}{hs:List π}{ws cur:AI}{kvs:List (Key×V)}{k:Nat}{v5 v6 v9 v10 v11 v12:Option V}(g:Hd m w t hs)(sp:Zb (cP m w t hs++ws) cur kvs)(ro:Ro cur)(okk:xU (cP m w t hs++ws) k)(hp:H pr=some (.lst (cur.map V.str)))(hd:H d=some (.dK kvs))(h:∀H',Q (.bl true) H'):
  vY K m8 ξ [↑a,some (.int way),↑l,↑pr,some (.int ((hs.length+3:Nat):Int)),v5,v6,↑wv,↑d,v9,v10,v11,v12] H:=by
 have rl:=iU (m:=m) (w:=w) (t:=t) (hs:=hs);have ol:(cP m w t hs++ws).length=hs.length+3+ws.length:=by rw[List.length_append,rl]
 have cl:=sp.len;have fw:=sp.few;unfold vY;apply iM ad ad
 ·ext;have f0:=Int.emod_nonneg way (b:=((hs.length+3:Nat):Int)) δ;have f1:=Int.emod_lt_of_pos way (b:=((hs.length+3:Nat):Int)) δ;obtain⟨x,hx⟩:∃x:Nat,way % ((hs.length+3:Nat):Int)=x:=⟨(way % ((hs.length+3:Nat):Int)).toNat,δ⟩;rw[hx]at f0 f1 ⊢;have lt:(cur.take x).length=x:=by rw[List.length_take];omega
  refine⟨pr,_,rfl,cN.of hp,λp2 hp2=>?_⟩;rw[Q5 (by rw[bF];omega),<- List.map_take];generalize zz:upd H p2 _=H2;obtain⟨s2,c2⟩:=nwO hp2 zz;apply gZ (cN.of c2) ?_;rw[bF,lt];have pd:p2≠d:=λe=>by
   have:=s2 _ _ hd;rw[<- e,c2]at this;cases this
  refine⟨d,_,rfl,Zbq.k (k:=.inl (x:Int)) (s2 _ _ hd) (by rw[sizeLine_eq];omega),?_⟩;apply⟨p2,d,rfl,cur.take x,putK kvs (.inl (x:Int)) (.str "form"),by rw[aQ pd];exact c2,az,(ro.take x).ok,sp.cut δ (Zfj g ws δ) Zte,λH' _=>h H'⟩
 ·apply⟨pr,d,rfl,cur,kvs,hp,hd,ro.ok,sp.du δ okk,λH' _=>h H'⟩
theorem Zut{HB:Hp}{a l pr wv d:AJ}{way m w t:Int}{hs:List π}{rs:List lD}{ns:AF}{k:Nat}{v5 v6:Option V}(g:Hd m w t hs)(ok:∀r∈rs,WOk hs r)(h40:rs.length<=45)(okk:xU (cP m w t hs++rs.map iV) k)(sB:bD HB H)(fp:HB pr=none)(fd:HB d=none)(hl:HL HB l hs)(rl:RL HB wv rs)(hS:cN K HB a (ns.map V.int))(ro:Ro (cP m w t hs++rs.map iV))(hp:H pr=some (.lst ((cP m w t hs++rs.map iV).map V.str)))(hd:H d=some (.dK []))(h:∀H',Q (.bl true) H'):
  vZ K m8 (Ud K) pG pF ξ [↑a,some (.int way),↑l,↑pr,some (.int ((hs.length+3:Nat):Int)),v5,v6,↑wv,↑d,none,none,none,none] H:=by
 have rln:=iU (m:=m) (w:=w) (t:=t) (hs:=hs);have ol:(cP m w t hs++rs.map iV).length=hs.length+3+rs.length:=by rw[List.length_append,rln,bF]
 have h5:=g.ok.2.1;have hw:∀r∈rs.map iV,fP hs ag=none:=λr hr=>by
  obtain⟨y,hy,rfl⟩:=List.mem_map.mp hr;rw[show Txt.split (iV y) iD=partsOf y from(ok y hy).q.split];exact Zfa g.ok.2.2.1 (ok y hy)
 unfold vZ;ext;have b4:0<=way / 35 % 4/\way / 35 % 4<4:=δ
 refine⟨_,rfl,δ,δ,forR (λi σ Hx=>∃cur kvs v5 v6 v9 v10 v11 v12,σ=[↑a,some (.int way),↑l,↑pr,some (.int ((hs.length+3:Nat):Int)),v5,v6,↑wv,↑d,v9,v10,v11,v12]/\bD HB Hx/\Hx pr=some (.lst (cur.map V.str))/\Hx d=some (.dK kvs)/\Zb (cP m w t hs++rs.map iV) cur kvs/\Ro cur/\kvs.length<=i) ⟨_,_,_,_,_,_,_,_,rfl,sB,hp,hd,Zb.nil,ro,Nat.le_refl _⟩ ?_ ?_⟩
 ·rintro i σ Hx hi ⟨cur,kvs,v5,v6,v9,v10,v11,v12,rfl,sx,hpx,hdx,sp,rox,few⟩;have hi4:i<4:=δ
  have cl:=sp.len;have e0:(0:Int)+(i:Int)=i:=δ
  rw[e0];apply⟨a,_,rfl,ns,sx.seq hS,δ,λz=>?_⟩;apply gZ (cN.of hpx) ?_;rw[bF,cl,ol];ext;generalize (z+41 * (i:Int)+3) * 16807 % 6133=at0;generalize (z+23 * (i:Int)+1) * 69621 % 5003=turn;have f0:=Int.emod_nonneg at0 (b:=((hs.length+3+rs.length:Nat):Int)) δ;have f1:=Int.emod_lt_of_pos at0 (b:=((hs.length+3+rs.length:Nat):Int)) δ;obtain⟨j,hj⟩:∃j:Nat,at0 % ((hs.length+3+rs.length:Nat):Int)=j:=⟨(at0 % ((hs.length+3+rs.length:Nat):Int)).toNat,δ⟩;rw[hj]at f0 f1 ⊢;have hjl:j<(cP m w t hs++rs.map iV).length:=δ
  have fin:∀(H1:Hp) (p':AJ) (c':Cl) (t':Str) (s:RS) (bk' ct':ν),bD Hx H1->H1 p'=some (.tup [.str (rG c'),.str t'])->um (cP m w t hs++rs.map iV) j=some s->dM s t'=.error c'->t'.length<=4000/\10∉t'.cps.toList->(j=1->t'.length<=100)->Yn K 2 (pZ (aO 11) (pZ (aO 12) Yo)) (.ref p') [↑a,some (.int way),↑l,↑pr,some (.int ((hs.length+3:Nat):Int)),some (.int (i:Int)),some (.int z),↑wv,↑d,some (.int (j:Int)),some (.int turn),v11,v12] H1 (bw (Vk (ak 8) (ak 9) (ak 11)) (bO (ak 12) (Jg (ak 3) (ak 9) xr)) ⟨λσ Hx=>∃cur kvs v5 v6 v9 v10 v11 v12,σ=[↑a,some (.int way),↑l,↑pr,some (.int ((hs.length+3:Nat):Int)),v5,v6,↑wv,↑d,v9,v10,v11,v12]/\bD HB Hx/\Hx pr=some (.lst (cur.map V.str))/\Hx d=some (.dK kvs)/\Zb (cP m w t hs++rs.map iV) cur kvs/\Ro cur/\kvs.length<=i+1,Q,bk',ct'⟩):=by
   intro H1 p' c' t' s bk' ct' s1 hp1 es e1 o1 o2;have Zy0:=s1 _ _ hpx;have Zy4:=s1 _ _ hdx;have pd:pr≠d:=λe=>by rw[e,hdx]at hpx;cases hpx
   refine⟨p',_,rfl,ig.of hp1,rfl,?_⟩;refine⟨_,_,rfl,?_⟩;exists _,_,rfl;exists rfl;exists d,_,rfl,Zbq.k (k:=.inl (j:Int)) Zy4 (by rw[sizeLine_eq];omega);exists pr,_,_,j,rfl,rfl,by rw[aQ pd];exact Zy0,wM (by rw[bF];omega);have lp:=Zfv (kvs:=kvs) (k:=.inl (j:Int)) (v:=.str (rG c'));exact⟨cur.set j t',_,_,_,_,_,_,_,rfl,iT (iT (sx.trans s1) fd) fp,by rw[az,List.map_set],by rw[aQ (Ne.symm pd)];exact az,sp.set hjl es e1 δ,rox.set o1 o2,δ⟩
  refine iM (λhlt=>?_) (λhge=>?_)
  ·apply⟨l,_,_,rfl,hs,j,rfl,hl.same sx,g.ok,δ,λc' t' p' H1 s1 hp1 e1 o1=>?_⟩;exact fin H1 p' c' t' _ _ _ s1 hp1 (Zfj g _ δ) e1 ⟨Nat.le_trans o1.1 ε,o1.2⟩ λ_=>o1.1
  ·obtain⟨i2,rfl⟩:∃i2,j=hs.length+3+i2:=⟨j - (hs.length+3),δ⟩;have hi2:i2<rs.length:=δ
   obtain⟨bs,k1,k2,k3⟩:=rl;have eb:bs[i2]? =some (bs[i2]' δ):=dF δ;obtain⟨r,er,hb⟩:=k3 i2 _ eb;have okr:=ok r (List.mem_of_getElem? er);generalize bs[i2]' δ=b at eb hb;apply cV (v:=.ref b) (cN.of (sx _ _ k1)) (bT δ (by rw[show(((hs.length+3+i2:Nat):Int) - ((hs.length+3:Nat):Int)).toNat=i2 from δ,fY,eb];rfl)) ?_;apply⟨b,l,_,_,rfl,hs,r,hl.same sx,g.ok,sx _ _ hb,okr,λc' t' p' H1 s1 hp1 spo=>?_⟩;refine fin H1 p' c' t' (.s3 hs i2) _ _ s1 hp1 (stA g hw δ (by rw[bF];omega)) ?_ ⟨spo.2.2,spo.2.1⟩ λz=>δ
   conv=>lhs;unfold dM;dsimp only
   rw[if_neg δ,spo.1]
 ·rintro σ Hx ⟨cur,kvs,v5,v6,v9,v10,v11,v12,rfl,sx,hpx,hdx,sp,rox,few⟩;exact Zus g sp rox okk hpx hdx h
end
theorem xU.uniq{rs:AI}{m m':Nat}(h:xU rs m)(h':xU rs m'):m=m':=by
 obtain⟨hs,e⟩:=h;obtain⟨hs',e'⟩:=h';rw[e]at e';cases e';rfl
section
variable {K:aK}{bR cH cG bK aU bh bf bA aZ aY aX bz aW aV aP aq aF aD aC bQ cW dX jN fX gW:AJ}{H:Hp}{Q:VK}{E:XK}{n:ν}{bk ct:ν}
theorem Zwu(T:Za K bK aU bh bf bA aZ aY aX bz aW aV aP aq aF aD aC){HB:Hp}{a l pr wv d:AJ}{way m w t:Int}{hs:List π}{rs:List lD}{ns:AF}{v5 v6:Option V}(g:Hd m w t hs)(ok:∀r∈rs,WOk hs r)(h40:rs.length<=45)(sB:bD HB H)(fp:HB pr=none)(fd:HB d=none)(hl:HL HB l hs)(rl:RL HB wv rs)(hS:cN K HB a (ns.map V.int))(ro:Ro (cP m w t hs++rs.map iV))(hp:H pr=some (.lst ((cP m w t hs++rs.map iV).map V.str)))(hd:H d=some (.dK []))(h:∀H',Q (.bl true) H'):
  yx K m8 (Ud K) vD pG pF (rB aU aq aF aD aC) ξ [↑a,some (.int way),↑l,↑pr,some (.int ((hs.length+3:Nat):Int)),v5,v6,↑wv,↑d,none,none,none,none] H:=by
 have rln:=iU (m:=m) (w:=w) (t:=t) (hs:=hs);have ol:(cP m w t hs++rs.map iV).length=hs.length+3+rs.length:=by rw[List.length_append,rln,bF]
 have h5:=g.ok.2.1;have hw:∀r∈rs.map iV,fP hs ag=none:=λr hr=>by
  obtain⟨y,hy,rfl⟩:=List.mem_map.mp hr;rw[show Txt.split (iV y) iD=partsOf y from(ok y hy).q.split];exact Zfa g.ok.2.2.1 (ok y hy)
 have okk:=W2 g hw (by rw[bF];omega);rw[bF]at okk;have es:Txt.split (Str.join xQ (cP m w t hs++rs.map iV)) xQ=cP m w t hs++rs.map iV:=by
  rw[Ds λr hr=>(ro.row r hr).2,yq (λe=>by rw[e]at ol;have:0=hs.length+3+rs.length:=ol;omega)]
 have tk:=ro.ok.txt;have sm:=ro.ok.sum;obtain⟨bs,k1,k2,k3⟩:=id rl;unfold yx;apply⟨pr,d,rfl,_,_,hp,hd,ro.ok,Zb.nil.du δ okk,λH1 s1=>?_⟩;have sB1:=sB.trans s1;exists "\n",pr,_,rfl,rfl,cN.of (s1 _ _ hp),ε,δ;rw[jn];apply⟨_,rfl,tk.1,tk.2.1,tk.2.2.1,tk.2.2.2,λm' hm' sc dx rm kd hl' rl' ys H2 s2 o2 hy ly=>?_,λc j hj=>?_⟩
 rotate_left
 ·rw[es]at hj;exact absurd (hj.Ce okk) id
 rw[es]at hm';have em:=okk.uniq hm';apply wO o2 T.qb T.Zkq PB ?_;apply gZ (cN.of hy) ?_;apply gZ (cN.of (s2 _ _ (sB1 _ _ k1))) ?_;rw[bF,ly,k2];apply pC (λz=>absurd (by rw[em]) z) ad;ext;have sB2:=sB1.trans s2;refine⟨a,_,rfl,ns,sB2.seq hS,ε,λc2=>?_⟩;apply⟨pr,_,_,rfl,m,w,t,hs,rs.map iV,s2 _ _ (s1 _ _ hp),g,hw,by rw[bF];omega,ro.ok,rfl,λH3 s3=>?_⟩;have s13:=s1.trans (s2.trans s3);apply Zut g ok h40 okk (sB.trans s13) fp fd hl rl hS ro (s13 _ _ hp) (s13 _ _ hd) h
theorem Zwv(T:Za K bK aU bh bf bA aZ aY aX bz aW aV aP aq aF aD aC){HB:Hp}{a l pr wv d:AJ}{way m w t:Int}{hs:List π}{rs:List lD}{ns:AF}{v5 v6:Option V}(g:Hd m w t hs)(ok:∀r∈rs,WOk hs r)(h40:rs.length<=45)(sB:bD HB H)(fp:HB pr=none)(fd:HB d=none)(hl:HL HB l hs)(rl:RL HB wv rs)(hS:cN K HB a (ns.map V.int))(ro:Ro (cP m w t hs++rs.map iV))(hp:H pr=some (.lst ((cP m w t hs++rs.map iV).map V.str)))(hd:H d=some (.dK []))(h:∀H',Q (.bl true) H'):
  yz K m8 (Ud K) vD pG Ft pF (rB aU aq aF aD aC) ξ [↑a,some (.int way),↑l,↑pr,some (.int ((hs.length+3:Nat):Int)),v5,v6,↑wv,↑d,none,none,none,none] H:=by
 have rln:=iU (m:=m) (w:=w) (t:=t) (hs:=hs);have ol:(cP m w t hs++rs.map iV).length=hs.length+3+rs.length:=by rw[List.length_append,rln,bF]
 have h5:=g.ok.2.1;unfold yz;apply⟨a,_,rfl,ns,sB.seq hS,ε,λc1=>?_⟩;apply⟨_,rfl,λH1 s1=>?_⟩;have hp1:=s1 _ _ hp;have hd1:=s1 _ _ hd;apply iM ad ad
 ·-- four hundred rows
  have last:∀(H2:Hp) (k:Nat) (kvs:List (Key×V)),(k=400\/k=401)->H2 pr=some (.lst ((cP m w t hs++rs.map iV).map V.str))->H2 d=some (.dK kvs)->Du kvs (cP m w t hs++List.replicate k Wu)->(400+way % 2)=(k:Int)->(cC (bW m8 [] E0 (aj (aN (Dv) (RG (Qe K) (ak 3) gR (mF (ak 4))) (aN (Zro) (gY (aj (tC (.str "sweep 7")) aM)) (aN ρ (tC (.int 400)) (aN ο Δ av)))) (aj (ak 8) aM)))) ξ [↑a,some (.int way),↑l,↑pr,some (.int ((hs.length+3:Nat):Int)),v5,v6,↑wv,↑d,none,none,none,none] H2:=by
   intro H2 k kvs hk hp2 hd2 du ek;apply⟨pr,_,rfl,cN.of hp2,λp3 hp3=>?_⟩;rw[Q5 (by rw[bF];omega),<- List.map_take,show(cP m w t hs++rs.map iV).take (hs.length+3)=cP m w t hs from by rw[<- rln];exact List.take_left' rfl];generalize zz:upd H2 p3 _=H3;obtain⟨s3,c3⟩:=nwO hp3 zz;apply⟨by show 1<=_;decide,λp4 hp4=>?_⟩;generalize zz:upd H3 p4 _=H4;obtain⟨s4,c4⟩:=nwO hp4 zz;ext;rw[ek];refine⟨p4,_,_,rfl,rfl,c4,δ,δ,cB (by show 1 * (k:Int).toNat<=_;omega),λp5 hp5=>?_⟩;have ef:(List.replicate (k:Int).toNat [V.str "sweep 7"]).flatten=(List.replicate k Wu).map V.str:=by
    rw[List.flatten_replicate_singleton,List.map_replicate];rfl
   rw[ef];generalize zz:upd H4 p5 _=H5;obtain⟨s5,c5⟩:=nwO hp5 zz;refine⟨p3,p5,_,_,rfl,rfl,s5 _ _ (s4 _ _ c3),c5,cB (by rw[bF,rln,bF,List.length_replicate];omega),λp6 hp6=>?_⟩;have s6:=aG hp6 (.lst ((cP m w t hs).map V.str++(List.replicate k Wu).map V.str));apply⟨p6,d,rfl,cP m w t hs++List.replicate k Wu,kvs,by rw[az,List.map_append],s6 _ _ (s5 _ _ (s4 _ _ (s3 _ _ hd2))),Zoq g δ,du,λH' _=>h H'⟩
  apply iM (λe=>?_) (λe=>?_)
  ·exists d,_,rfl,Zbq.k (k:=.inl (((hs.length+3+400:Nat):Int))) hd1 (by rw[sizeLine_eq];decide);have pd:pr≠d:=λe=>by rw[e,hd1]at hp1;cases hp1
   exact last _ 401 _ (.inr rfl) (by rw[aQ pd];exact hp1) az (Zks g) δ
  ·exact last _ 400 _ (.inl rfl) hp1 hd1 (Zor g) δ
 ·apply Zwu T g ok h40 (sB.trans s1) fp fd hl rl hS ro hp1 hd1 h
end
theorem tH{n d k:Nat}:HT.fO n d (some (k:Int))=min k n:=by
 unfold HT.fO;dsimp only;rw[if_neg δ];simp
theorem Zrm{m w t:Int}{hs:List π}(g:Hd m w t hs){rs:List lD}(ok:∀r∈rs,WOk hs r)(h40:rs.length<=45):Ro (cP m w t hs++rs.map iV):=by
 have h5:=g.ok.2.1;refine⟨by rw[List.length_append,iU,bF];omega,λr hr=>?_,λr hr=>?_⟩
 ·rcases List.mem_append.mp hr with hr | hr
  ·have:=Yh g r hr;exact⟨δ,this.2⟩
  ·obtain⟨y,hy,rfl⟩:=List.mem_map.mp hr;exact⟨Nat.le_trans (ok y hy).q.len ε,(ok y hy).q.nl⟩
 ·rw[List.getElem?_append_left (by rw[iU];omega)]at hr;exact(Yh g r (List.mem_of_getElem? hr)).1
section
variable {K:aK}{bR cH cG bK aU bh bf bA aZ aY aX bz aW aV aP aq aF aD aC bQ cW dX jN fX gW:AJ}{H:Hp}{Q:VK}{E:XK}{n:ν}{bk ct:ν}
theorem Zsh{a:AJ}(T:Za K bK aU bh bf bA aZ aY aX bz aW aV aP aq aF aD aC)(q:∃ns:AF,cN K H a (ns.map V.int)/\ns.length<=63/\Rp ns/\∀H',Q (.bl true) H'):
  Zd9 K m8 (Ud K) vD zQ pG Nq (Fw K) Ft qg pF (rB aU aq aF aD aC) ξ [↑a,none,none,none,none,none,none,none,none,none,none,none,none] H:=by
 obtain⟨ns,hS,hlen,hb,h⟩:=q;unfold Zd9;apply⟨a,_,rfl,ns,hS,ε,λc0=>?_⟩;apply⟨a,_,rfl,ns,hS,ε,λc1=>?_⟩;ext;generalize (c0+13) * 48271 % 7919=way;refine⟨_,_,rfl,λl hs H1 s1 hl ok=>?_⟩;have ok5:=ok.2.1;apply⟨a,l,rfl,ns,hs,s1.seq hS,hl,ok,λp m w t H2 s2 hp g=>?_⟩;have s12:=s1.trans s2;apply gZ (cN.of hp) ?_;rw[bF,iU];apply⟨a,_,rfl,s12.seq hS,λcp hcp=>?_⟩;have ec:vC (ns.map V.int) (some 3) (some 43)=((ns.drop (HT.fO ns.length 0 (some 3))).take (HT.fO ns.length ns.length (some 43) - HT.fO ns.length 0 (some 3))).map V.int:=by
  unfold vC;rw[List.map_take,List.map_drop,bF]
 rw[ec];generalize hcs:(ns.drop (HT.fO ns.length 0 (some 3))).take (HT.fO ns.length ns.length (some 43) - HT.fO ns.length 0 (some 3))=cs;have lcs:cs.length<=40:=by
  rw[<- hcs,List.length_take,show(3:Int)=((3:Nat):Int)from rfl,show(43:Int)=((43:Nat):Int)from rfl,tH,tH];omega
 have bcs:Rp cs:=λi hi=>hb i (List.mem_of_mem_drop (List.mem_of_mem_take (by rw[hcs];exact hi)));generalize zz:upd H2 cp _=H3;obtain⟨s3,c3⟩:=nwO hcp zz;have s23:=s2.trans s3;exists cp,rfl,⟨_,cN.of c3⟩;refine Zl5 (cN.of c3) (by rw[bF];omega) (λ_ v H'=>∃b r,v=.ref b/\WOk hs r/\H' b=some (.tup (cu r))) (λ_ _ _ _ ⟨b,r,e,k,hb⟩ s=>⟨b,r,e,k,s _ _ hb⟩) (λi x H4 hx s4 q' hq=>?_) (λvs H4 s4 vl hv wv hwv=>?_)
 ·rw[fY]at hx;obtain⟨c,hci,rfl⟩:=Option.map_eq_some_iff.mp hx;have hi:=(iB hci).1;walk_at"c";apply⟨_,_,l,rfl,hs,hl.same (s23.trans s4),ok,δ,δ,bcs c (List.mem_of_getElem? hci),λb r H5 s5 wk hb5=>hq _ _ s5 ⟨b,r,rfl,wk,hb5⟩⟩
 obtain⟨bs,rs,rfl,k2,rok,k3⟩:=Zqa hv;rw[bF,bF]at vl;have h40:rs.length<=45:=δ
 have s5:=aG hwv (.lst (bs.map V.ref));have rl:RL (upd H4 wv (.lst (bs.map V.ref))) wv rs:=⟨bs,az,k2,λi c hc=>let ⟨y,q1,q2⟩:=k3 i c hc;⟨y,q1,s5 _ _ q2⟩⟩;generalize upd H4 wv (.lst (bs.map V.ref))=H5 at s5 rl ⊢;have s15:=s23.trans (s4.trans s5);have s25:=s3.trans (s4.trans s5);obtain⟨bs,k1,k2,k3⟩:=id rl;have hl5:=hl.same s15;apply Zvd ?_;exists wv,rfl,⟨_,cN.of k1⟩;refine Zfw (cN.of k1) (λi=>(rs[i]?).map λr=>V.str (iV r)) (by rw[bF];omega) (λi x hx=>?_) λp6 hp6=>?_
 ·rw[fY]at hx;obtain⟨b,hb,rfl⟩:=Option.map_eq_some_iff.mp hx;obtain⟨r,er,hr⟩:=k3 i b hb;refine⟨λq hq=>?_,λv q hv hq=>?_⟩
  ·rw[er]at hq;exact hq
  ·rw[er]at hv;cases hv;walk_at"c";apply⟨b,l,rfl,hs,r,hl5,ok5,hr,(rok r (List.mem_of_getElem? er)).q,hq⟩
 rw[bF,k2,Zen (λr:lD=>V.str (iV r))];have em:rs.map (λr=>V.str (iV r))=(rs.map iV).map V.str:=by rw[List.map_map];rfl
 rw[em];generalize zz:upd H5 p6 _=H6;obtain⟨s6,c6⟩:=nwO hp6 zz;refine⟨p,p6,_,_,rfl,rfl,s6 _ _ (s25 _ _ hp),c6,cB (by rw[bF,iU,bF,bF];omega),λp7 hp7=>?_⟩;have s7:=aG hp7 (.lst ((cP m w t hs).map V.str++(rs.map iV).map V.str));have c7:upd H6 p7 (.lst ((cP m w t hs).map V.str++(rs.map iV).map V.str)) p7=some (.lst ((cP m w t hs++rs.map iV).map V.str)):=by rw[az,List.map_append]
 have f7:H5 p7=none:=s6.free hp7;generalize upd H6 p7 (.lst ((cP m w t hs).map V.str++(rs.map iV).map V.str))=H7 at s7 c7 ⊢;ext;intro d hd;have s8:=aG hd (.dK []);have f8:H5 d=none:=s6.free (s7.free hd);apply Zwv T (HB:=H5) g rok h40 (s6.trans (s7.trans s8)) f7 f8 hl5 rl ((s12.trans s25).seq hS) (Zrm g rok h40) (s8 _ _ c7) az h
end
def top(i:Nat):Stmt:=PySem.Challenge.pw_greywalk_k37_texts_refused.main.body.getD i (.Pass ⟨0,0,0,0⟩)
abbrev lF:Stmt:=inClass (top 8) 0
abbrev GF:Stmt:=top 18
abbrev uv:Stmt:=top 19
abbrev GJ:Stmt:=top 20
abbrev GQ:Stmt:=top 21
abbrev Bt:Stmt:=top 24
abbrev vU:Stmt:=inClass (top 29) 0
abbrev yp:Stmt:=inClass (top 30) 0
abbrev yo:Stmt:=inClass (top 31) 0
abbrev qD:Stmt:=inClass (top 32) 0
abbrev vR:Stmt:=inClass (top 32) 2
abbrev GK:Stmt:=top 33
abbrev oW:Stmt:=inClass (top 36) 0
abbrev Zd5:Stmt:=top 48
abbrev PX:Stmt:=top 49
abbrev uH:Stmt:=top 50
abbrev oV:Stmt:=top 51
abbrev GD:Stmt:=top 52
abbrev GP:Stmt:=top 53
abbrev Bs:Stmt:=top 54
abbrev GR:Stmt:=top 55
abbrev Br:Stmt:=top 56
abbrev GX:Stmt:=top 57
abbrev sX:Stmt:=top 58
abbrev Bo:Stmt:=top 59
abbrev yj:Stmt:=top 60
abbrev Bq:Stmt:=top 61
abbrev Gz:Stmt:=top 62
abbrev Bp:Stmt:=top 63
abbrev vK:Stmt:=top 64
abbrev qw:Stmt:=top 65
abbrev tG:Stmt:=top 67
abbrev vL:Stmt:=top 68
abbrev ym:Stmt:=top 69
abbrev qz:Stmt:=top 70
abbrev tD:Stmt:=top 71
abbrev sY:Stmt:=top 72
abbrev vP:Stmt:=top 73
abbrev uI:Stmt:=top 74
abbrev sZ:Stmt:=top 75
abbrev qx:Stmt:=top 76
abbrev uJ:Stmt:=top 77
abbrev qC:Stmt:=top 78
abbrev qy:Stmt:=top 79
abbrev mJ:Stmt:=top 80
abbrev nu:Stmt:=top 81
abbrev yl:Stmt:=top 82
abbrev tE:Stmt:=top 83
abbrev tu:Stmt:=top 84
abbrev vQ:Stmt:=top 85
abbrev nT:Stmt:=top 86
abbrev vM:Stmt:=top 87
abbrev P0:Stmt:=top 88
structure Hh(P:AN)(w:AQ)(K:aK)(mg:As)(base:Heap)(n:Nat)(f:AJ)(fd:AM)(ps:AI)(sp:Sp):Prop where
 g:vI P w K mg base (G.Kc P w) n f fd ps sp
 b:Binds K fd ps []
 k:W.keepIn K (.ref f)=true
theorem hh{P:AN}{w:AQ}{K:aK}{mg:As}{base:Heap}{n:Nat}{f:AJ}{fd:AM}{ps:AI}{sp:Sp}(g:vI P w K mg base (G.Kc P w) n f fd ps sp)(b:Binds K fd ps [])(k:W.keepIn K (.ref f)=true):ι n f fd ps sp:=⟨g,b,k⟩
abbrev qm(P:AN)(w:AQ)(K:aK)(mg:As)(base:Heap)(n:Nat)(f:AJ)(fd:AM)(ps:AI)(sp:Sp):Prop:=vI P w K mg base (G.Kc P w) n f fd ps sp
theorem nM{X:Cx}{n k:Nat}{f:AJ}{fd:AM}{ps:AI}{sp:Sp}{x:Str}{e:AO}{es:AH}{t:TA}{p pos:Pos}(g0:Hh X.prog X.w X.K X.mg X.base n f fd ps sp)(hr:Room k X.A)(hm:X.mg x=↑f)(ha:PA X (e::es) t)(hn:n<=k:=by decide)(hg:X.env.kindOf x=some .globalImplicit:=by rfl)(hdb:(x == ("__debug__":Str))=false:=by decide)(he:starEach (e::es) X.env=(false,eval e X.env)::starEach es X.env:=by rfl)(hpl:(backTo pos (starEach es X.env)).any (·.1)=false:=by rfl):PE X (.Call (.Name x p) (e::es) [] pos) (bW sp [] E0 t):=iy g0.g (hr.mono hn) hg hm g0.k g0.b .nil G.mL ha hdb he hpl
theorem gJ{N P:AI}{sc:Scope}(a:sc.kind=.function:=by rfl)(b:sc.isCoroutine=false:=by rfl)(c:sc.isGenerator=false:=by rfl)(d:N.Nodup:=by decide +kernel)(e:N.take P.length=P:=by rfl)(f:∀x∈P,sc.names.lookup x=some .local\/sc.names.lookup x=some .cell:=by decide +kernel)(g:∀y∈sc.names,y.2≠.free:=by decide +kernel):bN N P sc:=⟨a,b,c,d,e,f,g⟩
structure Txt(w:AQ)(K:aK)(mg:As)(bR cH cG bK aU bQ cW dX jN fX gW cL aq aF aD aC aY bA bz bh bf aZ aP aW aX aV bu jJ fW j8 jK iZ gr gP gO dG gq j9 dj oK jY d9 di j7 kj jC kE iY kJ fG jz iG jB j6 jA gD eE d8 gF iH eN fK fH gH fZ d7 eF f9 eO eG cY dB gM fL fJ gn dI gG:AJ):Prop where
 Pn:G.Zn4 K w mg "FORMS" [("make",.ref aY),("get",.ref bA),("put",.ref bz),("copy",.ref bh),("drop",.ref bf),("give",.ref aZ),("write",.ref aP),("read",.ref aW),("name",.ref aX),("seek",.ref aV)]
 Am:G.qd K aY [.str "hand",.str "slot",.str "many",.str "bulk"]
 Dl:G.qd K bA [.str "hand",.str "slot",.str "slot",.str "field"]
 Dk:G.qd K bz [.str "hand",.str "slot",.str "field",.str "slot"]
 Aq:G.qd K bh [.str "hand",.str "slot",.str "slot"]
 Ao:G.qd K bf [.str "hand",.str "slot"]
 An:G.qd K aZ [.str "hand",.str "slot",.str "hand",.str "slot"]
 ye:G.qd K aP [.str "hand",.str "slot",.str "load"]
 Aj:G.qd K aW [.str "hand",.str "slot"]
 Ak:G.qd K aX [.str "hand",.str "slot",.str "word"]
 Ai:G.qd K aV [.str "hand",.str "slot",.str "word"]
 Gg:G.Zn4 K w mg "MOST" [("slot",.int 999),("field",.int 999),("many",.int 8),("bulk",.int 1000000000000)]
 Zbi:Y7 K bR
 Zfu:mg "First"=↑bR
 Vr:G.Mk0 K bR
 Zgl:Y7 K cH
 Zkx:mg "Each"=↑cH
 Za6:G.Mk0 K cH
 Zgk:Y7 K cG
 Zku:mg "Last"=↑cG
 Za5:G.Mk0 K cG
 lB:Y7 K bK
 Zkv:mg "Kind"=↑bK
 M8:Mk K bK dG
 gm:jD K bK "looking"
 gk:jD K bK "tells"
 qb:Y7 K aU
 Zft:mg "Scene"=↑aU
 DQ:Mk K aU dj
 rW:jD K aU "room"
 rY:jD K aU "kind"
 pK:jD K aU "hands"
 rT:jD K aU "rows"
 yQ:mg "GreyError"=↑bQ
 JP:mg "EmptySlot"=↑cW
 Vy:mg "NoField"=↑dX
 Zkw:mg "Full"=↑jN
 Za9:mg "NoName"=↑fX
 Zfs:mg "Sound"=↑gW
 JN:mg "TextError"=↑cL
 uc:mg "BadRow"=↑aq
 M9:mg "Twice"=↑aF
 Ed:mg "NoHand"=↑aD
 Ec:mg "NoSlot"=↑aC
 nH:G.Wj K aq bu
 lR:G.Fj K aq "row"
 uZ:W.findIn K (.ref aq) "row"=some none
 u9:G.Wj K aD bu
 sI:G.Fj K aD "row"
 uY:W.findIn K (.ref aD) "row"=some none
 u6:G.Wj K aC bu
 sH:G.Fj K aC "row"
 uX:W.findIn K (.ref aC) "row"=some none
 xY:G.Wj K aF bu
 uW:G.Fj K aF "row"
 xW:W.findIn K (.ref aF) "row"=some none
 CZ:G.XBase K bQ
 m7:W.exmOne K (.ref aq) (.ref aq)=some true
 m6:W.exmOne K (.ref aD) (.ref aD)=some true
 m5:W.exmOne K (.ref aC) (.ref aC)=some true
 jW:W.exmOne K (.ref aq) (.ref cL)=some true
 lz:W.exmOne K (.ref aF) (.ref cL)=some true
 jV:W.exmOne K (.ref aD) (.ref cL)=some true
 jU:W.exmOne K (.ref aC) (.ref cL)=some true
 pM:W.exmOne K (.ref aF) (.ref aF)=some true
 lZ:W.exmOne K (.ref aD) (.ref aq)=some false
 mZ:W.exmOne K (.ref aD) (.ref aF)=some false
 lY:W.exmOne K (.ref aC) (.ref aq)=some false
 lX:W.exmOne K (.ref aC) (.ref aD)=some false
 mY:W.exmOne K (.ref aC) (.ref aF)=some false
 mX:W.exmOne K (.ref aF) (.ref aq)=some false
 exc:G.Y5 K [aq,aD,aC,aF]
 xR:Meth K cL "__init__" bu
 HJ:mg "made_of"=↑jJ
 pX:mg "number_of"=↑fW
 Vu:mg "load_of"=↑j8
 HN:mg "is_word"=↑jK
 Cj:mg "forms_of"=↑iZ
 Ax:Meth K bR "word" gr
 DX:Meth K cH "word" gP
 DW:Meth K cG "word" gO
 HH:Meth K bK "__init__" dG
 Aw:Meth K bK "words" gq
 Vv:mg "kind_of"=↑j9
 DR:Meth K aU "__init__" dj
 Xm:mg "read"=↑oK
 yK:mg "row_at"=↑jY
 j5:mg "well_formed"=↑d9
 mq:mg "number_between"=↑di
 Vt:mg "room_in"=↑j7
 Vw:mg "kind_in"=↑kj
 Qp:mg "hands_of"=↑jC
 HQ:mg "hand_of"=↑kE
 Cg:mg "names_of"=↑iY
 Vx:mg "hand_in"=↑kJ
 yL:mg "is_hand_name"=↑fG
 Qm:mg "weave_of"=↑jz
 JL:mg "weave_row"=↑iG
 Qo:mg "sweep_in"=↑jB
 Vs:mg "told_in"=↑j6
 Qn:mg "value_of"=↑jA
 DY:mg "with_hands"=↑gD
 xu:mg "look_at_slots"=↑eE
 gK:mg "_law_cell_at"=↑d8
 Ea:mg "_law_whole"=↑gF
 JM:mg "_law_safe"=↑iH
 xG:mg "_law_hands_by"=↑eN
 yO:mg "_law_kind_by"=↑fK
 yM:mg "_law_word_by"=↑fH
 oG:mg "_law_large"=↑gH
 Ay:mg "_law_row_by"=↑fZ
 t7:mg "_law_text_of"=↑d7
 xx:mg "_law_stranger"=↑eF
 Az:mg "_law_beyond"=↑f9
 qY:mg "_law_formless"=↑eO
 xF:mg "_law_slotless"=↑eG
 rE:mg "_law_weave_spoilt"=↑cY
 t8:mg "_law_head_spoilt"=↑dB
 pY:mg "_law_told"=↑gM
 yP:mg "_law_classes"=↑fL
 yN:mg "_law_rows_by"=↑fJ
 mz:mg "_law_asked"=↑gn
 uy:mg "_law_empty_rows"=↑dI
 Eb:mg "_law_sixth"=↑gG
 rJ:mg "ValueError"=none
 Zf8:mg "all"=none
 Wl:mg "bool"=none
 uq:mg "enumerate"=none
 Ul:mg "int"=none
 dm:mg "isinstance"=none
 iC:mg "len"=none
 Nu:mg "list"=none
 Zf7:mg "max"=none
 mU:mg "range"=none
 xV:mg "str"=none
 MK:mg "tuple"=none
 Uk:mg "zip"=none
 V9:G.GC mg "FIGURES" (.str "0123456789")
 rZ:G.GC mg "FIRST_HAND" (.int 3)
 Ey:G.GC mg "LEAST_ROOM" (.int 4)
 Bd:G.GC mg "LEAST_SLOTS" (.int 3)
 Bc:G.GC mg "LEAST_STEPS" (.int 1)
 V8:G.GC mg "LETTERS" (.str "abcdefghijklmnopqrstuvwxyz")
 yV:G.GC mg "MOST_FIGURES" (.int 60)
 Ew:G.GC mg "MOST_HANDS" (.int 5)
 yU:G.GC mg "MOST_LETTERS" (.int 12)
 J1:G.GC mg "MOST_ROOM" (.int 1000000000000000)
 J0:G.GC mg "MOST_ROWS" (.int 400)
 Eu:G.GC mg "MOST_SLOTS" (.int 9)
 Et:G.GC mg "MOST_STEPS" (.int 9999)
 Zqo:G.GC mg "NEW" (.int 2)
 Zqn:G.GC mg "OLD" (.int 1)
 Nh:G.GC mg "SWEEP" (.str "sweep")
 kq:KQ (W.kitOne K) aq aF aD aC bQ cW dX jN fX gW
abbrev dw:AI:=["self","row"]
abbrev zF:AI:=["text","signs","most"]
abbrev pW:AI:=["text","most"]
abbrev qT:AI:=["self","looking","tells"]
abbrev pA:AI:=["self","room","kind","hands","rows"]
abbrev yG:AI:=["rows","number"]
abbrev mR:AI:=["found","number"]
abbrev jH:AI:=["text","least","most"]
abbrev Ho:AI:=["rows","number","earlier"]
abbrev BX:AI:=["rows","first","hands"]
abbrev yF:AI:=["parts","number","hands"]
abbrev BZ:AI:=["form","text"]
abbrev wG:AI:=["forms","told","number","hands"]
abbrev qM:AI:=["forms","values","number","hands"]
abbrev oE:AI:=["_law_script","_law_k"]
abbrev wH:AI:=["_law_found"]
abbrev yH:AI:=["_law_name"]
abbrev qQ:AI:=["_law_way","_law_cell"]
abbrev tX:AI:=["_law_cell"]
abbrev tV:AI:=["_law_cell","_law_way"]
abbrev wJ:AI:=["_law_cell","_law_way","_law_most"]
abbrev uR:AI:=["_law_cell","_law_k","_law_hands"]
abbrev oh:AI:=["_law_row","_law_hands"]
abbrev qO:AI:=["_law_hands","_law_cell"]
abbrev uT:AI:=["_law_row","_law_k","_law_cell"]
abbrev qR:AI:=["_law_row","_law_words","_law_way","_law_cell"]
abbrev qP:AI:=["_law_row","_law_hands","_law_way"]
abbrev mO:AI:=["_law_row","_law_hands","_law_way","_law_cell"]
abbrev nF:AI:=["_law_hands","_law_way","_law_at"]
abbrev ux:AI:=["_law_text"]
abbrev tY:AI:=["_law_text"]
abbrev tW:AI:=["_law_script","_law_hands"]
abbrev rR:AI:=["_law_rows","_law_dues"]
abbrev ou:AI:=["_law_rows","_law_head","_law_cell"]
abbrev wI:AI:=["_law_cell"]
theorem xO:bN ["self","row"] dw (aR lF):=gJ
theorem Zcy:bN ["text","signs","most"] zF (aR GF):=gJ
theorem WM:bN ["text","most","number"] pW (aR uv):=gJ
theorem Zcz:bN ["text","number"] ["text"] (aR GJ):=gJ
theorem Zd2:bN ["text"] ["text"] (aR GQ):=gJ
theorem ZV:bN ["word"] ["word"] (aR Bt):=gJ
theorem R1:bN ["self"] ["self"] (aR vU):=gJ
theorem WX:bN ["self"] ["self"] (aR yp):=gJ
theorem WW:bN ["self"] ["self"] (aR yo):=gJ
theorem Gy:bN ["self","looking","tells"] qT (aR qD):=gJ
theorem R0:bN ["self","text"] ["self"] (aR vR):=gJ
theorem Zd0:bN ["text","looking","tells","kind"] ["text"] (aR GK):=gJ
theorem Dr:bN ["self","room","kind","hands","rows"] pA (aR oW):=gJ
theorem Znm:bN ["text","rows","room","kind","hands","first"] ["text"] (aR Zd5):=gJ
theorem Zhh:bN ["rows","number"] yG (aR PX):=gJ
theorem PJ:bN ["found","number"] mR (aR uH):=gJ
theorem Dp:bN ["text","least","most","number"] jH (aR oV):=gJ
theorem Zcx:bN ["row","parts"] ["row"] (aR GD):=gJ
theorem Zd1:bN ["row","parts"] ["row"] (aR GP):=gJ
theorem ZS:bN ["rows","hands","number"] ["rows"] (aR Bs):=gJ
theorem Zd3:bN ["rows","number","earlier","hand"] Ho (aR GR):=gJ
theorem ZR:bN ["hands"] ["hands"] (aR Br):=gJ
theorem Zd4:bN ["row","parts","many"] ["row"] (aR GX):=gJ
theorem K1:bN ["text"] ["text"] (aR sX):=gJ
theorem ZM:bN ["rows","first","hands","weave","number"] BX (aR Bo):=gJ
theorem WL:bN ["parts","number","hands","told","forms","values"] yF (aR yj):=gJ
theorem ZQ:bN ["parts","steps"] ["parts"] (aR Bq):=gJ
theorem Zcw:bN ["parts","forms","texts","told"] ["parts"] (aR Gz):=gJ
theorem ZP:bN ["form","text"] BZ (aR Bp):=gJ
theorem RT:bN ["forms","told","number","hands","names","values","form","value"] wG (aR vK):=gJ
theorem Gs:bN ["forms","values","number","hands","owner","form","value"] qM (aR qw):=gJ
theorem K8:bN ["_law_script","_law_k"] oE (aR tG):=gJ
theorem RV:bN ["_law_found"] wH (aR vL):=gJ
theorem WR:bN ["_law_name"] yH (aR ym):=gJ
theorem Gw:bN ["_law_way","_law_cell","_law_letters","_law_size","_law_hands","_law_h","_law_name","_law_k","_law_far"] qQ (aR qz):=gJ
theorem K6:bN ["_law_cell","_law_words"] tX (aR tD):=gJ
theorem K3:bN ["_law_cell","_law_way","_law_letters","_law_text","_law_k"] tV (aR sY):=gJ
theorem RX:bN ["_law_cell","_law_way","_law_most"] wJ (aR vP):=gJ
theorem PK:bN ["_law_cell","_law_k","_law_hands","_law_way","_law_other","_law_h","_law_g","_law_s","_law_t","_law_f","_law_load","_law_word"] uR (aR uI):=gJ
theorem K4:bN ["_law_row","_law_hands","_law_text","_law_k","_law_part"] oh (aR sZ):=gJ
theorem Gu:bN ["_law_hands","_law_cell","_law_names","_law_near","_law_text"] qO (aR qx):=gJ
theorem PN:bN ["_law_row","_law_k","_law_cell","_law_part"] uT (aR uJ):=gJ
theorem Gx:bN ["_law_row","_law_words","_law_way","_law_cell","_law_k","_law_text","_law_kind"] qR (aR qC):=gJ
theorem Gv:bN ["_law_row","_law_hands","_law_way","_law_k","_law_owner","_law_slot"] qP (aR qy):=gJ
theorem yh:bN ["_law_row","_law_hands","_law_way","_law_cell","_law_bits","_law_due","_law_words","_law_at","_law_name"] mO (aR mJ):=gJ
theorem zT:bN ["_law_hands","_law_way","_law_at","_law_some","_law_name","_law_tail"] nF (aR nu):=gJ
theorem WN:bN ["_law_text","_law_told_here","e"] ux (aR yl):=gJ
theorem K7:bN ["_law_text","_law_told_here","e"] tY (aR tE):=gJ
theorem K5:bN ["_law_script","_law_hands","_law_room","_law_rows","_law_name","_law_many"] tW (aR tu):=gJ
theorem RZ:bN ["_law_rows","_law_dues","_law_due","_law_k","_law_text","_law_told_here","_law_name","_law_own"] rR (aR vQ):=gJ
theorem Bm:bN ["_law_rows","_law_head","_law_cell","_law_at"] ou (aR nT):=gJ
theorem RW:bN ["_law_cell","_law_letters","_law_rows","_law_h"] wI (aR vM):=gJ
theorem Zri:bN ["_law_script","_law_way","_law_hands","_law_rows","_law_head","_law_k","_law_cell","_law_weave","_law_dues","_law_at","_law_turn","_law_due","_law_text"] ["_law_script"] (aR P0):=gJ
theorem lN{K:aK}{a b c d:AJ}(h:Y5 K [a,c,d,b]):Y5 K [a,b,c,d]:=λx hx=>h x (by
 simp only[List.mem_cons,List.not_mem_nil,or_false]at hx ⊢;rcases hx with h | h | h | h<;>simp[h])
section
variable {X:Cx}
theorem jx{a b:AO}{ta tb:TE}{pos:Pos}{r:R2}(hr:IxR X r)(ha:PE X a ta)(hb:PE X b tb)(hs:Nt b:=by exact λ_ _=>rfl):PE X (.Subscript a b pos) (aN r ta tb):=Zkb hr ha hb hs
theorem pdg{o i:AO}{td ty:TE}{pos:Pos}{k:Nat}(hr:Room k X.A)(ho:PE X o td)(hi:PE X i ty)(hs:Zq4 i:=by exact λ_ _=>rfl):PE X (.Subscript o i pos) (Zff td ty):=Zo8 (VM hr) ho hi hs
theorem iu{a b:AO}{ta tb:TE}{pos:Pos}{op:CmpOp}{r:R2}(ho:wZ X (compareOp op) r)(ha:PE X a ta)(hb:PE X b tb)(hm:behindInMarks op b=false:=by exact wL _):PT X (.Compare a [op] [b] pos) (bJ (aN r ta tb)):=Znw ho ha hb hm
theorem gA(i:Nat){x:Str}{e:AO}{te:TE}{pos' pos:Pos}(hN:X.N.Nodup)(he:PE X e te)(hi:X.N[i]? =some x:=by rfl)(hx:Loc X.env.scope x:=by exact Or.inl rfl)(hs:swapsWith e (some (.Name x pos')) pos.line X.env=pure false:=by rfl)(hf:X.fn x=true\/X.env.scope.names.lookup x=some .local:=by first | exact .inl rfl | exact .inr rfl | assumption):PS X (.Assign [.Name x pos'] e pos) (bO te (aO i)):=W5 hN hi hx he hs hf
end
structure PAw(X:Cx)(es:AH)(t:TA):Prop where
 h:PA X es t
structure PSw(X:Cx)(st:List Stmt)(t:TS):Prop where
 h:Rh X st t
structure PPw(X:Cx)(pos:Pos)(keys:List (Option AO))(values:AH)(trs:List (TE×TE)):Prop where
 h:PPs X pos keys values trs
structure PEw(X:Cx)(e:AO)(t:TE):Prop where
 h:PE X e t
section
variable {X:Cx}
theorem zE:PAw X [] aM:=⟨aA⟩
theorem cI{e es te t}(ha:PE X e te)(hr:PAw X es t)(hs:starEach (e::es) X.env=(false,eval e X.env)::starEach es X.env:=by rfl):PAw X (e::es) (aj te t):=⟨aa ha hr.h hs⟩
theorem Zo9{b es fs tb t u p q}(h:PAw X es t)(hb:PE X b tb)(hp:Nt b)(hr:PAw X fs u)(hs:starEach (.Subscript (.List es p) b q::fs) X.env=(false,eval (.Subscript (.List es p) b q) X.env)::starEach fs X.env:=by rfl):PAw X (.Subscript (.List es p) b q::fs) (aj (aN (fM X.K) (gY t) tb) u):=⟨aa (Zkb cF (dU h.h) hb hp) hr.h hs⟩
theorem Dy:PSw X [] bV:=⟨bG⟩
theorem dD{st rest t u}(h1:PS X st t)(h2:PSw X rest u):PSw X (st::rest) (bw t u):=⟨aB h1 h2.h⟩
theorem uw{st t}(h1:PS X st t):PSw X [st] t:=⟨aJ h1⟩
theorem Qf{c a b tc t u rest v pos}(hc:PT X c tc)(ha:PSw X a t)(hb:PSw X b u)(h2:PSw X rest v):PSw X (.If c a b pos::rest) (bw (cZ tc t u) v):=⟨aB (cJ hc ha.h hb.h) h2.h⟩
theorem Zjz{es t x1 p pos}(h:PAw X es t):PSw X [.Return (some (.Tuple es x1 p)) pos] (cC (fU t)):=⟨aJ (bB (dZ h.h))⟩
theorem W4{i:Nat}{x:Str}{es t p pos' pos rest u}(hN:X.N.Nodup)(hi:X.N[i]? =some x)(hx:Loc X.env.scope x)(h:PAw X es t)(h2:PSw X rest u)(hf:X.fn x=true\/X.env.scope.names.lookup x=some .local:=by first | exact .inl rfl | exact .inr rfl | assumption):PSw X (.Assign [.Name x pos'] (.List es p) pos::rest) (bw (bO (gY t) (aO i)) u):=⟨aB (W5 hN hi hx (dU h.h) rfl hf) h2.h⟩
theorem Znx{i:Nat}{x:Str}{es t b tb p q pos' pos rest u}(hN:X.N.Nodup)(hi:X.N[i]? =some x)(hx:Loc X.env.scope x)(h:PAw X es t)(hb:PE X b tb)(hp:Nt b)(h2:PSw X rest u)(hs:swapsWith (.Subscript (.List es p) b q) (some (.Name x pos')) pos.line X.env=pure false:=by rfl)(hf:X.fn x=true\/X.env.scope.names.lookup x=some .local:=by first | exact .inl rfl | exact .inr rfl | assumption):PSw X (.Assign [.Name x pos'] (.Subscript (.List es p) b q) pos::rest) (bw (bO (aN (fM X.K) (gY t) tb) (aO i)) u):=⟨aB (W5 hN hi hx (Zkb cF (dU h.h) hb hp) hs hf) h2.h⟩
end
open PySem.Spec PyProof.Rows in
theorem ZF4{P:AN}{w:AQ}{K:aK}{mg:As}{base:Heap}{x qual:Str}{st:Stmt}{f:AJ}{fd:AM}{N ps:AI}{sp:Sp}{k:Nat}(F:nj K x qual st f fd)(S:bN N ps (aR st))(len:∀vs H Q E,sp vs H Q E->vs.length=ps.length)
  (hbody:∀(cdv:AK) (A:Around) (outer:List Env) (s:AL) (H:Hp) (vs:List V) (Q:VK) (E:XK),Room k (A.deeper (envOfC qual (aR st) s.heap.objs.size f cdv))->sp vs H Q E->
   ∃t,PSw (Jo (Kc P w) P w K mg base N qual (aR st) f cdv A outer s H E).nox (je st) t/\t { nx:=λ_ H'=>Q .non H',rt:=Q } (start N vs) H):vI P w K mg base (Kc P w) (k+1) f fd ps sp:=
 G.fok F S len λcdv A outer s H vs Q E hr h=>let ⟨t,p,q⟩:=hbody cdv A outer s H vs Q E hr h;⟨t,p.h,q⟩
local macro_rules | `(tactic| walk_at"k")=>`(tactic| (first | (obtain ⟨_,rfl,_⟩:=h;rfl) | (obtain ⟨_,_,rfl,_⟩:=h;rfl) | (obtain ⟨_,_,_,rfl,_⟩:=h;rfl) | (obtain ⟨_,_,_,_,rfl,_⟩:=h;rfl) | (obtain ⟨_,_,_,_,_,rfl,_⟩:=h;rfl) | (obtain ⟨_,_,_,_,_,_,rfl,_⟩:=h;rfl) | (obtain ⟨_,_,_,_,_,_,_,rfl,_⟩:=h;rfl)))
local macro_rules | `(tactic| walk_at "ok")=>`(tactic| (refine G.fok F sc (λvs H Q E h=>?_) (λcdv A outer s H vs Q E hr h=>?_);· (walk_at"k")))
local macro_rules | `(tactic| walk_at "okw")=>`(tactic| (refine ZF4 F sc (λvs H Q E h=>?_) (λcdv A outer s H vs Q E hr h=>?_);· (walk_at"k")))
local macro_rules | `(tactic| walk_at "okX")=>`(tactic| (refine G.ZF5 F sc (λvs H Q E h=>?_) (λcdv A outer s H vs Q E hr h=>?_);· (walk_at"k")))
local macro_rules | `(tactic| walk_at "okD")=>`(tactic| (refine G.ZF6 F sc (λvs H Q E h=>?_) (λcdv A outer s H vs Q E hr h=>?_);· (walk_at"k")))
section
variable (P:AN){w:AQ}{K:aK}{mg:As}(base:Heap){bR cH cG bK aU bQ cW dX jN fX gW cL aq aF aD aC aY bA bz bh bf aZ aP aW aX aV bu jJ fW j8 jK iZ gr gP gO dG gq j9 dj oK jY d9 di j7 kj jC kE iY kJ fG jz iG jB j6 jA gD eE d8 gF iH eN fK fH gH fZ d7 eF f9 eO eG cY dB gM fL fJ gn dI gG:AJ}(T:Txt w K mg bR cH cG bK aU bQ cW dX jN fX gW cL aq aF aD aC aY bA bz bh bf aZ aP aW aX aV bu jJ fW j8 jK iZ gr gP gO dG gq j9 dj oK jY d9 di j7 kj jC kE iY kJ fG jz iG jB j6 jA gD eE d8 gF iH eN fK fH gH fZ d7 eF f9 eO eG cY dB gM fL fJ gn dI gG)
include T
theorem tx0:Za K bK aU bh bf bA aZ aY aX bz aW aV aP aq aF aD aC:=⟨T.Aq,T.Ao,T.Dl,T.An,T.Am,T.Ak,T.Dk,T.Aj,T.Ai,T.ye,T.nH.xo,T.lR,⟨T.exc _ ζ,T.uZ⟩,T.xY.xo,T.uW,⟨T.exc _ ζ,T.xW⟩,T.u9.xo,T.sI,⟨T.exc _ ζ,T.uY⟩,T.u6.xo,T.sH,⟨T.exc _ ζ,T.uX⟩,T.lB,T.gm,T.gk,T.qb,T.rW,T.rY,T.pK,T.rT⟩
theorem xP{fd:AM}(F:nj K "__init__" "TextError.__init__" lF bu fd):μ 1 bu fd dw (jb K):=by
 have sc:=xO;walk_at "ok"
 ·refine⟨kY K,(aB (lW (G.Zke rfl T.yQ T.CZ (aa Θ (aa (G.Zuk (G.PL.cons (aH) (G.PL.cons (G.Zrs Ω) G.PL.nil))) aA))))
   (aJ (G.Zny Θ Ω rfl))),?_⟩
  obtain⟨z0,z1,rfl,q⟩:=h;exact xT q
theorem Zdj{fd:AM}(F:nj K "made_of" "made_of" GF jJ fd):μ 1 jJ fd zF (CJ):=by
 have sc:=Zcy;walk_at "ok"
 ·refine⟨vW K,(aJ (bB ((Zdf (Zkd Zqf Zqf (au) (bY G.Wd η T.iC G.boot_len (aa Θ aA)) (pv 2)) (Zde (bY (G.Zmu rfl) η T.Zf8 G.boot_all (aa (G.Zqe (cns:=["signs"]) [1] (G.Zrq Θ) (λ_ _ _ _ _=>G.BW) (λ_ _ _ _ _=>(rQ G.Zrx Θ Ω (by with_unfolding_all rfl))) rfl rfl (by repeat (first | exact trivial | refine⟨rfl,?_⟩)) (by repeat (first | exact trivial | refine⟨rfl,?_⟩)) rfl γ rfl γ γ rfl γ) aA))))))),?_⟩;obtain⟨z0,z1,z2,rfl,q⟩:=h;exact Zdu q
theorem Xb{fd:AM}(F:G.Zu8 K "number_of" "number_of" uv fW fd){Cu:AM}(Jw:ι 1 jJ Cu zF (CJ)):μ 2 fW fd pW (Bf):=by
 have sc:=WM;walk_at "okD"
 ·refine⟨rO K (CJ),(aB (cJ (yE (tR (nM Jw hr T.HJ (aa Θ (aa (T.V9.pe rfl) (aa (T.yV.pe rfl) aA)))))) (aJ (bB (iw))) bG)
   (aB (cJ (PW.pt (lg (tR (iW PySem.F.plainAttrs_str PySem.F.slot_str_startswith PySem.F.type_str_startswith G.Av Θ (aa (aH) aA))) (jk (iu oF Θ (aH))))) (aJ (bB (iw))) bG)
   (aB (gA 2 sc.nd (ji G.Zih η T.Ul G.boot_int (aa Θ aA)))
   (aB (cJ (PW.pt (lg (iu G.Zkg Ω (iw)) (jk (iu Vo (pv 2) Ω)))) (aJ (bB (iw))) bG)
   (aJ (bB (pv 2))))))),?_⟩
  obtain⟨z0,z1,rfl,q⟩:=h;exact Xi q
theorem Zdk{fd:AM}(F:nj K "load_of" "load_of" GJ j8 fd){mC:AM}(jP:ι 2 fW mC pW (Bf)){zb:AE}(zg:Binds K mC ["text","most"] zb)(yS:Vals [.non] zb):μ 3 j8 fd ["text"] (YW):=by
 have sc:=Zcz;walk_at "ok"
 ·refine⟨vX K (Bf),(aB (cJ (yE (tR (iW PySem.F.plainAttrs_str PySem.F.slot_str_startswith PySem.F.type_str_startswith G.Av Θ (aa (aH) aA)))) (aJ (bB (iy jP.g (hr.mono ε) rfl T.pX jP.k zg yS G.mL (aa Θ aA)))) bG)
   (aB (gA 1 sc.nd (iy jP.g (hr.mono ε) rfl T.pX jP.k zg yS G.mL (aa (ie G.Pz Θ (jm (au)) jR) aA)))
   (aB (cJ (PW.pt (Ar (iu G.zG Ω (iw)) (wB (iu dz Ω (au))))) (aJ (bB (iw))) bG)
   (aJ (bB (Zuj Zr5 Ω)))))),?_⟩
  obtain⟨z0,rfl,q⟩:=h;exact Zdv q
theorem Zdn{fd:AM}(F:nj K "is_word" "is_word" GQ jK fd){Cu:AM}(Jw:ι 1 jJ Cu zF (CJ)):μ 2 jK fd ["text"] (CG):=by
 have sc:=Zd2;walk_at "ok"
 ·refine⟨By (CJ),(aJ (bB (nM Jw hr T.HJ (aa Θ (aa (T.V8.pe rfl) (aa (T.yU.pe rfl) aA)))))),?_⟩;obtain⟨z0,rfl,q⟩:=h;exact Ze5 q
theorem Za2{fd:AM}(F:nj K "forms_of" "forms_of" Bt iZ fd):μ 1 iZ fd ["word"] (wX K):=by
 have sc:=ZV;have tx:=tx0 T;walk_at "ok"
 ·refine⟨yD bh bf bA aZ aY aX bz aW aV aP,(aJ (bB (G.Zo7 T.Pn rfl Θ ⟨rfl,rfl,rfl,rfl⟩))),?_⟩;obtain⟨z0,rfl,q⟩:=h;exact Zb3 tx q
theorem Sg{fd:AM}(F:nj K "word" "First.word" vU gr fd):μ 1 gr fd ["self"] (rA (.str "first")):=by
 have sc:=R1;walk_at "ok"
 ·refine⟨uP,(aJ (bB (aH))),?_⟩;obtain⟨z0,rfl,q⟩:=h;exact Ui q
theorem Xf{fd:AM}(F:nj K "word" "Each.word" yp gP fd):μ 1 gP fd ["self"] (rA (.str "each")):=by
 have sc:=WX;walk_at "ok"
 ·refine⟨wz,(aJ (bB (aH))),?_⟩;obtain⟨z0,rfl,q⟩:=h;exact Y6 q
theorem Xe{fd:AM}(F:nj K "word" "Last.word" yo gO fd):μ 1 gO fd ["self"] (rA (.str "last")):=by
 have sc:=WW;walk_at "ok"
 ·refine⟨wu,(aJ (bB (aH))),?_⟩;obtain⟨z0,rfl,q⟩:=h;exact YZ q
theorem Hz{fd:AM}(F:nj K "__init__" "Kind.__init__" qD dG fd):μ 1 dG fd qT (uD bK):=by
 have sc:=Gy;have tx:=tx0 T;walk_at "ok"
 ·refine⟨o8 K,(aB (Hi Θ Ω rfl)
   (aJ (Hi Θ (pv 2) rfl))),?_⟩
  obtain⟨z0,z1,z2,rfl,q⟩:=h;exact Jv tx q
theorem Sd{fd:AM}{Yt T6 Ys:AM}(F:nj K "words" "Kind.words" vR gq fd)(Ka:ι 1 gP Yt ["self"] (rA (.str "each")))(FQ:ι 1 gr T6 ["self"] (rA (.str "first")))(J9:ι 1 gO Ys ["self"] (rA (.str "last"))):μ 2 gq fd ["self"] (Nj bK bR cH cG):=by
 have sc:=R0;have tx:=tx0 T;walk_at "ok"
 ·refine⟨uO K cH bR cG (rA (.str "each")) (rA (.str "first")) (rA (.str "last")),(aB (gA 1 sc.nd (G.Zfm (Dz (Hl Θ rfl) T.Zbi T.Ax FQ.g (hr.mono ε) FQ.b .nil G.mL) (G.Zfm (Dz (Hl Θ rfl) T.Zgl T.DX Ka.g (hr.mono ε) Ka.b .nil G.mL) (Dz (Hl Θ rfl) T.Zgk T.DW J9.g (hr.mono ε) J9.b .nil G.mL))))
   (aB (cJ (iu oF (aL Qh (Hl Θ rfl) (T.Zqn.pe rfl)) (au)) (aJ (gA 1 sc.nd (aL bM Ω (aH)))) bG)
   (aB (cJ (iu oF (aL Qh (Hl Θ rfl) (T.Zqo.pe rfl)) (au)) (aJ (gA 1 sc.nd (aL bM Ω (aH)))) bG)
   (aJ (bB Ω))))),?_⟩
  obtain⟨z0,rfl,q⟩:=h;exact Ue tx q
theorem Zdl{fd:AM}{Jm T5:AM}(F:nj K "kind_of" "kind_of" GK j9 fd)(xM:ι 1 dG Jm qT (uD bK))(FP:ι 2 gq T5 ["self"] (Nj bK bR cH cG)):μ 3 j9 fd ["text"] (zO bK bR cH cG):=by
 have sc:=Zd0;have tx:=tx0 T;walk_at "ok"
 ·refine⟨Bw K cH bR bK cG (uD bK) (Nj bK bR cH cG),(aB (nY PassesOwn.never rfl (wD (dU (aa (G.Hj T.Vr rfl T.Zfu) (aa (G.Hj T.Za6 rfl T.Zkx) (aa (G.Hj T.Za5 rfl T.Zku) aA))))) (fj (i:=1) sc.nd rfl (Or.inl rfl))
   (aJ (nY PassesOwn.never rfl (pq rfl T.mU (aa (au) aA)) (fj (i:=2) sc.nd rfl (Or.inl rfl))
   (aB (gA 3 sc.nd (Zfl T.M8 xM.g (hr.mono ε) rfl T.Zkv xM.b .nil G.mL (aa Ω (aa (pv 2) aA))))
   (aJ (cJ (iu dz (Dz (pv 3) T.lB T.Aw FP.g (hr.mono ε) FP.b .nil G.mL) Θ) (aJ (bB (pv 3))) bG))))))
   (aJ (bB (iw)))),?_⟩
  obtain⟨z0,rfl,q⟩:=h;exact Ze3 tx q
theorem DN{fd:AM}(F:nj K "__init__" "Scene.__init__" oW dj fd):μ 1 dj fd pA (su aU):=by
 have sc:=Dr;have tx:=tx0 T;walk_at "ok"
 ·refine⟨nW K,(aB (Hi Θ Ω rfl)
   (aB (Hi Θ (pv 2) rfl)
   (aB (Hi Θ (ji G.Q7 η T.Nu G.boot_list (aa (pv 3) aA)) rfl)
   (aJ (Hi Θ (ji G.Q7 η T.Nu G.boot_list (aa (pv 4) aA)) rfl))))),?_⟩
  obtain⟨z0,z1,z2,z3,z4,rfl,q⟩:=h;exact Fp tx q
theorem Zoh{fd:AM}{Fb Zb8 Zes Zep vq Zb5 lM:AM}(F:nj K "read" "read" Zd5 oK fd)(vH:ι 1 dj Fb pA (su aU))(CQ:ι 6 jC Zb8 ["rows"] (zP aq aF aD aC))(Zio:ι 4 kj Zes ["row"] (Fx))(Zil:ι 4 j7 Zep ["row"] (YS))(ju:ι 3 jY vq yG (pO aq))(CN:ι 7 jz Zb5 BX (Nk aq aF aD aC))(cQ:ι 3 d9 lM mR (uV aq)):μ 8 oK fd ["text"] (rB aU aq aF aD aC):=by
 have sc:=Znm;walk_at "okX"
 ·refine⟨W0 K aU (su aU) (zP aq aF aD aC) (Fx) (YS) (pO aq) (Nk aq aF aD aC) (uV aq) E,(aB (gA 1 sc.nd (iW PySem.F.plainAttrs_str PySem.F.slot_str_split PySem.F.type_str_split G.vg Θ (aa (aH) aA)))
   (aB (gA 2 sc.nd (iy cQ.g (hr.mono ε) rfl T.j5 cQ.k cQ.b .nil G.rD (aa (nM Zil hr T.Vt (aa (iy ju.g (hr.mono ε) rfl T.yK ju.k ju.b .nil G.rD (aa Ω (aa (au) aA))) aA)) (aa (au) aA))))
   (aB (gA 3 sc.nd (iy cQ.g (hr.mono ε) rfl T.j5 cQ.k cQ.b .nil G.rD (aa (nM Zio hr T.Vw (aa (iy ju.g (hr.mono ε) rfl T.yK ju.k ju.b .nil G.rD (aa Ω (aa (au) aA))) aA)) (aa (au) aA))))
   (aB (gA 4 sc.nd (iy CQ.g (hr.mono ε) rfl T.Qp CQ.k CQ.b .nil G.rD (aa Ω aA)))
   (aB (gA 5 sc.nd (aL cU (aL cU (T.rZ.pe rfl) (bY G.cR η T.iC G.boot_len (aa (pv 4) aA))) (au)))
   (aJ (bB (Zfl T.DQ vH.g (hr.mono ε) rfl T.Zft vH.b .nil G.mL (aa (pv 2) (aa (pv 3) (aa (pv 4) (aa (iy CN.g (hr.mono ε) rfl T.Qm CN.k CN.b .nil G.rD (aa Ω (aa (pv 5) (aa (pv 4) aA)))) aA)))))))))))),?_⟩
  obtain⟨z0,rfl,q⟩:=h;exact Znt q
theorem Zhn{fd:AM}(F:nj K "row_at" "row_at" PX jY fd){cj:AM}(bH:ι 1 bu cj dw (jb K)):μ 3 jY fd yG (pO aq):=by
 have sc:=Zhh;have tx:=tx0 T;walk_at "okX"
 ·refine⟨GZ K aq (jb K) E,(aB (cJ (iu Vo Ω (bY G.cR η T.iC G.boot_len (aa Θ aA))) (aJ (G.o9 rfl rfl T.uc T.nH bH.g (hr.mono ε) bH.b G.mL (aa Ω aA) ai)) bG)
   (aJ (bB (jx cF Θ (aL qU Ω (au)))))),?_⟩
  obtain⟨z0,z1,rfl,q⟩:=h;exact Zhj tx q
theorem Qi{fd:AM}(F:nj K "well_formed" "well_formed" uH d9 fd){cj:AM}(bH:ι 1 bu cj dw (jb K)):μ 3 d9 fd mR (uV aq):=by
 have sc:=PJ;have tx:=tx0 T;walk_at "okX"
 ·refine⟨tK aq (jb K) E,(aB (cJ (iu G.zG Θ (iw)) (aJ (G.o9 rfl rfl T.uc T.nH bH.g (hr.mono ε) bH.b G.mL (aa Ω aA) ai)) bG)
   (aJ (bB Θ))),?_⟩
  obtain⟨z0,z1,rfl,q⟩:=h;exact O2 tx q
theorem DG{fd:AM}(F:nj K "number_between" "number_between" oV di fd){mC:AM}(jP:ι 2 fW mC pW (Bf)):μ 3 di fd jH (Bg):=by
 have sc:=Dp;walk_at "ok"
 ·refine⟨nU (Bf),(aB (gA 3 sc.nd (nM jP hr T.pX (aa Θ (aa (pv 2) aA))))
   (aB (cJ (PW.pt (Ar (iu G.zG (pv 3) (iw)) (wB (iu Zkh (pv 3) Ω)))) (aJ (bB (iw))) bG)
   (aJ (bB (pv 3))))),?_⟩
  obtain⟨z0,z1,z2,rfl,q⟩:=h;exact DP q
theorem Zdi{fd:AM}(F:nj K "room_in" "room_in" GD j7 fd){jr:AM}(jM:ι 3 di jr jH (Bg)):μ 4 j7 fd ["row"] (YS):=by
 have sc:=Zcx;walk_at "ok"
 ·refine⟨Bv K (Bg),(aB (gA 1 sc.nd (iW PySem.F.plainAttrs_str PySem.F.slot_str_split PySem.F.type_str_split G.vg Θ (aa (aH) aA)))
   (aB (cJ (PW.pt (Ar (iu oF (bY G.cR η T.iC G.boot_len (aa Ω aA)) (au)) (wB (iu oF (jx cF Ω (au)) (aH))))) (aJ (bB (iw))) bG)
   (aJ (bB (nM jM hr T.mq (aa (jx cF Ω (au)) (aa (T.Ey.pe rfl) (aa (T.J1.pe rfl) aA)))))))),?_⟩
  obtain⟨z0,rfl,q⟩:=h;exact Zd8 q
theorem Zdm{fd:AM}(F:nj K "kind_in" "kind_in" GP kj fd){Zer:AM}(Zin:ι 3 j9 Zer ["text"] (zO bK bR cH cG)):μ 4 kj fd ["row"] (Fx):=by
 have sc:=Zd1;walk_at "ok"
 ·refine⟨Bx K (zO bK bR cH cG),(aB (gA 1 sc.nd (iW PySem.F.plainAttrs_str PySem.F.slot_str_split PySem.F.type_str_split G.vg Θ (aa (aH) aA)))
   (aB (cJ (iu oF (jx cF Ω (au)) (aH)) (aJ (bB (iw))) bG)
   (aJ (bB (nM Zin hr T.Vv (aa (iW PySem.F.plainAttrs_str PySem.F.slot_str_join PySem.F.type_str_join G.mj (aH) (aa (ie rN Ω (jm (au)) jR) aA)) aA)))))),?_⟩
  obtain⟨z0,rfl,q⟩:=h;exact Ze4 q
theorem Za1{fd:AM}{cj Zet vq:AM}(F:nj K "hands_of" "hands_of" Bs jC fd)(bH:ι 1 bu cj dw (jb K))(sS:ι 5 kE Zet Ho (Fz aq aF))(ju:ι 3 jY vq yG (pO aq)):μ 6 jC fd ["rows"] (zP aq aF aD aC):=by
 have sc:=ZS;have tx:=tx0 T;walk_at "okX"
 ·refine⟨yC K aq (jb K) (Fz aq aF) (pO aq) E,(aB (gA 1 sc.nd (dU (aa (iy sS.g (hr.mono ε) rfl T.HQ sS.k sS.b .nil G.rD (aa Θ (aa (T.rZ.pe rfl) (aa (dU aA) aA)))) aA)))
   (aB (gA 2 sc.nd (aL cU (T.rZ.pe rfl) (au)))
   (aB (Zk0 PassesOwn.leaving (iu oF (iy ju.g (hr.mono ε) rfl T.yK ju.k ju.b .nil G.rD (aa Θ (aa (pv 2) aA))) (aH)) (aB (cJ (iu dz (bY G.cR η T.iC G.boot_len (aa Ω aA)) (T.Ew.pe rfl)) (aJ (G.o9 rfl rfl T.uc T.nH bH.g (hr.mono ε) bH.b G.mL (aa (pv 2) aA) ai)) bG)
   (aB (lW (iW PySem.F.plainAttrs_list PySem.F.slot_list_append PySem.F.type_list_append j0 Ω (aa (iy sS.g (hr.mono ε) rfl T.HQ sS.k sS.b .nil G.rD (aa Θ (aa (pv 2) (aa Ω aA)))) aA)))
   (aJ (gA 2 sc.nd (aL cU (pv 2) (au)))))))
   (aJ (bB Ω))))),?_⟩
  obtain⟨z0,rfl,q⟩:=h;exact Zb0 tx q
theorem Zdo{fd:AM}{cj Zeu yX vq lM:AM}(F:nj K "hand_of" "hand_of" GR kE fd)(bH:ι 1 bu cj dw (jb K))(Ziq:ι 4 kJ Zeu ["row"] (FJ))(CP:ι 1 iY yX ["hands"] (wW))(ju:ι 3 jY vq yG (pO aq))(cQ:ι 3 d9 lM mR (uV aq)):μ 5 kE fd Ho (Fz aq aF):=by
 have sc:=Zd3;have tx:=tx0 T;walk_at "okX"
 ·refine⟨BJ K aF (jb K) (FJ) (wW) (pO aq) (uV aq) E,(aB (gA 3 sc.nd (iy cQ.g (hr.mono ε) rfl T.j5 cQ.k cQ.b .nil G.rD (aa (nM Ziq hr T.Vx (aa (iy ju.g (hr.mono ε) rfl T.yK ju.k ju.b .nil G.rD (aa Θ (aa Ω aA))) aA)) (aa Ω aA))))
   (aB (cJ (iu zH (jx dW (pv 3) (au)) (nM CP hr T.Cg (aa (pv 2) aA)) (by with_unfolding_all rfl)) (aJ (G.o9 rfl rfl T.M9 T.xY bH.g (hr.mono ε) bH.b G.mL (aa Ω aA) ai)) bG)
   (aJ (bB (pv 3))))),?_⟩
  obtain⟨z0,z1,z2,rfl,q⟩:=h;exact Zec tx q
theorem Za0{fd:AM}(F:nj K "names_of" "names_of" Br iY fd):μ 1 iY fd ["hands"] (wW):=by
 have sc:=ZR;walk_at "ok"
 ·refine⟨yw K,(aJ (bB (G.Zka (cns:=[]) [] (wD Θ) (λ_ _ _ _ _=>G.BW) (λ_ _ _ _ _=>Θ) rfl rfl (by repeat (first | exact trivial | refine⟨rfl,?_⟩)) (by repeat (first | exact trivial | refine⟨rfl,?_⟩)) rfl γ rfl γ γ rfl rfl γ))),?_⟩;obtain⟨z0,rfl,q⟩:=h;exact Za4 q
theorem Zdp{fd:AM}{Mh jr:AM}(F:nj K "hand_in" "hand_in" GX kJ fd)(Ri:ι 3 fG Mh ["text"] (Nr))(jM:ι 3 di jr jH (Bg)):μ 4 kJ fd ["row"] (FJ):=by
 have sc:=Zd4;walk_at "ok"
 ·refine⟨BK K (Nr) (Bg),(aB (gA 1 sc.nd (iW PySem.F.plainAttrs_str PySem.F.slot_str_split PySem.F.type_str_split G.vg Θ (aa (aH) aA)))
   (aB (cJ (PW.pt (Ar (iu oF (bY G.cR η T.iC G.boot_len (aa Ω aA)) (au)) (Ar (iu oF (jx cF Ω (au)) (aH)) (wB (yE (tR (nM Ri hr T.yL (aa (jx cF Ω (au)) aA)))))))) (aJ (bB (iw))) bG)
   (aB (gA 2 sc.nd (nM jM hr T.mq (aa (jx cF Ω (au)) (aa (T.Bd.pe rfl) (aa (T.Eu.pe rfl) aA)))))
   (aB (cJ (iu G.zG (pv 2) (iw)) (aJ (bB (iw))) bG)
   (aJ (bB (dZ (aa (jx cF Ω (au)) (aa (pv 2) aA))))))))),?_⟩
  obtain⟨z0,rfl,q⟩:=h;exact Zed q
theorem K9{fd:AM}(F:nj K "is_hand_name" "is_hand_name" sX fG fd){Cv:AM}(Jx:ι 2 jK Cv ["text"] (CG)):μ 3 fG fd ["text"] (Nr):=by
 have sc:=K1;walk_at "ok"
 ·refine⟨qF (CG),(aJ (bB ((Zdf (nM Jx hr T.HN (aa Θ aA)) (Zde (rQ oF Θ (T.Nh.pe rfl) (wL _))))))),?_⟩;obtain⟨z0,rfl,q⟩:=h;exact Lj q
theorem Z7{fd:AM}{cj Yq:AM}(F:nj K "weave_of" "weave_of" Bo jz fd)(bH:ι 1 bu cj dw (jb K))(zp:ι 6 iG Yq yF (YL aq aF aD aC)):μ 7 jz fd BX (Nk aq aF aD aC):=by
 have sc:=ZM;have tx:=tx0 T;walk_at "okX"
 ·refine⟨yr K aq (jb K) (YL aq aF aD aC) E,(aB (gA 3 sc.nd (dU aA))
   (aB (nY PassesOwn.leaving rfl (Vn rfl T.mU (aa Ω (aa (aL cU (bY G.cR η T.iC G.boot_len (aa Θ aA)) (au)) aA))) (fj (i:=4) sc.nd rfl (Or.inl rfl))
   (aB (cJ (iu dz (bY G.cR η T.iC G.boot_len (aa (pv 3) aA)) (T.J0.pe rfl)) (aJ (G.o9 rfl rfl T.uc T.nH bH.g (hr.mono ε) bH.b G.mL (aa (pv 4) aA) ai)) bG)
   (aJ (lW (iW PySem.F.plainAttrs_list PySem.F.slot_list_append PySem.F.type_list_append j0 (pv 3) (aa (iy zp.g (hr.mono ε) rfl T.JL zp.k zp.b .nil G.rD (aa (iW PySem.F.plainAttrs_str PySem.F.slot_str_split PySem.F.type_str_split G.vg (jx cF Θ (aL qU (pv 4) (au))) (aa (aH) aA)) (aa (pv 4) (aa (pv 2) aA)))) aA))))))
   (aJ (bB (pv 3))))),?_⟩
  obtain⟨z0,z1,z2,rfl,q⟩:=h;exact Zj tx q
theorem W8{fd:AM}{yZ Jh Zb7 Zeo lM TX:AM}(F:nj K "weave_row" "weave_row" yj iG fd)(CT:ι 1 iZ yZ ["word"] (wX K))(rC:ι 3 eE Jh qM (YT K aC))(Zf4:ι 4 jB Zb7 ["parts"] (zN))(Zik:ι 5 j6 Zeo ["parts"] (YQ))(cQ:ι 3 d9 lM mR (uV aq))(w6:ι 3 gD TX wG (YM K aD)):μ 6 iG fd yF (YL aq aF aD aC):=by
 have sc:=WL;walk_at "okX"
 ·refine⟨vV K (wX K) (YT K aC) (zN) (YQ) (uV aq) (YM K aD) E,(aB (cJ (iu dz (jx cF Θ (au)) (T.Nh.pe rfl)) (aJ (bB (iy cQ.g (hr.mono ε) rfl T.j5 cQ.k cQ.b .nil G.rD (aa (nM Zf4 hr T.Qo (aa Θ aA)) (aa Ω aA))))) bG)
   (aB (gA 3 sc.nd (iy cQ.g (hr.mono ε) rfl T.j5 cQ.k cQ.b .nil G.rD (aa (nM Zik hr T.Vs (aa Θ aA)) (aa Ω aA))))
   (aB (gA 4 sc.nd (nM CT hr T.Cj (aa (jx cF Θ (au)) aA)))
   (aB (gA 5 sc.nd (iy w6.g (hr.mono ε) rfl T.DY w6.k w6.b .nil G.rD (aa (pv 4) (aa (pv 3) (aa Ω (aa (pv 2) aA))))))
   (aB (lW (iy rC.g (hr.mono ε) rfl T.xu rC.k rC.b .nil G.rD (aa (pv 4) (aa (pv 5) (aa Ω (aa (pv 2) aA))))))
   (aJ (bB (ji T7 η T.MK G.boot_tuple (aa (aL tZ (dU (aa (jx cF Θ (au)) aA)) (pv 5)) aA))))))))),?_⟩
  obtain⟨z0,z1,z2,rfl,q⟩:=h;exact Wm q
theorem Z9{fd:AM}(F:nj K "sweep_in" "sweep_in" Bq jB fd){jr:AM}(jM:ι 3 di jr jH (Bg)):μ 4 jB fd ["parts"] (zN):=by
 have sc:=ZQ;walk_at "ok"
 ·refine⟨yu K (Bg),(aB (cJ (iu oF (bY G.cR η T.iC G.boot_len (aa Θ aA)) (au)) (aJ (bB (iw))) bG)
   (aB (gA 1 sc.nd (nM jM hr T.mq (aa (jx cF Θ (au)) (aa (T.Bc.pe rfl) (aa (T.Et.pe rfl) aA)))))
   (aB (cJ (iu G.zG Ω (iw)) (aJ (bB (iw))) bG)
   (aJ (bB (dZ (aa (T.Nh.pe rfl) (aa Ω aA)))))))),?_⟩
  obtain⟨z0,rfl,q⟩:=h;exact ZD q
theorem Zdh{fd:AM}{yZ Zb6:AM}(F:nj K "told_in" "told_in" Gz j6 fd)(CT:ι 1 iZ yZ ["word"] (wX K))(Zf3:ι 4 jA Zb6 BZ (Np)):μ 5 j6 fd ["parts"] (YQ):=by
 have sc:=Zcw;walk_at "ok"
 ·refine⟨Bu K (wX K) (Np),(aB (gA 1 sc.nd (Qg (iu Vo (bY G.cR η T.iC G.boot_len (aa Θ aA)) (au)) (nM CT hr T.Cj (aa (jx cF Θ (au)) aA)) (iw)))
   (aB (gA 2 sc.nd (aL tZ (ie rN Θ jR (jm (au))) (ie rN Θ (jm (au)) jR)))
   (aB (cJ (PW.pt (Ar (iu G.zG Ω (iw)) (wB (iu oF (bY G.cR η T.iC G.boot_len (aa (pv 2) aA)) (bY G.cR η T.iC G.boot_len (aa Ω aA)))))) (aJ (bB (iw))) bG)
   (aB (G.Hg (iz:=3) (cns:=[]) [] (G.W7 true false rfl T.Uk (aa Ω (aa (pv 2) aA))) (λ_ _ _ _ _=>G.BW) (λ_ _ _ _ _=>(nM Zf3 hr T.Qn (aa Θ (aa Ω aA)))) rfl rfl (by repeat (first | exact trivial | refine⟨rfl,?_⟩)) (by repeat (first | exact trivial | refine⟨rfl,?_⟩)) rfl γ rfl γ γ rfl rfl γ sc.nd rfl (Or.inl rfl) (Or.inr rfl) rfl)
   (aB (cJ (iu zH (iw) (pv 3) (by with_unfolding_all rfl)) (aJ (bB (iw))) bG)
   (aJ (bB (pv 3)))))))),?_⟩
  obtain⟨z0,rfl,q⟩:=h;exact Zce q
theorem Z8{fd:AM}{Cv Zeq mC:AM}(F:nj K "value_of" "value_of" Bp jA fd)(Jx:ι 2 jK Cv ["text"] (CG))(Zim:ι 3 j8 Zeq ["text"] (YW))(jP:ι 2 fW mC pW (Bf)):μ 4 jA fd BZ (Np):=by
 have sc:=ZP;walk_at "ok"
 ·refine⟨yt (CG) (YW) (Bf),(aB (cJ (Zjy (G.Zkf T.Gg rfl Θ)) (aJ (bB (nM jP hr T.pX (aa Ω (aa (G.Zo6 T.Gg rfl Θ (λ_ _=>rfl)) aA))))) bG)
   (aB (cJ (iu dz Θ (aH)) (aJ (bB (nM Zim hr T.Vu (aa Ω aA)))) bG)
   (aJ (bB (Qg (tR (nM Jx hr T.HN (aa Ω aA))) Ω (iw)))))),?_⟩
  obtain⟨z0,z1,rfl,q⟩:=h;exact Zm q
theorem R5{fd:AM}{cj yX:AM}(F:nj K "with_hands" "with_hands" vK gD fd)(bH:ι 1 bu cj dw (jb K))(CP:ι 1 iY yX ["hands"] (wW)):μ 3 gD fd wG (YM K aD):=by
 have sc:=RT;have tx:=tx0 T;walk_at "okX"
 ·refine⟨uK K aD (jb K) (wW) E,(aB (gA 4 sc.nd (nM CP hr T.Cg (aa (pv 3) aA)))
   (aB (gA 5 sc.nd (dU aA))
   (aB (nY PassesOwn.leaving rfl (G.W7 true false rfl T.Uk (aa Θ (aa Ω aA))) (BR rfl (jo (fj (i:=6) sc.nd rfl (Or.inl rfl)) (jo (fj (i:=7) sc.nd rfl (Or.inl rfl)) wF)))
   (aB (cJ (PW.pt (lg (iu dz (pv 6) (aH)) (jk (iu wK (pv 7) (pv 4) (by with_unfolding_all rfl))))) (aJ (G.o9 rfl rfl T.Ed T.u9 bH.g (hr.mono ε) bH.b G.mL (aa (pv 2) aA) ai)) bG)
   (aJ (lW (iW PySem.F.plainAttrs_list PySem.F.slot_list_append PySem.F.type_list_append j0 (pv 5) (aa (Qg (iu dz (pv 6) (aH)) (iW PySem.F.plainAttrs_list PySem.F.slot_list_index PySem.F.type_list_index G.Zho (pv 4) (aa (pv 7) aA)) (pv 7)) aA))))))
   (aJ (bB (pv 5)))))),?_⟩
  obtain⟨z0,z1,z2,z3,rfl,q⟩:=h;exact Rv tx q
theorem Hr{fd:AM}(F:nj K "look_at_slots" "look_at_slots" qw eE fd){cj:AM}(bH:ι 1 bu cj dw (jb K)):μ 3 eE fd qM (YT K aC):=by
 have sc:=Gs;have tx:=tx0 T;walk_at "okX"
 ·refine⟨oX K aC (jb K) E,(aB (gA 4 sc.nd (au))
   (aJ (nY PassesOwn.leaving rfl (G.W7 true false rfl T.Uk (aa Θ (aa Ω aA))) (BR rfl (jo (fj (i:=5) sc.nd rfl (Or.inl rfl)) (jo (fj (i:=6) sc.nd rfl (Or.inl rfl)) wF)))
   (aB (cJ (iu dz (pv 5) (aH)) (aJ (gA 4 sc.nd (pv 6))) bG)
   (aJ (cJ (PW.pt (lg (iu dz (pv 5) (aH)) (jk (iu Zul (pv 6) (jx dW (jx cF (pv 3) (pv 4)) (au)))))) (aJ (G.o9 rfl rfl T.Ec T.u6 bH.g (hr.mono ε) bH.b G.mL (aa (pv 2) aA) ai)) bG)))))),?_⟩
  obtain⟨z0,z1,z2,z3,rfl,q⟩:=h;exact HS tx q
theorem Lg{fd:AM}(F:nj K "_law_cell_at" "_law_cell_at" tG d8 fd):μ 1 d8 fd oE (Ud K):=by
 have sc:=K8;walk_at "ok"
 ·refine⟨mV K,(aB (cJ (iu Zkh Ω (bY G.cR η T.iC G.boot_len (aa Θ aA))) (aJ (bB (jx cF Θ Ω))) bG)
   (aJ (bB (au)))),?_⟩
  obtain⟨z0,z1,rfl,q⟩:=h;exact Mx q
theorem R6{fd:AM}(F:nj K "_law_whole" "_law_whole" vL gF fd):μ 1 gF fd wH (Fq):=by
 have sc:=RV;walk_at "ok"
 ·refine⟨pJ,(aJ (bB ((Zdf (bY G.Q8 η T.dm G.boot_isinstance (aa Θ (aa (M6 rfl T.Ul G.boot_int rfl) aA))) (Zde (Zrr (bY G.Q8 η T.dm G.boot_isinstance (aa Θ (aa (M6 rfl T.Wl G.boot_bool rfl) aA))))))))),?_⟩;obtain⟨z0,rfl,q⟩:=h;exact T8 q
theorem Xd{fd:AM}(F:nj K "_law_safe" "_law_safe" ym iH fd):μ 1 iH fd yH (Rg):=by
 have sc:=WR;walk_at "ok"
 ·refine⟨wj,(aB (cJ (iu dz Θ (aH)) (aJ (bB (aH))) bG)
   (aJ (bB Θ))),?_⟩
  obtain⟨z0,rfl,q⟩:=h;exact YJ q
theorem Hv{fd:AM}(F:nj K "_law_hands_by" "_law_hands_by" qz eN fd){Yr:AM}(Zbp:ι 1 iH Yr yH (Rg)):μ 2 eN fd qQ (zQ):=by
 have sc:=Gw;walk_at "ok"
 ·refine⟨o6 K (Rg),(aB (gA 2 sc.nd (aH))
   (aB (gA 3 sc.nd (aL cU (au) (aL bU (aL dO Ω (au)) (au))))
   (aB (gA 4 sc.nd (dU aA))
   (aB (nY PassesOwn.never rfl (pq rfl T.mU (aa (aL cU (au) (aL bU Θ (au))) aA)) (fj (i:=5) sc.nd rfl (Or.inl rfl))
   (aB (gA 6 sc.nd (aH))
   (aB (nY PassesOwn.never rfl (pq rfl T.mU (aa (pv 3) aA)) (fj (i:=7) sc.nd rfl (Or.inl rfl))
   (aB (gA 8 sc.nd (aL cU (aL G.jd (aL G.jd (pv 7) (pv 7)) (au)) (aL G.jd (pv 7) (aL bU (aL dO Ω (au)) (au)))))
   (aB (cJ (iu dz (pv 7) (aL bU (aL dO Θ (au)) (pv 3))) (aJ (gA 8 sc.nd (aL cU (pv 8) (pv 5)))) bG)
   (aJ (gA 6 sc.nd (aL bM (pv 6) (jx Qx (pv 2) (aL bU (aL cU Ω (pv 8)) (au)))))))))
   (aB (cJ (iu dz (aL bU (aL dO Θ (au)) (au)) (au)) (aJ (gA 6 sc.nd (aL G.Zod (jx Qx (pv 2) (aL bU Ω (au))) (aL cU (au) (aL bU (aL cU (pv 5) (aL dO Ω (au))) (au)))))) bG)
   (aJ (lW (iW PySem.F.plainAttrs_list PySem.F.slot_list_append PySem.F.type_list_append j0 (pv 4) (aa (dZ (aa (nM Zbp hr T.JM (aa (pv 6) aA)) (aa (aL cU (au) (aL bU (aL cU (aL dO Ω (au)) (aL G.jd (aL G.jd (pv 5) (pv 5)) (au))) (au))) aA))) aA))))))))
   (aB (cJ (PW.pt (lg (iu dz (aL bU (aL dO Θ (au)) (au)) (au)) (jk (iu wK (aH) (G.Zka (cns:=[]) [] (wD (pv 4)) (λ_ _ _ _ _=>G.BW) (λ_ _ _ _ _=>Θ) rfl rfl (by repeat (first | exact trivial | refine⟨rfl,?_⟩)) (by repeat (first | exact trivial | refine⟨rfl,?_⟩)) rfl γ rfl γ γ rfl rfl γ) (by with_unfolding_all rfl))))) (aJ (wC (dZ (aa (aH) (aa (jx dW (jx cF (pv 4) (au)) (au)) aA))) (BV (pv 4) (au) set_list))) bG)
   (aJ (bB (pv 4)))))))),?_⟩
  obtain⟨z0,z1,rfl,q⟩:=h;exact Js q
theorem Le{fd:AM}(F:nj K "_law_kind_by" "_law_kind_by" tD fK fd):μ 1 fK fd tX (Fy):=by
 have sc:=K6;walk_at "ok"
 ·refine⟨qK K,(aB (gA 1 sc.nd (jx cF (dU (aa (aH) (aa (aH) (aa (aH) aA)))) (aL bU Θ (au))))
   (aB (cJ (iu dz (aL bU (aL dO Θ (au)) (au)) (au)) (aJ (gA 1 sc.nd (aL bM Ω (aH)))) bG)
   (aB (cJ (iu dz (aL bU (aL dO Θ (au)) (au)) (au)) (aJ (gA 1 sc.nd (aL bM Ω (aH)))) bG)
   (aJ (bB Ω))))),?_⟩
  obtain⟨z0,rfl,q⟩:=h;exact Mv q
theorem La{fd:AM}(F:nj K "_law_word_by" "_law_word_by" sY fH fd):μ 1 fH fd tV (zm):=by
 have sc:=K3;walk_at "ok"
 ·refine⟨qG,(aB (gA 2 sc.nd (aH))
   (aB (gA 3 sc.nd (aH))
   (aB (nY PassesOwn.never rfl (pq rfl T.mU (aa (aL cU (au) (aL bU Ω (au))) aA)) (fj (i:=4) sc.nd rfl (Or.inl rfl))
   (aJ (gA 3 sc.nd (aL bM (pv 3) (jx Qx (pv 2) (aL bU (aL cU Θ (aL G.jd (aL G.jd (pv 4) (pv 4)) (aL bU (aL dO Ω (au)) (au)))) (au)))))))
   (aJ (bB (pv 3)))))),?_⟩
  obtain⟨z0,z1,rfl,q⟩:=h;exact Mr q
theorem R8{fd:AM}(F:nj K "_law_large" "_law_large" vP gH fd):μ 1 gH fd wJ (uC):=by
 have sc:=RX;walk_at "ok"
 ·refine⟨uM,(aB (cJ (iu dz (aL bU (aL dO Ω (au)) (au)) (au)) (aJ (bB (aL bU (aL G.Zof (aL cU Θ (au)) (au)) (aL cU (pv 2) (au))))) bG)
   (aJ (bB (aL bU Θ (aL cU (pv 2) (au)))))),?_⟩
  obtain⟨z0,z1,z2,rfl,q⟩:=h;exact Ua q
theorem Qj{fd:AM}{T4 Mi:AM}(F:nj K "_law_row_by" "_law_row_by" uI fZ fd)(sE:ι 1 gH T4 wJ (uC))(Rj:ι 1 fH Mi tV (zm)):μ 2 fZ fd uR (Nq):=by
 have sc:=PK;walk_at "okw"
 ·refine⟨tL K (uC) (zm),(dD (gA 3 sc.nd (aL bU (aL G.jd (aL cU (aL cU Θ (aL G.jd (aL G.jd (au) Ω) Ω)) (au)) (au)) (au)))
   (dD (gA 4 sc.nd (aL bU (aL G.jd (aL cU (aL cU Θ (aL G.jd (au) Ω)) (au)) (au)) (au)))
   (dD (gA 5 sc.nd (aL bU (aL dO (pv 3) (au)) (bY G.cR η T.iC G.boot_len (aa (pv 2) aA))))
   (dD (gA 6 sc.nd (aL bU (pv 4) (bY G.cR η T.iC G.boot_len (aa (pv 2) aA))))
   (dD (gA 7 sc.nd (aL bU (aL dO (pv 4) (au)) (jx dW (jx cF (pv 2) (pv 5)) (au))))
   (dD (gA 8 sc.nd (aL bU (aL dO (pv 3) (au)) (jx dW (jx cF (pv 2) (pv 5)) (au))))
   (dD (gA 9 sc.nd (nM sE hr T.oG (aa Θ (aa (pv 3) (aa (jx cF (dU (aa (au) (aa (au) aA))) (aL bU (pv 4) (au))) aA)))))
   (dD (gA 10 sc.nd (nM sE hr T.oG (aa Θ (aa (pv 3) (aa (aL qU (aL Hq (au) (au)) (au)) aA)))))
   (dD (cJ (iu dz (aL bU (aL dO (pv 4) (au)) (au)) (au)) (aJ (gA 10 sc.nd (aL qU (au) (pv 10)))) bG)
   (dD (gA 11 sc.nd (nM Rj hr T.yM (aa Θ (aa (pv 4) aA))))
   (dD (cJ (iu dz (aL bU (aL dO (pv 4) (au)) (au)) (au)) (aJ (gA 11 sc.nd (aH))) bG)
   (uw (bB (jx cF (dU (aa (dZ (aa (aH) (aa (pv 5) (aa (pv 7) (aa (aL bU (aL dO (pv 4) (au)) (au)) (aa (nM sE hr T.oG (aa Θ (aa (pv 3) (aa (aL Hq (au) (au)) aA)))) aA)))))) (aa (dZ (aa (aH) (aa (pv 5) (aa (pv 7) (aa (pv 8) (aa (pv 9) aA)))))) (aa (dZ (aa (aH) (aa (pv 5) (aa (pv 8) (aa (pv 9) (aa (pv 7) aA)))))) (aa (dZ (aa (aH) (aa (pv 5) (aa (pv 7) (aa (pv 8) aA))))) (aa (dZ (aa (aH) (aa (pv 5) (aa (pv 7) aA)))) (aa (dZ (aa (aH) (aa (pv 5) (aa (pv 7) (aa (pv 6) (aa (aL bU (aL dO (pv 3) (au)) (jx dW (jx cF (pv 2) (pv 6)) (au))) aA)))))) (aa (dZ (aa (aH) (aa (pv 5) (aa (pv 8) (aa (pv 10) aA))))) (aa (dZ (aa (aH) (aa (pv 5) (aa (pv 8) aA)))) (aa (dZ (aa (aH) (aa (pv 5) (aa (pv 8) (aa (pv 11) aA))))) (aa (dZ (aa (aH) (aa (pv 5) (aa (pv 7) (aa (pv 11) aA))))) (aa (dZ (aa (aH) (aa (aL cU (au) (nM sE hr T.oG (aa Θ (aa (pv 3) (aa (au) aA))))) aA))) aA)))))))))))) (aL bU (pv 3) (au)))))))))))))))),?_⟩
  obtain⟨z0,z1,z2,rfl,q⟩:=h;exact Rc q
theorem Lb{fd:AM}(F:nj K "_law_text_of" "_law_text_of" sZ d7 fd):μ 1 d7 fd oh (qg):=by
 have sc:=K4;walk_at "ok"
 ·refine⟨qI K,(aB (cJ (iu dz (jx dW Θ (au)) (aH)) (aJ (bB (aL bM (aH) (ji G.pD η T.xV G.boot_str (aa (jx dW Θ (au)) aA))))) bG)
   (aB (gA 2 sc.nd (aL bM (aL bM (jx dW (jx cF Ω (jx dW Θ (au))) (au)) (aH)) (jx dW Θ (au))))
   (aB (nY PassesOwn.never rfl (Vn rfl T.mU (aa (au) (aa (bY G.cR η T.iC G.boot_len (aa Θ aA)) aA))) (fj (i:=3) sc.nd rfl (Or.inl rfl))
   (aB (gA 4 sc.nd (ji G.Zif η T.xV G.boot_str (aa (jx dW Θ (pv 3)) aA)))
   (aB (cJ (PW.pt (lg (iu dz (jx dW Θ (au)) (aH)) (jk (iu dz (pv 3) (au))))) (aJ (gA 4 sc.nd (jx dW (jx cF Ω (jx dW Θ (au))) (au)))) bG)
   (aJ (gA 2 sc.nd (aL bM (aL bM (pv 2) (aH)) (pv 4)))))))
   (aJ (bB (pv 2)))))),?_⟩
  obtain⟨z0,z1,rfl,q⟩:=h;exact Ms q
theorem Ht{fd:AM}(F:nj K "_law_stranger" "_law_stranger" qx eF fd):μ 1 eF fd qO (uf):=by
 have sc:=Gu;walk_at "okw"
 ·refine⟨oY K,(dD (G.Hg (iz:=2) (cns:=[]) [] (wD Θ) (λ_ _ _ _ _=>G.BW) (λ_ _ _ _ _=>Θ) rfl rfl (by repeat (first | exact trivial | refine⟨rfl,?_⟩)) (by repeat (first | exact trivial | refine⟨rfl,?_⟩)) rfl γ rfl γ γ rfl rfl γ sc.nd rfl (Or.inl rfl) (Or.inr rfl) rfl)
   (dD (gA 3 sc.nd (jx cF (pv 2) (aL bU Ω (bY G.cR η T.iC G.boot_len (aa (pv 2) aA)))))
   (dD (nY PassesOwn.never rfl (wD (dU (aa (aL bM (ie G.Pz (pv 3) jR (jm (au))) (aH)) (aa (ie G.Pz (pv 3) (jm (au)) jR) (aa (aL bM (aH) (ie G.Pz (pv 3) jR (jm (au)))) (aa (aH) (aa (aH) (aa (aH) (aa (aH) (aa (aH) aA)))))))))) (fj (i:=4) sc.nd rfl (Or.inl rfl))
   (aJ (cJ (PW.pt (lg (iu oF (pv 4) (aH)) (lg (iu oF (pv 4) (aH)) (jk (iu wK (pv 4) (pv 2) (by with_unfolding_all rfl)))))) (aJ (bB (pv 4))) bG)))
   (uw (bB (aH)))))),?_⟩
  obtain⟨z0,z1,rfl,q⟩:=h;exact Jq q
theorem Qk{fd:AM}(F:nj K "_law_beyond" "_law_beyond" uJ f9 fd):μ 1 f9 fd uT (vG):=by
 have sc:=PN;walk_at "ok"
 ·refine⟨tM K,(aB (cJ (iu dz (jx dW Θ (au)) (aH)) (aJ (bB (jx cF (dU (aa (aH) (aa (aH) aA))) (aL bU (pv 2) (au))))) bG)
   (aB (gA 3 sc.nd (jx dW Θ Ω))
   (aB (cJ (PW.pt (Ar (PW.pt (lg (iu dz (jx dW Θ (au)) (aH)) (jk (iu dz Ω (au))))) (wB (tR (bY G.Q8 η T.dm G.boot_isinstance (aa (pv 3) (aa (M6 rfl T.xV G.boot_str rfl) aA))))))) (aJ (bB (aH))) bG)
   (aB (cJ (PW.pt (lg (iu dz (jx dW Θ (au)) (aH)) (jk (iu Vo Ω (au))))) (aJ (bB (jx cF (dU (aa (aH) (aa (ji G.pD η T.xV G.boot_str (aa (aL cU (aL Hq (au) (au)) (au)) aA)) aA))) (aL qU Ω (au))))) bG)
   (aB (cJ (PW.pt (lg (iu dz (jx dW Θ (au)) (aH)) (jk (iu dz Ω (au))))) (aJ (bB (ji G.pD η T.xV G.boot_str (aa (aL cU (aL Hq (au) (au)) (aL bU (pv 2) (aL Hq (au) (au)))) aA)))) bG)
   (aJ (bB (aH)))))))),?_⟩
  obtain⟨z0,z1,z2,rfl,q⟩:=h;exact Rf q
theorem Hw{fd:AM}(F:nj K "_law_formless" "_law_formless" qC eO fd){Q4:AM}(Uh:ι 1 f9 Q4 uT (vG)):μ 2 eO fd qR (lO):=by
 have sc:=Gx;walk_at "okw"
 ·refine⟨o7 K (vG),(dD (gA 4 sc.nd (aL cU (au) (aL bU (pv 3) (bY (Zig rfl) η T.Zf7 G.boot_max (aa (au) (aa (aL qU (bY G.cR η T.iC G.boot_len (aa Ω aA)) (au)) aA))))))
   (dD (cJ (iu dz (jx dW Θ (au)) (aH)) (aJ (gA 4 sc.nd (au))) bG)
   (dD (gA 5 sc.nd (iW PySem.F.plainAttrs_str PySem.F.slot_str_join PySem.F.type_str_join G.mj (aH) (aa Ω aA)))
   (dD (gA 6 sc.nd (aL bU (pv 2) (au)))
   (dD (cJ (iu dz (pv 6) (au)) (aJ (bB (aL bM (pv 5) (aH)))) bG)
   (dD (cJ (iu dz (pv 6) (au)) (aJ (bB (iW PySem.F.plainAttrs_str PySem.F.slot_str_join PySem.F.type_str_join G.mj (aH) (aa (ie rN Ω jR (jm (aL qU (bY G.cR η T.iC G.boot_len (aa Ω aA)) (au)))) aA)))) bG)
   (dD (cJ (iu dz (pv 6) (au)) (aJ (bB (jx cF (dU (G.Zoa (i:=5))) (aL bU (pv 3) (au))))) bG)
   (Qf (iu dz (pv 6) (au)) (dD (wC (jx cF (dU (aa (aH) (aa (aH) (aa (aH) (aa (aH) (aa (aH) (aa (aH) aA))))))) (aL bU (pv 3) (au))) (BV Ω (au) set_list))
   (uw (bB (iW PySem.F.plainAttrs_str PySem.F.slot_str_join PySem.F.type_str_join G.mj (aH) (aa Ω aA))))) Dy
   (dD (cJ (iu dz (pv 6) (au)) (aB (wC (aL bM (aH) (jx cF Ω (pv 4))) (BV Ω (pv 4) set_list))
   (aJ (bB (iW PySem.F.plainAttrs_str PySem.F.slot_str_join PySem.F.type_str_join G.mj (aH) (aa Ω aA))))) bG)
   (dD (cJ (PW.pt (lg (iu dz (pv 6) (au)) (jk (PW.pt (Ar (iu oF (jx dW Θ (au)) (aH)) (wB (iu dz (pv 4) (au)))))))) (aB (wC (aL bM (aH) (jx cF Ω (pv 4))) (BV Ω (pv 4) set_list))
   (aJ (bB (iW PySem.F.plainAttrs_str PySem.F.slot_str_join PySem.F.type_str_join G.mj (aH) (aa Ω aA))))) bG)
   (dD (cJ (iu dz (pv 6) (au)) (aB (wC (nM Uh hr T.Az (aa Θ (aa (pv 4) (aa (pv 3) aA)))) (BV Ω (pv 4) set_list))
   (aJ (bB (iW PySem.F.plainAttrs_str PySem.F.slot_str_join PySem.F.type_str_join G.mj (aH) (aa Ω aA))))) bG)
   (uw (bB (aL bM (aL bM (jx cF Ω (au)) (jx cF (dU (aa (aH) (aa (aH) (aa (aH) (aa (aH) aA))))) (aL bU (pv 3) (au)))) (ie G.Pz (pv 5) (jm (bY G.Wd η T.iC G.boot_len (aa (jx cF Ω (au)) aA))) jR))))))))))))))),?_⟩
  obtain⟨z0,z1,z2,z3,rfl,q⟩:=h;exact Jt q
theorem Hu{fd:AM}(F:nj K "_law_slotless" "_law_slotless" qy eG fd):μ 1 eG fd qP (wV):=by
 have sc:=Gv;walk_at "ok"
 ·refine⟨oZ K,(aB (gA 3 sc.nd (au))
   (aB (cJ (PW.pt (lg (iu dz (aL bU (pv 2) (au)) (au)) (jk (iu zH (jx dW Θ (au)) (dU (aa (aH) (aa (aH) aA))) (by with_unfolding_all rfl))))) (aJ (gA 3 sc.nd (au))) bG)
   (aB (cJ (PW.pt (lg (iu dz (aL bU (pv 2) (au)) (au)) (jk (iu zH (jx dW Θ (au)) (dU (aa (aH) (aa (aH) aA))) (by with_unfolding_all rfl))))) (aJ (gA 3 sc.nd (au))) bG)
   (aB (gA 4 sc.nd (jx dW Θ (au)))
   (aB (cJ (PW.pt (lg (iu dz (pv 3) (au)) (jk (iu dz (jx dW Θ (au)) (aH))))) (aJ (gA 4 sc.nd (jx dW Θ (au)))) bG)
   (aB (gA 5 sc.nd (aL cU (jx dW (jx cF Ω (pv 4)) (au)) (jx cF (dU (aa (au) (aa (au) (aa (au) aA)))) (aL bU (aL dO (pv 2) (au)) (au)))))
   (aJ (bB (aL Zfo (aL Zfo (ie Zjl Θ jR (jm (pv 3))) (dZ (aa (pv 5) aA))) (ie Zjl Θ (jm (aL cU (pv 3) (au))) jR)))))))))),?_⟩
  obtain⟨z0,z1,z2,rfl,q⟩:=h;exact Jr q
theorem yI{fd:AM}{Jl Jj Ji qZ:AM}(F:nj K "_law_weave_spoilt" "_law_weave_spoilt" mJ cY fd)(xK:ι 2 eO Jl qR (lO))(Mz:ι 1 eG Jj qP (wV))(My:ι 1 eF Ji qO (uf))(uh:ι 1 d7 qZ oh (qg)):μ 3 cY fd mO (pF):=by
 have sc:=yh;walk_at "ok"
 ·refine⟨lG K (lO) (wV) (uf) (qg),(aB (cJ (iu dz (jx dW Θ (au)) (aH)) (aJ (bB (dZ (aa (aH) (aa (nM xK hr T.qY (aa Θ (aa (dU (aa (aH) (aa (ji G.pD η T.xV G.boot_str (aa (jx dW Θ (au)) aA)) aA))) (aa (pv 2) (aa (pv 3) aA))))) aA))))) bG)
   (aB (gA 4 sc.nd (aL cU (au) (aL bU (aL dO (pv 2) (au)) (au))))
   (aB (gA 5 sc.nd (aH))
   (aB (cJ (iu oF (aL Qh (pv 4) (au)) (au)) (aJ (gA 0 sc.nd (nM Mz hr T.xF (aa Θ (aa Ω (aa (aL dO (pv 2) (au)) aA)))))) bG)
   (aB (gA 6 sc.nd (iW PySem.F.plainAttrs_str PySem.F.slot_str_split PySem.F.type_str_split G.vg (nM uh hr T.t7 (aa Θ (aa Ω aA))) (aa (aH) aA)))
   (aB (cJ (iu oF (aL Qh (pv 4) (au)) (au)) (aB (gA 5 sc.nd (aH))
   (aB (gA 7 sc.nd (au))
   (aB (gA 8 sc.nd (nM My hr T.xx (aa Ω (aa (pv 3) aA))))
   (aB (cJ (PW.pt (lg (iu dz (jx dW Θ (au)) (aH)) (jk (iu Vo (aL bU (aL dO (pv 2) (au)) (au)) (au))))) (aB (gA 7 sc.nd (au))
   (aJ (cJ (iu dz (aL bU (aL dO (pv 2) (au)) (au)) (au)) (aJ (gA 8 sc.nd (aH))) bG))) bG)
   (aJ (wC (pv 8) (BV (pv 6) (pv 7) set_list))))))) bG)
   (aB (cJ (iu oF (aL Qh (pv 4) (au)) (au)) (aJ (bB (dZ (aa (aH) (aa (nM xK hr T.qY (aa Θ (aa (pv 6) (aa (pv 2) (aa (pv 3) aA))))) aA))))) bG)
   (aJ (bB (dZ (aa (pv 5) (aa (iW PySem.F.plainAttrs_str PySem.F.slot_str_join PySem.F.type_str_join G.mj (aH) (aa (pv 6) aA)) aA)))))))))))),?_⟩
  obtain⟨z0,z1,z2,z3,rfl,q⟩:=h;exact zj q
theorem zV{fd:AM}(F:nj K "_law_head_spoilt" "_law_head_spoilt" nu dB fd):μ 1 dB fd nF (pG):=by
 have sc:=zT;walk_at "okw"
 ·refine⟨mK K,(Qf (iu dz (pv 2) (au)) (W4 (i:=3) sc.nd rfl (Or.inl rfl) (cI (aH) (cI (aH) (cI (aH) (cI (aH) (cI (aH) (cI (aH) (cI (aH) (cI (aH) (cI (aH) zE)))))))))
   (uw (bB (dZ (aa (aH) (aa (jx cF (pv 3) (aL bU Ω (au))) aA)))))) Dy
   (Qf (iu dz (pv 2) (au)) (W4 (i:=3) sc.nd rfl (Or.inl rfl) (cI (aH) (cI (aH) (cI (aH) (cI (aH) (cI (aH) (cI (aH) (cI (aH) (cI (aH) (cI (aH) (cI (aH) zE))))))))))
   (uw (bB (dZ (aa (aH) (aa (jx cF (pv 3) (aL bU Ω (au))) aA)))))) Dy
   (Qf (iu dz (pv 2) (aL cU (bY G.cR η T.iC G.boot_len (aa Θ aA)) (au))) (Zjz (cI (aH) (Zo9 (cI (aH) (cI (aH) (cI (aH) (cI (aH) (cI (aH) zE))))) (aL bU Ω (au)) (λ_ _=>rfl) zE))) Dy
   (dD (gA 4 sc.nd (jx dW (jx cF Θ (aL qU (pv 2) (au))) (au)))
   (dD (cJ (iu dz (aL bU Ω (au)) (au)) (aJ (bB (dZ (aa (aH) (aa (aL bM (aL bM (jx cF (dU (aa (aH) (aa (aH) (aa (aH) aA)))) (aL bU (aL dO Ω (au)) (au))) (pv 4)) (aH)) aA))))) bG)
   (Qf (PW.pt (lg (iu Vo (pv 2) (au)) (jk (iu dz (aL bU Ω (au)) (au))))) (Znx (i:=5) sc.nd rfl (Or.inl rfl) (cI (aH) (cI (aH) (cI (aH) (cI (aH) (cI (aH) zE))))) (aL bU (aL dO Ω (au)) (au)) (λ_ _=>rfl)
   (uw (bB (dZ (aa (jx cF (dU (aa (aH) (aa (aH) aA))) (ji G.Zii η T.Ul G.boot_int (aa (rQ dz (pv 5) (aH) (wL _)) aA))) (aa (aL bM (aL bM (aH) (jx dW (jx cF Θ (aL bU (aL dO Ω (au)) (aL qU (pv 2) (au)))) (au))) (pv 5)) aA)))))) Dy
   (W4 (i:=3) sc.nd rfl (Or.inl rfl) (cI (aL bM (pv 4) (aH)) (cI (aL bM (pv 4) (aH)) (cI (aH) (cI (aH) (cI (aL bM (pv 4) (aH)) (cI (pv 4) (cI (aL bM (pv 4) (aH)) (cI (aH) zE))))))))
   (dD (lW (iW PySem.F.plainAttrs_list PySem.F.slot_list_append PySem.F.type_list_append j0 (pv 3) (aa (aL bM (pv 4) (aH)) aA)))
   (uw (bB (dZ (aa (aH) (aa (aL bM (aH) (jx cF (pv 3) (aL bU Ω (au)))) aA))))))))))))),?_⟩
  obtain⟨z0,z1,z2,rfl,q⟩:=h;exact Ae q
theorem Xc{fd:AM}(F:nj K "_law_told" "_law_told" yl gM fd){EY:AM}(xm:ι 8 oK EY ["text"] (rB aU aq aF aD aC)):μ 9 gM fd ux (uB):=by
 have sc:=WN;have tx:=tx0 T;walk_at "ok"
 ·refine⟨wg K aq aD aC aF (rB aU aq aF aD aC),(aB (gA 1 sc.nd (dZ (aa (aH) (aa (au) aA))))
   (aB (G.Zk2 (i:=2) rfl ⟨rfl,rfl⟩ sc.nd rfl rfl rfl T.uc rfl T.M9 rfl T.Ed rfl T.Ec (λcls h=>by rcases h with rfl<;>first | exact T.m7) (λcls h=>by rcases h with rfl<;>first | exact⟨T.mX,T.pM⟩) (λcls h=>by rcases h with rfl<;>first | exact⟨T.lZ,T.mZ,T.m6⟩) (λcls h=>by rcases h with rfl<;>first | exact⟨T.lY,T.mY,T.lX,T.m5⟩) (λEx pn xe hx=>(aJ (lW (G.Z4 xm.g (hr.mono ε) rfl T.Xm xm.k xm.b .nil hx (aa Θ aA))))) (λea pn=>(aJ (gA 1 sc.nd (dZ (aa (aH) (aa (G.M5 (pv 2) rfl) aA)))))) (λea pn=>(aJ (gA 1 sc.nd (dZ (aa (aH) (aa (G.M5 (pv 2) rfl) aA)))))) (λea pn=>(aJ (gA 1 sc.nd (dZ (aa (aH) (aa (G.M5 (pv 2) rfl) aA)))))) (λea pn=>(aJ (gA 1 sc.nd (dZ (aa (aH) (aa (G.M5 (pv 2) rfl) aA)))))))
   (aJ (bB Ω)))),?_⟩
  obtain⟨z0,rfl,q⟩:=h;exact YH tx q
theorem Lf{fd:AM}(F:nj K "_law_classes" "_law_classes" tE fL fd){EY:AM}(xm:ι 8 oK EY ["text"] (rB aU aq aF aD aC)):μ 9 fL fd tY (ug):=by
 have sc:=K7;walk_at "ok"
 ·refine⟨qL aq cW jN bQ dX aD fX aC gW aF (rB aU aq aF aD aC) (W.kitOne K),(aB (gA 1 sc.nd (dU aA))
   (aB (G.Zk1 (i:=2) rfl ⟨rfl,rfl⟩ sc.nd rfl rfl rfl T.JN (λcls h=>by rcases h with rfl | rfl | rfl | rfl<;>first | exact T.jW | exact T.lz | exact T.jV | exact T.jU) (λEx pn xe hx=>(aJ (lW (G.Z4 xm.g (hr.mono ε) rfl T.Xm xm.k xm.b .nil hx (aa Θ aA))))) (λea pn=>(aJ (gA 1 sc.nd (dU (aa (bY (G.jL (lN T.exc)) η T.dm G.boot_isinstance (aa (pv 2) (aa (nZ rfl T.uc rfl) aA))) (aa (bY (G.jL (lN T.exc)) η T.dm G.boot_isinstance (aa (pv 2) (aa (nZ rfl T.M9 rfl) aA))) (aa (bY (G.jL (lN T.exc)) η T.dm G.boot_isinstance (aa (pv 2) (aa (nZ rfl T.Ed rfl) aA))) (aa (bY (G.jL (lN T.exc)) η T.dm G.boot_isinstance (aa (pv 2) (aa (nZ rfl T.Ec rfl) aA))) (aa (bY (G.jL (lN T.exc)) η T.dm G.boot_isinstance (aa (pv 2) (aa (nZ rfl T.yQ rfl) aA))) (aa (bY (G.jL (lN T.exc)) η T.dm G.boot_isinstance (aa (pv 2) (aa (M6 rfl T.rJ G.Mq rfl) aA))) (aa (bY (G.jL (lN T.exc)) η T.dm G.boot_isinstance (aa (pv 2) (aa (nZ rfl T.JP rfl) aA))) (aa (bY (G.jL (lN T.exc)) η T.dm G.boot_isinstance (aa (pv 2) (aa (nZ rfl T.Vy rfl) aA))) (aa (bY (G.jL (lN T.exc)) η T.dm G.boot_isinstance (aa (pv 2) (aa (nZ rfl T.Zkw rfl) aA))) (aa (bY (G.jL (lN T.exc)) η T.dm G.boot_isinstance (aa (pv 2) (aa (nZ rfl T.Za9 rfl) aA))) (aa (bY (G.jL (lN T.exc)) η T.dm G.boot_isinstance (aa (pv 2) (aa (nZ rfl T.Zfs rfl) aA))) aA))))))))))))))))
   (aJ (bB Ω)))),?_⟩
  obtain⟨z0,rfl,q⟩:=h;exact Mw T.kq q
theorem Ld{fd:AM}{q8 Ml:AM}(F:nj K "_law_rows_by" "_law_rows_by" tu fJ fd)(gQ:ι 1 d8 q8 oE (Ud K))(Rm:ι 1 fK Ml tX (Fy)):μ 2 fJ fd tW (Fw K):=by
 have sc:=K5;walk_at "ok"
 ·refine⟨qJ K (Ud K) (Fy),(aB (gA 2 sc.nd (aL cU (au) (aL bU (nM gQ hr T.gK (aa Θ (aa (au) aA))) (aL qU (aL Hq (au) (au)) (au)))))
   (aB (gA 3 sc.nd (dU (aa (aL bM (aH) (ji G.pD η T.xV G.boot_str (aa (pv 2) aA))) (aa (aL bM (aH) (nM Rm hr T.yO (aa (nM gQ hr T.gK (aa Θ (aa (au) aA))) aA))) aA))))
   (aB (nY PassesOwn.never rfl (wD Ω) (BR rfl (jo (fj (i:=4) sc.nd rfl (Or.inl rfl)) (jo (fj (i:=5) sc.nd rfl (Or.inl rfl)) wF)))
   (aJ (lW (iW PySem.F.plainAttrs_list PySem.F.slot_list_append PySem.F.type_list_append j0 (pv 3) (aa (aL bM (aL bM (aL bM (aH) (pv 4)) (aH)) (ji G.pD η T.xV G.boot_str (aa (pv 5) aA))) aA)))))
   (aB (lW (iW PySem.F.plainAttrs_list PySem.F.slot_list_append PySem.F.type_list_append j0 (pv 3) (aa (aH) aA)))
   (aJ (bB (pv 3))))))),?_⟩
  obtain⟨z0,z1,rfl,q⟩:=h;exact Mu q
theorem R9{fd:AM}{Mm wU TY:AM}(F:nj K "_law_asked" "_law_asked" vQ gn fd)(Rn:ι 9 fL Mm tY (ug))(qi:ι 9 gM wU ux (uB))(Y0:ι 1 gF TY wH (Fq)):μ 10 gn fd rR (m8):=by
 have sc:=RZ;walk_at "ok"
 ·refine⟨uN K (ug) (uB) (Fq),(aB (gA 2 sc.nd (dZ (aa (aH) (aa (au) aA))))
   (aB (nY PassesOwn.never rfl (pq rfl T.mU (aa (aL cU (bY G.cR η T.iC G.boot_len (aa Θ aA)) (au)) aA)) (fj (i:=3) sc.nd rfl (Or.inl rfl))
   (aJ (cJ (PW.pt (lg (iu dz (jx dW (pv 2) (au)) (aH)) (jk (Zjy (Zrt (VM hr) (pv 3) Ω))))) (aJ (gA 2 sc.nd (dZ (aa (pdg hr Ω (pv 3)) (aa (aL cU (pv 3) (au)) aA))))) bG)))
   (aB (gA 4 sc.nd (iW PySem.F.plainAttrs_str PySem.F.slot_str_join PySem.F.type_str_join G.mj (aH) (aa Θ aA)))
   (aB (gA 5 sc.nd (nM qi hr T.pY (aa (pv 4) aA)))
   (aB (cJ (PW.pt (Ar (iu (G.Zdg hr.units) (pv 5) (pv 2)) (wB (yE (tR (nM Y0 hr T.Ea (aa (jx dW (pv 5) (au)) aA))))))) (aJ (bB (tU))) bG)
   (aB (cJ (iu dz (jx dW (pv 2) (au)) (aH)) (aJ (bB (tU))) bG)
   (aB (gA 6 sc.nd (jx dW (pv 2) (au)))
   (aB (gA 7 sc.nd (dU (aa (rQ dz (pv 6) (aH) (wL _)) (aa (rQ dz (pv 6) (aH) (wL _)) (aa (rQ dz (pv 6) (aH) (wL _)) (aa (rQ dz (pv 6) (aH) (wL _)) aA))))))
   (aJ (bB (rQ (G.Zrz (VM hr)) (nM Rn hr T.yP (aa (pv 4) aA)) (aL tZ (pv 7) (dU (aa (tU) (aa (tU) (aa (tU) (aa (tU) (aa (tU) (aa (tU) (aa (tU) aA))))))))) (wL _)))))))))))),?_⟩
  obtain⟨z0,z1,rfl,q⟩:=h;exact Ub q
theorem Ca{fd:AM}(F:nj K "_law_empty_rows" "_law_empty_rows" nT dI fd){uU:AM}(mD:ι 10 gn uU rR (m8)):μ 11 dI fd ou (vD):=by
 have sc:=Bm;walk_at "ok"
 ·refine⟨nA K (m8),(aB (gA 3 sc.nd (aL cU Ω (aL bU (pv 2) (aL cU (aL qU (bY G.cR η T.iC G.boot_len (aa Θ aA)) Ω) (au)))))
   (aB (cJ (yE (tR (nM mD hr T.mz (aa (aL tZ Θ (dU (aa (aH) aA))) (aa (Zfn (Z2 (bY G.cR η T.iC G.boot_len (aa Θ aA)) (aH) Zfk) rfl rfl ε ε) aA))))) (aJ (bB (tU))) bG)
   (aJ (bB (nM mD hr T.mz (aa (aL tZ (aL tZ (ie rN Θ jR (jm (pv 3))) (dU (aa (aH) aA))) (ie rN Θ (jm (pv 3)) jR)) (aa (Zfn (Z2 (pv 3) (aH) Zfk) rfl rfl ε ε) aA))))))),?_⟩
  obtain⟨z0,z1,z2,rfl,q⟩:=h;exact Cy q
theorem R7{fd:AM}(F:nj K "_law_sixth" "_law_sixth" vM gG fd){wU:AM}(qi:ι 9 gM wU ux (uB)):μ 10 gG fd wI (Ft):=by
 have sc:=RW;walk_at "ok"
 ·refine⟨uL K (uB),(aB (gA 1 sc.nd (aH))
   (aB (gA 2 sc.nd (dU (aa (aH) (aa (aH) aA))))
   (aB (cJ (iu (G.Zdg hr.units) (nM qi hr T.pY (aa (iW PySem.F.plainAttrs_str PySem.F.slot_str_join PySem.F.type_str_join G.mj (aH) (aa (aL tZ (pv 2) (dU (aa (aH) aA))) aA)) aA)) (dZ (aa (aH) (aa (au) aA)))) (aJ (bB (tU))) bG)
   (aB (nY PassesOwn.never rfl (pq rfl T.mU (aa (au) aA)) (fj (i:=3) sc.nd rfl (Or.inl rfl))
   (aJ (lW (iW PySem.F.plainAttrs_list PySem.F.slot_list_append PySem.F.type_list_append j0 (pv 2) (aa (aL bM (aL bM (aH) (jx Qx Ω (aL bU (aL cU Θ (pv 3)) (au)))) (aH)) aA)))))
   (aB (cJ (iu (G.Zdg hr.units) (nM qi hr T.pY (aa (iW PySem.F.plainAttrs_str PySem.F.slot_str_join PySem.F.type_str_join G.mj (aH) (aa (aL tZ (pv 2) (dU (aa (aH) aA))) aA)) aA)) (dZ (aa (aH) (aa (au) aA)))) (aJ (bB (tU))) bG)
   (aB (lW (iW PySem.F.plainAttrs_list PySem.F.slot_list_append PySem.F.type_list_append j0 (pv 2) (aa (aL bM (aL bM (aH) (jx Qx Ω (aL bU (aL cU Θ (aL bU (aL dO Θ (au)) (au))) (au)))) (aH)) aA)))
   (aJ (bB (rQ (G.Zry hr.units) (nM qi hr T.pY (aa (iW PySem.F.plainAttrs_str PySem.F.slot_str_join PySem.F.type_str_join G.mj (aH) (aa (aL tZ (pv 2) (dU (aa (aH) aA))) aA)) aA)) (dZ (aa (aH) (aa (au) aA))) (wL _)))))))))),?_⟩
  obtain⟨z0,rfl,q⟩:=h;exact T9 q
theorem Zs1{fl:AJ}{fd:AM}{uU q8 Cw Jk Ad Q3 Mj T3 qZ za EY:AM}(F:nj K "law" "law" P0 fl fd)(mD:ι 10 gn uU rR (m8))(gQ:ι 1 d8 q8 oE (Ud K))(FN:ι 11 dI Cw ou (vD))(MF:ι 2 eN Jk qQ (zQ))(CV:ι 1 dB Ad nF (pG))(Ug:ι 2 fZ Q3 uR (Nq))(Rk:ι 2 fJ Mj tW (Fw K))(Y4:ι 10 gG T3 wI (Ft))(uh:ι 1 d7 qZ oh (qg))(Af:ι 3 cY za mO (pF))(xm:ι 8 oK EY ["text"] (rB aU aq aF aD aC)):μ 12 fl fd ["_law_script"] (Zgp K):=by
 have sc:=Zri;have tx:=tx0 T;walk_at "ok"
 ·refine⟨Zd9 K (m8) (Ud K) (vD) (zQ) (pG) (Nq) (Fw K) (Ft) (qg) (pF) (rB aU aq aF aD aC),(aB (gA 1 sc.nd (aL bU (aL G.jd (aL cU (nM gQ hr T.gK (aa Θ (aa (au) aA))) (au)) (au)) (au)))
   (aB (W5 (i:=2) sc.nd rfl (Or.inr rfl) (nM MF hr T.xG (aa Ω (aa (nM gQ hr T.gK (aa Θ (aa (au) aA))) aA))))
   (aB (gA 3 sc.nd (nM Rk hr T.yN (aa Θ (aa (pv 2) aA))))
   (aB (gA 4 sc.nd (bY G.cR η T.iC G.boot_len (aa (pv 3) aA)))
   (aB (G.Hg (iz:=7) (cns:=["_law_hands"]) [2] (G.Zo2 rfl T.uq (aa (ie rN Θ (jm (au)) (jm (au))) aA)) (λ_ _ _ _ _=>G.BW) (λ_ _ _ _ _=>(nM Ug hr T.Ay (aa Ω (aa Θ (aa (pv 2) aA))))) rfl rfl (by repeat (first | exact trivial | refine⟨rfl,?_⟩)) (by repeat (first | exact trivial | refine⟨rfl,?_⟩)) rfl γ rfl γ γ rfl rfl γ sc.nd rfl (Or.inl rfl) (Or.inr rfl) rfl)
   (aB (gA 3 sc.nd (aL tZ (pv 3) (G.Zqe (cns:=["_law_hands"]) [2] (wD (pv 7)) (λ_ _ _ _ _=>G.BW) (λ_ _ _ _ _=>(nM uh hr T.t7 (aa Θ (aa Ω aA)))) rfl rfl (by repeat (first | exact trivial | refine⟨rfl,?_⟩)) (by repeat (first | exact trivial | refine⟨rfl,?_⟩)) rfl γ rfl γ γ rfl γ)))
   (aB (gA 8 sc.nd (Zkc))
   (aB (cJ (yE (tR (nM Y4 hr T.Eb (aa (nM gQ hr T.gK (aa Θ (aa (au) aA))) aA)))) (aJ (bB (tU))) bG)
   (aB (cJ (iu dz (aL bU (aL dO Ω (au)) (au)) (au)) (aB (cJ (iu dz (aL bU Ω (au)) (au)) (aJ (W6 (VM hr) (pv 8) (aL cU (pv 4) (au)) (aH) rfl)) bG)
   (aJ (bB (nM mD hr T.mz (aa (aL tZ (ie rN (pv 3) jR (jm (pv 4))) (aL Zrv (dU (aa (aH) aA)) (aL cU (au) (aL bU Ω (au))))) (aa (pv 8) aA)))))) bG)
   (aB (cJ (PW.pt (Ar (yE (tR (nM mD hr T.mz (aa (pv 3) (aa (pv 8) aA))))) (wB (iu oF (bY G.cR η T.iC G.boot_len (aa (Hl (nM xm hr T.Xm (aa (iW PySem.F.plainAttrs_str PySem.F.slot_str_join PySem.F.type_str_join G.mj (aH) (aa (pv 3) aA)) aA)) rfl) aA)) (bY G.cR η T.iC G.boot_len (aa (pv 7) aA)))))) (aJ (bB (tU))) bG)
   (aB (cJ (yE (tR (nM FN hr T.uy (aa (pv 3) (aa (pv 4) (aa (nM gQ hr T.gK (aa Θ (aa (au) aA))) aA)))))) (aJ (bB (tU))) bG)
   (aB (nY PassesOwn.never rfl (pq rfl T.mU (aa (aL cU (au) (aL bU (aL dO Ω (au)) (au))) aA)) (fj (i:=5) sc.nd rfl (Or.inl rfl))
   (aB (gA 6 sc.nd (nM gQ hr T.gK (aa Θ (aa (aL cU (au) (aL G.jd (au) (pv 5))) aA))))
   (aB (gA 9 sc.nd (aL bU (aL bU (aL G.jd (aL cU (aL cU (pv 6) (aL G.jd (au) (pv 5))) (au)) (au)) (au)) (bY G.cR η T.iC G.boot_len (aa (pv 3) aA))))
   (aB (gA 10 sc.nd (aL bU (aL G.jd (aL cU (aL cU (pv 6) (aL G.jd (au) (pv 5))) (au)) (au)) (au)))
   (aB (cJ (iu Zkh (pv 9) (pv 4)) (aJ (wC (nM CV hr T.t8 (aa (pv 2) (aa (pv 10) (aa (pv 9) aA)))) (BR rfl (jo (fj (i:=11) sc.nd rfl (Or.inl rfl)) (jo (fj (i:=12) sc.nd rfl (Or.inl rfl)) wF))))) (aJ (wC (nM Af hr T.rE (aa (jx cF (pv 7) (aL qU (pv 9) (pv 4))) (aa (pv 2) (aa (pv 10) (aa (pv 6) aA))))) (BR rfl (jo (fj (i:=11) sc.nd rfl (Or.inl rfl)) (jo (fj (i:=12) sc.nd rfl (Or.inl rfl)) wF))))))
   (aB (W6 (VM hr) (pv 8) (pv 9) (pv 11) rfl)
   (aJ (wC (pv 12) (BV (pv 3) (pv 9) set_list)))))))))
   (aB (cJ (iu dz (aL bU (aL dO Ω (au)) (au)) (au)) (aB (gA 3 sc.nd (ie rN (pv 3) jR (jm (aL bU Ω (pv 4)))))
   (aJ (W6 (VM hr) (pv 8) (bY G.cR η T.iC G.boot_len (aa (pv 3) aA)) (aH) rfl))) bG)
   (aJ (bB (nM mD hr T.mz (aa (pv 3) (aa (pv 8) aA)))))))))))))))))),?_⟩
  obtain⟨z0,rfl,q⟩:=h;exact Zsh tx q
end
abbrev Fi(K:aK)(c:AJ)(s:Str)(f:AJ):Prop:=W.findIn K (.ref c) s=some (↑f)
abbrev Fo(K:aK)(c:AJ)(s:Str):Prop:=W.findIn K (.ref c) s=some none
abbrev Ns(K:aK)(s:Str)(f:AJ):Prop:=W.nsIn K mainGlobals s=some (↑f)
abbrev Ki(K:aK)(f:AJ):Prop:=W.keepIn K (.ref f)=true
abbrev Ci(K:aK)(c:AK)(s:Str):Prop:=W.codeIn K c s=true
abbrev Lk(K:aK)(f:AJ)(a b:Str)(s:Stmt)(d:AK)(oc:AK)(od:Option AJ)(kV dc pm:AK)(an:Option AJ)(cd ct:AK)(sl:Array AC):Prop:=K.lookup f=some ⟨oc,od,.func (W.fnOf a b (lA s) (je s) (aR s) d kV dc pm an cd ct),sl⟩
def qj(K:aK)(x q:Str)(s:Stmt)(f:AJ):Prop:=∃oc od kV dc pm an cd ct sl,Lk K f x q s .none oc od kV dc pm an cd ct sl/\Ci K cd q/\Ki K f
theorem fgm{K:aK}{x q:Str}{s:Stmt}{f:AJ}{oc:AK}{od:Option AJ}{kV dc pm:AK}{an:Option AJ}{cd ct:AK}{sl:Array AC}(l:Lk K f x q s .none oc od kV dc pm an cd ct sl)(c:Ci K cd q)(k:Ki K f):qj K x q s f:=⟨oc,od,kV,dc,pm,an,cd,ct,sl,l,c,k⟩
theorem fg{K:aK}{x q:Str}{s:Stmt}{f:AJ}(h:qj K x q s f):∃fd,nj K x q s f fd/\Ki K f:=by
 obtain⟨oc,od,kV,dc,pm,an,cd,ct,sl,l,c,k⟩:=h;exact⟨_,Zm8 l c k,k⟩
theorem Ra{K:aK}{x qual:Str}{st:Stmt}{f:AJ}{fd:AM}(F:nj K x qual st f fd)(a0:Str)(h:∀(kV doc pm:AK) (an:Option AJ) (cdv ct u0:AK),bindArgs am ⟨[u0],[]⟩=pure (([a0]:AI).zip [u0]):=by intros;rfl):Binds K fd [a0] []:=F.binds λkV doc pm an cdv ct us hl=>match us,hl with | [u0],_=>h kV doc pm an cdv ct u0
theorem bd2{K:aK}{x qual:Str}{st:Stmt}{f:AJ}{fd:AM}(F:nj K x qual st f fd)(a0 a1:Str)(h:∀(kV doc pm:AK) (an:Option AJ) (cdv ct u0 u1:AK),bindArgs am ⟨[u0,u1],[]⟩=pure (([a0,a1]:AI).zip [u0,u1]):=by intros;rfl):Binds K fd [a0,a1] []:=F.binds λkV doc pm an cdv ct us hl=>match us,hl with | [u0,u1],_=>h kV doc pm an cdv ct u0 u1
theorem bd3{K:aK}{x qual:Str}{st:Stmt}{f:AJ}{fd:AM}(F:nj K x qual st f fd)(a0 a1 a2:Str)(h:∀(kV doc pm:AK) (an:Option AJ) (cdv ct u0 u1 u2:AK),bindArgs am ⟨[u0,u1,u2],[]⟩=pure (([a0,a1,a2]:AI).zip [u0,u1,u2]):=by intros;rfl):Binds K fd [a0,a1,a2] []:=F.binds λkV doc pm an cdv ct us hl=>match us,hl with | [u0,u1,u2],_=>h kV doc pm an cdv ct u0 u1 u2
theorem bd4{K:aK}{x qual:Str}{st:Stmt}{f:AJ}{fd:AM}(F:nj K x qual st f fd)(a0 a1 a2 a3:Str)(h:∀(kV doc pm:AK) (an:Option AJ) (cdv ct u0 u1 u2 u3:AK),bindArgs am ⟨[u0,u1,u2,u3],[]⟩=pure (([a0,a1,a2,a3]:AI).zip [u0,u1,u2,u3]):=by intros;rfl):Binds K fd [a0,a1,a2,a3] []:=F.binds λkV doc pm an cdv ct us hl=>match us,hl with | [u0,u1,u2,u3],_=>h kV doc pm an cdv ct u0 u1 u2 u3
theorem bd5{K:aK}{x qual:Str}{st:Stmt}{f:AJ}{fd:AM}(F:nj K x qual st f fd)(a0 a1 a2 a3 a4:Str)(h:∀(kV doc pm:AK) (an:Option AJ) (cdv ct u0 u1 u2 u3 u4:AK),bindArgs am ⟨[u0,u1,u2,u3,u4],[]⟩=pure (([a0,a1,a2,a3,a4]:AI).zip [u0,u1,u2,u3,u4]):=by intros;rfl):Binds K fd [a0,a1,a2,a3,a4] []:=F.binds λkV doc pm an cdv ct us hl=>match us,hl with | [u0,u1,u2,u3,u4],_=>h kV doc pm an cdv ct u0 u1 u2 u3 u4
theorem all_mk{l:W.OpenLaw}{w:AQ}{K:aK}{h:Heap}{mg:As}{fa fl bR cH cG bK aU bQ cW dX jN fX gW cL aq aF aD aC aY bA bz bh bf aZ aP aW aX aV bu jJ fW j8 jK iZ gr gP gO dG gq j9 dj oK jY d9 di j7 kj jC kE iY kJ fG jz iG jB j6 jA gD eE d8 gF iH eN fK fH gH fZ d7 eF f9 eO eG cY dB gM fL fJ gn dI gG:AJ}(KI:K.In h)(GN:h.Ns mainGlobals mg)(hfa:mg "law"=↑fa)
  {od3 an3 to3 Zwl Zwc Om Ol Oj Ux:Option AJ}
  {sl3 ts3 Zwh:Array AC}
  {oc3 kV3 dc3 pm3 cd3 ct3 tc3 Zmm Zwm Zuv Zw6 Zuh Zty Zw7 U6 Dj Di Ah Ag U5 yd Dh yc JK JH Dg Df Zq7 Zq6 Zfd:AK}
  {td3 Fd Ni UL UJ UG Zg:AJ}
  {tn3 Zba Rz Wr Wq RD RC RB O7 Rx Ry Rw Zg9:Nat}
  {V6 V5 V4 V3 V2 V1 V0 VR VP VN Zaz Zay Zax Zaw:Int}
  {Vg Vf Ve Vd Vc Vb Va U9 U8 U7 Ks Kr Kq Kp Pk Pj Ph Pg Pb Pa O9 O8 KJ KH KD KC Kz Ky Kw Kv Ku Gf Ge Gd Kh Kg Ko Km Kl Kf Ke Kd Zz Zy Zx Zw Zll Zlk Zlj Zli:Tok}
  {NP Uq NK Up NB Uo Ur Ze:Str}
  {Ou JB Ot Jz Oq Jy Uy Nv:AE}
  {Nz Ny Nx Um:AI}
  {Ox Ow Ov Uz:Bool}
  {JF JD JC Oo:Option Bool}
  {Oi Oe Ob N7 NZ Oh Od Oa N6 NT Og Oc N8 N5 NQ Uw Uv Uu Ut Us:AC}
  (Zq2:Ns K "First" bR)
  (Zu6:Ns K "Each" cH)
  (Zu3:Ns K "Last" cG)
  (Zu4:Ns K "Kind" bK)
  (Zq1:Ns K "Scene" aU)
  (Zbn:Ns K "GreyError" bQ)
  (Zbo:Ns K "EmptySlot" cW)
  (Zij:Ns K "NoField" dX)
  (Zu5:Ns K "Full" jN)
  (Zn1:Ns K "NoName" fX)
  (Zq0:Ns K "Sound" gW)
  (Zbm:Ns K "TextError" cL)
  (Zn3:Ns K "BadRow" aq)
  (Zpz:Ns K "Twice" aF)
  (Zn2:Ns K "NoHand" aD)
  (Zn0:Ns K "NoSlot" aC)
  (a1:Fi K cL "__init__" bu)
  (i1:W.isFn K (.ref bu)=true)
  (a2:Ns K "made_of" jJ)
  (a3:Ns K "number_of" fW)
  (l3:Lk K fW "number_of" "number_of" uv (.ref td3) oc3 od3 kV3 dc3 pm3 an3 cd3 ct3 sl3)
  (t3:K.lookup td3=some ⟨tc3,to3,.seq #[Zmm] tn3,ts3⟩)
  (Zw4:RelV .non Zmm)
  (c3:Ci K cd3 "number_of")
  (k3:Ki K fW)
  (a4:Ns K "load_of" j8)
  (a5:Ns K "is_word" jK)
  (a6:Ns K "forms_of" iZ)
  (a7:Fi K bR "word" gr)
  (i7:W.isFn K (.ref gr)=true)
  (a8:Fi K cH "word" gP)
  (i8:W.isFn K (.ref gP)=true)
  (a9:Fi K cG "word" gO)
  (i9:W.isFn K (.ref gO)=true)
  (a10:Fi K bK "__init__" dG)
  (i10:W.isFn K (.ref dG)=true)
  (a11:Fi K bK "words" gq)
  (i11:W.isFn K (.ref gq)=true)
  (a12:Ns K "kind_of" j9)
  (a13:Fi K aU "__init__" dj)
  (i13:W.isFn K (.ref dj)=true)
  (a14:Ns K "read" oK)
  (a15:Ns K "row_at" jY)
  (a16:Ns K "well_formed" d9)
  (a17:Ns K "number_between" di)
  (a18:Ns K "room_in" j7)
  (a19:Ns K "kind_in" kj)
  (a20:Ns K "hands_of" jC)
  (a21:Ns K "hand_of" kE)
  (a22:Ns K "names_of" iY)
  (a23:Ns K "hand_in" kJ)
  (a24:Ns K "is_hand_name" fG)
  (a25:Ns K "weave_of" jz)
  (a26:Ns K "weave_row" iG)
  (a27:Ns K "sweep_in" jB)
  (a28:Ns K "told_in" j6)
  (a29:Ns K "value_of" jA)
  (a30:Ns K "with_hands" gD)
  (a31:Ns K "look_at_slots" eE)
  (a32:Ns K "_law_cell_at" d8)
  (a33:Ns K "_law_whole" gF)
  (a34:Ns K "_law_safe" iH)
  (a35:Ns K "_law_hands_by" eN)
  (a36:Ns K "_law_kind_by" fK)
  (a37:Ns K "_law_word_by" fH)
  (a38:Ns K "_law_large" gH)
  (a39:Ns K "_law_row_by" fZ)
  (a40:Ns K "_law_text_of" d7)
  (a41:Ns K "_law_stranger" eF)
  (a42:Ns K "_law_beyond" f9)
  (a43:Ns K "_law_formless" eO)
  (a44:Ns K "_law_slotless" eG)
  (a45:Ns K "_law_weave_spoilt" cY)
  (a46:Ns K "_law_head_spoilt" dB)
  (a47:Ns K "_law_told" gM)
  (a48:Ns K "_law_classes" fL)
  (a49:Ns K "_law_rows_by" fJ)
  (a50:Ns K "_law_asked" gn)
  (a51:Ns K "_law_empty_rows" dI)
  (a52:Ns K "_law_sixth" gG)
  (a53:Ns K "law" fl)
  (l53:Lk K fl "law" "law" P0 .none Zwm Zwl Zuv Zw6 Zuh Zwc Zty Zw7 Zwh)
  (c53:Ci K Zty "law")
  (k53:Ki K fl)
  (Zkp:Ns K "FORMS" Fd)
  (Zjj:(Fd == sysModules)=false)
  (Zl2:K.lookup Fd=some ⟨.type "dict",none,.dict #[⟨V6,.str "make" Vg,.ref aY⟩,⟨V5,.str "get" Vf,.ref bA⟩,⟨V4,.str "put" Ve,.ref bz⟩,⟨V3,.str "copy" Vd,.ref bh⟩,⟨V2,.str "drop" Vc,.ref bf⟩,⟨V1,.str "give" Vb,.ref aZ⟩,⟨V0,.str "write" Va,.ref aP⟩,⟨VR,.str "read" U9,.ref aW⟩,⟨VP,.str "name" U8,.ref aX⟩,⟨VN,.str "seek" U7,.ref aV⟩] Zba,#[]⟩)
  (Zi5:V6=hashStr w "make")
  (Zi4:V5=hashStr w "get")
  (Zi3:V4=hashStr w "put")
  (Zi2:V3=hashStr w "copy")
  (Zi1:V2=hashStr w "drop")
  (Zi0:V1=hashStr w "give")
  (Zhz:V0=hashStr w "write")
  (Zhy:VR=hashStr w "read")
  (Zhx:VP=hashStr w "name")
  (Zhw:VN=hashStr w "seek")
  (Su:K.lookup aY=some ⟨.type "tuple",none,.seq #[.str "hand" Ks,.str "slot" Kr,.str "many" Kq,.str "bulk" Kp] Rz,#[]⟩)
  (Xr:K.lookup bA=some ⟨.type "tuple",none,.seq #[.str "hand" Pk,.str "slot" Pj,.str "slot" Ph,.str "field" Pg] Wr,#[]⟩)
  (Xq:K.lookup bz=some ⟨.type "tuple",none,.seq #[.str "hand" Pb,.str "slot" Pa,.str "field" O9,.str "slot" O8] Wq,#[]⟩)
  (Sx:K.lookup bh=some ⟨.type "tuple",none,.seq #[.str "hand" KJ,.str "slot" KH,.str "slot" KD] RD,#[]⟩)
  (Sw:K.lookup bf=some ⟨.type "tuple",none,.seq #[.str "hand" KC,.str "slot" Kz] RC,#[]⟩)
  (Sv:K.lookup aZ=some ⟨.type "tuple",none,.seq #[.str "hand" Ky,.str "slot" Kw,.str "hand" Kv,.str "slot" Ku] RB,#[]⟩)
  (Qs:K.lookup aP=some ⟨.type "tuple",none,.seq #[.str "hand" Gf,.str "slot" Ge,.str "load" Gd] O7,#[]⟩)
  (Sq:K.lookup aW=some ⟨.type "tuple",none,.seq #[.str "hand" Kh,.str "slot" Kg] Rx,#[]⟩)
  (Ss:K.lookup aX=some ⟨.type "tuple",none,.seq #[.str "hand" Ko,.str "slot" Km,.str "word" Kl] Ry,#[]⟩)
  (Sh:K.lookup aV=some ⟨.type "tuple",none,.seq #[.str "hand" Kf,.str "slot" Ke,.str "word" Kd] Rw,#[]⟩)
  (Zol:Ns K "MOST" Ni)
  (Znj:(Ni == sysModules)=false)
  (Zou:K.lookup Ni=some ⟨.type "dict",none,.dict #[⟨Zaz,.str "slot" Zz,.int 999 Zll⟩,⟨Zay,.str "field" Zy,.int 999 Zlk⟩,⟨Zax,.str "many" Zx,.int 8 Zlj⟩,⟨Zaw,.str "bulk" Zw,.int 1000000000000 Zli⟩] Zg9,#[]⟩)
  (Zlv:Zaz=hashStr w "slot")
  (Zlu:Zay=hashStr w "field")
  (Zlt:Zax=hashStr w "many")
  (Zls:Zaw=hashStr w "bulk")
  (Zk7:W.plainGet K bR Str.empty=true)
  (Zm0:W.hasDictIn K bR=true)
  (Zk4:W.plainOver K bR=true)
  (Zjn:W.findIn K (.ref bR) "__setattr__"=some (some (.builtin "object.__setattr__")))
  (Zkr:W.makesIn K bR=true)
  (Zlb:Ki K bR)
  (Zki:W.findIn K (.ref bR) "__init__"=some (some (.builtin "object.__init__")))
  (Zo5:W.plainGet K cH Str.empty=true)
  (Zpc:W.hasDictIn K cH=true)
  (Zo1:W.plainOver K cH=true)
  (Znq:W.findIn K (.ref cH) "__setattr__"=some (some (.builtin "object.__setattr__")))
  (Zop:W.makesIn K cH=true)
  (Zp0:Ki K cH)
  (Zoj:W.findIn K (.ref cH) "__init__"=some (some (.builtin "object.__init__")))
  (Zo3:W.plainGet K cG Str.empty=true)
  (Zpa:W.hasDictIn K cG=true)
  (Znz:W.plainOver K cG=true)
  (Zno:W.findIn K (.ref cG) "__setattr__"=some (some (.builtin "object.__setattr__")))
  (Zoo:W.makesIn K cG=true)
  (Zoy:Ki K cG)
  (Zoi:W.findIn K (.ref cG) "__init__"=some (some (.builtin "object.__init__")))
  (Zo4:W.plainGet K bK Str.empty=true)
  (Zpb:W.hasDictIn K bK=true)
  (Zo0:W.plainOver K bK=true)
  (Znp:W.findIn K (.ref bK) "__setattr__"=some (some (.builtin "object.__setattr__")))
  (M8:W.makesIn K bK=true)
  (Zoz:Ki K bK)
  (gm:Fo K bK "looking")
  (gk:Fo K bK "tells")
  (Zk6:W.plainGet K aU Str.empty=true)
  (Zlz:W.hasDictIn K aU=true)
  (Zk3:W.plainOver K aU=true)
  (Zjm:W.findIn K (.ref aU) "__setattr__"=some (some (.builtin "object.__setattr__")))
  (DQ:W.makesIn K aU=true)
  (Zla:Ki K aU)
  (rW:Fo K aU "room")
  (rY:Fo K aU "kind")
  (pK:Fo K aU "hands")
  (rT:Fo K aU "rows")
  (Zh0:K.lookup aq=some ⟨.type "type",Om,.cls ⟨NP,Ou,.ref aq::.ref cL::.ref bQ::[.type "ValueError",.type "Exception",.type "BaseException",.type "object"],UL,Uq,true,Nz,JB,Ox,JF,false⟩,#[Oi,Oe,Ob,N7,some (.builtin "ValueError.__new__"),NZ]⟩)
  (nH:Fi K aq "__init__" bu)
  (lR:W.findIn K (.ref aq) "__setattr__"=some (some (.builtin "object.__setattr__")))
  (uZ:Fo K aq "row")
  (Zgz:K.lookup aD=some ⟨.type "type",Ol,.cls ⟨NK,Ot,.ref aD::.ref cL::.ref bQ::[.type "ValueError",.type "Exception",.type "BaseException",.type "object"],UJ,Up,true,Ny,Jz,Ow,JD,false⟩,#[Oh,Od,Oa,N6,some (.builtin "ValueError.__new__"),NT]⟩)
  (u9:Fi K aD "__init__" bu)
  (sI:W.findIn K (.ref aD) "__setattr__"=some (some (.builtin "object.__setattr__")))
  (uY:Fo K aD "row")
  (Zgy:K.lookup aC=some ⟨.type "type",Oj,.cls ⟨NB,Oq,.ref aC::.ref cL::.ref bQ::[.type "ValueError",.type "Exception",.type "BaseException",.type "object"],UG,Uo,true,Nx,Jy,Ov,JC,false⟩,#[Og,Oc,N8,N5,some (.builtin "ValueError.__new__"),NQ]⟩)
  (u6:Fi K aC "__init__" bu)
  (sH:W.findIn K (.ref aC) "__setattr__"=some (some (.builtin "object.__setattr__")))
  (uX:Fo K aC "row")
  (Zit:K.lookup aF=some ⟨.type "type",Ux,.cls ⟨Ur,Uy,.ref aF::.ref cL::.ref bQ::[.type "ValueError",.type "Exception",.type "BaseException",.type "object"],Zg,Ze,true,Um,Nv,Uz,Oo,false⟩,#[Uw,Uv,Uu,Ut,some (.builtin "ValueError.__new__"),Us]⟩)
  (xY:Fi K aF "__init__" bu)
  (uW:W.findIn K (.ref aF) "__setattr__"=some (some (.builtin "object.__setattr__")))
  (xW:Fo K aF "row")
  (Rt:W.specialIn K (.ref bQ) "__getattribute__"=some (some (.builtin "type.__getattribute__")))
  (Rr:W.readsIn K bQ (.type "type")=true)
  (Rq:W.findCls K (.ref bQ) (.type "type") "__init__"=some (.val (.builtin "ValueError.__init__")))
  (m7:W.exmOne K (.ref aq) (.ref aq)=some true)
  (m6:W.exmOne K (.ref aD) (.ref aD)=some true)
  (m5:W.exmOne K (.ref aC) (.ref aC)=some true)
  (jW:W.exmOne K (.ref aq) (.ref cL)=some true)
  (lz:W.exmOne K (.ref aF) (.ref cL)=some true)
  (jV:W.exmOne K (.ref aD) (.ref cL)=some true)
  (jU:W.exmOne K (.ref aC) (.ref cL)=some true)
  (pM:W.exmOne K (.ref aF) (.ref aF)=some true)
  (lZ:W.exmOne K (.ref aD) (.ref aq)=some false)
  (mZ:W.exmOne K (.ref aD) (.ref aF)=some false)
  (lY:W.exmOne K (.ref aC) (.ref aq)=some false)
  (lX:W.exmOne K (.ref aC) (.ref aD)=some false)
  (mY:W.exmOne K (.ref aC) (.ref aF)=some false)
  (mX:W.exmOne K (.ref aF) (.ref aq)=some false)
  (Zc5:W.findIn K (.ref aq) "__getattribute__"=some (some (.builtin "BaseException.__getattribute__")))
  (Zbz:Fo K aq "__getattr__")
  (Zc8:W.findIn K (.ref aq) "__class__"=some (some (.builtin "object.__class__")))
  (Zbt:W.mroIn K aq (.type "object")=some true)
  (Zbw:W.mroIn K aq (.type "BaseException")=some true)
  (Zc2:W.hasDictIn K aq=true)
  (Zc4:W.findIn K (.ref aD) "__getattribute__"=some (some (.builtin "BaseException.__getattribute__")))
  (Zby:Fo K aD "__getattr__")
  (Zc7:W.findIn K (.ref aD) "__class__"=some (some (.builtin "object.__class__")))
  (Zbs:W.mroIn K aD (.type "object")=some true)
  (Zbv:W.mroIn K aD (.type "BaseException")=some true)
  (Zc1:W.hasDictIn K aD=true)
  (Zc3:W.findIn K (.ref aC) "__getattribute__"=some (some (.builtin "BaseException.__getattribute__")))
  (Zbx:Fo K aC "__getattr__")
  (Zc6:W.findIn K (.ref aC) "__class__"=some (some (.builtin "object.__class__")))
  (Zbr:W.mroIn K aC (.type "object")=some true)
  (Zbu:W.mroIn K aC (.type "BaseException")=some true)
  (Zc0:W.hasDictIn K aC=true)
  (Zgu:W.findIn K (.ref aF) "__getattribute__"=some (some (.builtin "BaseException.__getattribute__")))
  (Zgs:Fo K aF "__getattr__")
  (Zgv:W.findIn K (.ref aF) "__class__"=some (some (.builtin "object.__class__")))
  (Zgq:W.mroIn K aF (.type "object")=some true)
  (Zgr:W.mroIn K aF (.type "BaseException")=some true)
  (Zgt:W.hasDictIn K aF=true)
  (rJ:W.nsIn K mainGlobals "ValueError"=some none)
  (Zf8:W.nsIn K mainGlobals "all"=some none)
  (Wl:W.nsIn K mainGlobals "bool"=some none)
  (uq:W.nsIn K mainGlobals "enumerate"=some none)
  (Ul:W.nsIn K mainGlobals "int"=some none)
  (dm:W.nsIn K mainGlobals "isinstance"=some none)
  (iC:W.nsIn K mainGlobals "len"=some none)
  (Nu:W.nsIn K mainGlobals "list"=some none)
  (Zf7:W.nsIn K mainGlobals "max"=some none)
  (mU:W.nsIn K mainGlobals "range"=some none)
  (xV:W.nsIn K mainGlobals "str"=some none)
  (MK:W.nsIn K mainGlobals "tuple"=some none)
  (Uk:W.nsIn K mainGlobals "zip"=some none)
  (Zej:W.nsIn K mainGlobals "FIGURES"=some (some U6))
  (Zeh:RelV (.str "0123456789") U6)
  (TV:W.nsIn K mainGlobals "FIRST_HAND"=some (some Dj))
  (Tw:RelV (.int 3) Dj)
  (TQ:W.nsIn K mainGlobals "LEAST_ROOM"=some (some Di))
  (Tv:RelV (.int 4) Di)
  (QZ:W.nsIn K mainGlobals "LEAST_SLOTS"=some (some Ah))
  (QW:RelV (.int 3) Ah)
  (QX:W.nsIn K mainGlobals "LEAST_STEPS"=some (some Ag))
  (QV:RelV (.int 1) Ag)
  (Zei:W.nsIn K mainGlobals "LETTERS"=some (some U5))
  (Zeg:RelV (.str "abcdefghijklmnopqrstuvwxyz") U5)
  (Mg:W.nsIn K mainGlobals "MOST_FIGURES"=some (some yd))
  (Ma:RelV (.int 60) yd)
  (TJ:W.nsIn K mainGlobals "MOST_HANDS"=some (some Dh))
  (Tu:RelV (.int 5) Dh)
  (Mf:W.nsIn K mainGlobals "MOST_LETTERS"=some (some yc))
  (LR:RelV (.int 12) yc)
  (Ym:W.nsIn K mainGlobals "MOST_ROOM"=some (some JK))
  (Yk:RelV (.int 1000000000000000) JK)
  (Yl:W.nsIn K mainGlobals "MOST_ROWS"=some (some JH))
  (Yj:RelV (.int 400) JH)
  (TF:W.nsIn K mainGlobals "MOST_SLOTS"=some (some Dg))
  (Tt:RelV (.int 9) Dg)
  (Tz:W.nsIn K mainGlobals "MOST_STEPS"=some (some Df))
  (Tr:RelV (.int 9999) Df)
  (Ztl:W.nsIn K mainGlobals "NEW"=some (some Zq7))
  (Zti:RelV (.int 2) Zq7)
  (Ztk:W.nsIn K mainGlobals "OLD"=some (some Zq6))
  (Zth:RelV (.int 1) Zq6)
  (Zm6:W.nsIn K mainGlobals "SWEEP"=some (some Zfd))
  (Zm5:RelV (.str "sweep") Zfd)
  (Jf:W.kitOne K (.ref aq) (.ref aq)=some true)
  (LK:W.kitOne K (.ref aq) (.ref aF)=some false)
  (Je:W.kitOne K (.ref aq) (.ref aD)=some false)
  (Jb:W.kitOne K (.ref aq) (.ref aC)=some false)
  (Aa:W.kitOne K (.ref aq) (.ref bQ)=some true)
  (Zav:W.kitOne K (.ref aq) (.type "ValueError")=some true)
  (Ab:W.kitOne K (.ref aq) (.ref cW)=some false)
  (Ep:W.kitOne K (.ref aq) (.ref dX)=some false)
  (QT:W.kitOne K (.ref aq) (.ref jN)=some false)
  (Jc:W.kitOne K (.ref aq) (.ref fX)=some false)
  (LQ:W.kitOne K (.ref aq) (.ref gW)=some false)
  (Lw:W.kitOne K (.ref aF) (.ref aq)=some false)
  (QK:W.kitOne K (.ref aF) (.ref aF)=some true)
  (Ls:W.kitOne K (.ref aF) (.ref aD)=some false)
  (Lq:W.kitOne K (.ref aF) (.ref aC)=some false)
  (Cq:W.kitOne K (.ref aF) (.ref bQ)=some true)
  (Ze9:W.kitOne K (.ref aF) (.type "ValueError")=some true)
  (Cr:W.kitOne K (.ref aF) (.ref cW)=some false)
  (Io:W.kitOne K (.ref aF) (.ref dX)=some false)
  (Tp:W.kitOne K (.ref aF) (.ref jN)=some false)
  (Lr:W.kitOne K (.ref aF) (.ref fX)=some false)
  (QL:W.kitOne K (.ref aF) (.ref gW)=some false)
  (IW:W.kitOne K (.ref aD) (.ref aq)=some false)
  (Lz:W.kitOne K (.ref aD) (.ref aF)=some false)
  (IV:W.kitOne K (.ref aD) (.ref aD)=some true)
  (Iz:W.kitOne K (.ref aD) (.ref aC)=some false)
  (zY:W.kitOne K (.ref aD) (.ref bQ)=some true)
  (Zau:W.kitOne K (.ref aD) (.type "ValueError")=some true)
  (zZ:W.kitOne K (.ref aD) (.ref cW)=some false)
  (Eo:W.kitOne K (.ref aD) (.ref dX)=some false)
  (QS:W.kitOne K (.ref aD) (.ref jN)=some false)
  (IK:W.kitOne K (.ref aD) (.ref fX)=some false)
  (LC:W.kitOne K (.ref aD) (.ref gW)=some false)
  (Iw:W.kitOne K (.ref aC) (.ref aq)=some false)
  (Lx:W.kitOne K (.ref aC) (.ref aF)=some false)
  (Iv:W.kitOne K (.ref aC) (.ref aD)=some false)
  (Ir:W.kitOne K (.ref aC) (.ref aC)=some true)
  (zW:W.kitOne K (.ref aC) (.ref bQ)=some true)
  (Zat:W.kitOne K (.ref aC) (.type "ValueError")=some true)
  (zX:W.kitOne K (.ref aC) (.ref cW)=some false)
  (En:W.kitOne K (.ref aC) (.ref dX)=some false)
  (QM:W.kitOne K (.ref aC) (.ref jN)=some false)
  (Iu:W.kitOne K (.ref aC) (.ref fX)=some false)
  (Ly:W.kitOne K (.ref aC) (.ref gW)=some false)
  (g1:qj K "__init__" "TextError.__init__" lF bu)
  (g2:qj K "made_of" "made_of" GF jJ)
  (g4:qj K "load_of" "load_of" GJ j8)
  (g5:qj K "is_word" "is_word" GQ jK)
  (g6:qj K "forms_of" "forms_of" Bt iZ)
  (g7:qj K "word" "First.word" vU gr)
  (g8:qj K "word" "Each.word" yp gP)
  (g9:qj K "word" "Last.word" yo gO)
  (g10:qj K "__init__" "Kind.__init__" qD dG)
  (g11:qj K "words" "Kind.words" vR gq)
  (g12:qj K "kind_of" "kind_of" GK j9)
  (g13:qj K "__init__" "Scene.__init__" oW dj)
  (g14:qj K "read" "read" Zd5 oK)
  (g15:qj K "row_at" "row_at" PX jY)
  (g16:qj K "well_formed" "well_formed" uH d9)
  (g17:qj K "number_between" "number_between" oV di)
  (g18:qj K "room_in" "room_in" GD j7)
  (g19:qj K "kind_in" "kind_in" GP kj)
  (g20:qj K "hands_of" "hands_of" Bs jC)
  (g21:qj K "hand_of" "hand_of" GR kE)
  (g22:qj K "names_of" "names_of" Br iY)
  (g23:qj K "hand_in" "hand_in" GX kJ)
  (g24:qj K "is_hand_name" "is_hand_name" sX fG)
  (g25:qj K "weave_of" "weave_of" Bo jz)
  (g26:qj K "weave_row" "weave_row" yj iG)
  (g27:qj K "sweep_in" "sweep_in" Bq jB)
  (g28:qj K "told_in" "told_in" Gz j6)
  (g29:qj K "value_of" "value_of" Bp jA)
  (g30:qj K "with_hands" "with_hands" vK gD)
  (g31:qj K "look_at_slots" "look_at_slots" qw eE)
  (g32:qj K "_law_cell_at" "_law_cell_at" tG d8)
  (g33:qj K "_law_whole" "_law_whole" vL gF)
  (g34:qj K "_law_safe" "_law_safe" ym iH)
  (g35:qj K "_law_hands_by" "_law_hands_by" qz eN)
  (g36:qj K "_law_kind_by" "_law_kind_by" tD fK)
  (g37:qj K "_law_word_by" "_law_word_by" sY fH)
  (g38:qj K "_law_large" "_law_large" vP gH)
  (g39:qj K "_law_row_by" "_law_row_by" uI fZ)
  (g40:qj K "_law_text_of" "_law_text_of" sZ d7)
  (g41:qj K "_law_stranger" "_law_stranger" qx eF)
  (g42:qj K "_law_beyond" "_law_beyond" uJ f9)
  (g43:qj K "_law_formless" "_law_formless" qC eO)
  (g44:qj K "_law_slotless" "_law_slotless" qy eG)
  (g45:qj K "_law_weave_spoilt" "_law_weave_spoilt" mJ cY)
  (g46:qj K "_law_head_spoilt" "_law_head_spoilt" nu dB)
  (g47:qj K "_law_told" "_law_told" yl gM)
  (g48:qj K "_law_classes" "_law_classes" tE fL)
  (g49:qj K "_law_rows_by" "_law_rows_by" tu fJ)
  (g50:qj K "_law_asked" "_law_asked" vQ gn)
  (g51:qj K "_law_empty_rows" "_law_empty_rows" nT dI)
  (g52:qj K "_law_sixth" "_law_sixth" vM gG)
  :∃fd:AM,(∀(s:AL) (v:AK),BindsTo s fd ⟨[v],[]⟩ [("_law_script",v)])/\∀base:Heap,K.In base->base.Ns mainGlobals mg->vI l.prog w K mg base (G.Kc l.prog w) 12 fa fd ["_law_script"] (Zgp K):=by
 have e:=hfa.symm.trans (W.mg_of KI GN a53);cases e;have mo:∀{s:Str}{v:AK},W.nsIn K mainGlobals s=some (some v)->mg s=some v:=λh=>W.mg_of KI GN h;obtain⟨_,F1,k1⟩:=fg g1;obtain⟨_,F2,k2⟩:=fg g2;obtain⟨_,F4,k4⟩:=fg g4;obtain⟨_,F5,k5⟩:=fg g5;obtain⟨_,F6,k6⟩:=fg g6;obtain⟨_,F7,k7⟩:=fg g7;obtain⟨_,F8,k8⟩:=fg g8;obtain⟨_,F9,k9⟩:=fg g9;obtain⟨_,F10,k10⟩:=fg g10;obtain⟨_,F11,k11⟩:=fg g11;obtain⟨_,F12,k12⟩:=fg g12;obtain⟨_,F13,k13⟩:=fg g13;obtain⟨_,F14,k14⟩:=fg g14;obtain⟨_,F15,k15⟩:=fg g15;obtain⟨_,F16,k16⟩:=fg g16;obtain⟨_,F17,k17⟩:=fg g17;obtain⟨_,F18,k18⟩:=fg g18;obtain⟨_,F19,k19⟩:=fg g19;obtain⟨_,F20,k20⟩:=fg g20;obtain⟨_,F21,k21⟩:=fg g21;obtain⟨_,F22,k22⟩:=fg g22;obtain⟨_,F23,k23⟩:=fg g23;obtain⟨_,F24,k24⟩:=fg g24;obtain⟨_,F25,k25⟩:=fg g25;obtain⟨_,F26,k26⟩:=fg g26;obtain⟨_,F27,k27⟩:=fg g27;obtain⟨_,F28,k28⟩:=fg g28;obtain⟨_,F29,k29⟩:=fg g29;obtain⟨_,F30,k30⟩:=fg g30;obtain⟨_,F31,k31⟩:=fg g31;obtain⟨_,F32,k32⟩:=fg g32;obtain⟨_,F33,k33⟩:=fg g33;obtain⟨_,F34,k34⟩:=fg g34;obtain⟨_,F35,k35⟩:=fg g35;obtain⟨_,F36,k36⟩:=fg g36;obtain⟨_,F37,k37⟩:=fg g37;obtain⟨_,F38,k38⟩:=fg g38;obtain⟨_,F39,k39⟩:=fg g39;obtain⟨_,F40,k40⟩:=fg g40;obtain⟨_,F41,k41⟩:=fg g41;obtain⟨_,F42,k42⟩:=fg g42;obtain⟨_,F43,k43⟩:=fg g43;obtain⟨_,F44,k44⟩:=fg g44;obtain⟨_,F45,k45⟩:=fg g45;obtain⟨_,F46,k46⟩:=fg g46;obtain⟨_,F47,k47⟩:=fg g47;obtain⟨_,F48,k48⟩:=fg g48;obtain⟨_,F49,k49⟩:=fg g49;obtain⟨_,F50,k50⟩:=fg g50;obtain⟨_,F51,k51⟩:=fg g51;obtain⟨_,F52,k52⟩:=fg g52;have T:Txt w K mg bR cH cG bK aU bQ cW dX jN fX gW cL aq aF aD aC aY bA bz bh bf aZ aP aW aX aV bu jJ fW j8 jK iZ gr gP gO dG gq j9 dj oK jY d9 di j7 kj jC kE iY kJ fG jz iG jB j6 jA gD eE d8 gF iH eN fK fH gH fZ d7 eF f9 eO eG cY dB gM fL fJ gn dI gG:={
  Pn:=⟨Fd,_,_,Zba,W.mg_of KI GN Zkp,Zjj,Zl2,⟨rfl,rfl,rfl⟩,rfl,Zi5,⟨Vg,rfl⟩,rfl,Zi4,⟨Vf,rfl⟩,rfl,Zi3,⟨Ve,rfl⟩,rfl,Zi2,⟨Vd,rfl⟩,rfl,Zi1,⟨Vc,rfl⟩,rfl,Zi0,⟨Vb,rfl⟩,rfl,Zhz,⟨Va,rfl⟩,rfl,Zhy,⟨U9,rfl⟩,rfl,Zhx,⟨U8,rfl⟩,rfl,Zhw,⟨U7,rfl⟩,rfl,trivial⟩
  Am:=λH=>.inr ⟨_,_,_,Su,rfl,rfl,by simp[sizeLine_eq],.cons ⟨_,rfl⟩ (.cons ⟨_,rfl⟩ (.cons ⟨_,rfl⟩ (.cons ⟨_,rfl⟩ .nil)))⟩
  Dl:=λH=>.inr ⟨_,_,_,Xr,rfl,rfl,by simp[sizeLine_eq],.cons ⟨_,rfl⟩ (.cons ⟨_,rfl⟩ (.cons ⟨_,rfl⟩ (.cons ⟨_,rfl⟩ .nil)))⟩
  Dk:=λH=>.inr ⟨_,_,_,Xq,rfl,rfl,by simp[sizeLine_eq],.cons ⟨_,rfl⟩ (.cons ⟨_,rfl⟩ (.cons ⟨_,rfl⟩ (.cons ⟨_,rfl⟩ .nil)))⟩
  Aq:=λH=>.inr ⟨_,_,_,Sx,rfl,rfl,by simp[sizeLine_eq],.cons ⟨_,rfl⟩ (.cons ⟨_,rfl⟩ (.cons ⟨_,rfl⟩ .nil))⟩
  Ao:=λH=>.inr ⟨_,_,_,Sw,rfl,rfl,by simp[sizeLine_eq],.cons ⟨_,rfl⟩ (.cons ⟨_,rfl⟩ .nil)⟩
  An:=λH=>.inr ⟨_,_,_,Sv,rfl,rfl,by simp[sizeLine_eq],.cons ⟨_,rfl⟩ (.cons ⟨_,rfl⟩ (.cons ⟨_,rfl⟩ (.cons ⟨_,rfl⟩ .nil)))⟩
  ye:=λH=>.inr ⟨_,_,_,Qs,rfl,rfl,by simp[sizeLine_eq],.cons ⟨_,rfl⟩ (.cons ⟨_,rfl⟩ (.cons ⟨_,rfl⟩ .nil))⟩
  Aj:=λH=>.inr ⟨_,_,_,Sq,rfl,rfl,by simp[sizeLine_eq],.cons ⟨_,rfl⟩ (.cons ⟨_,rfl⟩ .nil)⟩
  Ak:=λH=>.inr ⟨_,_,_,Ss,rfl,rfl,by simp[sizeLine_eq],.cons ⟨_,rfl⟩ (.cons ⟨_,rfl⟩ (.cons ⟨_,rfl⟩ .nil))⟩
  Ai:=λH=>.inr ⟨_,_,_,Sh,rfl,rfl,by simp[sizeLine_eq],.cons ⟨_,rfl⟩ (.cons ⟨_,rfl⟩ (.cons ⟨_,rfl⟩ .nil))⟩
  Gg:=⟨Ni,_,_,Zg9,W.mg_of KI GN Zol,Znj,Zou,⟨rfl,rfl,rfl⟩,rfl,Zlv,⟨Zz,rfl⟩,⟨_,rfl⟩,Zlu,⟨Zy,rfl⟩,⟨_,rfl⟩,Zlt,⟨Zx,rfl⟩,⟨_,rfl⟩,Zls,⟨Zw,rfl⟩,⟨_,rfl⟩,trivial⟩
  Zbi:=⟨Zk7,Zm0,Zk4,Zjn⟩
  Zfu:=mo Zq2
  Vr:=⟨Zkr,Zki,Zlb⟩
  Zgl:=⟨Zo5,Zpc,Zo1,Znq⟩
  Zkx:=mo Zu6
  Za6:=⟨Zop,Zoj,Zp0⟩
  Zgk:=⟨Zo3,Zpa,Znz,Zno⟩
  Zku:=mo Zu3
  Za5:=⟨Zoo,Zoi,Zoy⟩
  lB:=⟨Zo4,Zpb,Zo0,Znp⟩
  Zkv:=mo Zu4
  M8:=⟨M8,a10,i10,Zoz⟩
  gm:=gm
  gk:=gk
  qb:=⟨Zk6,Zlz,Zk3,Zjm⟩
  Zft:=mo Zq1
  DQ:=⟨DQ,a13,i13,Zla⟩
  rW:=rW
  rY:=rY
  pK:=pK
  rT:=rT
  yQ:=mo Zbn
  JP:=mo Zbo
  Vy:=mo Zij
  Zkw:=mo Zu5
  Za9:=mo Zn1
  Zfs:=mo Zq0
  JN:=mo Zbm
  uc:=mo Zn3
  M9:=mo Zpz
  Ed:=mo Zn2
  Ec:=mo Zn0
  nH:=⟨⟨NP,Uq,UL,Ou,[cL,bQ],Nz,JB,Ox,JF,Om,Oi,Oe,Ob,N7,NZ,Zh0⟩,nH,i1⟩
  lR:=⟨lR,uZ⟩
  uZ:=uZ
  u9:=⟨⟨NK,Up,UJ,Ot,[cL,bQ],Ny,Jz,Ow,JD,Ol,Oh,Od,Oa,N6,NT,Zgz⟩,u9,i1⟩
  sI:=⟨sI,uY⟩
  uY:=uY
  u6:=⟨⟨NB,Uo,UG,Oq,[cL,bQ],Nx,Jy,Ov,JC,Oj,Og,Oc,N8,N5,NQ,Zgy⟩,u6,i1⟩
  sH:=⟨sH,uX⟩
  uX:=uX
  xY:=⟨⟨Ur,Ze,Zg,Uy,[cL,bQ],Um,Nv,Uz,Oo,Ux,Uw,Uv,Uu,Ut,Us,Zit⟩,xY,i1⟩
  uW:=⟨uW,xW⟩
  xW:=xW
  CZ:=⟨Rt,Rr,Rq⟩
  m7:=m7
  m6:=m6
  m5:=m5
  jW:=jW
  lz:=lz
  jV:=jV
  jU:=jU
  pM:=pM
  lZ:=lZ
  mZ:=mZ
  lY:=lY
  lX:=lX
  mY:=mY
  mX:=mX
  exc:=by
   intro C hC;simp only[List.mem_cons,List.not_mem_nil,or_false]at hC;rcases hC with rfl | rfl | rfl | rfl
   ·exact⟨Zc5,Zbz,Zc8,Zbt,Zbw,Zc2⟩
   ·exact⟨Zc4,Zby,Zc7,Zbs,Zbv,Zc1⟩
   ·exact⟨Zc3,Zbx,Zc6,Zbr,Zbu,Zc0⟩
   ·exact⟨Zgu,Zgs,Zgv,Zgq,Zgr,Zgt⟩
  xR:=⟨a1,i1,k1⟩
  HJ:=mo a2
  pX:=mo a3
  Vu:=mo a4
  HN:=mo a5
  Cj:=mo a6
  Ax:=⟨a7,i7,k7⟩
  DX:=⟨a8,i8,k8⟩
  DW:=⟨a9,i9,k9⟩
  HH:=⟨a10,i10,k10⟩
  Aw:=⟨a11,i11,k11⟩
  Vv:=mo a12
  DR:=⟨a13,i13,k13⟩
  Xm:=mo a14
  yK:=mo a15
  j5:=mo a16
  mq:=mo a17
  Vt:=mo a18
  Vw:=mo a19
  Qp:=mo a20
  HQ:=mo a21
  Cg:=mo a22
  Vx:=mo a23
  yL:=mo a24
  Qm:=mo a25
  JL:=mo a26
  Qo:=mo a27
  Vs:=mo a28
  Qn:=mo a29
  DY:=mo a30
  xu:=mo a31
  gK:=mo a32
  Ea:=mo a33
  JM:=mo a34
  xG:=mo a35
  yO:=mo a36
  yM:=mo a37
  oG:=mo a38
  Ay:=mo a39
  t7:=mo a40
  xx:=mo a41
  Az:=mo a42
  qY:=mo a43
  xF:=mo a44
  rE:=mo a45
  t8:=mo a46
  pY:=mo a47
  yP:=mo a48
  yN:=mo a49
  mz:=mo a50
  uy:=mo a51
  Eb:=mo a52
  rJ:=W.mg_none_of KI GN rJ
  Zf8:=W.mg_none_of KI GN Zf8
  Wl:=W.mg_none_of KI GN Wl
  uq:=W.mg_none_of KI GN uq
  Ul:=W.mg_none_of KI GN Ul
  dm:=W.mg_none_of KI GN dm
  iC:=W.mg_none_of KI GN iC
  Nu:=W.mg_none_of KI GN Nu
  Zf7:=W.mg_none_of KI GN Zf7
  mU:=W.mg_none_of KI GN mU
  xV:=W.mg_none_of KI GN xV
  MK:=W.mg_none_of KI GN MK
  Uk:=W.mg_none_of KI GN Uk
  V9:=⟨_,W.mg_of KI GN Zej,Zeh⟩
  rZ:=⟨_,W.mg_of KI GN TV,Tw⟩
  Ey:=⟨_,W.mg_of KI GN TQ,Tv⟩
  Bd:=⟨_,W.mg_of KI GN QZ,QW⟩
  Bc:=⟨_,W.mg_of KI GN QX,QV⟩
  V8:=⟨_,W.mg_of KI GN Zei,Zeg⟩
  yV:=⟨_,W.mg_of KI GN Mg,Ma⟩
  Ew:=⟨_,W.mg_of KI GN TJ,Tu⟩
  yU:=⟨_,W.mg_of KI GN Mf,LR⟩
  J1:=⟨_,W.mg_of KI GN Ym,Yk⟩
  J0:=⟨_,W.mg_of KI GN Yl,Yj⟩
  Eu:=⟨_,W.mg_of KI GN TF,Tt⟩
  Et:=⟨_,W.mg_of KI GN Tz,Tr⟩
  Zqo:=⟨_,W.mg_of KI GN Ztl,Zti⟩
  Zqn:=⟨_,W.mg_of KI GN Ztk,Zth⟩
  Nh:=⟨_,W.mg_of KI GN Zm6,Zm5⟩
  kq:=⟨⟨Jf,LK,Je,Jb,Aa,Zav,Ab,Ep,QT,Jc,LQ⟩,⟨Lw,QK,Ls,Lq,Cq,Ze9,Cr,Io,Tp,Lr,QL⟩,⟨IW,Lz,IV,Iz,zY,Zau,zZ,Eo,QS,IK,LC⟩,⟨Iw,Lx,Iv,Ir,zW,Zat,zX,En,QM,Iu,Ly⟩⟩
 }
 have b1:=bd2 F1 "self" "row";have b2:=bd3 F2 "text" "signs" "most";have F3:=G.Zpe (st:=uv) l3 c3 k3;have b3:=G.Zmy (ps:=["text","most"]) (ds:=[]) l3 t3 λus hl=>match us,hl with | [_,_],_=>⟨_,rfl,rfl⟩
 have Zwa:=G.Zmy (ps:=["text","most"]) (ds:=[Zmm]) l3 t3 λus hl=>match us,hl with | [_],_=>⟨_,rfl,rfl⟩
 have b4:=Ra F4 "text";have b5:=Ra F5 "text";have b6:=Ra F6 "word";have b7:=Ra F7 "self";have b8:=Ra F8 "self";have b9:=Ra F9 "self";have b10:=bd3 F10 "self" "looking" "tells";have b11:=Ra F11 "self";have b12:=Ra F12 "text";have b13:=bd5 F13 "self" "room" "kind" "hands" "rows";have b14:=Ra F14 "text";have b15:=bd2 F15 "rows" "number";have b16:=bd2 F16 "found" "number";have b17:=bd3 F17 "text" "least" "most";have b18:=Ra F18 "row";have b19:=Ra F19 "row";have b20:=Ra F20 "rows";have b21:=bd3 F21 "rows" "number" "earlier";have b22:=Ra F22 "hands";have b23:=Ra F23 "row";have b24:=Ra F24 "text";have b25:=bd3 F25 "rows" "first" "hands";have b26:=bd3 F26 "parts" "number" "hands";have b27:=Ra F27 "parts";have b28:=Ra F28 "parts";have b29:=bd2 F29 "form" "text";have b30:=bd4 F30 "forms" "told" "number" "hands";have b31:=bd4 F31 "forms" "values" "number" "hands";have b32:=bd2 F32 "_law_script" "_law_k";have b33:=Ra F33 "_law_found";have b34:=Ra F34 "_law_name";have b35:=bd2 F35 "_law_way" "_law_cell";have b36:=Ra F36 "_law_cell";have b37:=bd2 F37 "_law_cell" "_law_way";have b38:=bd3 F38 "_law_cell" "_law_way" "_law_most";have b39:=bd3 F39 "_law_cell" "_law_k" "_law_hands";have b40:=bd2 F40 "_law_row" "_law_hands";have b41:=bd2 F41 "_law_hands" "_law_cell";have b42:=bd3 F42 "_law_row" "_law_k" "_law_cell";have b43:=bd4 F43 "_law_row" "_law_words" "_law_way" "_law_cell";have b44:=bd3 F44 "_law_row" "_law_hands" "_law_way";have b45:=bd4 F45 "_law_row" "_law_hands" "_law_way" "_law_cell";have b46:=bd3 F46 "_law_hands" "_law_way" "_law_at";have b47:=Ra F47 "_law_text";have b48:=Ra F48 "_law_text";have b49:=bd2 F49 "_law_script" "_law_hands";have b50:=bd2 F50 "_law_rows" "_law_dues";have b51:=bd3 F51 "_law_rows" "_law_head" "_law_cell";have b52:=Ra F52 "_law_cell";have F53:=Zm8 (st:=P0) l53 c53 k53;refine⟨W.fnOf "law" "law" (lA P0) (je P0) (aR P0) .none Zuv Zw6 Zuh Zwc Zty Zw7,λs v=>.of_eq rfl,λbase _ _=>?_⟩;have G1:=hh (w:=w) (xP l.prog base T F1 ) b1 k1;have G2:=hh (w:=w) (Zdj l.prog base T F2 ) b2 k2;have G6:=hh (w:=w) (Za2 l.prog base T F6 ) b6 k6;have G7:=hh (w:=w) (Sg l.prog base T F7 ) b7 k7;have G8:=hh (w:=w) (Xf l.prog base T F8 ) b8 k8;have G9:=hh (w:=w) (Xe l.prog base T F9 ) b9 k9;have G10:=hh (w:=w) (Hz l.prog base T F10 ) b10 k10;have G13:=hh (w:=w) (DN l.prog base T F13 ) b13 k13;have G22:=hh (w:=w) (Za0 l.prog base T F22 ) b22 k22;have G32:=hh (w:=w) (Lg l.prog base T F32 ) b32 k32;have G33:=hh (w:=w) (R6 l.prog base T F33 ) b33 k33;have G34:=hh (w:=w) (Xd l.prog base T F34 ) b34 k34;have G36:=hh (w:=w) (Le l.prog base T F36 ) b36 k36;have G37:=hh (w:=w) (La l.prog base T F37 ) b37 k37;have G38:=hh (w:=w) (R8 l.prog base T F38 ) b38 k38;have G40:=hh (w:=w) (Lb l.prog base T F40 ) b40 k40;have G41:=hh (w:=w) (Ht l.prog base T F41 ) b41 k41;have G42:=hh (w:=w) (Qk l.prog base T F42 ) b42 k42;have G44:=hh (w:=w) (Hu l.prog base T F44 ) b44 k44;have G46:=hh (w:=w) (zV l.prog base T F46 ) b46 k46;have G3:=hh (w:=w) (Xb l.prog base T F3 G2) b3 k3;have G5:=hh (w:=w) (Zdn l.prog base T F5 G2) b5 k5;have G11:=hh (w:=w) (Sd l.prog base T F11 G8 G7 G9) b11 k11;have G35:=hh (w:=w) (Hv l.prog base T F35 G34) b35 k35;have G39:=hh (w:=w) (Qj l.prog base T F39 G38 G37) b39 k39;have G43:=hh (w:=w) (Hw l.prog base T F43 G42) b43 k43;have G49:=hh (w:=w) (Ld l.prog base T F49 G32 G36) b49 k49;have G4:=hh (w:=w) (Zdk l.prog base T F4 G3 Zwa (.cons Zw4 .nil)) b4 k4;have G12:=hh (w:=w) (Zdl l.prog base T F12 G10 G11) b12 k12;have G15:=hh (w:=w) (Zhn l.prog base T F15 G1) b15 k15;have G16:=hh (w:=w) (Qi l.prog base T F16 G1) b16 k16
 have G17:=hh (w:=w) (DG l.prog base T F17 G3) b17 k17;have G24:=hh (w:=w) (K9 l.prog base T F24 G5) b24 k24;have G30:=hh (w:=w) (R5 l.prog base T F30 G1 G22) b30 k30;have G31:=hh (w:=w) (Hr l.prog base T F31 G1) b31 k31;have G45:=hh (w:=w) (yI l.prog base T F45 G43 G44 G41 G40) b45 k45;have G18:=hh (w:=w) (Zdi l.prog base T F18 G17) b18 k18;have G19:=hh (w:=w) (Zdm l.prog base T F19 G12) b19 k19;have G23:=hh (w:=w) (Zdp l.prog base T F23 G24 G17) b23 k23;have G27:=hh (w:=w) (Z9 l.prog base T F27 G17) b27 k27;have G29:=hh (w:=w) (Z8 l.prog base T F29 G5 G4 G3) b29 k29;have G21:=hh (w:=w) (Zdo l.prog base T F21 G1 G23 G22 G15 G16) b21 k21;have G28:=hh (w:=w) (Zdh l.prog base T F28 G6 G29) b28 k28;have G20:=hh (w:=w) (Za1 l.prog base T F20 G1 G21 G15) b20 k20;have G26:=hh (w:=w) (W8 l.prog base T F26 G6 G31 G27 G28 G16 G30) b26 k26;have G25:=hh (w:=w) (Z7 l.prog base T F25 G1 G26) b25 k25;have G14:=hh (w:=w) (Zoh l.prog base T F14 G13 G20 G19 G18 G15 G25 G16) b14 k14;have G47:=hh (w:=w) (Xc l.prog base T F47 G14) b47 k47;have G48:=hh (w:=w) (Lf l.prog base T F48 G14) b48 k48;have G50:=hh (w:=w) (R9 l.prog base T F50 G48 G47 G33) b50 k50;have G52:=hh (w:=w) (R7 l.prog base T F52 G47) b52 k52;have G51:=hh (w:=w) (Ca l.prog base T F51 G50) b51 k51;exact Zs1 _ _ T F53 G50 G32 G51 G35 G46 G39 G49 G52 G40 G45 G14
theorem walk{l:W.OpenLaw}{q:AN}{loose:AI}{XP:(As)->Heap->Prop}{YP:AQ->Heap->Prop}{d:DefRec}{K:Params->aK}(hn:l.most=some 63)(hdf:d.params.defaults=[])
  (hY:∀(w:AQ) (h:Heap),YP w h->(K w.params).In h)
  (F:∀(w:AQ) (mg:As) (fa:AJ) (h:Heap),(K w.params).In h->h.Ns mainGlobals mg->mg d.name=↑fa->
   ∃fd:AM,(∀(s:AL) (u:AK),BindsTo s fd ⟨[u],[]⟩ [("_law_script",u)])/\∀base:Heap,(K w.params).In base->base.Ns mainGlobals mg->vI l.prog w (K w.params) mg base (G.Kc l.prog w) 12 fa fd ["_law_script"] (Zgp (K w.params))):
  W.WalkO q loose XP YP l.row.toRowW d [] (λf vs=>PySem.call f vs):=
 G.Ziy (n:=63) (k:=12) (x:="_law_script") (CX:=λw=>G.Kc l.prog w) (sp:=λw=>Zgp (K w.params)) hn ε hdf ⟨rfl,ε,ε⟩ hY F (λ_ _ a ns hl _ hS hb=>⟨a,rfl,ns,hS,hl,hb,λ_=>rfl⟩) λ_ _ _ _ _ z=>by
  obtain⟨_,_,_,_,_,_,_,_,_,_,_,_,z⟩:=z;exact z
end K37
namespace PySem.W.Fast
def tw7749984513652422787:=0
def tw7603256671122322883:=0
def tw9908849932561204899:=0
def tw4656815803772539044:=0
def tw15388565055220983396:=0
def tw2642329152684131910:=0
def tw13468027409560732423:=0
def tw7160848259781818311:=0
def tw8391324548623504522:=0
def tw18215628611862213226:=0
def tw14514636417533560683:=0
def tw13463942007731910156:=0
def tw10717830947182314925:=0
def tw7166411136374940206:=0
def tw17416366055972758094:=0
def tw1031704455598190895:=0
def tw13555379076327766224:=0
def tw4113279809419648244:=0
def tw3582969738945818228:=0
def tw5048563831445710230:=0
def tw4603826073564844090:=0
def tw6500804383038925146:=0
def tw10974147133328358332:=0
def tw8643160464366446109:=0
def tw4822568259643205533:=0
def tw16602364773673310366:=0
def tw17655810722667890899:=0
def tw9036519686421037488:=0
def tw8839657322587962794:=0
def tw14882002024529818581:=0
def tw11651800659211312487:=0
def tw4017958682112454321:=0
def tw7850190668535090169:=0
def tw9069601862994208314:=0
def tw219568548776115461:=0
def tw10117401269345116078:=0
def tw8993588689520966572:=0
def tw12500332384236154912:=0
def tw10725707784086345218:=0
def tw18106664832053720999:=0
def tw1291050380810407321:=0
def tw16583311765502495600:=0
def tw13877320980195401576:=0
def tw463149698969863010:=0
def tw5271829799925202172:=0
def tw16638555495655936219:=0
def tw11532317474774587118:=0
def tw7483733904627306358:=0
def tw16659899016485173883:=0
def tw4957432729829328419:=0
def tw8618202950528951075:=0
def tw7134323958370998415:=0
def tw9820112633296560977:=0
def tw10505960685818417219:=0
def tw8936072260975698595:=0
def tw4733930215378994081:=0
def tw12636957342187746272:=0
def tw5227979633600891756:=0
def tw6785427436968767229:=0
def tw9165955156925343097:=0
def tw2569274879452085274:=0
def tw567591283462221587:=0
def tw16384415305275723033:=0
def tw2771411103694347804:=0
def tw10834706504757742994:=0
def tw9451568879849859089:=0
def tw2897315926753424979:=0
def tw9140271127528605472:=0
def tw6952681105310128384:=0
def tw9330020387461038134:=0
def tw10973195876590862516:=0
def tw6626699746129614394:=0
def tw5065003694045239998:=0
def tw13074816612829935894:=0
def tw10488765718275965278:=0
def tw14763025067545922519:=0
def tw14468931071669463980:=0
def tw10282925524234781786:=0
def tw11056465321097620731:=0
def tw13300606985338470524:=0
def tw676339901343441709:=0
def tw6896606489656415939:=0
def tw6531771825780770870:=0
def tw3522788083790469602:=0
def tw14508679912372994461:=0
def tw3410622309229898448:=0
def tw2321343268790808471:=0
def tw2867017138030776191:=0
def tw996613383117682382:=0
def tw14060382263503381497:=0
def tw16171567981475233517:=0
def tw17224913254611577261:=0
def tw12732057583002910639:=0
def tw184400865552249790:=0
def tw13918213865497859271:=0
def tw13624780596388742708:=0
def tw16081363892424542777:=0
def tw7031686081249238012:=0
def tw1806763781359901722:=0
def tw13510321872711445089:=0
def tw11922761504517991053:=0
def tw556416547084818193:=0
def tw2328152081620381146:=0
def tw2626164854790462365:=0
def tw15158625699434142853:=0
def tw9520029793133641438:=0
def tw10620402225298320017:=0
def tw1857231176737544556:=0
def tw3835181471017407208:=0
def tw424847317535336390:=0
def tw16642243685179603668:=0
def tw7224821061192663740:=0
def tw14327576510935014043:=0
def tw9415873900186184216:=0
def tw12421769663988032778:=0
def tw298297144575458627:=0
def tw6038503705879613106:=0
def tw4813970399274566219:=0
def tw8483731028242453561:=0
def tw160167063893183327:=0
def tw9348363159761642010:=0
def tw12194361552992490494:=0
def tw3116913625261504543:=0
def tw12889437325581055906:=0
def tw4962100149685526527:=0
def tw6924904893281274563:=0
def tw3505402254235480550:=0
def tw4496361043204200399:=0
def tw11831226329316289035:=0
def tw2372803664575809290:=0
def tw12312535154993721828:=0
def tw15737465430493888681:=0
def tw18444681407267182689:=0
def tw8262637423991337612:=0
def tw10047286849403814446:=0
def tw15914246087096837557:=0
def tw17075050205579196006:=0
def tw1000625354608607762:=0
def tw12477961491918386553:=0
def tw2737155289319581692:=0
def tw15253815576212256855:=0
def tw14678687259167957157:=0
def tw15178803907721128844:=0
def tw7950664093412498717:=0
def tw7651954802304445964:=0
def tw16146019745297319021:=0
def tw1962748288726672525:=0
def tw3785513008296542:=0
def tw1602487173865187058:=0
def tw2222271185116619914:=0
def tw4783408255375509427:=0
def tw15360257835701933523:=0
def tw8344892448620598727:=0
def tw114165673780928438:=0
def tw14939638651134457398:=0
def tw16744087009964774070:=0
def tw5067132241965594348:=0
def tw14675035522946470917:=0
def tw10122745837797882991:=0
def tw8103919637264216692:=0
def tw12505525633254936974:=0
def tw15081756571836351923:=0
def tw13879263365697401664:=0
def tw12863591571141812940:=0
def tw10071884816574709485:=0
def tw15344404548398513326:=0
def tw12977262076388137338:=0
def tw13040404053769808195:=0
def tw7719803602018169603:=0
def tw12836971160446389691:=0
def tw7062204828219671162:=0
def tw11619812690807304943:=0
def tw9488032116606090122:=0
def tw8304973703025799965:=0
def tw16645435938142825540:=0
def tw5023501290883153918:=0
def tw6493703664031919669:=0
def tw12158512056180138496:=0
def tw17844221554536422988:=0
def tw3881625434080625672:=0
def tw3201927180650940109:=0
def tw6908695462254345486:=0
def tw9761025742933469961:=0
def tw1483128632107559671:=0
def tw17694270908778249195:=0
def tw1535645193492076517:=0
def tw5515128609228512006:=0
def tw9664089887653979347:=0
def tw6267189981355061098:=0
def tw2325868950639033594:=0
def tw17254733776853180050:=0
def tw5016363861602159921:=0
def tw18114187768786359459:=0
def tw12156398441456381590:=0
def tw4962500216219856169:=0
def tw9565051767535504523:=0
def tw7205384859674890714:=0
def tw17777129252298712572:=0
def tw10683060667970403211:=0
def tw5686450553223598936:=0
def tw1032241644587440755:=0
def tw6440915062395257912:=0
def tw13515657304689944753:=0
def tw7147179826564931278:=0
def tw14242768498009080321:=0
def tw9391810380234273280:=0
def tw6486212203868222697:=0
def tw16234751241490922980:=0
def tw10436947841319659317:=0
def tw1457006693755995859:=0
def tw7168078229319887759:=0
def tw16486428536200271365:=0
def tw5257309972136967364:=0
def tw7002526418117688351:=0
def tw7297744940530942119:=0
def tw7444914214582256075:=0
def tw13532438922875717562:=0
def tw7826124393854827509:=0
def tw16821177360580441859:=0
def tw2258538055648840477:=0
def tw6143578035171280551:=0
def tw2408279475562935104:=0
def tw7958584016094718879:=0
def tw10003201671985863362:=0
def tw9676242267213939999:=0
def tw5230786115959872862:=0
def tw13777904691270199225:=0
def tw9510868785656754589:=0
def tw8682479535577453853:=0
def tw13474226459909112224:=0
def tw12527769296183018275:=0
def tw15269703311810302179:=0
def tw2892661176348281826:=0
def tw11484796747602409235:=0
def tw3339153045113447027:=0
def tw2101821837245089937:=0
def tw656332320693802675:=0
def tw10333905434961044700:=0
def tw11942784904382500802:=0
def tw14140886291139233212:=0
def tw5589841751598312588:=0
def tw18321273848377264404:=0
def tw1226311897171908443:=0
def tw4708100686273445279:=0
def tw3007692427750709803:=0
def tw693940091345765334:=0
def tw4559496726945307087:=0
def tw10327574149648053059:=0
def tw1637853508976861085:=0
def tw9371401703365392:=0
def tw11660533802683475544:=0
def tw7505520690596817795:=0
def tw6367372616246601171:=0
def tw13253328568792718026:=0
def tw17488729660635159408:=0
def tw4918083842541628661:=0
def tw12983879460798841340:=0
def tw17197889807889354179:=0
def tw375638359618187668:=0
def tw9055077770961231013:=0
def tw10820456430134744591:=0
def tw14030349094688618802:=0
def tw14631407045898312044:=0
def tw6415380413267694714:=0
def tw708249645299480603:=0
def tw7485043258408536954:=0
def tw11213275170008882318:=0
def tw12547937415893187629:=0
def tw15799629566250701787:=0
def tw5463493026102633683:=0
def tw15124434681475756554:=0
def tw4595974554749396328:=0
def tw8109944718389469300:=0
def tw3688882462109264425:=0
def tw4019159656121079228:=0
def tw10021294340474854298:=0
def tw9247617846081926732:=0
def tw17780972017163448350:=0
def tw13277637374476428133:=0
def tw12402934936504181426:=0
def tw238461146072739829:=0
def tw8104335360014142920:=0
def tw9543900130966043102:=0
def tw1754425560656326279:=0
def tw14202977720492435349:=0
def tw9931343309566840472:=0
def tw2766336992182566792:=0
def tw12176055218299288885:=0
def tw16757829854237945946:=0
def tw12771771963009527993:=0
def tw13429438678648454903:=0
def tw7491089514196176820:=0
def tw1936620002768972742:=0
def tw1146479314639391786:=0
def tw17354255744690053896:=0
def tw7870763393150640411:=0
def tw8266952832016175141:=0
def tw1614393308596899166:=0
def tw328315578139352466:=0
def tw11394322940554533585:=0
def tw3929931022819988279:=0
def tw16480824039159074371:=0
def tw10294323733962046045:=0
def tw6107820343641473938:=0
def tw8803931514654929853:=0
def tw10783024097292884820:=0
def tw17062053166264879682:=0
def tw3872157385982392398:=0
def tw13738272108685838787:=0
def tw6991122717467651774:=0
def tw17282210296377102928:=0
def tw5898699620688932287:=0
def tw10264447397676848928:=0
def tw17699380289172377540:=0
def tw6682247151558847751:=0
def tw10154281614633248266:=0
def tw7450581966620418720:=0
def tw157515430223794968:=0
def tw9421113544938052176:=0
def tw3947054873853850612:=0
def tw9800672250295722388:=0
def tw15145755479304826732:=0
def tw10982462802448624240:=0
def tw11756039641512571871:=0
def tw1477495139152341979:=0
def tw5896302118926613872:=0
def tw10462636157763586124:=0
def tw16956657276059907089:=0
def tw9467349028184405263:=0
def tw14121751932847767822:=0
def tw1394158779371009219:=0
def tw8132155218397674408:=0
def tw16398042742598330745:=0
def tw17943894271862917808:=0
def tw12908720000561820767:=0
def tw15457047094034673268:=0
def tw10194938341253544062:=0
def tw14443695203640716958:=0
def tw3799265748041385006:=0
def tw2062811859828279361:=0
def tw9969267077391797330:=0
def tw10850398581759552662:=0
def tw3114180297482836977:=0
def tw15853598686233441505:=0
def tw14498949396804927380:=0
def tw14573221050969219858:=0
def tw9221251021979552230:=0
def tw12295108740283505635:=0
def tw14465483572425192689:=0
def tw17594404879657250843:=0
def tw6857313707941361781:=0
def tw13589861020695449497:=0
def tw14997009538956330530:=0
def tw8566956287997562995:=0
def tw1094901891900502732:=0
def tw15897994368364900583:=0
def tw5886792992826865709:=0
def tw14994733218116010956:=0
def tw3500522843293359855:=0
def tw12213577212533242123:=0
def tw8764729747805563275:=0
def tw8591444235257788817:=0
def tw10910510179636555473:=0
def tw3705452644628671778:=0
def tw6926394363690529963:=0
def tw82108529976918360:=0
def tw9259660260221078987:=0
def tw2433267957606976969:=0
def tw13802978672026009123:=0
def tw14270881049669368456:=0
def tw5640787010151206822:=0
def tw11789988967244498324:=0
def tw17998666169083513541:=0
def tw2330382407221796218:=0
def tw1421568451096543396:=0
def tw17405627577727928048:=0
def tw9979437865563001243:=0
def tw13856813800610314892:=0
def tw5796739207050704819:=0
def tw12841494140582698489:=0
def tw1389123379071082089:=0
def tw11914866246980510955:=0
def tw7745361816910928263:=0
def tw7203369060274394549:=0
def tw11258949248725914737:=0
def tw6250815750168697808:=0
def tw8327946013558015050:=0
def tw9720855135720190917:=0
def tw16762128700185715216:=0
def tw17224322476714971051:=0
def tw13858894110420810143:=0
def tw8218328828825711978:=0
def tw5326252716100720197:=0
def tw13560787137906751240:=0
def tw3950220575077766372:=0
def tw6092506755665684803:=0
def tw14739071048484619939:=0
def tw10867724856233940350:=0
def tw7224137998953372793:=0
def tw11724514109819757734:=0
def tw2679911928905160475:=0
def tw631561069745126465:=0
def tw1187352661665133750:=0
def tw7069976364990330152:=0
def tw7951027880212122996:=0
def tw4136987276747736087:=0
def tw7016549072629947097:=0
def tw985586685596632513:=0
def tw6438171488591992310:=0
def tw2025819577087957472:=0
def tw4332180764564783022:=0
def tw1502113585677512343:=0
def tw7133618362925332797:=0
def tw1271948870337386382:=0
def tw8216135581225219581:=0
def tw17759250660561503099:=0
def tw17785332886454240984:=0
def tw5947578528928422087:=0
def tw1444598429665370922:=0
def tw9405572221706517073:=0
def tw17503007466530512406:=0
def tw12097979294340266773:=0
def tw3675435553913717915:=0
def tw1441851537573437626:=0
def tw1932426466630072331:=0
def tw4177827178370771646:=0
def tw4200595585669647219:=0
def tw1325281353061416461:=0
def tw11897904422374475068:=0
def tw13486463330396091101:=0
def tw14424623882078255482:=0
def tw5906694245983971426:=0
def tw2193597426964017456:=0
def tw348244212613038682:=0
def tw5267057102816083625:=0
def tw2245703527682614223:=0
def tw15033812099390121358:=0
def tw16939639040693246639:=0
def tw5192066924593007991:=0
def tw17898313054597408108:=0
def tw4564776555707171097:=0
def tw9536525828392242336:=0
def tw15130904609466466266:=0
def tw8412371237198122088:=0
def tw15066514173657536558:=0
def tw1194941831859267246:=0
def tw8511468778115932703:=0
def tw12470262601140973502:=0
def tw14323636339973114062:=0
def tw2862186033625497534:=0
def tw11076027556981365775:=0
def tw4363426968477227804:=0
def tw6302084596817079433:=0
def tw10622610326642655786:=0
def tw5188428088568357184:=0
def tw2214179643701111996:=0
def tw13319128459151702599:=0
def tw7864965455883431858:=0
def tw9777721317485760173:=0
def tw15917913404289352826:=0
def tw7319483190236050787:=0
def tw15424966843873134086:=0
def tw4668899328336886837:=0
def tw7223798922678687376:=0
def tw10200396119787291494:=0
def tw9735689826002043175:=0
def tw6074941152831865586:=0
def tw16976326940268550027:=0
def tw2387715717999627019:=0
def tw7890944777922133744:=0
def tw14681646861260876547:=0
def tw8918858808278093246:=0
def tw4675165446893857013:=0
def tw3220362283900857794:=0
def tw18024319770368794572:=0
def tw7190869155460051566:=0
def tw16369471054247674096:=0
def tw13945945080168527172:=0
def tw12854441308268670743:=0
def tw17407692505855546366:=0
def tw14519406432443024840:=0
def tw272816036097456147:=0
def tw12036416058257719889:=0
def tw1395215612238136088:=0
def tw13531575533332718667:=0
def tw8718410178016648371:=0
def tw12102150976677905829:=0
def tw3293179356062009915:=0
def tw14217812073007150729:=0
def tw9596110094908629295:=0
def tw17421576752476222954:=0
def tw4378109651173127054:=0
def tw14246118193159086614:=0
def tw9544125358108804625:=0
def tw17562134557905826474:=0
def tw13481248299563416490:=0
def tw8770259984952559709:=0
def tw13774286505331567073:=0
def tw13975022505829545451:=0
def tw4752223823614658804:=0
def tw3542440562444970040:=0
def tw4839498952672034756:=0
def tw13662187964965314421:=0
def tw12103259809385192788:=0
def tw14096198763769442887:=0
def tw14712395825648454590:=0
def tw11844354376104230525:=0
def tw3055336486289261591:=0
def tw3860499010808015158:=0
def tw17576427584656123282:=0
def tw14156853823150417886:=0
def tw11315334006522019202:=0
def tw9951672360278546304:=0
def tw263438549209248258:=0
def tw15513365066002234877:=0
def tw3726926643449714945:=0
def tw4153233946963810431:=0
def tw802181787477760574:=0
def tw6673906651820301262:=0
def tw15210146809373951099:=0
def tw16622256796320180252:=0
def tw376647006513333403:=0
def tw1104762125301091328:=0
def tw15859677017094879197:=0
def tw4107143959246668724:=0
def tw16611093372671227363:=0
def tw15156538910891191384:=0
def tw10572128838746456515:=0
def tw14266729150745537006:=0
def tw16767971681860544705:=0
def tw144197962660944357:=0
def tw1575478646466297008:=0
def tw4855335638158061576:=0
def tw5146788842589813082:=0
def tw3820887950761556816:=0
def tw14859047731128206684:=0
def tw3592683561514338048:=0
def tw1509961634120991675:=0
def tw14270345069018588792:=0
def tw14585873506390348047:=0
def tw12181521999159809965:=0
def tw1251395063141919250:=0
def tw13272132165391962676:=0
def tw10809725189397320265:=0
def tw594648236876094255:=0
def tw14034141393590852379:=0
def tw1915456530443711093:=0
def tw11362668068868943360:=0
def tw10868856087375123124:=0
def tw4600702060795867701:=0
def tw5254684914999071900:=0
def tw600613331625854778:=0
def tw12432786300310983549:=0
def tw13247911158417015021:=0
def tw8700254633435335343:=0
def tw6546018955376563961:=0
def tw6949670280122367618:=0
def tw12248940839935989436:=0
def tw13808366630545588613:=0
def tw6632822797810714806:=0
def tw11331940156807696702:=0
def tw1857194476968704571:=0
def tw12897841313767752163:=0
def tw5093720824118459394:=0
def tw15404772904158516995:=0
def tw14340992753719712893:=0
def tw13363322930098075362:=0
def tw6256881422636047215:=0
def tw16973402419972391954:=0
def tw5289217488823923395:=0
def tw8532150043498997802:=0
def tw12479952978513917493:=0
end PySem.W.Fast
open PySem PySem.W PyProof.Rows
set_option maxRecDepth 100000 in
set_option maxHeartbeats 0 in
theorem PySem.Challenge.cw_greywalk_k37_texts_refused_holds : PySem.Challenge.rw_greywalk_k37_texts_refused.Holds := by
 w_on;o_law;k_head;(case hw=>w_witness2)
 k_fill
 refine K37.walk (l:=PySem.Challenge.rw_greywalk_k37_texts_refused) rfl rfl (fun w h Y=>PySem.W.kIn_of Y) ?F
 case F=>
  intro w mg fa h KX G hmg
  refine' K37.all_mk KX G hmg ?h0 ?h1 ?h2 ?h3 ?h4 ?h5 ?h6 ?h7 ?h8 ?h9 ?h10 ?h11 ?h12 ?h13 ?h14 ?h15 ?h16 ?h17 ?h18 ?h19 ?h20 ?h21 ?h22 ?h23 ?h24 ?h25 ?h26 ?h27 ?h28 ?h29 ?h30 ?h31 ?h32 ?h33 ?h34 ?h35 ?h36 ?h37 ?h38 ?h39 ?h40 ?h41 ?h42 ?h43 ?h44 ?h45 ?h46 ?h47 ?h48 ?h49 ?h50 ?h51 ?h52 ?h53 ?h54 ?h55 ?h56 ?h57 ?h58 ?h59 ?h60 ?h61 ?h62 ?h63 ?h64 ?h65 ?h66 ?h67 ?h68 ?h69 ?h70 ?h71 ?h72 ?h73 ?h74 ?h75 ?h76 ?h77 ?h78 ?h79 ?h80 ?h81 ?h82 ?h83 ?h84 ?h85 ?h86 ?h87 ?h88 ?h89 ?h90 ?h91 ?h92 ?h93 ?h94 ?h95 ?h96 ?h97 ?h98 ?h99 ?h100 ?ZF3 ?ZF2 ?ZF1 ?ZF0 ?ZEz ?ZEy ?ZEx ?ZEw ?ZEv ?ZEu ?ZEt ?ZEs ?ZEr ?ZEq ?ZEp ?ZEo ?ZEn ?ZEm ?ZEl ?ZEk ?ZEj ?ZEi ?ZEh ?ZEg ?ZEf ?ZEe ?ZEd ?ZEc ?ZEb ?ZEa ?ZE9 ?ZE8 ?ZE7 ?ZE6 ?ZE5 ?ZE4 ?ZE3 ?ZE1 ?ZE0 ?ZDz ?ZDy ?ZDx ?ZDw ?ZDv ?ZDu ?ZDt ?ZDs ?ZDr ?ZDq ?ZDp ?ZDo ?ZDn ?ZDm ?ZDl ?ZDk ?ZDj ?ZDi ?ZDh ?ZDg ?ZDf ?ZDe ?ZDd ?ZDc ?ZDb ?ZDa ?ZD9 ?ZD8 ?ZD7 ?ZD6 ?ZD5 ?ZD4 ?ZD3 ?ZD2 ?ZD1 ?ZD0 ?ZCz ?ZCy ?ZCx ?ZCw ?ZCv ?ZCu ?ZCt ?ZCs ?ZCr ?ZCq ?ZCp ?ZCo ?ZCn ?ZCm ?ZCl ?ZCk ?ZCj ?ZCi ?ZCh ?ZCg ?ZCf ?ZCe ?ZCd ?ZCc ?ZCb ?ZCa ?ZC9 ?ZC8 ?ZC7 ?ZC6 ?ZC5 ?ZC4 ?ZC3 ?ZC2 ?ZC1 ?ZC0 ?ZBz ?ZBy ?ZBx ?ZBw ?ZBv ?ZBu ?ZBt ?ZBs ?ZBr ?ZBq ?ZBp ?ZBo ?ZBn ?ZBm ?ZBl ?ZBk ?ZBj ?ZBi ?ZBh ?ZBg ?ZBf ?ZBe ?ZBd ?ZBc ?ZBb ?ZBa ?ZB9 ?ZB8 ?ZB7 ?ZB6 ?ZB5 ?ZB4 ?ZB3 ?ZB2 ?ZB1 ?ZB0 ?ZAz ?ZAy ?ZAx ?ZAw ?ZAv ?ZAu ?ZAt ?ZAs ?ZAr ?ZAq ?ZAp ?ZAo ?ZAn ?ZAm ?ZAl ?ZAk ?ZAj ?ZAi ?ZAh ?ZAg ?ZAf ?ZAe ?ZAd ?ZAc ?ZAb ?ZAa ?ZA9 ?ZA8 ?ZA6 ?ZA5 ?ZA4 ?ZA3 ?ZA2 ?ZA1 ?ZA0 ?Zzz ?Zzy ?Zzx ?Zzw ?Zzv ?Zzu ?Zzt ?Zzs ?Zzr ?Zzq ?Zzp ?Zzo ?Zzn ?Zzm ?Zzl ?Zzk ?Zzj ?Zzi ?Zzh ?Zzg ?Zzf ?Zze ?Zzd ?Zzc ?Zzb ?Zza ?Zz9 ?Zz8 ?Zz7 ?Zz6 ?Zz5 ?Zz4 ?Zz3 ?Zz2 ?Zz1 ?Zz0 ?Zyz ?Zyy ?Zyx ?Zyw ?Zyv ?Zyu ?Zyt ?Zys ?Zyr ?Zyq ?Zyp ?Zyo ?Zyn ?Zym ?Zyl ?Zyk ?Zyj ?Zyi ?Zyh ?Zyg ?Zyf ?Zye ?Zyd ?Zyc ?Zyb ?Zya ?Zy9 ?Zy8 ?Zy7 ?Zy6 ?Zy5
  case h0 | h1 | h2 | h3 | h4 | h5 | h6 | h7 | h8 | h9 | h10 | h11 | h12 | h13 | h14 | h15 | h16 | h17 | h18 | h19 | h20 | h21=>(show _=_;k_is)
  case h22=>first | exact rfl | exact ⟨_,rfl⟩
  case h23 | h24 | h25 | h26 | h27 | h28 | h29 | h30 | h31 | h32 | h33 | h34 | h35 | h36 | h37 | h38 | h39 | h40 | h41 | h42 | h43 | h44 | h45 | h46 | h47 | h48 | h49 | h50 | h51 | h52 | h53 | h54 | h55 | h56 | h57 | h58 | h59 | h60 | h61 | h62 | h63 | h64 | h65 | h66 | h67 | h68 | h69 | h70 | h71 | h72 | h73 | h74 | h75 | h76 | h77 | h78 | h79 | h80 | h81 | h82 | h83 | h84=>(show _=_;k_is)
  case h85=>exact rfl
  case h86=>(show _=_;k_is)
  case h87 | h88 | h89 | h90 | h91 | h92 | h93 | h94 | h95 | h96=>exact rfl
  case h97 | h98 | h99 | h100 | ZF3 | ZF2 | ZF1 | ZF0 | ZEz | ZEy | ZEx=>(show _=_;k_is)
  case ZEw=>exact rfl
  case ZEv=>(show _=_;k_is)
  case ZEu | ZEt | ZEs | ZEr=>exact rfl
  case ZEq | ZEp | ZEo | ZEn | ZEm | ZEl | ZEk | ZEj | ZEi | ZEh | ZEg | ZEf | ZEe | ZEd | ZEc | ZEb | ZEa | ZE9 | ZE8 | ZE7 | ZE6 | ZE5 | ZE4 | ZE3 | ZE1 | ZE0 | ZDz | ZDy | ZDx | ZDw | ZDv | ZDu | ZDt | ZDs | ZDr | ZDq | ZDp | ZDo | ZDn | ZDm | ZDl | ZDk | ZDj | ZDi | ZDh | ZDg | ZDf | ZDe | ZDd | ZDc | ZDb | ZDa | ZD9 | ZD8 | ZD7 | ZD6 | ZD5 | ZD4=>(show _=_;k_is)
  case ZD3 | ZD2 | ZD1 | ZD0 | ZCz | ZCy | ZCx | ZCw | ZCv | ZCu | ZCt | ZCs | ZCr | ZCq=>kts_exm
  case ZCp | ZCo | ZCn | ZCm | ZCl | ZCk | ZCj | ZCi | ZCh | ZCg | ZCf | ZCe | ZCd | ZCc | ZCb | ZCa | ZC9 | ZC8 | ZC7 | ZC6 | ZC5 | ZC4 | ZC3 | ZC2 | ZC1 | ZC0 | ZBz | ZBy | ZBx | ZBw | ZBv | ZBu | ZBt | ZBs | ZBr | ZBq | ZBp | ZBo=>(show _=_;k_is)
  case ZBn=>first | exact rfl | exact ⟨_,rfl⟩
  case ZBm=>(show _=_;k_is)
  case ZBl=>first | exact rfl | exact ⟨_,rfl⟩
  case ZBk=>(show _=_;k_is)
  case ZBj=>first | exact rfl | exact ⟨_,rfl⟩
  case ZBi=>(show _=_;k_is)
  case ZBh=>first | exact rfl | exact ⟨_,rfl⟩
  case ZBg=>(show _=_;k_is)
  case ZBf=>first | exact rfl | exact ⟨_,rfl⟩
  case ZBe=>(show _=_;k_is)
  case ZBd=>first | exact rfl | exact ⟨_,rfl⟩
  case ZBc=>(show _=_;k_is)
  case ZBb=>first | exact rfl | exact ⟨_,rfl⟩
  case ZBa=>(show _=_;k_is)
  case ZB9=>first | exact rfl | exact ⟨_,rfl⟩
  case ZB8=>(show _=_;k_is)
  case ZB7=>first | exact rfl | exact ⟨_,rfl⟩
  case ZB6=>(show _=_;k_is)
  case ZB5=>first | exact rfl | exact ⟨_,rfl⟩
  case ZB4=>(show _=_;k_is)
  case ZB3=>first | exact rfl | exact ⟨_,rfl⟩
  case ZB2=>(show _=_;k_is)
  case ZB1=>first | exact rfl | exact ⟨_,rfl⟩
  case ZB0=>(show _=_;k_is)
  case ZAz=>first | exact rfl | exact ⟨_,rfl⟩
  case ZAy=>(show _=_;k_is)
  case ZAx=>first | exact rfl | exact ⟨_,rfl⟩
  case ZAw=>(show _=_;k_is)
  case ZAv=>first | exact rfl | exact ⟨_,rfl⟩
  case ZAu=>(show _=_;k_is)
  case ZAt=>first | exact rfl | exact ⟨_,rfl⟩
  case ZAs | ZAr | ZAq | ZAp | ZAo | ZAn | ZAm | ZAl | ZAk | ZAj | ZAi | ZAh | ZAg | ZAf | ZAe | ZAd | ZAc | ZAb | ZAa | ZA9 | ZA8 | ZA6 | ZA5 | ZA4 | ZA3 | ZA2 | ZA1 | ZA0 | Zzz | Zzy | Zzx | Zzw | Zzv | Zzu | Zzt | Zzs | Zzr | Zzq | Zzp | Zzo | Zzn | Zzm | Zzl | Zzk=>kit_is
  case Zzj | Zzi | Zzh | Zzg | Zzf | Zze | Zzd | Zzc | Zzb | Zza | Zz9 | Zz8 | Zz7 | Zz6 | Zz5 | Zz4 | Zz3 | Zz2 | Zz1 | Zz0 | Zyz | Zyy | Zyx | Zyw | Zyv | Zyu | Zyt | Zys | Zyr | Zyq | Zyp | Zyo | Zyn | Zym | Zyl | Zyk | Zyj | Zyi | Zyh | Zyg | Zyf | Zye | Zyd | Zyc | Zyb | Zya | Zy9 | Zy8 | Zy7 | Zy6 | Zy5=>(refine' K37.fgm ?l ?c ?k;(case l=>show _=_;k_is);(case c=>show _=_;k_is);(case k=>show _=_;k_is))
#print axioms PySem.Challenge.cw_greywalk_k37_texts_refused_holds
