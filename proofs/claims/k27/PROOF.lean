import PyProof.Rows.All
import Lean
import KE.KTryMore
import KE.KItemsList
import KE.KItem
import KE.RegKTryMore
import KE.KDictList
import KE.KEqDict
import KE.KIsBytes
import PySem.Challenge.RW_greywalk_k27_cut_or_loss
set_option Elab.async false
set_option linter.all false
set_option compiler.extract_closed false
set_option maxRecDepth 100000
set_option hygiene false
local macro_rules|`(γ)=>`(by decide +kernel)
local macro_rules|`(δ)=>`(by omega)
local macro_rules|`(ε)=>`(by decide)
local macro_rules|`(ζ)=>`(by simp)
local macro_rules|`(η)=>`(by rfl)
local macro_rules|`(↑$x)=>`(some (.ref $x))
local macro_rules|`(ι $x*)=>`(Hh P w K mg base $x*)
local macro_rules|`(ν)=>`(St->Hp->Prop)
local macro_rules|`(ξ)=>`(⟨n,Q,bk,ct⟩)
local macro_rules|`(ο)=>`(aK (pv 0) rfl)
local macro_rules|`(π)=>`(ak 0)
local macro_rules|`(ρ)=>`(rI (λ_ j=>0<j) λi j=>.int (i % j))
local macro_rules|`(ς)=>`(model X.prog X.w)
local macro_rules|`(τ)=>`(tC (.int 0))
local macro_rules|`(υ)=>`(tC (.int 1))
local macro_rules|`(χ)=>`(ak 1)
local macro_rules|`(ψ)=>`(pv 1)
local macro_rules|`(ω)=>`(by repeat (first | exact trivial | refine⟨rfl,?_⟩))
local macro_rules|`(Γ)=>`(O5 AD.di AD.bD AD.bU AD.cF)
local macro_rules|`(Δ)=>`(Nat.le_refl _)
local macro_rules|`(Θ)=>`(ak 3)
local macro_rules|`(Ξ)=>`(pv 0)
local macro_rules|`(Φ)=>`(ak 2)
local macro_rules|`(Ψ)=>`(pv 2)
local macro_rules|`(Ω)=>`(pv 3)
local macro_rules|`(ac)=>`(jJ λi j=>.int (i+j))
local macro_rules|`(ad)=>`(cg se ph gr lo d at_ st c ls a b)
local macro_rules|`(ae)=>`(aa (az) (aa (az) au))
local macro_rules|`(af)=>`(model prog w)
local macro_rules|`(ag)=>`(fJ bH ψ (az))
local macro_rules|`(ah)=>`(aZ K π "sweeper")
local macro_rules|`(ai)=>`(λz=>nomatch z)
local macro_rules|`(am)=>`(tC (.int 2))
local macro_rules|`(ap)=>`(s.heap.objs.size+1)
local macro_rules|`(ar)=>`(jJ λi j=>.bl (decide (i<j)))
local macro_rules|`(ax)=>`(hr.mono ε)
local macro_rules|`(ay)=>`(bQ G.bT η T.fP G.boot_len (aa ο au))
local macro_rules|`(aE)=>`(aZ K π "heap")
local macro_rules|`(aI)=>`(ak 4)
local macro_rules|`(aS)=>`(Or.inl rfl)
local macro_rules|`(aT)=>`(λ_=>?_)
local macro_rules|`(a3)=>`(tC (.int 3))
local macro_rules|`(a4)=>`(λz=>by cases z)
local macro_rules|`(a6)=>`(aj π aC)
local macro_rules|`(a7)=>`(aa Ξ au)
local macro_rules|`(a8)=>`(pv 4)
local macro_rules|`(a9)=>`(bh (jJ λi j=>.int (Builtin.bitAnd i j)) (bh (rI (λ_ j=>0<=j) λi j=>.int (i / 2 ^ j.toNat)) χ Θ) υ)
local macro_rules|`(ba)=>`(bB (tC (.bl false)))
local macro_rules|`(bb)=>`(rI Kl λi j=>.int (i / j))
local macro_rules|`(bc)=>`(cg (fK M).sw.sense "lost" A.gr (fK M).sw.looked (fK M).sw.turn (fK M).sw.at' (fK M).sw.stop (fK M).sw.walks (fK M).sw.looks (fK M).sw.passes (.ref a))
local macro_rules|`(bd)=>`(dm K)
local macro_rules|`(be)=>`(tC .non)
local macro_rules|`(bf)=>`(dY M)
local macro_rules|`(bg)=>`(bJ M)
local macro_rules|`(bi)=>`(cL (bC (bh (jJ λi j=>.bl (decide (j<i))) (ak 5) υ)) (bx (bh (nQ) Θ (dM (aj (dJ (aj (tC (.str "make")) (aj aI (aj τ (aj υ (aj τ aC)))))) (aj (dJ (aj (tC (.str "put")) (aj aI (aj τ (aj τ (aj υ aC)))))) (aj (dJ (aj (tC (.str "drop")) (aj aI (aj υ aC)))) aC))))) (aL 3)) bI)
local macro_rules|`(bj)=>`(pick σ)
local macro_rules|`(bo)=>`(aj Θ aC)
local macro_rules|`(bp)=>`(λz=>?_)
local macro_rules|`(bq)=>`(cj "heap" (.ref hq) [])
local macro_rules|`(br)=>`(cj "names" (.ref nm) (cj "hands" (.ref d) u))
local macro_rules|`(bt)=>`(cV (jz T) hr T.mo T.jm (aa Ξ (aa (az) au)))
local macro_rules|`(bv)=>`(show false=true from hs)
local macro_rules|`(bE)=>`(ts.map V.ref)
local macro_rules|`(bF)=>`(cg S.sense S.phase A.gr S.looked S.turn S.at' S.stop S.walks S.looks S.passes S.loss)
local macro_rules|`(bP)=>`(upd (upd H l (.lst [])) A.sw (.ins X.S dx (cg S.sense S.phase l S.looked S.turn S.at' S.stop S.walks S.looks S.passes S.loss)))
local macro_rules|`(bS)=>`(aK ο rfl)
local macro_rules|`(bX)=>`(upd H A.nm (.dK (putK (m5 M.names A.ns) (Sum.inr z) (.ref t))))
local macro_rules|`(b6)=>`(aa Ω au)
local macro_rules|`(b7)=>`(aj Φ aC)
local macro_rules|`(b8)=>`(Str×(Int×Int))
local macro_rules|`(b9)=>`(aA (aM (iQ)))
local macro_rules|`(cb)=>`(Int×AE)
local macro_rules|`(cc)=>`(cg (1 - M.sw.sense) "walk" gr M.sw.looked (M.sw.turn+1) M.sw.at' M.sw.stop M.sw.walks M.sw.looks M.sw.passes M.sw.loss)
local macro_rules|`(cf)=>`(j7 birth bulk tone load fa)
local macro_rules|`(ci)=>`(aa Ψ au)
local macro_rules|`(ck)=>`((m5 M.names A.ns).map λp=>kV p.1)
local macro_rules|`(cm)=>`(eG (G.rR (jH Ψ T.vA.c T.qP (eX T).g ax (eX (P:=P) (base:=base) T).b .nil G.eO) (G.rR (jH Ψ T.z8.c T.tZ (eX T).g ax (eX (P:=P) (base:=base) T).b .nil G.eO) (jH Ψ T.z7.c T.tX.m (oK T).g ax (oK (P:=P) (base:=base) T).b .nil G.eO))))
local macro_rules|`(cn)=>`(Nat.lt_of_lt_of_le (Heap.lt_size e) I.ok.above)
local macro_rules|`(cq)=>`(jT T)
local macro_rules|`(cr)=>`(aj (pG (G.gm K) (aj (aZ K π "hands") aC)) aC)
local macro_rules|`(cv)=>`(W.instObj C s.heap.objs.size)
local macro_rules|`(cw)=>`(jo room ca used born)
local macro_rules|`(cx)=>`(cJ (i:=4) sc.nd rfl aS)
local macro_rules|`(cy)=>`(i+1)
local macro_rules|`(cE)=>`(aL 3)
local macro_rules|`(cQ)=>`(λv t=>eZ t v.1 v.2)
local macro_rules|`(cU)=>`(bQ G.bT η T.fP G.boot_len a7)
local macro_rules|`(c0)=>`(jJ λi j=>.int (i - j))
local macro_rules|`(c6)=>`(tC (.int 4))
local macro_rules|`(c7)=>`(aj χ aC)
local macro_rules|`(c8)=>`(aa ψ au)
local macro_rules|`(c9)=>`(dz I q ζ)
local macro_rules|`(da)=>`(List.mem_append_right _ (List.mem_append_right _ (qO hb e)))
local macro_rules|`(db)=>`(k+1)
local macro_rules|`(de)=>`(aL 2)
local macro_rules|`(df)=>`(A.cs.map pV)
local macro_rules|`(dn)=>`(cJ (i:=3) sc.nd rfl aS)
local macro_rules|`(dr)=>`(by with_unfolding_all rfl)
local macro_rules|`(dt)=>`(YG λR Q' h=>by apply⟨aQ ζ,h⟩)
local macro_rules|`(dv)=>`(bx (bh (nQ) Θ (dM (aj (dJ (aj (tC (.str "name")) (aj aI (aj τ (aj (aP wI [] E0 (aj Φ (aj aI aC))) aC))))) (aj (dJ (aj (tC (.str "drop")) (aj aI (aj τ aC)))) aC)))) cE)
local macro_rules|`(dy)=>`(gF K)
local macro_rules|`(dA)=>`(ak 5)
local macro_rules|`(dE)=>`(aK Ψ rfl)
local macro_rules|`(dF)=>`(G.gm K)
local macro_rules|`(dL)=>`(aY fj (aY mZ Ξ (az)) (az))
local macro_rules|`(dN)=>`(dM aC)
local macro_rules|`(dP)=>`(bV au)
local macro_rules|`(dQ)=>`(starEach es X.env)
local macro_rules|`(dS)=>`(λz=>absurd rfl z)
local macro_rules|`(dZ)=>`(aK ψ rfl)
local macro_rules|`(ed)=>`(aj aI aC)
local macro_rules|`(ee)=>`(pv 5)
local macro_rules|`(eh)=>`(Key×V)
local macro_rules|`(ei)=>`(rI Uv λi j=>.int (i * j))
local macro_rules|`(el)=>`(aZ K π "cells")
local macro_rules|`(en)=>`(w.map V.int++[.int 9])
local macro_rules|`(eo)=>`(upd H a o)
local macro_rules|`(ep)=>`(ns.map V.int)
local macro_rules|`(eu)=>`(fdOf M)
local macro_rules|`(eA)=>`(Nat.ne_of_lt (Nat.lt_of_lt_of_le (Heap.lt_size e) (I.ok.cab x c C hc)))
local macro_rules|`(eB)=>`(rI Uu λi j=>.int (i * 2 ^ j.toNat))
local macro_rules|`(eC)=>`(cu Ξ (az) rfl)
local macro_rules|`(eD)=>`(upd H l (.lst []))
local macro_rules|`(eH)=>`(fB M acc)
local macro_rules|`(eI)=>`(aa a8 au)
local macro_rules|`(eJ)=>`(m5 M.names A.ns)
local macro_rules|`(eK)=>`(Sb.slot _ _ _ _)
local macro_rules|`(eL)=>`(some (.builtin "object.__init__"))
local macro_rules|`(eM)=>`(tC (.int 5))
abbrev Ap:=PySem.Value->PySem.Shared->Prop
abbrev As:=PySem.Str->Option PySem.Value
abbrev At:=List (PySem.Addr×PySem.Obj)
abbrev Au:=List (Option Int)
abbrev AA:=Option Int
abbrev AB:=Option PySem.Value
abbrev AC:=List PySem.Value
abbrev AE:=List Int
abbrev AF:=List PySem.Addr
abbrev AG:=List PySem.Expr
abbrev AH:=List PySem.Str
abbrev AI:=PySem.Addr
abbrev AJ:=PySem.Value
abbrev AK:=PySem.Shared
abbrev AL:=PySem.FuncData
abbrev AM:=PySem.Program
abbrev AN:=PySem.Expr
abbrev AO:=PySem.World
abbrev aB:=PySem.W.Frag
theorem bG{a:Type}{l:List a}{i:Nat}(h:i<l.length):l[i]? =some l[i]:=List.getElem?_eq_getElem h
theorem cI{b:Type}{l:List b}{i:Nat}{a:b}(h:l[i]? =some a):∃h:i<l.length,l[i]=a:=List.getElem?_eq_some_iff.mp h
theorem bL{a b:Type}{f:a->b}{l:List a}{i:Nat}:(l.map f)[i]? =l[i]?.map f:=List.getElem?_map
theorem aR{a b:Type}{l:List a}(f:a->b):(l.map f).length=l.length:=List.length_map f
namespace L2
open PySem PySem.Spec PyProof.Rows
abbrev Key:=Sum Int Str
def G6:Key->AJ->Bool
 | .inl k,v=>Value.isInt k v
 | .inr x,v=>Value.isStrOf x v
def Zwi(w:AO):Key->Int
 | .inl k=>hashInt k
 | .inr x=>hashStr w x
theorem dG:∀{k:Key}{v:AJ},G6 k v=true->(∃i t,k=Sum.inl i/\v=Value.int i t)\/(∃x t,k=Sum.inr x/\v=Value.str x t)
 | .inl i,v,h=>by
  obtain⟨t,e⟩:=Value.isInt_shape (k:=i) (v:=v) h;exact .inl ⟨i,t,rfl,e⟩
 | .inr x,v,h=>by
  obtain⟨t,e⟩:=Value.isStrOf_shape (x:=x) (v:=v) h;exact .inr ⟨x,t,rfl,e⟩
theorem Zkc(i:Int)(t:Tok):G6 (.inl i) (.int i t)=true:=by simp[G6,Value.isInt]
theorem Zkb(x:Str)(t:Tok):G6 (.inr x) (.str x t)=true:=by simp[G6,Value.isStrOf]
theorem Ztx(a b:Int):decide ((Sum.inl a:Key)=Sum.inl b)=(a == b):=by
 by_cases e:a=b
 ·subst e;simp
 ·have h:¬ (Sum.inl a:Key)=Sum.inl b:=λq=>e (Sum.inl.inj q);rw[decide_eq_false h];exact(beq_eq_false_iff_ne.mpr e).symm
theorem Ztu(a b:Str):decide ((Sum.inr a:Key)=Sum.inr b)=decide (a=b):=by
 by_cases e:a=b
 ·subst e;simp
 ·have h:¬ (Sum.inr a:Key)=Sum.inr b:=λq=>e (Sum.inr.inj q);rw[decide_eq_false h,decide_eq_false e]
theorem Ztw(a:Int)(b:Str):decide ((Sum.inl a:Key)=Sum.inr b)=false:=decide_eq_false (λq=>nomatch q)
theorem Ztv(a:Str)(b:Int):decide ((Sum.inr a:Key)=Sum.inl b)=false:=decide_eq_false (λq=>nomatch q)
def dj(prog:AM)(w:AO):PySem.KeyKind prog w Key where
  is:=G6
  hash:=Zwi w
  inj:=λv a b d hb=>by
    rcases dG d with ⟨i,t,rfl,rfl⟩ | ⟨x,t,rfl,rfl⟩
    · rcases dG hb with ⟨j,u,rfl,e⟩ | ⟨y,u,rfl,e⟩
      · injection e with c _;rw[c]
      · exact nomatch e
    · rcases dG hb with ⟨j,u,rfl,e⟩ | ⟨y,u,rfl,e⟩
      · exact nomatch e
      · injection e with c _;rw[c]
  byValue:=λk v h=>by
    rcases dG h with ⟨i,t,rfl,rfl⟩ | ⟨x,t,rfl,rfl⟩<;>rfl
  pyHash:=λhv h=>by
    rcases dG hv with ⟨i,t,rfl,rfl⟩ | ⟨x,t,rfl,rfl⟩
    · exact wpAny_pyHash_int h
    · exact wpAny_pyHash_str h
  eqBool:=λhu hv h=>by
    rcases dG hu with ⟨i,t,rfl,rfl⟩ | ⟨x,t,rfl,rfl⟩
    · rcases dG hv with ⟨j,u,rfl,rfl⟩ | ⟨y,u,rfl,rfl⟩
      · rw[Ztx]at h;exact wpAny_eqBool_int h
      · rw[Ztw]at h;exact SeqAt.EqAt.int_str i t y u _ _ _ _ h
    · rcases dG hv with ⟨j,u,rfl,rfl⟩ | ⟨y,u,rfl,rfl⟩
      · rw[Ztv]at h;exact SeqAt.EqAt.str_int x t j u _ _ _ _ h
      · rw[Ztu]at h;exact wpAny_eqBool_str h
  «strs»:=λk x t v h=>by
    rcases dG h with ⟨i,u,rfl,e⟩ | ⟨y,u,rfl,e⟩
    · exact nomatch e
    · injection e with c _
      subst c;cases v<;>rfl
theorem Zdi(prog:AM)(w:AO)(i:Int)(t:Tok):(dj prog w).is (.inl i) (.int i t)=true:=Zkc i t
theorem Zdh(prog:AM)(w:AO)(x:Str)(t:Tok):(dj prog w).is (.inr x) (.str x t)=true:=Zkb x t
inductive V where
 | non | bl (b:Bool) | int (i:Int) | str (x:Str) | byt (b:Array UInt8) | flt (b:UInt64) | ref (a:AI) | ty (n:String)
 deriving DecidableEq
def RelV:V->AJ->Prop
 | .non,u=>u=Value.none
 | .bl b,u=>u=Value.bool b
 | .int i,u=>∃t,u=Value.int i t
 | .str x,u=>∃t,u=Value.str x t
 | .byt b,u=>∃t,u=Value.bytes b t
 | .flt b,u=>∃t,u=Value.float b t
 | .ref a,u=>u=Value.ref a
 | .ty n,u=>u=Value.type n
abbrev Vals:List V->AC->Prop:=Paired RelV
theorem Vals.length{xs:List V}{us:AC}(r:Vals xs us):xs.length=us.length:=Paired.length r
theorem Vals.get:∀{xs:List V}{us:AC}{i:Nat}{x:V},Vals xs us->xs[i]? =some x->∃u,us[i]? =some u/\RelV x u
 | _,_,_,_,.nil,e=>by simp at e
 | _,_,0,_,.cons r _,e=>by simp at e;subst e;exact⟨_,rfl,r⟩
 | _,_,i+1,x,.cons _ t,e=>by
  obtain⟨u,h1,h2⟩:=Vals.get (i:=i) (x:=x) t (by simpa using e);exact⟨u,by simpa using h1,h2⟩
theorem Vals.set{x:V}{u:AJ}(r:RelV x u):∀{xs:List V}{us:AC} (i:Nat),Vals xs us->Vals (xs.set i x) (us.set i u)
 | _,_,_,.nil=>.nil
 | _,_,0,.cons _ t=>.cons r t
 | _,_,i+1,.cons q t=>.cons q (Vals.set r i t)
theorem Vals.append:∀{xs b:List V}{us a:AC},Vals xs us->Vals b a->Vals (xs++b) (us++a)
 | _,_,_,_,.nil,s=>s
 | _,_,_,_,.cons r t,s=>.cons r (Vals.append t s)
theorem Vals.take:∀{xs:List V}{us:AC} (n:Nat),Vals xs us->Vals (xs.take n) (us.take n)
 | _,_,0,_=>.nil
 | _,_,_+1,.nil=>.nil
 | _,_,n+1,.cons r t=>.cons r (Vals.take n t)
theorem Vals.drop:∀{xs:List V}{us:AC} (n:Nat),Vals xs us->Vals (xs.drop n) (us.drop n)
 | _,_,0,r=>r
 | _,_,_+1,.nil=>.nil
 | _,_,n+1,.cons _ t=>Vals.drop n t
def xV:Option V->AB->Prop
 | some v,some u=>RelV v u
 | none,none=>True
 | _,_=>False
def KV{a:Type}:List (a×V)->List (a×AJ)->Prop:=Paired λ(p:a×V) (q:a×AJ)=>p.1=q.1/\RelV p.2 q.2
def kV:Key->V
 | .inl i=>.int i
 | .inr x=>.str x
inductive HO where
  | lst (xs:List V)
  | tup (xs:List V)
  | dK (kvs:List (Key×V)) | dT (kvs:List (List Key×V))
  | set (S:Int->Bool) (n:Nat)
  | ins (C dx:AI) (fs:List (Str×V))
  | own (x:AI)
  | xd (fs:List (Str×V))
  | met (f x:AI)
  | rng (lo hi:Int)
  | vH (o:Obj) (u:HO)
  | PJ (ps:Array AJ)
  | ext (φ:Heap->Prop)
abbrev Hp:=AI->Option HO
def upd(H:Hp)(a:AI)(o:HO):Hp:=λb=>if b=a then some o else H b
theorem aq{H:Hp}{a:AI}{o:HO}:upd H a o a=some o:=by unfold upd;rw[if_pos rfl]
theorem aD{H:Hp}{a b:AI}{o:HO}(h:b≠a):upd H a o b=H b:=by unfold upd;rw[if_neg h]
theorem dI{H:Hp}{a:AI}{o u:HO}:upd eo a u=upd H a u:=by
 funext b;unfold upd;split<;>rfl
theorem lV{H:Hp}{a b:AI}{o u:HO}(h:H a=some o)(h':H b=some u)(d:o≠u):a≠b:=by
 intro e;subst e;rw[h]at h';exact d (Option.some.inj h')
theorem aF{H:Hp}{a b:AI}{o:HO}(h:H a=some o)(h':H b=none):a≠b:=by
 intro e;subst e;rw[h]at h';cases h'
section
variable (P:AM)(w:AO)
def gY(H:Hp)(h:Heap)(a:AI):HO->Prop
 | .lst xs=>xs.length<=sizeLine/\∃(b:AC) (n:Nat),Vals xs b/\h.get? a=some { cls:=.type "list",data:=.seq b.toArray n }
 | .tup xs=>xs.length<=sizeLine/\∃b:AC,Vals xs b/\IsTup h a b.toArray
 | .dK c=>c.length<=sizeLine/\(a == sysModules)=false/\∃vs,KV c vs/\h.DictOf (dj P w) a vs
 | .dT c=>c.length<=sizeLine/\(a == sysModules)=false/\∃xs:List (List Key×AI×AJ),
   Paired (λ(p:List Key×V) (q:List Key×AI×AJ)=>p.1=q.1/\H q.2.1=some (.tup (p.1.map kV))/\RelV p.2 q.2.2) c xs/\
   ∃o g j,h.get? a=some o/\o.ExactDict/\o.data=.dict g j/\g.toList=xs.map (entryOfKey (tupleKind (dj P w)))/\(xs.map (·.1)).Nodup
 | .set S n=>h.SetOf (intKind P w) a S n
 | .ins C dx fs=>H dx=some (.own a)/\fs.length<=1000/\dx≠a/\h.get? a=some (W.instObj C dx)/\
   ∃d,h.Ns1 dx d/\(∀f,xV (fs.lookup f) (d f))/\PySem.Within d (fs.map (·.1))
 | .own _=>∃o,h.get? a=some o
 | .xd fs=>∃d,h.Ns1 a d/\∀f,xV (fs.lookup f) (d f)
 | .rng lo i=>∃t u v,h.get? a=some { cls:=.type "range",data:=.fields #[.int lo t,.int i u,.int 1 v] }
 | .vH o u=>h.get? a=some o/\gY H h a u
 | .PJ ps=>h.get? a=some { cls:=.none,data:=.fields ps }
 | .met f x=>h.get? a=some (W.methodObj (.ref f) (.ref x))
 | .ext e=>e h/\(∃o,h.get? a=some o)/\∀h1 h2:Heap,e h1->(∀o,h1.get? a=some o->h2.get? a=some o)->e h2
def zN(H:Hp)(h:Heap):Prop:=∀a o,H a=some o->gY P w H h a o
end
section
variable {P:AM}{w:AO}{H H':Hp}{h h':Heap}{a:AI}{o:HO}
theorem gY.lt(x:gY P w H h a o):a<h.objs.size:=by
 cases o with
 | lst c=>obtain⟨_,_,_,_,e⟩:=x;exact Heap.lt_size e
 | tup c=>obtain⟨_,_,_,p⟩:=x;exact p.lt
 | dK b=>obtain⟨_,_,_,_,o,_,_,e,_⟩:=x;exact Heap.lt_size e
 | dT b=>obtain⟨_,_,_,_,o,_,_,e,_⟩:=x;exact Heap.lt_size e
 | set S n=>obtain⟨o,_,_,_,e,_⟩:=x;exact Heap.lt_size e
 | ins C j fs=>obtain⟨_,_,_,e,_⟩:=x;exact Heap.lt_size e
 | own y=>obtain⟨_,e⟩:=x;exact Heap.lt_size e
 | xd fs=>obtain⟨_,⟨_,_,_,e,_⟩,_⟩:=x;exact Heap.lt_size e
 | rng lo d=>obtain⟨_,_,_,e⟩:=x;exact Heap.lt_size e
 | vH ob u=>obtain⟨e,_⟩:=x;exact Heap.lt_size e
 | PJ i=>exact Heap.lt_size (show h.get? a=some _ from x)
 | met f y=>exact Heap.lt_size (show h.get? a=some _ from x)
 | ext g=>obtain⟨_,⟨_,e⟩,_⟩:=x;exact Heap.lt_size e
theorem Paired.Ztp{e g:Type}{F G:e->g->Prop}:∀{d:List e}{c:List g},Paired F d c->(∀a b,F a b->G a b)->Paired G d c
 | _,_,.nil,_=>.nil
 | _,_,.cons r t,f=>.cons (f _ _ r) (Paired.Ztp t f)
theorem gY.stay(x:gY P w H h a o)(k:∀b u,(b=a\/H b=some (.own a))->h.get? b=some u->h'.get? b=some u)
  (E:∀b,H b=some (.own a)->H' b=some (.own a)) (F:∀b xs,H b=some (.tup xs)->H' b=some (.tup xs)):gY P w H' h' a o:=by
 induction o with
 | lst xs=>obtain⟨z,j,n,r,e⟩:=x;exact⟨z,j,n,r,k _ _ (.inl rfl) e⟩
 | tup xs=>obtain⟨z,j,r,ob,e,c⟩:=x;exact⟨z,j,r,ob,k _ _ (.inl rfl) e,c⟩
 | dK m=>obtain⟨z,y,D,r,ob,i,g,e,c⟩:=x;exact⟨z,y,D,r,ob,i,g,k _ _ (.inl rfl) e,c⟩
 | dT m=>
  obtain⟨z,y,xs,r,ob,i,g,e,c⟩:=x;exact⟨z,y,xs,Paired.Ztp r λp q z=>⟨z.1,F _ _ z.2.1,z.2.2⟩,ob,i,g,k _ _ (.inl rfl) e,c⟩
 | set S n=>obtain⟨ob,i,g,t,e,c⟩:=x;exact⟨ob,i,g,t,k _ _ (.inl rfl) e,c⟩
 | ins C K fs=>
  obtain⟨d,z,ne,e,l,⟨od,i,g,A,c⟩,r⟩:=x;exact⟨E _ d,z,ne,k _ _ (.inl rfl) e,l,⟨od,i,g,k _ _ (.inr d) A,c⟩,r⟩
 | own y=>obtain⟨ob,e⟩:=x;exact⟨ob,k _ _ (.inl rfl) e⟩
 | xd fs=>obtain⟨l,⟨od,i,g,e,c⟩,r⟩:=x;exact⟨l,⟨od,i,g,k _ _ (.inl rfl) e,c⟩,r⟩
 | rng lo I=>obtain⟨t,u,v,e⟩:=x;exact⟨t,u,v,k _ _ (.inl rfl) e⟩
 | vH ob u B=>obtain⟨e,q⟩:=x;exact⟨k _ _ (.inl rfl) e,B q⟩
 | PJ s=>
  have e:h.get? a=some { cls:=.none,data:=.fields s }:=x;show h'.get? a=some { cls:=.none,data:=.fields s };exact k a _ (.inl rfl) e
 | met f y=>
  have e:h.get? a=some (W.methodObj (.ref f) (.ref y)):=x;show h'.get? a=some (W.methodObj (.ref f) (.ref y));exact k a _ (.inl rfl) e
 | ext J=>obtain⟨p,⟨o,e⟩,st⟩:=x;exact⟨st _ _ p λo q=>k _ _ (.inl rfl) q,⟨o,k _ _ (.inl rfl) e⟩,st⟩
theorem zN.lt(x:zN P w H h)(e:H a=some o):a<h.objs.size:=(x a o e).lt
theorem zN.fresh(x:zN P w H h)(e:h.objs.size<=a):H a=none:=by
 cases q:H a with
 | none=>rfl
 | some u=>exact absurd (Nat.lt_of_lt_of_le (x.lt q) e) (Nat.lt_irrefl _)
theorem zN.kept(x:zN P w H h)(k:∀b u,h.get? b=some u->h'.get? b=some u):zN P w H h':=λa o e=>
 (x a o e).stay (λb u _ q=>k b u q) (λ_ q=>q) λ_ _ q=>q
theorem zN.laid(x:zN P w H h)(k:∀b u,h.get? b=some u->h'.get? b=some u)(hp:h.objs.size<=a)(new:gY P w eo h' a o):zN P w eo h':=λb u e=>by
 have hn:=x.fresh hp
 by_cases hb:b=a
 ·subst hb;rw[aq]at e;cases e;exact new
 ·rw[aD hb]at e;exact(x b u e).stay (λc v _ q=>k c v q) (λc q=>by rw[aD (aF q hn)];exact q) λc xs q=>by rw[aD (aF q hn)];exact q
end
def Rd(H:Hp)(a:AI)(u:HO):Prop:=H a=some u\/∃o,H a=some (.vH o u)
theorem Rd.ok{P:AM}{w:AO}{H:Hp}{h:Heap}{a:AI}{u:HO}(r:Rd H a u)(x:zN P w H h):gY P w H h a u:=by
 rcases r with r | ⟨o,r⟩
 ·exact x a u r
 ·obtain⟨_,q⟩:=x a _ r;exact q
def Mut:Option HO->Prop
 | some (.lst _)=>True
 | some (.dK _)=>True
 | some (.dT _)=>True
 | some (.set _ _)=>True
 | some (.ins _ _ _)=>True
 | some (.ext _)=>True
 | _=>False
section
variable {P:AM}{w:AO}{H:Hp}{h h':Heap}{x e:AI}{o':HO}
theorem zN.write(ok:zN P w H h)(g:Mut (H x))(m:e=x\/H e=some (.own x))(k:∀b u,b≠e->h.get? b=some u->h'.get? b=some u)(i:∃u,h'.get? e=some u)
  (new:gY P w (upd H x o') h' x o'):zN P w (upd H x o') h':=λb u q=>by
 have d:∀c y,H c=some (.own y)->c≠x:=λc y r z=>by subst z;rw[r]at g;exact g
 have j:∀c f,H c=some (.tup f)->c≠x:=λc f r z=>by subst z;rw[r]at g;exact g
 by_cases hb:b=x
 ·subst hb;rw[aq]at q;cases q;exact new
 ·rw[aD hb]at q
  by_cases a:b=e
  ·have l:H b=some (.own x):=by
    rcases m with z | z
    ·exact absurd (a.trans z) hb
    ·rw[a];exact z
   rw[q]at l;cases l;obtain⟨v,hv⟩:=i;exact⟨v,by rw[a];exact hv⟩
  ·refine(ok b u q).stay (λc v hc r=>k c v ?_ r) (λc r=>by rw[aD (d c b r)];exact r) λc f r=>by rw[aD (j c f r)];exact r
   rcases hc with rfl | hc
   ·exact a
   ·rintro rfl;rcases m with z | z
    ·exact d c b hc z
    ·rw[hc]at z;cases z;exact hb rfl
end
structure Un(fs ex:AF)(H H':Hp)(h h':Heap):Prop where
 keep:∀b o,h.get? b=some o->H b=none->b∉fs->b∉ex->h'.get? b=some o
 slot:∀b o,h.get? b=some o->H b=none->b∈fs->b∉ex->∃sl,h'.get? b=some { o with slots:=sl }
 free:∀b o,h.get? b=some o->H b=none->b∉ex->H' b=none
 there:∀b o,h.get? b=some o->b∉ex->∃o',h'.get? b=some o'
 tups:∀b xs,H b=some (.tup xs)->H' b=some (.tup xs)
 JK:∀b o u,H b=some (.vH o u)->H' b=some (.vH o u)
 Oc:∀b ps,H b=some (.PJ ps)->∃more,H' b=some (.PJ (ps++more))
section
variable {fs fs' ex ex':AF}{H H1 H2:Hp}{h h1 h2 h':Heap}{a x e:AI}{o:HO}
theorem Un.any(u:Un fs ex H H1 h h1){b:AI}{ob:Obj}(q:h.get? b=some ob)(n:H b=none)(hx:b∉ex):∃sl,h1.get? b=some { ob with slots:=sl }:=by
 by_cases hb:b∈fs
 ·exact u.slot b ob q n hb hx
 ·exact⟨ob.slots,u.keep b ob q n hb hx⟩
theorem Un.kept(k:∀b u,h.get? b=some u->h'.get? b=some u):Un fs ex H H h h':=
 ⟨λb ob q _ _ _=>k b ob q,λb ob q _ _ _=>⟨ob.slots,k b ob q⟩,λ_ _ _ n _=>n,λb ob q _=>⟨ob,k b ob q⟩,λ_ _ q=>q,λ_ _ _ q=>q,λ_ ps q=>⟨#[],by rw[q];simp⟩⟩
theorem Un.refl:Un fs ex H H h h:=Un.kept λ_ _ q=>q
theorem Un.laid(k:∀b u,h.get? b=some u->h'.get? b=some u)(hp:h.objs.size<=a)(hn:H a=none):Un fs ex H eo h h' where
 keep:=λb u q _ _ _=>k b u q
 slot:=λb u q _ _ _=>⟨u.slots,k b u q⟩
 free:=λb u q n _=>by rw[aD (Nat.ne_of_lt (Nat.lt_of_lt_of_le (Heap.lt_size q) hp))];exact n
 there:=λb u q _=>⟨u,k b u q⟩
 tups:=λb xs q=>by rw[aD (aF q hn)];exact q
 JK:=λb u xs q=>by rw[aD (aF q hn)];exact q
 Oc:=λb ps q=>⟨#[],by rw[aD (aF q hn),q];simp⟩
theorem Un.write(c:Mut (H x))(f:e=x\/H e=some (.own x))(k:∀b u,b≠e->h.get? b=some u->h'.get? b=some u)(d:∃u,h'.get? e=some u):Un fs ex H (upd H x o) h h':=by
 have hx:∀b,H b=none->b≠x:=λb n z=>by subst z;rw[n]at c;exact c
 have hb:∀b,H b=none->b≠e:=λb n z=>by
  subst z;rcases f with r | r
  ·exact hx b n r
  ·rw[n]at r;cases r
 have hm:∀b u,H b=some u->¬ Mut (some u)->b≠x:=λb u q nm z=>by subst z;rw[q]at c;exact nm c
 refine⟨λb u q n _ _=>k b u (hb b n) q,λb u q n _ _=>⟨u.slots,k b u (hb b n) q⟩,λb u q n _=>by rw[aD (hx b n)];exact n,λb u q _=>?_,
  λb g q=>by rw[aD (hm b _ q λz=>z)];exact q,λb u g q=>by rw[aD (hm b _ q λz=>z)];exact q,λb i q=>⟨#[],by rw[aD (hm b _ q λz=>z),q];simp⟩⟩
 by_cases a:b=e
 ·subst a;exact d
 ·exact⟨u,k b u a q⟩
end
def trk(h:Heap)(H:Hp):AF:=(List.range h.objs.size).filter λa=>(H a).isSome
def Zaq(h:Heap)(H:Hp):Heap:=W.hideAll h (trk h H)
theorem Zkw(h:Heap)(H:Hp):(Zaq h H).objs.size=h.objs.size:=W.hideAll_size _ _
theorem Zo5{h:Heap}{H:Hp}{b:AI}{o:Obj}(e:h.get? b=some o)(n:H b=none):(Zaq h H).get? b=some o:=
 W.hideAll_get _ e λhm=>by
  have q:(H b).isSome=true:=(List.mem_filter.mp hm).2;rw[n]at q;simp at q
theorem Zq7{h:Heap}{H:Hp}{b:AI}{o:Obj}(e:(Zaq h H).get? b=some o):h.get? b=some o/\H b=none:=by
 have a:h.get? b=some o:=W.of_hideAll (trk h H) e;refine⟨a,?_⟩;cases q:H b with
 | none=>rfl
 | some x=>
  have hm:b∈trk h H:=List.mem_filter.mpr ⟨List.mem_range.mpr (Heap.lt_size a),by simp[q]⟩;have z:(Zaq h H).get? b=none:=W.hideAll_none (trk h H) hm;rw[z]at e;cases e
def Zrc(g h:Heap)(L:AI):At:=(List.range h.objs.size).filterMap λa=>if a=L\/(g.get? a).isSome=true then none else(h.get? a).map λo=>(a,o)
def rest(g h:Heap)(L d:AI):At:=(Zrc g h L).filter λp=>decide (p.1≠d)
structure Mod(K:aB)(mg:As)(base:Heap):Prop where
 kin:K.In base
 glob:base.Ns mainGlobals mg
 blt:∃mb,base.Ns builtinsNs mb/\∀x:Str,x≠"__name__"->mb x=bootBuiltins x
 nolimit:base.NoLimit
structure Cx where
 prog:AM
 w:AO
 K:aB
 mg:Str->AB
 base:Heap
 A:Around
 N:AH
 s₀:AK
 H₀:Hp
 env:Env
 outer:List Env
 stack:List Env
 ex:AF
 fn:Str->Bool
 calm:Bool
 pn:At
 xe:AJ->AK->Prop
def frs(l:List Env):AF:=l.filterMap (·.frame)
abbrev Cx.fs(X:Cx):AF:=frs X.outer
def Vis(a:Scope)(x:Str):Prop:=a.names.lookup x=some .local\/a.names.lookup x=some .cell\/a.names.lookup x=some .free
def Loc(a:Scope)(x:Str):Prop:=a.names.lookup x=some .local\/a.names.lookup x=some .cell
def Look(env:Env)(h:Heap)(m:As)(x:Str)(u:AJ):Prop:=
 (env.kindOf x=some .local/\m x=some u)\/((env.kindOf x=some .cell\/env.kindOf x=some .free)/\∃c,env.cells.lookup x=some c/\h.IsCell c (some u))
structure Cx.Ok(X:Cx):Prop where
 mod:Mod X.K X.mg X.base
 kind:X.env.scope.kind=.function
 glob:X.env.globals=mainGlobals
 blt:X.env.builtins=builtinsNs
 above:X.s₀.heap.objs.size<=X.env.locals
 inj:∀x y c,X.env.cells.lookup x=some c->X.env.cells.lookup y=some c->x=y
 has:∀x,(X.env.kindOf x=some .cell\/X.env.kindOf x=some .free)->∃c,X.env.cells.lookup x=some c
 cab:∀x c,X.fn x=true->X.env.cells.lookup x=some c->X.s₀.heap.objs.size<=c
 hd:X.calm=true->X.A.handled=none
 frames:X.A.frames=some X.stack
 stk:X.stack=X.outer\/(X.stack=X.env::X.outer/\X.env.frame=some X.env.locals)
 exf:∀b∈X.ex,b≠X.env.locals/\∀x c,X.env.cells.lookup x=some c->c≠b
 bs:∀b o,X.base.get? b=some o->X.s₀.heap.get? b=some o/\X.H₀ b=none
 bsz:X.base.objs.size<=X.s₀.heap.objs.size
 Zd9:∀b o,X.base.get? b=some o->b∉X.ex
 Zgx:∀b∈X.ex,b∉X.fs
 vZ:X.s₀.heap.FunFrames X.base X.outer
 frf:∀b∈X.fs,X.H₀ b=none
structure Inv(X:Cx)(pins:At)(σ:List (Option V))(H:Hp)(s:AK):Prop where
 ok:X.Ok
 os:s.os=X.s₀.os
 bare:AllBare s.gens
 base:Un X.fs X.ex X.H₀ H X.s₀.heap s.heap
 loc:∃m,s.heap.Ns X.env.locals m/\∀(i:Nat) (x:Str) (v:V),X.N[i]? =some x->σ[i]? =some (some v)->Vis X.env.scope x->∃u,RelV v u/\Look X.env s.heap m x u
 cell:∀x c,X.env.cells.lookup x=some c->∃v,s.heap.IsCell c v
 free:H X.env.locals=none
 qW:∀x c,X.env.cells.lookup x=some c->H c=none
 pin:∀p∈X.pn++pins,s.heap.get? p.1=some p.2/\H p.1=none/\p.1≠X.env.locals/\p.1∉X.fs/\∀v,p.2.data≠.cell v
 hok:zN X.prog X.w H s.heap
 len:σ.length=X.N.length
section
variable {X:Cx}{pins:At}{σ:List (Option V)}{H H':Hp}{s:AK}{h':Heap}
theorem Cx.Ok.Zy5(ok:X.Ok){b:AI}{o:Obj}(e:X.base.get? b=some o):b∉X.fs:=λhb=>by
 have:=(ok.vZ.mem hb).1;rw[e]at this;cases this
theorem Inv.bs(I:Inv X pins σ H s):∀b o,X.base.get? b=some o->s.heap.get? b=some o/\H b=none:=λb o e=>
 ⟨I.base.keep b o (I.ok.bs b o e).1 (I.ok.bs b o e).2 (I.ok.Zy5 e) (I.ok.Zd9 b o e),I.base.free b o (I.ok.bs b o e).1 (I.ok.bs b o e).2 (I.ok.Zd9 b o e)⟩
theorem Inv.bk(I:Inv X pins σ H s):∀b o,X.base.get? b=some o->s.heap.get? b=some o:=λb o e=>(I.bs b o e).1
theorem Inv.mod(I:Inv X pins σ H s):Mod X.K X.mg X.base:=I.ok.mod
theorem Inv.yV(I:Inv X pins σ H s):X.K.In s.heap:=I.ok.mod.kin.keeps I.bk
theorem Inv.lt(I:Inv X pins σ H s):X.env.locals<s.heap.objs.size:=let ⟨_,hn,_⟩:=I.loc;hn.lt
theorem Inv.sz(I:Inv X pins σ H s):X.s₀.heap.objs.size<=s.heap.objs.size:=Nat.le_trans I.ok.above (Nat.le_of_lt I.lt)
theorem Inv.Zy4(I:Inv X pins σ H s){a:AI}(h:s.heap.objs.size<=a):a∉X.fs:=λhb=>by
 obtain⟨_,o,b,_⟩:=I.ok.vZ.mem hb;exact absurd (Nat.lt_of_lt_of_le (Heap.lt_size b) (Nat.le_trans I.sz h)) (Nat.lt_irrefl _)
theorem Inv.cne(I:Inv X pins σ H s):∀x c,X.env.cells.lookup x=some c->c≠X.env.locals:=λx c e z=>by
 obtain⟨v,o,d,hd⟩:=I.cell x c e;obtain⟨m,⟨g,h,f,a,b,_⟩,_⟩:=I.loc;rw[z,a]at d;cases d;rw[b]at hd;cases hd
theorem Inv.vZ(I:Inv X pins σ H s):s.heap.FunFrames X.base X.outer:=by
 have all:∀(l:List Env),(∀b∈frs l,b∈X.fs)->X.s₀.heap.FunFrames X.base l->s.heap.FunFrames X.base l:=by
  intro l
  induction l with
  | nil=>intro _ _;trivial
  | cons env r d=>
   intro hs hl;obtain⟨hk,⟨L,o,c,hn,f,hd⟩,hr⟩:=hl;have a:L∈X.fs:=hs L (by unfold frs;rw[List.filterMap_cons,c];exact List.mem_cons_self);obtain⟨sl,e⟩:=I.base.slot L o f (I.ok.frf L a) a λz=>I.ok.Zgx L z a;exact⟨hk,⟨L,_,c,hn,e,hd⟩,d (λb hb=>hs b (by unfold frs;rw[List.filterMap_cons,c];exact List.mem_cons_of_mem _ hb)) hr⟩
 exact all X.outer (λ_ hb=>hb) I.ok.vZ
theorem Inv.stack(I:Inv X pins σ H s):s.heap.FunFrames X.base X.stack:=by
 rcases I.ok.stk with e | ⟨e,a⟩
 ·rw[e];exact I.vZ
 ·rw[e];obtain⟨m,hn,_⟩:=I.loc;refine .cons (by rw[I.ok.kind];decide) a hn ?_ I.vZ;exact Heap.get?_none_of_le (Nat.le_trans I.ok.bsz I.ok.above)
theorem Inv.Iz(I:Inv X pins σ H s):∀b∈frs X.stack,b∈X.env.locals::X.fs:=λb hb=>by
 rcases I.ok.stk with e | ⟨e,a⟩
 ·rw[e]at hb;exact List.mem_cons_of_mem _ hb
 ·rw[e]at hb;unfold frs at hb;rw[List.filterMap_cons,a]at hb;exact hb
theorem Inv.YM(I:Inv X pins σ H s):∀b∈frs X.stack,H b=none:=λb hb=>by
 rcases List.mem_cons.mp (I.Iz b hb)with e | hb
 ·rw[e];exact I.free
 ·obtain⟨_,o,a,_⟩:=I.ok.vZ.mem hb;exact I.base.free b o a (I.ok.frf b hb) λz=>I.ok.Zgx b z hb
theorem Inv.step{g':Array GenState}{t':Nat}{d':Drawn}{ch:AF}(I:Inv X pins σ H s)
  (g:∀b∈ch,(b∈X.ex\/X.s₀.heap.objs.size<=b)/\b≠X.env.locals/\(∀x c,X.env.cells.lookup x=some c->c≠b)/\∀p∈X.pn++pins,p.1≠b)
  (keep:∀b o,b≠X.env.locals->b∉X.fs->b∉ch->s.heap.get? b=some o->H b=none->h'.get? b=some o)
  (slot:∀b o,b≠X.env.locals->b∈X.fs->b∉ch->s.heap.get? b=some o->H b=none->∃sl,h'.get? b=some { o with slots:=sl }) (free:∀b o,b∉ch->s.heap.get? b=some o->H b=none->H' b=none)
  (there:∀b o,b∉ch->s.heap.get? b=some o->∃B,h'.get? b=some B)
  (tups:∀b xs,H b=some (.tup xs)->H' b=some (.tup xs)) (JK:∀b o u,H b=some (.vH o u)->H' b=some (.vH o u)) (Oc:∀b ps,H b=some (.PJ ps)->∃C,H' b=some (.PJ (ps++C)))
  (ns:∀m,s.heap.Ns X.env.locals m->h'.Ns X.env.locals m) (hok:zN X.prog X.w H' h') (K:AllBare g'):
  Inv X pins σ H' { s with heap:=h',gens:=g',drawn:=d',toks:=t' }:=by
 have A:∀b o,X.s₀.heap.get? b=some o->b≠X.env.locals:=λb o e=>Nat.ne_of_lt cn;have h:∀b o,X.s₀.heap.get? b=some o->b∉X.ex->b∉ch:=λb o e hx hb=>by
  rcases(g b hb).1 with z | z
  ·exact hx z
  ·exact absurd (Nat.lt_of_lt_of_le (Heap.lt_size e) z) (Nat.lt_irrefl _)
 have a:∀x c,X.env.cells.lookup x=some c->∀v,s.heap.IsCell c v->h'.IsCell c v:=λx c e v ⟨o,t,hd⟩=>by
  have f:c∉ch:=λz=>(g c z).2.2.1 x c e rfl
  by_cases hc:c∈X.fs
  ·obtain⟨sl,q⟩:=slot c o (I.cne x c e) hc f t (I.qW x c e);exact⟨_,q,hd⟩
  ·exact⟨o,keep c o (I.cne x c e) hc f t (I.qW x c e),hd⟩
 refine⟨I.ok,I.os,K,⟨λb o e n hb hx=>?_,λb o e n hb hx=>?_,λb o e n hx=>?_,λb o e hx=>?_,λb xs e=>tups b xs (I.base.tups b xs e),λb o xs e=>JK b o xs (I.base.JK b o xs e),λb ps e=>?_⟩,?_,λx c e=>?_,?_,λx c e=>?_,λp hp=>?_,hok,I.len⟩
 ·exact keep b o (A b o e) hb (h b o e hx) (I.base.keep b o e n hb hx) (I.base.free b o e n hx)
 ·obtain⟨sl,j⟩:=I.base.slot b o e n hb hx;obtain⟨D,y⟩:=slot b _ (A b o e) hb (h b o e hx) j (I.base.free b o e n hx);exact⟨D,y⟩
 ·obtain⟨B,j⟩:=I.base.there b o e hx;exact free b B (h b o e hx) j (I.base.free b o e n hx)
 ·obtain⟨B,j⟩:=I.base.there b o e hx;exact there b B (h b o e hx) j
 ·obtain⟨F,j⟩:=I.base.Oc b ps e;obtain⟨J,y⟩:=Oc b _ j;exact⟨F++J,by rw[y,Array.append_assoc]⟩
 ·obtain⟨m,hn,hl⟩:=I.loc;refine⟨m,ns m hn,λi x v j y e3=>?_⟩;obtain⟨u,r,l⟩:=hl i x v j y e3;refine⟨u,r,?_⟩;rcases l with l | ⟨k,c,e,z⟩
  ·exact .inl l
  ·exact .inr ⟨k,c,e,a x c e _ z⟩
 ·obtain⟨v,z⟩:=I.cell x c e;exact⟨v,a x c e v z⟩
 ·obtain⟨m,⟨o,_,_,t,_⟩,_⟩:=I.loc;exact free _ o (λz=>(g _ z).2.1 rfl) t I.free
 ·obtain⟨v,o,t,hd⟩:=I.cell x c e;exact free c o (λz=>(g c z).2.2.1 x c e rfl) t (I.qW x c e)
 ·obtain⟨e,n,ne,E,d⟩:=I.pin p hp;have f:p.1∉ch:=λz=>(g p.1 z).2.2.2 p hp rfl;exact⟨keep p.1 p.2 ne E f e n,free p.1 p.2 f e n,ne,E,d⟩
theorem Inv.un{t':Nat}(I:Inv X pins σ H s)(u:Un X.fs [] H H' s.heap h')(hok:zN X.prog X.w H' h'):Inv X pins σ H' { s with heap:=h',toks:=t' }:=by
 obtain⟨m,⟨o,l,k,f,r⟩,_⟩:=id I.loc;obtain⟨sl,g⟩:=u.any f I.free ζ;exact I.step (g':=s.gens) (d':=s.drawn) (ch:=[]) (λ_ z=>nomatch z) (λb o _ hb _ e n=>u.keep b o e n hb ζ) (λb o _ hb _ e n=>u.slot b o e n hb ζ) (λb o _ e n=>u.free b o e n ζ) (λb o _ e=>u.there b o e ζ) u.tups u.JK u.Oc (λi hm=>by
  obtain⟨j,d,c,a,h⟩:=hm;rw[f]at a;cases a;exact⟨_,d,c,g,h⟩) hok I.bare
theorem Inv.call{g':Array GenState}{t':Nat}{d':Drawn}{ch:AF}(I:Inv X pins σ H s)(u:Un (frs X.stack) ch H H' s.heap h')(hok:zN X.prog X.w H' h')(j:AllBare g')
  (d:∀b∈ch,(b∈X.ex\/X.s₀.heap.objs.size<=b)/\b≠X.env.locals/\(∀x c,X.env.cells.lookup x=some c->c≠b)/\∀p∈X.pn++pins,p.1≠b):
  Inv X pins σ H' { s with heap:=h',gens:=g',drawn:=d',toks:=t' }:=by
 obtain⟨m,⟨o,v,t,i,r⟩,_⟩:=id I.loc;obtain⟨sl,f⟩:=u.any i I.free λz=>(d _ z).2.1 rfl;exact I.step (ch:=ch) d (λb o f hb hc e n=>u.keep b o e n (λz=>(List.mem_cons.mp (I.Iz b z)).elim f hb) hc) (λb o _ _ hc e n=>u.any e n hc) (λb o hc e n=>u.free b o e n hc) (λb o hc e=>u.there b o e hc) u.tups u.JK u.Oc (λl hm=>by
  obtain⟨q,h,g,a,k⟩:=hm;rw[i]at a;cases a;exact⟨_,h,g,f,k⟩) hok j
theorem Inv.turned{t':Nat}{a:AI}(I:Inv X pins σ H s)(k:∀b o,b≠a->s.heap.get? b=some o->h'.get? b=some o)(hn:H a=none)(f:a≠X.env.locals)
  (h1:a∈X.ex\/X.s₀.heap.objs.size<=a) (h2:∀x c,X.env.cells.lookup x=some c->c≠a) (i:∀p∈X.pn++pins,p.1≠a):Inv X pins σ H { s with heap:=h',toks:=t' }:=by
 have d:∀b u,H b=some u->b≠a:=λb u e z=>by rw[z,hn]at e;cases e
 refine I.step (g':=s.gens) (d':=s.drawn) (ch:=[a]) (λb hb=>?_) (λb o _ _ hc e _=>k b o (λz=>hc (by simp[z])) e) (λb o _ _ hc e _=>⟨o.slots,k b o (λz=>hc (by simp[z])) e⟩) (λ_ _ _ _ n=>n)
  (λb o hc e=>⟨o,k b o (λz=>hc (by simp[z])) e⟩) (λ_ _ e=>e) (λ_ _ _ e=>e) (λb l e=>⟨#[],by rw[e];simp⟩) (λm hm=>?_) (λb u e=>?_) I.bare
 ·have e:b=a:=by simpa using hb
  subst e;exact⟨h1,f,h2,i⟩
 ·obtain⟨o,j,h,g,r⟩:=hm;exact⟨o,j,h,k _ o (Ne.symm f) g,r⟩
 ·refine(I.hok b u e).stay (λc v hc q=>k c v ?_ q) (λ_ q=>q) λ_ _ q=>q;rcases hc with z | z
  ·rw[z];exact d b u e
  ·exact d c _ z
theorem Inv.tok(I:Inv X pins σ H s)(t:Nat):Inv X pins σ H { s with toks:=t }:=I.un (h':=s.heap) (t':=t) Un.refl I.hok
theorem Inv.kept{t':Nat}(I:Inv X pins σ H s)(k:∀b u,s.heap.get? b=some u->h'.get? b=some u):Inv X pins σ H { s with heap:=h',toks:=t' }:=I.un (Un.kept k) (I.hok.kept k)
theorem Inv.laid{a:AI}{o:HO}{t':Nat}(I:Inv X pins σ H s)(k:∀b u,s.heap.get? b=some u->h'.get? b=some u)(hp:s.heap.objs.size<=a)(new:gY X.prog X.w eo h' a o):
  Inv X pins σ eo { s with heap:=h',toks:=t' }:=I.un (Un.laid k hp (I.hok.fresh hp)) (I.hok.laid k hp new)
theorem Inv.write{x e:AI}{o:HO}{t':Nat}(I:Inv X pins σ H s)(c:Mut (H x))(d:e=x\/H e=some (.own x))(k:∀b u,b≠e->s.heap.get? b=some u->h'.get? b=some u)(a:∃u,h'.get? e=some u)
  (new:gY X.prog X.w (upd H x o) h' x o):Inv X pins σ (upd H x o) { s with heap:=h',toks:=t' }:=I.un (Un.write c d k a) (I.hok.write c d k a new)
theorem Inv.zT{a:At}(I:Inv X pins σ H s)(h:∀p∈a,s.heap.get? p.1=some p.2/\H p.1=none/\p.1≠X.env.locals/\p.1∉X.fs/\∀v,p.2.data≠.cell v):Inv X a σ H s:=
 ⟨I.ok,I.os,I.bare,I.base,I.loc,I.cell,I.free,I.qW,λp hp=>(List.mem_append.mp hp).elim (λz=>I.pin p (List.mem_append_left _ z)) (h p),I.hok,I.len⟩
theorem Zdb{N:AH}(c:N.Nodup){i j:Nat}{x:Str}(a:N[i]? =some x)(b:N[j]? =some x):i=j:=by
 obtain⟨h1,d⟩:=cI a;obtain⟨h2,e⟩:=cI b;exact(List.getElem_inj c).mp (d.trans e.symm)
theorem Zjq{M:Model}{A:Around}{E:Ap}{i:Nat}{x:Str}{v:V}{u:AJ}{Q:Unit->AK->Prop}(I:Inv X pins σ H s)(hN:X.N.Nodup)(F:X.N[i]? =some x)(hx:Loc X.env.scope x)(r:RelV v u)
  (h:∀s',Inv X pins (σ.set i (some v)) H s'->(∃a,Heap.SameBut a s.heap s'.heap/\(a=X.env.locals\/X.env.cells.lookup x=some a))->Q () s') (hf:X.fn x=true\/X.env.scope.names.lookup x=some .local:=by first | exact .inl rfl | exact .inr rfl | assumption):wpAny M A (storeName X.env x u) Q E s:=by
 obtain⟨m,hn,hl⟩:=id I.loc;have K:(X.env.scope.kind == .class || (X.env.scope.kind == .module && X.env.locals != X.env.globals))=false:=by rw[I.ok.kind];rfl
 have B:i < σ.length:=by rw[I.len];exact(cI F).1
 have cne:=I.cne;have g:∀{a:AI}{h':Heap},(∃o,s.heap.get? a=some o/\H a=none)->Heap.SameBut a s.heap h'->zN X.prog X.w H h':=λ{a h'} ha hs b ob e=>by
  obtain⟨_,_,l⟩:=ha;refine(I.hok b ob e).stay (λc R hc q=>(hs.2 c ?_).trans q) (λ_ q=>q) λ_ _ q=>q;rintro rfl;rcases hc with rfl | hc
  ·rw[l]at e;cases e
  ·rw[l]at hc;cases hc
 rcases hx with hk | hk
 ·refine wpAny_storeName_local hk hn (λh' hn' hs=>?_) K;obtain⟨oL,_,_,W,_⟩:=id hn;refine h _ ⟨I.ok,I.os,I.bare,⟨λb o e n hb hx=>?_,λb o e n hb hx=>?_,I.base.free,λb o e hx=>?_,I.base.tups,I.base.JK,I.base.Oc⟩,⟨_,hn',λj y U f t e3=>?_⟩,λy c e=>?_,I.free,I.qW,λp hp=>?_,g ⟨oL,W,I.free⟩ hs,by simpa using I.len⟩ ⟨_,hs,.inl rfl⟩
  ·exact(hs.2 b (Nat.ne_of_lt cn)).trans (I.base.keep b o e n hb hx)
  ·obtain⟨sl,f⟩:=I.base.slot b o e n hb hx;exact⟨sl,(hs.2 b (Nat.ne_of_lt cn)).trans f⟩
  ·obtain⟨Z,f⟩:=I.base.there b o e hx;exact⟨Z,(hs.2 b (Nat.ne_of_lt cn)).trans f⟩
  ·by_cases D:j=i
   ·subst D;rw[F]at f;cases f;rw[List.getElem?_set_self B]at t;cases t;exact⟨u,r,.inl ⟨hk,ζ⟩⟩
   ·rw[List.getElem?_set_ne (Ne.symm D)]at t;obtain⟨Y,r',q⟩:=hl j y U f t e3;refine⟨Y,r',?_⟩;rcases q with ⟨k,e⟩ | ⟨k,c,e,z⟩
    ·refine .inl ⟨k,?_⟩;have:y≠x:=λe=>D (Zdb hN f (e ▸ F));simp[this,e]
    ·exact .inr ⟨k,c,e,z.sameBut hs (cne y c e)⟩
  ·obtain⟨R,z⟩:=I.cell y c e;exact⟨R,z.sameBut hs (cne y c e)⟩
  ·obtain⟨e,n,ne,S,d⟩:=I.pin p hp;exact⟨(hs.2 p.1 ne).trans e,n,ne,S,d⟩
 ·have C:X.fn x=true:=by
   rcases hf with z | z
   ·exact z
   ·rw[z]at hk;cases hk
  obtain⟨c,hc⟩:=I.ok.has x (.inl hk);obtain⟨R,z⟩:=I.cell x c hc;refine wpAny_storeName_cell I.ok.kind hk hc z (λh' O hs=>?_);obtain⟨oc,J,T⟩:=id z;refine h { s with heap:=h' } ⟨I.ok,I.os,I.bare,⟨λb o e n hb hx=>?_,λb o e n hb hx=>?_,I.base.free,λb o e hx=>?_,I.base.tups,I.base.JK,I.base.Oc⟩,⟨m,hn.sameBut hs (Ne.symm (cne x c hc)),λj y U f t e3=>?_⟩,λy P e=>?_,I.free,I.qW,λp hp=>?_,g ⟨oc,J,I.qW x c hc⟩ hs,by simpa using I.len⟩ ⟨c,hs,.inr hc⟩
  ·exact(hs.2 b eA).trans (I.base.keep b o e n hb hx)
  ·obtain⟨sl,f⟩:=I.base.slot b o e n hb hx;exact⟨sl,(hs.2 b eA).trans f⟩
  ·obtain⟨Z,f⟩:=I.base.there b o e hx;exact⟨Z,(hs.2 b eA).trans f⟩
  ·by_cases D:j=i
   ·subst D;rw[F]at f;cases f;rw[List.getElem?_set_self B]at t;cases t;exact⟨u,r,.inr ⟨.inl hk,c,hc,O⟩⟩
   ·rw[List.getElem?_set_ne (Ne.symm D)]at t;obtain⟨Y,r',q⟩:=hl j y U f t e3;refine⟨Y,r',?_⟩;rcases q with q | ⟨k,P,e,z'⟩
    ·exact .inl q
    ·refine .inr ⟨k,P,e,z'.sameBut hs ?_⟩;rintro rfl;exact D (Zdb hN f (I.ok.inj _ _ _ e hc ▸ F))
  ·by_cases L:P=c
   ·subst L;exact⟨_,O⟩
   ·obtain⟨w2,z2⟩:=I.cell y P e;exact⟨w2,z2.sameBut hs L⟩
  ·obtain⟨e,n,ne,S,d⟩:=I.pin p hp;refine⟨(hs.2 p.1 ?_).trans e,n,ne,S,d⟩;intro q;rw[q,J]at e;have q':oc=p.2:=Option.some.inj e;exact d R (by rw[<- q'];exact T)
theorem Eb{M:Model}{A:Around}{E:Ap}{i:Nat}{x:Str}{v:V}{u:AJ}{Q:Unit->AK->Prop}(I:Inv X pins σ H s)(b:X.N.Nodup)(c:X.N[i]? =some x)(hx:Loc X.env.scope x)(r:RelV v u)
  (h:∀s',Inv X pins (σ.set i (some v)) H s'->Q () s') (a:X.fn x=true\/X.env.scope.names.lookup x=some .local:=by first | exact .inl rfl | exact .inr rfl | assumption):wpAny M A (storeName X.env x u) Q E s:=
 Zjq I b c hx r (λs' d _=>h s' d) a
theorem Inv.call'{s':AK}{ch:AF}(I:Inv X pins σ H s)(f:s'.os=s.os)(u:Un (frs X.stack) ch H H' s.heap s'.heap)(hok:zN X.prog X.w H' s'.heap)(g:AllBare s'.gens)
  (a:∀b∈ch,(b∈X.ex\/X.s₀.heap.objs.size<=b)/\b≠X.env.locals/\(∀x c,X.env.cells.lookup x=some c->c≠b)/\∀p∈X.pn++pins,p.1≠b):Inv X pins σ H' s':=by
 obtain⟨h',g',d',t',d⟩:=s';have e:d=s.os:=f;subst e;exact I.call (g':=g') (t':=t') (d':=d') u hok g a
end
abbrev XK:=AJ->Option AI->Hp->Prop
abbrev St:=List (Option V)
abbrev VK:=V->Hp->Prop
abbrev TE:=St->Hp->VK->Prop
abbrev TT:=St->Hp->(Bool->Hp->Prop)->Prop
abbrev TA:=St->Hp->(List V->Hp->Prop)->Prop
structure Ends where
 nx:ν
 rt:VK
 bk:ν:=λ_ _=>False
 ct:ν:=λ_ _=>False
abbrev TS:=Ends->ν
def EP(X:Cx)(a:At)(σ:St)(Q:VK)(u:AJ)(s':AK):Prop:=∃v H',Inv X a σ H' s'/\RelV v u/\Q v H'
def TP(X:Cx)(a:At)(σ:St)(Q:Bool->Hp->Prop)(b:Bool)(s':AK):Prop:=∃H',Inv X a σ H' s'/\Q b H'
def AP(X:Cx)(a:At)(σ:St)(Q:List V->Hp->Prop)(us:AC)(s':AK):Prop:=∃vs H',Inv X a σ H' s'/\Vals vs us/\Q vs H'
def SP(X:Cx)(b:At)(D:Ends)(f:Flow)(s':AK):Prop:=
 match f with
 | .next=>∃ a H',Inv X b a H' s'/\D.nx a H'
 | .brk=>∃ a H',Inv X b a H' s'/\D.bk a H'
 | .cont=>∃ a H',Inv X b a H' s'/\D.ct a H'
 | .ret u=>∃v a H',Inv X b a H' s'/\RelV v u/\D.rt v H'
def PE(X:Cx)(e:AN)(t:TE):Prop:=
 ∀(a:At) (s:AK) (σ:St) (H:Hp) (Q:VK),Inv X a σ H s->t σ H Q->wpAny ς X.A (eval e X.env) (EP X a σ Q) X.xe s
def PT(X:Cx)(e:AN)(t:TT):Prop:=
 ∀(a:At) (s:AK) (σ:St) (H:Hp) (Q:Bool->Hp->Prop),Inv X a σ H s->t σ H Q->wpAny ς X.A (isTrue e X.env (eval e X.env)) (TP X a σ Q) X.xe s
def PW(X:Cx)(e:AN)(t:TT):Prop:=
 ∀(b:Sem AJ) (a:At) (s:AK) (σ:St) (H:Hp) (Q:Bool->Hp->Prop),Inv X a σ H s->t σ H Q->wpAny ς X.A (isTrue e X.env b) (TP X a σ Q) X.xe s
theorem PW.pt{X:Cx}{e:AN}{t:TT}(h:PW X e t):PT X e t:=h _
def PA(X:Cx)(c:AG)(t:TA):Prop:=
 ∀(b:Pos) (a:At) (s:AK) (σ:St) (H:Hp) (Q:List V->Hp->Prop),Inv X a σ H s->t σ H Q->wpAny ς X.A (spliced (backTo b (starEach c X.env))) (AP X a σ Q) X.xe s
def PS(X:Cx)(st:Stmt)(t:TS):Prop:=
 ∀(a:At) (s:AK) (σ:St) (H:Hp) (D:Ends),Inv X a σ H s->t D σ H->wpAny ς X.A (exec st X.env) (SP X a D) X.xe s
def PSs(X:Cx)(st:List Stmt)(t:TS):Prop:=
 ∀(a:At) (s:AK) (σ:St) (H:Hp) (D:Ends),Inv X a σ H s->t D σ H->wpAny ς X.A (execs st X.env) (SP X a D) X.xe s
theorem fX{b:Type}{t:Sem b}{Q c:b->AK->Prop}{M:Model}{A:Around}{E:Ap}{s:AK}(h:wpAny M A t Q E s)(d:∀a s,Q a s->c a s):wpAny M A t c E s:=wpAny_mono h d λ_ _ x=>x
section
variable {X:Cx}
def ak(i:Nat):TE:=λσ H Q=>∃v,σ[i]? =some (some v)/\Q v H
def tC(v:V):TE:=λ_ H Q=>Q v H
theorem Zmj{i:Nat}{x:Str}{d:Pos}(j:X.N[i]? =some x)(hv:Vis X.env.scope x)(hd:(x == ("__debug__":Str))=false:=by decide)(f:(x == ("__classdict__":Str))=false:=by decide):PE X (.Name x d) (ak i):=by
 intro b s g H Q I h;obtain⟨v,e,h⟩:=h;obtain⟨m,hn,hl⟩:=I.loc;obtain⟨u,r,l⟩:=hl i x v j e hv;have fin:EP X b g Q u s:=⟨v,H,I,r,h⟩;rcases l with ⟨hk,hm⟩ | ⟨hk,c,hc,a⟩
 ·exact wpAny_Name (wpAny_loadName_local I.ok.kind hk hn hm fin) hd
 ·rcases hk with hk | hk
  ·exact wpAny_Name (wpAny_loadName_cell I.ok.kind hk hc a fin) hd
  ·exact wpAny_Name (wpAny_loadName_free I.ok.kind hk hc a fin f) hd
theorem az{i j pos}:PE X (.Constant (.int i) j pos) (tC (.int i)):=λ_ _ _ H _ I h=>wpAny_Constant_int ⟨.int i,H,I.tok _,⟨_,rfl⟩,h⟩
theorem iQ{b j pos}:PE X (.Constant (.bool b) j pos) (tC (.bl b)):=λ_ _ _ H _ I h=>Constant_bool ⟨.bl b,H,I,rfl,h⟩
theorem cR{j pos}:PE X (.Constant .none j pos) be:=λ_ _ _ H _ I h=>Constant_none ⟨.non,H,I,rfl,h⟩
theorem bA{x j pos}:PE X (.Constant (.str x) j pos) (tC (.str x)):=λ_ _ _ H _ I h=>Calls.Constant_str ⟨.str x,H,I.tok _,⟨_,rfl⟩,h⟩
def Gl(X:Cx)(x:Str):Prop:=X.env.kindOf x=some .globalImplicit
theorem p6{E:Ap}{a:At}{s:AK}{σ:St}{H:Hp}{x:Str}{u:AJ}{b:Pos}{Q:Ap}(I:Inv X a σ H s)(c:Gl X x)(hm:X.mg x=some u)(h:Q u s)
  (hd:(x == ("__debug__":Str))=false:=by decide):wpAny ς X.A (eval (.Name x b) X.env) Q E s:=
 Calls.Name_function_global I.ok.kind c (Calls.loadGlobal_global (by rw[I.ok.glob];exact I.mod.glob.keeps I.bk) hm h) hd
theorem R0{E:Ap}{a:At}{s:AK}{σ:St}{H:Hp}{x:Str}{u:AJ}{b:Pos}{Q:Ap}(I:Inv X a σ H s)(c:Gl X x)(hm:X.mg x=none)(hv:bootBuiltins x=some u)(h:Q u s)
  (hn:x≠"__name__":=by decide) (hd:(x == ("__debug__":Str))=false:=by decide):wpAny ς X.A (eval (.Name x b) X.env) Q E s:=by
 obtain⟨d,h1,h2⟩:=I.mod.blt;exact Calls.Name_function_global I.ok.kind c (Calls.loadGlobal_builtin (by rw[I.ok.glob];exact I.mod.glob.keeps I.bk) hm (by rw[I.ok.blt];exact h1.keeps I.bk) ((h2 x hn).trans hv) h) hd
theorem Zpw{x:Str}{v:V}{u:AJ}{a:Pos}(b:Gl X x)(hm:X.mg x=some u)(r:RelV v u)(hd:(x == ("__debug__":Str))=false:=by decide):PE X (.Name x a) (tC v):=
 λ_ _ _ H _ I h=>p6 I b hm ⟨v,H,I,r,h⟩ hd
theorem vO{x:Str}{v:V}{u:AJ}{a:Pos}(b:Gl X x)(hm:X.mg x=none)(hv:bootBuiltins x=some u)(r:RelV v u)(hn:x≠"__name__":=by decide)(hd:(x == ("__debug__":Str))=false:=by decide):PE X (.Name x a) (tC v):=
 λ_ _ _ H _ I h=>R0 I b hm hv ⟨v,H,I,r,h⟩ hn hd
variable {a b:AN}{ta tb:TE}{pos:Pos}
def PC(X:Cx)(f:CmpOp)(a b:AN)(t:TE):Prop:=
 ∀(c:At) (s:AK) (σ:St) (H:Hp) (Q:VK),Inv X c σ H s->t σ H Q->
  wpAny ς X.A (eval a X.env) (λv d=>wpAny ς X.A (eval b X.env) (λu e=>wpAny ς X.A (compareOp f v u) (EP X c σ Q) X.xe e) X.xe d) X.xe s
theorem Zdc(b:AN){a:CmpOp}(h:a≠.In)(h2:a≠.NotIn):behindInMarks a b=false:=by
 have c:(a == CmpOp.In)=false:=by cases a<;>first | rfl | exact absurd rfl h
 have d:(a == CmpOp.NotIn)=false:=by cases a<;>first | rfl | exact absurd rfl h2
 cases b<;>simp[behindInMarks,c,d]
def tB(t:TE):TT:=λσ H Q=>t σ H λx a=>∃c,x=.bl c/\Q c a
theorem Zt7{d:CmpOp}{t:TE}(h:PC X d a b t)(h1:behindInMarks d b=false:=by first | exact Zdc _ ε ε | rfl):PE X (.Compare a [d] [b] pos) t:=λc s e H Q I f=>wpAny_Compare1 (h c s e H Q I f) h1
theorem Zj{f:CmpOp}{t:TE}(h:PC X f a b t)(h1:behindInMarks f b=false:=by first | exact Zdc _ ε ε | rfl):PT X (.Compare a [f] [b] pos) (tB t):=by
 intro e s g H Q I i;refine wpAny_isTrue_Compare1 (fX (h e s g H _ I i) λv k h1=>fX h1 λu l h2=>fX h2 λc j qc=>?_) h1;obtain⟨x,H1,I1,r1,q1⟩:=qc;obtain⟨d,rfl,q⟩:=q1;cases r1;exact wpAny_truthy_bool ⟨H1,I1,q⟩
theorem eG{e:AN}{t:TE}(h:PE X e t)(g:∀a,isTrue e X.env a=(do let v <- a;standAt e.pos;holding [v] (truthy v)):=by intro _;rfl):PT X e (tB t):=by
 intro b s c H Q I f;refine isTrue_plain (fX (h b s c H _ I f) λv i qc=>?_) (g _);obtain⟨x,H1,I1,r1,q1⟩:=qc;obtain⟨d,rfl,q⟩:=q1;cases r1;exact wpAny_truthy_bool ⟨H1,I1,q⟩
variable {tA tB':TT}{rest:AG}
def PL(t u:TT):TT:=λσ H Q=>t σ H λc a=>if c=true then u σ a Q else Q false a
def CZ(t u:TT):TT:=λσ H Q=>t σ H λc a=>if c=true then Q true a else u σ a Q
def nF(t:TT):TT:=λσ H Q=>t σ H λc a=>Q (!c) a
theorem vL(f:PT X a tA):PW X (.BoolOp .And [a] pos) tA:=by
 intro i b s d H Q I h;refine isTrue_and (fX (f b s d H Q I h) λc g e=>?_);cases c with
 | true=>exact isTrue_and_nil e
 | false=>exact e
theorem gQ(f:PT X a tA):PW X (.BoolOp .Or [a] pos) tA:=by
 intro i b s d H Q I h;refine isTrue_or (fX (f b s d H Q I h) λc g e=>?_);cases c with
 | false=>exact isTrue_or_nil e
 | true=>exact e
theorem yz(j:PT X a tA)(hb:PW X (.BoolOp .And (b::rest) pos) tB'):PW X (.BoolOp .And (a::b::rest) pos) (PL tA tB'):=by
 intro i d s e H Q I h;refine isTrue_and (fX (j d s e H _ I h) λc g qc=>?_);obtain⟨f,I1,q1⟩:=qc;cases c with
 | true=>exact hb i d g e f Q I1 q1
 | false=>exact⟨f,I1,q1⟩
theorem iu(j:PT X a tA)(hb:PW X (.BoolOp .Or (b::rest) pos) tB'):PW X (.BoolOp .Or (a::b::rest) pos) (CZ tA tB'):=by
 intro i d s e H Q I h;refine isTrue_or (fX (j d s e H _ I h) λc g qc=>?_);obtain⟨f,I1,q1⟩:=qc;cases c with
 | true=>exact⟨f,I1,q1⟩
 | false=>exact hb i d g e f Q I1 q1
theorem fY(e:PT X a tA):PT X (.UnaryOp .Not a pos) (nF tA):=by
 intro b s d H Q I h;exact isTrue_not (e b s d H (λc f=>Q (!c) f) I h)
def PK(ta tb:TE):TE:=λσ H Q=>ta σ H λx a=>∃c,x=.bl c/\if c=true then tb σ a Q else Q (.bl false) a
def Zso(ta tb:TE):TE:=λσ H Q=>ta σ H λx a=>∃c,x=.bl c/\if c=true then Q (.bl true) a else tb σ a Q
def Zi0(ta:TE):TE:=λσ H Q=>ta σ H λx a=>∃c,x=.bl c/\Q (.bl (!c)) a
theorem Ji{op}{t:TE}(h:PE X a t):PE X (.BoolOp op [a] pos) t:=λb s σ H Q I c=>BoolOp_one (h b s σ H Q I c)
theorem QL(i:PE X a ta)(hb:PE X (.BoolOp .And (b::rest) pos) tb):PE X (.BoolOp .And (a::b::rest) pos) (PK ta tb):=by
 intro d s f H Q I h;refine BoolOp_and (fX (i d s f H _ I h) λv g qc=>?_);obtain⟨x,H1,I1,r1,e⟩:=qc;obtain⟨c,rfl,e⟩:=e;cases r1;refine wpAny_truthy_bool ?_;cases c with
 | true=>exact hb d g f H1 Q I1 e
 | false=>exact⟨.bl false,H1,I1,rfl,e⟩
theorem Zvy(i:PE X a ta)(hb:PE X (.BoolOp .Or (b::rest) pos) tb):PE X (.BoolOp .Or (a::b::rest) pos) (Zso ta tb):=by
 intro d s f H Q I h;refine BoolOp_or (fX (i d s f H _ I h) λv g qc=>?_);obtain⟨x,H1,I1,r1,e⟩:=qc;obtain⟨c,rfl,e⟩:=e;cases r1;refine wpAny_truthy_bool ?_;cases c with
 | false=>exact hb d g f H1 Q I1 e
 | true=>exact⟨.bl true,H1,I1,rfl,e⟩
theorem Zml(f:PE X a ta):PE X (.UnaryOp .Not a pos) (Zi0 ta):=by
 intro b s e H Q I h;refine UnaryOp_ (fX (f b s e H _ I h) λv g qc=>?_);obtain⟨x,H1,I1,r1,d⟩:=qc;obtain⟨c,rfl,d⟩:=d;cases r1;exact not_of (wpAny_truthy_bool ⟨.bl (!c),H1,I1,rfl,d⟩)
def tIf(t:TT)(ta tb:TE):TE:=λσ H Q=>t σ H λc a=>if c=true then ta σ a Q else tb σ a Q
theorem Zco{c:AN}(hc:PT X c tA)(j:PE X a ta)(hb:PE X b tb):PE X (.IfExp c a b pos) (tIf tA ta tb):=by
 intro e s f H Q I h;refine wpAny_IfExp (fX (hc e s f H _ I h) λd g qc=>?_);obtain⟨i,I1,q1⟩:=qc;cases d with
 | true=>exact j e g f i Q I1 q1
 | false=>exact hb e g f i Q I1 q1
end
def bN(K:aB)(H:Hp)(a:AI)(xs:List V):Prop:=
 Rd H a (.lst xs)\/
  ∃(o:Obj) (b:Array AJ) (n:Nat),K.lookup a=some o/\o.cls=.type "list"/\o.dict=none/\o.data=.seq b n/\b.size<=sizeLine/\Vals xs b.toList
def dR(K:aB)(H:Hp)(a:AI)(xs:List V):Prop:=
 Rd H a (.tup xs)\/
  ∃(o:Obj) (b:Array AJ) (n:Nat),K.lookup a=some o/\o.cls=.type "tuple"/\o.data=.seq b n/\b.size<=sizeLine/\Vals xs b.toList
def ZB7:AJ->Option V
 | .none=>some .non
 | .bool b=>some (.bl b)
 | .int i _=>some (.int i)
 | .str x _=>some (.str x)
 | .bytes b _=>some (.byt b)
 | .float b _=>some (.flt b)
 | .ref a=>↑a
 | .type n=>some (.ty n)
 | _=>none
theorem RelV.abs{x:V}{u:AJ}(r:RelV x u):ZB7 u=some x:=by
 cases x with
 | non=>cases r;rfl
 | bl _=>cases r;rfl
 | int _=>obtain⟨t,rfl⟩:=r;rfl
 | str _=>obtain⟨t,rfl⟩:=r;rfl
 | byt _=>obtain⟨t,rfl⟩:=r;rfl
 | flt _=>obtain⟨t,rfl⟩:=r;rfl
 | ref _=>cases r;rfl
 | ty _=>cases r;rfl
theorem RelV.inj{x y:V}{u:AJ}(r:RelV x u)(q:RelV y u):x=y:=Option.some.inj (r.abs.symm.trans q.abs)
theorem Vals.inj:∀{xs a:List V}{us:AC},Vals xs us->Vals a us->xs=a
 | _,_,_,.nil,.nil=>rfl
 | _,_,_,.cons r t,.cons b t'=>by rw[r.inj b,Vals.inj t t']
section
variable {X:Cx}{pins:At}{σ:St}{H:Hp}{s:AK}{a:AI}{xs ys:List V}
theorem bN.of{K:aB}(h:H a=some (.lst xs)):bN K H a xs:=.inl (.inl h)
theorem dR.of{K:aB}(h:H a=some (.tup xs)):dR K H a xs:=.inl (.inl h)
theorem Inv.list(I:Inv X pins σ H s)(h:bN X.K H a xs):∃b:AC,Vals xs b/\PlainL s.heap a b.toArray/\xs.length<=sizeLine:=by
 rcases h with h | ⟨o,b,n,hk,hc,hd,hs,hz,r⟩
 ·obtain⟨z,b,n,r,e⟩:=h.ok I.hok;exact⟨b,r,⟨_,n,e,rfl,rfl,rfl⟩,z⟩
 ·refine⟨b.toList,r,⟨o,n,I.yV a o hk,hc,hd,by simpa using hs⟩,?_⟩;have e:=r.length;simp only[Array.length_toList]at e;omega
theorem Inv.tuple(I:Inv X pins σ H s)(h:dR X.K H a xs):∃b:AC,Vals xs b/\IsTup s.heap a b.toArray/\xs.length<=sizeLine:=by
 rcases h with h | ⟨o,b,n,hk,hc,hs,hz,r⟩
 ·obtain⟨z,b,r,p⟩:=h.ok I.hok;exact⟨b,r,p,z⟩
 ·refine⟨b.toList,r,⟨o,I.yV a o hk,hc,n,by simpa using hs⟩,?_⟩;have e:=r.length;simp only[Array.length_toList]at e;omega
theorem Inv.Zdm(I:Inv X pins σ H s)(h:bN X.K H a xs)(h':bN X.K H a ys):xs=ys:=by
 obtain⟨c,r,⟨o,n,e,_,_,d⟩,_⟩:=I.list h;obtain⟨b,i,⟨k,j,f,_,_,g⟩,_⟩:=I.list h';rw[e]at f;cases f;rw[d]at g
 injection g with d1 _
 have:c=b:=by simpa using congrArg Array.toList d1
 subst this;exact r.inj i
end
abbrev Cx.wish(X:Cx)(E:Ap):Cx:={ X with xe:=E }
abbrev Cx.nox(X:Cx):Cx:=X.wish λ_ _=>False
theorem Cx.Ok.wish{X:Cx}(ok:X.Ok)(E:Ap):(X.wish E).Ok:=
 ⟨ok.mod,ok.kind,ok.glob,ok.blt,ok.above,ok.inj,ok.has,ok.cab,ok.hd,ok.frames,ok.stk,ok.exf,ok.bs,ok.bsz,ok.Zd9,ok.Zgx,ok.vZ,ok.frf⟩
theorem Cx.Ok.xY{X:Cx}{E:Ap}(ok:(X.wish E).Ok):X.Ok:=
 ⟨ok.mod,ok.kind,ok.glob,ok.blt,ok.above,ok.inj,ok.has,ok.cab,ok.hd,ok.frames,ok.stk,ok.exf,ok.bs,ok.bsz,ok.Zd9,ok.Zgx,ok.vZ,ok.frf⟩
section
variable {X:Cx}{pins:At}{σ:St}{H:Hp}{s:AK}{E:Ap}
theorem Inv.wish(I:Inv X pins σ H s)(E:Ap):Inv (X.wish E) pins σ H s:=⟨I.ok.wish E,I.os,I.bare,I.base,I.loc,I.cell,I.free,I.qW,I.pin,I.hok,I.len⟩
theorem Inv.xY(I:Inv (X.wish E) pins σ H s):Inv X pins σ H s:=⟨I.ok.xY,I.os,I.bare,I.base,I.loc,I.cell,I.free,I.qW,I.pin,I.hok,I.len⟩
theorem SP.xY{D:Ends}{f:Flow}{s':AK}(h:SP (X.wish E) pins D f s'):SP X pins D f s':=by
 cases f with
 | next=>obtain⟨a,b,I,q⟩:=h;exact⟨a,b,I.xY,q⟩
 | brk=>obtain⟨a,b,I,q⟩:=h;exact⟨a,b,I.xY,q⟩
 | cont=>obtain⟨a,b,I,q⟩:=h;exact⟨a,b,I.xY,q⟩
 | ret u=>obtain⟨v,a,b,I,r,q⟩:=h;exact⟨v,a,b,I.xY,r,q⟩
theorem PSs.nox{st:List Stmt}{t:TS}(h:PSs X.nox st t):PSs X st t:=λpins s σ H D I a=>
 wpAny_mono (h pins s σ H D (I.wish _) a) (λ_ _ q=>q.xY) λ_ _ z=>False.elim z
end
section
variable {X:Cx}{st:Stmt}{rest:List Stmt}{t u:TS}{e:AN}{te:TE}{pos:Pos}
def bI:TS:=λD σ H=>D.nx σ H
def aN(t u:TS):TS:=λD σ H=>t { D with nx:=u D } σ H
theorem aU:PSs X [] bI:=λ_ _ σ H _ I h=>wpAny_execs_nil ⟨σ,H,I,h⟩
theorem ao(h1:PS X st t)(h2:PSs X rest u):PSs X (st::rest) (aN t u):=by
 intro a s g H D I h;refine wpAny_execs_cons (fX (h1 a s g H { D with nx:=u D } I h) λf c q=>?_);cases f with
 | next=>
  obtain⟨b,d,e,q⟩:=q;exact h2 a c b d D e q
 | ret v=>exact q
 | brk=>exact q
 | cont=>exact q
theorem aA(h1:PS X st t):PSs X [st] t:=by
 intro a s b H D I h;refine wpAny_execs_cons (fX (h1 a s b H D I h) λf c q=>?_);cases f with
 | next=>exact wpAny_execs_nil q
 | ret v=>exact q
 | brk=>exact q
 | cont=>exact q
theorem Inv.quiet{a:At}{σ:St}{H:Hp}{s:AK}(I:Inv X a σ H s):interactive X.env=false:=by simp[interactive,I.ok.kind]
def lB(te:TE):TS:=λD σ H=>te σ H λ_ a=>D.nx σ a
theorem iT(c:PE X e te)(hs:swapsWith e none pos.line X.env=pure false:=by rfl):PS X (.Expr e pos) (lB te):=by
 intro a s b H D I h;exact wpAny_Expr_any (fX (c a s b H _ I h) (by rintro v d ⟨x,H1,I1,r1,q1⟩;exact⟨b,H1,I1,q1⟩)) I.quiet hs
def bB(te:TE):TS:=λD σ H=>te σ H D.rt
theorem aM(c:PE X e te):PS X (.Return (some e) pos) (bB te):=by
 intro a s b H D I h;exact wpAny_Return_some (fX (c a s b H _ I h) (by rintro v d ⟨x,H1,I1,r1,q1⟩;exact⟨x,b,H1,I1,r1,q1⟩))
def cL(c:TT)(t u:TS):TS:=λD σ H=>c σ H λb a=>if b=true then t D σ a else u D σ a
theorem bK{c:AN}{a b:List Stmt}{tc:TT}(hc:PT X c tc)(j:PSs X a t)(hb:PSs X b u):PS X (.If c a b pos) (cL tc t u):=by
 intro e s f H D I h;refine wpAny_If (fX (hc e s f H _ I h) λd i qc=>?_);obtain⟨g,I1,q1⟩:=qc;cases d with
 | true=>exact j e i f g D I1 q1
 | false=>exact hb e i f g D I1 q1
end
abbrev TG:=V->St->Hp->(ν)->Prop
abbrev TGs:=List V->St->Hp->(ν)->Prop
def PG(X:Cx)(a:AN)(t:TG):Prop:=
 ∀(b:At) (s:AK) (σ:St) (H:Hp) (v:V) (u:AJ) (Q:ν),Inv X b σ H s->RelV v u->t v σ H Q->
  wpAny ς X.A (assign a X.env u) (λ_ s'=>∃ c H',Inv X b c H' s'/\Q c H') X.xe s
def PGs(X:Cx)(ts:AG)(t:TGs):Prop:=
 ∀(a:At) (s:AK) (σ:St) (H:Hp) (vs:List V) (us:AC) (Q:ν),Inv X a σ H s->Vals vs us->t vs σ H Q->
  wpAny ς X.A (assignInOrder ((assignEach ts X.env).map (·.2)) us) (λ_ s'=>∃ b H',Inv X a b H' s'/\Q b H') X.xe s
abbrev Zrg:=V->V->V->Hp->(Hp->Prop)->Prop
def Zxs(X:Cx)(t:Zrg):Prop:=
 ∀(a:At) (s:AK) (σ:St) (H:Hp) (o i v:V) (b c u:AJ) (Q:Hp->Prop),Inv X a σ H s->RelV o b->RelV i c->RelV v u->t o i v H Q->
  wpAny ς X.A (setItem b c u) (λ_ s'=>∃H',Inv X a σ H' s'/\Q H') X.xe s
abbrev TIp:=V->V->Hp->VK->Prop
def PIp(X:Cx)(b:Operator)(t:TIp):Prop:=
 ∀(a:At) (s:AK) (σ:St) (H:Hp) (x y:V) (v u:AJ) (Q:VK),Inv X a σ H s->RelV x v->RelV y u->t x y H Q->
  wpAny ς X.A (inplaceOp b v u) (EP X a σ Q) X.xe s
section
variable {X:Cx}{pos:Pos}
def aL(i:Nat):TG:=λv σ H Q=>Q (σ.set i (some v)) H
theorem cJ{i:Nat}{x:Str}(c:X.N.Nodup)(d:X.N[i]? =some x)(hx:Loc X.env.scope x)(b:X.fn x=true\/X.env.scope.names.lookup x=some .local:=by first | exact .inl rfl | exact .inr rfl | assumption):PG X (.Name x pos) (aL i):=by
 intro a s g H v u Q I r h;exact wpAny_assign_Name (Eb I c d hx r (λf e=>⟨_,H,e,h⟩) b)
def Zgt:TGs:=λvs σ H Q=>vs=[]/\Q σ H
def vg(t:TG)(u:TGs):TGs:=λvs σ H Q=>∃v r,vs=v::r/\t v σ H λa H'=>u r a H' Q
theorem zU:PGs X [] Zgt:=by
 intro a s b H c us Q I r h;obtain⟨e,h⟩:=h;subst e;cases r;exact assignInOrder_nil ⟨b,H,I,h⟩
theorem jG{e:AN}{b:AG}{t:TG}{u:TGs}(h1:PG X e t)(h2:PGs X b u)
  (hs:(assignEach (e::b) X.env).map (·.2)=assign e X.env::(assignEach b X.env).map (·.2):=by rfl):PGs X (e::b) (vg t u):=by
 intro a s i H k us Q I r h;obtain⟨v,j,f,h⟩:=h;subst f;cases r with
 | cons r g=>
  rw[hs];refine assignInOrder_cons (fX (h1 a s i H _ _ _ I r h) λ_ d qc=>?_);obtain⟨c,H1,I1,q1⟩:=qc;exact h2 a d c H1 _ _ Q I1 g q1
def Zgs(K:aB)(n:Nat)(t:TGs):TG:=λv σ H Q=>∃a xs,v=.ref a/\dR K H a xs/\xs.length=n/\t xs σ H Q
theorem Jg{d:AG}{k:Nat}{t:TGs}{n:Nat}(hc:X.calm=true)(h:PGs X d t)
  (hn:(assignEach d X.env).length=n:=by rfl) (f:(assignEach d X.env).findIdx? (·.1)=none:=by rfl):PG X (.Tuple d k pos) (Zgs X.K n t):=by
 intro c s j H v u Q I r g;obtain⟨a,l,p,hq,hl,g⟩:=g;subst p;cases r;obtain⟨q,i,x,hz⟩:=I.tuple hq;refine assign_Tuple_tuple (I.ok.hd hc) x (by simp[hn,<- hl,i.length]) f λw hx=>?_;have m:Inv X c j H { s with heap:=w }:=I.kept (t':=s.toks) λb o e=>hx b o (Nat.ne_of_lt (Heap.lt_size e)) e;exact h c _ j H l _ Q m (by simpa using i) g
def S6(to c:TE)(t:Zrg):TG:=λv σ H Q=>to σ H λo b=>c σ b λi a=>t o i v a λd=>Q σ d
theorem vM{o i:AN}{to e:TE}{t:Zrg}(k:PE X o to)(f:PE X i e)(hs:Zxs X t)
  (l:∀v,assign (.Subscript o i pos) X.env v=(do
   let b <- holding [v] (eval o X.env)
   let c <- holding [v,b] (eval i X.env)
   standAt pos
   holding [v,b,c] (setItem b c v)
   release [v,b,c] []):=by intro _;rfl):PG X (.Subscript o i pos) (S6 to e t):=by
 intro a s d H v u Q I r h;rw[l];refine wpAny_bind (wpAny_holding (fX (k a s d H _ I h) λb j qc=>?_));obtain⟨x,H1,I1,r1,q1⟩:=qc;refine wpAny_bind (wpAny_holding (fX (f a j d H1 _ I1 q1) λc m qc=>?_));obtain⟨y,H2,I2,r2,q2⟩:=qc;refine wpAny_bind (wpAny_standAt (wpAny_bind (wpAny_holding (fX (hs a m d H2 x y v b c u _ I2 r1 r2 r q2) λ_ n qc=>?_))));obtain⟨g,I3,q3⟩:=qc;exact wpAny_release ⟨d,g,I3,q3⟩
def bx(b:TE)(g:TG):TS:=λD σ H=>b σ H λx a=>g x σ a D.nx
theorem tV{tg e:AN}{b:TE}{g:TG}(j:PE X e b)(f:PG X tg g)(hs:swapsWithSole [tg] e pos.line X.env=pure false:=by rfl)(i:swappedStores [tg] e X.env=pure none:=by rfl)
  (h1:(assignEach [tg] X.env).map (·.2)=[assign tg X.env]:=by rfl):PS X (.Assign [tg] e pos) (bx b g):=by
 intro a s c H D I h;refine wpAny_Assign_stores (fX (j a s c H _ I h) λv d qc=>?_) hs i;obtain⟨x,H1,I1,r1,q1⟩:=qc;rw[h1];exact fX (f a d c H1 x v _ I1 r1 q1) λ_ k q=>q
theorem Zk{i:Nat}{x:Str}{e:AN}{c:TE}{a:Pos}(k:X.N.Nodup)(f:X.N[i]? =some x)(hx:Loc X.env.scope x)(l:PE X e c)(hs:swapsWith e (some (.Name x a)) pos.line X.env=pure false:=by rfl)(g:X.fn x=true\/X.env.scope.names.lookup x=some .local:=by first | exact .inl rfl | exact .inr rfl | assumption):
  PS X (.Assign [.Name x a] e pos) (bx c (aL i)):=by
 intro b s j H D I h;refine wpAny_Assign_Name (fX (l b s j H _ I h) λv m qc=>?_) hs;obtain⟨y,H1,I1,r1,q1⟩:=qc;exact Eb I1 k f hx r1 (λn d=>⟨_,H1,d,q1⟩) g
def Zsr(i:Nat)(d:TE)(c:TIp):TS:=λD σ H=>∃x,σ[i]? =some (some x)/\d σ H λy b=>c x y b λz a=>D.nx (σ.set i (some z)) a
theorem Zt6{i:Nat}{x:Str}{e:AN}{p:TE}{n:Operator}{q:TIp}{d:Pos}(L:X.N.Nodup)(o:X.N[i]? =some x)(hx:Loc X.env.scope x)(C:PE X e p)(K:PIp X n q)(J:X.fn x=true\/X.env.scope.names.lookup x=some .local:=by first | exact .inl rfl | exact .inr rfl | assumption):
  PS X (.AugAssign (.Name x d) n e pos) (Zsr i p q):=by
 intro a s t H D I h;obtain⟨v,F,h⟩:=h;obtain⟨m,hn,hl⟩:=I.loc;have j:Vis X.env.scope x:=by rcases hx with k | k;exact .inl k;exact .inr (.inl k)
 obtain⟨u,r,l⟩:=hl i x v o F j;refine wpAny_AugAssign_Name ?_;have go:wpAny ς X.A (eval e X.env) (λw g=>wpAny ς X.A (inplaceOp n u w) (λr f=>wpAny ς X.A (storeName X.env x r) (λ_=>SP X a D .next) X.xe f) X.xe g) X.xe s:=by
  refine fX (C a s t H _ I h) λw E qc=>?_;obtain⟨y,H1,I1,r1,q1⟩:=qc;refine fX (K a E t H1 v y u w _ I1 r r1 q1) λz P qc=>?_;obtain⟨O,H2,I2,r2,q2⟩:=qc;exact Eb I2 L o hx r2 (λM B=>⟨_,H2,B,q2⟩) J
 rcases l with ⟨hk,hm⟩ | ⟨hk,c,hc,b⟩
 ·exact wpAny_loadName_local I.ok.kind hk hn hm go
 ·rcases hk with hk | hk
  ·exact wpAny_loadName_cell I.ok.kind hk hc b go
  ·rcases hx with k | k
   ·have:X.env.scope.names.lookup x=some .free:=hk;rw[k]at this;cases this
   ·have:X.env.scope.names.lookup x=some .free:=hk;rw[k]at this;cases this
def ipI(f:Int->Int->Int):TIp:=λx y H Q=>∃i j,x=.int i/\y=.int j/\Q (.int (f i j)) H
theorem Zu2:PIp X .Add (ipI λi j=>i+j):=by
 intro a s g H x y v u Q I b c h;obtain⟨i,j,e,d,q⟩:=h;subst e;subst d;obtain⟨t,rfl⟩:=b;obtain⟨f,rfl⟩:=c;exact iadd_int ⟨.int _,H,I.tok _,⟨_,rfl⟩,q⟩
end
section
variable {X:Cx}{pos:Pos}
def YJ(c:TT)(f:TS):TS:=λD σ H=>∃W:Nat->ν,(∃m,W m σ H)/\∀m σ H,W m σ H->
 c σ H λb d=>if b=true then ∃N:ν,(∀ a H',N a H'->∃e,e<m/\W e a H')/\f { D with nx:=N,ct:=N,bk:=D.nx } σ d else D.nx σ d
theorem QJ{c:AN}{g:List Stmt}{tc:TT}{p:TS}(hp:PassesOwn ς X.A X.env X.xe)(hc:PT X c tc)(hb:PSs X g p):PS X (.While c g [] pos) (YJ tc p):=by
 intro a s E H D I h;obtain⟨W,⟨z,w0⟩,turn⟩:=h;refine wpAny_While (codeAny_whileLoop (λn C=>∃ i r,Inv X a i r C/\W n i r) ?_ z ⟨E,H,I,w0⟩);rintro n y ⟨e,q,B,x⟩;refine wpAny_passesOwn hp (fX (hc a y e q _ B (turn n e q x)) λb F qc=>?_);obtain⟨t,I2,k⟩:=qc;cases b with
 | true=>
  obtain⟨N,u,k⟩:=k;rw[if_pos rfl];refine wpAny_passesOwn hp (fX (hb a F e t _ I2 k) λf J l=>?_);cases f with
  | next=>
   obtain⟨d,j,m,n3⟩:=l;obtain⟨o,hm,w3⟩:=u d j n3;exact⟨o,hm,d,j,m,w3⟩
  | cont=>
   obtain⟨d,j,m,n3⟩:=l;obtain⟨o,hm,w3⟩:=u d j n3;exact⟨o,hm,d,j,m,w3⟩
  | brk=>exact l
  | ret v=>exact l
 | false=>
  rw[if_neg Bool.false_ne_true];exact wpAny_execs_nil ⟨e,t,I2,k⟩
end
structure It where
 go:Nat->Hp->Prop
 yld:Nat->Hp->V->Hp->Prop
 stop:Nat->Hp->Prop
def qd(X:Cx)(a:At)(H:Hp)(b:AI):Prop:=
 H b=none/\b≠X.env.locals/\b∉X.fs/\(b∈X.ex\/X.s₀.heap.objs.size<=b)/\(∀x c,X.env.cells.lookup x=some c->c≠b)/\∀p∈X.pn++a,p.1≠b
theorem Inv.Zgv{X:Cx}{a:At}{σ:St}{H H':Hp}{s:AK}{b:AI}(I:Inv X a σ H s)(hb:s.heap.objs.size<=b)(hn:H' b=none):qd X a H' b:=by
 refine⟨hn,Nat.ne_of_gt (Nat.lt_of_lt_of_le I.lt hb),I.Zy4 hb,.inr (Nat.le_trans I.sz hb),λx c e z=>?_,λp hp z=>?_⟩
 ·obtain⟨v,q⟩:=I.cell x c e;exact absurd (Nat.lt_of_lt_of_le q.lt (by rw[z];exact hb)) (Nat.lt_irrefl _)
 ·exact absurd (Nat.lt_of_lt_of_le (Heap.lt_size (I.pin p hp).1) (by rw[z];exact hb)) (Nat.lt_irrefl _)
structure Turn(P:AM)(w:AO)(K:aB)(tg:AN)(J:It)(fp:AF)(it:AI)(tn:Nat->Heap->Prop):Prop where
  mem:it∈fp
  obj:∀i h,tn i h->∀b∈fp,∃o,h.get? b=some o/\∀v,o.data≠.cell v
  keep:∀i h h',tn i h->(∀b∈fp,∀o,h.get? b=some o->h'.get? b=some o)->tn i h'
  item:∀(X:Cx),X.prog=P->X.w=w->X.K=K->X.calm=true->∀(i:Nat) (pins:At) (s:AK) (σ:St) (H:Hp) (E:Ap),Inv X pins σ H s->(∀b∈fp,qd X pins H b)->tn i s.heap->J.go i H->
    wpAny (model P w) X.A (pyNext (.ref it)) (λr s1=>∃u,r=some u/\
      wpAny (model P w) X.A (letOwnedTupleGo tg (.ref it) u) (λ_ s2=>∃x H',Inv X pins σ H' s2/\RelV x u/\J.yld i H x H'/\tn cy s2.heap/\∀b∈fp,H' b=none) E s1) E s
  done:∀(X:Cx),X.prog=P->X.w=w->X.K=K->X.calm=true->∀(i:Nat) (pins:At) (s:AK) (σ:St) (H:Hp) (E:Ap),Inv X pins σ H s->(∀b∈fp,qd X pins H b)->tn i s.heap->J.stop i H->
    wpAny (model P w) X.A (pyNext (.ref it)) (λr s1=>r=none/\Inv X pins σ H s1) E s
  self:∀(A:Around) (i:Nat) (s:AK) (Q:Ap) (E:Ap),tn i s.heap->Q (.ref it) s->wpAny (model P w) A (pyIter (.ref it)) Q E s
abbrev TI:=St->Hp->(It->Hp->Prop)->Prop
def PIE(X:Cx)(a:At)(σ:St)(tg:AN)(R:It->Hp->Prop)(c:AJ)(e:AK):Prop:=
 ∃(f:AI) (d:AF) (tn:Nat->Heap->Prop) (J:It) (H':Hp),c=.ref f/\Inv X a σ H' e/\Turn X.prog X.w X.K tg J d f tn/\tn 0 e.heap/\(∀b∈d,qd X a H' b)/\R J H'
def PI(X:Cx)(tg iter:AN)(c:TI):Prop:=
 ∀(a:At) (s:AK) (σ:St) (H:Hp) (R:It->Hp->Prop),Inv X a σ H s->c σ H R->
  wpAny ς X.A (eval iter X.env) (λv b=>wpAny ς X.A (pyIter v) (PIE X a σ tg R) X.xe b) X.xe s
theorem Zoa{M:Model}{A:Around}{E:Ap}{s:AK}{tg:AN}{b:AI}{u:AJ}{o:Obj}{n:String}{vs:Array AJ}{Q:Unit->AK->Prop}(c:s.heap.get? b=some o)(hc:o.cls=.type n)(hd:o.data=.fields vs)
    (hn:["enumerate","zip","dict_itemiterator","dict_reverseitemiterator","odict_iterator","itertools.zip_longest","itertools.pairwise"].contains n=false) (a:Q () s):wpAny M A (letOwnedTupleGo tg (.ref b) u) Q E s:=by
  unfold letOwnedTupleGo;cases tg<;>first
    | exact wpAny_pure a
    | (cases u<;>first
        | exact wpAny_pure a
        | (refine wpAny_bind (wpAny_load c ?_)
           rw[hc,hd];show wpAny M A (if (["enumerate","zip","dict_itemiterator","dict_reverseitemiterator","odict_iterator","itertools.zip_longest","itertools.pairwise"].contains n && vs[0]? == some (rawInt _))=true then _ else _) Q E s;rw[if_neg (by intro h;rw[hn,Bool.false_and]at h;cases h)];exact wpAny_pure a))
def Itl(K:aB)(a:AI):It:=
 ⟨λi H=>∃xs x,bN K H a xs/\xs[i]? =some x,λi H x H'=>H'=H/\∀xs,bN K H a xs->xs[i]? =some x,λi H=>∃xs,bN K H a xs/\xs.length<=i⟩
def Itr(lo:Int)(n:Nat):It:=⟨λi _=>i<n,λi H x H'=>H'=H/\x=.int (lo+i),λi _=>n<=i⟩
theorem Zjm{P:AM}{w:AO}{K:aB}{tg:AN}(a g:AI):Turn P w K tg (Itl K a) [g] g (λi h=>h.IsListIter g a i) where
  mem:=ζ
  obj:=λi h st b hb=>by
    have e:b=g:=by simpa using hb
    subst e;obtain⟨o,e,c,d⟩:=st;exact⟨o,e,λv z=>by rw[d]at z;cases z⟩
  keep:=λi h l st k=>st.at λo e=>k g ζ o e
  item:=by
    intro X r D J hc i f s L H E I m st C;subst r D J;obtain⟨M,x,hq,hx⟩:=C;obtain⟨t,y,p,hz⟩:=I.list hq;obtain⟨u,hu,O⟩:=y.get hx;obtain⟨B,q,N,A,F,n⟩:=m g ζ;refine wpAny_pyNext_list_item st p.isList (x:=u) (by simpa using hu) λl j sb=>?_;have Q:Inv X f L H { s with heap:=l }:=I.turned (t':=s.toks) (λb o hb e=>(sb.2 b hb).trans e) B q A F n;obtain⟨o,e,c,d⟩:=id j;exact⟨u,rfl,Zoa (s:={ s with heap:=l }) e c d ε ⟨x,H,Q,O,⟨rfl,λS hy=>by rw[I.Zdm hy hq];exact hx⟩,j,λb hb=>(m b hb).1⟩⟩
  done:=by
    intro X r D J hc i f s L H E I m st C;subst r D J;obtain⟨M,hq,hx⟩:=C;obtain⟨t,y,p,hz⟩:=I.list hq;obtain⟨B,q,N,A,F,n⟩:=m g ζ;have hl:=y.length;exact wpAny_pyNext_list_end (I.ok.hd hc) st p.isList (by simp;omega) λl R=>⟨rfl,I.turned (t':=s.toks) (λb o hb e=>R b o hb e) B q A F n⟩
  self:=λ_ _ _ _ _ st h=>wpAny_pyIter_listiter st h
theorem Zf5{P:AM}{w:AO}{K:aB}{tg:AN}(c:AI)(lo:Int)(n:Nat):Turn P w K tg (Itr lo n) [c] c (λi h=>IsRangeIter h c (lo+(i:Nat) * 1) ((n:Int) - (i:Nat)) 1) where
  mem:=ζ
  obj:=λi h st b hb=>by
    have e:b=c:=by simpa using hb
    subst e;exact⟨_,st,λv z=>by
      have D:Data.fields _=Data.cell v:=z;cases D⟩
  keep:=λi h f st k=>k c ζ _ st
  item:=by
    intro X m u y hc i a s A H E I g st r;subst m u y;obtain⟨q,l,B,p,x,j⟩:=g c ζ;have W:=Walks.range (prog:=X.prog) (w:=X.w) (I.ok.hd hc) c lo 1 n;refine W.item i s _ _ r st λv f tk hv d kk=>?_;obtain⟨t,rfl⟩:=hv;have C:Inv X a A H { s with heap:=f,toks:=tk }:=I.turned (λb o hb e=>kk b o (by simpa using hb) e) q l p x j;refine⟨_,rfl,Zoa (s:={ s with heap:=f,toks:=tk }) (n:="range_iterator") d rfl rfl ε ⟨.int (lo+i),H,C,⟨t,?_⟩,⟨rfl,rfl⟩,d,λb hb=>(g b hb).1⟩⟩;rw[Int.mul_one]
  done:=by
    intro X m u y hc i a s A H E I g st r;subst m u y;obtain⟨q,l,B,p,x,j⟩:=g c ζ;exact wpAny_pyNext_range_end (I.ok.hd hc) st (by have:n<=i:=r;omega) λf F=>⟨rfl,I.turned (t':=s.toks) (λb o hb e=>F b o hb e) q l p x j⟩
  self:=λ_ _ _ _ _ st h=>wpAny_pyIter_rangeiter st h
section
variable {X:Cx}{tg:AN}
def iR(K:aB)(tl:TE):TI:=λσ H R=>tl σ H λx b=>∃a,x=.ref a/\(∃xs,bN K b a xs)/\R (Itl K a) b
theorem dO{l:AN}{tl:TE}(hl:PE X l tl):PI X tg l (iR X.K tl):=by
 intro c s g H R I h;refine fX (hl c s g H _ I h) λv d qc=>?_;obtain⟨x,H1,I1,r1,q1⟩:=qc;obtain⟨a,e,⟨i,hq⟩,q⟩:=q1;subst e;cases r1;obtain⟨f,j,p,hz⟩:=I1.list hq;refine wpAny_pyIter_list p.isList ?_;refine⟨d.heap.objs.size,[d.heap.objs.size],_,_,H1,rfl,I1.kept (t':=d.toks) λb o e=>Heap.get?_push_of_some _ e,Zjm a _,⟨_,Heap.get?_push_size _ rfl,rfl,rfl⟩,λb hb=>?_,q⟩;have e:b=d.heap.objs.size:=by simpa using hb
 subst e;exact I1.Zgv Δ (I1.hok.fresh Δ)
theorem Zm9{c:At}{σ:St}{H:Hp}{s:AK}{R:It->Hp->Prop}{E:Ap}{lo a:Int}{t u v:Tok}{tk:Nat}(I:Inv X c σ H s)(h1:-(2 ^ 62)<=lo)(h2:lo<2 ^ 62)(h:-(2 ^ 62)<=a)(h4:a<2 ^ 62)
  (q:R (Itr lo (a - lo).toNat) H):wpAny ς X.A (pyIter (.ref s.heap.objs.size)) (PIE X c σ tg R) E { s with heap:=s.heap.push { cls:=.type "range",data:=.fields #[.int lo t,.int a u,.int 1 v] },toks:=tk }:=by
 refine wpAny_pyIter_range (IsRange.new ..) (small_one h1 h2 h h4) ?_;have d:Inv X c σ H { s with heap:=s.heap.push { cls:=.type "range",data:=.fields #[.int lo t,.int a u,.int 1 v] },toks:=tk }:=I.kept λb o e=>Heap.get?_push_of_some _ e;refine⟨(s.heap.push { cls:=.type "range",data:=.fields #[.int lo t,.int a u,.int 1 v] }).objs.size,[(s.heap.push { cls:=.type "range",data:=.fields #[.int lo t,.int a u,.int 1 v] }).objs.size],_,_,H,rfl,
  d.kept (t':=tk) λb o e=>Heap.get?_push_of_some _ e,Zf5 _ lo (a - lo).toNat,?_,λb hb=>?_,q⟩
 ·have g:lo+((0:Nat):Int) * 1=lo:=ζ
  have f:(((a - lo).toNat:Nat):Int) - ((0:Nat):Int)=Builtin.Range.rangeSize lo a 1:=by rw[rangeSize_one];split<;>omega
  show IsRangeIter _ _ (lo+((0:Nat):Int) * 1) ((((a - lo).toNat:Nat):Int) - ((0:Nat):Int)) 1;rw[g,f];exact Heap.get?_push_size _ rfl
 ·have e:b=(s.heap.push { cls:=.type "range",data:=.fields #[.int lo t,.int a u,.int 1 v] }).objs.size:=by simpa using hb
  subst e;exact d.Zgv Δ (d.hok.fresh Δ)
def xK(a:TA):TI:=λσ H R=>a σ H λvs b=>∃j:Int,vs=[.int j]/\-(2 ^ 62)<=j/\j<2 ^ 62/\R (Itr 0 j.toNat) b
theorem jK{a:AN}{f:TA}{p b:Pos}(l:Gl X "range")(hm:X.mg "range"=none)(k:PA X [a] f)(hs:starEach [a] X.env=[(false,eval a X.env)]:=by rfl):PI X tg (.Call (.Name "range" p) [a] [] b) (xK f):=by
 intro c s m H R I h;refine Call_ (R0 I l hm boot_range (PyProof.Rows.callWith_type1 (fX (k b c s m H _ I h) λus n qc=>?_) hs rfl));obtain⟨o,H1,I1,r1,d⟩:=qc;obtain⟨j,e,d,g,q⟩:=d;subst e;cases r1 with
 | cons r i=>
  cases i;obtain⟨t,rfl⟩:=r;exact call_range_1 (Zm9 I1 δ δ d g (by simpa using q))
def mK(d:TI)(g:TG)(e:TS):TS:=λD σ H=>d σ H λJ f=>∃W:Nat->Nat->ν,(∃m,W 0 m σ f)/\∀i m σ H,W i m σ H->
 (J.stop i H/\D.nx σ H)\/(J.go i H/\∃N:ν,(∀ a H',N a H'->∃c,c<m/\W cy c a H')/\∀x H',J.yld i H x H'->g x σ H' λb h=>e { D with nx:=N,ct:=N,bk:=D.nx } b h)
def Dh(a:AF)(h:Heap):At:=a.filterMap λb=>(h.get? b).map λo=>(b,o)
theorem qO{a:AF}{h:Heap}{b:AI}{o:Obj}(hb:b∈a)(e:h.get? b=some o):(b,o)∈Dh a h:=List.mem_filterMap.mpr ⟨b,hb,by rw[e];rfl⟩
theorem Xv{a:AF}{h:Heap}{p:AI×Obj}(hp:p∈Dh a h):p.1∈a/\h.get? p.1=some p.2:=by
 obtain⟨b,hb,e⟩:=List.mem_filterMap.mp hp;cases q:h.get? b with
 | none=>rw[q]at e;cases e
 | some o=>
  rw[q]at e;have c:(b,o)=p:=Option.some.inj e;subst c;exact⟨hb,q⟩
theorem Inv.pinned{a:At}{σ:St}{H:Hp}{s:AK}{c:AF}(I:Inv X a σ H s)(i:∀b∈c,qd X a H b)(j:∀b∈c,∃o,s.heap.get? b=some o/\∀v,o.data≠.cell v):Inv X (a++Dh c s.heap) σ H s:=
 I.zT λp hp=>(List.mem_append.mp hp).elim (λz=>I.pin p (List.mem_append_right _ z)) λz=>by
  obtain⟨hb,e⟩:=Xv z;obtain⟨k,h,g,_⟩:=i p.1 hb;obtain⟨o,f,d⟩:=j p.1 hb;rw[e]at f;cases f;exact⟨e,k,h,g,d⟩
theorem Inv.DY{a pl:At}{σ:St}{H:Hp}{s:AK}(I:Inv X (a++pl) σ H s):Inv X a σ H s:=I.zT λp hp=>I.pin p (List.mem_append_right _ (List.mem_append_left _ hp))
theorem fM{iter:AN}{y:List Stmt}{R:TI}{g:TG}{Z:TS}{P:Pos}(hp:PassesOwn ς X.A X.env X.xe)(hc:X.calm=true)(hi:PI X tg iter R)(hg:PG X tg g)(hb:PSs X y Z)
  (hs:∀x,foldedSetIterable iter X.env x=pure x:=by intro _;rfl):PS X (.For tg iter y [] P) (mK R g Z):=by
 intro c s S H D I h;refine wpAny_For (fX (hi c s S H _ I h) λv s1 h1=>fX h1 λitv s2 h2=>?_) hs;obtain⟨it,B,tn,J,H2,e,I2,T,L,f2,W,⟨m0,w0⟩,turn⟩:=h2;subst e;have l:∀{t:Hp},(∀b∈B,t b=none)->∀b∈B,qd X c t b:=λhn b hb=>⟨hn b hb,(f2 b hb).2⟩;refine codeAny_forLoop_any (λn U=>∃i j t,Inv X c j t U/\tn i U.heap/\(∀b∈B,t b=none)/\W i n j t) ?_ m0 ⟨0,S,H2,I2,L,λb hb=>(f2 b hb).1,w0⟩;rintro n V ⟨i,k,F,Y,E,C,w3⟩;rcases turn i n k F w3 with ⟨stop,qn⟩ | ⟨go,N,hN,step⟩
 ·refine wpAny_passesOwn hp (fX (T.done X rfl rfl rfl hc i c V k F X.xe Y (l C) E stop) λr s4 qc=>?_);obtain⟨hr,I4⟩:=qc;subst hr;exact wpAny_execs_nil ⟨k,F,I4,qn⟩
 ·refine wpAny_passesOwn hp (fX (T.item X rfl rfl rfl hc i c V k F X.xe Y (l C) E go) λr s4 qc=>?_);obtain⟨u,hr,h4⟩:=qc;subst hr;refine wpAny_passesOwn hp (fX h4 λ_ Q qc=>?_);obtain⟨x,H5,I5,r5,y5,st5,fr5⟩:=qc;have M:=I5.pinned (l fr5) (T.obj _ _ st5);refine wpAny_passesOwn hp (fX (hg _ Q k H5 x u _ M r5 (step x H5 y5)) λ_ s6 qc=>?_);obtain⟨K,H6,I6,q6⟩:=qc;refine wpAny_passesOwn hp (fX (hb _ s6 K H6 _ I6 q6) λf O z=>?_);have again:∀{a:St}{p:Hp},Inv X (c++Dh B Q.heap) a p O->N a p->∃m,m<n/\∃i j t,Inv X c j t O/\tn i O.heap/\(∀b∈B,t b=none)/\W i m j t:=λ{a p} q n7=>by
   obtain⟨m',hm,w7⟩:=hN a p n7;refine⟨m',hm,i+1,a,p,q.DY,T.keep _ _ _ st5 λb hb o e=>(q.pin (b,o) da).1,λb hb=>?_,w7⟩;obtain⟨o,e,d⟩:=T.obj _ _ st5 b hb;exact(q.pin (b,o) da).2.1
  cases f with
  | next=>obtain⟨a,p,q,n7⟩:=z;exact again q n7
  | cont=>obtain⟨a,p,q,n7⟩:=z;exact again q n7
  | brk=>obtain⟨a,p,q,z⟩:=z;exact⟨a,p,q.DY,z⟩
  | ret v=>obtain⟨x7,a,p,q,r7,z⟩:=z;exact⟨x7,a,p,q.DY,r7,z⟩
end
theorem Zof{K:aB}{a:AI}{xs:List V}{g:TG}{j:TS}{D:Ends}{σ:St}{H:Hp}(Pv:Nat->ν)(k:Pv 0 σ H)(hl:∀i σ H,i<=xs.length->Pv i σ H->bN K H a xs)
  (hs:∀i x σ H,xs[i]? =some x->Pv i σ H->g x σ H λc f=>j { D with nx:=Pv cy,ct:=Pv cy,bk:=D.nx } c f) (hd:∀ σ H,Pv xs.length σ H->D.nx σ H):
  ∃W:Nat->Nat->ν,(∃m,W 0 m σ H)/\∀i m σ H,W i m σ H->
   ((Itl K a).stop i H/\D.nx σ H)\/((Itl K a).go i H/\∃N:ν,(∀ b H',N b H'->∃h,h<m/\W cy h b H')/\∀x H',(Itl K a).yld i H x H'->g x σ H' λc f=>j { D with nx:=N,ct:=N,bk:=D.nx } c f):=by
 refine⟨λi m σ H=>m=xs.length - i/\i<=xs.length/\Pv i σ H,⟨xs.length,ζ,Nat.zero_le _,k⟩,?_⟩;rintro i m σ H ⟨rfl,l,p⟩;have q:=hl i σ H l p
 by_cases d:i<xs.length
 ·refine .inr ⟨⟨xs,xs[i],q,by simp[d]⟩,Pv cy,λb H' n=>⟨xs.length - cy,δ,rfl,d,n⟩,λx H' y=>?_⟩;obtain⟨e,y⟩:=y;subst e;exact hs i x σ _ (y xs q) p
 ·have e:i=xs.length:=δ
  subst e;exact .inl ⟨⟨xs,q,Nat.le_refl _⟩,hd σ H p⟩
theorem Zkz{lo:Int}{n:Nat}{g:TG}{h:TS}{D:Ends}{σ:St}{H:Hp}(Pv:Nat->ν)(j:Pv 0 σ H)
  (hs:∀i σ H,i<n->Pv i σ H->g (.int (lo+i)) σ H λc d=>h { D with nx:=Pv cy,ct:=Pv cy,bk:=D.nx } c d) (hd:∀ σ H,Pv n σ H->D.nx σ H):
  ∃W:Nat->Nat->ν,(∃m,W 0 m σ H)/\∀i m σ H,W i m σ H->
   ((Itr lo n).stop i H/\D.nx σ H)\/((Itr lo n).go i H/\∃N:ν,(∀ a H',N a H'->∃f,f<m/\W cy f a H')/\∀x H',(Itr lo n).yld i H x H'->g x σ H' λc d=>h { D with nx:=N,ct:=N,bk:=D.nx } c d):=by
 refine⟨λi m σ H=>m=n - i/\i<=n/\Pv i σ H,⟨n,ζ,Nat.zero_le _,j⟩,?_⟩;rintro i m σ H ⟨rfl,l,p⟩
 by_cases b:i<n
 ·refine .inr ⟨b,Pv cy,λa H' k=>⟨n - cy,δ,rfl,b,k⟩,λx H' y=>?_⟩;obtain⟨e,y⟩:=y;subst e y;exact hs i σ _ b p
 ·have e:i=n:=δ
  subst e;exact .inl ⟨Nat.le_refl _,hd σ H p⟩
abbrev R2:=V->V->Hp->VK->Prop
def tK(X:Cx)(f:AJ->AJ->Sem AJ)(r:R2):Prop:=
 ∀(a:At) (s:AK) (σ:St) (H:Hp) (x y:V) (v u:AJ) (Q:VK),Inv X a σ H s->RelV x v->RelV y u->r x y H Q->
  wpAny ς X.A (f v u) (EP X a σ Q) X.xe s
def UnR(X:Cx)(f:AJ->Sem AJ)(r:V->Hp->VK->Prop):Prop:=
 ∀(a:At) (s:AK) (σ:St) (H:Hp) (x:V) (v:AJ) (Q:VK),Inv X a σ H s->RelV x v->r x H Q->
  wpAny ς X.A (f v) (EP X a σ Q) X.xe s
def Im(X:Cx)(f:AJ)(r:List V->Hp->VK->Prop):Prop:=
 ∀(a:At) (s:AK) (σ:St) (H:Hp) (xs:List V) (us:AC) (Q:VK),Inv X a σ H s->Vals xs us->r xs H Q->
  wpAny ς X.A (call f us) (EP X a σ Q) X.xe s
def ZB9(X:Cx)(r:V->Hp->(Bool->Hp->Prop)->Prop):Prop:=
 ∀(a:At) (s:AK) (σ:St) (H:Hp) (x:V) (v:AJ) (Q:Bool->Hp->Prop),Inv X a σ H s->RelV x v->r x H Q->
  wpAny ς X.A (truthy v) (TP X a σ Q) X.xe s
def bh(r:R2)(a d:TE):TE:=λσ H Q=>a σ H λx c=>d σ c λy b=>r x y b Q
def tUn(r:V->Hp->VK->Prop)(a:TE):TE:=λσ H Q=>a σ H λx b=>r x b Q
def rI(C:Int->Int->Prop)(g:Int->Int->V):R2:=λx y H Q=>∃i j,x=.int i/\y=.int j/\C i j/\Q (g i j) H
def jJ(g:Int->Int->V):R2:=λx y H Q=>∃i j,x=.int i/\y=.int j/\Q (g i j) H
def rU(g:Int->V):V->Hp->VK->Prop:=λx H Q=>∃i,x=.int i/\Q (g i) H
section
variable {X:Cx}{a b c:AN}{ta tb tc:TE}{pos:Pos}
theorem Zv8(m:PE X a ta)(hb:PE X b tb){c:At}{s:AK}{σ:St}{H:Hp}{R:V->V->Hp->Prop}(I:Inv X c σ H s)
  (h:ta σ H λx j=>tb σ j λy d=>R x y d) {Q:Ap}{f:AJ->AJ->Sem AJ}
  (l:∀v u i x y d,Inv X c σ d i->RelV x v->RelV y u->R x y d->wpAny ς X.A (f v u) Q X.xe i):
  wpAny ς X.A (eval a X.env) (λv e=>wpAny ς X.A (eval b X.env) (λu g=>wpAny ς X.A (f v u) Q X.xe g) X.xe e) X.xe s:=by
 refine fX (m c s σ H _ I h) λv k qc=>?_;obtain⟨x,j,I1,r1,q1⟩:=qc;refine fX (hb c k σ j _ I1 q1) λu i qc=>?_;obtain⟨y,d,I2,r2,q2⟩:=qc;exact l v u i x y d I2 r1 r2 q2
theorem aY{d:Operator}{r:R2}(j:tK X (binaryOp d) r)(k:PE X a ta)(hb:PE X b tb):PE X (.BinOp a d b pos) (bh r ta tb):=by
 intro c s l H Q I h;exact wpAny_BinOp (Zv8 k hb I h λv u m x y g e f i q=>j c m l g x y v u Q e f i q)
theorem Zru{d:UnaryOp}{r:V->Hp->VK->Prop}(f:UnR X (unaryOp d) r)(g:PE X a ta):PE X (.UnaryOp d a pos) (tUn r ta):=by
 intro b s c H Q I h;exact UnaryOp_ (fX (g b s c H _ I h) (by rintro v e ⟨x,H1,I1,r1,q1⟩;exact f b e c H1 x v Q I1 r1 q1))
theorem opI{f:AJ->AJ->Sem AJ}{C:Int->Int->Prop}{g:Int->Int->Int}
  (rule:∀(i j:Int) (t u:Tok) (s:AK) (Q:Ap) (E:Ap),C i j->Q (.int (g i j) s.toks) { s with toks:=s.toks+1 }->wpAny ς X.A (f (.int i t) (.int j u)) Q E s):
  tK X f (rI C λi j=>.int (g i j)):=by
 intro a s e H x y v u Q I b c h;obtain⟨i,j,rfl,rfl,hc,q⟩:=h;obtain⟨t,rfl⟩:=b;obtain⟨d,rfl⟩:=c;exact rule i j t d s _ _ hc ⟨.int (g i j),H,I.tok _,⟨_,rfl⟩,q⟩
theorem Zq1{f:AJ->AJ->Sem AJ}{g:Int->Int->Int}
  (rule:∀(i j:Int) (t u:Tok) (s:AK) (Q:Ap) (E:Ap),Q (.int (g i j) s.toks) { s with toks:=s.toks+1 }->wpAny ς X.A (f (.int i t) (.int j u)) Q E s):
  tK X f (jJ λi j=>.int (g i j)):=by
 intro a s e H x y v u Q I b c h;obtain⟨i,j,rfl,rfl,q⟩:=h;obtain⟨t,rfl⟩:=b;obtain⟨d,rfl⟩:=c;exact rule i j t d s _ _ ⟨.int (g i j),H,I.tok _,⟨_,rfl⟩,q⟩
theorem Zq2{f:AJ->AJ->Sem AJ}{g:Int->Int->Bool}
  (rule:∀(i j:Int) (t u:Tok) (s:AK) (Q:Ap) (E:Ap),Q (.bool (g i j)) s->wpAny ς X.A (f (.int i t) (.int j u)) Q E s):
  tK X f (jJ λi j=>.bl (g i j)):=by
 intro a s e H x y v u Q I b c h;obtain⟨i,j,rfl,rfl,q⟩:=h;obtain⟨t,rfl⟩:=b;obtain⟨d,rfl⟩:=c;exact rule i j t d s _ _ ⟨.bl (g i j),H,I,rfl,q⟩
def Kl(i j:Int):Prop:=0<j/\j<1073741824
def Uu(i j:Int):Prop:=0<=j/\j<=1000000/\i.natAbs<2 ^ 64
def Uv(i j:Int):Prop:=(-(2 ^ 64)<i/\i<2 ^ 64)\/(-(2 ^ 64)<j/\j<2 ^ 64)
theorem Uv.ok{i j:Int}(h:Uv i j):IntMulOk i j:=by
 rcases h with ⟨h1,h2⟩ | ⟨h1,h2⟩
 ·exact .of_left (intBits_le_64 h1 h2)
 ·exact .of_right (intBits_le_64 h1 h2)
theorem Zf4(k:Nat):(0:Int)<=2 ^ k:=by
 rw[two_pow_cast];exact Int.natCast_nonneg _
theorem gR:tK X (binaryOp .Add) ac:=Zq1 λ_ _ _ _ _ _ _ q=>add_int q
theorem vP:tK X (binaryOp .Sub) c0:=Zq1 λ_ _ _ _ _ _ _ q=>sub_int q
theorem Jl:tK X (binaryOp .Mult) ei:=opI λ_ _ _ _ _ _ _ hc q=>mul_int q hc.ok
theorem mZ:tK X (binaryOp .FloorDiv) bb:=opI λi j _ _ _ _ _ hc q=>by
 have h1:(0:Int)<j:=hc.1;have h2:j<1073741824:=hc.2;exact floordiv_int δ (by rw[Int.fdiv_eq_ediv_of_nonneg i δ];exact q) (.inl (PyProof.noPylong_small δ))
theorem fj:tK X (binaryOp .Mod) ρ:=opI λi j _ _ _ _ _ hc q=>by
 have h1:(0:Int)<j:=hc;exact mod_int' δ (by rw[Int.fmod_eq_emod_of_nonneg i δ];exact q)
theorem Zq:tK X (binaryOp .Pow) (rI Uu λi j=>.int (i ^ j.toNat)):=opI λ_ _ _ _ _ _ _ hc q=>pow_int_small hc.1 hc.2.1 hc.2.2 q
theorem Zo:tK X (binaryOp .LShift) eB:=opI λ_ _ _ _ _ _ _ hc q=>lshift_int_small hc.1 hc.2.1 hc.2.2 q
theorem Q4:tK X (binaryOp .RShift) (rI (λ_ j=>0<=j) λi j=>.int (i / 2 ^ j.toNat)):=opI λi j _ _ _ _ _ hc q=>
 rshift_int hc (by rw[Int.fdiv_eq_ediv_of_nonneg i (Zf4 _)];exact q)
theorem Dj:tK X (binaryOp .BitAnd) (jJ λi j=>.int (Builtin.bitAnd i j)):=Zq1 λ_ _ _ _ _ _ _ q=>and_int q
theorem Zw3:tK X (binaryOp .BitOr) (jJ λi j=>.int (Builtin.bitOr i j)):=Zq1 λ_ _ _ _ _ _ _ q=>or_int q
theorem unI{f:AJ->Sem AJ}{g:Int->Int}
  (rule:∀(i:Int) (t:Tok) (s:AK) (Q:Ap) (E:Ap),Q (.int (g i) s.toks) { s with toks:=s.toks+1 }->wpAny ς X.A (f (.int i t)) Q E s):
  UnR X f (rU λi=>.int (g i)):=by
 intro a s c H x v Q I b h;obtain⟨i,rfl,q⟩:=h;obtain⟨t,rfl⟩:=b;exact rule i t s _ _ ⟨.int (g i),H,I.tok _,⟨_,rfl⟩,q⟩
theorem Zlk:UnR X (unaryOp .USub) (rU λi=>.int (-i)):=unI λ_ _ _ _ _ q=>neg_int q
end
def Zvt:V->V->Bool
 | .non,.non=>true | .non,.int _=>true | .int _,.non=>true | .non,.bl _=>true | .bl _,.non=>true | .non,.str _=>true | .str _,.non=>true
 | .int _,.int _=>true | .bl _,.bl _=>true | .str _,.str _=>true | .byt _,.byt _=>true
 | .int _,.str _=>true | .str _,.int _=>true | .bl _,.str _=>true | .str _,.bl _=>true
 | _,_=>false
def qI:R2:=λx y H Q=>Zvt x y=true/\Q (.bl (decide (x=y))) H
def rNe:R2:=λx y H Q=>Zvt x y=true/\Q (.bl (!decide (x=y))) H
theorem Zj2{i j:Int}:decide (V.int i=V.int j)=(i == j):=by
 rw[Bool.eq_iff_iff];simp
theorem Zoz{i j:Bool}:decide (V.bl i=V.bl j)=(i == j):=by
 rw[Bool.eq_iff_iff];simp
theorem Zj1{i j:Str}:decide (V.str i=V.str j)=(i == j):=by
 rw[Bool.eq_iff_iff];simp
theorem Zj3{i j:Array UInt8}:decide (V.byt i=V.byt j)=(i.toList == j.toList):=by
 rw[Bool.eq_iff_iff];cases i;cases j;simp
section
variable {X:Cx}{a b c:AN}{ta tb tc:TE}{pos:Pos}
theorem dz{a:At}{σ:St}{H:Hp}{s:AK}{Q:VK}{k b:Bool}(I:Inv X a σ H s)(q:Q (.bl k) H)(e:k=b):EP X a σ Q (.bool b) s:=by
 subst e;exact⟨.bl k,H,I,rfl,q⟩
theorem fu:tK X (compareOp .Eq) qI:=by
 intro d s e H x y v u Q I c a h;obtain⟨hs,q⟩:=h;cases x with
 | non=>
  cases c;cases y with
  | non=>cases a;exact PySem.EqNone.eq_none_none c9
  | bl j=>cases a;exact PySem.EqNone.eq_none_bool c9
  | int j=>obtain⟨b,rfl⟩:=a;exact PySem.EqNone.eq_none_int c9
  | str j=>obtain⟨b,rfl⟩:=a;exact PySem.EqNone.eq_none_str c9
  | _=>exact absurd bv Bool.false_ne_true
 | bl i=>
  cases c;cases y with
  | non=>cases a;exact PySem.EqNone.eq_bool_none c9
  | bl j=>cases a;exact eq_bool (dz I q Zoz)
  | str j=>obtain⟨b,rfl⟩:=a;exact PySem.EqMixed.eq_bool_str c9
  | _=>exact absurd bv Bool.false_ne_true
 | int i=>
  obtain⟨t,rfl⟩:=c;cases y with
  | non=>cases a;exact PySem.EqNone.eq_int_none c9
  | int j=>obtain⟨b,rfl⟩:=a;exact eq_int (dz I q Zj2)
  | str j=>obtain⟨b,rfl⟩:=a;exact PySem.EqMixed.eq_int_str c9
  | _=>exact absurd bv Bool.false_ne_true
 | str i=>
  obtain⟨t,rfl⟩:=c;cases y with
  | non=>cases a;exact PySem.EqNone.eq_str_none c9
  | bl j=>cases a;exact PySem.EqMixed.eq_str_bool c9
  | int j=>obtain⟨b,rfl⟩:=a;exact PySem.EqMixed.eq_str_int c9
  | str j=>obtain⟨b,rfl⟩:=a;exact eq_str (dz I q Zj1)
  | _=>exact absurd bv Bool.false_ne_true
 | byt i=>
  obtain⟨t,rfl⟩:=c;cases y with
  | byt j=>obtain⟨b,rfl⟩:=a;exact W.eq_bytes (dz I q Zj3)
  | _=>exact absurd bv Bool.false_ne_true
 | _=>cases y<;>exact absurd bv Bool.false_ne_true
theorem rY:tK X (compareOp .NotEq) rNe:=by
 intro d s e H x y v u Q I c a h;obtain⟨hs,q⟩:=h;cases x with
 | non=>
  cases c;cases y with
  | non=>cases a;exact PySem.EqNone.ne_none_none c9
  | bl j=>cases a;exact PySem.EqNone.ne_none_bool c9
  | int j=>obtain⟨b,rfl⟩:=a;exact PySem.EqNone.ne_none_int c9
  | str j=>obtain⟨b,rfl⟩:=a;exact PySem.EqNone.ne_none_str c9
  | _=>exact absurd bv Bool.false_ne_true
 | bl i=>
  cases c;cases y with
  | non=>cases a;exact PySem.EqNone.ne_bool_none c9
  | bl j=>cases a;exact ne_bool (dz I q (congrArg not Zoz))
  | str j=>obtain⟨b,rfl⟩:=a;exact PySem.EqMixed.ne_bool_str c9
  | _=>exact absurd bv Bool.false_ne_true
 | int i=>
  obtain⟨t,rfl⟩:=c;cases y with
  | non=>cases a;exact PySem.EqNone.ne_int_none c9
  | int j=>obtain⟨b,rfl⟩:=a;exact ne_int (dz I q (congrArg not Zj2))
  | str j=>obtain⟨b,rfl⟩:=a;exact PySem.EqMixed.ne_int_str c9
  | _=>exact absurd bv Bool.false_ne_true
 | str i=>
  obtain⟨t,rfl⟩:=c;cases y with
  | non=>cases a;exact PySem.EqNone.ne_str_none c9
  | bl j=>cases a;exact PySem.EqMixed.ne_str_bool c9
  | int j=>obtain⟨b,rfl⟩:=a;exact PySem.EqMixed.ne_str_int c9
  | str j=>obtain⟨b,rfl⟩:=a;exact ne_str (dz I q (congrArg not Zj1))
  | _=>exact absurd bv Bool.false_ne_true
 | byt i=>
  obtain⟨t,rfl⟩:=c;cases y with
  | byt j=>obtain⟨b,rfl⟩:=a;exact W.ne_bytes (dz I q (congrArg not Zj3))
  | _=>exact absurd bv Bool.false_ne_true
 | _=>cases y<;>exact absurd bv Bool.false_ne_true
theorem rZ:tK X (compareOp .Lt) ar:=Zq2 λ_ _ _ _ _ _ _ q=>lt_int q
theorem Zie:tK X (compareOp .LtE) (jJ λi j=>.bl (decide (i<=j))):=Zq2 λ_ _ _ _ _ _ _ q=>le_int q
theorem Zif:tK X (compareOp .Gt) (jJ λi j=>.bl (decide (j<i))):=Zq2 λ_ _ _ _ _ _ _ q=>gt_int q
theorem Zw4:tK X (compareOp .GtE) (jJ λi j=>.bl (decide (j<=i))):=Zq2 λ_ _ _ _ _ _ _ q=>ge_int q
theorem Zta:tK X (compareOp .Is) (λx y H Q=>y=.non/\Q (.bl (decide (x=.non))) H):=by
 intro b s d H x y v u Q I a c h;obtain⟨rfl,q⟩:=h;cases c;refine is_none_gen (dz I q ?_);cases x<;>first
  | (cases a;rfl)
  | (obtain⟨t,rfl⟩:=a;rfl)
theorem Zpz:tK X (compareOp .IsNot) (λx y H Q=>y=.non/\Q (.bl (!decide (x=.non))) H):=by
 intro b s d H x y v u Q I a c h;obtain⟨rfl,q⟩:=h;cases c;refine isnot_none_gen (dz I q ?_);cases x<;>first
  | (cases a;rfl)
  | (obtain⟨t,rfl⟩:=a;rfl)
def isObj:HO->Bool
 | .lst _=>true
 | .ins _ _ _=>true
 | _=>false
theorem Jm{c:At}{s:AK}{σ:St}{H:Hp}{a:AI}{o:HO}(I:Inv X c σ H s)(h:H a=some o)(p:isObj o=true):∃ob,s.heap.get? a=some ob/\ob.cls≠.type "tuple":=by
 cases o with
 | lst d=>
  obtain⟨_,b,n,_,e⟩:d.length<=sizeLine/\∃(b:AC) (n:Nat),Vals d b/\s.heap.get? a=some { cls:=.type "list",data:=.seq b.toArray n }:=I.hok a _ h;exact⟨_,e,(by show Value.type "list"≠.type "tuple";decide +kernel)⟩
 | ins C f fs=>
  have x:=I.hok a _ h;obtain⟨_,_,_,e,_⟩:=x;exact⟨_,e,(by show Value.ref C≠.type "tuple";exact λz=>by cases z)⟩
 | _=>exact absurd (show false=true from p) Bool.false_ne_true
theorem qN(b:AN){a:CmpOp}(h:a≠.In:=by decide)(h2:a≠.NotIn:=by decide):behindInMarks a b=false:=by
 have c:(a == CmpOp.In)=false:=by cases a<;>first | rfl | exact absurd rfl h
 have d:(a == CmpOp.NotIn)=false:=by cases a<;>first | rfl | exact absurd rfl h2
 cases b<;>simp[behindInMarks,c,d]
theorem mY{d:CmpOp}{r:R2}(j:tK X (compareOp d) r)(k:PE X a ta)(hb:PE X b tb)(hm:behindInMarks d b=false):PE X (.Compare a [d] [b] pos) (bh r ta tb):=by
 intro c s l H Q I h;exact wpAny_Compare1 (Zv8 k hb I h λv u m x y g e f i q=>j c m l g x y v u Q e f i q) hm
def bC(t:TE):TT:=λσ H Q=>t σ H λx H'=>∃k,x=.bl k/\Q k H'
theorem Zps{f:CmpOp}{r:R2}(j:tK X (compareOp f) r)(l:PE X a ta)(hb:PE X b tb)(hm:behindInMarks f b=false):PT X (.Compare a [f] [b] pos) (bC (bh r ta tb)):=by
 intro d s g H Q I h;refine wpAny_isTrue_Compare1 (fX (l d s g H _ I h) λv i ⟨x,H1,I1,r1,q1⟩=>fX (hb d i g H1 _ I1 q1) λu m ⟨y,H2,I2,r2,q2⟩=>
  fX (j d m g H2 x y v u _ I2 r1 r2 q2) λc n ⟨z,H3,I3,r3,k,e,q3⟩=>?_) hm
 subst e;cases r3;exact wpAny_truthy_bool ⟨H3,I3,q3⟩
def Dd(r f:R2)(ta tb tc:TE):TE:=λσ H Q=>ta σ H λx c=>tb σ c λy b=>r x y b λz a=>∃k,z=.bl k/\
 (if k=true then tc σ a λe d=>f y e d Q else Q (.bl false) a)
theorem Zmp{j g:CmpOp}{r m:R2}(q:tK X (compareOp j) r)(l:tK X (compareOp g) m)(w:PE X a ta)(hb:PE X b tb)(hc:PE X c tc)
  (hm:lastMarks [j,g] [b,c]=false:=by with_unfolding_all rfl):PE X (.Compare a [j,g] [b,c] pos) (Dd r m ta tb tc):=by
 intro f s i H Q I h;refine Compare_chain (fX (w f s i H _ I h) λv p ⟨x,H1,I1,r1,q1⟩=>chain_link (fX (hb f p i H1 _ I1 q1) λu B ⟨y,H2,I2,r2,q2⟩=>
  fX (q f B i H2 x y v u _ I2 r1 r2 q2) λd n ⟨z,H3,I3,r3,k,e,q3⟩=>?_)) hm
 subst e;cases r3;refine wpAny_truthy_bool ?_;cases k with
 | false=>exact ite_ff ⟨.bl false,H3,I3,rfl,q3⟩
 | true=>exact ite_tt (chain_last (fX (hc f n i H3 _ I3 q3) (by rintro t o ⟨A,H4,I4,r4,q4⟩;exact l f o i H4 y A u t Q I4 r2 r4 q4)))
theorem QH{j g:CmpOp}{r m:R2}(w:tK X (compareOp j) r)(l:tK X (compareOp g) m)(B:PE X a ta)(hb:PE X b tb)(hc:PE X c tc)
  (hm:lastMarks [j,g] [b,c]=false:=by with_unfolding_all rfl):PT X (.Compare a [j,g] [b,c] pos) (bC (Dd r m ta tb tc)):=by
 intro f s i H Q I h;refine isTrue_chain (fX (B f s i H _ I h) λv p ⟨x,H1,I1,r1,q1⟩=>test_link (fX (hb f p i H1 _ I1 q1) λu D ⟨y,H2,I2,r2,q2⟩=>
  fX (w f D i H2 x y v u _ I2 r1 r2 q2) λd n ⟨z,H3,I3,r3,k,e,q3⟩=>?_)) hm
 subst e;cases r3;refine wpAny_truthy_bool ?_;cases k with
 | false=>
  obtain⟨F,q,t⟩:=q3;cases q;exact ite_ff ⟨H3,I3,t⟩
 | true=>
  refine ite_tt (test_last (fX (hc f n i H3 _ I3 q3) λA o ⟨C,H4,I4,r4,q4⟩=>fX (l f o i H4 y C u A _ I4 r2 r4 q4) λJ E qc=>?_));obtain⟨K,H5,I5,r5,k2,e2,q5⟩:=qc;subst e2;cases r5;exact wpAny_truthy_bool ⟨H5,I5,q5⟩
def Zp6(K:aB)(x:V)(H:Hp)(k:Bool):Prop:=
 match x with
 | .non=>k=false
 | .bl b=>k=b
 | .int i=>k=(i != 0)
 | .str y=>y.length<=sizeLine/\k=((y.length:Int) != 0)
 | .byt y=>y.size<=sizeLine/\k=((y.size:Int) != 0)
 | .ref p=>(∃xs,bN K H p xs/\k=!xs.isEmpty)\/(∃xs,dR K H p xs/\k=!xs.isEmpty)\/∃a,H p=some (.dK a)/\k=!a.isEmpty
 | _=>False
theorem Zgh{b:Type}{a:List (b×V)}{vs:List (b×AJ)}(r:KV a vs):(!vs.isEmpty)=!a.isEmpty:=by
 cases r<;>rfl
theorem Sx{xs:List V}{a:AC}(r:Vals xs a):(!a.toArray.isEmpty)=!xs.isEmpty:=by
 cases r<;>simp
theorem Jv:(sizeLine:Nat)<2 ^ 63:=by rw[sizeLine_eq];decide
theorem Zsj:ZB9 X (λx H Q=>∃k,Zp6 X.K x H k/\Q k H):=by
 intro o s z H x v Q I g h;obtain⟨k,e,q⟩:=h;have hl:=Jv;have hs:sizeLine=16777216:=sizeLine_eq;cases x with
 | non=>
  cases g;have a:k=false:=e;subst a;exact truthy_none ⟨H,I,q⟩
 | bl b=>
  cases g;have a:k=b:=e;subst a;exact wpAny_truthy_bool ⟨H,I,q⟩
 | int i=>
  obtain⟨t,rfl⟩:=g;have a:k=(i != 0):=e;subst a;exact PySem.P.truthy_int ⟨H,I,q⟩
 | str y=>
  obtain⟨t,rfl⟩:=g;obtain⟨hy,a⟩:y.length<=sizeLine/\k=((y.length:Int) != 0):=e;subst a;exact PySem.P.truthy_str δ ⟨H,I.tok _,q⟩
 | byt y=>
  obtain⟨t,rfl⟩:=g;obtain⟨hy,a⟩:y.size<=sizeLine/\k=((y.size:Int) != 0):=e;subst a;exact W.truthy_bytes δ ⟨H,I.tok _,q⟩
 | ref p=>
  cases g;have a:(∃f,bN X.K H p f/\k=!f.isEmpty)\/(∃f,dR X.K H p f/\k=!f.isEmpty)\/∃c,H p=some (.dK c)/\k=!c.isEmpty:=e;rcases a with ⟨f,hx,a⟩ | ⟨f,hx,a⟩ | ⟨c,hx,a⟩
  ·subst a;obtain⟨l,r,n,hz⟩:=I.list hx;have d:=r.length;exact wpAny_truthy_list n.isList (by simp only[List.size_toArray];omega) ⟨H,I.tok _,by rw[Sx r];exact q⟩
  ·subst a;obtain⟨l,r,n,hz⟩:=I.tuple hx;have d:=r.length;exact truthy_tuple n (by simp only[List.size_toArray];omega) ⟨H,I.tok _,by rw[Sx r];exact q⟩
  ·subst a;obtain⟨hz,u,j,r,m⟩:c.length<=sizeLine/\(p == sysModules)=false/\∃j,KV c j/\s.heap.DictOf (dj X.prog X.w) p j:=I.hok p _ hx;have d:c.length=j.length:=Paired.length r;exact wpAny_truthy_dict u m δ ⟨H,I.tok _,by rw[Zgh r];exact q⟩
 | _=>exact(show False from e).elim
theorem QG(f:PE X a ta)(d:∀b,isTrue a X.env b=(do let v <- b;standAt a.pos;holding [v] (truthy v))):
  PT X a (λσ H Q=>ta σ H λx H'=>∃k,Zp6 X.K x H' k/\Q k H'):=by
 intro c s σ H Q I h;exact isTrue_plain (fX (f c s σ H _ I h) (by rintro v e ⟨x,H1,I1,r1,q1⟩;exact Zsj c e σ H1 x v Q I1 r1 q1)) (d _)
theorem Q6:tK X (binaryOp .Add) (λx y H Q=>∃i j,x=.str i/\y=.str j/\i.length+j.length<=sizeLine/\Q (.str (i++j)) H):=by
 intro a s e H x y v u Q I b c h;obtain⟨i,j,rfl,rfl,hz,q⟩:=h;obtain⟨t,rfl⟩:=b;obtain⟨d,rfl⟩:=c;exact add_str (λd tk=>⟨.str (i++j),H,I.tok _,⟨_,rfl⟩,q⟩) hz
theorem vals1{x:V}{us:AC}(r:Vals [x] us):∃u,us=[u]/\RelV x u:=by
 cases r with
 | cons a b=>cases b;exact⟨_,rfl,a⟩
theorem vals2{x y:V}{us:AC}(r:Vals [x,y] us):∃u a,us=[u,a]/\RelV x u/\RelV y a:=by
 cases r with
 | cons b c=>
  cases c with
  | cons d e=>cases e;exact⟨_,_,rfl,b,d⟩
end
structure Zht(h:Heap)(x dx C:AI)(mA:As):Prop where
 obj:h.get? x=some (W.instObj C dx)
 ns:h.Ns1 dx mA
 ne:dx≠x
theorem Zka{h:Heap}{dx:AI}{c:As}(n:h.Ns1 dx c):∃od,h.get? dx=some od/\∀name,W.lookIn name od=some (c name):=by
 obtain⟨o,d,i,f,hd,hk,_,hm⟩:=n;refine⟨o,f,λname=>?_⟩;have e:=hm name;unfold nsFind findBy at e;rw[<- Array.find?_toList]at e;unfold W.lookIn;rw[hd];dsimp only;split
 ·rename_i y q
  rw[q]at e;exact congrArg some e
 ·rename_i q
  rw[q]at e;have a:d.toList.any (·.refKey)=false:=by
   rw[List.any_eq_false];intro y hy;obtain⟨z,t,b⟩:=hk y (Array.mem_toList_iff.mp hy);simp[DictEntry.refKey,b]
  have g:¬ d.toList.any (·.refKey)=true:=by rw[a];exact Bool.false_ne_true
  rw[if_neg g];exact congrArg some e
theorem Zht.look{h:Heap}{x dx C:AI}{a:As}(I:Zht h x dx C a):∃od,W.InstAt h x (W.instObj C dx) C (some od)/\∀name,W.lookIn name od=some (a name):=
 let ⟨od,ho,hl⟩:=Zka I.ns
 ⟨od,⟨I.obj,rfl,rfl,ho⟩,hl⟩
section
variable {prog:AM}{w:AO}{A:Around}{E:Ap}{s:AK}{K:aB}{x dx C f:AI}{mA:As}{name:Str}{v:AJ}
theorem get_map{a:Bool}{Q:Ap}(X:K.In s.heap)(I:Zht s.heap x dx C mA)(c:W.plainGet K C name=true)(d:W.hasDictIn K C=true)
  (e:W.findIn K (.ref C) name=some none) (hv:mA name=some v) (b:W.handedIn v=true) (h:Q v { s with toks:=s.toks+1 }):
  wpAny af A (getAttr (.ref x) name a) Q E s:=by
 obtain⟨od,J,hl⟩:=I.look;exact W.get_value X J (W.plainGet_of c).1 (W.findObj_own d e rfl (by rw[hl,hv])) b h
theorem Zoc{pl:Sem Bool}{Q:AJ×AC->AK->Prop}(X:K.In s.heap)(I:Zht s.heap x dx C mA)(a:W.plainGet K C name=true)
  (b:W.findIn K (.ref C) name=some (↑f)) (c:W.isFn K (.ref f)=true) (hv:mA name=none) (h:Q (.ref f,[.ref x]) s):
  wpAny af A (getMethod (.ref x) name pl) Q E s:=by
 obtain⟨od,J,hl⟩:=I.look;exact W.method_fn X J (W.plainGet_of a).1 (W.plainGet_of a).2 b (beq_iff_eq.mp c) (by show(W.lookIn name od).map (·.isSome)=some false;rw[hl,hv];rfl) h
theorem Zpi{ns:AH}{Q:Unit->AK->Prop}(X:K.In s.heap)(I:Zht s.heap x dx C mA)
  (hs:W.findIn K (.ref C) "__setattr__"=some (some (.builtin "object.__setattr__"))) (hp:W.plainOver K C=true) (n:W.takerIn K C name=some none) (k:W.hasDictIn K C=true)
  (l:PySem.Within mA ns) (hsz:ns.length<=sizeLine)
  (h:∀h',Zht h' x dx C (λy=>if y=name then some v else mA y)->Heap.SameBut dx s.heap h'->Q () { s with heap:=h',toks:=s.toks+2 }):
  wpAny af A (setAttr (.ref x) name v) Q E s:=by
 obtain⟨od,J,hl⟩:=I.look;refine W.set_plain X J hs (W.osa_open (s:={ s with toks:=s.toks+1 }) (r:=none) X J hp n λb=>?_);obtain⟨p,hc,g⟩:=W.any_some k;have hx:s.heap.get? x=some ⟨.ref C,some dx,.plain,#[]⟩:=I.obj;refine wpAny_bind (wpAny_pure (wpAny_bind (wpAny_bind (wpAny_loadPart hx (wpAny_bind (W.Looks.here (s:={ s with toks:=s.toks+1 }) (W.looks_clsIn X hc) ?_))))));rw[g];refine wpAny_pure (a:=some dx) (wpAny_bind (wpAny_pure (wpAny_bind ?_)));refine wpAny_nsSet1 (s:={ s with toks:=s.toks+1 }) I.ns λh' d c=>?_;obtain⟨o,m,j,i,f,e⟩:=d.count (PySem.Within.cons name v l);refine wpAny_bind (wpAny_lookBehind i (by rw[f];exact pastItsLine_dict (Nat.le_trans e (by rw[List.length_cons];omega))) ?_);exact wpAny_pure (h _ ⟨(c.2 _ (Ne.symm I.ne)).trans I.obj,d,I.ne⟩ c)
theorem Znf{R:Result->AK->Prop}{vs:AC}{a:List (Str×AJ)}(X:K.In s.heap)(hm:W.makesIn K C=true)
  (c:W.findIn K (.ref C) "__init__"=some (↑f)) (b:W.typeIn K (.ref f)=some (.type "function"))
  (h:codeAny af (A.under (.builtin "type.__call__" ⟨.ref C::vs,a⟩)) (.call (.ref f) ⟨.ref ap::vs,a⟩) (W.InitBack ap R)
   { s with heap:=(s.heap.push W.emptyDict).push cv }):
  codeAny af A (.call (.ref C) ⟨vs,a⟩) R s:=by
 obtain⟨e,g,d,t,os⟩:=s;exact W.make_core (W.makes_of X hm) (W.looks_findIn X c) (λself=>W.bind_fn X self b) (.inl rfl) h
theorem Zk8{R:Result->AK->Prop}(X:K.In s.heap)(hm:W.makesIn K C=true)
  (a:W.findIn K (.ref C) "__init__"=some eL)
  (hb:∀self,W.Looks af s.heap (bindSpecial (.builtin "object.__init__") self) (.builtin "object.__init__",[self]))
  (h:codeAny af (A.under (.builtin "type.__call__" ⟨[.ref C],[]⟩)) (.call (.builtin "object.__init__") ⟨[.ref ap],[]⟩) (W.InitBack ap R)
   { s with heap:=(s.heap.push W.emptyDict).push cv }):
  codeAny af A (.call (.ref C) ⟨[],[]⟩) R s:=by
 obtain⟨b,g,d,t,os⟩:=s;exact W.make_core (W.makes_of X hm) (W.looks_findIn X a) hb (.inr ⟨rfl,rfl⟩) h
end
def cj(f:Str)(v:V):List (Str×V)->List (Str×V)
 | []=>[(f,v)]
 | (g,x)::r=>if g=f then(g,v)::r else(g,x)::cj f v r
theorem MJ(f g:Str)(v:V):∀fs:List (Str×V),(cj f v fs).lookup g=if g=f then some v else fs.lookup g
 | []=>by
  show List.lookup g [(f,v)]=_
  by_cases h:g=f
  ·have hb:(g == f)=true:=beq_iff_eq.mpr h;simp only[List.lookup,hb,if_pos h]
  ·have hb:(g == f)=false:=beq_eq_false_iff_ne.mpr h;simp only[List.lookup,hb,if_neg h]
 | (k,x)::r=>by
  have a:=MJ f g v r;rw[show cj f v ((k,x)::r)=(if k=f then(k,v)::r else(k,x)::cj f v r)from rfl]
  by_cases hk:k=f
  ·rw[if_pos hk]
   by_cases h:g=k
   ·have hb:(g == k)=true:=beq_iff_eq.mpr h;simp only[List.lookup,hb,if_pos (h.trans hk)]
   ·have hb:(g == k)=false:=beq_eq_false_iff_ne.mpr h;simp only[List.lookup,hb,if_neg (λe:g=f=>h (e.trans hk.symm))]
  ·rw[if_neg hk]
   by_cases h:g=k
   ·have hb:(g == k)=true:=beq_iff_eq.mpr h;simp only[List.lookup,hb,if_neg (λe:g=f=>hk (h.symm.trans e))]
   ·have hb:(g == k)=false:=beq_eq_false_iff_ne.mpr h;simp only[List.lookup,hb];exact a
theorem Jz(f:Str)(v:V):∀fs:List (Str×V),f∈(cj f v fs).map (·.1)/\∀g,g∈fs.map (·.1)->g∈(cj f v fs).map (·.1)
 | []=>⟨by simp[cj],λg h=>by simp at h⟩
 | (k,x)::r=>by
  obtain⟨b,a⟩:=Jz f v r;rw[show cj f v ((k,x)::r)=(if k=f then(k,v)::r else(k,x)::cj f v r)from rfl]
  by_cases hk:k=f
  ·rw[if_pos hk];subst hk;exact⟨ζ,λg h=>by simpa using h⟩
  ·rw[if_neg hk];refine⟨?_,λg h=>?_⟩
   ·rw[List.map_cons];exact List.mem_cons_of_mem _ b
   ·rw[List.map_cons]at h ⊢;rcases List.mem_cons.mp h with e | e
    ·exact List.mem_cons.mpr (.inl e)
    ·exact List.mem_cons_of_mem _ (a g e)
theorem MN(f:Str)(v:V):∀fs:List (Str×V),(cj f v fs).length<=fs.length+1
 | []=>by simp[cj]
 | (k,x)::r=>by
  have a:=MN f v r;rw[show cj f v ((k,x)::r)=(if k=f then(k,v)::r else(k,x)::cj f v r)from rfl]
  by_cases hk:k=f
  ·rw[if_pos hk,List.length_cons,List.length_cons];omega
  ·rw[if_neg hk,List.length_cons,List.length_cons];omega
theorem xV.some_of{v:V}{o:AB}(r:xV (some v) o):∃u,o=some u/\RelV v u:=by
 cases o with
 | none=>exact(show False from r).elim
 | some u=>exact⟨u,rfl,r⟩
theorem xV.none_of{o:AB}(r:xV none o):o=none:=by
 cases o with
 | none=>rfl
 | some u=>exact(show False from r).elim
theorem Zky{v:V}{u:AJ}(r:RelV v u):W.handedIn u=true:=by
 cases v with
 | non=>cases (show u=Value.none from r);rfl
 | bl b=>cases (show u=Value.bool b from r);rfl
 | int i=>obtain⟨t,e⟩:=(show ∃t,u=Value.int i t from r);cases e;rfl
 | str x=>obtain⟨t,e⟩:=(show ∃t,u=Value.str x t from r);cases e;rfl
 | byt b=>obtain⟨t,e⟩:=(show ∃t,u=Value.bytes b t from r);cases e;rfl
 | flt b=>obtain⟨t,e⟩:=(show ∃t,u=Value.float b t from r);cases e;rfl
 | ref a=>cases (show u=Value.ref a from r);rfl
 | ty n=>cases (show u=Value.type n from r);rfl
section
variable {P:AM}{w:AO}{H H':Hp}{h h':Heap}{a C dx:AI}{fs fs':List (Str×V)}
theorem Pk(hok:zN P w H h)(e:H a=some (.ins C dx fs)):∃b,Zht h a dx C b/\(∀f,xV (fs.lookup f) (b f))/\PySem.Within b (fs.map (·.1))/\fs.length<=1000/\H dx=some (.own a):=by
 obtain⟨d,z,ne,ob,b,n,r,q⟩:=(show gY P w H h a (.ins C dx fs)from hok a _ e);exact⟨b,⟨ob,n,ne⟩,r,q,z,d⟩
end
structure Py(K:aB)(C:AI):Prop where
 pg:W.plainGet K C Str.empty=true
 hd:W.hasDictIn K C=true
 po:W.plainOver K C=true
 sa:W.findIn K (.ref C) "__setattr__"=some (some (.builtin "object.__setattr__"))
theorem Py.get{K:aB}{C:AI}(c:Py K C)(f:Str):W.plainGet K C f=true:=c.pg
def cX(K:aB)(C:AI)(f:Str):Prop:=W.findIn K (.ref C) f=some none
theorem cX.taker{K:aB}{C:AI}{f:Str}(n:cX K C f):W.takerIn K C f=some none:=by
 unfold W.takerIn;rw[show W.findIn K (.ref C) f=some none from n];rfl
structure Con(K:aB)(C:AI)(f:Str)(v:V)(u:AJ):Prop where
 at_:W.findIn K (.ref C) f=some (some u)
 rel:RelV v u
 get:W.specialIn K u "__get__"=some none
 cp:W.copiedNames.contains f=false
structure Meth(K:aB)(C:AI)(m:Str)(f:AI):Prop where
 at_:W.findIn K (.ref C) m=some (↑f)
 fn:W.isFn K (.ref f)=true
 kp:W.keepIn K (.ref f)=true
section
variable {X:Cx}{pins:At}{σ:St}{H:Hp}{s:AK}{a C dx:AI}{fs:List (Str×V)}{f:Str}{v:V}{A:Around}{E:Ap}
theorem Zgr{b:Bool}{Q:Ap}(I:Inv X pins σ H s)(e:H a=some (.ins C dx fs))(c:Py X.K C)(n:cX X.K C f)(l:fs.lookup f=some v)
  (h:∀u s',Inv X pins σ H s'->RelV v u->Q u s'):wpAny ς A (getAttr (.ref a) f b) Q E s:=by
 obtain⟨g,O,r,_,_,_⟩:=Pk I.hok e;obtain⟨u,hu,d⟩:=xV.some_of (v:=v) (o:=g f) (by rw[<- l];exact r f);exact get_map I.yV O (c.get f) c.hd n hu (Zky d) (h u _ (I.tok _) d)
theorem S5{m:Str}{g:AI}{pl:Sem Bool}{Q:AJ×AC->AK->Prop}(I:Inv X pins σ H s)(e:H a=some (.ins C dx fs))(c:Py X.K C)(k:Meth X.K C m g)(l:fs.lookup m=none)
  (h:Q (.ref g,[.ref a]) s):wpAny ς A (getMethod (.ref a) m pl) Q E s:=by
 obtain⟨b,O,r,_,_,_⟩:=Pk I.hok e;have hn:b m=none:=xV.none_of (by rw[<- l];exact r m);exact Zoc I.yV O (c.get m) k.at_ k.fn hn h
theorem Zfo{y:V}{u:AJ}{Q:Unit->AK->Prop}(I:Inv X pins σ H s)(e:H a=some (.ins C dx fs))(c:Py X.K C)(n:cX X.K C f)(hl:fs.length<1000)(m:RelV y u)
  (h:∀s',Inv X pins σ (upd H a (.ins C dx (cj f y fs))) s'->Q () s'):wpAny ς A (setAttr (.ref a) f u) Q E s:=by
 obtain⟨j,O,r,i,_,k⟩:=Pk I.hok e;have hz:(fs.map (·.1)).length<=sizeLine:=by rw[aR,sizeLine_eq];omega
 refine Zpi I.yV O c.sa c.po n.taker c.hd i hz λl d sb=>h _ ?_;have hd:∃o,l.get? dx=some o:=let ⟨o,_,_,e',_⟩:=d.ns;⟨o,e'⟩
 refine I.write (x:=a) (e:=dx) (by rw[e];exact True.intro) (.inr k) (λb q hb z=>(sb.2 b hb).trans z) hd ?_;refine⟨by rw[aD O.ne];exact k,?_,O.ne,d.obj,_,d.ns,λg=>?_,λg p=>?_⟩
 ·have:=MN f y fs;omega
 ·show xV ((cj f y fs).lookup g) (if g=f then some u else j g);rw[MJ]
  by_cases q:g=f
  ·rw[if_pos q,if_pos q];exact m
  ·rw[if_neg q,if_neg q];exact r g
 ·by_cases q:g=f
  ·rw[q];exact(Jz f y fs).1
  ·refine(Jz f y fs).2 g (i g λz=>p ?_);show(if g=f then some u else j g)=none;rw[if_neg q];exact z
theorem Inv.made(I:Inv X pins σ H s):Inv X pins σ (upd (upd H s.heap.objs.size (.own ap)) ap (.ins C s.heap.objs.size []))
  { s with heap:=(s.heap.push W.emptyDict).push cv }:=by
 have c:(s.heap.push W.emptyDict).get? s.heap.objs.size=some W.emptyDict:=Heap.get?_push_size s.heap rfl;have f:((s.heap.push W.emptyDict).push cv).get? (s.heap.objs.size+1)=some cv:=by
  have:=Heap.get?_push_size (s.heap.push W.emptyDict) (o:=W.instObj C s.heap.objs.size) rfl
  rwa [Heap.size_push]at this
 have e3:(s.heap.push W.emptyDict).Ns s.heap.objs.size (λ_=>none):=⟨W.emptyDict,#[],_,c,rfl,(λe g=>absurd g ζ),λ_=>rfl⟩;have d:=I.laid (a:=s.heap.objs.size) (o:=.own ap) (h':=s.heap.push W.emptyDict) (t':=s.toks) (λb u q=>Heap.get?_push_of_some _ q) Δ ⟨_,c⟩;refine d.laid (a:=s.heap.objs.size+1) (o:=.ins C s.heap.objs.size []) (t':=s.toks) (λb u q=>Heap.get?_push_of_some _ q) (Nat.le_of_eq (Heap.size_push _ _)) ?_;have ne:s.heap.objs.size≠s.heap.objs.size+1:=Nat.ne_of_lt (Nat.lt_succ_self _);refine⟨by rw[aD ne,aq],Nat.zero_le _,ne,f,λ_=>none,(Heap.Ns1.of_empty e3).at λo q=>Heap.get?_push_of_some _ q,λ_=>True.intro,λy hy=>absurd rfl hy⟩
theorem Zra{prog:AM}{w:AO}{env:Env}{e:AN}{f:Str}{b:Pos}{s:AK}{Q:Ap}(hb:attributeBase e f env (eval e env)=eval e env)
  (h:wpAny af A (eval e env) (λo a=>wpAny af A (getAttr o f true) Q E a) E s):wpAny af A (eval (.Attribute e f b) env) Q E s:=
 Attribute_any_ h (by rw[arm_eval_Attribute,hb])
end
def aZ(K:aB)(c:TE)(f:Str):TE:=λσ H Q=>c σ H λx b=>∃a C dx fs v,x=.ref a/\b a=some (.ins C dx fs)/\Py K C/\cX K C f/\fs.lookup f=some v/\Q v b
def fH(K:aB)(c d:TE)(f:Str):TS:=λD σ H=>d σ H λy e=>c σ e λx b=>∃a C dx fs,x=.ref a/\b a=some (.ins C dx fs)/\Py K C/\cX K C f/\fs.length<1000/\
 D.nx σ (upd b a (.ins C dx (cj f y fs)))
section
variable {X:Cx}{o e value:AN}{f:Str}{pos pos' tpos:Pos}{ta tv:TE}
theorem aK(i:PE X e ta)(hb:attributeBase e f X.env (eval e X.env)=eval e X.env):PE X (.Attribute e f pos) (aZ X.K ta f):=by
 intro b s d H Q I h;refine Zra hb (fX (i b s d H _ I h) λu m qc=>?_);obtain⟨x,H1,I1,rx,a,C,dx,fs,v,ex,ea,c,n,l,q⟩:=qc;subst ex;obtain rfl:u=Value.ref a:=rx;exact Zgr I1 ea c n l λo k j g=>⟨v,H1,j,g,q⟩
theorem cu(j:PE X o ta)(hv:PE X value tv)(hs:swapsWith value (some (.Attribute o f pos')) pos.line X.env=pure false):PS X (.Assign [.Attribute o f pos'] value pos) (fH X.K ta tv f):=by
 intro b s d H D I h;refine plainObj_wpAny_Assign_Attribute (fX (hv b s d H _ I h) λu g ⟨y,H1,I1,ry,q⟩=>fX (j b g d H1 _ I1 q) λi m qc=>?_) hs;obtain⟨x,H2,I2,rx,a,C,dx,fs,ex,ea,c,n,l,q2⟩:=qc;subst ex;obtain rfl:i=Value.ref a:=rx;exact Zfo I2 ea c n l ry λk e=>⟨d,_,e,q2⟩
end
section
variable {X:Cx}{pins:At}{σ:St}{H:Hp}{s:AK}{A:Around}{E:Ap}{Q:Ap}{c:AJ}{b:Bool}
inductive JS(K:aB)(H:Hp):V->AJ->Prop where
 | non:JS K H .non (.type "NoneType")
 | bl (x:Bool):JS K H (.bl x) (.type "bool")
 | int (i:Int):JS K H (.int i) (.type "int")
 | str (x:Str):JS K H (.str x) (.type "str")
 | flt (x:UInt64):JS K H (.flt x) (.type "float")
 | lst {a:AI}{xs:List V} (e:H a=some (.lst xs)):JS K H (.ref a) (.type "list")
 | vH {a:AI}{o:Obj}{xs:List V} (e:H a=some (.vH o (.lst xs))):JS K H (.ref a) (.type "list")
 | tup {a:AI}{xs:List V} (e:H a=some (.tup xs)):JS K H (.ref a) (.type "tuple")
 | dK {a:AI}{kvs:List (Key×V)} (e:H a=some (.dK kvs)):JS K H (.ref a) (.type "dict")
 | dT {a:AI}{kvs:List (List Key×V)} (e:H a=some (.dT kvs)):JS K H (.ref a) (.type "dict")
 | ins {a C dx:AI}{fs:List (Str×V)} (e:H a=some (.ins C dx fs)) (cl:Py K C) (ha:W.findIn K (.ref C) "__class__"=some (some (.builtin "object.__class__")))
   (hn:W.specialIn K (.builtin "object.__class__") "__get__"=some (some (.builtin "getset_descriptor.__get__"))) (htk:W.takesIn K (.builtin "object.__class__")=some true)
   (hm:W.mroIn K C (.type "object")=some true):JS K H (.ref a) (.ref C)
theorem Zkd{x:V}{u t:AJ}(I:Inv X pins σ H s)(d:RelV x u)(ty:JS X.K H x t)(e:W.kitOne X.K t c=some b)(h:∀tk,Q (.bool b) { s with toks:=tk }):
  wpAny ς A (call (.builtin "isinstance") [u,c]) Q E s:=by
 cases ty with
 | non=>cases (show u=Value.none from d);exact W.kia_one W.kitx_none I.yV True.intro e ai h
 | bl y=>cases (show u=Value.bool y from d);exact W.kia_one W.kitx_bool I.yV True.intro e ai h
 | int i=>obtain⟨t,q⟩:=(show ∃t,u=Value.int i t from d);cases q;exact W.kia_one W.kitx_int I.yV True.intro e ai h
 | str y=>obtain⟨t,q⟩:=(show ∃t,u=Value.str y t from d);cases q;exact W.kia_one W.kitx_str I.yV True.intro e ai h
 | flt y=>obtain⟨t,q⟩:=(show ∃t,u=Value.float y t from d);cases q;exact W.kia_one W.kitx_float I.yV True.intro e ai h
 | @lst a j f=>
  cases (show u=Value.ref a from d);obtain⟨_,_,n,_,h1⟩:=(show gY X.prog X.w H s.heap a (.lst j)from I.hok a _ f);exact W.kia_one W.kitx_list I.yV ⟨_,h1,rfl⟩ e ai h
 | @vH a ob j f=>
  cases (show u=Value.ref a from d);obtain⟨_,_,_,n,_,h1⟩:=(show gY X.prog X.w H s.heap a (.vH ob (.lst j))from I.hok a _ f);exact W.kia_one W.kitx_list I.yV ⟨_,h1,rfl⟩ e ai h
 | @tup a j f=>
  cases (show u=Value.ref a from d);obtain⟨_,_,_,p⟩:=(show gY X.prog X.w H s.heap a (.tup j)from I.hok a _ f);obtain⟨o,h1,h2,_⟩:=p;exact W.kia_one W.kitx_tuple I.yV ⟨o,h1,h2⟩ e ai h
 | @dK a g f=>
  cases (show u=Value.ref a from d);obtain⟨_,_,B,_,p⟩:=(show gY X.prog X.w H s.heap a (.dK g)from I.hok a _ f);obtain⟨o,r,m,h1,h2,_⟩:=p;exact W.kia_one W.kitx_dict I.yV ⟨o,h1,h2.1⟩ e ai h
 | @dT a g f=>
  cases (show u=Value.ref a from d);obtain⟨_,_,j,_,o,r,m,h1,h2,_⟩:=(show gY X.prog X.w H s.heap a (.dT g)from I.hok a _ f);exact W.kia_one W.kitx_dict I.yV ⟨o,h1,h2.1⟩ e ai h
 | @ins a C D fs f cl l hn k hm=>
  cases (show u=Value.ref a from d);obtain⟨v,O,_⟩:=Pk I.hok f;obtain⟨od,J,_⟩:=O.look;exact W.kia_one (W.kitx_own (cl.get _) cl.hd l hn k hm) I.yV J e ai h
end
structure Room(k:Nat)(A:Around):Prop where
 hd:A.handled=none
 dp:A.depth+3 * k+5<recursionLimit
 un:A.units+16 * k+200<cLine
theorem Room.mono{j k:Nat}{A:Around}(r:Room k A)(h:j<=k):Room j A:=⟨r.hd,by have:=r.dp;omega,by have:=r.un;omega⟩
theorem Room.deeper{k:Nat}{A:Around}(r:Room db A)(env:Env):Room k (A.deeper env):=
 ⟨r.hd,by have:=r.dp;show A.depth+1+3 * k+5<_;omega,by have:=r.un;show A.units+3+16 * k+200<_;omega⟩
theorem Zg9{A:Around}{C:AI}{us:AC}{a:List (Str×AJ)}:(A.under (.builtin "type.__call__" ⟨.ref C::us,a⟩)).depth=A.depth+1:=by
 first | rfl | simp[Around.under,Code.weight,Code.isCreation,Code.isGuard,Code.isCaller,Code.frames,Code.isFrame,guardIds]
theorem Zg8{A:Around}{C:AI}{us:AC}{a:List (Str×AJ)}:(A.under (.builtin "type.__call__" ⟨.ref C::us,a⟩)).units=A.units+1:=by
 first | rfl | simp[Around.under,Code.cUnits,Code.frames,Code.isFrame]
theorem Room.make{k:Nat}{A:Around}(r:Room db A)(C:AI)(us:AC)(a:List (Str×AJ)):Room k (A.under (.builtin "type.__call__" ⟨.ref C::us,a⟩)):=
 ⟨r.hd,by have:=r.dp;rw[Zg9];omega,by have:=r.un;rw[Zg8];omega⟩
theorem Room.depth{k:Nat}{A:Around}(r:Room k A):A.depth<recursionLimit:=by have:=r.dp;omega
theorem Room.units{k:Nat}{A:Around}(r:Room k A):A.units+64<cLine:=by have:=r.un;omega
def aC:TA:=λ_ H Q=>Q [] H
def aj(a:TE)(d:TA):TA:=λσ H Q=>a σ H λx c=>d σ c λxs b=>Q (x::xs) b
section
variable {X:Cx}{e:AN}{es:AG}{te:TE}{t:TA}{pos:Pos}
theorem au:PA X [] aC:=λ_ _ _ _ H Q I h=>Calls.spliced_nil ⟨[],H,I,.nil,h⟩
theorem aa(c:PE X e te)(hr:PA X es t)(hs:starEach (e::es) X.env=(false,eval e X.env)::starEach es X.env:=by rfl):PA X (e::es) (aj te t):=by
 intro pos a s b H Q I h;rw[hs];show wpAny _ _ (spliced ((false,eval e X.env)::backTo pos dQ)) _ _ s;refine Calls.spliced_cons (fX (c a s b H _ I h) λu d qc=>?_);obtain⟨x,H1,I1,r1,q1⟩:=qc;exact fX (hr pos a d b H1 _ I1 q1) (by rintro us g ⟨f,H2,I2,r2,q2⟩;exact⟨x::f,H2,I2,.cons r1 r2,q2⟩)
def dJ(t:TA):TE:=λσ H Q=>t σ H λxs a=>xs.length<=sizeLine/\∀p,a p=none->Q (.ref p) (upd a p (.tup xs))
def dM(t:TA):TE:=λσ H Q=>t σ H λxs a=>xs.length<=sizeLine/\∀p,a p=none->Q (.ref p) (upd a p (.lst xs))
theorem bW{x1}(h:PA X es t):PE X (.Tuple es x1 pos) (dJ t):=by
 intro a s d H Q I hq;refine wpAny_Tuple_spliced (fX (h pos a s d H _ I hq) λus c ⟨g,H1,I1,r,z,q⟩=>⟨by rw[<- r.length];exact z,?_⟩);have f:H1 c.heap.objs.size=none:=I1.hok.fresh Δ;refine⟨.ref c.heap.objs.size,upd H1 c.heap.objs.size (.tup g),I1.laid (t':=c.toks) (λb u e=>Heap.get?_push_of_some _ e) Δ ?_,rfl,q _ f⟩;exact⟨z,us,r,⟨_,Heap.get?_push_size _ rfl,rfl,_,rfl⟩⟩
theorem bV(h:PA X es t):PE X (.List es pos) (dM t):=by
 intro a s d H Q I hq;refine wpAny_List_spliced (fX (h pos a s d H _ I hq) λus c ⟨g,H1,I1,r,z,q⟩=>⟨by rw[<- r.length];exact z,?_⟩);have f:H1 c.heap.objs.size=none:=I1.hok.fresh Δ;refine⟨.ref c.heap.objs.size,upd H1 c.heap.objs.size (.lst g),I1.laid (t':=c.toks) (λb u e=>Heap.get?_push_of_some _ e) Δ ?_,rfl,q _ f⟩;exact⟨z,us,0,r,Heap.get?_push_size _ rfl⟩
end
abbrev Sp:=List V->Hp->VK->XK->Prop
abbrev CXT:=List Env->Hp->AK->XK->AJ->AK->Prop
structure Zhu(P:AM)(w:AO)(K:aB)(mg:As)(base:Heap)(A:Around)(outer:List Env)(s:AK)(H:Hp):Prop where
 frames:A.frames=some outer
 mod:Mod K mg base
 bs:∀b o,base.get? b=some o->s.heap.get? b=some o/\H b=none
 bsz:base.objs.size<=s.heap.objs.size
 vZ:s.heap.FunFrames base outer
 frf:∀b∈frs outer,H b=none
 hok:zN P w H s.heap
 bare:AllBare s.gens
def CE(outer:List Env)(P:AM)(w:AO)(H:Hp)(s:AK)(Q:VK)(u:AJ)(s':AK):Prop:=
 ∃v H',s'.os=s.os/\AllBare s'.gens/\Un (frs outer) [] H H' s.heap s'.heap/\zN P w H' s'.heap/\RelV v u/\Q v H'
def CR(CX:CXT)(outer:List Env)(P:AM)(w:AO)(H:Hp)(s:AK)(Q:VK)(E:XK)(r:Result)(s':AK):Prop:=
 match r with
 | .ok (.ret u)=>CE outer P w H s Q u s'
 | .ok _=>False
 | .error e=>CX outer H s E e s'
structure rD(P:AM)(w:AO)(K:aB)(mg:As)(base:Heap)(CX:CXT)(k:Nat)(f:AI)(fd:AL)(ps:AH)(sp:Sp):Prop where
 len:∀vs H Q E,sp vs H Q E->vs.length=ps.length
 run:∀(A:Around) (outer:List Env) (s:AK) (H:Hp) (args:Args) (us:AC) (vs:List V) (Q:VK) (E:XK),Room k A->Zhu P w K mg base A outer s H->BindsTo s fd args (ps.zip us)->Vals vs us->sp vs H Q E->
  codeAny (model P w) A (.call (.ref f) args) (CR CX outer P w H s Q E) s
theorem Zhu.make{P:AM}{w:AO}{K:aB}{mg:As}{base:Heap}{A:Around}{outer:List Env}{s:AK}{H:Hp}(e:Zhu P w K mg base A outer s H)(C:AI)(us:AC)(a:List (Str×AJ)):
  Zhu P w K mg base (A.under (.builtin "type.__call__" ⟨.ref C::us,a⟩)) outer s H:=⟨by first | exact e.frames | (simpa[Around.under,Code.envs,Code.isFrame,pushEnvs]using e.frames),e.mod,e.bs,e.bsz,e.vZ,e.frf,e.hok,e.bare⟩
section
variable {X:Cx}{pins:At}{σ:St}{H:Hp}{s s':AK}
theorem Inv.env0(I:Inv X pins σ H s):Zhu X.prog X.w X.K X.mg X.base X.A X.stack s H:=
 ⟨I.ok.frames,I.ok.mod,I.bs,Nat.le_trans I.ok.bsz I.sz,I.stack,I.YM,I.hok,I.bare⟩
theorem Inv.after{Q:VK}{u:AJ}(I:Inv X pins σ H s)(h:CE X.stack X.prog X.w H s Q u s'):EP X pins σ Q u s':=by
 obtain⟨v,e,os,bare,un,hok,r,q⟩:=h;obtain⟨c,g,d,t,a⟩:=s';obtain rfl:a=s.os:=os;exact⟨v,e,I.call (h':=c) (g':=g) (d':=d) (t':=t) (ch:=[]) un hok bare (λb z=>absurd z ζ),r,q⟩
end
def aP(sp:Sp)(rC:List V)(E:XK)(t:TA):TE:=λσ H Q=>t σ H λvs a=>sp (vs++rC) a Q E
def iM(C:AI)(m:Str)(sp:Sp)(rC:List V)(E:XK)(c:TE)(t:TA):TE:=λσ H Q=>c σ H λx b=>∃a dx fs,x=.ref a/\b a=some (.ins C dx fs)/\fs.lookup m=none/\
 t σ b λvs d=>sp (x::(vs++rC)) d Q E
def wU(C:AI)(sp:Sp)(rC:List V)(E:XK)(t:TA):TE:=λσ H Q=>t σ H λvs a=>∀x dx,a x=none->a dx=none->dx≠x->
 sp (.ref x::(vs++rC)) (upd (upd a dx (.own x)) x (.ins C dx [])) (λv b=>v=.non/\Q (.ref x) b) E
def Binds(K:aB)(fd:AL)(ps:AH)(ds:AC):Prop:=
 ∀(s:AK) (us:AC),K.In s.heap->(us++ds).length=ps.length->BindsTo s fd ⟨us,[]⟩ (ps.zip (us++ds))
theorem Binds.all{K:aB}{fd:AL}{ps:AH}(h:∀us:AC,us.length=ps.length->bindArgs fd ⟨us,[]⟩=pure (ps.zip us)):Binds K fd ps []:=λs us _ hl=>by
 rw[List.append_nil]at hl ⊢;exact .of_eq (h us hl)
def Passes(CX:CXT)(X:Cx)(E:XK):Prop:=∀(a:At) (σ:St) (H:Hp) (s:AK) (e:AJ) (s':AK),Inv X a σ H s->CX X.stack H s E e s'->X.xe e s'
section
variable {X:Cx}{CX:CXT}{k:Nat}{f C:AI}{fd:AL}{ps:AH}{sp:Sp}{rC:List V}{ds:AC}{E:XK}{x m:Str}{p pos apos:Pos}{e o:AN}{es:AG}{ta:TE}{t:TA}
theorem Zf{a:At}{σ:St}{H:Hp}{s:AK}{Q:VK}{us:AC}{vs:List V}(F:rD X.prog X.w X.K X.mg X.base CX k f fd ps sp)(hr:Room k X.A)(hb:Binds X.K fd ps ds)(hd:Vals rC ds)(hx:Passes CX X E)
  (I:Inv X a σ H s) (r:Vals vs us) (h:sp (vs++rC) H Q E):wpAny ς X.A (call (.ref f) us) (EP X a σ Q) X.xe s:=by
 have b:Vals (vs++rC) (us++ds):=r.append hd;have hl:(us++ds).length=ps.length:=by rw[<- b.length];exact F.len _ _ _ _ h
 refine wpAny_call (codeAny_mono (F.run X.A X.stack s H ⟨us,[]⟩ (us++ds) (vs++rC) Q E hr I.env0 (hb s us I.yV hl) b h) λr c hq=>?_);cases r with
 | error e=>exact hx a σ H s e c I hq
 | ok fl=>
  cases fl with
  | ret u=>exact I.after hq
  | next=>exact False.elim hq
  | brk=>exact False.elim hq
  | cont=>exact False.elim hq
theorem rT(F:rD X.prog X.w X.K X.mg X.base CX k f fd ps sp)(hr:Room k X.A)(g:Gl X x)(hm:X.mg x=↑f)(hk:W.keepIn X.K (.ref f)=true)(hb:Binds X.K fd ps ds)(hd:Vals rC ds)(hx:Passes CX X E)
  (d:PA X (e::es) t) (c:(x == ("__debug__":Str))=false:=by decide) (j:starEach (e::es) X.env=(false,eval e X.env)::starEach es X.env:=by rfl) (b:(backTo pos dQ).any (·.1)=false:=by rfl):
  PE X (.Call (.Name x p) (e::es) [] pos) (aP sp rC E t):=by
 intro a s i H Q I h;refine wpAny_Call_Name_kw (p6 I g hm ?_ c);refine W.callWith_K (h₀:=X.base) I.ok.mod.kin hk (fX (d pos a s i H _ I h) λus l ⟨m,H1,I1,r,q⟩=>⟨I1.yV,?_⟩) j b;exact Zf F hr hb hd hx I1 r q
theorem oH{pl:Sem Bool}(p:PE X o ta)(c:Py X.K C)(hm:Meth X.K C m f)(F:rD X.prog X.w X.K X.mg X.base CX k f fd ps sp)(hr:Room k X.A)(hb:Binds X.K fd ps ds)(hd:Vals rC ds)(hx:Passes CX X E)(n:PA X (e::es) t)
  (g:starEach (e::es) X.env=(false,eval e X.env)::starEach es X.env:=by rfl) (d:(backTo pos dQ).any (·.1)=false:=by rfl)
  (v:eval (.Call (.Attribute o m apos) (e::es) [] pos) X.env=(do
   let ov <- eval o X.env
   standAt apos.atName
   let (f,first) <- holding [ov] (getMethod ov m pl)
   callWith pos f first (backTo pos (starEach (e::es) X.env)) (backToKw pos (keywordEach [] X.env))):=by rfl):
  PE X (.Call (.Attribute o m apos) (e::es) [] pos) (iM C m sp rC E ta t):=by
 intro b s i H Q I h;refine W.methodCall_KW (pl:=pl) (fX (p b s i H _ I h) λu j qc=>?_) v;obtain⟨x,H1,I1,rx,a,dx,fs,ex,ea,l,q⟩:=qc;subst ex;obtain rfl:u=Value.ref a:=rx;refine S5 I1 ea c hm l ?_;refine W.callWith_K (first:=[.ref a]) (h₀:=X.base) I.ok.mod.kin hm.kp (fX (n pos b j i H1 _ I1 q) λus y ⟨vs,H2,I2,r,q2⟩=>⟨I2.yV,?_⟩) g d;exact Zf (us:=.ref a::us) (vs:=.ref a::vs) F hr hb hd hx I2 (.cons rfl r) q2
theorem jH{pl:Sem Bool}(e:PE X o ta)(c:Py X.K C)(hm:Meth X.K C m f)(F:rD X.prog X.w X.K X.mg X.base CX k f fd ps sp)(hr:Room k X.A)(hb:Binds X.K fd ps ds)(hd:Vals rC ds)(hx:Passes CX X E)
  (g:eval (.Call (.Attribute o m apos) [] [] pos) X.env=(do
   let ov <- eval o X.env
   standAt apos.atName
   let (f,first) <- holding [ov] (getMethod ov m pl)
   callWith pos f first (backTo pos (starEach [] X.env)) (backToKw pos (keywordEach [] X.env))):=by rfl):
  PE X (.Call (.Attribute o m apos) [] [] pos) (iM C m sp rC E ta aC):=by
 intro b s d H Q I h;refine W.methodCall_KW (pl:=pl) (fX (e b s d H _ I h) λu i qc=>?_) g;obtain⟨x,H1,I1,rx,a,dx,fs,ex,ea,l,q⟩:=qc;subst ex;obtain rfl:u=Value.ref a:=rx;refine S5 I1 ea c hm l ?_;exact W.callWith_K0 (first:=[.ref a]) I1.yV hm.kp (Zf (us:=[.ref a]) (vs:=[.ref a]) F hr hb hd hx I1 (.cons rfl .nil) q)
structure Mk(K:aB)(C f:AI):Prop where
 makes:W.makesIn K C=true
 init:W.findIn K (.ref C) "__init__"=some (↑f)
 fn:W.isFn K (.ref f)=true
 kp:W.keepIn K (.ref C)=true
theorem Zcf{a:At}{σ:St}{H:Hp}{s:AK}{Q:VK}{us:AC}{vs:List V}(M:Mk X.K C f)(F:rD X.prog X.w X.K X.mg X.base CX k f fd ps sp)(hr:Room db X.A)(hb:Binds X.K fd ps ds)(hd:Vals rC ds)
  (hx:Passes CX X E) (I:Inv X a σ H s) (r:Vals vs us)
  (h:∀x dx,H x=none->H dx=none->dx≠x->sp (.ref x::(vs++rC)) (upd (upd H dx (.own x)) x (.ins C dx [])) (λv n=>v=.non/\Q (.ref x) n) E):
  wpAny ς X.A (call (.ref C) us) (EP X a σ Q) X.xe s:=by
 have hq:=h ap s.heap.objs.size (I.hok.fresh (Nat.le_succ _)) (I.hok.fresh Δ) (Nat.ne_of_lt (Nat.lt_succ_self _));have c:=Inv.made (C:=C) I;have d:Vals (V.ref ap::(vs++rC)) (Value.ref ap::(us++ds)):=.cons rfl (r.append hd);have hl:(Value.ref ap::us++ds).length=ps.length:=by
  have e:=d.length;rw[F.len _ _ _ _ hq]at e;exact e.symm
 refine wpAny_call (Znf (f:=f) I.yV M.makes M.init (beq_iff_eq.mp M.fn) (codeAny_mono (F.run _ X.stack _ _ ⟨Value.ref ap::us,[]⟩ (Value.ref ap::(us++ds)) _ _ E (hr.make C us [])
  (c.env0.make C us []) (hb _ (Value.ref ap::us) c.yV hl) d hq) λr m b=>?_))
 cases r with
 | error e=>exact hx a σ _ _ e m c b
 | ok fl=>
  cases fl with
  | ret u=>
   obtain⟨v,j,g,l,o,i⟩:=c.after b;subst o;exact⟨l,⟨V.ref ap,j,g,rfl,i⟩⟩
  | next=>exact False.elim b
  | brk=>exact False.elim b
  | cont=>exact False.elim b
theorem vN(M:Mk X.K C f)(F:rD X.prog X.w X.K X.mg X.base CX k f fd ps sp)(hr:Room db X.A)(g:Gl X x)(hm:X.mg x=↑C)(hb:Binds X.K fd ps ds)(hd:Vals rC ds)(hx:Passes CX X E)
  (d:PA X (e::es) t) (c:(x == ("__debug__":Str))=false:=by decide) (j:starEach (e::es) X.env=(false,eval e X.env)::starEach es X.env:=by rfl) (b:(backTo pos dQ).any (·.1)=false:=by rfl):
  PE X (.Call (.Name x p) (e::es) [] pos) (wU C sp rC E t):=by
 intro a s i H Q I h;refine wpAny_Call_Name_kw (p6 I g hm ?_ c);refine W.callWith_K (h₀:=X.base) I.ok.mod.kin M.kp (fX (d pos a s i H _ I h) λus l ⟨m,H1,I1,r,q⟩=>⟨I1.yV,?_⟩) j b;exact Zcf M F hr hb hd hx I1 r q
theorem Zmm(M:Mk X.K C f)(F:rD X.prog X.w X.K X.mg X.base CX k f fd ps sp)(hr:Room db X.A)(c:Gl X x)(hm:X.mg x=↑C)(hb:Binds X.K fd ps ds)(hd:Vals rC ds)(hx:Passes CX X E)
  (a:(x == ("__debug__":Str))=false:=by decide):PE X (.Call (.Name x p) [] [] pos) (wU C sp rC E aC):=by
 intro b s d H Q I h;refine wpAny_Call_Name_kw (p6 I c hm ?_ a);exact W.callWith_K0 I.yV M.kp (Zcf (us:=[]) M F hr hb hd hx I .nil h)
end
section
variable {X:Cx}{CX:CXT}{k:Nat}{f C:AI}{fd:AL}{ps ks:AH}{sp:Sp}{E:XK}{x m:Str}{p pos apos kpos:Pos}{e o:AN}{es:AG}{kws:List Keyword}{te ta:TE}{t tk:TA}{nm:Option Str}
structure ZBb(K:aB)(fd:AL)(ps ks:AH)(g:AC->AC->AC)(gV:List V->List V->List V):Prop where
 to:∀(s:AK) (us ws:AC),K.In s.heap->(g us ws).length=ps.length->BindsTo s fd ⟨us,ks.zip ws⟩ (ps.zip (g us ws))
 rel:∀{vs:List V}{us:AC}{zs:List V}{ws:AC},Vals vs us->Vals zs ws->Vals (gV vs zs) (g us ws)
variable {g:AC->AC->AC}{gV:List V->List V->List V}
end
structure aO(N P:AH)(sc:Scope):Prop where
 kind:sc.kind=.function
 co:sc.isCoroutine=false
 gen:sc.isGenerator=false
 nd:N.Nodup
 pre:N.take P.length=P
 par:∀x∈P,sc.names.lookup x=some .local\/sc.names.lookup x=some .cell
 Zth:∀y∈sc.names,y.2≠.free
theorem Yv{kindOf:Str->Option NameKind}{x:Str}:∀{binds:List (Str×AJ)}{m:As},(∀v,(x,v)∉binds)->bindL kindOf binds m x=m x
 | [],_,_=>rfl
 | (n,v)::r,m,h=>by
  unfold bindL;rw[Yv λw a=>h w (List.mem_cons_of_mem _ a)];split
  ·have:x≠n:=by rintro rfl;exact h v List.mem_cons_self
   simp[this]
  ·rfl
theorem Yx{kindOf:Str->Option NameKind}{x:Str}:∀{binds:List (Str×AJ)}{m:As},(∀v,(x,v)∉binds)->bindC kindOf binds m x=m x
 | [],_,_=>rfl
 | (n,v)::r,m,h=>by
  unfold bindC;rw[Yx λw a=>h w (List.mem_cons_of_mem _ a)];split
  ·rfl
  ·have:x≠n:=by rintro rfl;exact h v List.mem_cons_self
   simp[this]
theorem Yw{kindOf:Str->Option NameKind}{x:Str}{v:AJ}:∀{P:AH}{vs:AC}{i:Nat}{m:As},P.Nodup->P[i]? =some x->vs[i]? =some v->kindOf x=some .local->
  bindL kindOf (P.zip vs) m x=some v
 | [],_,_,_,_,h,_,_=>by simp at h
 | _::_,[],_,_,_,_,h,_=>by simp at h
 | p::P,w::vs,0,m,nd,h1,h2,hk=>by
  simp at h1 h2;subst h1;subst h2;show bindL kindOf ((p,w)::P.zip vs) m p=_;unfold bindL;rw[Yv λv hv=>(List.nodup_cons.mp nd).1 (List.of_mem_zip hv).1,if_pos hk];simp
 | p::P,w::vs,i+1,m,nd,h1,h2,hk=>by
  show bindL kindOf ((p,w)::P.zip vs) m x=_;unfold bindL;exact Yw (i:=i) (List.nodup_cons.mp nd).2 (by simpa using h1) (by simpa using h2) hk
theorem Yy{kindOf:Str->Option NameKind}{x:Str}{v:AJ}:∀{P:AH}{vs:AC}{i:Nat}{m:As},P.Nodup->P[i]? =some x->vs[i]? =some v->kindOf x≠some .local->
  bindC kindOf (P.zip vs) m x=some v
 | [],_,_,_,_,h,_,_=>by simp at h
 | _::_,[],_,_,_,_,h,_=>by simp at h
 | p::P,w::vs,0,m,nd,h1,h2,hk=>by
  simp at h1 h2;subst h1;subst h2;show bindC kindOf ((p,w)::P.zip vs) m p=_;unfold bindC;rw[Yx λv hv=>(List.nodup_cons.mp nd).1 (List.of_mem_zip hv).1,if_neg hk];simp
 | p::P,w::vs,i+1,m,nd,h1,h2,hk=>by
  show bindC kindOf ((p,w)::P.zip vs) m x=_;unfold bindC;exact Yy (i:=i) (List.nodup_cons.mp nd).2 (by simpa using h1) (by simpa using h2) hk
def start(N:AH)(vs:List V):St:=vs.map some++List.replicate (N.length - vs.length) none
def JN(CX:CXT)(P:AM)(w:AO)(K:aB)(mg:As)(base:Heap)(N:AH)(b:Str)(a:Scope)(f:AI)(d:AJ)(A:Around)(outer:List Env)(s:AK)(H:Hp)(E:XK):Cx where
 prog:=P
 w:=w
 K:=K
 mg:=mg
 base:=base
 A:=A.deeper (envOfC b a s.heap.objs.size f d)
 N:=N
 s₀:=s
 H₀:=H
 env:=envOfC b a s.heap.objs.size f d
 outer:=outer
 stack:=envOfC b a s.heap.objs.size f d::outer
 ex:=[]
 calm:=true
 fn:=λ_=>true
 pn:=[]
 xe:=λe s'=>wpAny (model P w) (A.deeper (envOfC b a s.heap.objs.size f d)) (leaving (envOfC b a s.heap.objs.size f d) e) (λ_ c=>CX outer H s E e c) (λg c=>CX outer H s E g c) s'
theorem Zem{a:Scope}{n:Nat}{x:Str}(h:a.names.lookup x=some .cell):∃c,(cellsFrom n a.names []).lookup x=some c:=by
 have q:=W.cellsFrom_some a.names n [] (.inl h);exact Option.isSome_iff_exists.mp q
theorem Zkg{CX:CXT}{P:AM}{w:AO}{K:aB}{mg:As}{base:Heap}{N ps:AH}{g:Str}{d:Scope}{f:AI}{t:AJ}{A:Around}{outer:List Env}{s B:AK}{H:Hp}{E:XK}{us:AC}{vs:List V}
  (S:aO N ps d) (hd:A.handled=none) (j:Zhu P w K mg base A outer s H) (hl:vs.length=ps.length) (r:Vals vs us)
  (x:InCallC s s.heap.objs.size (bindL (envOfC g d s.heap.objs.size f t).kindOf (ps.zip us) λ_=>none) (cellsFrom ap d.names []) (bindC (envOfC g d s.heap.objs.size f t).kindOf (ps.zip us) λ_=>none) B):
  Inv (JN CX P w K mg base N g d f t A outer s H E) [] (start N vs) H B:=by
 have C:ps.length<=N.length:=by have:=congrArg List.length S.pre;rw[List.length_take]at this;omega
 obtain⟨h1,tk,rfl,hk⟩:=x.done;have l:∀b:AI,b∉(JN CX P w K mg base N g d f t A outer s H E).ex:=λb z=>absurd (show b∈([]:AF)from z) ζ;refine⟨⟨j.mod,S.kind,rfl,rfl,Nat.le_refl _,λy z c h1 h2=>?_,λy hy=>?_,λy c _ h=>?_,λ_=>hd,Around.frames_deeper j.frames,.inr ⟨rfl,rfl⟩,λb z=>absurd z (l b),j.bs,j.bsz,λb _ _=>l b,λb z=>absurd z (l b),j.vZ,j.frf⟩,
  rfl,j.bare,Un.kept hk,⟨_,x.toInCall.ns,λi y v h1 h2 I=>?_⟩,λy c h=>⟨_,x.cell y c h⟩,j.hok.fresh Δ,λy c h=>?_,λp hp=>absurd (show p∈([]:At)from hp) ζ,j.hok.kept hk,?_⟩
 ·exact name_of_addr x.apart (PySem.mem_of_lookup h1) (PySem.mem_of_lookup h2)
 ·have hy:d.names.lookup y=some .cell\/d.names.lookup y=some .free:=hy;rcases hy with hy | hy
  ·exact Zem hy
  ·exact absurd rfl (S.Zth _ (PySem.mem_of_lookup hy))
 ·exact Nat.le_of_lt (x.above y c (PySem.mem_of_lookup h))
 ·have o:i<vs.length:=by
   unfold start at h2
   by_cases o:i<vs.length
   ·exact o
   ·rw[List.getElem?_append_right (by simpa using o)]at h2;rw[List.getElem?_replicate]at h2;split at h2<;>cases h2
  have F:vs[i]? =some v:=by
   unfold start at h2;rw[List.getElem?_append_left (by simpa using o),bL]at h2;cases e:vs[i]? with
   | none=>rw[e]at h2;cases h2
   | some a=>rw[e]at h2;cases h2;rfl
  obtain⟨u,hu,D⟩:=r.get F;have hp:ps[i]? =some y:=by
   rw[<- S.pre,List.getElem?_take_of_lt δ];exact h1
  have m:ps.Nodup:=by rw[<- S.pre];exact S.nd.sublist (List.take_sublist _ _)
  refine⟨u,D,?_⟩;rcases S.par y (List.mem_of_getElem? hp)with k | k
  ·exact .inl ⟨k,Yw m hp hu k⟩
  ·obtain⟨c,e⟩:=Zem (n:=s.heap.objs.size+1) k;refine .inr ⟨.inl k,c,e,?_⟩;have q:=x.cell y c e;rw[Yy m hp hu (by show d.names.lookup y≠_;rw[k];decide)]at q;exact q
 ·exact j.hok.fresh (Nat.le_of_lt (x.above y c (PySem.mem_of_lookup h)))
 ·unfold start;show _=N.length;rw[List.length_append,aR,List.length_replicate];omega
theorem Zog{CX:CXT}{P:AM}{w:AO}{K:aB}{mg:As}{base:Heap}{k:Nat}{f:AI}{name c:Str}{g:Arguments}{h:List Stmt}{a:Scope}{dV kV m U d ct oc:AJ}{M od:Option AI}
  {B:Array AB}{N ps:AH}{sp:Sp} (lk:K.lookup f=some ⟨oc,od,.func (W.fnOf name c g h a dV kV m U M d ct),B⟩) (D:W.codeIn K d c=true) (S:aO N ps a)
  (len:∀vs H Q E,sp vs H Q E->vs.length=ps.length)
  (l:∀(A:Around) (outer:List Env) (s:AK) (H:Hp) (vs:List V) (Q:VK) (E:XK),Room k (A.deeper (envOfC c a s.heap.objs.size f d))->sp vs H Q E->
   ∃t,PSs (JN CX P w K mg base N c a f d A outer s H E) h t/\t { nx:=λ_ H'=>Q .non H',rt:=Q } (start N vs) H):
  rD P w K mg base CX db f (W.fnOf name c g h a dV kV m U M d ct) ps sp:=by
 refine⟨len,λA outer s H T us vs Q E hr p hb r z=>?_⟩;have hl:=len _ _ _ _ z;have R:K.In s.heap:=p.mod.kin.keeps λb o e=>(p.bs b o e).1;have L:s.heap.NoLimit:=p.mod.nolimit.keeps λb o e=>(p.bs b o e).1;have j:∀y∈ps.zip us,a.names.lookup y.1=some .local\/(a.names.lookup y.1=some .cell/\((cellsFrom ap a.names []).lookup y.1).isSome=true):=λ⟨n,v⟩ hy=>by
  rcases S.par n (List.of_mem_zip hy).1 with q | q
  ·exact .inl q
  ·exact .inr ⟨q,W.cellsFrom_some _ _ _ (.inl q)⟩
 refine codeAny_call_function hr.depth (R _ _ lk) rfl S.co S.gen rfl (W.codeRec_of R D) (hb _ _ _ _ ?_);refine wpAny_newFunctionEnv_cells S.kind j λenv Y O x=>?_;subst Y;refine⟨L.keeps x.toInCall.keep,codeAny_func ?_⟩;obtain⟨t,X,hq⟩:=l A outer s H vs Q E (hr.deeper _) z;have I:Inv (JN CX P w K mg base N c a f d A outer s H E) [] (start N vs) H O:=Zkg S hr.hd p hl r x;refine wpAny_mono (X [] O (start N vs) H _ I hq) (λfl C hs=>?_) λe C hs=>hs;have fin:∀{i:St}{H':Hp}{v:V}{u:AJ},Inv (JN CX P w K mg base N c a f d A outer s H E) [] i H' C->RelV v u->Q v H'->CE outer P w H s Q u C:=
  λ{i H' v u} J F q=>⟨v,H',J.os,J.bare,J.base,J.hok,F,q⟩
 cases fl with
 | ret u=>
  obtain⟨v,i,H',J,F,q⟩:=hs;exact fin J F q
 | next=>
  obtain⟨i,H',J,q⟩:=hs;exact fin (v:=V.non) (u:=Value.none) J rfl q
 | brk=>
  obtain⟨_,_,_,q⟩:=hs;exact False.elim q
 | cont=>
  obtain⟨_,_,_,q⟩:=hs;exact False.elim q
section
variable {X:Cx}{x:Str}{p pos:Pos}{e:AN}{es:AG}{t:TA}{id T:String}{r:List V->Hp->VK->Prop}
def pG(r:List V->Hp->VK->Prop)(t:TA):TE:=λσ H Q=>t σ H λvs a=>r vs a Q
theorem bQ(hc:Im X (.builtin id) r)(j:Gl X x)(hm:X.mg x=none)(hv:bootBuiltins x=some (.builtin id))(i:PA X (e::es) t)(hn:x≠"__name__":=by decide)(c:(x == ("__debug__":Str))=false:=by decide)
  (k:starEach (e::es) X.env=(false,eval e X.env)::starEach es X.env:=by rfl) (b:(backTo pos dQ).any (·.1)=false:=by rfl):PE X (.Call (.Name x p) (e::es) [] pos) (pG r t):=by
 intro a s d H Q I h;refine wpAny_Call_Name_kw (R0 I j hm hv ?_ hn c);exact PyProof.Rows.callWith_builtin1 (fX (i pos a s d H _ I h) (by rintro us f ⟨g,H1,I1,r1,q1⟩;exact hc a f d H1 g us Q I1 r1 q1)) k b
theorem kE(hc:Im X (.type T) r)(j:Gl X x)(hm:X.mg x=none)(hv:bootBuiltins x=some (.type T))(i:PA X (e::es) t)(hn:x≠"__name__":=by decide)(c:(x == ("__debug__":Str))=false:=by decide)
  (k:starEach (e::es) X.env=(false,eval e X.env)::starEach es X.env:=by rfl) (b:(backTo pos dQ).any (·.1)=false:=by rfl):PE X (.Call (.Name x p) (e::es) [] pos) (pG r t):=by
 intro a s d H Q I h;refine wpAny_Call_Name_kw (R0 I j hm hv ?_ hn c);exact PyProof.Rows.callWith_type1 (fX (i pos a s d H _ I h) (by rintro us f ⟨g,H1,I1,r1,q1⟩;exact hc a f d H1 g us Q I1 r1 q1)) k b
end
end L2
namespace HT
open PySem PyProof.Rows
section
open PySem.SeqAt
open PySem.AutoSeq1 (wpAny_loadPart')
open PySem.MeetsSeq PySem.MeetsSeq2 PySem.MeetsSeq3
end
section
variable {prog:AM}{w:AO}{A:Around}{E:Ap}{s:AK}
theorem Zr6{t b:AI}{vs a:AC}{Q:Ap}(p:IsTup s.heap t vs.toArray)(hb:IsTup s.heap b a.toArray)(hv:vs≠[])
  (h1:a=[]->Q (.ref t) s) (h2:a≠[]->Q (.ref s.heap.objs.size) { s with heap:=s.heap.push { cls:=.type "tuple",data:=.seq (vs++a).toArray } })
  (hsz:vs.length+a.length<=sizeLine):wpAny af A (binaryOp .Add (.ref t) (.ref b)) Q E s:=by
 obtain⟨⟨o,l,m,sl⟩,i,hc,n,hd⟩:=id p;obtain⟨⟨k,h,data2,g⟩,c,d,n2,f⟩:=id hb;simp only at hc hd d f;subst hc hd d f;have e:vs.toArray++a.toArray=(vs++a).toArray:=ζ
 by_cases j:a=[]
 ·exact concat_meets ⟨_,i,rfl⟩ ⟨_,c,rfl⟩ noFill_tuple_add seq_tuple_add PySem.F.slot_tuple_add PySem.F.entry_tuple_add (PySem.F.args_tuple_add_2 _ _)
   (tuple_addW1 t b vs.toArray a.toArray n n2 l h sl g (by simpa using hv) (by simp[j])) ⟨i,c,h1 j⟩
 ·refine concat_meets ⟨_,i,rfl⟩ ⟨_,c,rfl⟩ noFill_tuple_add seq_tuple_add PySem.F.slot_tuple_add PySem.F.entry_tuple_add (PySem.F.args_tuple_add_2 _ _)
   (tuple_addW2 t b vs.toArray a.toArray n n2 l h sl g (by simpa using hv) (by simpa using j) (by rw[List.size_toArray,List.size_toArray];exact hsz)) ⟨i,c,?_⟩
  rw[e];exact h2 j
def lK(n d:Nat):AA->Nat
 | none=>d
 | some v=>if v<0 then(v+(n:Int)).toNat else min v.toNat n
theorem Zm3(n d:Nat):lK n d none=d:=rfl
theorem Zpj(n d k:Nat):lK n d (some (k:Int))=min k n:=by
 show(if (k:Int)<0 then((k:Int)+(n:Int)).toNat else min (k:Int).toNat n)=min k n;rw[if_neg δ,Int.toNat_natCast]
theorem Zsz(n d:Nat)(hd:d<=n)(o:AA):lK n d o<=n:=by
 cases o with
 | none=>exact hd
 | some v=>
  show(if v<0 then(v+(n:Int)).toNat else min v.toNat n)<=n
  by_cases hv:v<0
  ·rw[if_pos hv];omega
  ·rw[if_neg hv];exact Nat.min_le_right _ _
theorem Zj7(v:Int)(n d:Nat):(if v<0 then max (v+(n:Int)) 0 else min v (n:Int))=((lK n d (some v):Nat):Int):=by
 show(if v<0 then max (v+(n:Int)) 0 else min v (n:Int))=(((if v<0 then(v+(n:Int)).toNat else min v.toNat n):Nat):Int)
 by_cases hv:v<0
 ·simp only[if_pos hv];omega
 ·simp only[if_neg hv];omega
theorem Zhh(lo a:AA)(n:Nat):Builtin.Slice.sliceAdjust lo a 1 (n:Int)=(((lK n 0 lo:Nat):Int),((lK n n a:Nat):Int)):=by
 have h1:¬ ((1:Int)<0):=δ
 unfold Builtin.Slice.sliceAdjust;simp only[h1,if_false];refine Prod.ext ?_ ?_
 ·cases lo with
  | none=>rfl
  | some v=>exact Zj7 v n 0
 ·cases a with
  | none=>rfl
  | some v=>exact Zj7 v n n
theorem Zft(i j:Nat):Builtin.Slice.slicePlaces (i:Int) (j:Int) 1=j - i:=by
 unfold Builtin.Slice.slicePlaces;have h1:(1:Int) > 0:=δ
 simp only[h1,if_true,Int.ediv_one];split<;>omega
theorem Qc{v:AJ}{o:AA}{Q:AA->AK->Prop}(p:IsPart v o)(h:Q o s):wpAny af A (Builtin.Slice.slicePartIndex v) Q E s:=by
 cases p with
 | none=>exact slicePart_none h
 | int i t=>exact slicePart_int h
theorem Jc{sl:AI}{d e:AJ}{lo b:AA}{n:Nat}{Q:Int×Int×Nat->AK->Prop}(hs:s.heap.IsSliceOf sl d e .none)(pl:IsPart d lo)(f:IsPart e b)
  (h:Q (((lK n 0 lo:Nat):Int),1,lK n n b - lK n 0 lo) s):wpAny af A (Builtin.Slice.sliceApplied (.ref sl) (pure (n:Int))) Q E s:=by
 obtain⟨os,a,g,c⟩:=id hs;unfold Builtin.Slice.sliceApplied Builtin.Slice.sliceFields;refine wpAny_bind (wpAny_bind (wpAny_field a c (x:=d) rfl (wpAny_bind (wpAny_field a c (x:=e) rfl (wpAny_bind (wpAny_field a c (x:=.none) rfl (wpAny_pure ?_)))))));refine wpAny_bind (slicePart_none ?_);show wpAny _ _ (if ((1:Int) == 0)=true then _ else _) _ _ s;rw[if_neg ε];refine wpAny_bind (Qc pl (wpAny_bind (Qc f (wpAny_bind (wpAny_pure ?_)))));show wpAny _ _ (match Builtin.Slice.sliceAdjust lo b 1 (n:Int)with | (lo,b)=>pure (lo,(1:Int),Builtin.Slice.slicePlaces lo b 1)) _ _ s;rw[Zhh lo b n];show wpAny _ _ (pure (((lK n 0 lo:Nat):Int),(1:Int),Builtin.Slice.slicePlaces ((lK n 0 lo:Nat):Int) ((lK n n b:Nat):Int) 1)) _ _ s;rw[Zft];exact wpAny_pure h
theorem Zmi(xs:Array AJ)(i k:Nat):((List.range k).filterMap λ(m:Nat)=>xs[((i:Int)+(m:Int) * 1).toNat]?).toArray=((xs.toList.drop i).take k).toArray:=by
 have e:(λ(m:Nat)=>xs[((i:Int)+(m:Int) * 1).toNat]?)=λm=>xs[i+m]? :=by
  funext m
  have:((i:Int)+(m:Int) * 1).toNat=i+m:=δ
  rw[this]
 rw[e];have:=pick_run xs i k;rw[List.filterMap_map]at this;have a:((λx=>xs[x]?) ∘ λx=>i+x)=λm=>xs[i+m]? :=rfl;rw[a]at this;rw[this]
theorem Hq{t sl:AI}{a:Array AJ}{i j:AJ}{lo b:AA}{Q:Ap}(d:IsTup s.heap t a)(hs:s.heap.IsSliceOf sl i j .none)(pl:IsPart i lo)(k:IsPart j b)
  (l:¬ (lK a.size 0 lo=0/\lK a.size a.size b=a.size))
  (h:Q (.ref s.heap.objs.size) { s with heap:=s.heap.push { cls:=.type "tuple",data:=.seq ((a.toList.drop (lK a.size 0 lo)).take (lK a.size a.size b - lK a.size 0 lo)).toArray } })
  (hsz:a.size<=sizeLine):wpAny af A (getItem (.ref t) (.ref sl)) Q E s:=by
 have c:sizeOk (.seq ((a.toList.drop (lK a.size 0 lo)).take (lK a.size a.size b - lK a.size 0 lo)).toArray):=by
  show((a.toList.drop (lK a.size 0 lo)).take (lK a.size a.size b - lK a.size 0 lo)).toArray.size<=sizeLine;rw[List.size_toArray,List.length_take,List.length_drop,Array.length_toList];omega
 have r:lK a.size a.size b<=a.size:=Zsz _ _ Δ b;obtain⟨os,e,g,n⟩:=id hs;have f:s.TypeIs (.ref sl) "slice":=⟨os,e,g⟩;unfold getItem
 try with_reducible refine wpAny_holding ?_
 first | refine wpAny_bind (wpAny_pure ?_) | skip
 refine wpAny_bind (wpAny_sequenceKey d.typeIs ε ?_);refine wpAny_bind (wpAny_callSpecial?_slot (name:=Str.ofString "__getitem__") d.typeIs PyProof.Rows.slot_tuple_getitem
  (wpAny_call_entry PyProof.Rows.slot_tuple_getitem d.typeIs entry_tuple_getitem ?_ (args_tuple_getitem _ _)))
 show wpAny _ _ (Builtin.Tuple.tupleItemsOf (.ref t) >>= _) _ _ s;refine wpAny_bind (tupleItemsOf_ d ?_);refine wpAny_bind (wpAny_typeOf f ?_);rw[if_pos ε];refine wpAny_bind (Jc hs pl k ?_);have hno:¬ ((((lK a.size 0 lo:Nat):Int) == 0 && (1:Int) == 1 && (lK a.size a.size b - lK a.size 0 lo) == a.size)=true):=by
  intro q;rw[Bool.and_eq_true,Bool.and_eq_true]at q;have p:((lK a.size 0 lo:Nat):Int)=0:=eq_of_beq q.1.1;have o:lK a.size a.size b - lK a.size 0 lo=a.size:=eq_of_beq q.2;exact l ⟨δ,δ⟩
 show wpAny _ _ (if (((lK a.size 0 lo:Nat):Int) == 0 && (1:Int) == 1 && (lK a.size a.size b - lK a.size 0 lo) == a.size)=true then _ else _) _ _ s;rw[if_neg hno,Zmi]
 first
  | exact wpAny_bind (m:=Builtin.Tuple.tupleExact _) (wpAny_newObj_type (wpAny_pure ⟨_,rfl,wpAny_pure h⟩) c)
  | exact wpAny_bind (m:=Builtin.Tuple.tupleExact _) (wpAny_newObj_type (wpAny_bind (wpAny_pure (wpAny_pure ⟨_,rfl,wpAny_pure h⟩))) c)
  | exact wpAny_bind (wpAny_bind (m:=Builtin.Tuple.tupleExact _) (wpAny_newObj_type (wpAny_pure (wpAny_pure ⟨_,rfl,wpAny_pure h⟩)) c))
  | exact wpAny_bind (wpAny_bind (m:=Builtin.Tuple.tupleExact _) (wpAny_newObj_type (wpAny_pure ⟨_,rfl,wpAny_pure h⟩) c))
end
end HT
namespace L2
open PySem PySem.Spec PyProof.Rows
abbrev TO:=St->Hp->(AA->Hp->Prop)->Prop
def PO(X:Cx)(e:Option AN)(t:TO):Prop:=
 ∀(a:At) (s:AK) (σ:St) (H:Hp) (Q:AA->Hp->Prop),Inv X a σ H s->t σ H Q->
  wpAny ς X.A (evalPart e X.env) (λu s'=>∃o H',Inv X a σ H' s'/\IsPart u o/\Q o H') X.xe s
def zP:TO:=λ_ H Q=>Q none H
def Kq(t:TE):TO:=λσ H Q=>t σ H λx a=>∃i,x=.int i/\Q (some i) a
section
variable {X:Cx}{e:AN}{te:TE}{lo hi:Option AN}{tl th:TO}{pos p2:Pos}
theorem O8:PO X none zP:=by
 intro a s b H Q I h;rw[evalPart_none];exact wpAny_pure ⟨none,H,I,.none,h⟩
theorem zR(h:PE X e te):PO X (some e) (Kq te):=by
 intro a s b H Q I c;rw[evalPart_some];refine fX (h a s b H _ I c) λu d qc=>?_;obtain⟨x,H1,I1,r1,q1⟩:=qc;obtain⟨i,rfl,q⟩:=q1;obtain⟨t,rfl⟩:=r1;exact⟨some i,H1,I1,.int i t,q⟩
def SlR(X:Cx)(r:V->AA->AA->Hp->VK->Prop):Prop:=
 ∀(a:At) (s:AK) (σ:St) (H:Hp) (x:V) (v b c:AJ) (lo hi:AA) (sl:AI) (Q:VK),Inv X a σ H s->RelV x v->s.heap.IsSliceOf sl b c .none->IsPart b lo->IsPart c hi->r x lo hi H Q->
  ∃T id,typeLookup (.type T) "__getitem__"=pure (some (.builtin id))/\s.TypeIs v T/\wpAny ς X.A (getItem v (.ref sl)) (EP X a σ Q) X.xe s
def tSl(r:V->AA->AA->Hp->VK->Prop)(te:TE)(tl th:TO):TE:=λσ H Q=>te σ H λx b=>tl σ b λl a=>th σ a λu c=>r x l u c Q
theorem yD{r:V->AA->AA->Hp->VK->Prop}(hr:SlR X r)(o:PE X e te)(hl:PO X lo tl)(hu:PO X hi th):PE X (.Subscript e (.Slice lo hi none p2) pos) (tSl r te tl th):=by
 intro a s d H Q I h;refine Subscript_ (fX (o a s d H _ I h) λv j qc=>?_);obtain⟨x,H1,I1,r1,q1⟩:=qc;refine wpAny_Slice (fX (hl a j d H1 _ I1 q1) λf n ⟨l,H2,I2,pl,q2⟩=>fX (hu a n d H2 _ I2 q2) λg c qc=>?_);obtain⟨u,H3,I3,pu,q3⟩:=qc;rw[evalPart_none];refine wpAny_pure ?_;have k:Inv X a d H3 { c with heap:=c.heap.push { cls:=.type "slice",data:=.fields #[f,g,.none] } }:=I3.kept (t':=c.toks) λb ob q=>Heap.get?_push_of_some _ q;obtain⟨T,id,i,p,m⟩:=hr a { c with heap:=c.heap.push { cls:=.type "slice",data:=.fields #[f,g,.none] } } d H3 x v f g l u c.heap.objs.size Q k r1 (Heap.IsSliceOf.new ..) pl pu q3;show wpAny ς X.A (subscriptTail e (.Slice lo hi none p2) v (.ref c.heap.objs.size)) (EP X a d Q) X.xe { c with heap:=c.heap.push { cls:=.type "slice",data:=.fields #[f,g,.none] } };exact tail_any (ops:=[.ref c.heap.objs.size,v]) p i m dr
def Ae(xs:List V)(lo hi:AA):List V:=(xs.drop (HT.lK xs.length 0 lo)).take (HT.lK xs.length xs.length hi - HT.lK xs.length 0 lo)
theorem NP(xs:List V)(lo hi:AA):(Ae xs lo hi).length<=xs.length:=by
 unfold Ae;rw[List.length_take,List.length_drop];omega
def Zt2(K:aB):V->AA->AA->Hp->VK->Prop:=λx lo hi H Q=>∃a xs,x=.ref a/\dR K H a xs/\
 ¬ (HT.lK xs.length 0 lo=0/\HT.lK xs.length xs.length hi=xs.length)/\∀p,H p=none->Q (.ref p) (upd H p (.tup (Ae xs lo hi)))
theorem Zlx:SlR X (Zt2 X.K):=by
 intro f s p H x v m n lo hi sl Q I j hs l i h;obtain⟨a,d,rfl,hx,k,q⟩:=h;cases j;obtain⟨e,r,g,hz⟩:=I.tuple hx;have c:e.toArray.size=d.length:=by rw[List.size_toArray];exact r.length.symm
 refine⟨"tuple",_,PyProof.Rows.slot_tuple_getitem.lookup,g.typeIs,?_⟩;refine HT.Hq g hs l i (by rw[c];exact k) ?_ (by rw[c];exact hz);rw[c];refine⟨.ref s.heap.objs.size,_,I.laid (t':=s.toks) (o:=.tup (Ae d lo hi)) (λb ob q=>Heap.get?_push_of_some _ q) Δ ?_,rfl,q _ (I.hok.fresh Δ)⟩;exact⟨Nat.le_trans (NP d lo hi) hz,_,(r.drop (HT.lK d.length 0 lo)).take (HT.lK d.length d.length hi - HT.lK d.length 0 lo),IsTup.new _ _⟩
def Zrr(K:aB):R2:=λx y H Q=>∃a b xs c,x=.ref a/\y=.ref b/\dR K H a xs/\dR K H b c/\xs≠[]/\xs.length+c.length<=sizeLine/\
 (c=[]->Q (.ref a) H)/\(c≠[]->∀p,H p=none->Q (.ref p) (upd H p (.tup (xs++c))))
theorem Vals.ZS{xs:List V}{us:AC}(r:Vals xs us):us=[]↔xs=[]:=by
 cases r with
 | nil=>simp
 | cons _ _=>simp
theorem Zq0:tK X (binaryOp .Add) (Zrr X.K):=by
 intro e s t H x y v u Q I i l h;obtain⟨a,b,g,r,rfl,rfl,p,hb,hx,hz,n,j⟩:=h;cases i;cases l;obtain⟨k,d,m,_⟩:=I.tuple p;obtain⟨f,c,p2,_⟩:=I.tuple hb;refine HT.Zr6 m p2 (λz=>hx (d.ZS.mp z)) (λz=>⟨.ref a,H,I,rfl,n (c.ZS.mp z)⟩) bp (by rw[<- d.length,<- c.length];exact hz);refine⟨.ref s.heap.objs.size,_,I.laid (t':=s.toks) (o:=.tup (g++r)) (λb ob q=>Heap.get?_push_of_some _ q) Δ ?_,rfl,j (λw=>z (c.ZS.mpr w)) _ (I.hok.fresh Δ)⟩;exact⟨by rw[List.length_append];exact hz,_,d.append c,IsTup.new _ _⟩
end
def ixN(n:Nat)(i:Int):Option Nat:=if 0<=i then(if i<n then some i.toNat else none)else if -(n:Int)<=i then some (i+n).toNat else none
def atI{a:Type}(xs:List a)(i:Int):Option a:=(ixN xs.length i).bind λj=>xs[j]?
theorem Zio{n:Nat}{i:Int}{j:Nat}(h:ixN n i=some j):seqIndex? i n=some j/\j<n/\-(n:Int)<=i/\i<n:=by
 unfold ixN at h
 by_cases a:0<=i
 ·rw[if_pos a]at h
  by_cases h1:i<n
  ·rw[if_pos h1]at h;have e:i.toNat=j:=Option.some.inj h;exact⟨by rw[seqIndex_of a h1,e],δ,δ,h1⟩
  ·rw[if_neg h1]at h;cases h
 ·rw[if_neg a]at h
  by_cases h1:-(n:Int)<=i
  ·rw[if_pos h1]at h;have e:(i+n).toNat=j:=Option.some.inj h;exact⟨by rw[seqIndex_neg δ h1,e],δ,h1,δ⟩
  ·rw[if_neg h1]at h;cases h
theorem Zb0{a:Type}{xs:List a}{i:Int}{v:a}(h:atI xs i=some v):∃j,seqIndex? i xs.length=some j/\xs[j]? =some v/\j<xs.length/\-(xs.length:Int)<=i/\i<xs.length:=by
 unfold atI at h;cases e:ixN xs.length i with
 | none=>rw[e]at h;cases h
 | some j=>
  rw[e]at h;obtain⟨h1,h2,b,h4⟩:=Zio e;exact⟨j,h1,h,h2,b,h4⟩
theorem gq{a:Type}{xs:List a}{j:Nat}{v:a}(h:xs[j]? =some v):atI xs (j:Int)=some v:=by
 have b:j<xs.length:=(cI h).1;have e:ixN xs.length (j:Int)=some j:=by
  unfold ixN;rw[if_pos δ,if_pos δ];simp
 unfold atI;rw[e];exact h
def Zjh(b:AN):Prop:=∀o i,subscripted b false o i=operate [o,i] (getItem o i)
def IxR(X:Cx)(r:R2):Prop:=
 ∀(c a:AN) (b:At) (s:AK) (σ:St) (H:Hp) (x y:V) (v u:AJ) (Q:VK),Inv X b σ H s->RelV x v->RelV y u->r x y H Q->
  subscripted a false v u=operate [v,u] (getItem v u)->wpAny ς X.A (subscriptTail c a v u) (EP X b σ Q) X.xe s
def MtR(X:Cx)(id:String)(r:V->List V->Hp->VK->Prop):Prop:=
 ∀(a:At) (s:AK) (σ:St) (H:Hp) (x:V) (xs:List V) (v:AJ) (us:AC) (Q:VK),Inv X a σ H s->RelV x v->Vals xs us->r x xs H Q->
  wpAny ς X.A (call (.builtin id) (v::us)) (EP X a σ Q) X.xe s
section
variable {X:Cx}{a b:AN}{ta tb:TE}{pos:Pos}
theorem Zvz{r:R2}(hr:IxR X r)(i:PE X a ta)(hb:PE X b tb)(hs:Zjh b):PE X (.Subscript a b pos) (bh r ta tb):=by
 intro c s j H Q I h;exact Subscript_ (Zv8 i hb I h λv u k x y f d e g q=>hr a b c k j f x y v u Q d e g q (hs _ _))
def gF(K:aB):R2:=λx y H Q=>∃p xs i v,x=.ref p/\y=.int i/\bN K H p xs/\atI xs i=some v/\Q v H
def dm(K:aB):R2:=λx y H Q=>∃p xs i v,x=.ref p/\y=.int i/\dR K H p xs/\atI xs i=some v/\Q v H
def Zmb:R2:=λx y H Q=>∃z i c,x=.str z/\y=.int i/\z.length<=sizeLine/\atI z.cps.toList i=some c/\Q (.str ⟨#[c]⟩) H
theorem bY:IxR X (gF X.K):=by
 intro b g a s l H x y v u Q I o B h hs;obtain⟨p,C,i,z,rfl,rfl,hq,n,q⟩:=h;cases o;obtain⟨t,rfl⟩:=B;obtain⟨c,r,f,hz⟩:=I.list hq;obtain⟨j,h1,h2,D,h4,h5⟩:=Zb0 n;obtain⟨w,m,d⟩:=r.get h2;have hl:=r.length;have hn:=Jv;have fin:EP X a l Q w s:=⟨z,H,I,d,q⟩
 by_cases k:0<=i
 ·have e:i.toNat=j:=by
   rw[seqIndex_of k h5]at h1;exact Option.some.inj h1
  exact item_listR f.isList k δ (by rw[e];simpa using m) fin hs
 ·have e:(i+(c.toArray.size:Int)).toNat=j:=by
   rw[seqIndex_neg δ h4]at h1;rw[List.size_toArray,<- hl];exact Option.some.inj h1
  exact subscriptTail_builtinR (x:=w) f.isList.typeIs slot_list_getitem.lookup
   (wpAny_getItem_list_neg (Q:=λr A=>r=w/\EP X a l Q r A) f.isList δ (by rw[List.size_toArray]<;>omega) δ (by rw[e];simpa using m) ⟨rfl,fin⟩) hs
theorem bH:IxR X (dm X.K):=by
 intro b d a s e H x y v u Q I k n h hs;obtain⟨p,A,i,z,rfl,rfl,hq,g,q⟩:=h;cases k;obtain⟨t,rfl⟩:=n;obtain⟨l,r,f,hz⟩:=I.tuple hq;obtain⟨j,h1,h2,B,h4,h5⟩:=Zb0 g;obtain⟨w,o,c⟩:=r.get h2;have hl:=r.length;have hn:=Jv;have fin:EP X a e Q w s:=⟨z,H,I,c,q⟩;exact subscriptTail_builtinR (x:=w) f.typeIs slot_tuple_getitem.lookup
  (getItem_tuple (j:=j) (Q:=λr m=>r=w/\EP X a e Q r m) f δ δ (by rw[List.size_toArray,<- hl];exact h1) (by simpa using o) ⟨rfl,fin⟩) hs
theorem Znt:IxR X Zmb:=by
 intro a b d s n H x y v u Q I g l h hs;obtain⟨z,i,c,rfl,rfl,hz,e,q⟩:=h;obtain⟨t,rfl⟩:=g;obtain⟨m,rfl⟩:=l;obtain⟨j,h1,h2,o,h4,h5⟩:=Zb0 e;have hl:z.cps.toList.length=z.length:=by simp[Str.length]
 rw[hl]at h1 h4 h5;have hn:=Jv;exact tail_any (typeIs_str s z t) slot_str_getitem.lookup (getItem_str (c:=c) (by
  have k:decide (i < -(2 ^ 63:Int))=false:=decide_eq_false δ;have f:decide (i≥2 ^ 63)=false:=decide_eq_false δ;rw[k,f,Bool.or_false]) (by rw[h1];simpa using h2) ⟨.str ⟨#[c]⟩,H,I.tok _,⟨_,rfl⟩,q⟩) hs
theorem Zg7(a:AC)(n j:Nat)(u:AJ):Obj.mapSeq (·.setIfInBounds j u) { cls:=.type "list",data:=.seq a.toArray n }={ cls:=.type "list",data:=.seq (a.set j u).toArray n }:=by
 simp[Obj.mapSeq]
theorem Inv.lst{b:At}{σ:St}{H:Hp}{s:AK}{p:AI}{xs:List V}(I:Inv X b σ H s)(h:H p=some (.lst xs)):
  ∃(a:AC) (n:Nat),Vals xs a/\s.heap.get? p=some { cls:=.type "list",data:=.seq a.toArray n }/\xs.length<=sizeLine:=by
 obtain⟨z,a,n,r,e⟩:=I.hok p _ h;exact⟨a,n,r,e,z⟩
theorem Inv.Ztr{a:At}{σ:St}{H:Hp}{s:AK}{p:AI}{xs g:List V}{c its':AC}{n d:Nat}{f:Obj->Obj}(I:Inv X a σ H s)(h:H p=some (.lst xs))
  (j:s.heap.get? p=some { cls:=.type "list",data:=.seq c.toArray n }) (i:f { cls:=.type "list",data:=.seq c.toArray n }={ cls:=.type "list",data:=.seq its'.toArray d }) (r:Vals g its') (hz:g.length<=sizeLine) (t:Nat):
  Inv X a σ (upd H p (.lst g)) { s with heap:=s.heap.update p f,toks:=t }:=by
 have e:(s.heap.update p f).get? p=some { cls:=.type "list",data:=.seq its'.toArray d }:=by
  rw[Heap.get?_update_self f j (by rw[i]<;>rfl),i]
 refine I.write (x:=p) (e:=p) (by rw[h];trivial) (.inl rfl) (λb u hb q=>(Heap.get?_update_other _ _ (Ne.symm hb)).trans q) ⟨_,e⟩ ?_;exact⟨hz,its',d,r,e⟩
def Bt:V->V->V->Hp->(Hp->Prop)->Prop:=λo i v H Q=>∃p xs k j,o=.ref p/\i=.int k/\H p=some (.lst xs)/\ixN xs.length k=some j/\Q (upd H p (.lst (xs.set j v)))
theorem set_list:Zxs X Bt:=by
 intro a s x H o i v z A u Q I m g w h;obtain⟨p,l,k,j,rfl,rfl,hp,y,q⟩:=h;cases m;obtain⟨t,rfl⟩:=g;obtain⟨b,n,r,c,hz⟩:=I.lst hp;obtain⟨h1,h2,f,h4⟩:=Zio y;have hl:=r.length;have hn:=Jv;have e:Inv X a x (upd H p (.lst (l.set j v))) { s with heap:=s.heap.update p (Obj.mapSeq (·.setIfInBounds j u)) }:=
  I.Ztr hp c (Zg7 b n j u) (r.set w j) (by rw[List.length_set];exact hz) s.toks
 by_cases d:0<=k
 ·have hk:k.toNat=j:=by
   rw[seqIndex_of d h4]at h1;exact Option.some.inj h1
  exact W.ki_setAt c d δ (by rw[List.size_toArray,<- hl];exact h4) (by rw[hk];exact⟨_,e,q⟩)
 ·have hk:(k+(b.toArray.size:Int)).toNat=j:=by
   rw[seqIndex_neg δ f]at h1;rw[List.size_toArray,<- hl];exact Option.some.inj h1
  exact W.ki_setBack c δ (by rw[List.size_toArray,<- hl];exact f) δ (by rw[hk];exact⟨_,e,q⟩)
theorem Zc(lo a:AA)(n:Nat):(sliceBounds lo a none n).1=((HT.lK n 0 lo:Nat):Int)/\(sliceBounds lo a none n).2.1=((HT.lK n n a:Nat):Int)/\(sliceBounds lo a none n).2.2=1:=by
 refine⟨?_,?_,rfl⟩
 ·cases lo with
  | none=>simp[sliceBounds,HT.lK]
  | some i=>
   simp only[sliceBounds,HT.lK,Option.getD_none,show(1:Int) > 0 by decide,if_true]
   by_cases h:i<0
   ·simp only[h,if_true]<;>omega
   ·simp only[h,if_false]<;>omega
 ·cases a with
  | none=>simp[sliceBounds,HT.lK]
  | some i=>
   simp only[sliceBounds,HT.lK,Option.getD_none,show(1:Int) > 0 by decide,if_true]
   by_cases h:i<0
   ·simp only[h,if_true]<;>omega
   ·simp only[h,if_false]<;>omega
theorem U5(a:AC)(lo b:AA):slicePick a.toArray lo b none=((a.drop (HT.lK a.length 0 lo)).take (HT.lK a.length a.length b - HT.lK a.length 0 lo)).toArray:=by
 obtain⟨h1,h2,c⟩:=Zc lo b a.toArray.size;unfold slicePick;rw[h1,h2,c];simp only[sliceRange_one,pick_run,List.size_toArray]<;>rfl
def Zpo(K:aB):V->AA->AA->Hp->VK->Prop:=λx lo b H Q=>∃a xs,x=.ref a/\bN K H a xs/\∀p,H p=none->Q (.ref p) (upd H p (.lst (Ae xs lo b)))
theorem Zd:SlR X (Zpo X.K):=by
 intro f s p H x v m n lo e sl Q I j hs l i h;obtain⟨a,c,rfl,hx,q⟩:=h;cases j;obtain⟨k,r,g,hz⟩:=I.list hx;have d:=r.length;refine⟨"list",_,slot_list_getitem.lookup,g.isList.typeIs,?_⟩;refine wpAny_getItem_list_slice g.isList hs l i .none ζ ?_ (by rw[List.size_toArray]<;>omega);rw[U5,<- d];refine⟨.ref s.heap.objs.size,_,I.laid (t':=s.toks) (o:=.lst (Ae c lo e)) (λb ob q=>Heap.get?_push_of_some _ q) Δ ?_,rfl,q _ (I.hok.fresh Δ)⟩;exact⟨Nat.le_trans (NP c lo e) hz,_,0,(r.drop (HT.lK c.length 0 lo)).take (HT.lK c.length c.length e - HT.lK c.length 0 lo),Heap.get?_push_size _ rfl⟩
def lW:V->Bool
 | .non=>true
 | .bl _=>true
 | .int _=>true
 | .str _=>true
 | _=>false
def Ys:V->V->Bool
 | .non,.non=>true
 | .bl a,.bl b=>a == b
 | .bl a,.int b=>(if a then 1 else 0) == b
 | .int a,.bl b=>a == (if b then 1 else 0)
 | .int a,.int b=>a == b
 | .str a,.str b=>a == b
 | _,_=>false
theorem wj{A:Around}{s:AK}{y x:V}{u v:AJ}(f:RelV y u)(c:RelV x v)(g:lW y=true)(e:lW x=true):SeqAt.EqAt A s u v (Ys y x):=by
 cases y with
 | non=>
  cases f;cases x with
  | non=>cases c;exact SeqAt.EqAt.same _
  | bl b=>cases c;exact SeqAt.EqAt.none_bool b
  | int b=>obtain⟨t,rfl⟩:=c;exact SeqAt.EqAt.none_int b t
  | str b=>obtain⟨t,rfl⟩:=c;exact SeqAt.EqAt.none_str b t
  | _=>exact absurd (show false=true from e) Bool.false_ne_true
 | bl a=>
  cases f;cases x with
  | non=>cases c;exact SeqAt.EqAt.bool_none a
  | bl b=>cases c;exact SeqAt.EqAt.bool_bool a b
  | int b=>obtain⟨t,rfl⟩:=c;exact SeqAt.EqAt.bool_int a b t
  | str b=>obtain⟨t,rfl⟩:=c;exact SeqAt.EqAt.bool_str a b t
  | _=>exact absurd (show false=true from e) Bool.false_ne_true
 | int a=>
  obtain⟨d,rfl⟩:=f;cases x with
  | non=>cases c;exact SeqAt.EqAt.int_none a d
  | bl b=>cases c;exact SeqAt.EqAt.int_bool a d b
  | int b=>obtain⟨t,rfl⟩:=c;exact SeqAt.EqAt.int_int a d b t
  | str b=>obtain⟨t,rfl⟩:=c;exact SeqAt.EqAt.int_str a d b t
  | _=>exact absurd (show false=true from e) Bool.false_ne_true
 | str a=>
  obtain⟨d,rfl⟩:=f;cases x with
  | non=>cases c;exact SeqAt.EqAt.str_none a d
  | bl b=>cases c;exact SeqAt.EqAt.str_bool a d b
  | int b=>obtain⟨t,rfl⟩:=c;exact SeqAt.EqAt.str_int a d b t
  | str b=>obtain⟨t,rfl⟩:=c;exact SeqAt.EqAt.str_str a d b t
  | _=>exact absurd (show false=true from e) Bool.false_ne_true
 | _=>exact absurd (show false=true from g) Bool.false_ne_true
def eqU(x:V)(u:AJ):Bool:=match u with
 | .none=>Ys .non x
 | .bool b=>Ys (.bl b) x
 | .int i _=>Ys (.int i) x
 | .str z _=>Ys (.str z) x
 | _=>false
theorem Zop{x y:V}{u:AJ}(r:RelV y u)(f:lW y=true):eqU x u=Ys y x:=by
 cases y with
 | non=>cases r;rfl
 | bl b=>cases r;rfl
 | int i=>obtain⟨t,rfl⟩:=r;rfl
 | str z=>obtain⟨t,rfl⟩:=r;rfl
 | _=>exact absurd (show false=true from f) Bool.false_ne_true
theorem Ia{x:V}:∀{xs:List V}{us:AC},Vals xs us->xs.all lW=true->us.any (eqU x)=xs.any λy=>Ys y x
 | _,_,.nil,_=>rfl
 | y::xs,u::us,.cons r t,f=>by
  rw[List.all_cons,Bool.and_eq_true]at f;rw[List.any_cons,List.any_cons,Zop r f.1,Ia t f.2]
theorem yM{A:Around}{s:AK}{x:V}{v:AJ}(b:RelV x v)(a:lW x=true):∀{xs:List V}{us:AC},Vals xs us->xs.all lW=true->∀u∈us,SeqAt.EqAt A s u v (eqU x u)
 | _,_,.nil,_=>λu hu=>by cases hu
 | y::xs,u::us,.cons r t,f=>λc hu=>by
  rw[List.all_cons,Bool.and_eq_true]at f;rcases List.mem_cons.mp hu with rfl | hu
  ·rw[Zop r f.1];exact wj r b f.1 a
  ·exact yM b a t f.2 c hu
def inV(x:V)(xs:List V):Bool:=xs.any λy=>Ys y x
def rIn(K:aB)(a:Bool):R2:=λx y H Q=>∃p xs,y=.ref p/\(bN K H p xs\/dR K H p xs)/\lW x=true/\xs.all lW=true/\Q (.bl (if a then !inV x xs else inV x xs)) H
theorem zV:tK X (compareOp .In) (rIn X.K false):=by
 intro f s j H x y v u Q I e g h;obtain⟨p,i,rfl,hq,d,fs,q⟩:=h;cases g;rcases hq with hq | hq
 ·obtain⟨a,r,c,hz⟩:=I.list hq;refine SeqAt.in_listAt (eqU x) c.isList (λw b=>yM e d r fs w (by simpa using b)) ⟨.bl _,H,I,rfl,?_⟩;rw[show a.toArray.any (eqU x)=a.any (eqU x) by simp,Ia r fs];exact q
 ·obtain⟨a,r,c,hz⟩:=I.tuple hq;refine SeqAt.in_tupleAt (eqU x) c (λw b=>yM e d r fs w (by simpa using b)) ⟨.bl _,H,I,rfl,?_⟩;rw[show a.toArray.any (eqU x)=a.any (eqU x) by simp,Ia r fs];exact q
theorem Gr:tK X (compareOp .NotIn) (rIn X.K true):=by
 intro f s j H x y v u Q I e g h;obtain⟨p,i,rfl,hq,d,fs,q⟩:=h;cases g;rcases hq with hq | hq
 ·obtain⟨a,r,c,hz⟩:=I.list hq;refine SeqAt.notIn_listAt (eqU x) c.isList (λw b=>yM e d r fs w (by simpa using b)) ⟨.bl _,H,I,rfl,?_⟩;rw[show a.toArray.any (eqU x)=a.any (eqU x) by simp,Ia r fs];exact q
 ·obtain⟨a,r,c,hz⟩:=I.tuple hq;refine SeqAt.notIn_tupleAt (eqU x) c (λw b=>yM e d r fs w (by simpa using b)) ⟨.bl _,H,I,rfl,?_⟩;rw[show a.toArray.any (eqU x)=a.any (eqU x) by simp,Ia r fs];exact q
theorem Zaw:Im X (.builtin "len") (λxs H Q=>∃p b,xs=[.ref p]/\(bN X.K H p b\/dR X.K H p b)/\Q (.int b.length) H):=by
 intro f s i H xs us Q I r h;obtain⟨p,b,rfl,hq,q⟩:=h;obtain⟨u,rfl,g⟩:=vals1 r;cases g;have hn:=Jv;rcases hq with hq | hq
 ·obtain⟨d,e,c,hz⟩:=I.list hq;have a:=e.length;exact Calls.call_len_list c.isList (by simp only[List.size_toArray]<;>omega) ⟨.int b.length,H,I.tok _,⟨s.toks+1,by rw[List.size_toArray,a]⟩,q⟩
 ·obtain⟨d,e,c,hz⟩:=I.tuple hq;have a:=e.length;exact len_tuple c (by simp only[List.size_toArray]<;>omega) ⟨.int b.length,H,I.tok _,⟨s.toks+1,by rw[List.size_toArray,a]⟩,q⟩
theorem wu:Im X (.type "list") (λxs H Q=>∃p g,xs=[.ref p]/\(bN X.K H p g\/dR X.K H p g)/\∀l,H l=none->Q (.ref l) (upd H l (.lst g))):=by
 intro i s x H xs us Q I r h;obtain⟨p,g,rfl,hq,q⟩:=h;obtain⟨u,rfl,v⟩:=vals1 r;cases v;have fin:∀(a:AC),Vals g a->g.length<=sizeLine->∀(c:Heap) (d:Nat),(∀b t,s.heap.get? b=some t->c.get? b=some t)->
   c.get? s.heap.objs.size=some { cls:=.type "list",dict:=none,data:=.seq a.toArray d,slots:=#[] }->EP X i x Q (.ref s.heap.objs.size) { s with heap:=c }:=λa f hz c d kp e=>
  ⟨.ref s.heap.objs.size,_,I.laid (t':=s.toks) kp Δ (show gY X.prog X.w _ c _ (.lst g)from⟨hz,a,d,f,e⟩),rfl,q _ (I.hok.fresh Δ)⟩
 rcases hq with hq | hq
 ·obtain⟨a,f,k,hz⟩:=I.list hq;have j:=f.length;obtain⟨o,m,hc,n,hd⟩:=k.isList;exact call_list_seq p (.inl rfl) m hc hd (λc d kp e=>fin a f hz c d kp e) (by simp only[List.size_toArray]<;>omega)
 ·obtain⟨a,f,k,hz⟩:=I.tuple hq;have j:=f.length;obtain⟨o,m,hc,n,hd⟩:=k;exact call_list_seq p (.inr rfl) m hc hd (λc d kp e=>fin a f hz c d kp e) (by simp only[List.size_toArray]<;>omega)
def tyV(K:aB)(T:String)(x:V)(H:Hp):Prop:=match x with
 | .str _=>T="str"
 | .int _=>T="int"
 | .ref p=>(T="list"/\∃xs,bN K H p xs)\/(T="tuple"/\∃o,K.lookup p=some o/\o.cls=.type "tuple"/\o.dict=none)\/
   (T="dict"/\((∃a,H p=some (.dK a))\/∃a,H p=some (.dT a)))\/(T="set"/\∃S n,H p=some (.set S n))
 | _=>False
theorem Zll{b:At}{σ:St}{H:Hp}{s:AK}{T:String}{x:V}{v:AJ}(I:Inv X b σ H s)(r:RelV x v)(ty:tyV X.K T x H):
  s.TypeIs v T/\∀a,v=.ref a->∃ob,s.heap.get? a=some ob/\ob.dict=none:=by
 cases x with
 | str z=>
  obtain⟨t,rfl⟩:=r;cases (show T="str" from ty);exact⟨typeIs_str s z t,λ_ e=>nomatch e⟩
 | int i=>
  obtain⟨t,rfl⟩:=r;cases (show T="int" from ty);exact⟨typeIs_int s i t,λ_ e=>nomatch e⟩
 | ref p=>
  cases r;rcases ty with ⟨rfl,j,hq⟩ | ⟨rfl,o,hk,hc,hd⟩ | ⟨rfl,hk⟩ | ⟨rfl,S,n,hk⟩
  ·obtain⟨h,_,g,_⟩:=I.list hq;refine⟨g.isList.typeIs,λa e=>?_⟩;cases e;obtain⟨o,n,e,c,hd,_⟩:=g;exact⟨o,e,hd⟩
  ·refine⟨⟨o,I.yV p o hk,hc⟩,λa e=>?_⟩;cases e;exact⟨o,I.yV _ o hk,hd⟩
  ·have z:∃o,s.heap.get? p=some o/\o.ExactDict:=by
    rcases hk with ⟨f,hk⟩ | ⟨f,hk⟩
    ·obtain⟨_,_,_,_,o,_,_,e,ex,_⟩:=I.hok p _ hk;exact⟨o,e,ex⟩
    ·obtain⟨_,_,_,_,o,_,_,e,ex,_⟩:=I.hok p _ hk;exact⟨o,e,ex⟩
   obtain⟨o,e,ex⟩:=z;refine⟨⟨o,e,ex.1⟩,λa d=>?_⟩;cases d;exact⟨o,e,ex.2.1⟩
  ·obtain⟨o,_,_,_,e,ex,_⟩:=I.hok p _ hk;refine⟨⟨o,e,ex.1⟩,λa d=>?_⟩;cases d;exact⟨o,e,ex.2.1⟩
 | _=>exact False.elim ty
def Zsq(K:aB)(T:String)(r:V->List V->Hp->VK->Prop)(to:TE):TE:=λσ H Q=>to σ H λx a=>tyV K T x a/\r x [] a Q
def tBM(K:aB)(T:String)(r:V->List V->Hp->VK->Prop)(to:TE)(t:TA):TE:=λσ H Q=>to σ H λx a=>tyV K T x a/\t σ a λxs b=>r x xs b Q
variable {o e:AN}{es:AG}{to:TE}{t:TA}{name:Str}{apos cpos:Pos}{T id:String}{r:V->List V->Hp->VK->Prop}
theorem Zt8(g:PlainAttrs T)(slot:Slot T name id)(d:typeOf (.builtin id)=pure (.type "method_descriptor"))(hm:MtR X id r)(i:PE X o to)
  (b:attributeBase o name X.env (eval o X.env)=eval o X.env:=by rfl) (c:(apos.endLine == cpos.line)=true:=by rfl):PE X (.Call (.Attribute o name apos) [] [] cpos) (Zsq X.K T r to):=by
 intro a s e H Q I h;refine wpAny_Call_method0_late b c (fX (i a s e H _ I h) λv f qc=>?_);obtain⟨x,H1,I1,r1,ty,q1⟩:=qc;obtain⟨h1,h2⟩:=Zll I1 r1 ty;exact⟨T,id,g,slot,d,h1,h2,Calls.callWith_builtin rfl (PySem.evalArgs_none (hm a f e H1 x [] v [] Q I1 r1 .nil q1))⟩
theorem uJ(u:PlainAttrs T)(slot:Slot T name id)(g:typeOf (.builtin id)=pure (.type "method_descriptor"))(hm:MtR X id r)(w:PE X o to)(y:PA X (e::es) t)
  (d:attributeBase o name X.env (eval o X.env)=eval o X.env:=by rfl)
  (f:((backTo cpos (starEach (e::es) X.env)).all (λx=>!x.1) && (backToKw cpos (keywordEach [] X.env)).all (λx=>x.1.isSome)
   && decide ((e::es).length+([]:List Keyword).length+(if ([]:List Keyword).isEmpty then 0 else 1)<30))=true:=by rfl)
  (c:(apos.endLine == cpos.line)=true:=by rfl) (hs:starEach (e::es) X.env=(false,eval e X.env)::starEach es X.env:=by rfl) (b:(backTo cpos dQ).any (·.1)=false:=by rfl):
  PE X (.Call (.Attribute o name apos) (e::es) [] cpos) (tBM X.K T r to t):=by
 intro a s i H Q I h;refine wpAny_Call_method_late d f c rfl (fX (w a s i H _ I h) λv m qc=>?_);obtain⟨x,H1,I1,r1,ty,q1⟩:=qc;obtain⟨h1,h2⟩:=Zll I1 r1 ty;refine⟨T,id,u,slot,g,h1,h2,?_⟩;have j:=y cpos a m i H1 _ I1 q1;rw[hs]at j ⊢;refine Calls.callWith_builtin (by show(false || (backTo cpos (starEach es X.env)).any (·.1))=false;rw[b]<;>rfl) (Calls.evalArgs_plain ?_);exact fX j (by rintro us z ⟨p,q,l,k,n⟩;exact hm a z i q x p v us Q l r1 k n)
end
def MtM(X:Cx)(id:String)(r:V->List V->Hp->VK->Prop):Prop:=
 ∀(a:At) (s:AK) (σ:St) (H:Hp) (x:V) (xs:List V) (v:AJ) (us:AC) (Q:VK),Inv X a σ H s->RelV x v->Vals xs us->r x xs H Q->
  wpAny ς X.A (call (.builtin id) (v::us)) (EP X a σ Q) X.xe s
theorem Vals.one:∀{x:V}{us:AC},Vals [x] us->∃u,us=[u]/\RelV x u
 | _,_,.cons r .nil=>⟨_,rfl,r⟩
theorem Vals.zero:∀{us:AC},Vals [] us->us=[]
 | _,.nil=>rfl
theorem Vals.dropLast{xs:List V}{us:AC}(h:Vals xs us):Vals xs.dropLast us.dropLast:=by
 induction h with
 | nil=>exact .nil
 | cons r t a=>
  cases t with
  | nil=>exact .nil
  | cons q b=>exact .cons r a
theorem Vals.eraseIdx:∀{xs:List V}{us:AC} (i:Nat),Vals xs us->Vals (xs.eraseIdx i) (us.eraseIdx i)
 | _,_,_,.nil=>.nil
 | _,_,0,.cons _ t=>t
 | _,_,i+1,.cons r t=>.cons r (Vals.eraseIdx i t)
theorem Vals.rep{xs:List V}{us:AC}(h:Vals xs us):∀k:Nat,Vals (List.replicate k xs).flatten (List.replicate k us).flatten
 | 0=>.nil
 | k+1=>by
  rw[List.replicate_succ,List.replicate_succ,List.flatten_cons,List.flatten_cons];exact Vals.append h (Vals.rep h k)
theorem Zgy{c:Type}(l:List c):l.eraseIdx (l.length - 1)=l.dropLast:=by
 induction l with
 | nil=>rfl
 | cons a r d=>
  cases r with
  | nil=>rfl
  | cons b r=>
   have e:(a::b::r).length - 1=((b::r).length - 1)+1:=by
    have h1:(a::b::r).length=r.length+2:=rfl;have h2:(b::r).length=r.length+1:=rfl;omega
   rw[e,List.eraseIdx_cons_succ,d]
   all_goals rfl
theorem XR{a:Type}:∀(l:List a) (i:Nat),(l.eraseIdx i).length<=l.length
 | [],_=>Nat.le_refl _
 | _::_,0=>Nat.le_succ _
 | _::r,i+1=>Nat.succ_le_succ (XR r i)
theorem foldl_rep(a:AC):∀(k:Nat) (acc:AC),
  List.foldl (λc b=>c++b) acc.toArray (List.replicate k a.toArray)=(acc++(List.replicate k a).flatten).toArray
 | 0,acc=>ζ
 | k+1,acc=>by
  have e:acc.toArray++a.toArray=(acc++a).toArray:=ζ
  have d:(acc++a)++(List.replicate k a).flatten=acc++(List.replicate db a).flatten:=by
   rw[List.replicate_succ,List.flatten_cons,List.append_assoc]
  rw[<- d,<- foldl_rep a k (acc++a),<- e,List.replicate_succ,List.foldl_cons]
section
variable {X:Cx}{pins:At}{σ:St}{H:Hp}{s:AK}{l b:AI}{xs ys zs:List V}
theorem Inv.Zqc{a its':AC}{n:Nat}{f:Array AJ->Array AJ}{t':Nat}(I:Inv X pins σ H s)(c:H l=some (.lst xs))
  (e:s.heap.get? l=some { cls:=.type "list",data:=.seq a.toArray n }) (b:f a.toArray=its'.toArray) (hv:Vals ys its') (hz:ys.length<=sizeLine):
  Inv X pins σ (upd H l (.lst ys)) { s with heap:=s.heap.update l (Obj.mapSeq f),toks:=t' }:=by
 have q:=PySem.IsL.update e f;rw[b]at q;refine I.write (x:=l) (e:=l) (by rw[c];exact trivial) (.inl rfl) (λd u hb hu=>(Heap.get?_update_other s.heap (Obj.mapSeq f) (Ne.symm hb)).trans hu) ⟨_,q⟩ ?_;exact⟨hz,its',_,hv,q⟩
theorem Inv.Zwf{a:AC}{t':Nat}(I:Inv X pins σ H s)(hv:Vals ys a)(hz:ys.length<=sizeLine):
  Inv X pins σ (upd H s.heap.objs.size (.lst ys)) { s with heap:=s.heap.push { cls:=.type "list",data:=.seq a.toArray },toks:=t' }:=
 I.laid (λ_ _ q=>Heap.get?_push_of_some _ q) Δ ⟨hz,a,0,hv,Heap.get?_push_size _ rfl⟩
theorem Inv.fresh(I:Inv X pins σ H s):H s.heap.objs.size=none:=I.hok.fresh Δ
theorem Inv.Zdl(I:Inv X pins σ H s)(b:H l=some (.lst xs)):xs.length<=sizeLine/\∃(a:AC) (n:Nat),Vals xs a/\xs.length=a.length/\s.heap.get? l=some { cls:=.type "list",data:=.seq a.toArray n }:=by
 obtain⟨z,a,n,r,e⟩:=I.hok l _ b;exact⟨z,a,n,r,r.length,e⟩
theorem Zd4{n:Nat}(h:n<=sizeLine):Builtin.List.listTooLong n=false:=by
 unfold Builtin.List.listTooLong;exact decide_eq_false δ
end
section
variable {X:Cx}
def lH:V->List V->Hp->VK->Prop:=λx vs H Q=>∃l xs y,x=.ref l/\vs=[y]/\H l=some (.lst xs)/\xs.length<sizeLine/\Q .non (upd H l (.lst (xs++[y])))
theorem kJ:MtM X "list.append" lH:=by
 intro b s k H x j v us Q I d g h;obtain⟨l,i,y,rfl,rfl,c,hz,q⟩:=h;cases d;obtain⟨u,rfl,f⟩:=g.one;obtain⟨z,a,n,r,hl,e⟩:=I.Zdl c;refine call_meets F.slot_list_append ⟨_,e,rfl⟩ F.entry_list_append (F.args_list_append_2 _ _) (PySem.list_append l a.toArray n u (by rw[List.size_toArray];omega)) ⟨e,?_⟩;refine⟨.non,_,I.Zqc (its':=a++[u]) c e ζ (r.append (.cons f .nil)) ?_,rfl,q⟩;rw[List.length_append,List.length_singleton];omega
def O6:V->List V->Hp->VK->Prop:=λx vs H Q=>∃l b xs a,x=.ref l/\vs=[.ref b]/\H l=some (.lst xs)/\H b=some (.lst a)/\xs.length+a.length<=sizeLine/\Q .non (upd H l (.lst (xs++a)))
theorem Jr:MtM X "list.extend" O6:=by
 intro g s C H x A v us Q I m w h;obtain⟨l,b,y,B,rfl,rfl,i,t,hz,q⟩:=h;cases m;obtain⟨u,rfl,p⟩:=w.one;cases p;obtain⟨z,c,n,r,hl,e⟩:=I.Zdl i;obtain⟨D,a,n2,j,k,o⟩:=I.Zdl t;have d:c.toArray.size+a.toArray.size<=sizeLine:=by rw[List.size_toArray,List.size_toArray];omega
 have f:¬ (!c.toArray.isEmpty && Builtin.List.listTooLong (c.toArray.size+a.toArray.size))=true:=by
  rw[Zd4 d,Bool.and_false];exact Bool.false_ne_true
 refine call_meets F.slot_list_extend ⟨_,e,rfl⟩ F.entry_list_extend (F.args_list_extend_2 _ _)
  (AutoSeq1.list_extend_list_list_0 l c.toArray n b a.toArray n2 f (by rw[List.size_toArray];omega) δ) ⟨e,o,?_⟩
 refine⟨.non,_,I.Zqc (its':=c++a) i e ζ (r.append j) ?_,rfl,q⟩;rw[List.length_append];omega
def Zvv:V->List V->Hp->VK->Prop:=λx vs H Q=>∃l xs y,x=.ref l/\vs=[]/\H l=some (.lst xs)/\xs[xs.length - 1]? =some y/\Q y (upd H l (.lst xs.dropLast))
theorem Ztn:MtM X "list.pop" Zvv:=by
 intro d s o H x m v us Q I g j h;obtain⟨l,k,y,rfl,rfl,f,hy,q⟩:=h;cases g;have b:=j.zero;subst b;obtain⟨z,a,n,r,hl,e⟩:=I.Zdl f;obtain⟨u,hu,i⟩:=r.get hy;have c:a.toArray[a.toArray.size - 1]? =some u:=by
  show a.toArray[a.length - 1]? =some u;rw[<- Array.getElem?_toList,<- hl];exact hu
 refine call_meets F.slot_list_pop ⟨_,e,rfl⟩ F.entry_list_pop (F.args_list_pop_1 _) (MeetsSeq.list_pop_last l a.toArray n u c (by rw[List.size_toArray];omega)) ⟨e,?_⟩;refine⟨y,_,I.Zqc (its':=a.dropLast) f e ?_ r.dropLast ?_,i,q⟩
 ·show a.toArray.eraseIdxIfInBounds (a.toArray.size - 1)=a.dropLast.toArray;rw[List.size_toArray,List.eraseIdxIfInBounds_toArray,Zgy]
 ·rw[List.length_dropLast];omega
def Zma:V->List V->Hp->VK->Prop:=λx vs H Q=>∃l xs i k y,x=.ref l/\vs=[.int i]/\H l=some (.lst xs)/\-(2 ^ 63)<=i/\i<2 ^ 63/\seqIndex? i xs.length=some k/\xs[k]? =some y/\Q y (upd H l (.lst (xs.eraseIdx k)))
theorem Znd:MtM X "list.pop" Zma:=by
 intro c s A H x p v us Q I g m h;obtain⟨l,f,i,k,y,rfl,rfl,d,h1,h2,hk,hy,q⟩:=h;cases g;obtain⟨u,rfl,j⟩:=m.one;obtain⟨t,rfl⟩:=j;obtain⟨z,a,n,r,hl,e⟩:=I.Zdl d;obtain⟨w,o,b⟩:=r.get hy;refine call_meets F.slot_list_pop ⟨_,e,rfl⟩ F.entry_list_pop (F.args_list_pop_2 _ _)
  (MeetsSeq.list_pop_at l a.toArray n i t k w (fitsIndex_both h1 h2) (by rw[List.size_toArray,<- hl];exact hk) (by rw[<- Array.getElem?_toList];exact o) (by rw[List.size_toArray];omega)) ⟨e,?_⟩
 refine⟨y,_,I.Zqc (its':=a.eraseIdx k) d e ?_ (r.eraseIdx k) ?_,b,q⟩
 ·show a.toArray.eraseIdxIfInBounds k=(a.eraseIdx k).toArray;rw[List.eraseIdxIfInBounds_toArray]
 ·have:=XR f k;omega
def nQ:R2:=λx y H Q=>∃l b xs a,x=.ref l/\y=.ref b/\H l=some (.lst xs)/\H b=some (.lst a)/\xs.length+a.length<=sizeLine/\∀p,H p=none->Q (.ref p) (upd H p (.lst (xs++a)))
theorem ju:tK X (binaryOp .Add) nQ:=by
 intro d s A H x y v u Q I i o h;obtain⟨l,b,t,w,rfl,rfl,p,k,hz,q⟩:=h;cases i;cases o;obtain⟨z,c,n,r,hl,e⟩:=I.Zdl p;obtain⟨B,a,n2,f,g,j⟩:=I.Zdl k;refine PySem.P.add_list e j ?_ (by rw[List.size_toArray,List.size_toArray];omega);have m:c.toArray++a.toArray=(c++a).toArray:=ζ
 rw[m];exact⟨.ref _,_,I.Zwf (t':=s.toks) (r.append f) (by rw[List.length_append];omega),rfl,q _ I.fresh⟩
def Zcl:R2:=λx y H Q=>∃l k xs,x=.ref l/\y=.int k/\H l=some (.lst xs)/\-(2 ^ 63)<=k/\k<2 ^ 63/\xs.length * k.toNat<=sizeLine/\
 ∀p,H p=none->Q (.ref p) (upd H p (.lst (List.replicate k.toNat xs).flatten))
theorem len_rep{a:Type}(xs:List a)(k:Nat):(List.replicate k xs).flatten.length=k * xs.length:=by
 induction k with
 | zero=>simp
 | succ k b=>rw[List.replicate_succ,List.flatten_cons,List.length_append,b,Nat.succ_mul,Nat.add_comm]
theorem Q5:tK X (binaryOp .Mult) Zcl:=by
 intro p s J H x y v u Q I w B h;obtain⟨l,k,E,rfl,rfl,C,h1,h2,hz,q⟩:=h;cases w;obtain⟨t,rfl⟩:=B;obtain⟨z,b,n,r,hl,e⟩:=I.Zdl C;have f:b.toArray.size * k.toNat<=sizeLine:=by rw[List.size_toArray,<- hl];exact hz
 have g:¬ b.toArray.size * k.toNat > (2 ^ 63 - 1) / 8:=by
  have:(sizeLine:Nat)<=(2 ^ 63 - 1) / 8:=ε
  omega
 have c:¬ (!Builtin.List.listFitsIndex k)=true:=by
  rw[fitsIndex_both h1 h2];exact Bool.false_ne_true
 have j:¬ Builtin.List.listTooLong (b.toArray.size * k.toNat)=true:=by
  rw[Zd4 f];exact Bool.false_ne_true
 have d:List.foldl (λo i=>o++i) #[] (List.replicate (if b.toArray.isEmpty=true then 0 else k.toNat) b.toArray)=(List.replicate k.toNat b).flatten.toArray:=by
  have D:∀m:Nat,List.foldl (λo i=>o++i) #[] (List.replicate m b.toArray)=(List.replicate m b).flatten.toArray:=λm=>by
   have:=foldl_rep b m [];rw[List.nil_append]at this;exact this
  rw[D];cases b with
  | nil=>simp
  | cons a K=>rw[if_neg ζ]
 refine wpAny_binaryOp_repeat_ref (T:="list") (U:="int") ε ⟨_,e,rfl⟩ (λA=>typeIs_int A k t) noFill_list_mul F.fills_int_mul F.slot_int_rmul repeat_list F.slot_int_index.lookup
  (call_meets F.slot_int_rmul (typeIs_int s k t) F.entry_int_rmul (F.args_int_rmul_2 _ _) (int___rmul___int_list k t l b.toArray n)
   ⟨e,rfl,⟨_,e,rfl⟩,call_meets F.slot_list_mul ⟨_,e,rfl⟩ F.entry_list_mul (F.args_list_mul_2 _ _) (AutoListH.list___mul___list_int_3 l b.toArray n k t c g j) ⟨e,?_⟩⟩)
 rw[d];exact⟨.ref _,_,I.Zwf (t':=s.toks) (r.rep k.toNat) (by rw[len_rep,Nat.mul_comm];exact hz),rfl,q _ I.fresh⟩
end
section
variable {prog:AM}{w:AO}{A:Around}{E:Ap}{s:AK}
end
section
variable {X:Cx}
end
end L2
namespace Att
open PySem PySem.W PySem.Calls PyProof.Rows
theorem O2{P:Params}{h:Heap}:∀(ns:AE) (vs:AC),WellAll P h vs (ns.map WData.int)->IntsAre vs ns:=by
 intro ns
 induction ns with
 | nil=>
  intro vs w;rw[List.map_nil]at w;cases w;exact .nil
 | cons n ns c=>
  intro vs w;rw[List.map_cons]at w;cases w with
  | cons a b=>
   cases a;exact .cons _ _ (c _ b)
theorem Zju{l:OpenLaw}{n:Nat}(hn:l.most=some n){P:Params}{h:Heap}{b:List WData}{e:AC}
  (c:l.row.toRowW.claim.pre b=true) (i:WellAll P h e b):
  ∃a vs ns,e=[Value.ref a]/\b=[WData.list (ns.map WData.int)]/\h.get? a=some { cls:=.type "list",data:=.seq vs.toArray }/\IntsAre vs ns/\ns.length<=n:=by
 have j:WShape.hasAll [] b [.list .int]=true:=(pre_splitW c).1;have hc:l.pre.holds [] { args:=b }=true:=(pre_splitW c).2;obtain⟨d,r,rfl,h1,h2⟩:=hasAllW_cons j;obtain rfl:=hasAllW_nil h2;obtain⟨t,rfl,s⟩:=hasW_list h1;obtain⟨ns,rfl⟩:=items_int s;have g:ns.length<=n:=by
  unfold OpenLaw.pre at hc;have h4:(WTm.not (.lt (.lit (.int (n:Int))) (.len (.arg 0)))).holds [] { args:=[.list (ns.map .int)] }=true:=by
   have h4:=(holds_andW hc).1;rw[hn]at h4;exact h4
  have h5:=condW_of h4 (w_not (w_lt w_lit (w_len_list (w_arg rfl))));rw[aR]at h5;refine Nat.le_of_not_lt λq=>?_;have o:(n:Int)<((ns.length:Nat):Int):=δ
  first
   | (rw[decide_eq_true o]at h5;exact absurd h5 ε)
   | (simp at h5;omega)
 cases i with
 | cons k m=>
  cases m;cases k with
  | list p f=>exact⟨_,_,ns,rfl,rfl,p,O2 ns _ f,g⟩
theorem Zjy(l:OpenLaw)(a:List WData):l.row.toRowW.claim.post a (.bool true) a=true:=
 postW_of (r:=l.row.toRowW) (X:=(true == true))
  (show WShape.has [] (.bool true) .bool=true by first | rfl | decide | simp[WShape.has,WShape.arms,WShape.armsAll])
  (show(WTm.eq .res (.lit (.bool true))).value [] { args:=a,res:=some (.bool true),after:=a }=some (.bool (true == true))from w_eq_bool (w_res rfl) w_lit) rfl
theorem Zeq{l:OpenLaw}{n:Nat}{q:AM}{c:AH}{C:(As)->Heap->Prop}{B:AO->Heap->Prop}{d:DefRec}
  (hn:l.most=some n) (p:d.params.defaults=[])
  (call:∀(w:AO) (s₀ b:AK) (mg v:As) (fa:AI) (o:Obj) (s k g:AJ) (a:AI) (vs:AC) (ns:AE),
   Ground q c [] C w s₀ mg v b.heap->B w b.heap->
   b.heap.get? fa=some o->o.data=.func (docDef d.name d.params d.body d.scope s k g)->b.heap.CodeRec k d.name->mg d.name=↑fa->
   b.heap.get? a=some { cls:=.type "list",data:=.seq vs.toArray }->IntsAre vs ns->ns.length<=n->b.gens=#[]->
   codeAny (model l.prog w) callerA (.call (.ref fa) ⟨[.ref a],[]⟩) (λr s'=>r=.ok (.ret (.bool true))/\OldK b.heap s'.heap/\s'.os=b.os/\AllBare s'.gens) b):
  WalkO q c C B l.row.toRowW d [] (λf vs=>PySem.call f vs):=by
 intro w s₀ b mg v G Y fa o s k g dV kV F hd u y t H x z J h A D m E;obtain rfl:dV=.none:=Dflts.none y p;obtain rfl:kV=.none:=Dflts.noKw y;obtain⟨a,vs,ns,rfl,rfl,i,e,j⟩:=Zju hn h m;refine enter_call (codeAny_mono (call w s₀ b mg v fa o s k g a vs ns G Y F (fd_plain hd) u t i e j H) λr s' hq=>?_);obtain⟨rfl,h2,I,h4⟩:=hq;exact⟨.inl ⟨.bool true,.bool true,[],rfl,λ_=>rfl,.bool true,Zjy l _,λ_=>⟨List.Pairwise.nil,λ_ hm=>(nomatch hm)⟩⟩,h2,I,h4⟩
section
variable {prog:AM}{w:AO}{A:Around}{E:Ap}{s:AK}{K:Frag}
end
end Att
namespace L2
open PySem PySem.Spec PyProof.Rows
theorem Wd:∀{vs:AC}{ns:AE},IntsAre vs ns->Vals ep vs
 | _,_,.nil=>.nil
 | _,_,.cons n t h=>.cons ⟨t,rfl⟩ (Wd h)
def Only(H:Hp):Prop:=∀b,H b=none\/∃o xs,H b=some (.vH o (.lst xs))
theorem Znr{P:AM}{w:AO}{K:aB}{mg I:As}{CX:CXT}{k:Nat}{fa a:AI}{fd:AL}{x:Str}{sp:Sp}{c:AK}{vs:AC}{ns:AE}
  (S:K.In c.heap) (C:c.heap.Ns mainGlobals mg) (hb:c.heap.Ns builtinsNs I) (L:∀x:Str,x≠"__name__"->I x=bootBuiltins x) (j:c.heap.NoLimit) (Z:c.gens=#[])
  (E:c.heap.get? a=some { cls:=.type "list",data:=.seq vs.toArray }) (T:IntsAre vs ns) (hl:ns.length<=sizeLine) (hr:Room k callerA)
  (F:∀base:Heap,K.In base->base.Ns mainGlobals mg->rD P w K mg base CX k fa fd [x] sp) (i:∀(s:AK) (u:AJ),BindsTo s fd ⟨[u],[]⟩ [(x,u)])
  (O:∀H:Hp,Only H->bN K H a ep->sp [.ref a] H (λv _=>v=.bl true) λ_ _ _=>False)
  (M:∀H e s',CX [] H c (λ_ _ _=>False) e s'->False):
  codeAny (model P w) callerA (.call (.ref fa) ⟨[.ref a],[]⟩) (λr s'=>r=.ok (.ret (.bool true))/\OldK c.heap s'.heap/\s'.os=c.os/\AllBare s'.gens) c:=by
 have W:=Wd T;have A:=T.length;have g:∀H:Hp,Only H->bN K H a ep->zN P w H c.heap->(∀b,H b≠none->b=a)->(H a≠none->K.lookup a=none)->
   codeAny (model P w) callerA (.call (.ref fa) ⟨[.ref a],[]⟩) (λr s'=>r=.ok (.ret (.bool true))/\OldK c.heap s'.heap/\s'.os=c.os/\AllBare s'.gens) c:=by
  intro H Q hS hok U hK;have p:∀{b:AI}{o:Obj},c.heap.get? b=some o->H b=none->(Zaq c.heap H).get? b=some o:=λe n=>Zo5 e n;have N:∀{b:AI}{o:Obj}{D:Array DictEntry}{y:Nat},c.heap.get? b=some o->o.data=.dict D y->H b=none:=λ{b o D y} e d=>by
   cases q:H b with
   | none=>rfl
   | some u=>
    have J:b=a:=U b (by rw[q];simp);subst J;rw[E]at e;cases e;have d':Data.seq vs.toArray _=Data.dict D y:=d;cases d'
  have f:∀{b:AI}{m:As},c.heap.Ns b m->(Zaq c.heap H).Ns b m:=λ{b m} ⟨o,D,y,e,d,r⟩=>⟨o,D,y,p e (N e d),d,r⟩;have l:K.In (Zaq c.heap H):=λb o e=>p (S b o e) (by
   cases q:H b with
   | none=>rfl
   | some u=>
    have J:b=a:=U b (by rw[q];simp);subst J;rw[hK (by rw[q];simp)]at e;cases e)
  have hM:Mod K mg (Zaq c.heap H):=⟨l,f C,⟨I,f hb,L⟩,let ⟨mc,h1,h2⟩:=j;⟨mc,f h1,h2⟩⟩;have e0:Zhu P w K mg (Zaq c.heap H) callerA [] c H:=⟨rfl,hM,λb o e=>Zq7 e,Nat.le_of_eq (Zkw _ _),trivial,λb hb=>absurd (show b∈([]:AF)from hb) ζ,hok,.of_eq Z⟩;refine codeAny_mono ((F _ l (f C)).run callerA [] c H ⟨[.ref a],[]⟩ [.ref a] [.ref a] _ _ hr e0 (i c (.ref a)) (.cons rfl .nil) (O H Q hS)) λr s' h=>?_;cases r with
  | error e=>exact(M H e s' h).elim
  | ok fl=>
   cases fl with
   | next=>exact False.elim h
   | brk=>exact False.elim h
   | cont=>exact False.elim h
   | ret u=>
    obtain⟨v,H',os,bare,un,B,r',q⟩:=h;have Y:v=.bl true:=q;subst Y;obtain rfl:u=Value.bool true:=r';refine⟨rfl,OldK.of_keep λb o e=>?_,os,bare⟩;cases q:H b with
    | none=>exact un.keep b o e q (by intro z;exact absurd (show b∈([]:AF)from z) ζ) ζ
    | some u=>
     rcases Q b with z | ⟨ob,xs,z⟩
     ·rw[q]at z;cases z
     ·have z2:=un.JK b ob _ z;obtain⟨R,_⟩:=hok b _ z;obtain⟨X,_⟩:=B b _ z2;rw[e]at R;cases R;exact X
 cases hk:K.lookup a with
 | some o=>
  have e:=S a o hk;rw[E]at e;cases e;refine g (λ_=>none) (λ_=>.inl rfl) (.inr ⟨_,vs.toArray,_,hk,rfl,rfl,rfl,by rw[List.size_toArray,A];exact hl,by simpa using W⟩) (λb u z=>by have t:(none:Option HO)=some u:=z;cases t) (λb z=>absurd rfl z) λz=>absurd rfl z
 | none=>
  refine g (λb=>if b=a then some (.vH { cls:=.type "list",data:=.seq vs.toArray } (.lst ep))else none) (λb=>?_) (.inl (.inr ⟨{ cls:=.type "list",data:=.seq vs.toArray },if_pos rfl⟩)) (λb u z=>?_) (λb z=>?_) λ_=>hk
  ·by_cases hb:b=a
   ·exact .inr ⟨_,_,if_pos hb⟩
   ·exact .inl (if_neg hb)
  ·by_cases hb:b=a
   ·have t:=(if_pos hb).symm.trans z;cases t;subst hb;exact⟨E,by rw[aR];exact hl,vs,_,W,E⟩
   ·have t:=(if_neg hb).symm.trans z;cases t
  ·by_cases hb:b=a
   ·exact hb
   ·exact absurd (if_neg hb) z
theorem Zpc{l:W.OpenLaw}{n k:Nat}{q:AM}{i:AH}{M:(As)->Heap->Prop}{B:AO->Heap->Prop}{d:DefRec}{K:Params->aB}{CX:AO->CXT}{sp:AO->Sp}{x:Str}
  (hn:l.most=some n) (A:n<=sizeLine) (t:d.params.defaults=[]) (hr:Room k callerA)
  (E:∀(w:AO) (h:Heap),B w h->(K w.params).In h)
  (F:∀(w:AO) (mg:As) (fa:AI) (h:Heap),(K w.params).In h->h.Ns mainGlobals mg->mg d.name=↑fa->
   ∃fd:AL,(∀(s:AK) (u:AJ),BindsTo s fd ⟨[u],[]⟩ [(x,u)])/\
    ∀base:Heap,(K w.params).In base->base.Ns mainGlobals mg->rD l.prog w (K w.params) mg base (CX w) k fa fd [x] (sp w))
  (y:∀(w:AO) (H:Hp) (a:AI) (ns:AE),ns.length<=n->Only H->bN (K w.params) H a ep->sp w [.ref a] H (λv _=>v=.bl true) λ_ _ _=>False)
  (r:∀(w:AO) (H:Hp) (s:AK) (e:AJ) (s':AK),CX w [] H s (λ_ _ _=>False) e s'->False):
  W.WalkO q i M B l.row.toRowW d [] (λf vs=>PySem.call f vs):=by
 refine Att.Zeq hn t λw s₀ m mg S fa o Q P O a vs ns G Y R hd N z p j c L=>?_;have C:=E w _ Y;obtain⟨fd,hb,J⟩:=F w mg fa _ C G.T.g z;exact Znr C G.T.g G.T.b G.T.builtins G.T.nolimit L p j (Nat.le_trans c A) hr J hb (λH D I=>y w H a ns c D I) λH e s'=>r w H m e s'
def inClass(s:Stmt)(j:Nat):Stmt:=match s with
 | .ClassDef _ _ _ a _ _ _ _ _ _ _=>a.getD j (.Pass ⟨0,0,0,0⟩)
 | _=>.Pass ⟨0,0,0,0⟩
def jB(s:Stmt):Arguments:=match s with
 | .FunctionDef _ a _ _ _ _ _ _ _ _=>a
 | _=>{ posonlyargs:=[],args:=[],vararg:=none,kwonlyargs:=[],kw_defaults:=[],kwarg:=none,defaults:=[] }
def gG(s:Stmt):List Stmt:=match s with
 | .FunctionDef _ _ b _ _ _ _ _ _ _=>b
 | _=>[]
def aG(s:Stmt):Scope:=match s with
 | .FunctionDef _ _ _ _ _ _ a _ _ _=>a
 | _=>{ kind:=.function,names:=[],isGenerator:=false,isCoroutine:=false }
abbrev E0:XK:=λ_ _ _=>False
structure Fun(K:aB)(x qual:Str)(st:Stmt)(f:AI)(fd:AL):Prop where
 ex:∃(oc:AJ) (od:Option AI) (kV doc pm:AJ) (an:Option AI) (cdv ct:AJ) (osl:Array AB),
  fd=W.fnOf x qual (jB st) (gG st) (aG st) .none kV doc pm an cdv ct/\K.lookup f=some ⟨oc,od,.func fd,osl⟩/\W.codeIn K cdv qual=true
 kp:W.keepIn K (.ref f)=true
section
variable {P:AM}{w:AO}{K:aB}{mg:As}{base:Heap}
theorem Fun.binds{x a:Str}{st:Stmt}{f:AI}{fd:AL}{ps:AH}(F:Fun K x a st f fd)
  (h:∀(kV c e:AJ) (d:Option AI) (b ct:AJ) (us:AC),us.length=ps.length->bindArgs (W.fnOf x a (jB st) (gG st) (aG st) .none kV c e d b ct) ⟨us,[]⟩=pure (ps.zip us)):Binds K fd ps []:=by
 obtain⟨oc,od,kV,c,e,d,b,ct,g,rfl,lk,i⟩:=F.ex;exact .all (h kV c e d b ct)
theorem Zod{x a:Str}{st:Stmt}{f:AI}{oc:AJ}{od g:Option AI}{e:Array AB}{kV d h b ct:AJ}(l:K.lookup f=some ⟨oc,od,.func (W.fnOf x a (jB st) (gG st) (aG st) .none kV d h g b ct),e⟩)
  (c:W.codeIn K b a=true) (k:W.keepIn K (.ref f)=true):Fun K x a st f (W.fnOf x a (jB st) (gG st) (aG st) .none kV d h g b ct):=⟨⟨oc,od,kV,d,h,g,b,ct,e,rfl,l,c⟩,k⟩
end
theorem jR{A:Around}{k:Nat}(hr:Room k A):A.units+1<cLine:=Nat.lt_of_le_of_lt (Nat.add_le_add_left (by decide:1<=64) _) hr.units
section
variable {X:Cx}
theorem pv(i:Nat){x:Str}{b:Pos}(c:X.N[i]? =some x:=by rfl)(hv:Vis X.env.scope x:=by first | exact Or.inl rfl | exact Or.inr (Or.inl rfl) | exact Or.inr (Or.inr rfl))(hd:(x == ("__debug__":Str))=false:=by decide)
  (a:(x == ("__classdict__":Str))=false:=by decide):PE X (.Name x b) (ak i):=Zmj c hv hd a
end
theorem Za8{A B:Prop}(h:B):if false=true then A else B:=by
 rw[if_neg Bool.false_ne_true];exact h
theorem Ze1{A B:Prop}(h:A):if true=true then A else B:=by
 rw[if_pos rfl];exact h
theorem Zu0{c A B:Prop} [Decidable c](h1:c->A)(h2:¬ c->B):if c then A else B:=by
 by_cases h:c
 ·rw[if_pos h];exact h1 h
 ·rw[if_neg h];exact h2 h
def aX(H H':Hp):Prop:=∀b o,H b=some o->H' b=some o
theorem aX.refl(H:Hp):aX H H:=λ_ _ h=>h
theorem aX.trans{H e d:Hp}(a:aX H e)(b:aX e d):aX H d:=λc o h=>b c o (a c o h)
theorem aX.free{H H':Hp}(e:aX H H'){l:AI}(h:H' l=Option.none):H l=Option.none:=by
 cases q:H l with
 | none=>rfl
 | some o=>
  rw[e l o q]at h;cases h
theorem aX.seq{K:aB}{H H':Hp}{a:AI}{xs:List V}(e:aX H H')(h:bN K H a xs):bN K H' a xs:=by
 rcases h with (h | ⟨o,h⟩) | h
 ·exact .inl (.inl (e _ _ h))
 ·exact .inl (.inr ⟨o,e _ _ h⟩)
 ·exact .inr h
section
variable {X:Cx}{pins:At}{σ:List (Option V)}{H H':Hp}{s:AK}{h':Heap}
end
section
variable {X:Cx}
variable {a b:AN}{ta tb:TE}{pos:Pos}
variable {tA tB':TT}{rest:AG}
end
section
variable {X:Cx}{a b c:AN}{ta tb tc:TE}{pos:Pos}
end
section
variable {prog:AM}{w:AO}{A:Around}{E:Ap}{s:AK}{K:aB}{x dx C f:AI}{mA:As}{name:Str}{v:AJ}
end
section
variable {X:Cx}{pins:At}{σ:St}{H:Hp}{s:AK}{a C dx:AI}{fs:List (Str×V)}{f:Str}{v:V}{A:Around}{E:Ap}
end
section
variable {X:Cx}{CX:CXT}{k:Nat}{f C:AI}{fd:AL}{ps:AH}{sp:Sp}{rC:List V}{ds:AC}{E:XK}{x m:Str}{p pos apos:Pos}{e o:AN}{es:AG}{ta:TE}{t:TA}
end
section
variable {X:Cx}{x:Str}{p pos:Pos}{e:AN}{es:AG}{t:TA}{id T:String}{r:List V->Hp->VK->Prop}
end
section
variable {κ:Type} [DecidableEq κ]
def jN(a:List (κ×V))(k:κ):Option V:=(a.find? λkv=>decide (kv.1=k)).map (·.2)
def putK(a:List (κ×V))(k:κ)(v:V):List (κ×V):=
 if (a.any λkv=>decide (kv.1=k))=true then a.map (λkv=>if kv.1=k then(kv.1,v)else kv)else a++[(k,v)]
theorem jD{p:κ×V}{r:List (κ×V)}{k:κ}(e:p.1=k):jN (p::r) k=some p.2:=by simp[jN,List.find?_cons,e]
theorem jE{p:κ×V}{r:List (κ×V)}{k:κ}(e:¬ p.1=k):jN (p::r) k=jN r k:=by simp[jN,List.find?_cons,e]
theorem xX(k:κ):∀a:List (κ×V),(a.any λkv=>decide (kv.1=k))=(jN a k).isSome
 | []=>rfl
 | p::r=>by
  rw[List.any_cons]
  by_cases e:p.1=k
  ·simp only[jD e,decide_eq_true e,Bool.true_or,Option.isSome_some]
  ·rw[jE e,decide_eq_false e,Bool.false_or];exact xX k r
theorem Zc3(k j:κ)(y:V):∀a:List (κ×V),jN (a.map λkv=>if kv.1=k then(kv.1,y)else kv) j=(jN a j).map λx=>if j=k then y else x
 | []=>rfl
 | p::r=>by
  have b:=Zc3 k j y r;rw[List.map_cons]
  by_cases h:p.1=k
  ·rw[if_pos h]
   by_cases e:p.1=j
   ·rw[jD (p:=(p.1,y)) e,jD e,Option.map_some,if_pos (e.symm.trans h)]
   ·rw[jE (p:=(p.1,y)) e,jE e,b]
  ·rw[if_neg h]
   by_cases e:p.1=j
   ·rw[jD (p:=p) e,jD e,Option.map_some,if_neg (λz=>h (e.trans z))]
   ·rw[jE (p:=p) e,jE e,b]
theorem We(k j:κ)(y:V):∀a:List (κ×V),jN a k=none->jN (a++[(k,y)]) j=if j=k then some y else jN a j
 | [],_=>by
  by_cases e:k=j
  ·rw[if_pos e.symm];exact jD (p:=(k,y)) e
  ·rw[if_neg (λz=>e z.symm)];exact jE (p:=(k,y)) e
 | p::r,hn=>by
  rw[List.cons_append];have hk:¬ p.1=k:=λz=>by rw[jD z]at hn;cases hn
  rw[jE hk]at hn;have b:=We k j y r hn
  by_cases e:p.1=j
  ·rw[jD e,jD e,if_neg (λz=>hk (e.trans z))]
  ·rw[jE e,jE e,b]
theorem Zli(b:List (κ×V))(k j:κ)(y:V):jN (putK b k y) j=if j=k then some y else jN b j:=by
 unfold putK
 by_cases a:(b.any λc=>decide (c.1=k))=true
 ·rw[if_pos a,Zc3];rw[xX]at a
  by_cases e:j=k
  ·obtain⟨x,hx⟩:=Option.isSome_iff_exists.mp a;rw[if_pos e,e,hx,Option.map_some,if_pos rfl]
  ·rw[if_neg e];cases jN b j with
   | none=>rfl
   | some x=>rw[Option.map_some,if_neg e]
 ·rw[if_neg a];refine We k j y b ?_;rw[xX]at a;cases q:jN b k with
  | none=>rfl
  | some x=>rw[q]at a;exact(a rfl).elim
theorem yS(a:List (κ×V))(k:κ)(v:V):(putK a k v).length<=a.length+1:=by
 unfold putK;split
 ·rw[aR];omega
 ·rw[List.length_append,List.length_cons,List.length_nil];omega
theorem Zmg{a:List (κ×V)}{k:κ}(v:V)(h:jN a k=none):putK a k v=a++[(k,v)]:=by
 unfold putK;rw[xX,h];exact if_neg ε
theorem xV.vf{o:Option V}{u:AB}(r:xV o u):o.isSome=u.isSome:=by
 cases o with
 | none=>cases u with
  | none=>rfl
  | some _=>exact(show False from r).elim
 | some _=>cases u with
  | none=>exact(show False from r).elim
  | some _=>rfl
theorem xV.getD{o:Option V}{u:AB}{d:V}{d':AJ}(r:xV o u)(a:RelV d d'):RelV (o.getD d) (u.getD d'):=by
 cases o with
 | none=>cases u with
  | none=>exact a
  | some _=>exact(show False from r).elim
 | some _=>cases u with
  | none=>exact(show False from r).elim
  | some _=>exact r
theorem KV.val{a:List (κ×V)}{vs:List (κ×AJ)}(r:KV a vs)(k:κ):xV (jN a k) (valueAt vs k):=by
 unfold KV at r
 induction r with
 | nil=>exact True.intro
 | @cons p q g d h t f=>
  obtain⟨h1,h2⟩:=h
  by_cases e:p.1=k
  ·have c:q.1=k:=h1.symm.trans e;have b:valueAt (q::d) k=some q.2:=by simp[valueAt,List.find?_cons,c]
   rw[jD e,b];exact h2
  ·have c:¬ q.1=k:=λz=>e (h1.trans z);have b:valueAt (q::d) k=valueAt d k:=by simp[valueAt,List.find?_cons,c]
   rw[jE e,b];exact f
theorem KV.any{a:List (κ×V)}{vs:List (κ×AJ)}(r:KV a vs)(k:κ):(a.any λkv=>decide (kv.1=k))=vs.any λkv=>decide (kv.1=k):=by
 unfold KV at r
 induction r with
 | nil=>rfl
 | cons h t b=>rw[List.any_cons,List.any_cons,b,h.1]
theorem KV.repl{a:List (κ×V)}{vs:List (κ×AJ)}(r:KV a vs)(k:κ){y:V}{u:AJ}(c:RelV y u):
  KV (a.map λkv=>if kv.1=k then(kv.1,y)else kv) (vs.map λkv=>if kv.1=k then(kv.1,u)else kv):=by
 unfold KV at r ⊢
 induction r with
 | nil=>exact .nil
 | @cons p q d f h t b=>
  rw[List.map_cons,List.map_cons];refine .cons ?_ b;obtain⟨h1,h2⟩:=h
  by_cases e:p.1=k
  ·rw[if_pos e,if_pos (h1.symm.trans e)];exact⟨h1,c⟩
  ·rw[if_neg e,if_neg (λz=>e (h1.trans z))];exact⟨h1,h2⟩
theorem KV.put{a:List (κ×V)}{vs:List (κ×AJ)}(r:KV a vs)(k:κ){y:V}{u:AJ}(b:RelV y u):KV (putK a k y) (stored vs k u):=by
 unfold putK stored;rw[r.any k]
 by_cases e:(vs.any λc=>decide (c.1=k))=true
 ·rw[if_pos e,if_pos e];exact r.repl k b
 ·rw[if_neg e,if_neg e];exact Paired.snoc r ⟨rfl,b⟩
theorem KV.length{a:List (κ×V)}{vs:List (κ×AJ)}(r:KV a vs):a.length=vs.length:=Paired.length r
end
theorem XX{P:AM}{w:AO}{k:Key}{u:AJ}(r:RelV (kV k) u):(dj P w).is k u=true:=by
 cases k with
 | inl i=>obtain⟨t,e⟩:=(show ∃t,u=Value.int i t from r);subst e;exact Zdi P w i t
 | inr x=>obtain⟨t,e⟩:=(show ∃t,u=Value.str x t from r);subst e;exact Zdh P w x t
theorem X3{P:AM}{w:AO}:∀{a:List Key}{us:AC},Vals (a.map kV) us->ItemsAre (dj P w) a us
 | [],_,r=>by rw[List.map_nil]at r;cases r;exact .nil
 | k::a,_,r=>by
  rw[List.map_cons]at r;cases r with
  | cons h t=>exact .cons (XX h) (X3 t)
abbrev KT(H:Hp):List (List Key×V)->List (List Key×AI×AJ)->Prop:=Paired λp q=>p.1=q.1/\H q.2.1=some (.tup (p.1.map kV))/\RelV p.2 q.2.2
theorem KT.val{H:Hp}{a:List (List Key×V)}{xs:List (List Key×AI×AJ)}(r:KT H a xs)(k:List Key):xV (jN a k) ((atKey xs k).map (·.2)):=by
 induction r with
 | nil=>exact True.intro
 | @cons p q g d h t f=>
  obtain⟨h1,_,h2⟩:=h
  by_cases e:p.1=k
  ·have c:q.1=k:=h1.symm.trans e;have b:atKey (q::d) k=some q.2:=by simp[atKey,List.find?_cons,c]
   rw[jD e,b];exact h2
  ·have c:¬ q.1=k:=λz=>e (h1.trans z);have b:atKey (q::d) k=atKey d k:=by simp[atKey,List.find?_cons,c]
   rw[jE e,b];exact f
theorem KT.repl{H:Hp}{a:List (List Key×V)}{xs:List (List Key×AI×AJ)}(r:KT H a xs)(k:List Key){y:V}{u:AJ}(c:RelV y u):
  KT H (a.map λkv=>if kv.1=k then(kv.1,y)else kv) (xs.map (putAt k u)):=by
 induction r with
 | nil=>exact .nil
 | @cons p q f g h t b=>
  rw[List.map_cons,List.map_cons];refine .cons ?_ b;obtain⟨h1,h2,d⟩:=h;unfold putAt
  by_cases e:p.1=k
  ·rw[if_pos e,if_pos (h1.symm.trans e)];exact⟨h1,h2,c⟩
  ·rw[if_neg e,if_neg (λz=>e (h1.trans z))];exact⟨h1,h2,d⟩
theorem KT.put{H:Hp}{a:List (List Key×V)}{xs:List (List Key×AI×AJ)}(r:KT H a xs)(k:List Key){b:AI}{y:V}{u:AJ}(hb:H b=some (.tup (k.map kV)))(c:RelV y u):
  KT H (putK a k y) (storedH xs k b u):=by
 have e:(a.any λd=>decide (d.1=k))=(atKey xs k).isSome:=by
  rw[xX,(r.val k).vf,Option.isSome_map]
 unfold putK storedH;rw[e]
 by_cases q:(atKey xs k).isSome=true
 ·rw[if_pos q,if_pos q];exact r.repl k c
 ·rw[if_neg q,if_neg q];exact Paired.snoc r ⟨rfl,hb,c⟩
theorem KT.keeps{H H':Hp}{a:List (List Key×V)}{xs:List (List Key×AI×AJ)}(r:KT H a xs)(d:∀b c,H b=some (.tup c)->H' b=some (.tup c)):KT H' a xs:=
 Paired.Ztp r λ_ _ z=>⟨z.1,d _ _ z.2.1,z.2.2⟩
section
variable {P:AM}{w:AO}{H:Hp}{h:Heap}{a:AI}
theorem Zrq{u:HO}(ok:zN P w H h)(e:Rd H a u):gY P w H h a u:=e.ok ok
theorem xQ{b:List eh}(ok:zN P w H h)(e:Rd H a (.dK b)):b.length<=sizeLine/\(a == sysModules)=false/\∃vs,KV b vs/\h.DictOf (dj P w) a vs:=
 show gY P w H h a (.dK b)from Zrq ok e
theorem Zsb{b:List eh}(ok:zN P w H h)(e:H a=some (.dK b)):b.length<=sizeLine/\(a == sysModules)=false/\∃vs,KV b vs/\h.DictOf (dj P w) a vs:=xQ ok (.inl e)
theorem JB{b:List Key}(ok:zN P w H h)(e:H a=some (.tup (b.map kV))):(tupleKind (dj P w)).is h b a:=by
 obtain⟨_,c,r,o,h1,h2,n,d⟩:=(show gY P w H h a (.tup (b.map kV))from ok a _ e);exact⟨o,c.toArray,n,h1,h2,d,by simpa using X3 r⟩
theorem Tn{b:List (List Key×V)}(ok:zN P w H h)(e:Rd H a (.dT b)):b.length<=sizeLine/\(a == sysModules)=false/\
  ∃xs,KT H b xs/\h.DictOfH (tupleKind (dj P w)) a xs:=by
 obtain⟨z,y,xs,r,o,g,d,h1,h2,f,h4,h5⟩:=(show gY P w H h a (.dT b)from Zrq ok e);refine⟨z,y,xs,r,o,g,d,h1,h2,f,h4,λx hx=>?_,h5⟩;have all:∀{l:List (List Key×V)}{m:List (List Key×AI×AJ)},KT H l m->∀x∈m,(tupleKind (dj P w)).is h x.1 x.2.1:=by
  intro l m q
  induction q with
  | nil=>intro x hx;exact nomatch hx
  | @cons p q i j hq t c=>
   intro x hx;rcases List.mem_cons.mp hx with e | hx
   ·subst e;exact JB ok (by rw[<- hq.1];exact hq.2.1)
   ·exact c x hx
 exact all r x hx
theorem Zxj{b:List (List Key×V)}(ok:zN P w H h)(e:H a=some (.dT b)):b.length<=sizeLine/\(a == sysModules)=false/\
  ∃xs,KT H b xs/\h.DictOfH (tupleKind (dj P w)) a xs:=Tn ok (.inl e)
end
def pK(H:Hp)(a:AI)(y:V)(r:Option V):Prop:=
 (∃c k,Rd H a (.dK c)/\y=kV k/\r=jN c k)\/∃c k b,Rd H a (.dT c)/\y=.ref b/\H b=some (.tup (k.map kV))/\r=jN c k
def Wb(H:Hp)(a:AI)(y v:V)(H':Hp):Prop:=
 (∃c k,H a=some (.dK c)/\y=kV k/\c.length<sizeLine/\H'=upd H a (.dK (putK c k v)))\/
 ∃c k b,H a=some (.dT c)/\y=.ref b/\H b=some (.tup (k.map kV))/\c.length<sizeLine/\H'=upd H a (.dT (putK c k v))
theorem pK.k{H:Hp}{a:AI}{b:List eh}{k:Key}(e:H a=some (.dK b)):pK H a (kV k) (jN b k):=.inl ⟨b,k,.inl e,rfl,rfl⟩
theorem Wb.k{H:Hp}{a:AI}{b:List eh}{k:Key}{v:V}(e:H a=some (.dK b))(hl:b.length<sizeLine):Wb H a (kV k) v (upd H a (.dK (putK b k v))):=.inl ⟨b,k,e,rfl,hl,rfl⟩
section
variable {X:Cx}{pins:At}{σ:St}{H:Hp}{s:AK}{a:AI}{y v:V}{u r:AJ}{o:Option V}{A:Around}{E:Ap}
theorem Inv.big(I:Inv X pins σ H s):sysModules<s.heap.objs.size:=by
 have h:mainGlobals<s.heap.objs.size:=(I.mod.glob.keeps I.bk).lt;exact Nat.lt_trans ε h
theorem Zl8{Q:Ap}(hu:A.units+1<cLine)(I:Inv X pins σ H s)(g:pK H a y (some v))(q:RelV y u)(h:∀d s',Inv X pins σ H s'->RelV v d->Q d s'):
  wpAny ς A (getItem (.ref a) u) Q E s:=by
 rcases g with ⟨m,k,e,f,l⟩ | ⟨m,k,b,e,f,x,l⟩
 ·subst f;obtain⟨z,hd,t,rel,i⟩:=xQ I.hok e;obtain⟨d,n,c⟩:=xV.some_of (v:=v) (o:=valueAt t k) (by rw[l];exact rel.val k);exact wpAny_getItem_of (XX q) i.mapOf n (h d _ (I.tok _) c)
 ·subst f;cases (show u=Value.ref b from q);obtain⟨z,hd,r,rel,i⟩:=Tn I.hok e;obtain⟨d,n,c⟩:=xV.some_of (v:=v) (o:=(atKey r k).map (·.2)) (by rw[l];exact rel.val k);obtain⟨p,hp,j⟩:=Option.map_eq_some_iff.mp n;refine wpAny_getItem_heap (tupleKind_room_in1 hu) (JB I.hok x) i hp ?_;rw[j];exact h d _ (I.tok _) c
theorem Zza{Q:Ap}(hu:A.units+1<cLine)(I:Inv X pins σ H s)(g:pK H a y o)(i:RelV y u)(h:∀s',Inv X pins σ H s'->Q (.bool o.isSome) s'):
  wpAny ς A (compareOp .In u (.ref a)) Q E s:=by
 rcases g with ⟨f,k,e,c,l⟩ | ⟨f,k,b,e,c,j,l⟩
 ·subst c;obtain⟨z,hd,n,rel,d⟩:=xQ I.hok e;refine wpAny_in_of (XX i) hd d.mapOf ?_;rw[<- (rel.val k).vf,<- l];exact h _ (I.tok _)
 ·subst c;cases (show u=Value.ref b from i);obtain⟨z,hd,m,rel,d⟩:=Tn I.hok e;refine wpAny_in_heap (tupleKind_room_in1 hu) (JB I.hok j) hd d ?_;have q:=(rel.val k).vf;rw[Option.isSome_map]at q;rw[<- q,<- l];exact h _ (I.tok _)
theorem Zj5{Q:Ap}(hu:A.units+1<cLine)(I:Inv X pins σ H s)(g:pK H a y o)(i:RelV y u)(h:∀s',Inv X pins σ H s'->Q (.bool (!o.isSome)) s'):
  wpAny ς A (compareOp .NotIn u (.ref a)) Q E s:=by
 rcases g with ⟨f,k,e,c,l⟩ | ⟨f,k,b,e,c,j,l⟩
 ·subst c;obtain⟨z,hd,n,rel,d⟩:=xQ I.hok e;refine wpAny_notIn_of (XX i) hd d.mapOf ?_;rw[<- (rel.val k).vf,<- l];exact h _ (I.tok _)
 ·subst c;cases (show u=Value.ref b from i);obtain⟨z,hd,m,rel,d⟩:=Tn I.hok e;refine wpAny_notIn_heap (tupleKind_room_in1 hu) (JB I.hok j) hd d ?_;have q:=(rel.val k).vf;rw[Option.isSome_map]at q;rw[<- q,<- l];exact h _ (I.tok _)
theorem Zj4{h':Heap}{t':Nat}{ob:HO}(I:Inv X pins σ H s)(d:Mut (H a))(hs:Heap.SameBut a s.heap h')(c:∃q,h'.get? a=some q)(new:gY X.prog X.w (upd H a ob) h' a ob):
  Inv X pins σ (upd H a ob) { s with heap:=h',toks:=t' }:=
 I.write (x:=a) (e:=a) d (.inl rfl) (λb q hb z=>(hs.2 b hb).trans z) c new
theorem Zv1{P:AM}{w:AO}{H':Hp}{h':Heap}{b:List eh}{vs:List (Key×AJ)}(z:b.length<=sizeLine)(hd:(a == sysModules)=false)(rel:KV b vs)(dd:h'.DictOf (dj P w) a vs):
  gY P w H' h' a (.dK b):=⟨z,hd,vs,rel,dd⟩
theorem Zl7{H':Hp}{Q:Unit->AK->Prop}(hu:A.units+1<cLine)(I:Inv X pins σ H s)(g:Wb H a y v H')(p:RelV y u)(n:RelV v r)(h:∀s',Inv X pins σ H' s'->Q () s'):
  wpAny ς A (setItem (.ref a) u r) Q E s:=by
 rcases g with ⟨d,k,e,i,l,m⟩ | ⟨d,k,b,e,i,x,l,m⟩
 ·subst i m;obtain⟨z,hd,C,rel,j⟩:=Zsb I.hok e;have hz:C.length<=sizeLine:=by rw[<- rel.length];exact z
  have hl:(putK d k v).length<=sizeLine:=by have:=yS d k v;omega
  refine wpAny_setItem_pairs (hsz:=hz) (XX p) j λo f hs=>h _ ?_;have K:∃q,o.get? a=some q:=let ⟨q,_,_,hq,_⟩:=f;⟨q,hq⟩
  exact Zj4 I (by rw[e];exact True.intro) hs K (Zv1 hl hd (rel.put k n) f)
 ·subst i m;cases (show u=Value.ref b from p);obtain⟨z,hd,B,rel,j⟩:=Zxj I.hok e;have hz:B.length<=sizeLine:=by rw[<- Paired.length rel];exact z
  have hl:(putK d k v).length<=sizeLine:=by have:=yS d k v;omega
  refine wpAny_setItem_heap (hsz:=hz) (tupleKind_room_in1 hu) (JB I.hok x) j λo f hs=>h _ ?_;obtain⟨q,J,D,hq,h2,F,h4,_,h5⟩:=f;refine Zj4 I (by rw[e];exact True.intro) hs ⟨q,hq⟩ ⟨hl,hd,_,(rel.put k x n).keeps λc L t=>?_,q,J,D,hq,h2,F,h4,h5⟩;rw[aD (lV t e ai)];exact t
end
section
variable {X:Cx}{pins:At}{σ:St}{H:Hp}{s:AK}{a:AI}{kvs:List eh}{k:Key}{u:AJ}{A:Around}{E:Ap}
end
def Zrh(i:AN):Prop:=∀a b,subscripted i false a b=operate [a,b] (getItem a b)
theorem Zi1{prog:AM}{w:AO}{A:Around}{E:Ap}{s:AK}{env:Env}{b a:AN}{k:Pos}{T id:String}{Q:Ap}
  (hl:typeLookup (.type T) "__getitem__"=pure (some (.builtin id))) (hs:Zrh a)
  (h:wpAny af A (eval b env) (λo f=>wpAny af A (eval a env) (λi c=>c.TypeIs o T/\wpAny af A (getItem o i) Q E c) E f) E s):
  wpAny af A (eval (.Subscript b a k) env) Q E s:=by
 refine Subscript_ (wpAny_mono h (λo f g=>wpAny_mono g (λi c d=>?_) λ_ _ x=>x) λ_ _ x=>x);obtain⟨l,d⟩:=d;unfold subscriptTail;refine wpAny_bind ?_;rw[getitemInPython_of_ne l.not_modules];refine wpAny_bind (wpAny_specialOf l hl ?_);have fin:wpAny af A (subscripted a false o i) (λr e=>wpAny af A (letTemporaryGo b o r >>= λ_=>pure r) Q E e) E c:=by
  rw[hs o i];exact wpAny_operating (wpAny_mono d (λr e j=>wpAny_bind (wpAny_letTemporaryGo (wpAny_pure j))) λ_ _ x=>x)
 first
  | exact wpAny_pure (wpAny_bind fin)
  | exact wpAny_bind (wpAny_pure (wpAny_bind fin))
  | exact wpAny_bind fin
theorem Zek{X:Cx}{c:At}{σ:St}{H:Hp}{s:AK}{a:AI}{y:V}{o:Option V}(I:Inv X c σ H s)(g:pK H a y o):s.TypeIs (.ref a) "dict":=by
 rcases g with ⟨f,k,e,_,_⟩ | ⟨f,k,b,e,_,_,_⟩
 ·obtain⟨_,_,i,_,d⟩:=xQ I.hok e;exact d.typeIs
 ·obtain⟨_,_,h,_,d⟩:=Tn I.hok e;exact d.typeIs
def xZ(d ty:TE):TE:=λσ H Q=>d σ H λx c=>ty σ c λy b=>∃a v,x=.ref a/\pK b a y (some v)/\Q v b
def Zsp(ty d:TE):TE:=λσ H Q=>ty σ H λy c=>d σ c λx b=>∃a o,x=.ref a/\pK b a y o/\Q (.bl o.isSome) b
def Ea(ty d:TE):TE:=λσ H Q=>ty σ H λy c=>d σ c λx b=>∃a o,x=.ref a/\pK b a y o/\Q (.bl (!o.isSome)) b
def Bb(e ty f:TE):TS:=λD σ H=>f σ H λv d=>e σ d λx c=>ty σ c λy g=>∃a b,x=.ref a/\Wb g a y v b/\D.nx σ b
section
variable {X:Cx}{o i e value:AN}{pos pos' tpos:Pos}{td ty tv:TE}
theorem Zpx(hu:X.A.units+1<cLine)(k:PE X o td)(f:PE X i ty)(hs:Zrh i):PE X (.Subscript o i pos) (xZ td ty):=by
 intro b s d H Q I h;refine Zi1 PySem.F.slot_dict_getitem.lookup hs (fX (k b s d H _ I h) λu j ⟨x,H1,I1,rx,q1⟩=>fX (f b j d H1 _ I1 q1) λn p qc=>?_);obtain⟨y,H2,I2,ry,a,v,ex,g,q2⟩:=qc;subst ex;obtain rfl:u=Value.ref a:=rx;exact⟨Zek I2 g,Zl8 hu I2 g ry λm l e c=>⟨v,H2,e,c,q2⟩⟩
theorem Zt9(hu:X.A.units+1<cLine)(e:PE X i ty)(j:PE X o td):PC X .In i o (Zsp ty td):=by
 intro b s c H Q I h;refine fX (e b s c H _ I h) λl f ⟨y,H1,I1,ry,q1⟩=>fX (j b f c H1 _ I1 q1) λu m qc=>?_;obtain⟨x,H2,I2,rx,a,ov,ex,g,q2⟩:=qc;subst ex;obtain rfl:u=Value.ref a:=rx;exact Zza hu I2 g ry λk d=>⟨.bl ov.isSome,H2,d,rfl,q2⟩
theorem Jk(hu:X.A.units+1<cLine)(e:PE X i ty)(j:PE X o td):PC X .NotIn i o (Ea ty td):=by
 intro b s c H Q I h;refine fX (e b s c H _ I h) λl f ⟨y,H1,I1,ry,q1⟩=>fX (j b f c H1 _ I1 q1) λu m qc=>?_;obtain⟨x,H2,I2,rx,a,ov,ex,g,q2⟩:=qc;subst ex;obtain rfl:u=Value.ref a:=rx;exact Zj5 hu I2 g ry λk d=>⟨.bl (!ov.isSome),H2,d,rfl,q2⟩
theorem rP(hu:X.A.units+1<cLine)(j:PE X o td)(d:PE X i ty)(hv:PE X value tv)(hs:swapsWith value (some (.Subscript o i pos')) pos.line X.env=pure false):
  PS X (.Assign [.Subscript o i pos'] value pos) (Bb td ty tv):=by
 intro b s c H D I h;refine wpAny_Assign_Subscript (fX (hv b s c H _ I h) λr e ⟨v,H1,I1,rv,q1⟩=>fX (j b e c H1 _ I1 q1) λu k ⟨x,H2,I2,rx,q2⟩=>fX (d b k c H2 _ I2 q2) λn l qc=>?_) hs;obtain⟨y,H3,I3,ry,a,H4,ex,g,q3⟩:=qc;subst ex;obtain rfl:u=Value.ref a:=rx;exact Zl7 hu I3 g ry rv λm f=>⟨c,H4,f,q3⟩
end
theorem Zox{P:AM}{w:AO}{H:Hp}(h:Heap)(hb:sysModules<h.objs.size):gY P w H (h.push { cls:=.type "dict",data:=.dict #[] }) h.objs.size (.dK []):=
 ⟨Nat.zero_le _,beq_eq_false_iff_ne.mpr (Ne.symm (Nat.ne_of_lt hb)),[],.nil,Heap.DictOf.new h⟩
def Dc:TE:=λ_ H Q=>∀p,H p=none->Q (.ref p) (upd H p (.dK []))
section
variable {X:Cx}{pos:Pos}
theorem uI:PE X (.Dict [] [] pos) Dc:=λb s σ H Q I h=>
 wpAny_Dict_empty ⟨.ref s.heap.objs.size,_,I.laid (a:=s.heap.objs.size) (o:=.dK []) (t':=s.toks) (λ_ _ q=>Heap.get?_push_of_some _ q) Δ (Zox s.heap I.big),rfl,h _ (I.hok.fresh Δ)⟩
end
def Zlr:List (TE×TE)->St->Hp->(List (V×V)->Hp->Prop)->Prop
 | [],_,H,Q=>Q [] H
 | (tk,b)::r,σ,H,Q=>tk σ H λx c=>b σ c λy a=>Zlr r σ a λps d=>Q ((x,y)::ps) d
abbrev VV:List (V×V)->List (AJ×AJ)->Prop:=Paired λp q=>RelV p.1 q.1/\RelV p.2 q.2
def PPs(X:Cx)(d:Pos)(keys:List (Option AN))(a:AG)(c:List (TE×TE)):Prop:=
 ∀(b:At) (s:AK) (σ:St) (H:Hp) (Q:List (V×V)->Hp->Prop),Inv X b σ H s->Zlr c σ H Q->
  wpAny ς X.A (evalPairs (pairTrees keys a X.env d)) (λvs s'=>∃ps H',Inv X b σ H' s'/\VV ps vs/\Q ps H') X.xe s
structure M1(X:Cx)(o:AN)(m:Str)(apos:Pos)(e:AN)(cpos:Pos):Prop where
 base:attributeBase o m X.env (eval o X.env)=eval o X.env
 few:((backTo cpos (starEach [e] X.env)).all (λx=>!x.1) && (backToKw cpos (keywordEach [] X.env)).all (λx=>x.1.isSome)
  && decide (([e]:AG).length+([]:List Keyword).length+(if ([]:List Keyword).isEmpty then 0 else 1)<30))=true
 line:(apos.endLine == cpos.line)=true
 trees:backTo cpos (starEach [e] X.env)=[(false,eval e X.env)]
structure M2(X:Cx)(o:AN)(m:Str)(apos:Pos)(e f:AN)(cpos:Pos):Prop where
 base:attributeBase o m X.env (eval o X.env)=eval o X.env
 few:((backTo cpos (starEach [e,f] X.env)).all (λx=>!x.1) && (backToKw cpos (keywordEach [] X.env)).all (λx=>x.1.isSome)
  && decide (([e,f]:AG).length+([]:List Keyword).length+(if ([]:List Keyword).isEmpty then 0 else 1)<30))=true
 line:(apos.endLine == cpos.line)=true
 trees:backTo cpos (starEach [e,f] X.env)=[(false,eval e X.env),(false,eval f X.env)]
def IsD(H:Hp)(a:AI):Prop:=(∃b,Rd H a (.dK b))\/∃b,Rd H a (.dT b)
theorem Zak{X:Cx}{f:At}{σ:St}{H:Hp}{s:AK}{a:AI}(I:Inv X f σ H s)(d:IsD H a):
  s.TypeIs (.ref a) "dict"/\(∀b,Value.ref a=.ref b->∃ob,s.heap.get? b=some ob/\ob.dict=none)/\(a == sysModules)=false:=by
 rcases d with ⟨g,e⟩ | ⟨g,e⟩
 ·obtain⟨_,hd,i,_,c⟩:=xQ I.hok e;refine⟨c.typeIs,λb q=>?_,hd⟩;cases q;obtain⟨ob,_,_,h1,h2,_⟩:=c;exact⟨ob,h1,h2.2.1⟩
 ·obtain⟨_,hd,h,_,c⟩:=Tn I.hok e;refine⟨c.typeIs,λb q=>?_,hd⟩;cases q;obtain⟨ob,_,_,h1,h2,_⟩:=c;exact⟨ob,h1,h2.2.1⟩
section
variable {X:Cx}{pins:At}{σ:St}{H:Hp}{s:AK}{a:AI}{y d:V}{u r:AJ}{o:Option V}{A:Around}{E:Ap}
theorem Zv2{Q:Ap}(hu:A.units+1<cLine)(I:Inv X pins σ H s)(g:pK H a y o)(m:RelV y u)(j:RelV d r)(h:∀n s',Inv X pins σ H s'->RelV (o.getD d) n->Q n s'):
  wpAny ς A (call (.builtin "dict.get") [.ref a,u,r]) Q E s:=by
 rcases g with ⟨i,k,e,f,l⟩ | ⟨i,k,b,e,f,q,l⟩
 ·subst f;obtain⟨z,hd,t,rel,c⟩:=xQ I.hok e;refine call_meetsIn PySem.F.slot_dict_get c.typeIs PySem.F.entry_dict_get (PySem.F.args_dict_get_3 _ _ _) (meets_dict_get_default (dj X.prog X.w) a (XX m) hd r) ⟨_,c.mapOf,h _ _ (I.tok _) ?_⟩;rw[l];exact(rel.val k).getD j
 ·subst f;cases (show u=Value.ref b from m);obtain⟨z,hd,p,rel,c⟩:=Tn I.hok e;refine call_meetsIn PySem.F.slot_dict_get c.typeIs PySem.F.entry_dict_get (PySem.F.args_dict_get_3 _ _ _) (meetsH_dict_get_default (tupleKind (dj X.prog X.w)) a b hd r) ⟨tupleKind_room_in1 hu,k,p,JB I.hok q,c,h _ _ (I.tok _) ?_⟩;rw[l];exact(rel.val k).getD j
end
def YK(e ty f:TE):TE:=λσ H Q=>e σ H λx b=>∃a,x=.ref a/\IsD b a/\ty σ b λy d=>f σ d λz c=>∃o,pK c a y o/\Q (o.getD z) c
section
variable {X:Cx}{o e f:AN}{apos cpos:Pos}{td ty tx:TE}
theorem Zcp(hu:X.A.units+1<cLine)(n:PE X o td)(q:PE X e ty)(l:PE X f tx)(m:M2 X o "get" apos e f cpos):PE X (.Call (.Attribute o "get" apos) [e,f] [] cpos) (YK td ty tx):=by
 intro b s i H Q I h;refine wpAny_Call_method m.base m.few m.line PySem.F.plainAttrs_dict PySem.F.slot_dict_get PySem.F.type_dict_get (fX (n b s i H _ I h) λu j qc=>?_);obtain⟨x,H1,I1,rx,a,ex,d,q1⟩:=qc;subst ex;obtain rfl:u=Value.ref a:=rx;obtain⟨t1,t2,_⟩:=Zak I1 d;refine⟨t1,t2,?_⟩;rw[m.trees];refine Calls.callWith_builtin rfl (Calls.evalArgs_plain (Calls.spliced_cons (fX (q b j i H1 _ I1 q1) λw p ⟨y,H2,I2,ry,q2⟩=>
  Calls.spliced_cons (fX (l b p i H2 _ I2 q2) λB r ⟨z,H3,I3,rz,ov,g,q3⟩=>Calls.spliced_nil ?_))))
 exact Zv2 hu I3 g ry rz λv t k c=>⟨_,H3,k,c,q3⟩
end
section
variable {X:Cx}{pins:At}{σ:St}{H:Hp}{s:AK}{a:AI}{kvs:List eh}{A:Around}{E:Ap}
end
section
variable {X:Cx}{pins:At}{σ:St}{H:Hp}{s:AK}{a:AI}{y:V}{u:AJ}{A:Around}{E:Ap}
end
end L2
namespace Att
open PySem PySem.W PySem.Calls PyProof.Rows
section
variable {prog:AM}{w:AO}{A:Around}{E:Ap}{s:AK}{K:Frag}
end
end Att
namespace L2
open PySem PySem.Spec PyProof.Rows
section
variable {X:Cx}
end
section
variable {κ:Type} [DecidableEq κ]
end
end L2
set_option maxHeartbeats 40000000
namespace G
open PySem L2
section
variable {D:Ends}{σ:St}{H H1:Hp}{Q:VK}{t u:TS}{ta tb tc te:TE}{n:ν}{r:VK}{b c:ν}
theorem yX(h:t ⟨u ⟨n,r,b,c⟩,r,b,c⟩ σ H):aN t u ⟨n,r,b,c⟩ σ H:=h
theorem nY(h:n σ H):bI ⟨n,r,b,c⟩ σ H:=h
theorem Zuk(h:te σ H λ_ H1=>n σ H1):lB te ⟨n,r,b,c⟩ σ H:=h
theorem Ziq(h:te σ H r):bB te ⟨n,r,b,c⟩ σ H:=h
theorem Zuh{c':TT}(h:c' σ H λk H1=>if k=true then t ⟨n,r,b,c⟩ σ H1 else u ⟨n,r,b,c⟩ σ H1):cL c' t u ⟨n,r,b,c⟩ σ H:=h
theorem SQ{g:TG}(h:te σ H λx H1=>g x σ H1 n):bx te g ⟨n,r,b,c⟩ σ H:=h
theorem i_C{v:V}(h:Q v H):tC v σ H Q:=h
theorem Zgj{f:R2}(h:ta σ H λx H1=>tb σ H1 λy a=>f x y a Q):bh f ta tb σ H Q:=h
theorem Zyl{f:V->Hp->VK->Prop}(h:ta σ H λx H1=>f x H1 Q):tUn f ta σ H Q:=h
def kB(q:Bool->Hp->Prop):VK:=λx H'=>∃k,x=.bl k/\q k H'
theorem i_B{k:Bool}{q:Bool->Hp->Prop}(h:q k H):kB q (.bl k) H:=⟨k,rfl,h⟩
theorem Zu5{q:Bool->Hp->Prop}(h:te σ H (kB q)):bC te σ H q:=h
theorem Zwq{q:Bool->Hp->Prop}(h:te σ H (kB q)):tB te σ H q:=h
theorem Zx8{t u:TT}{q:Bool->Hp->Prop}(h:t σ H λk H1=>if k=true then u σ H1 q else q false H1):PL t u σ H q:=h
theorem Zws{t u:TT}{q:Bool->Hp->Prop}(h:t σ H λk H1=>if k=true then q true H1 else u σ H1 q):CZ t u σ H q:=h
theorem Zs2{t:TT}{q:Bool->Hp->Prop}(h:t σ H λk H1=>q (!k) H1):nF t σ H q:=h
theorem Zuq(h:ta σ H (kB λk H1=>if k=true then tb σ H1 Q else Q (.bl false) H1)):PK ta tb σ H Q:=h
theorem Zwr(h:ta σ H (kB λk H1=>if k=true then Q (.bl true) H1 else tb σ H1 Q)):Zso ta tb σ H Q:=h
theorem Zu8(h:ta σ H (kB λk H1=>Q (.bl (!k)) H1)):Zi0 ta σ H Q:=h
theorem Zwz{t:TT}(h:t σ H λk H1=>if k=true then ta σ H1 Q else tb σ H1 Q):tIf t ta tb σ H Q:=h
theorem Zx9{g:Int->Int->V}{i j:Int}(h:Q (g i j) H):jJ g (.int i) (.int j) H Q:=⟨i,j,rfl,rfl,h⟩
theorem i_I{C:Int->Int->Prop}{g:Int->Int->V}{i j:Int}(hc:C i j)(h:Q (g i j) H):rI C g (.int i) (.int j) H Q:=⟨i,j,rfl,rfl,hc,h⟩
theorem i_U{g:Int->V}{i:Int}(h:Q (g i) H):rU g (.int i) H Q:=⟨i,rfl,h⟩
theorem Zx5{i j:Int}(h:Q (.bl (decide (i=j))) H):qI (.int i) (.int j) H Q:=⟨rfl,by rw[show decide (V.int i=V.int j)=decide (i=j)from decide_eq_decide.mpr ⟨λe=>V.int.inj e,λe=>by rw[e]⟩];exact h⟩
theorem Zx4{i j:Str}(h:Q (.bl (decide (i=j))) H):qI (.str i) (.str j) H Q:=⟨rfl,by rw[show decide (V.str i=V.str j)=decide (i=j)from decide_eq_decide.mpr ⟨λe=>V.str.inj e,λe=>by rw[e]⟩];exact h⟩
theorem Zwv{i j:Int}(h:Q (.bl (!decide (i=j))) H):rNe (.int i) (.int j) H Q:=⟨rfl,by rw[show decide (V.int i=V.int j)=decide (i=j)from decide_eq_decide.mpr ⟨λe=>V.int.inj e,λe=>by rw[e]⟩];exact h⟩
theorem Zwu{i j:Str}(h:Q (.bl (!decide (i=j))) H):rNe (.str i) (.str j) H Q:=⟨rfl,by rw[show decide (V.str i=V.str j)=decide (i=j)from decide_eq_decide.mpr ⟨λe=>V.str.inj e,λe=>by rw[e]⟩];exact h⟩
theorem Zww{i j:Bool}(h:Q (.bl (!decide (i=j))) H):rNe (.bl i) (.bl j) H Q:=⟨rfl,by rw[show decide (V.bl i=V.bl j)=decide (i=j)from decide_eq_decide.mpr ⟨λe=>V.bl.inj e,λe=>by rw[e]⟩];exact h⟩
def Jf:R2:=λx y H Q=>y=.non/\Q (.bl (decide (x=.non))) H
def uG:R2:=λx y H Q=>y=.non/\Q (.bl (!decide (x=.non))) H
theorem Zug(h:Q (.bl true) H):Jf .non .non H Q:=⟨rfl,h⟩
theorem Zuf{i:Int}(h:Q (.bl false) H):Jf (.int i) .non H Q:=⟨rfl,h⟩
theorem Zue{i:AI}(h:Q (.bl false) H):Jf (.ref i) .non H Q:=⟨rfl,h⟩
theorem Zqk(h:Q (.bl false) H):uG .non .non H Q:=⟨rfl,h⟩
theorem Zqj{i:Int}(h:Q (.bl true) H):uG (.int i) .non H Q:=⟨rfl,h⟩
theorem Zqi{i:AI}(h:Q (.bl true) H):uG (.ref i) .non H Q:=⟨rfl,h⟩
theorem Zgm{A B:Prop}(h:A):if true=true then A else B:=Ze1 h
theorem Zan{A B:Prop}(h:B):if false=true then A else B:=Za8 h
theorem Zqo{A B:Prop}(h:B):if (!true)=true then A else B:=Za8 h
theorem Zqp{A B:Prop}(h:A):if (!false)=true then A else B:=Ze1 h
theorem mG{p A B:Prop} [Decidable p](h1:p->A)(h2:¬ p->B):if decide p=true then A else B:=Zu0 (λe=>h1 (of_decide_eq_true e)) (λe=>h2 (λq=>e (decide_eq_true q)))
theorem qT{p A B:Prop} [Decidable p](h1:¬ p->A)(h2:p->B):if (!decide p)=true then A else B:=Zu0 (λe=>h1 (by simpa using e)) (λe=>h2 (by simpa using e))
theorem Zwt{q:List V->Hp->Prop}(h:q [] H):aC σ H q:=h
theorem Zuo{q:List V->Hp->Prop}{t:TA}(h:ta σ H λx H1=>t σ H1 λxs a=>q (x::xs) a):aj ta t σ H q:=h
theorem Zwx{t:TA}(h:t σ H λxs H1=>xs.length<=sizeLine/\∀p,H1 p=none->Q (.ref p) (upd H1 p (.lst xs))):dM t σ H Q:=h
theorem Zwn{t:TA}(h:t σ H λxs H1=>xs.length<=sizeLine/\∀p,H1 p=none->Q (.ref p) (upd H1 p (.tup xs))):dJ t σ H Q:=h
theorem Zup{t:TA}{sp:Sp}{rC:List V}{E:XK}(h:t σ H λvs H1=>sp (vs++rC) H1 Q E):aP sp rC E t σ H Q:=h
theorem Zyz{t:TA}{f:List V->Hp->VK->Prop}(h:t σ H λvs H1=>f vs H1 Q):pG f t σ H Q:=h
theorem Zuc{t:TA}{sp:Sp}{rC:List V}{E:XK}{C:AI}(h:t σ H λvs H1=>∀x dx,H1 x=none->H1 dx=none->dx≠x->sp (.ref x::(vs++rC)) (upd (upd H1 dx (.own x)) x (.ins C dx [])) (λv a=>v=.non/\Q (.ref x) a) E):wU C sp rC E t σ H Q:=h
def Zwk(K:aB)(f:Str)(Q:VK):VK:=λx H1=>∃a C dx fs v,x=.ref a/\H1 a=some (.ins C dx fs)/\Py K C/\cX K C f/\fs.lookup f=some v/\Q v H1
theorem Zx3{K:aB}{f:Str}(h:ta σ H (Zwk K f Q)):aZ K ta f σ H Q:=h
theorem aJ{K:aB}{f:Str}{a C dx:AI}{fs:List (Str×V)}{v:V}(h:H a=some (.ins C dx fs))(hc:Py K C)(hn:cX K C f)(hl:fs.lookup f=some v)(q:Q v H):Zwk K f Q (.ref a) H:=⟨a,C,dx,fs,v,rfl,h,hc,hn,hl,q⟩
theorem Zu6{K:aB}{f:Str}{e:TE}(h:e σ H λy H1=>ta σ H1 λx d=>∃a C dx fs,x=.ref a/\d a=some (.ins C dx fs)/\Py K C/\cX K C f/\fs.length<1000/\n σ (upd d a (.ins C dx (cj f y fs)))):fH K ta e f ⟨n,r,b,c⟩ σ H:=h
theorem Zub{C:AI}{m:Str}{sp:Sp}{rC:List V}{E:XK}{t:TA}(h:ta σ H λx H1=>∃a dx fs,x=.ref a/\H1 a=some (.ins C dx fs)/\fs.lookup m=none/\t σ H1 λvs b=>sp (x::(vs++rC)) b Q E):iM C m sp rC E ta t σ H Q:=h
theorem Znx{q:AA->Hp->Prop}(h:q none H):zP σ H q:=h
def kI(q:Int->Hp->Prop):VK:=λx H1=>∃i,x=.int i/\q i H1
theorem Zu7{q:AA->Hp->Prop}(h:te σ H (kI λi=>q (some i))):Kq te σ H q:=h
theorem Zyn{i:Int}{q:Int->Hp->Prop}(h:q i H):kI q (.int i) H:=⟨i,rfl,h⟩
theorem Zym{f:V->AA->AA->Hp->VK->Prop}{tl th:TO}(h:te σ H λx H1=>tl σ H1 λl a=>th σ a λu b=>f x l u b Q):tSl f te tl th σ H Q:=h
theorem Zyy{K:aB}{T:String}{f:V->List V->Hp->VK->Prop}{to:TE}{t:TA}(h:to σ H λx H1=>tyV K T x H1/\t σ H1 λxs a=>f x xs a Q):tBM K T f to t σ H Q:=h
theorem Zx7{K:aB}{T:String}{f:V->List V->Hp->VK->Prop}{to:TE}(h:to σ H λx H1=>tyV K T x H1/\f x [] H1 Q):Zsq K T f to σ H Q:=h
theorem Zx2{f:TI}{g:TG}{tb:TS}(h:f σ H λJ H1=>∃W:Nat->Nat->ν,(∃m,W 0 m σ H1)/\∀i m σ H,W i m σ H->
 (J.stop i H/\n σ H)\/(J.go i H/\∃N:ν,(∀ a H',N a H'->∃e,e<m/\W cy e a H')/\∀x H',J.yld i H x H'->g x σ H' λd j=>tb ⟨N,r,n,N⟩ d j)):mK f g tb ⟨n,r,b,c⟩ σ H:=h
theorem Zyq{K:aB}{R:It->Hp->Prop}(h:te σ H λx H1=>∃a,x=.ref a/\(∃xs,bN K H1 a xs)/\R (Itl K a) H1):iR K te σ H R:=h
theorem Zyp{ta:TA}{R:It->Hp->Prop}(h:ta σ H λvs H1=>∃j:Int,vs=[.int j]/\-(2 ^ 62)<=j/\j<2 ^ 62/\R (Itr 0 j.toNat) H1):xK ta σ H R:=h
end
theorem Zyk{v:V}{l:St}{H:Hp}{Q:VK}(h:Q v H):ak 0 (some v::l) H Q:=⟨v,rfl,h⟩
theorem Zyj{a:Option V}{v:V}{l:St}{H:Hp}{Q:VK}(h:Q v H):ak 1 (a::some v::l) H Q:=⟨v,rfl,h⟩
theorem Zyx{a:Option V}{y:Option V}{v:V}{l:St}{H:Hp}{Q:ν}(h:Q (a::some v::l) H):aL 1 v (a::y::l) H Q:=h
theorem Zyi{a b:Option V}{v:V}{l:St}{H:Hp}{Q:VK}(h:Q v H):ak 2 (a::b::some v::l) H Q:=⟨v,rfl,h⟩
theorem Zuj{a b:Option V}{y:Option V}{v:V}{l:St}{H:Hp}{Q:ν}(h:Q (a::b::some v::l) H):aL 2 v (a::b::y::l) H Q:=h
theorem Zgi{a c b:Option V}{v:V}{l:St}{H:Hp}{Q:VK}(h:Q v H):ak 3 (a::c::b::some v::l) H Q:=⟨v,rfl,h⟩
theorem Zao{a c b:Option V}{y:Option V}{v:V}{l:St}{H:Hp}{Q:ν}(h:Q (a::c::b::some v::l) H):aL 3 v (a::c::b::y::l) H Q:=h
theorem Zyh{a c b d:Option V}{v:V}{l:St}{H:Hp}{Q:VK}(h:Q v H):ak 4 (a::c::b::d::some v::l) H Q:=⟨v,rfl,h⟩
theorem Zqq{a c b d:Option V}{y:Option V}{v:V}{l:St}{H:Hp}{Q:ν}(h:Q (a::c::b::d::some v::l) H):aL 4 v (a::c::b::d::y::l) H Q:=h
theorem Zyg{a d c e b:Option V}{v:V}{l:St}{H:Hp}{Q:VK}(h:Q v H):ak 5 (a::d::c::e::b::some v::l) H Q:=⟨v,rfl,h⟩
theorem Zyw{a d c e b:Option V}{y:Option V}{v:V}{l:St}{H:Hp}{Q:ν}(h:Q (a::d::c::e::b::some v::l) H):aL 5 v (a::d::c::e::b::y::l) H Q:=h
theorem Zyf{a d c f b e:Option V}{v:V}{l:St}{H:Hp}{Q:VK}(h:Q v H):ak 6 (a::d::c::f::b::e::some v::l) H Q:=⟨v,rfl,h⟩
theorem Zyv{a d c f b e:Option V}{y:Option V}{v:V}{l:St}{H:Hp}{Q:ν}(h:Q (a::d::c::f::b::e::some v::l) H):aL 6 v (a::d::c::f::b::e::y::l) H Q:=h
theorem Zye{a e d g b f c:Option V}{v:V}{l:St}{H:Hp}{Q:VK}(h:Q v H):ak 7 (a::e::d::g::b::f::c::some v::l) H Q:=⟨v,rfl,h⟩
theorem Zyu{a e d g b f c:Option V}{y:Option V}{v:V}{l:St}{H:Hp}{Q:ν}(h:Q (a::e::d::g::b::f::c::some v::l) H):aL 7 v (a::e::d::g::b::f::c::y::l) H Q:=h
theorem Zyd{a e d i b g c f:Option V}{v:V}{l:St}{H:Hp}{Q:VK}(h:Q v H):ak 8 (a::e::d::i::b::g::c::f::some v::l) H Q:=⟨v,rfl,h⟩
theorem Zyt{a e d i b g c f:Option V}{y:Option V}{v:V}{l:St}{H:Hp}{Q:ν}(h:Q (a::e::d::i::b::g::c::f::some v::l) H):aL 8 v (a::e::d::i::b::g::c::f::y::l) H Q:=h
theorem Zyc{b f e j c i d g a:Option V}{v:V}{l:St}{H:Hp}{Q:VK}(h:Q v H):ak 9 (b::f::e::j::c::i::d::g::a::some v::l) H Q:=⟨v,rfl,h⟩
theorem Zys{b f e j c i d g a:Option V}{y:Option V}{v:V}{l:St}{H:Hp}{Q:ν}(h:Q (b::f::e::j::c::i::d::g::a::some v::l) H):aL 9 v (b::f::e::j::c::i::d::g::a::y::l) H Q:=h
theorem Zwm{b g f k c j e i a d:Option V}{v:V}{l:St}{H:Hp}{Q:VK}(h:Q v H):ak 10 (b::g::f::k::c::j::e::i::a::d::some v::l) H Q:=⟨v,rfl,h⟩
theorem Zx1{b g f k c j e i a d:Option V}{y:Option V}{v:V}{l:St}{H:Hp}{Q:ν}(h:Q (b::g::f::k::c::j::e::i::a::d::some v::l) H):aL 10 v (b::g::f::k::c::j::e::i::a::d::y::l) H Q:=h
theorem Zwl{c i g m d k f j b e a:Option V}{v:V}{l:St}{H:Hp}{Q:VK}(h:Q v H):ak 11 (c::i::g::m::d::k::f::j::b::e::a::some v::l) H Q:=⟨v,rfl,h⟩
theorem Zx0{c i g m d k f j b e a:Option V}{y:Option V}{v:V}{l:St}{H:Hp}{Q:ν}(h:Q (c::i::g::m::d::k::f::j::b::e::a::some v::l) H):aL 11 v (c::i::g::m::d::k::f::j::b::e::a::y::l) H Q:=h
theorem aH{H:Hp}{p:AI}(h:H p=none)(o:HO):aX H (upd H p o):=λb u q=>by rw[aD (aF q h)];exact q
theorem nwO{H b:Hp}{a:AI}{o:HO}(n:H a=none)(h:upd H a o=b):aX H b/\b a=some o:=by
 subst h;exact⟨aH n o,aq⟩
def tyN(H:Hp):V->Option String
 | .non=>some "NoneType"
 | .bl _=>some "bool"
 | .int _=>some "int"
 | .str _=>some "str"
 | .ref a=>match H a with
  | some (.lst _)=>some "list"
  | some (.vH _ (.lst _))=>some "list"
  | some (.tup _)=>some "tuple"
  | some (.dK _)=>some "dict"
  | some (.dT _)=>some "dict"
  | _=>none
 | _=>none
def rB(t n:String):Option Bool:=if ["int","bool","str","list","tuple","dict"].contains n then some (t == n || (t == "bool" && n == "int"))else none
def JR:List V->Hp->VK->Prop:=λxs H Q=>∃x n t k,xs=[x,.ty n]/\tyN H x=some t/\rB t n=some k/\Q (.bl k) H
theorem M6:rB "int" "int"=some true:=γ
theorem G9:rB "int" "bool"=some false:=γ
theorem Ze4:rB "int" "str"=some false:=γ
theorem Zae:rB "int" "list"=some false:=γ
theorem Vx:rB "int" "tuple"=some false:=γ
theorem Zaf:rB "int" "dict"=some false:=γ
theorem Zaj:rB "bool" "int"=some true:=γ
theorem VG:rB "bool" "bool"=some true:=γ
theorem Zai:rB "bool" "str"=some false:=γ
theorem VD:rB "bool" "list"=some false:=γ
theorem Su:rB "bool" "tuple"=some false:=γ
theorem VF:rB "bool" "dict"=some false:=γ
theorem Ze3:rB "str" "int"=some false:=γ
theorem Zab:rB "str" "bool"=some false:=γ
theorem M5:rB "str" "str"=some true:=γ
theorem Za9:rB "str" "list"=some false:=γ
theorem Vu:rB "str" "tuple"=some false:=γ
theorem Zaa:rB "str" "dict"=some false:=γ
theorem JF:rB "NoneType" "int"=some false:=γ
theorem Hj:rB "NoneType" "bool"=some false:=γ
theorem JD:rB "NoneType" "str"=some false:=γ
theorem Hg:rB "NoneType" "list"=some false:=γ
theorem Dl:rB "NoneType" "tuple"=some false:=γ
theorem Hi:rB "NoneType" "dict"=some false:=γ
theorem Zad:rB "list" "int"=some false:=γ
theorem Vw:rB "list" "bool"=some false:=γ
theorem Zac:rB "list" "str"=some false:=γ
theorem Cm:rB "list" "list"=some true:=γ
theorem Sq:rB "list" "tuple"=some false:=γ
theorem Vv:rB "list" "dict"=some false:=γ
theorem Vt:rB "tuple" "int"=some false:=γ
theorem Sh:rB "tuple" "bool"=some false:=γ
theorem Vs:rB "tuple" "str"=some false:=γ
theorem Sd:rB "tuple" "list"=some false:=γ
theorem xJ:rB "tuple" "tuple"=some true:=γ
theorem Sg:rB "tuple" "dict"=some false:=γ
theorem Zah:rB "dict" "int"=some false:=γ
theorem VB:rB "dict" "bool"=some false:=γ
theorem Zag:rB "dict" "str"=some false:=γ
theorem Vy:rB "dict" "list"=some false:=γ
theorem Ss:rB "dict" "tuple"=some false:=γ
theorem Vz:rB "dict" "dict"=some true:=γ
theorem Zgo{i:Int}{H:Hp}{Q:VK}(h:Q (.bl true) H):JR [.int i,.ty "int"] H Q:=⟨_,_,_,_,rfl,rfl,M6,h⟩
theorem Ze7{i:Int}{H:Hp}{Q:VK}(h:Q (.bl false) H):JR [.int i,.ty "bool"] H Q:=⟨_,_,_,_,rfl,rfl,G9,h⟩
theorem Zgn{i:Str}{H:Hp}{Q:VK}(h:Q (.bl true) H):JR [.str i,.ty "str"] H Q:=⟨_,_,_,_,rfl,rfl,M5,h⟩
theorem M7{a:AI}{H:Hp}{Q:VK}{xs:List V}(hp:H a=some (.lst xs))(h:Q (.bl true) H):JR [.ref a,.ty "list"] H Q:=⟨_,_,_,_,rfl,(by show(match H a with | some (.lst _)=>some "list" | some (.vH _ (.lst _))=>some "list" | some (.tup _)=>some "tuple" | some (.dK _)=>some "dict" | some (.dT _)=>some "dict" | _=>none)=some "list";rw[hp]),Cm,h⟩
theorem Ho{a:AI}{H:Hp}{Q:VK}{xs:List V}(hp:H a=some (.tup xs))(h:Q (.bl true) H):JR [.ref a,.ty "tuple"] H Q:=⟨_,_,_,_,rfl,(by show(match H a with | some (.lst _)=>some "list" | some (.vH _ (.lst _))=>some "list" | some (.tup _)=>some "tuple" | some (.dK _)=>some "dict" | some (.dT _)=>some "dict" | _=>none)=some "tuple";rw[hp]),xJ,h⟩
def gm(K:aB):List V->Hp->VK->Prop:=λxs H Q=>∃p a,xs=[.ref p]/\(bN K H p a\/dR K H p a)/\Q (.int a.length) H
theorem eU{K:aB}{a:AI}{H:Hp}{Q:VK}{xs:List V}(hp:bN K H a xs)(h:Q (.int xs.length) H):gm K [.ref a] H Q:=⟨a,xs,rfl,.inl hp,h⟩
theorem fD{K:aB}{a:AI}{H:Hp}{Q:VK}{xs:List V}{i:Int}{v:V}(hp:bN K H a xs)(b:atI xs i=some v)(h:Q v H):gF K (.ref a) (.int i) H Q:=⟨a,xs,i,v,rfl,rfl,hp,b,h⟩
section
variable {K:aB}{a:AI}{xs:List V}{g:TG}{tb:TS}{σ:St}{H:Hp}{n:ν}{r:VK}
theorem forL(xs:List V)(Pv:Nat->ν)(f:Pv 0 σ H)(hl:∀i σ H,i<=xs.length->Pv i σ H->bN K H a xs)
  (hs:∀i x σ H,xs[i]? =some x->Pv i σ H->g x σ H λb d=>tb ⟨Pv cy,r,n,Pv cy⟩ b d) (hd:∀ σ H,Pv xs.length σ H->n σ H):
  ∃W:Nat->Nat->ν,(∃m,W 0 m σ H)/\∀i m σ H,W i m σ H->
   ((Itl K a).stop i H/\n σ H)\/((Itl K a).go i H/\∃N:ν,(∀ c H',N c H'->∃e,e<m/\W cy e c H')/\∀x H',(Itl K a).yld i H x H'->g x σ H' λb d=>tb ⟨N,r,n,N⟩ b d):=
 Zof (D:=⟨n,r,λ_ _=>False,λ_ _=>False⟩) Pv f hl hs hd
theorem forR{lo:Int}{k:Nat}(Pv:Nat->ν)(e:Pv 0 σ H)
  (hs:∀i σ H,i<k->Pv i σ H->g (.int (lo+i)) σ H λa c=>tb ⟨Pv cy,r,n,Pv cy⟩ a c) (hd:∀ σ H,Pv k σ H->n σ H):
  ∃W:Nat->Nat->ν,(∃m,W 0 m σ H)/\∀i m σ H,W i m σ H->
   ((Itr lo k).stop i H/\n σ H)\/((Itr lo k).go i H/\∃N:ν,(∀ b H',N b H'->∃d,d<m/\W cy d b H')/\∀x H',(Itr lo k).yld i H x H'->g x σ H' λa c=>tb ⟨N,r,n,N⟩ a c):=
 Zkz (D:=⟨n,r,λ_ _=>False,λ_ _=>False⟩) Pv e hs hd
end
theorem aQ{n:Nat}(h:n<=1000000):n<=sizeLine:=Nat.le_trans h ε
def Zmc:R2:=λx y H Q=>∃i j,x=.str i/\y=.str j/\i.length+j.length<=sizeLine/\Q (.str (i++j)) H
theorem Zo1{i j:Str}{H:Hp}{Q:VK}(hz:i.length+j.length<=sizeLine)(h:Q (.str (i++j)) H):Zmc (.str i) (.str j) H Q:=⟨i,j,rfl,rfl,hz,h⟩
theorem Zwy{z:Str}{i:Int}{c:Nat}{H:Hp}{Q:VK}(hz:z.length<=sizeLine)(a:atI z.cps.toList i=some c)(h:Q (.str ⟨#[c]⟩) H):Zmb (.str z) (.int i) H Q:=⟨z,i,c,rfl,rfl,hz,a,h⟩
theorem Zny{z:Str}{i:Int}{H:Hp}{Q:VK}(hz:z.length<=sizeLine)(a:0<=i)(h1:i<z.length)(h:∀c:Nat,Q (.str ⟨#[c]⟩) H):Zmb (.str z) (.int i) H Q:=by
 have hk:i.toNat<z.cps.toList.length:=by rw[Array.length_toList];exact(Int.toNat_lt a).mpr h1
 have b:i=((i.toNat:Nat):Int):=δ
 have q:atI z.cps.toList ((i.toNat:Nat):Int)=some z.cps.toList[i.toNat]:=gq (bG hk);rw[<- b]at q;exact Zwy hz q (h _)
theorem str_len(z:Str):z.cps.toList.length=z.length:=Array.length_toList
def pick(σ:St)(j:Nat):Option V:=match σ[j]? with
 | some v=>v
 | none=>none
def tLC(e:TI)(a:List Nat)(tc:TT)(f:TE):TE:=λσ H Q=>e σ H λJ g=>∃W:Nat->Nat->List V->Hp->Prop,(∃m,W 0 m [] g)/\∀i m c H,W i m c H->
 (J.stop i H/\∀p,H p=none->Q (.ref p) (upd H p (.lst c)))\/
 (J.go i H/\c.length<sizeLine/\∀x H',J.yld i H x H'->tc (some x::a.map bj) H' λk d=>if k=true then f (some x::a.map bj) d (λy h=>∃b,b<m/\W cy b (c++[y]) h)else ∃b,b<m/\W cy b c d)
def uo:TT:=λ_ H Q=>Q true H
theorem yW{σ:St}{H:Hp}{Q:Bool->Hp->Prop}(h:Q true H):uo σ H Q:=h
theorem Zqr{r b:R2}{a c tc:TE}{σ:St}{H:Hp}{Q:VK}(h:a σ H λx g=>c σ g λy e=>r x y e (kB λk d=>if k=true then tc σ d (λw f=>b y w f Q)else Q (.bl false) d)):Dd r b a c tc σ H Q:=h
def Zjv(z:Str)(n:Int):Str:=⟨(List.replicate n.toNat z.cps.toList).flatten.toArray⟩
def Zi8:R2:=λx y H Q=>∃z k,x=.str z/\y=.int k/\0<=k/\k<=1000/\z.length<=1000/\∀t:Str,t.length<=1000000->t=Zjv z k->Q (.str t) H
theorem Znv{z:Str}{k:Int}{H:Hp}{Q:VK}(a:0<=k)(h1:k<=1000)(h2:z.length<=1000)(h:∀t:Str,t.length<=1000000->t=Zjv z k->Q (.str t) H):Zi8 (.str z) (.int k) H Q:=⟨z,k,rfl,rfl,a,h1,h2,h⟩
structure EqD(K:aB)(C:AI):Prop where
 eq:W.findIn K (.ref C) "__eq__"=some (some (.builtin "object.__eq__"))
 ob:W.mroIn K C (.type "object")=some true
def Ir(C:AI)(E:XK)(a:TA):TS:=λ_ σ H=>a σ H λvs b=>vs.length<=100/\E (.ref C) none b
def Zfb(sp:Sp)(rC:List V)(E:St->XK)(t:TA):TE:=λσ H Q=>t σ H λvs a=>sp (vs++rC) a Q (E σ)
def Zsn(c:AJ->Prop)(d:(St->XK)->TS)(th:TS):TS:=λD σ H=>d (λb a _ H'=>c a/\th D b H') D σ H
section
variable {σ:St}{H:Hp}{Q:VK}{n:ν}{r:VK}{b c:ν}{te:TE}{t:TA}
theorem Zqh{C:AI}{E:XK}(h:t σ H λvs a=>vs.length<=100/\E (.ref C) none a):Ir C E t ⟨n,r,b,c⟩ σ H:=h
theorem Zqs{sp:Sp}{rC:List V}{E:St->XK}(h:t σ H λvs a=>sp (vs++rC) a Q (E σ)):Zfb sp rC E t σ H Q:=h
theorem Zwo{e:AJ->Prop}{f:(St->XK)->TS}{th:TS}(h:f (λd a _ H'=>e a/\th ⟨n,r,b,c⟩ d H') ⟨n,r,b,c⟩ σ H):Zsn e f th ⟨n,r,b,c⟩ σ H:=h
end
theorem Zui{to a:TE}{ts:Zrg}{x:V}{σ:St}{H:Hp}{Q:ν}(h:to σ H λo c=>a σ c λi b=>ts o i x b λd=>Q σ d):S6 to a ts x σ H Q:=h
def JQ(K:aB):List V->Hp->VK->Prop:=λxs H Q=>∃(p:AI) (a:List V),xs=[.ref p]/\bN K H p a/\∀l,H l=none->Q (.ref l) (upd H l (.lst a))
theorem Zam{K:aB}{H:Hp}{Q:VK}{p:AI}{a:List V}(h1:bN K H p a)(h:∀l,H l=none->Q (.ref l) (upd H l (.lst a))):JQ K [.ref p] H Q:=⟨p,a,rfl,h1,h⟩
def OkN(K:aB)(H:Hp)(xs:List V):Prop:=∀y∈xs,y=.non\/∃a C dx fs,y=.ref a/\H a=some (.ins C dx fs)/\Py K C/\EqD K C
def Zt3(K:aB)(a:Bool):R2:=λx y H Q=>∃p xs,x=.non/\y=.ref p/\bN K H p xs/\OkN K H xs/\Q (.bl (if a then !decide (V.non∈xs)else decide (V.non∈xs))) H
theorem Znw{K:aB}{H:Hp}{Q:VK}{p:AI}{xs:List V}(h1:bN K H p xs)(h2:OkN K H xs)(h:Q (.bl (!decide (V.non∈xs))) H):Zt3 K true .non (.ref p) H Q:=⟨p,xs,rfl,rfl,h1,h2,h⟩
def Zia(K:aB):V->List V->Hp->VK->Prop:=λx vs H Q=>∃p xs,x=.ref p/\vs=[.non]/\bN K H p xs/\OkN K H xs/\V.non∈xs/\Q (.int (xs.idxOf V.non)) H
def eqL(xs a:List V):Bool:=xs.length == a.length && (xs.zip a).all λp=>Ys p.1 p.2
def QF(K:aB)(b:Bool):R2:=λx y H Q=>∃p q xs a,x=.ref p/\y=.ref q/\bN K H p xs/\bN K H q a/\(xs.length=a.length->xs.all lW=true/\a.all lW=true)/\Q (.bl (if b then !eqL xs a else eqL xs a)) H
theorem qi(ns:AE):(ns.map V.int).all lW=true:=by
 rw[List.all_eq_true];intro x hx;obtain⟨i,_,rfl⟩:=List.mem_map.mp hx;rfl
theorem Zoq(ns:AE):∀ms:AE,eqL ep (ms.map V.int)=decide (ns=ms):=by
 induction ns with
 | nil=>
  intro ms;cases ms with
  | nil=>rfl
  | cons m ms=>rfl
 | cons n ns g=>
  intro ms;cases ms with
  | nil=>rfl
  | cons m ms=>
   have:=g ms;unfold eqL at this ⊢;rw[List.map_cons,List.map_cons,List.zip_cons_cons,List.all_cons,List.length_cons,List.length_cons];have d:Ys (V.int n) (V.int m)=(n == m):=rfl;have f:((ns.map V.int).length+1 == (ms.map V.int).length+1)=((ns.map V.int).length == (ms.map V.int).length):=by
    rw[Bool.eq_iff_iff,beq_iff_eq,beq_iff_eq];omega
   dsimp only;rw[d,f];rw[Bool.eq_iff_iff]at this ⊢;simp only[Bool.and_eq_true,beq_iff_eq,decide_eq_true_eq]at this ⊢;constructor
   ·rintro⟨a,b,c⟩;rw[b,this.mp ⟨a,c⟩]
   ·intro e
    injection e with d f
    obtain⟨a,c⟩:=this.mpr f;exact⟨a,d,c⟩
theorem Zgl{K:aB}{H:Hp}{Q:VK}{p q:AI}{ns ms:AE}(h1:bN K H p ep)(h2:bN K H q (ms.map V.int))(h:Q (.bl (!decide (ns=ms))) H):QF K true (.ref p) (.ref q) H Q:=by
 refine⟨p,q,_,_,rfl,rfl,h1,h2,λ_=>⟨qi _,qi _⟩,?_⟩;rw[Zoq];exact h
theorem Znz{K:aB}{H:Hp}{Q:VK}{p q:AI}{xs:List V}(h1:bN K H p xs)(h2:bN K H q [])(h:Q (.bl (decide (xs=[]))) H):QF K false (.ref p) (.ref q) H Q:=by
 refine⟨p,q,_,_,rfl,rfl,h1,h2,λe=>?_,?_⟩
 ·have:xs=[]:=List.length_eq_zero_iff.mp e;subst this;exact⟨rfl,rfl⟩
 ·have e:eqL xs []=decide (xs=[]):=by cases xs<;>rfl
  show Q (.bl (eqL xs [])) H;rw[e];exact h
def Fm(S:AF)(H H':Hp):Prop:=∀b o,H b=some o->b∉S->H' b=some o
theorem Fm.same{H H':Hp}(a:Fm [] H H'):aX H H':=λc o h=>a c o h ai
def fz(S:AF)(H:Hp):Hp:=λb=>if b∈S then none else H b
theorem Zgk{x:V}{H:Hp}{Q:VK}(h:Q (.bl (!decide (x=.non))) H):uG x .non H Q:=⟨rfl,h⟩
def LCg(J:It)(a:List Nat)(tc:TT)(e:TE)(σ:St)(H:Hp)(Q:VK):Prop:=∃W:Nat->Nat->List V->Hp->Prop,(∃m,W 0 m [] H)/\∀i m c H,W i m c H->
 (J.stop i H/\∀p,H p=none->Q (.ref p) (upd H p (.lst c)))\/
 (J.go i H/\c.length<sizeLine/\∀x H',J.yld i H x H'->tc (some x::a.map bj) H' λk d=>if k=true then e (some x::a.map bj) d (λy f=>∃b,b<m/\W cy b (c++[y]) f)else ∃b,b<m/\W cy b c d)
theorem Cp{b:TI}{a:List Nat}{tc:TT}{c:TE}{σ:St}{H:Hp}{Q:VK}(h:b σ H λJ d=>LCg J a tc c σ d Q):tLC b a tc c σ H Q:=h
theorem Zno{J:It}{a:List Nat}{tc:TT}{h:TE}{σ:St}{H:Hp}{Q:VK}(k:Nat)(hz:k<=1000000)(g:Nat->Option V)
  (b:J.stop k H) (f:∀i,i<k->J.go i H) (hy:∀i x H',i<k->J.yld i H x H'->H'=H/\(∀q:Bool->Hp->Prop,q (g i).isSome H->tc (some x::a.map bj) H q)/\∀(y:V) (q:VK),g i=some y->q y H->h (some x::a.map bj) H q)
  (q:∀p,H p=none->Q (.ref p) (upd H p (.lst ((List.range k).filterMap g)))):
  LCg J a tc h σ H Q:=by
 refine⟨λi m j H'=>H'=H/\i<=k/\m=k - i/\j=(List.range i).filterMap g,⟨k,rfl,Nat.zero_le _,rfl,rfl⟩,?_⟩;rintro i m j _ ⟨rfl,l,rfl,rfl⟩
 by_cases hk:i=k
 ·subst hk;exact .inl ⟨b,q⟩
 ·have c:i<k:=δ
  refine .inr ⟨f i c,?_,λx H' y=>?_⟩
  ·refine Nat.lt_of_le_of_lt (Nat.le_trans (List.length_filterMap_le _ _) ?_) (show 1000000<sizeLine by decide);rw[List.length_range];omega
  ·obtain⟨rfl,h1,h2⟩:=hy i x H' c y;refine h1 _ ?_;have d:List.filterMap g (List.range cy)=List.filterMap g (List.range i)++(match g i with | some y=>[y] | none=>[]):=by
    rw[List.range_succ,List.filterMap_append];cases e:g i with
    | none=>rw[List.filterMap_cons_none e];rfl
    | some y=>rw[List.filterMap_cons_some e];rfl
   cases e:g i with
   | none=>
    rw[e]at d;dsimp only[Option.isSome];refine Za8 ⟨k - cy,δ,rfl,δ,rfl,?_⟩;rw[d,List.append_nil]
   | some y=>
    rw[e]at d;dsimp only[Option.isSome];refine Ze1 (h2 y _ e ⟨k - cy,δ,rfl,δ,rfl,?_⟩);rw[d]
theorem Zau(l:List Nat)(p:Nat->Bool)(f:Nat->V):l.filterMap (λi=>if p i=true then some (f i)else none)=(l.filter p).map f:=by
 induction l with
 | nil=>rfl
 | cons a l b=>
  by_cases h:p a=true
  ·rw[List.filterMap_cons_some (by rw[if_pos h]),List.filter_cons_of_pos h,List.map_cons,b]
  ·rw[List.filterMap_cons_none (by rw[if_neg h]),List.filter_cons_of_neg h,b]
theorem Znp{a:List Nat}{tc:TT}{g:TE}{σ:St}{H:Hp}{Q:VK}{n:Nat}{z:Int}(k:z.toNat=n)(p:Nat->Bool)(f:Nat->V)(hz:n<=1000000)
  (c:∀i,i<n->∀q:Bool->Hp->Prop,q (p i) H->tc (some (.int i)::a.map bj) H q)
  (d:∀i,i<n->p i=true->∀q:VK,q (f i) H->g (some (.int i)::a.map bj) H q)
  (q:∀l,H l=none->Q (.ref l) (upd H l (.lst (((List.range n).filter p).map f)))):
  LCg (Itr 0 z.toNat) a tc g σ H Q:=by
 subst k;refine Zno z.toNat hz (λi=>if p i=true then some (f i)else none) Δ (λi b=>b) (λi x o b y=>?_) ?_
 ·obtain⟨m,j⟩:=y;have ex:x=.int i:=by rw[j];simp
  refine⟨m,λq hq=>?_,λy q hy hq=>?_⟩
  ·rw[ex];refine c i b q ?_;cases e:p i with
   | true=>rw[e]at hq;exact hq
   | false=>rw[e]at hq;exact hq
  ·rw[ex];cases e:p i with
   | true=>
    rw[e]at hy;have h:f i=y:=by simpa using hy
    exact d i b e q (by rw[h];exact hq)
   | false=>rw[e]at hy;simp at hy
 ·rw[Zau];exact q
theorem G4{K:aB}{a:AI}{xs:List V}{b:List Nat}{tc:TT}{d:TE}{σ:St}{H:Hp}{Q:VK}(hs:bN K H a xs)(g:Nat->Option V)(hz:xs.length<=1000000)
  (hy:∀i x,xs[i]? =some x->(∀q:Bool->Hp->Prop,q (g i).isSome H->tc (some x::b.map bj) H q)/\∀(y:V) (q:VK),g i=some y->q y H->d (some x::b.map bj) H q)
  (q:∀p,H p=none->Q (.ref p) (upd H p (.lst ((List.range xs.length).filterMap g)))):
  LCg (Itl K a) b tc d σ H Q:=by
 refine Zno xs.length hz g ⟨xs,hs,Nat.le_refl _⟩ (λi c=>⟨xs,xs[i],hs,bG c⟩) (λi x h c y=>?_) q;obtain⟨f,e⟩:=y;exact⟨f,hy i x (e xs hs)⟩
theorem p7{n i:Nat}(h:i<n):ixN n (i:Int)=some i:=by
 unfold ixN;rw[if_pos δ,if_pos δ];simp
theorem Zqg{n:Nat}{i:Int}(a:0<=i)(h:i.toNat<n):ixN n i=some i.toNat:=by
 have e:i=((i.toNat:Nat):Int):=δ
 have:=p7 h;rw[<- e]at this;exact this
theorem iW{a:Type}{xs:List a}{i:Int}{v:a}(b:0<=i)(h:xs[i.toNat]? =some v):atI xs i=some v:=by
 have e:i=((i.toNat:Nat):Int):=δ
 have:=gq h;rw[<- e]at this;exact this
inductive Al{α β:Type}(P:α->β->Prop):List α->List β->Prop
 | nil:Al P [] []
 | cons {x:α}{y:β}{xs:List α}{ys:List β}:P x y->Al P xs ys->Al P (x::xs) (y::ys)
section
variable {α β:Type}{P P':α->β->Prop}{xs:List α}{ys:List β}
theorem Al.length(h:Al P xs ys):xs.length=ys.length:=by
 induction h with
 | nil=>rfl
 | cons _ _ a=>rw[List.length_cons,List.length_cons,a]
theorem Al.mono(h:Al P xs ys)(f:∀x y,P x y->P' x y):Al P' xs ys:=by
 induction h with
 | nil=>exact .nil
 | cons p _ a=>exact .cons (f _ _ p) a
theorem Al.get(h:Al P xs ys):∀{i:Nat}{y:β},ys[i]? =some y->∃x,xs[i]? =some x/\P x y:=by
 induction h with
 | nil=>intro i y e;simp at e
 | cons p _ a=>
  intro i y e;cases i with
  | zero=>simp at e;subst e;exact⟨_,rfl,p⟩
  | succ i=>
   obtain⟨x,b,c⟩:=a (i:=i) (y:=y) (by simpa using e);exact⟨x,by simpa using b,c⟩
end
theorem pI{c g:Type}(f:c->Option g):∀l:List c,(List.range l.length).filterMap (λi=>l[i]?.bind f)=l.filterMap f:=by
 intro l
 induction l with
 | nil=>rfl
 | cons a l d=>
  rw[List.length_cons,List.range_succ_eq_map];have e:List.filterMap (λi=>(a::l)[i]?.bind f) (List.map Nat.succ (List.range l.length))=l.filterMap f:=by
   rw[List.filterMap_map,<- d];congr 1
  cases h:f a with
  | none=>rw[List.filterMap_cons_none (by simpa using h),List.filterMap_cons_none h,e]
  | some b=>rw[List.filterMap_cons_some (b:=b) (by simpa using h),List.filterMap_cons_some h,e]
abbrev Tg:=AI->Nat×Nat
def WT(H:Hp)(T:Tg):Prop:=∀b,H b=none->T b=(0,0)
structure gD(s:Nat)(H H':Hp)(T T':Tg):Prop where
 kp:∀b o,H b=some o->(T b).1≠s->H' b=some o
 al:∀b o,H b=some o->∃o',H' b=some o'
 tg:∀b o,H b=some o->T' b=T b
 wt:WT H' T'
def eZ(T:Tg)(a:AI)(v:Nat×Nat):Tg:=λx=>if x=a then v else T x
theorem fL{T:Tg}{a:AI}{v:Nat×Nat}:eZ T a v a=v:=by unfold eZ;rw[if_pos rfl]
theorem eE{T:Tg}{a b:AI}{v:Nat×Nat}(h:b≠a):eZ T a v b=T b:=by unfold eZ;rw[if_neg h]
theorem WT.same{H H':Hp}{T:Tg}(w:WT H T)(s:aX H H'):WT H' T:=λb h=>w b (s.free h)
theorem gD.refl{s:Nat}{H:Hp}{T:Tg}(w:WT H T):gD s H H T T:=⟨λ_ _ h _=>h,λ_ o h=>⟨o,h⟩,λ_ _ _=>rfl,w⟩
theorem gD.same{s:Nat}{H H':Hp}{T:Tg}(w:WT H T)(e:aX H H'):gD s H H' T T:=⟨λb o h _=>e b o h,λb o h=>⟨o,e b o h⟩,λ_ _ _=>rfl,w.same e⟩
theorem gD.trans{s:Nat}{H f d:Hp}{T e c:Tg}(a:gD s H f T e)(b:gD s f d e c):gD s H d T c where
 kp:=λx o h n=>b.kp x o (a.kp x o h n) (by rw[a.tg x o h];exact n)
 al:=λx o h=>by
  obtain⟨o1,h1⟩:=a.al x o h;exact b.al x o1 h1
 tg:=λx o h=>by
  obtain⟨o1,h1⟩:=a.al x o h;rw[b.tg x o1 h1,a.tg x o h]
 wt:=b.wt
theorem gD.upd{s:Nat}{H:Hp}{T:Tg}{a:AI}{o c:HO}(w:WT H T)(f:H a=some o)(d:(T a).1=s):gD s H (L2.upd H a c) T T where
 kp:=λx u h n=>by
  have:x≠a:=λe=>n (by rw[e];exact d);rw[aD this];exact h
 al:=λx u h=>by
  by_cases e:x=a
  ·exact⟨c,by rw[e,aq]⟩
  ·exact⟨u,by rw[aD e];exact h⟩
 tg:=λ_ _ _=>rfl
 wt:=λb h=>w b (by
  by_cases e:b=a
  ·rw[e,aq]at h;cases h
  ·rw[aD e]at h;exact h)
theorem RC{T:Tg}{a b:AI}{x y:Nat×Nat}(c:T a=x)(hb:T b=y)(h:x≠y):a≠b:=λe=>h (by rw[<- c,<- hb,e])
theorem Znq{J:It}{b:List Nat}{tc:TT}{o:TE}{σ:St}{H:Hp}{Q:VK}(k:Nat)(hz:k<=1000000)(R:Nat->V->Hp->Prop)(mono:∀i y a f,R i y a->aX a f->R i y f)
  (d:∀H',aX H H'->J.stop k H') (n:∀i H',i<k->aX H H'->J.go i H')
  (hy:∀i x a H',i<k->aX H a->J.yld i a x H'->H'=a/\(∀q:Bool->Hp->Prop,q true a->tc (some x::b.map bj) a q)/\∀q:VK,(∀y f,aX a f->R i y f->q y f)->o (some x::b.map bj) a q)
  (q:∀c H',aX H H'->c.length=k->(∀(i:Nat) y,c[i]? =some y->R i y H')->∀p,H' p=none->Q (.ref p) (upd H' p (.lst c))):
  LCg J b tc o σ H Q:=by
 refine⟨λi m c H'=>aX H H'/\i<=k/\m=k - i/\c.length=i/\∀(j:Nat) y,c[j]? =some y->R j y H',⟨k,aX.refl _,Nat.zero_le _,rfl,rfl,λj y e=>by simp at e⟩,?_⟩;rintro i m c a ⟨h,v,rfl,hl,hr⟩
 by_cases hk:i=k
 ·subst hk;exact .inl ⟨d a h,q c a h hl hr⟩
 ·have g:i<k:=δ
  refine .inr ⟨n i a g h,Nat.lt_of_le_of_lt (show c.length<=1000000 by omega) (show 1000000<sizeLine by decide),λx H' y=>?_⟩;obtain⟨rfl,h1,h2⟩:=hy i x a H' g h y;refine h1 _ (Ze1 (h2 _ λy f s r=>⟨k - cy,δ,h.trans s,δ,rfl,by rw[List.length_append,hl];rfl,λj z e=>?_⟩))
  by_cases u:j<c.length
  ·rw[List.getElem?_append_left u]at e;exact mono j z _ _ (hr j z e) s
  ·have l:=(cI e).1;rw[List.length_append,List.length_singleton]at l;have t:j=c.length:=δ
   subst t;rw[List.getElem?_append_right Δ,Nat.sub_self]at e;cases e;rw[hl];exact r
theorem Zqd{b:List Nat}{tc:TT}{h:TE}{σ:St}{H:Hp}{Q:VK}{n:Nat}{z:Int}(k:z.toNat=n)(hz:n<=1000000)(R:Nat->V->Hp->Prop)(mono:∀i y a c,R i y a->aX a c->R i y c)
  (e:∀i a,∀q:Bool->Hp->Prop,q true a->tc (some (.int i)::b.map bj) a q)
  (f:∀(i:Nat) a,i<n->aX H a->∀q:VK,(∀y c,aX a c->R i y c->q y c)->h (some (.int i)::b.map bj) a q)
  (q:∀g H',aX H H'->g.length=n->(∀(i:Nat) y,g[i]? =some y->R i y H')->∀p,H' p=none->Q (.ref p) (upd H' p (.lst g))):LCg (Itr 0 z.toNat) b tc h σ H Q:=by
 subst k;refine Znq z.toNat hz R mono (λ_ _=>Nat.le_refl _) (λi _ d _=>d) (λi x a H' d l y=>?_) q;obtain⟨m,j⟩:=y;have ex:x=.int i:=by rw[j];simp
 subst ex;exact⟨m,e i a,λq hq=>f i a d l q hq⟩
theorem Zqe{J:It}{d:List Nat}{tc:TT}{A:TE}{σ:St}{H:Hp}{Q:VK}(k:Nat)(hz:k<=1000000)(R:Nat->AI->Hp->Prop)(mono:∀i y c g,R i y c->aX c g->R i y g)(al:∀i y c,R i y c->∃o,c y=some o)
  (f:∀H',aX H H'->J.stop k H') (t:∀i H',i<k->aX H H'->J.go i H')
  (hy:∀i x c H',i<k->aX H c->J.yld i c x H'->H'=c/\(∀q:Bool->Hp->Prop,q true c->tc (some x::d.map bj) c q)/\∀q:VK,(∀r g,aX c g->c r=none->R i r g->q (.ref r) g)->A (some x::d.map bj) c q)
  (q:∀(rs:AF) H',aX H H'->rs.length=k->rs.Nodup->(∀r∈rs,H r=none)->(∀(i:Nat) r,rs[i]? =some r->R i r H')->∀p,H' p=none->Q (.ref p) (upd H' p (.lst (rs.map V.ref)))):
  LCg J d tc A σ H Q:=by
 refine⟨λi m F H'=>∃rs:AF,F=rs.map V.ref/\aX H H'/\i<=k/\m=k - i/\rs.length=i/\rs.Nodup/\(∀r∈rs,H r=none)/\∀(j:Nat) r,rs[j]? =some r->R j r H',⟨k,[],rfl,aX.refl _,Nat.zero_le _,rfl,rfl,List.nodup_nil,λr hr=>(nomatch hr),λj y e=>by simp at e⟩,?_⟩;rintro i m _ c ⟨rs,rfl,h,I,rfl,hl,nd,v,hr⟩
 by_cases hk:i=k
 ·subst hk;exact .inl ⟨f c h,q rs c h hl nd v hr⟩
 ·have l:i<k:=δ
  refine .inr ⟨t i c l h,Nat.lt_of_le_of_lt (show(rs.map V.ref).length<=1000000 by rw[aR];omega) (show 1000000<sizeLine by decide),λx H' y=>?_⟩;obtain⟨rfl,h1,h2⟩:=hy i x c H' l h y;refine h1 _ (Ze1 (h2 _ λr g C w D=>⟨k - cy,δ,rs++[r],by rw[List.map_append];rfl,h.trans C,δ,rfl,by rw[List.length_append,hl];rfl,?_,λz hz=>?_,λj z e=>?_⟩))
  ·rw[List.nodup_append];refine⟨nd,ζ,λa E b hb e=>?_⟩;rw[List.mem_singleton.mp hb]at e;subst e;obtain⟨j,u,s⟩:=List.getElem_of_mem E;obtain⟨o,B⟩:=al j a _ (hr j a (by rw[bG u,s]));rw[w]at B;cases B
  ·rcases List.mem_append.mp hz with hz | hz
   ·exact v z hz
   ·rw[List.mem_singleton.mp hz];exact h.free w
  ·by_cases u:j<rs.length
   ·rw[List.getElem?_append_left u]at e;exact mono j z _ _ (hr j z e) C
   ·have n:=(cI e).1;rw[List.length_append,List.length_singleton]at n;have s:j=rs.length:=δ
    subst s;rw[List.getElem?_append_right Δ,Nat.sub_self]at e;cases e;rw[hl];exact D
theorem R1{K:aB}{a:AI}{xs:List V}{c:List Nat}{tc:TT}{h:TE}{σ:St}{H:Hp}{Q:VK}(hs:bN K H a xs)(hz:xs.length<=1000000)(R:Nat->AI->Hp->Prop)(mono:∀i y b d,R i y b->aX b d->R i y d)(al:∀i y b,R i y b->∃o,b y=some o)
  (e:∀x b,∀q:Bool->Hp->Prop,q true b->tc (some x::c.map bj) b q)
  (f:∀(i:Nat) x b,xs[i]? =some x->aX H b->∀q:VK,(∀r d,aX b d->b r=none->R i r d->q (.ref r) d)->h (some x::c.map bj) b q)
  (q:∀(rs:AF) H',aX H H'->rs.length=xs.length->rs.Nodup->(∀r∈rs,H r=none)->(∀(i:Nat) r,rs[i]? =some r->R i r H')->∀p,H' p=none->Q (.ref p) (upd H' p (.lst (rs.map V.ref)))):LCg (Itl K a) c tc h σ H Q:=by
 refine Zqe xs.length hz R mono al (λH' s=>⟨xs,s.seq hs,Nat.le_refl _⟩) (λi H' g s=>⟨xs,xs[i],s.seq hs,bG g⟩) (λi x b H' g j y=>?_) q;obtain⟨l,k⟩:=y;exact⟨l,e x b,λq hq=>f i x b (k xs (j.seq hs)) j q hq⟩
end G
namespace G
open PySem L2 PySem.Spec PyProof.Rows
theorem boot_isinstance:bootBuiltins "isinstance"=some (.builtin "isinstance"):=γ
theorem boot_len:bootBuiltins "len"=some (.builtin "len"):=γ
theorem boot_int:bootBuiltins "int"=some (.type "int"):=γ
theorem boot_str:bootBuiltins "str"=some (.type "str"):=γ
theorem boot_bool:bootBuiltins "bool"=some (.type "bool"):=γ
theorem boot_list:bootBuiltins "list"=some (.type "list"):=γ
theorem boot_tuple:bootBuiltins "tuple"=some (.type "tuple"):=γ
structure Zvh(K:aB)(x qual:Str)(st:Stmt)(f:AI)(fd:AL):Prop where
 ex:∃(oc:AJ) (od:Option AI) (dV kV doc pm:AJ) (an:Option AI) (cdv ct:AJ) (osl:Array AB),
  fd=W.fnOf x qual (jB st) (gG st) (aG st) dV kV doc pm an cdv ct/\K.lookup f=some ⟨oc,od,.func fd,osl⟩/\W.codeIn K cdv qual=true
 kp:W.keepIn K (.ref f)=true
section
variable {P:AM}{w:AO}{K:aB}{mg:As}{base:Heap}
theorem Zqx{x a:Str}{st:Stmt}{f:AI}{oc dV:AJ}{od g:Option AI}{e:Array AB}{kV d h b ct:AJ}(l:K.lookup f=some ⟨oc,od,.func (W.fnOf x a (jB st) (gG st) (aG st) dV kV d h g b ct),e⟩)
  (c:W.codeIn K b a=true) (k:W.keepIn K (.ref f)=true):Zvh K x a st f (W.fnOf x a (jB st) (gG st) (aG st) dV kV d h g b ct):=⟨⟨oc,od,dV,kV,d,h,g,b,ct,e,rfl,l,c⟩,k⟩
theorem Zv7{f d:AI}{oc tc:AJ}{od b:Option AI}{c ts:Array AB}{fd:AL}{a:Array AJ}{tn:Nat}{ps:AH}{ds:AC}(_:K.lookup f=some ⟨oc,od,.func fd,c⟩)(t:K.lookup d=some ⟨tc,b,.seq a tn,ts⟩)
  (h:∀us:AC,us.length+ds.length=ps.length->∃k,bindArgs fd ⟨us,[]⟩=seqItems? (.ref d) >>= k/\k (some a)=pure (ps.zip (us++ds))) (hd:fd.defaults=.ref d:=by rfl):Binds K fd ps ds:=by
 intro s us e hl;obtain⟨k,h1,h2⟩:=h us (by rw[List.length_append]at hl;exact hl);exact BindsTo.of_defaults hd (e _ _ t) rfl (by rw[h1,hd]) h2
end
section
variable {X:Cx}
theorem pW:tK X (compareOp .Is) Jf:=Zta
theorem oW:tK X (compareOp .IsNot) uG:=Zpz
theorem bT:Im X (.builtin "len") (gm X.K):=Zaw
def kk(t n:String):Option Bool:=if (Value.type t == Value.type n)=true then some true else if W.kitMeta n=true then(fastBuiltinMro t).map (·.contains (.type n))else none
theorem Ztt(K:aB)(t n:String):W.kitOne K (.type t) (.type n)=kk t n:=rfl
theorem Zgf:kk "int" "int"=some true:=γ
theorem Zdv:kk "int" "bool"=some false:=γ
theorem Zge:kk "int" "str"=some false:=γ
theorem Zdt:kk "int" "list"=some false:=γ
theorem Za1:kk "int" "tuple"=some false:=γ
theorem Zdu:kk "int" "dict"=some false:=γ
theorem Zdz:kk "bool" "int"=some true:=γ
theorem Za7:kk "bool" "bool"=some true:=γ
theorem Zdy:kk "bool" "str"=some false:=γ
theorem Za5:kk "bool" "list"=some false:=γ
theorem Vq:kk "bool" "tuple"=some false:=γ
theorem Za6:kk "bool" "dict"=some false:=γ
theorem Zgd:kk "str" "int"=some false:=γ
theorem Zdq:kk "str" "bool"=some false:=γ
theorem Zgc:kk "str" "str"=some true:=γ
theorem Zdo:kk "str" "list"=some false:=γ
theorem Z7:kk "str" "tuple"=some false:=γ
theorem Zdp:kk "str" "dict"=some false:=γ
theorem O1:kk "NoneType" "int"=some false:=γ
theorem Jy:kk "NoneType" "bool"=some false:=γ
theorem OJ:kk "NoneType" "str"=some false:=γ
theorem Jw:kk "NoneType" "list"=some false:=γ
theorem G5:kk "NoneType" "tuple"=some false:=γ
theorem Jx:kk "NoneType" "dict"=some false:=γ
theorem Zds:kk "list" "int"=some false:=γ
theorem Za0:kk "list" "bool"=some false:=γ
theorem Zdr:kk "list" "str"=some false:=γ
theorem Z8:kk "list" "list"=some true:=γ
theorem Vo:kk "list" "tuple"=some false:=γ
theorem Z9:kk "list" "dict"=some false:=γ
theorem Z6:kk "tuple" "int"=some false:=γ
theorem Vn:kk "tuple" "bool"=some false:=γ
theorem Z5:kk "tuple" "str"=some false:=γ
theorem Vl:kk "tuple" "list"=some false:=γ
theorem R3:kk "tuple" "tuple"=some true:=γ
theorem Vm:kk "tuple" "dict"=some false:=γ
theorem Zdx:kk "dict" "int"=some false:=γ
theorem Za4:kk "dict" "bool"=some false:=γ
theorem Zdw:kk "dict" "str"=some false:=γ
theorem Za2:kk "dict" "list"=some false:=γ
theorem Vp:kk "dict" "tuple"=some false:=γ
theorem Za3:kk "dict" "dict"=some true:=γ
theorem Zsh{H:Hp}{x:V}{t:String}(e:tyN H x=some t):t="int"\/t="bool"\/t="str"\/t="NoneType"\/t="list"\/t="tuple"\/t="dict":=by
 unfold tyN at e;split at e<;>(first | (cases e;simp) | (split at e<;>(first | (cases e;simp) | cases e)) | cases e)
theorem Zu1{t n:String}{k:Bool}(e:rB t n=some k):n="int"\/n="bool"\/n="str"\/n="list"\/n="tuple"\/n="dict":=by
 unfold rB at e
 by_cases h:(["int","bool","str","list","tuple","dict"].contains n)=true
 ·simpa using h
 ·rw[if_neg h]at e;cases e
theorem Zwh{H:Hp}{x:V}{t n:String}{k:Bool}(a:tyN H x=some t)(e:rB t n=some k):kk t n=some k:=by
 rcases Zsh a with rfl | rfl | rfl | rfl | rfl | rfl | rfl<;>rcases Zu1 e with rfl | rfl | rfl | rfl | rfl | rfl
 ·rw[M6]at e;rw[Zgf];exact e
 ·rw[G9]at e;rw[Zdv];exact e
 ·rw[Ze4]at e;rw[Zge];exact e
 ·rw[Zae]at e;rw[Zdt];exact e
 ·rw[Vx]at e;rw[Za1];exact e
 ·rw[Zaf]at e;rw[Zdu];exact e
 ·rw[Zaj]at e;rw[Zdz];exact e
 ·rw[VG]at e;rw[Za7];exact e
 ·rw[Zai]at e;rw[Zdy];exact e
 ·rw[VD]at e;rw[Za5];exact e
 ·rw[Su]at e;rw[Vq];exact e
 ·rw[VF]at e;rw[Za6];exact e
 ·rw[Ze3]at e;rw[Zgd];exact e
 ·rw[Zab]at e;rw[Zdq];exact e
 ·rw[M5]at e;rw[Zgc];exact e
 ·rw[Za9]at e;rw[Zdo];exact e
 ·rw[Vu]at e;rw[Z7];exact e
 ·rw[Zaa]at e;rw[Zdp];exact e
 ·rw[JF]at e;rw[O1];exact e
 ·rw[Hj]at e;rw[Jy];exact e
 ·rw[JD]at e;rw[OJ];exact e
 ·rw[Hg]at e;rw[Jw];exact e
 ·rw[Dl]at e;rw[G5];exact e
 ·rw[Hi]at e;rw[Jx];exact e
 ·rw[Zad]at e;rw[Zds];exact e
 ·rw[Vw]at e;rw[Za0];exact e
 ·rw[Zac]at e;rw[Zdr];exact e
 ·rw[Cm]at e;rw[Z8];exact e
 ·rw[Sq]at e;rw[Vo];exact e
 ·rw[Vv]at e;rw[Z9];exact e
 ·rw[Vt]at e;rw[Z6];exact e
 ·rw[Sh]at e;rw[Vn];exact e
 ·rw[Vs]at e;rw[Z5];exact e
 ·rw[Sd]at e;rw[Vl];exact e
 ·rw[xJ]at e;rw[R3];exact e
 ·rw[Sg]at e;rw[Vm];exact e
 ·rw[Zah]at e;rw[Zdx];exact e
 ·rw[VB]at e;rw[Za4];exact e
 ·rw[Zag]at e;rw[Zdw];exact e
 ·rw[Vy]at e;rw[Za2];exact e
 ·rw[Ss]at e;rw[Vp];exact e
 ·rw[Vz]at e;rw[Za3];exact e
theorem tyOf{K:aB}{H:Hp}{x:V}{t:String}(e:tyN H x=some t):JS K H x (.type t):=by
 cases x with
 | non=>cases e;exact .non
 | bl y=>cases e;exact .bl y
 | int y=>cases e;exact .int y
 | str y=>cases e;exact .str y
 | byt y=>cases e
 | flt y=>cases e
 | ty y=>cases e
 | ref a=>
  have b:(match H a with | some (.lst _)=>some "list" | some (.vH _ (.lst _))=>some "list" | some (.tup _)=>some "tuple" | some (.dK _)=>some "dict" | some (.dT _)=>some "dict" | _=>none)=some t:=e;split at b
  ·rename_i h;cases b;exact .lst h
  ·rename_i h;cases b;exact .vH h
  ·rename_i h;cases b;exact .tup h
  ·rename_i h;cases b;exact .dK h
  ·rename_i h;cases b;exact .dT h
  ·cases b
theorem q8:Im X (.builtin "isinstance") JR:=by
 intro c s j H i us Q I r h;obtain⟨x,n,t,k,rfl,d,hk,q⟩:=h;obtain⟨u,f,rfl,e,g⟩:=vals2 r;have a:f=Value.type n:=g;subst a;exact Zkd (t:=.type t) (b:=k) I e (tyOf d) ((Ztt _ _ _).trans (Zwh d hk)) λtk=>⟨.bl k,H,I.tok _,rfl,q⟩
end
section
variable {X:Cx}
def GC(mg:As)(x:Str)(v:V):Prop:=∃u,mg x=some u/\RelV v u
theorem GC.pe{x:Str}{v:V}{a:Pos}(h:GC X.mg x v)(b:Gl X x)(hd:(x == ("__debug__":Str))=false:=by decide):PE X (.Name x a) (tC v):=by
 obtain⟨u,hm,r⟩:=h;exact Zpw b hm r hd
end
section
variable {X:Cx}
theorem Zqb(z:Str)(k:Int):Txt.mul z k=Zjv z k:=by
 unfold Txt.mul Zjv;have fl:∀(n:Nat) (a:List Nat),List.foldl (λd c=>d++c) a.toArray (List.replicate n z.cps)=(a++(List.replicate n z.cps.toList).flatten).toArray:=by
  intro n
  induction n with
  | zero=>intro a;simp
  | succ n b=>
   intro a;rw[List.replicate_succ,List.replicate_succ,List.foldl_cons,List.flatten_cons];have e:a.toArray++z.cps=(a++z.cps.toList).toArray:=ζ
   rw[e,b,List.append_assoc]
 split
 ·rename_i h
  have e:k.toNat=0:=δ
  rw[e];rfl
 ·rename_i h
  split
  ·rename_i h2
   rw[Bool.or_eq_true]at h2;rcases h2 with h2 | h2
   ·have e:k.toNat=1:=by have:=beq_iff_eq.mp h2;omega
    rw[e];simp
   ·have e:z.cps=#[]:=Array.eq_empty_of_size_eq_zero (beq_iff_eq.mp h2);obtain⟨f⟩:=z;dsimp only at e;subst e;have:∀n:Nat,(List.replicate n ([]:List Nat)).flatten=[]:=λn=>by
     induction n with
     | zero=>rfl
     | succ n b=>rw[List.replicate_succ,List.flatten_cons,b];rfl
    simp[this]
  ·have:=fl k.toNat [];simp only[List.nil_append]at this;show(⟨List.foldl (λd c=>d++c) #[] (List.replicate k.toNat z.cps)⟩:Str)=_;rw[this]
theorem Qo(z:Str)(k:Int):(Zjv z k).length=k.toNat * z.length:=by
 show(List.toArray _).size=_;rw[List.size_toArray];have:∀n:Nat,(List.replicate n z.cps.toList).flatten.length=n * z.length:=λn=>by
  induction n with
  | zero=>simp
  | succ n a=>rw[List.replicate_succ,List.flatten_cons,List.length_append,a,str_len,Nat.succ_mul,Nat.add_comm]
 exact this _
theorem Zic:tK X (binaryOp .Mult) Zi8:=by
 intro a s j H x y v u Q I b d h;obtain⟨z,k,rfl,rfl,g,h1,h2,q⟩:=h;obtain⟨t,rfl⟩:=b;obtain⟨i,rfl⟩:=d;have hb:k.toNat * z.length<=1000000:=Nat.le_trans (Nat.mul_le_mul (show k.toNat<=1000 by omega) h2) ε;refine SB.mul ⟨?_,λf _=>?_,λf _=>?_⟩ λc kk=>?_
 ·simp;omega
 ·intro z1;have:(z.length:Int)<=1000:=δ
  have e:(1000:Int)<(2 ^ 63 - 1) / k:=by
   have hk:0<k:=δ
   rw[Int.lt_iff_add_one_le,Int.le_ediv_iff_mul_le hk];omega
  omega
 ·unfold Builtin.Str.tooLong;have:z.length * k.toNat<=1000000:=by rw[Nat.mul_comm];exact hb
  simp;exact Nat.le_trans this ε
 ·rw[Zqb];exact⟨.str (Zjv z k),H,I.tok _,⟨_,rfl⟩,q _ (by rw[Qo];exact hb) rfl⟩
end
end G
namespace G
open PySem L2
end G
namespace G
open PySem L2 PySem.Spec PyProof.Rows
section
variable {X:Cx}{pins:At}{σ:L2.St}{H:Hp}{s:AK}{acc:AI}{ys:List V}{its:AC}{n:Nat}
theorem adopt(I:Inv X pins σ H s)(h:qd X pins H acc)(i:s.heap.get? acc=some { cls:=.type "list",data:=.seq its.toArray n })(hv:Vals ys its)(hz:ys.length<=sizeLine):Inv X pins σ (upd H acc (.lst ys)) s:=by
 obtain⟨k,g,p,j,l,a⟩:=h;have ne:∀b u,H b=some u->b≠acc:=λb u e=>aF e k;refine I.step (h':=s.heap) (g':=s.gens) (t':=s.toks) (d':=s.drawn) (ch:=[acc]) (λb hb=>?_) (λ_ _ _ _ _ e _=>e) (λb o _ _ _ e _=>⟨o.slots,e⟩) (λb o hb e d=>?_) (λb o _ e=>⟨o,e⟩)
  (λb f e=>by rw[aD (ne b _ e)];exact e) (λb o u e=>by rw[aD (ne b _ e)];exact e) (λb r e=>⟨#[],by rw[aD (ne b _ e),e];simp⟩) (λm hm=>hm) (λb u e=>?_) I.bare
 ·have e:b=acc:=by simpa using hb
  subst e;exact⟨j,g,l,a⟩
 ·have e:b≠acc:=by simpa using hb
  rw[aD e];exact d
 ·by_cases hb:b=acc
  ·subst hb;rw[aq]at e;cases e;exact⟨hz,its,n,hv,i⟩
  ·rw[aD hb]at e;exact(I.hok b u e).stay (λ_ _ _ q=>q) (λc q=>by rw[aD (ne c _ q)];exact q) λc f q=>by rw[aD (ne c _ q)];exact q
theorem disown(I:Inv X pins σ (upd H acc (.lst ys)) s)(j:qd X pins H acc):Inv X pins σ H s:=by
 obtain⟨l,h,p,k,n,f⟩:=j;have back:∀b u,upd H acc (.lst ys) b=some u->u≠.lst ys->H b=some u:=λb u e a=>by
  by_cases hb:b=acc
  ·subst hb;rw[aq]at e;cases e;exact absurd rfl a
  ·rw[aD hb]at e;exact e
 refine I.step (h':=s.heap) (g':=s.gens) (t':=s.toks) (d':=s.drawn) (ch:=[acc]) (λb hb=>?_) (λ_ _ _ _ _ e _=>e) (λb o _ _ _ e _=>⟨o.slots,e⟩) (λb o hb e d=>?_) (λb o _ e=>⟨o,e⟩)
  (λb g e=>back b _ e ai) (λb o u e=>back b _ e ai) (λb r e=>⟨#[],by rw[back b _ e ai];simp⟩) (λm hm=>hm) (λb u e=>?_) I.bare
 ·have e:b=acc:=by simpa using hb
  subst e;exact⟨k,h,n,f⟩
 ·have e:b≠acc:=by simpa using hb
  rw[aD e]at d;exact d
 ·have hb:b≠acc:=aF e l;have i:upd H acc (.lst ys) b=some u:=by rw[aD hb];exact e
  exact(I.hok b u i).stay (λ_ _ _ q=>q) (λc q=>back c _ q ai) λc g q=>back c _ q ai
end
def PF(X:Cx)(b:AG)(t:TT):Prop:=
 ∀(a:At) (s:AK) (σ:L2.St) (H:Hp) (Q:Bool->Hp->Prop),Inv X a σ H s->t σ H Q->
  wpAny ς X.A (forIn b true λc r=>if r=true then do let ok <- isTrue c X.env (eval c X.env);pure (ForInStep.yield ok)else pure (ForInStep.yield r)) (TP X a σ Q) X.xe s
theorem Di{X:Cx}:PF X [] uo:=λ_ _ _ H _ I h=>wpAny_tests_nil ⟨H,I,h⟩
theorem Jh{X:Cx}{c:AN}{t:TT}(h:PT X c t):PF X [c] t:=λa s σ H Q I q=>wpAny_tests_one (h a s σ H Q I q)
def JP(X:Cx)(a:Scope)(cl:List (Str×AI))(N:AH)(C:AI)(s:AK)(H:Hp)(ex:AF)(pn:At):Cx:=
 { X with N:=N,s₀:=s,H₀:=H,env:=compEnvC a cl C X.env,outer:=X.stack,ex:=ex,fn:=λ_=>false,pn:=pn,xe:=λ_ _=>False }
def AllIn(cells:List (Str×AI)):List (Str×AI)->Prop
 | []=>True
 | p::r=>cells.lookup p.1=some p.2/\AllIn cells r
theorem AllIn.get{cells:List (Str×AI)}:∀{cl:List (Str×AI)},AllIn cells cl->∀{x:Str}{c:AI},cl.lookup x=some c->cells.lookup x=some c
 | [],_,x,c,h=>by cases h
 | (y,d)::r,a,x,c,h=>by
  cases e:(x == y)with
  | true=>
   rw[List.lookup_cons,e]at h;have b:x=y:=beq_iff_eq.mp e;subst b;cases h;exact a.1
  | false=>
   rw[List.lookup_cons,e]at h;exact AllIn.get a.2 h
def xT(X:Cx):AH->List Nat->Prop
 | [],[]=>True
 | y::r,j::js=>X.N[j]? =some y/\X.env.kindOf y=some .cell/\xT X r js
 | _,_=>False
theorem xT.len{X:Cx}:∀{ns:AH}{js:List Nat},xT X ns js->ns.length=js.length
 | [],[],_=>rfl
 | [],_::_,h=>h.elim
 | _::_,[],h=>h.elim
 | _::r,_::js,h=>by rw[List.length_cons,List.length_cons,xT.len h.2.2]
theorem xT.get{X:Cx}{σ:L2.St}:∀{ns:AH}{js:List Nat},xT X ns js->∀{i:Nat}{x:Str}{v:V},ns[i]? =some x->(js.map bj)[i]? =some (some v)->∃j:Nat,X.N[j]? =some x/\X.env.kindOf x=some .cell/\σ[j]? =some (some v)
 | [],_,_,i,x,v,h,_=>by simp at h
 | _::_,[],h,_,_,_,_,_=>h.elim
 | y::r,j::js,h,0,x,v,h1,h2=>by
  simp at h1 h2;subst h1;refine⟨j,h.1,h.2.1,?_⟩;unfold pick at h2;split at h2
  ·rename_i e;rw[e,h2]
  ·cases h2
 | y::r,j::js,h,i+1,x,v,h1,h2=>xT.get (i:=i) h.2.2 (by simpa using h1) (by simpa using h2)
theorem Znk{x n:Str}{k:NameKind}{r:List (Str×NameKind)}(h:(x == n)=false):List.lookup x ((n,k)::r)=List.lookup x r:=by rw[List.lookup_cons,h]
theorem Znl{x n:Str}{k:NameKind}{r:List (Str×NameKind)}(h:(x == n)=true):List.lookup x ((n,k)::r)=some k:=by rw[List.lookup_cons,h]
def Qp(env:Env)(x:Str)(k:NameKind):NameKind:=if (k == NameKind.free && env.scope.kind == .function && env.kindOf x == some .cell)=true then .cell else k
theorem qR{env:Env}{x:Str}:∀{names:List (Str×NameKind)},
  (names.map λ(n,k)=>if (k == NameKind.free && env.scope.kind == .function && env.kindOf n == some .cell)then(n,NameKind.cell)else(n,k)).lookup x=(names.lookup x).map (Qp env x)
 | []=>rfl
 | (n,a)::r=>by
  have b:=@qR env x r;show List.lookup x ((if (a == NameKind.free && env.scope.kind == .function && env.kindOf n == some .cell)=true then(n,NameKind.cell)else(n,a))::r.map λ(n,k)=>if (k == NameKind.free && env.scope.kind == .function && env.kindOf n == some .cell)then(n,NameKind.cell)else(n,k))=_;cases hx:x == n with
  | true=>
   have e:=beq_iff_eq.mp hx;subst e;rw[Znl (k:=a) hx]
   by_cases hc:(a == NameKind.free && env.scope.kind == .function && env.kindOf x == some .cell)=true
   ·rw[if_pos hc,Znl hx];show some NameKind.cell=some (Qp env x a);unfold Qp;rw[if_pos hc]
   ·rw[if_neg hc,Znl hx];show some a=some (Qp env x a);unfold Qp;rw[if_neg hc]
  | false=>
   rw[Znk (k:=a) (r:=r) hx]
   by_cases hc:(a == NameKind.free && env.scope.kind == .function && env.kindOf n == some .cell)=true
   ·rw[if_pos hc,Znk hx];exact b
   ·rw[if_neg hc,Znk hx];exact b
theorem lookup_all{names:List (Str×NameKind)}{p:Str×NameKind->Bool}:∀{x:Str}{k:NameKind},names.all p=true->names.lookup x=some k->p (x,k)=true:=by
 induction names with
 | nil=>intro x k _ h;simp at h
 | cons y r d=>
  intro x k a h;obtain⟨n,b⟩:=y;rw[List.all_cons,Bool.and_eq_true]at a;cases hx:x == n with
  | true=>
   rw[List.lookup_cons,hx]at h;have e:x=n:=beq_iff_eq.mp hx;have c:b=k:=Option.some.inj h;rw[e,<- c];exact a.1
  | false=>
   rw[List.lookup_cons,hx]at h;exact d a.2 h
theorem Zel{prog:AM}{w:AO}{A:Around}{R:Result->AK->Prop}{s:AK}{q a iter:AN}{p:AG}{d:Scope}{B:Pos}{C acc:AJ}{env:Env}(I:Nat->AK->Prop)
  (turn:∀n s,I n s->wpAny af A (pyNext C) (λr g=>match r with
   | none=>R (.ok .next) g
   | some v=>wpAny af A (letOwnedTupleGo a C v) (λ_ b=>wpAny af A (assign a env v) (λ_ o=>
     wpAny af A (forIn p true λc r=>if r=true then do let ok <- isTrue c env (eval c env);pure (ForInStep.yield ok)else pure (ForInStep.yield r)) (λok e=>
      if ok=true then wpAny af A (eval q env) (λx l=>
       wpAny af A (call (.builtin "list.append") [acc,x]) (λ_ i=>∃m,m<n/\I m i) (λ_ _=>False) l) (λ_ _=>False) e
      else ∃m,m<n/\I m e) (λ_ _=>False) o) (λ_ _=>False) b) (λ_ _=>False) g) (λ_ _=>False) s)
  (n:Nat) (h:I n s):
  codeAny af A (.compLoop (.ListComp q [⟨a,iter,p,0⟩] d B) 0 C acc env) R s:=by
 refine codeAny_loop rfl I (λn s D=>?_) n h;show wpAny _ A ((compTurn (.ListComp q [⟨a,iter,p,0⟩] d B) 0 C acc env).onRaise (λx=>do noteFrame x env;theTreesLotGoes x)) _ _ s;refine wpAny_noted ?_;rw[compTurn_list];refine wpAny_bind (wpAny_standAt (wpAny_bind (wpAny_mono (turn n s D) (λr g j=>?_) λ_ _ f=>f.elim)));cases r with
 | none=>exact wpAny_pure j
 | some v=>
  refine wpAny_bind (wpAny_mono j (λ_ b t=>?_) λ_ _ f=>f.elim);refine wpAny_bind (wpAny_mono t (λ_ o y=>wpAny_bind (wpAny_mono y (λok e k=>?_) λ_ _ f=>f.elim)) λ_ _ f=>f.elim);cases ok with
  | false=>exact wpAny_pure ⟨rfl,k⟩
  | true=>
   exact wpAny_bind (wpAny_bind (wpAny_mono k (λx l z=>wpAny_bind (wpAny_mono z (λ_ i u=>wpAny_pure (wpAny_pure ⟨rfl,u⟩)) λ_ _ f=>f.elim)) λ_ _ f=>f.elim))
theorem Zim{X:Cx}{elt iter tg:AN}{pos:Pos}{ifs:AG}{f:Scope}{cl:List (Str×AI)}{wi:TI}{tc:TT}{te:TE}{cns:AH}{ns:AH}{gt:TG}{R:It->L2.St->Hp->VK->Prop}{use:Option (AJ->Sem Unit)}{Q0:Ap}{B:At}{s:AK}{σ:L2.St}{H:Hp}{Q:VK}(t:List Nat)
  (hR:∀J σ H Q,R J σ H Q->∃W:Nat->Nat->List V->Hp->Prop,(∃m,W 0 m [] H)/\∀i m L H,W i m L H->
   (J.stop i H/\∀p,H p=none->Q (.ref p) (upd H p (.lst L)))\/
   (J.go i H/\L.length<sizeLine/\∀x H',J.yld i H x H'->∀vs:L2.St,vs.length=ns.length->∃us:L2.St,us.length=ns.length/\gt x (vs++t.map bj) H' (λσ2 H2=>σ2=us++t.map bj/\H2=H')/\tc (us++t.map bj) H' λk H2=>if k=true then te (us++t.map bj) H2 (λy H3=>∃m',m'<m/\W cy m' (L++[y]) H3)else ∃m',m'<m/\W cy m' L H2))
  (hi:PI X tg iter wi) (hg:∀C s H ex pn,PG (JP X f cl (ns++cns) C s H ex pn) tg gt)
  (hf:∀C s H ex pn,PF (JP X f cl (ns++cns) C s H ex pn) ifs tc) (he:∀C s H ex pn,PE (JP X f cl (ns++cns) C s H ex pn) elt te) (hc:X.calm=true)
  (hclos:closureFor f X.env=pure cl) (hcl:AllIn X.env.cells cl) (hcap:xT X cns t)
  (hkind:f.kind=.function) (hcell:(f.names.all λp=>p.2 != .cell)=true) (hfree:(f.names.all λp=>p.2 != .free || (cl.lookup p.1).isSome)=true)
  (hcf:(cns.all λy=>f.names.lookup y == some .free)=true) (hnames:∀y∈f.names,y.2=.local->f.names.lookup y.1=some .local)
  (hs:∀v,foldedSetIterable iter X.env v=pure v)
  (I:Inv X B σ H s) (h:wi σ H λJ H1=>R J σ H1 Q)
  (hend:∀(acc C:AI) (s6:AK) (m:As) r0,s6.heap.Ns C m->(∀{Hf:Hp},Hf C=none->qd X B Hf C)->(∀h',Heap.SameBut C s6.heap h'->EP X B σ (λv Hf=>Q v Hf/\Hf C=none) (.ref acc) { s6 with heap:=h' })->compPost ς X.A X.xe use Q0 (.ref acc) C (.ok r0) s6):
  wpAny ς X.A (comprehension (.ListComp elt [⟨tg,iter,ifs,0⟩] f pos) f X.env (firstIterPos [⟨tg,iter,ifs,0⟩] pos) (newList []) (firstAsync [⟨tg,iter,ifs,0⟩]) (firstIter [⟨tg,iter,ifs,0⟩] X.env) use) Q0 X.xe s:=by
 refine wpAny_comprehension_free rfl hs hclos hkind hnames (fX (hi B s σ H _ I h) λxv s1 h1=>fX h1 λitv s2 h2=>?_);obtain⟨it,Z,tn,J,H2,rfl,F,T,st2,f2,hr⟩:=h2;obtain⟨W,⟨m0,w0⟩,turn⟩:=hR _ _ _ _ hr;have hne:∀y∈f.names,y.2≠.cell:=λy hy e=>by
  have:=List.all_eq_true.mp hcell y hy;rw[e]at this;simp at this
 refine wpAny_newObj_type (wpAny_newFunctionEnv hne (by intro y hy;simp at hy) (λh₁ P S=>?_) hkind);dsimp only at P S ⊢;generalize K:s2.heap.objs.size=acc;generalize hH3:s2.heap.push { cls:=.type "list",dict:=none,data:=.seq ([]:AC).toArray }=N at P S ⊢;have hC:N.objs.size=acc+1:=by rw[<- hH3,Heap.size_push,K]
 have E:∀b o,s2.heap.get? b=some o->N.get? b=some o:=λb o e=>hH3 ▸ Heap.get?_push_of_some _ e;have M:∀b o,N.get? b=some o->h₁.get? b=some o:=λb o e=>S.extBut b o (Nat.ne_of_lt (Heap.lt_size e)) (Heap.get?_push_of_some _ e);have Zy2:N.get? acc=some { cls:=.type "list",dict:=none,data:=.seq ([]:AC).toArray }:=by
  rw[<- hH3,<- K];exact Heap.get?_push_size _ rfl
 have I3:Inv X B σ H2 { s2 with heap:=N }:=F.kept (t':=s2.toks) E;have Zux:qd X B H2 acc:=F.Zgv (Nat.le_of_eq K) (F.hok.fresh (Nat.le_of_eq K));have fpl:∀b∈Z,b<acc:=λb hb=>by
  obtain⟨o,e,_⟩:=T.obj _ _ st2 b hb;rw[<- K];exact Heap.lt_size e
 have Zl0:∀b∈acc::Z,qd X B H2 b:=λb hb=>(List.mem_cons.mp hb).elim (λe=>e ▸ Zux) (f2 b);have exC:∀b∈acc::Z,b≠N.objs.size:=λb hb=>by
  rcases List.mem_cons.mp hb with e | hb
  ·rw[hC,e];exact Nat.ne_of_lt (Nat.lt_succ_self _)
  ·rw[hC];exact Nat.ne_of_lt (Nat.lt_succ_of_lt (fpl b hb))
 have Zfc:∀b∈acc::Z,b∉frs X.stack:=λb hb hm=>by
  obtain⟨_,g1,g2,_⟩:=Zl0 b hb;exact(List.mem_cons.mp (F.Iz b hm)).elim g1 g2
 let Y:Cx:=JP X f cl (ns++cns) N.objs.size { s2 with heap:=N } H2 (acc::Z) (X.pn++B)
 have g:∀y c,cl.lookup y=some c->X.env.cells.lookup y=some c:=λy c e=>hcl.get e;have Zin:∀y k,Y.env.kindOf y=some k->(k=.cell\/k=.free)->∃c,cl.lookup y=some c:=λy k e hk=>by
  have e0:(f.names.lookup y).map (Qp X.env y)=some k:=qR.symm.trans e;obtain⟨k0,e1,e2⟩:=Option.map_eq_some_iff.mp e0;have e3:=lookup_all hfree e1;have e4:=lookup_all hcell e1
  by_cases hf:k0=.free
  ·subst hf;rw[Bool.or_eq_true]at e3;rcases e3 with e3 | e3
   ·exact absurd rfl (bne_iff_ne.mp e3)
   ·exact Option.isSome_iff_exists.mp e3
  ·exfalso
   have e5:Qp X.env y k0=k0:=by
    unfold Qp;rw[if_neg];intro z;rw[Bool.and_eq_true,Bool.and_eq_true]at z;exact hf (beq_iff_eq.mp z.1.1)
   rw[e5]at e2;subst e2;rcases hk with rfl | rfl
   ·simp at e4
   ·exact hf rfl
 have okY:Y.Ok:={
  mod:=F.ok.mod
  kind:=hkind
  glob:=F.ok.glob
  blt:=F.ok.blt
  above:=Nat.le_refl _
  inj:=λa b c e1 e2=>F.ok.inj a b c (g _ _ e1) (g _ _ e2)
  has:=λy hy=>hy.elim (λe=>Zin y _ e (.inl rfl)) (λe=>Zin y _ e (.inr rfl))
  cab:=λy c e=>nomatch e
  hd:=F.ok.hd
  frames:=F.ok.frames
  stk:=.inl rfl
  exf:=λb hb=>⟨exC b hb,λy c e=>(Zl0 b hb).2.2.2.2.1 y c (g _ _ e)⟩
  bs:=λb o e=>⟨E b o (F.bs b o e).1,(F.bs b o e).2⟩
  bsz:=by
   show X.base.objs.size<=N.objs.size;rw[hC,<- K];exact Nat.le_succ_of_le (Nat.le_trans F.ok.bsz F.sz)
  Zd9:=λb o e hb=>by
   rcases(Zl0 b hb).2.2.2.1 with z | z
   ·exact F.ok.Zd9 b o e z
   ·exact absurd (Nat.lt_of_lt_of_le (Heap.lt_size e) (Nat.le_trans F.ok.bsz z)) (Nat.lt_irrefl _)
  Zgx:=Zfc
  vZ:=I3.stack
  frf:=I3.YM }
 have Zy9:(List.replicate ns.length none++t.map bj:L2.St).length=(ns++cns).length:=by rw[List.length_append,List.length_append,List.length_replicate,aR,hcap.len]
 have I4:Inv Y [] (List.replicate ns.length none++t.map bj) H2 { s2 with heap:=h₁,toks:=s2.toks+([]:List (Str×AJ)).length }:={
  ok:=okY
  os:=rfl
  bare:=F.bare
  base:=Un.kept M
  loc:=by
   refine⟨_,P,λi y v e1 e2 e3=>?_⟩
   by_cases hlt:i<ns.length
   ·have e2:(List.replicate ns.length none++t.map bj:L2.St)[i]? =some (some v):=e2;rw[List.getElem?_append_left (by rw[List.length_replicate];exact hlt),List.getElem?_replicate,if_pos hlt]at e2;cases e2
   ·have e1':cns[i - ns.length]? =some y:=by
     have e1':(ns++cns)[i]? =some y:=e1;rw[List.getElem?_append_right δ]at e1';exact e1'
    have e2':(t.map bj:L2.St)[i - ns.length]? =some (some v):=by
     have e2:(List.replicate ns.length none++t.map bj:L2.St)[i]? =some (some v):=e2;rw[List.getElem?_append_right (by rw[List.length_replicate];omega),List.length_replicate]at e2;exact e2
    obtain⟨j,j1,j2,j3⟩:=hcap.get (σ:=σ) (i:=i - ns.length) (x:=y) (v:=v) e1' e2';obtain⟨m,hn,hl⟩:=F.loc;obtain⟨u,r,l⟩:=hl j y v j1 j3 (.inr (.inl j2));rcases l with ⟨l,_⟩ | ⟨_,c,l1,l2⟩
    ·rw[j2]at l;cases l
    ·refine⟨u,r,.inr ?_⟩;rcases e3 with e3 | e3 | e3
     ·exfalso
      have hm:y∈cns:=List.mem_of_getElem? e1';have hl:f.names.lookup y=some .free:=beq_iff_eq.mp (List.all_eq_true.mp hcf y hm);have e0:(f.names.lookup y).map (Qp X.env y)=some .local:=qR.symm.trans e3;rw[hl]at e0;have e5:Qp X.env y .free=.local:=Option.some.inj e0;unfold Qp at e5;split at e5<;>cases e5
     ·obtain⟨c',hc'⟩:=Zin y _ e3 (.inl rfl);have:=g _ _ hc';rw[l1]at this;cases this;exact⟨.inl e3,c,hc',l2.keeps λb o e=>M _ _ (E _ _ e)⟩
     ·obtain⟨c',hc'⟩:=Zin y _ e3 (.inr rfl);have:=g _ _ hc';rw[l1]at this;cases this;exact⟨.inr e3,c,hc',l2.keeps λb o e=>M _ _ (E _ _ e)⟩
  cell:=λy c e=>by
   obtain⟨v,z⟩:=F.cell y c (g _ _ e);exact⟨v,z.keeps λb o e=>M _ _ (E _ _ e)⟩
  free:=F.hok.fresh (by rw[K];show acc<=N.objs.size;rw[hC];exact Nat.le_succ _)
  qW:=λy c e=>F.qW y c (g _ _ e)
  pin:=λp hp=>by
   have hp2:p∈(X.pn++B)++[]:=hp;have hp':p∈X.pn++B:=by rw[List.append_nil]at hp2;exact hp2
   obtain⟨p1,p2,p3,p4,p5⟩:=F.pin p hp';refine⟨M _ _ (E _ _ p1),p2,?_,λhm=>(List.mem_cons.mp (F.Iz _ hm)).elim p3 p4,p5⟩;exact Nat.ne_of_lt (by show p.1<N.objs.size;exact Heap.lt_size (E _ _ p1))
  hok:=F.hok.kept λb u e=>M _ _ (E _ _ e)
  len:=Zy9 }
 have fpY:∀{H':Hp}{pl:At}{b:AI},b∈acc::Z->H' b=none->(∀p∈pl,p.1≠b)->qd Y pl H' b:=λ{H' pl b} hb hn hp=>
  ⟨hn,exC b hb,Zfc b hb,.inl hb,λy c e=>(Zl0 b hb).2.2.2.2.1 y c (g _ _ e),λp hm=>(List.mem_append.mp hm).elim (λz=>(Zl0 b hb).2.2.2.2.2 p z) (hp p)⟩
 have fin:∀{U:L2.St}{H':Hp}{O:AK}{L:List V}{D:AC}{kk:Nat}{pl:At},Inv Y pl U H' O->H' acc=none->Vals L D->L.length<=sizeLine->
   O.heap.get? acc=some { cls:=.type "list",data:=.seq D.toArray kk }->(∀p,H' p=none->Q (.ref p) (upd H' p (.lst L)))->
   ∀h',Heap.SameBut N.objs.size O.heap h'->EP X B σ (λv Hf=>Q v Hf/\Hf N.objs.size=none) (.ref acc) { O with heap:=h' }:=λ{U H' O L D kk pl} J ha hv hz ho hq h' hs'=>by
  have Zxf:acc≠N.objs.size:=exC acc (List.mem_cons_self);have Ze0:∀b o,b≠N.objs.size->O.heap.get? b=some o->h'.get? b=some o:=λb o hb e=>hs'.extBut b o hb e;have ltC:∀b o,s2.heap.get? b=some o->b≠N.objs.size:=λb o e=>Nat.ne_of_lt (Heap.lt_size (E b o e));have Zgq:H' N.objs.size=none:=J.free;have un:Un (frs X.stack) (acc::Z) H2 H' s2.heap h':={
   keep:=λb o e n hb hx=>Ze0 b o (ltC b o e) (J.base.keep b o (E b o e) n hb hx)
   slot:=λb o e n hb hx=>by
    obtain⟨sl,q⟩:=J.base.slot b o (E b o e) n hb hx;exact⟨sl,Ze0 b _ (ltC b o e) q⟩
   free:=λb o e n hx=>J.base.free b o (E b o e) n hx
   there:=λb o e hx=>by
    obtain⟨o',q⟩:=J.base.there b o (E b o e) hx;exact⟨o',Ze0 b o' (ltC b o e) q⟩
   tups:=J.base.tups
   JK:=J.base.JK
   Oc:=J.base.Oc }
  have hok:zN X.prog X.w H' h':=λb u e=>by
   refine(J.hok b u e).stay (λc v hc q=>Ze0 c v ?_ q) (λ_ q=>q) λ_ _ q=>q;rintro rfl;rcases hc with rfl | hc
   ·rw[Zgq]at e;cases e
   ·rw[Zgq]at hc;cases hc
  have I5:Inv X B σ H' { O with heap:=h' }:=F.call' (ch:=acc::Z) J.os un hok J.bare λb hb=>by
   obtain⟨g0,g1,g2,g3,g4,g5⟩:=Zl0 b hb;exact⟨g3,g1,g4,g5⟩
  refine⟨.ref acc,_,adopt (acc:=acc) I5 ?_ (Ze0 _ _ Zxf ho) hv hz,rfl,hq acc ha,by rw[aD Zxf.symm];exact Zgq⟩;obtain⟨g0,g1,g2,g3,g4,g5⟩:=Zux;exact⟨ha,g1,g2,g3,g4,g5⟩
 have loop:codeAny ς X.A (.compLoop (.ListComp elt [⟨tg,iter,ifs,0⟩] f pos) 0 (.ref it) (.ref acc) Y.env) (compPost ς X.A X.xe use Q0 (.ref acc) N.objs.size)
   { s2 with heap:=h₁,toks:=s2.toks+([]:List (Str×AJ)).length }:=by
  refine Zel (λn O=>∃(i:Nat) (v:L2.St) (L:List V) (D:AC) (kk:Nat) (H':Hp),v.length=ns.length/\Inv Y [] (v++t.map bj) H' O/\tn i O.heap/\(∀b∈Z,H' b=none)/\H' acc=none/\Vals L D/\L.length<=sizeLine/\
   O.heap.get? acc=some { cls:=.type "list",data:=.seq D.toArray kk }/\W i n L H') ?_ m0 ⟨0,List.replicate ns.length none,[],[],0,H2,List.length_replicate,I4,T.keep _ _ _ st2 (λb _ o e=>M _ _ (E _ _ e)),λb hb=>(f2 b hb).1,Zux.1,.nil,Nat.zero_le _,M _ _ Zy2,w0⟩
  rintro n s5 ⟨i,v,L,D,kk,H5,lv,I5,st5,fr5,ha5,hv5,hz5,ho5,w5⟩;have Zvx:Inv Y [(acc,{ cls:=.type "list",data:=.seq D.toArray kk })] (v++t.map bj) H5 s5:=I5.zT λp hp=>by
   have e:p=(acc,{ cls:=.type "list",data:=.seq D.toArray kk }):=by simpa using hp
   subst e;exact⟨ho5,ha5,exC acc List.mem_cons_self,Zfc acc List.mem_cons_self,λv=>by intro z;cases z⟩
  have fpA:∀{H':Hp},(∀b∈Z,H' b=none)->∀b∈Z,qd Y [(acc,{ cls:=.type "list",data:=.seq D.toArray kk })] H' b:=λhn b hb=>fpY (List.mem_cons_of_mem _ hb) (hn b hb) λp hp=>by
   have e:p=(acc,{ cls:=.type "list",data:=.seq D.toArray kk }):=by simpa using hp
   subst e;exact(Nat.ne_of_lt (fpl b hb)).symm
  rcases turn i n L H5 w5 with ⟨stop,qn⟩ | ⟨go,hlt,step⟩
  ·refine fX (T.done Y rfl rfl rfl hc i _ s5 _ H5 (λ_ _=>False) Zvx (fpA fr5) st5 stop) λr s6 qc=>?_;obtain⟨hr,I6⟩:=qc;subst hr;obtain⟨m,hm,_⟩:=I6.loc;have ho6:=(I6.pin (acc,{ cls:=.type "list",data:=.seq D.toArray kk }) (List.mem_append_right _ List.mem_cons_self)).1;exact hend acc N.objs.size s6 m _ hm (λhf=>F.Zgv (by rw[hC,K];exact Nat.le_succ _) hf) (fin I6 ha5 hv5 hz5 ho6 qn)
  ·refine fX (T.item Y rfl rfl rfl hc i _ s5 _ H5 (λ_ _=>False) Zvx (fpA fr5) st5 go) λr s6 qc=>?_;obtain⟨u,hr,h6⟩:=qc;subst hr;refine fX h6 λ_ s7 qc=>?_;obtain⟨z,H7,I7,r7,y7,st7,fr7⟩:=qc;have I7':=I7.pinned (fpA fr7) (T.obj _ _ st7);obtain⟨us,lu,hgt,step⟩:=step z H7 y7 v lv;have pg:PG Y tg gt:=hg _ _ _ _ _;refine fX (pg _ s7 _ H7 z u (λσ2 H2'=>σ2=us++t.map bj/\H2'=H7) I7' r7 hgt) λ_ s8 qc=>?_;obtain⟨σ8,H8,I8,e8,e8'⟩:=qc;subst e8 e8';refine fX (hf _ _ _ _ _ _ s8 _ H8 _ I8 step) λok s9 qc=>?_;obtain⟨H9,I9,q9⟩:=qc;have stat:∀{H':Hp}{O:AK}{U:L2.St},Inv Y ([(acc,{ cls:=.type "list",data:=.seq D.toArray kk })]++Dh Z s7.heap) U H' O->tn cy O.heap/\(∀b∈Z,H' b=none)/\H' acc=none/\O.heap.get? acc=some { cls:=.type "list",data:=.seq D.toArray kk }:=λ{H' O U} J=>by
    have pa:=J.pin (acc,{ cls:=.type "list",data:=.seq D.toArray kk }) (List.mem_append_right _ (List.mem_append_left _ List.mem_cons_self));refine⟨T.keep _ _ _ st7 λb hb o e=>(J.pin (b,o) da).1,λb hb=>?_,pa.2.1,pa.1⟩;obtain⟨o,e,d⟩:=T.obj _ _ st7 b hb;exact(J.pin (b,o) da).2.1
   have Zrx:∀{H':Hp}{O:AK}{U:L2.St}{pl:At},Inv Y pl U H' O->Inv Y [] U H' O:=λJ=>J.zT λp hp=>nomatch hp;cases ok with
   | false=>
    obtain⟨m',hm,w9⟩:=q9;obtain⟨t1,t2,t3,t4⟩:=stat I9;exact⟨m',hm,i+1,us,L,D,kk,H9,lu,Zrx I9,t1,t2,t3,hv5,hz5,t4,w9⟩
   | true=>
    show wpAny _ _ (eval elt Y.env) _ _ s9;refine fX (he _ _ _ _ _ _ s9 _ H9 _ I9 q9) λy s10 qc=>?_;obtain⟨yv,H10,I10,r10,m',hm,w10⟩:=qc;obtain⟨t1,t2,t3,t4⟩:=stat I10;have ZBc:Inv Y (Dh Z s7.heap) (us++t.map bj) H10 s10:=I10.zT λp hp=>I10.pin p (List.mem_append_right _ (List.mem_append_right _ hp));have fA:qd Y (Dh Z s7.heap) H10 acc:=fpY List.mem_cons_self t3 λp hp=>Nat.ne_of_lt (fpl _ (Xv hp).1);have Ja:=adopt ZBc fA t4 hv5 hz5;refine fX (kJ (X:=Y) _ s10 _ _ (.ref acc) [yv] (.ref acc) [y] (λ_ H'=>H'=upd (upd H10 acc (.lst L)) acc (.lst (L++[yv]))) Ja rfl (.cons r10 .nil) ⟨acc,L,yv,rfl,rfl,aq,hlt,rfl⟩) λ_ s11 qc=>?_;obtain⟨_,H11,I11,_,e11⟩:=qc;rw[dI]at e11;subst e11;obtain⟨Zz0,its',kk',Zz1,Zz4⟩:=I11.hok acc _ aq;have Jd:=disown I11 fA;have Zxx:tn cy s11.heap:=T.keep _ _ _ st7 λb hb o e=>(Jd.pin (b,o) (List.mem_append_right _ (qO hb e))).1;exact⟨m',hm,i+1,us,L++[yv],its',kk',H10,lu,Zrx Jd,Zxx,t2,t3,Zz1,Zz0,Zz4,w10⟩
 exact codeAny_compStart_list loop (T.self X.A 0 _ _ _ (T.keep _ _ _ st2 (λb _ o e=>M _ _ (E _ _ e))) loop)
theorem Zmn{X:Cx}{j iter tg:AN}{A:Pos}{n:AG}{a:Scope}{cl:List (Str×AI)}{B:TI}{tc:TT}{D:TE}{cns:AH}{ns:AH}{gt:TG}{R:It->L2.St->Hp->VK->Prop}(b:List Nat)
  (U:∀J σ H Q,R J σ H Q->∃W:Nat->Nat->List V->Hp->Prop,(∃m,W 0 m [] H)/\∀i m o H,W i m o H->
   (J.stop i H/\∀p,H p=none->Q (.ref p) (upd H p (.lst o)))\/
   (J.go i H/\o.length<sizeLine/\∀x H',J.yld i H x H'->∀vs:L2.St,vs.length=ns.length->∃us:L2.St,us.length=ns.length/\gt x (vs++b.map bj) H' (λw r=>w=us++b.map bj/\r=H')/\tc (us++b.map bj) H' λk r=>if k=true then D (us++b.map bj) r (λy K=>∃l,l<m/\W cy l (o++[y]) K)else ∃l,l<m/\W cy l o r))
  (Z:PI X tg iter B) (L:∀C s H ex pn,PG (JP X a cl (ns++cns) C s H ex pn) tg gt)
  (T:∀C s H ex pn,PF (JP X a cl (ns++cns) C s H ex pn) n tc) (he:∀C s H ex pn,PE (JP X a cl (ns++cns) C s H ex pn) j D) (hc:X.calm=true)
  (d:closureFor a X.env=pure cl) (u:AllIn X.env.cells cl) (q:xT X cns b)
  (e:a.kind=.function) (g:(a.names.all λp=>p.2 != .cell)=true) (f:(a.names.all λp=>p.2 != .free || (cl.lookup p.1).isSome)=true)
  (z:(cns.all λy=>a.names.lookup y == some .free)=true) (c:∀y∈a.names,y.2=.local->a.names.lookup y.1=some .local)
  (hs:∀v,foldedSetIterable iter X.env v=pure v):
  PE X (.ListComp j [⟨tg,iter,n,0⟩] a A) (λσ H Q=>B σ H λJ O=>R J σ O Q):=by
 intro E s σ H Q I h;rw[eval_ListComp];refine Zim b U Z L T he hc d u q e g f z c hs I h λN C s6 m r0 hm fC fin=>⟨m,hm,λS t=>?_⟩;obtain⟨v,Y,F,M,P,_⟩:=fin S t;exact⟨v,Y,F,M,P⟩
theorem Lf{X:Cx}{n iter:AN}{x:Str}{B t:Pos}{k:AG}{a:Scope}{cl:List (Str×AI)}{w:TI}{tc:TT}{A:TE}{cns:AH}(b:List Nat)
  (D:PI X (.Name x B) iter w)
  (I:∀C s H ex pn,PF (JP X a cl (x::cns) C s H ex pn) k tc) (M:∀C s H ex pn,PE (JP X a cl (x::cns) C s H ex pn) n A) (hc:X.calm=true)
  (e:closureFor a X.env=pure cl) (r:AllIn X.env.cells cl) (o:xT X cns b)
  (j:a.kind=.function) (f:(a.names.all λp=>p.2 != .cell)=true) (d:(a.names.all λp=>p.2 != .free || (cl.lookup p.1).isSome)=true)
  (u:(cns.all λy=>a.names.lookup y == some .free)=true) (c:∀y∈a.names,y.2=.local->a.names.lookup y.1=some .local) (hx:a.names.lookup x=some .local) (q:(x::cns).Nodup)
  (hs:∀v,foldedSetIterable iter X.env v=pure v:=by intro _;rfl):
  PE X (.ListComp n [⟨.Name x B,iter,k,0⟩] a t) (tLC w b tc A):=by
 refine Zmn (ns:=[x]) (gt:=aL 0) b (λJ N H Q h=>?_) D (λC s H ex pn=>cJ q rfl (.inl (lookup_relabel_local hx)) (.inr (lookup_relabel_local hx))) I M hc e r o j f d u c hs;obtain⟨W,w0,turn⟩:=h;refine⟨W,w0,λi m L H K=>(turn i m L H K).imp id λ⟨g,l,st⟩=>⟨g,l,λz E y F hv=>?_⟩⟩
 match F,hv with
 | [v],_=>exact⟨[some z],rfl,⟨rfl,rfl⟩,st z E y⟩
theorem Jm{P:AM}{w:AO}{H:Hp}{h:Heap}{a:AI}{o:HO}(x:gY P w H h a o):∃ob,h.get? a=some ob:=by
 induction o with
 | lst c=>obtain⟨_,_,_,_,e⟩:=x;exact⟨_,e⟩
 | tup c=>obtain⟨_,_,_,ob,e,_⟩:=x;exact⟨ob,e⟩
 | dK b=>obtain⟨_,_,_,_,ob,_,_,e,_⟩:=x;exact⟨ob,e⟩
 | dT b=>obtain⟨_,_,_,_,ob,_,_,e,_⟩:=x;exact⟨ob,e⟩
 | set S n=>obtain⟨ob,_,_,_,e,_⟩:=x;exact⟨ob,e⟩
 | ins C k fs=>obtain⟨_,_,_,e,_⟩:=x;exact⟨_,e⟩
 | own y=>exact x
 | xd fs=>obtain⟨_,⟨ob,_,_,e,_⟩,_⟩:=x;exact⟨ob,e⟩
 | rng lo d=>obtain⟨_,_,_,e⟩:=x;exact⟨_,e⟩
 | vH ob u i=>exact⟨_,x.1⟩
 | PJ j=>exact⟨_,x⟩
 | met f y=>exact⟨_,x⟩
 | ext g=>obtain⟨_,e,_⟩:=x;exact e
theorem YF{P:AM}{w:AO}{fs:AF}{H0 c:Hp}{f h1 h2:Heap}(u:Un fs [] H0 c f h1)(ok:zN P w c h1)(j:∀b∈fs,c b=none)
  (kp:∀b o,h1.get? b=some o->((∃v,f.get? b=some v)\/∃v,c b=some v)->b∉fs->h2.get? b=some o) (sl:∀b o,h1.get? b=some o->b∈fs->∃z,h2.get? b=some { o with slots:=z }):
  Un fs [] H0 c f h2/\zN P w c h2:=by
 refine⟨⟨λb o e n hb hx=>kp b o (u.keep b o e n hb hx) (.inl ⟨o,e⟩) hb,λb o e n hb hx=>?_,u.free,λb o e hx=>?_,u.tups,u.JK,u.Oc⟩,λa o e=>?_⟩
 ·obtain⟨z,d⟩:=u.slot b o e n hb hx;obtain⟨k,g⟩:=sl b _ d hb;exact⟨k,g⟩
 ·obtain⟨i,d⟩:=u.there b o e hx
  by_cases hb:b∈fs
  ·obtain⟨z,g⟩:=sl b _ d hb;exact⟨_,g⟩
  ·exact⟨i,kp b i d (.inl ⟨o,e⟩) hb⟩
 ·refine(ok a o e).stay (λb v hb q=>?_) (λ_ q=>q) λ_ _ q=>q;have hs:∃v,c b=some v:=by
   rcases hb with z | z
   ·exact⟨o,by rw[z];exact e⟩
   ·exact⟨_,z⟩
  refine kp b v q (.inr hs) λz=>?_;obtain⟨l,h⟩:=hs;rw[j b z]at h;cases h
def Uy(P:AM)(w:AO):CXT:=λouter H s E e s'=>
 ∃(c:AI) (a a0:AJ) (B:Heap) (H':Hp),e=.ref c/\s'.os=s.os/\AllBare s'.gens/\Un (frs outer) [] H H' s.heap s'.heap/\zN P w H' s'.heap/\Heap.FlyingW B outer c a a0 s'.heap/\
  (∀b o,s'.heap.get? b=some o->((∃v,s.heap.get? b=some v)\/∃v,H' b=some v)->b∉frs outer->B.get? b=some o)/\E a none H'
theorem eO{P:AM}{w:AO}{X:Cx}:Passes (Uy P w) X E0:=λ_ _ _ _ _ _ _ h=>by
 obtain⟨_,_,_,_,_,_,_,_,_,_,_,_,z⟩:=h;exact z.elim
section
variable {P:AM}{w:AO}{K:aB}{mg:As}{base:Heap}{N:AH}{qual:Str}{scope:Scope}{f:AI}{cd:AJ}{A:Around}{outer:List Env}{s:AK}{H:Hp}{E:XK}
theorem Gf:Passes (Uy P w) (JN (Uy P w) P w K mg base N qual scope f cd A outer s H E) E:=by
 intro d F L r e j I h;obtain⟨u,k,a0,B,c,rfl,os,bare,un,ok,fl,t,p⟩:=h;have J:Inv (JN (Uy P w) P w K mg base N qual scope f cd A outer s H E) d F c j:=I.call' os un ok bare (λb z=>nomatch z);have C:∀b o,s.heap.get? b=some o->b≠(envOfC qual scope s.heap.objs.size f cd).locals:=λb o e=>Nat.ne_of_lt cn;have m:∀b,((∃v,s.heap.get? b=some v)\/∃v,c b=some v)->b∉frs outer->b∉frs (envOfC qual scope s.heap.objs.size f cd::outer):=λb hb hn hm=>by
  rcases List.mem_cons.mp (J.Iz b hm)with z | z
  ·rcases hb with ⟨v,e⟩ | ⟨v,e⟩
   ·exact C b v e z
   ·rw[z]at e;have:=J.free;rw[e]at this;cases this
  ·exact hn z
 have n:∀b,((∃v,s.heap.get? b=some v)\/∃v,c b=some v)->(∃v,r.heap.get? b=some v)\/∃v,c b=some v:=λb hb=>by
  rcases hb with ⟨v,e⟩ | hb
  ·exact .inl (I.base.there b v e ai)
  ·exact .inr hb
 refine wpAny_leaves_onW I.ok.frames rfl fl λy a sm=>?_;have l:∀b o,j.heap.get? b=some o->b∈frs outer->∀x,o.data≠.fields x:=λb o e hb=>by
  obtain⟨_,M,g,hd⟩:=J.vZ.mem hb;rw[e]at g;cases g;exact hd
 have i:∀b o,j.heap.get? b=some o->((∃v,s.heap.get? b=some v)\/∃v,c b=some v)->b∉frs outer->B.get? b=some o:=λb o e hb hn=>t b o e (n b hb) (m b hb hn);have U:=YF (P:=P) (w:=w) (h2:=y) J.base J.hok (λb hb=>by
   obtain⟨_,o,D,_⟩:=J.ok.vZ.mem hb;exact J.base.free b o D (J.ok.frf b hb) ai) (λb o e hb hn=>a.1 _ _ (i b o e hb hn)) λb o e hb=>sm b o e (l b o e hb)
 refine⟨u,k,a0,B,c,rfl,J.os,J.bare,U.1,U.2,a,λb o e hb hn=>?_,p⟩;have there:∃v,j.heap.get? b=some v:=by
  rcases hb with ⟨v,z⟩ | ⟨v,z⟩
  ·exact J.base.there b v z ai
  ·exact Jm (J.hok b v z)
 obtain⟨v,z⟩:=there;have q:=i b v z hb hn;have:=a.1 _ _ q;rw[e]at this;cases this;exact q
theorem Zi{d:At}{σ:L2.St}{c:Hp}{a:AK}{C e:AI}{vs:AC}{h1:Heap}(I:Inv (JN (Uy P w) P w K mg base N qual scope f cd A outer s H E) d σ c a)
  (hx:Heap.MadeExcOf a.heap h1 e (.ref C) vs) (l:E (.ref C) none c):(JN (Uy P w) P w K mg base N qual scope f cd A outer s H E).xe (.ref e) { a with heap:=h1 }:=by
 have n:∀b o,s.heap.get? b=some o->b≠(envOfC qual scope s.heap.objs.size f cd).locals:=λb o e=>Nat.ne_of_lt cn;have j:∀b,((∃v,s.heap.get? b=some v)\/∃v,c b=some v)->b∉frs outer->b∉frs (envOfC qual scope s.heap.objs.size f cd::outer):=λb hb hn hm=>by
  rcases List.mem_cons.mp (I.Iz b hm)with z | z
  ·rcases hb with ⟨v,e⟩ | ⟨v,e⟩
   ·exact n b v e z
   ·rw[z]at e;have:=I.free;rw[e]at this;cases this
  ·exact hn z
 have r:a.heap.FunFrames (W.hideAll a.heap (frs (envOfC qual scope s.heap.objs.size f cd::outer))) (envOfC qual scope s.heap.objs.size f cd::outer):=
  W.funFrames_hide I.stack λenv u b hb=>List.mem_filterMap.mpr ⟨env,u,hb⟩
 refine wpAny_leaves_madeW (s:={ a with heap:=h1 }) I.ok.frames rfl (λb o q=>W.of_hideAll _ q) r hx λm t fl _ _ sm=>?_;have h:∀b o,a.heap.get? b=some o->((∃v,s.heap.get? b=some v)\/∃v,c b=some v)->b∉frs outer->(W.hideAll a.heap (frs (envOfC qual scope s.heap.objs.size f cd::outer))).get? b=some o:=
  λb o e hb hn=>W.hideAll_get _ e (j b hb hn)
 have i:∀b o,a.heap.get? b=some o->b∈frs outer->∀vs,o.data≠.fields vs:=λb o e hb=>by
  obtain⟨_,x,g,hd⟩:=I.vZ.mem hb;rw[e]at g;cases g;exact hd
 have U:=YF (P:=P) (w:=w) (h2:=m) I.base I.hok (λb hb=>by
   obtain⟨_,o,p,_⟩:=I.ok.vZ.mem hb;exact I.base.free b o p (I.ok.frf b hb) ai) (λb o e hb hn=>fl.1 _ _ (h b o e hb hn)) λb o e hb=>sm b o (hx.keeps b o e) (i b o e hb)
 refine⟨e,.ref C,.ref t,_,c,rfl,I.os,I.bare,U.1,U.2,fl,λb o q hb hn=>?_,l⟩;have there:∃v,a.heap.get? b=some v:=by
  rcases hb with ⟨v,z⟩ | ⟨v,z⟩
  ·exact I.base.there b v z ai
  ·exact Jm (I.hok b v z)
 obtain⟨v,z⟩:=there;have k:=h b v z hb hn;have:=fl.1 _ _ k;rw[q]at this;cases this;exact k
end
abbrev ZBd(K:aB)(C:AI):Prop:=W.excIn K C [.type "ValueError",.type "Exception",.type "BaseException",.type "object"] "ValueError.__new__"=true
theorem Zr1{K:aB}{h:Heap}{C:AI}{ms:AC}{o:String}(X:K.In h)(q:W.excIn K C ms o=true):
  ∃tl N nm s bs hd sn sub ab col dd c f b e d mN,h.get? C=some (excClassObj nm s C N bs tl hd sn sub ab col dd c f b e d o)/\h.Ns N mN/\mN "__init__"=none/\OwnTail h ms tl:=by
 unfold W.excIn at q;split at q
 ·rename_i dd g a l
  split at q
  ·rename_i B tl c f b e n2 d n p
   simp only[Bool.and_eq_true,beq_iff_eq,Bool.not_eq_true']at q;obtain⟨⟨⟨⟨⟨v,u⟩,e3⟩,z⟩,j⟩,m⟩:=q;subst v u;obtain⟨c1,c2,c3,c4,A,r,y,w,x,k,t⟩:=g;dsimp only at n e3 j m;subst n e3;have i:a=#[c,f,b,e,some (.builtin n2),d]:=by
    obtain⟨ls⟩:=a;simp only at p;rw[p]
   subst i;refine⟨tl,c4,c1,A,c2,r,y,w,x,k,dd,c,f,b,e,d,h.nsMap c4,X _ _ l,?_,W.nsMap_none_of_in X j m,W.tail_of_in X z⟩;exact .of_isNs (W.isNs_of_in X j)
  ·cases q
 ·cases q
section
variable {X:Cx}{x:Str}{C:AI}{np cpos pos:Pos}{e:AN}{es:AG}{ta:TA}{E:XK}
theorem Ge(hc:X.calm=true)(v:Gl X x)(hm:X.mg x=↑C)(hx:ZBd X.K C)(t:PA X (e::es) ta)
  (i:∀(a:At) (σ:L2.St) (H:Hp) (s:AK) (c:AI) (vs:AC) (h1:Heap),Inv X a σ H s->Heap.MadeExcOf s.heap h1 c (.ref C) vs->E (.ref C) none H->X.xe (.ref c) { s with heap:=h1 })
  (hs:starEach (e::es) X.env=(false,eval e X.env)::starEach es X.env:=by rfl) (f:(backTo cpos dQ).any (·.1)=false:=by rfl) (hd:(x == ("__debug__":Str))=false:=by decide):
  PS X (.Raise (some (.Call (.Name x np) (e::es) [] cpos)) none pos) (Ir C E ta):=by
 intro a s σ H D I h;obtain⟨tl,N,nm,k,bs,g,sn,sub,ab,col,dd,m,u,j,o,n,mN,p,w,d,T⟩:=Zr1 I.ok.mod.kin hx;refine wpAny_Raise_call_subT (C:=C) (nm:=nm) (q:=k) (N:=N) (bs:=bs) (bm:=tl) (hdct:=g) (sn:=sn) (sub:=sub) (ab:=ab) (col:=col) (dd:=dd) (k0:=m) (k1:=u) (k2:=j) (k3:=o) (k5:=n) PySem.F.excBase_ValueError (mN:=mN)
  (T.hasType PySem.F.excBase_ValueError.hasBase) (I.ok.hd hc) ?_ d (p6 I v hm ⟨rfl,?_⟩ hd)
 ·rw[hs];show(false || (backTo cpos (starEach es X.env)).any (·.1))=false;rw[f];rfl
 ·have q:=t cpos a s σ H _ I h;rw[hs]at q ⊢;refine Calls.evalArgs_plain (fX q λus l ⟨vs,H1,I1,r,l1,hE1⟩=>⟨rfl,?_,I1.bk _ _ p,w.keeps I1.bk,T.keeps I1.bk,λh1 c b=>i a σ H1 l c _ h1 I1 b hE1⟩);rw[<- r.length];exact Nat.le_trans l1 ε
end
def Zji(CX:CXT)(X:Cx)(E:L2.St->XK):Prop:=∀(a:At) (σ:L2.St) (H:Hp) (s:AK) (e:AJ) (s':AK),Inv X a σ H s->CX X.stack H s (E σ) e s'->X.xe e s'
section
variable {X:Cx}{CX:CXT}{k:Nat}{f C:AI}{fd:AL}{ps:AH}{sp:Sp}{rC:List V}{ds:AC}{E:L2.St->XK}{x m:Str}{p pos apos:Pos}{e o:AN}{es:AG}{ta:TE}{t:TA}
theorem Zpk{a:At}{σ:L2.St}{H:Hp}{s:AK}{Q:VK}{us:AC}{vs:List V}(F:rD X.prog X.w X.K X.mg X.base CX k f fd ps sp)(hr:Room k X.A)(hb:Binds X.K fd ps ds)(hd:Vals rC ds)(hx:Zji CX X E)
  (I:Inv X a σ H s) (r:Vals vs us) (h:sp (vs++rC) H Q (E σ)):wpAny ς X.A (call (.ref f) us) (EP X a σ Q) X.xe s:=by
 have b:Vals (vs++rC) (us++ds):=r.append hd;have hl:(us++ds).length=ps.length:=by rw[<- b.length];exact F.len _ _ _ _ h
 refine wpAny_call (codeAny_mono (F.run X.A X.stack s H ⟨us,[]⟩ (us++ds) (vs++rC) Q (E σ) hr I.env0 (hb s us I.yV hl) b h) λr c hq=>?_);cases r with
 | error e=>exact hx a σ H s e c I hq
 | ok fl=>
  cases fl with
  | ret u=>exact I.after hq
  | next=>exact False.elim hq
  | brk=>exact False.elim hq
  | cont=>exact False.elim hq
theorem Zmq(F:rD X.prog X.w X.K X.mg X.base CX k f fd ps sp)(hr:Room k X.A)(g:Gl X x)(hm:X.mg x=↑f)(hk:W.keepIn X.K (.ref f)=true)(hb:Binds X.K fd ps ds)(hd:Vals rC ds)(hx:Zji CX X E)
  (d:PA X (e::es) t) (c:(x == ("__debug__":Str))=false:=by decide) (j:starEach (e::es) X.env=(false,eval e X.env)::starEach es X.env:=by rfl) (b:(backTo pos dQ).any (·.1)=false:=by rfl):
  PE X (.Call (.Name x p) (e::es) [] pos) (Zfb sp rC E t):=by
 intro a s i H Q I h;refine wpAny_Call_Name_kw (p6 I g hm ?_ c);refine W.callWith_K (h₀:=X.base) I.ok.mod.kin hk (fX (d pos a s i H _ I h) λus l ⟨m,H1,I1,r,q⟩=>⟨I1.yV,?_⟩) j b;exact Zpk F hr hb hd hx I1 r q
end
abbrev cxB(X:Cx)(pn:At)(xe:Ap):Cx:={ X with pn:=pn,xe:=xe }
abbrev cxH(X:Cx)(ea:AJ)(pn:At):Cx:={ X with A:=X.A.mark (some ea),calm:=false,pn:=pn,xe:=λ_ _=>False }
section
variable {X:Cx}{pins:At}{σ:L2.St}{H:Hp}{s:AK}
theorem Zte(ok:X.Ok)(pn:At)(xe:Ap):(cxB X pn xe).Ok:=
 ⟨ok.mod,ok.kind,ok.glob,ok.blt,ok.above,ok.inj,ok.has,ok.cab,ok.hd,ok.frames,ok.stk,ok.exf,ok.bs,ok.bsz,ok.Zd9,ok.Zgx,ok.vZ,ok.frf⟩
theorem Ztd(ok:X.Ok)(a:AJ)(pn:At):(cxH X a pn).Ok:=
 ⟨ok.mod,ok.kind,ok.glob,ok.blt,ok.above,ok.inj,ok.has,ok.cab,λz=>(nomatch z),ok.frames,ok.stk,ok.exf,ok.bs,ok.bsz,ok.Zd9,ok.Zgx,ok.vZ,ok.frf⟩
theorem Zsl(I:Inv X pins σ H s)(xe:Ap):Inv (cxB X (X.pn++pins) xe) [] σ H s:=
 ⟨Zte I.ok _ _,I.os,I.bare,I.base,I.loc,I.cell,I.free,I.qW,λp hp=>I.pin p (by simpa using hp),I.hok,I.len⟩
theorem Rr{xe:Ap}{pl:At}(ok:X.Ok)(I:Inv (cxB X (X.pn++pins) xe) pl σ H s):Inv X pins σ H s:=
 ⟨ok,I.os,I.bare,I.base,I.loc,I.cell,I.free,I.qW,λp hp=>I.pin p (List.mem_append_left _ hp),I.hok,I.len⟩
theorem Zln(I:Inv X pins σ H s)(a:AJ):Inv (cxH X a (X.pn++pins)) [] σ H s:=
 ⟨Ztd I.ok _ _,I.os,I.bare,I.base,I.loc,I.cell,I.free,I.qW,λp hp=>I.pin p (by simpa using hp),I.hok,I.len⟩
theorem ZM{a:AJ}{pl:At}(ok:X.Ok)(I:Inv (cxH X a (X.pn++pins)) pl σ H s):Inv X pins σ H s:=
 ⟨ok,I.os,I.bare,I.base,I.loc,I.cell,I.free,I.qW,λp hp=>I.pin p (List.mem_append_left _ hp),I.hok,I.len⟩
theorem Zsx{xe:Ap}{D:Ends}{f:Flow}(ok:X.Ok)(h:SP (cxB X (X.pn++pins) xe) [] D f s):SP X pins D f s:=by
 cases f with
 | next=>obtain⟨a,b,I,q⟩:=h;exact⟨a,b,Rr ok I,q⟩
 | brk=>obtain⟨a,b,I,q⟩:=h;exact⟨a,b,Rr ok I,q⟩
 | cont=>obtain⟨a,b,I,q⟩:=h;exact⟨a,b,Rr ok I,q⟩
 | ret u=>obtain⟨v,a,b,I,r,q⟩:=h;exact⟨v,a,b,Rr ok I,r,q⟩
theorem Zsw{c:AJ}{D:Ends}{f:Flow}(ok:X.Ok)(h:SP (cxH X c (X.pn++pins)) [] D f s):SP X pins D f s:=by
 cases f with
 | next=>obtain⟨a,b,I,q⟩:=h;exact⟨a,b,ZM ok I,q⟩
 | brk=>obtain⟨a,b,I,q⟩:=h;exact⟨a,b,ZM ok I,q⟩
 | cont=>obtain⟨a,b,I,q⟩:=h;exact⟨a,b,ZM ok I,q⟩
 | ret u=>obtain⟨v,a,b,I,r,q⟩:=h;exact⟨v,a,b,ZM ok I,r,q⟩
theorem flown{i:AI}{g a0:AJ}{B:Heap}{c:Hp}{a:AK}{f:Heap}(I:Inv X pins σ H s)(os:a.os=s.os)(bare:AllBare a.gens)(un:Un (frs X.stack) [] H c s.heap a.heap)(ok:zN X.prog X.w c a.heap)
  (fl:Heap.FlyingW B X.stack i g a0 a.heap) (h:∀b o,a.heap.get? b=some o->((∃v,s.heap.get? b=some v)\/∃v,c b=some v)->b∉frs X.stack->B.get? b=some o)
  (st:B.StaysIn f) (sm:a.heap.UpToSlots f):Inv X pins σ c { a with heap:=f }:=by
 have k:∀b∈frs X.stack,c b=none:=λb hb=>by
  obtain⟨_,o,j,_⟩:=I.stack.mem hb;exact un.free b o j (I.YM b hb) ai
 have U:=YF (P:=X.prog) (w:=X.w) (h2:=f) un ok k (λb o e hb hn=>st _ _ (h b o e hb hn)) λb o e hb=>by
  obtain⟨_,l,d,hd⟩:=fl.2.2.1.mem hb;rw[e]at d;cases d;exact sm b o e hd
 exact I.call' (s':={ a with heap:=f }) (ch:=[]) os U.1 U.2 bare (λb z=>nomatch z)
end
section
variable {X:Cx}{x:Str}{C:AI}{np pos hpos:Pos}{body suite:List Stmt}{b₀:Stmt}{Mt:AJ->Prop}{tb:(L2.St->XK)->TS}{th:TS}
theorem Zt5(i:X.stack=X.env::X.outer/\X.env.frame=some X.env.locals)(T:Gl X x)(hm:X.mg x=↑C)(y:∀c,Mt c->W.exmOne X.K c (.ref C)=some true)
  (hb:∀(E:L2.St->XK) (pn:At) (xe:Ap),Zji (Uy X.prog X.w) (cxB X pn xe) E->PSs (cxB X pn xe) body (tb E))
  (hs:∀(d:AJ) (pn:At),PSs (cxH X d pn) (b₀::suite) th) (hd:(x == ("__debug__":Str))=false:=by decide):
  PS X (.Try body [.ExceptHandler (some (.Name x np)) none (b₀::suite) hpos] [] [] pos) (Zsn Mt tb th):=by
 intro a s j H D I h;refine wpAny_Try_except ?_;have hx:Zji (Uy X.prog X.w) (cxB X (X.pn++a) λe Q=>∃ j H s,Inv X a j H s/\Uy X.prog X.w X.stack H s (λb _ t=>Mt b/\th D j t) e Q) (λm b _ t=>Mt b/\th D m t):=
  λV j H s e Q J z=>⟨j,H,s,Rr I.ok J,z⟩
 refine wpAny_mono (hb _ _ _ hx [] s j H D (Zsl I _) h) (λf N q=>?_) λe N q=>?_
 ·have q:=Zsx I.ok q;cases f with
  | next=>exact wpAny_execs_nil q
  | ret v=>exact q
  | brk=>exact q
  | cont=>exact q
 ·obtain⟨n,H1,Y,J,d,b,a0,B,S,rfl,os,bare,un,ok,fl,P,R,u⟩:=q;have k:=fl;rw[i.1]at k;refine wpAny_looks_onW (i.1 ▸ J.ok.frames) i.2 k λh4 L r=>?_;refine wpAny_landsW L λh5 g o=>?_;have l:N.heap.UpToSlots h5:=r.trans o;have O:=flown J os bare un ok fl P g.1 l;refine wpAny_handleBy_cons (codeAny_handlers_test (p6 (X:=cxH X (.ref d) (X.pn++a)) (Zln O (.ref d)) T hm ?_ hd)) (by intro z;cases z);obtain⟨ob,A,p⟩:=g.there;have LT:W.Looks ς h5 (typeOf (.ref d)) b:=p ▸ (W.Looks.ld A).andThen .now;refine(W.exm_one O.yV LT (y b R)).here ?_;refine codeAny_handlers_suite ?_;refine lands_againW g λZ M F=>?_;have U:=flown J os bare un ok fl P M.1 (l.trans F);refine wpAny_mono (hs (.ref d) (X.pn++a) [] _ n S D (Zln U (.ref d)) u) (λf s2 q=>Zsw I.ok q) λ_ _ z=>z.elim
end
section
variable {P:AM}{w:AO}{K:aB}{mg:As}{base:Heap}{x qual:Str}{st:Stmt}{f:AI}{fd:AL}{N ps:AH}{k:Nat}{sp:Sp}
theorem fok(F:Fun K x qual st f fd)(S:aO N ps (aG st))(len:∀vs H Q E,sp vs H Q E->vs.length=ps.length)
  (b:∀(a:AJ) (A:Around) (outer:List Env) (s:AK) (H:Hp) (vs:List V) (Q:VK) (E:XK),Room k (A.deeper (envOfC qual (aG st) s.heap.objs.size f a))->sp vs H Q E->
   ∃t,PSs (JN (Uy P w) P w K mg base N qual (aG st) f a A outer s H E).nox (gG st) t/\t { nx:=λ_ H'=>Q .non H',rt:=Q } (start N vs) H):rD P w K mg base (Uy P w) db f fd ps sp:=by
 obtain⟨oc,od,kV,g,j,i,a,ct,e,rfl,lk,d⟩:=F.ex;refine Zog lk d S len λA outer s H vs Q E hr c=>?_;obtain⟨t,h,q⟩:=b a A outer s H vs Q E hr c;exact⟨t,h.nox,q⟩
theorem Zz8(F:Fun K x qual st f fd)(S:aO N ps (aG st))(len:∀vs H Q E,sp vs H Q E->vs.length=ps.length)
  (b:∀(a:AJ) (A:Around) (outer:List Env) (s:AK) (H:Hp) (vs:List V) (Q:VK) (E:XK),Room k (A.deeper (envOfC qual (aG st) s.heap.objs.size f a))->sp vs H Q E->
   ∃t,PSs (JN (Uy P w) P w K mg base N qual (aG st) f a A outer s H E) (gG st) t/\t { nx:=λ_ H'=>Q .non H',rt:=Q } (start N vs) H):rD P w K mg base (Uy P w) db f fd ps sp:=by
 obtain⟨oc,od,kV,g,i,h,a,ct,e,rfl,lk,d⟩:=F.ex;exact Zog lk d S len λA outer s H vs Q E hr c=>b a A outer s H vs Q E hr c
theorem Zxh(F:Zvh K x qual st f fd)(S:aO N ps (aG st))(len:∀vs H Q E,sp vs H Q E->vs.length=ps.length)
  (b:∀(a:AJ) (A:Around) (outer:List Env) (s:AK) (H:Hp) (vs:List V) (Q:VK) (E:XK),Room k (A.deeper (envOfC qual (aG st) s.heap.objs.size f a))->sp vs H Q E->
   ∃t,PSs (JN (Uy P w) P w K mg base N qual (aG st) f a A outer s H E) (gG st) t/\t { nx:=λ_ H'=>Q .non H',rt:=Q } (start N vs) H):rD P w K mg base (Uy P w) db f fd ps sp:=by
 obtain⟨oc,od,dV,kV,g,i,h,a,ct,e,rfl,lk,d⟩:=F.ex;exact Zog lk d S len λA outer s H vs Q E hr c=>b a A outer s H vs Q E hr c
end
structure ZBs(K:aB)(C:AI):Prop where
 ga:W.findIn K (.ref C) "__getattribute__"=some (some (.builtin "BaseException.__getattribute__"))
 no:W.findIn K (.ref C) "__getattr__"=some none
 cl:W.findIn K (.ref C) "__class__"=some (some (.builtin "object.__class__"))
 so:W.mroIn K C (.type "object")=some true
 sb:W.mroIn K C (.type "BaseException")=some true
 is:W.hasDictIn K C=true
section
variable {prog:AM}{w:AO}{A:Around}{E:Ap}{h:Heap}{g:Array GenState}{d:Drawn}{t:Nat}{os:OsState}{a:AI}{o:Obj}{C:AI}{K:aB}
end
section
variable {X:Cx}
theorem wz:Im X (.type "list") (JQ X.K):=by
 intro a s b H d us Q I r h;obtain⟨p,c,rfl,hs,q⟩:=h;exact wu a s b H [.ref p] us Q I r ⟨p,c,rfl,.inl hs,q⟩
theorem Yt{xs c:List V}{us g:AC}(f:Vals xs us)(n:Vals c g)(r:xs.all lW=true)(t:c.all lW=true)(hl:xs.length=c.length):
  (∀(A:Around) (s:AK) (j:Nat) (h1:j<us.toArray.size) (h2:j<g.toArray.size),SeqAt.EqAt A s us.toArray[j] g.toArray[j] (match xs[j]?,c[j]? with | some a,some b=>Ys a b | _,_=>false))/\
  (List.range us.toArray.size).all (λj=>match xs[j]?,c[j]? with | some a,some b=>Ys a b | _,_=>false)=eqL xs c:=by
 refine⟨λA s j h1 h2=>?_,?_⟩
 ·rw[List.size_toArray]at h1 h2;have v:=f.length;have x:=n.length;have i:xs[j]? =some xs[j]:=bG δ;have m:c[j]? =some c[j]:=bG δ;obtain⟨u,l,o⟩:=f.get i;obtain⟨w,k,q⟩:=n.get m;rw[bG h1]at l;rw[bG h2]at k;cases l;cases k;rw[i,m];exact wj o q (List.all_eq_true.mp r _ (List.getElem_mem δ)) (List.all_eq_true.mp t _ (List.getElem_mem δ))
 ·rw[List.size_toArray,<- f.length];unfold eqL;rw[beq_iff_eq.mpr hl,Bool.true_and,Bool.eq_iff_iff,List.all_eq_true,List.all_eq_true];constructor
  ·intro h p hp;obtain⟨j,d,e⟩:=List.getElem_of_mem hp;rw[List.length_zip]at d;have:=h j (List.mem_range.mpr δ);rw[bG (show j<xs.length by omega),bG (show j<c.length by omega)]at this;rw[List.getElem_zip]at e;rw[<- e];exact this
  ·intro h j d;have d:=List.mem_range.mp d;rw[bG (show j<xs.length by omega),bG (show j<c.length by omega)];have hz:j<(xs.zip c).length:=by rw[List.length_zip];omega
   have:=h _ (List.getElem_mem hz);rw[List.getElem_zip]at this;exact this
theorem Zj0{xs a:List V}(h:xs.length≠a.length):eqL xs a=false:=by
 unfold eqL;rw[show(xs.length == a.length)=false by simpa using h,Bool.false_and]
theorem Zn1(hu:X.A.units+1<cLine):tK X (compareOp .Eq) (QF X.K false):=by
 intro g s w H x y v u Q I k n h;obtain⟨p,t,i,o,rfl,rfl,hx,hy,f,q⟩:=h;cases k;cases n;obtain⟨us,d,c,_⟩:=I.list hx;obtain⟨r,e,b,_⟩:=I.list hy;have a:X.A.units<cLine:=δ
 by_cases hl:i.length=o.length
 ·obtain⟨m,l⟩:=Yt d e (f hl).1 (f hl).2 hl;refine SeqAt.eq_listAt c.isList b.isList (by rw[List.size_toArray,List.size_toArray,<- d.length,<- e.length];exact hl) a (λj h1 h2=>m _ _ j h1 h2) ?_;rw[l];exact⟨.bl _,H,I,rfl,q⟩
 ·refine SeqAt.eq_list_lengthsAt c.isList b.isList ?_ a ?_
  ·rw[List.size_toArray,List.size_toArray,<- d.length,<- e.length];simpa using hl
  ·refine⟨.bl _,H,I,rfl,?_⟩;have:=q;rw[Zj0 hl]at this;exact this
end
theorem Zn5:fastBuiltinMro "NoneType"=some [.type "NoneType",.type "object"]:=γ
section
variable {K:aB}{A:Around}{a C:AI}{o:Obj}
theorem Zuz{M:Model}{E:Ap}{s:AK}{Q:Unit->AK->Prop}(e:W.Looks M s.heap (isInstance (.ref a) (.type "object")) true)(hq:Q () s):wpAny M A (checkBuiltinCall "object.__eq__" ⟨[.ref a,.none],[]⟩) Q E s:=by
 have d:=PySem.F.cmpArgs_eq (.ref a) .none;simp only[checkBuiltinCall,PySem.F.cmpKind_eq,PySem.F.cmpSplit_eq];refine wpAny_bind (e.here ?_);simp only[Bool.not_true,Bool.false_eq_true,if_false];cases b:Manifest.signature? "object.__eq__" with
 | none=>exact wpAny_pure hq
 | some c=>
  simp only[argsOk,b]at d;have h2:Bind.checkArgs "object.__eq__" c ⟨[.ref a,.none],[]⟩=pure ():=d;show wpAny M A (Bind.checkArgs "object.__eq__" c ⟨[.ref a,.none],[]⟩) Q E _;rw[h2];exact wpAny_pure hq
theorem Zr3{prog:AM}{w:AO}{E:Ap}{s:AK}{Q:Ap}(b:W.Looks af s.heap (isInstance (.ref a) (.type "object")) true)(hq:Q .notImplemented s):
  wpAny af A (call (.builtin "object.__eq__") [.ref a,.none]) Q E s:=by
 refine wpAny_call (codeAny_call_builtin PySem.F.cmp_object.eq.plain PySem.F.cmpEntry_eq (Zuz b ?_));obtain⟨h,g,d,t,os⟩:=s;unfold Builtin.«object.__eq__»
 repeat (first | with_reducible refine wpAny_bind (m:=isSame (.ref a) .none) (wpAny_pure ?_) | wp_step)
 exact hq
theorem Zsi{prog:AM}{w:AO}{E:Ap}{s:AK}{Q:AB->AK->Prop}(X:K.In s.heap)(hx:s.heap.get? a=some o)(hc:o.cls=.ref C)(b:EqD K C)(hq:Q none s):
  wpAny af A (tryCompare (.ref a) "__eq__" .none) Q E s:=by
 have LT:W.Looks af s.heap (typeOf (.ref a)) (.ref C):=hc ▸ (W.Looks.ld hx).andThen .now;have e:W.Looks af s.heap (isInstance (.ref a) (.type "object")) true:=LT.andThen (W.looks_mroIn X b.ob);have d:W.Looks af s.heap (specialOf (.ref a) "__eq__") (some (.builtin "object.__eq__")):=LT.andThen (W.looks_findIn X b.eq);simp only[tryCompare];refine wpAny_bind ?_;simp only[callSpecialIfBound?,bindSpecialIfBound?];refine wpAny_holding (wpAny_bind (wpAny_bind (d.here ?_)));simp only[PySem.F.cmp_object.eq.bind];have fin:wpAny af A (call (.builtin "object.__eq__") ([.ref a]++[.none]) >>= λv=>pure (some v)) (λr c=>wpAny af A (match r with | some .notImplemented | none=>pure none | some v=>pure (some v)) Q E c) E s:=
  wpAny_bind (Zr3 e (wpAny_pure (wpAny_pure hq)))
 refine wpAny_bind (wpAny_askSetting (wpAny_ite ?_));split
 ·exact wpAny_bind (wpAny_pure (wpAny_pure fin))
 ·exact wpAny_tryCatch (wpAny_bind (wpAny_pure (wpAny_pure fin)))
theorem Zpn{s:AK}(X:K.In s.heap)(hx:s.heap.get? a=some o)(hc:o.cls=.ref C)(c:EqD K C)(hu:A.units<cLine):SeqAt.RcAt A s (.ref a) .none false:=λprog w E Q h=>by
 have LT:W.Looks af s.heap (typeOf (.ref a)) (.ref C):=hc ▸ (W.Looks.ld hx).andThen .now;have e:cmpInfo CmpOp.Eq=("==",("__eq__":Str),("__eq__":Str)):=rfl;have d:oneThing? .Eq (.ref a) .none=none:=rfl;simp only[richCompare,e,d]
 try with_reducible refine wpAny_holding ?_
 refine wpAny_bind (wpAny_cRoomFor_or (.inr hu) ?_);refine wpAny_bind (LT.here (wpAny_bind (m:=typeOf .none) (wpAny_pure ?_)));have b:(Value.ref C != Value.type "NoneType")=true:=ζ
 simp only[b,if_true];have hs:isSubtype (.type "NoneType") (.ref C)=pure false:=by
  rw[isSubtype_type,Zn5];rfl
 refine wpAny_bind (wpAny_of_eq hs ?_);simp only[Bool.false_eq_true,if_false,Bool.not_false,if_true];refine wpAny_bind (m:=tryCompare (.ref a) _ .none) (Zsi X hx hc c ?_);refine wpAny_bind (m:=tryCompare .none _ (.ref a)) (wpAny_tryCompare_declines (T:="NoneType") rfl PySem.F.slot_NoneType_eq_refl (call_gives PySem.F.slot_NoneType_eq_refl rfl PySem.F.entry_NoneType_eq (PySem.F.args_NoneType_eq_2 _ _) (SeqAt.NoneType___eq___none_ref_0 a) ⟨rfl,?_⟩));exact wpAny_bind (wpAny_rule (wpAny_bind (wpAny_of_eq (rfl:isSame (.ref a) .none=pure false) (wpAny_pure h))))
theorem Zr2{s:AK}(X:K.In s.heap)(hx:s.heap.get? a=some o)(hc:o.cls=.ref C)(c:EqD K C)(hu:A.units<cLine):SeqAt.EqAt A s (.ref a) .none false:=λprog w E Q h=>by
 unfold eqBool;refine wpAny_holding ?_;refine wpAny_ite_split (λb=>absurd (eq_of_beq b) nofun) aT;exact wpAny_bind (Zpn X hx hc c hu prog w E _ (wpAny_truthy_bool h))
end
section
variable {X:Cx}
def yK(u:AJ):Bool:=match u with
 | .none=>true
 | _=>false
theorem Zd8{H:Hp}{y:V}{u:AJ}(r:RelV y u)(h:y=.non\/∃a C dx fs,y=.ref a/\H a=some (.ins C dx fs)/\Py X.K C/\EqD X.K C):yK u=decide (y=.non):=by
 rcases h with rfl | ⟨a,_,_,_,rfl,_⟩
 ·obtain rfl:u=Value.none:=r;rfl
 ·obtain rfl:u=Value.ref a:=r;rfl
theorem Zn7{b:At}{σ:L2.St}{H:Hp}{s:AK}{A:Around}{y:V}{u:AJ}(I:Inv X b σ H s)(hu:A.units<cLine)(r:RelV y u)(h:y=.non\/∃a C dx fs,y=.ref a/\H a=some (.ins C dx fs)/\Py X.K C/\EqD X.K C):SeqAt.EqAt A s u .none (yK u):=by
 rcases h with rfl | ⟨a,C,dx,fs,rfl,c,hc,d⟩
 ·obtain rfl:u=Value.none:=r;exact SeqAt.EqAt.same .none
 ·obtain rfl:u=Value.ref a:=r;obtain⟨_,_,_,e,_⟩:=(show gY X.prog X.w H s.heap a (.ins C dx fs)from I.hok a _ c);exact Zr2 I.yV e rfl d hu
theorem Zd7{H:Hp}:∀{xs:List V}{us:AC},Vals xs us->OkN X.K H xs->us.any yK=decide (V.non∈xs)
 | _,_,.nil,_=>rfl
 | y::xs,u::us,.cons r t,h=>by
  rw[List.any_cons,Zd7 t λz hz=>h z (List.mem_cons_of_mem _ hz),Zd8 r (h y List.mem_cons_self),Bool.eq_iff_iff];simp only[Bool.or_eq_true,decide_eq_true_eq,List.mem_cons];constructor
  ·rintro(z | z)
   ·exact .inl z.symm
   ·exact .inr z
  ·rintro(z | z)
   ·exact .inl z.symm
   ·exact .inr z
theorem Zd5{H:Hp}{a:At}{σ:L2.St}{s:AK}{A:Around}{xs:List V}{us:AC}(I:Inv X a σ H s)(hu:A.units<cLine)(r:Vals xs us)(h:OkN X.K H xs):∀u∈us,SeqAt.EqAt A s u .none (yK u):=by
 intro u hm;obtain⟨i,b,rfl⟩:=List.getElem_of_mem hm;have hl:=r.length;have hx:xs[i]? =some xs[i]:=bG δ;obtain⟨d,e,c⟩:=r.get hx;rw[bG b]at e;cases e;exact Zn7 I hu c (h _ (List.getElem_mem δ))
theorem Zk1(hu:X.A.units+1<cLine):tK X (compareOp .NotIn) (Zt3 X.K true):=by
 intro a s g H x y v u Q I b c h;obtain⟨p,f,rfl,rfl,hs,hk,q⟩:=h;obtain rfl:v=Value.none:=b;cases c;obtain⟨us,r,e,_⟩:=I.list hs;refine SeqAt.notIn_listAt yK e.isList (λw d=>Zd5 I (by show X.A.units+1<cLine;exact hu) r hk w (by simpa using d)) ⟨.bl _,H,I,rfl,?_⟩;rw[show us.toArray.any yK=us.any yK by simp,Zd7 r hk];exact q
theorem Zd6{H:Hp}{xs:List V}{us:AC}(r:Vals xs us)(h:OkN X.K H xs)(j:Nat)(c:j<us.length)(a:j<xs.length):yK us[j]=decide (xs[j]=V.non):=by
 obtain⟨d,e,b⟩:=r.get (bG a);rw[bG c]at e;cases e;exact Zd8 b (h _ (List.getElem_mem a))
theorem Zk5(hu:X.A.units+1<cLine):MtR X "list.index" (Zia X.K):=by
 intro g s B H x xs v us Q I o rs h;obtain⟨p,a,rfl,rfl,hs,hk,hn,q⟩:=h;obtain rfl:v=Value.ref p:=o;obtain⟨u,rfl,t⟩:=Vals.one rs;obtain rfl:u=Value.none:=t;obtain⟨d,r,l,hz⟩:=I.list hs;obtain⟨⟨m,w,i,sl⟩,k,hc,n,hd⟩:=l.isList;simp only at hc hd;subst hc hd;have hl:=r.length;have f:a.idxOf V.non<a.length:=List.idxOf_lt_length_iff.mpr hn;have z:a.length<2 ^ 62:=Nat.lt_of_le_of_lt hz ε;refine call_meets PySem.F.slot_list_index ⟨_,k,rfl⟩ PySem.F.entry_list_index (PySem.F.args_list_index_2 _ _)
  (SeqAt.list_indexAt p d.toArray n w sl .none yK (a.idxOf V.non) (by simpa[hl]using f) δ ?_ ?_) ⟨k,λy hy=>Zd5 I (by show X.A.units+1<cLine;exact hu) r hk y (by simpa using hy),⟨.int _,H,I.tok _,⟨_,rfl⟩,q⟩⟩
 ·show yK d[a.idxOf V.non]=true;rw[Zd6 r hk _ δ f,decide_eq_true_eq];exact List.getElem_idxOf f
 ·intro j c b;show yK d[j]=false;rw[Zd6 r hk j (by simpa using c) δ,decide_eq_false_iff_not];intro e;have:=List.not_of_lt_findIdx (p:=(· == V.non)) (xs:=a) b;simp[e]at this
theorem Zr(hu:X.A.units+1<cLine):tK X (compareOp .NotEq) (QF X.K true):=by
 intro g s z H x y v u Q I k n h;obtain⟨p,t,i,o,rfl,rfl,hx,hy,f,q⟩:=h;cases k;cases n;obtain⟨us,d,c,_⟩:=I.list hx;obtain⟨r,e,b,_⟩:=I.list hy;have a:X.A.units<cLine:=δ
 by_cases hl:i.length=o.length
 ·obtain⟨m,l⟩:=Yt d e (f hl).1 (f hl).2 hl;refine SeqAt.RcNeAt.lists c.isList b.isList (by rw[List.size_toArray,List.size_toArray,<- d.length,<- e.length];exact hl) a (λj h1 h2=>m _ _ j h1 h2) X.prog X.w X.xe _ ?_;rw[l];exact⟨.bl _,H,I,rfl,q⟩
 ·refine SeqAt.RcNeAt.lists_lengths c.isList b.isList ?_ a X.prog X.w X.xe _ ?_
  ·rw[List.size_toArray,List.size_toArray,<- d.length,<- e.length];simpa using hl
  ·refine⟨.bl _,H,I,rfl,?_⟩;have:=q;rw[Zj0 hl]at this;exact this
end
end G
namespace G
open PySem L2
def Zi9:R2:=λx y H Q=>∃b,y=.bl b/\Q (.bl (!decide (x=.bl b))) H
theorem Zu9{x:V}{b:Bool}{H:Hp}{Q:VK}(h:Q (.bl (!decide (x=.bl b))) H):Zi9 x (.bl b) H Q:=⟨b,rfl,h⟩
def Iv(C:AI):TE:=λ_ H Q=>∀x dx,H x=none->H dx=none->dx≠x->Q (.ref x) (upd (upd H dx (.own x)) x (.ins C dx []))
theorem Zql{C:AI}{σ:St}{H:Hp}{Q:VK}(h:∀x dx,H x=none->H dx=none->dx≠x->Q (.ref x) (upd (upd H dx (.own x)) x (.ins C dx []))):Iv C σ H Q:=h
def Iu(t u:TE):TE:=λσ H Q=>t σ H Q\/u σ H Q
theorem X4{t u:TE}{σ:St}{H:Hp}{Q:VK}(h:t σ H Q):Iu t u σ H Q:=.inl h
theorem Hl{t u:TE}{σ:St}{H:Hp}{Q:VK}(h:u σ H Q):Iu t u σ H Q:=.inr h
end G
namespace G
open PySem L2 PySem.Spec PyProof.Rows
section
variable {X:Cx}
theorem Zid:tK X (compareOp .IsNot) Zi9:=by
 intro e s g H x y v u Q I d f h;obtain⟨b,rfl,q⟩:=h;cases f;cases x with
 | bl c=>
  cases d;refine wpAny_isNot_plain rfl (dz I q ?_);cases b<;>cases c<;>rfl
 | non=>cases d;exact wpAny_isNot_plain rfl (dz I q rfl)
 | ref a=>cases d;exact wpAny_isNot_plain rfl (dz I q rfl)
 | ty a=>cases d;exact wpAny_isNot_plain rfl (dz I q rfl)
 | _=>obtain⟨t,rfl⟩:=d;exact wpAny_isNot_plain rfl (dz I q rfl)
theorem rR{e:AN}{t u:TE}(h1:PE X e t)(h2:PE X e u):PE X e (Iu t u):=by
 intro a s b H Q I h;rcases h with h | h
 ·exact h1 a s b H Q I h
 ·exact h2 a s b H Q I h
structure Mk0(K:aB)(C:AI):Prop where
 makes:W.makesIn K C=true
 init:W.findIn K (.ref C) "__init__"=some eL
 kp:W.keepIn K (.ref C)=true
theorem Zfp{C:AI}{a:At}{σ:L2.St}{H:Hp}{s:AK}{Q:VK}(M:Mk0 X.K C)(I:Inv X a σ H s)
  (h:∀x dx,H x=none->H dx=none->dx≠x->Q (.ref x) (upd (upd H dx (.own x)) x (.ins C dx []))):wpAny ς X.A (call (.ref C) []) (EP X a σ Q) X.xe s:=by
 have hq:=h ap s.heap.objs.size (I.hok.fresh (Nat.le_succ _)) (I.hok.fresh Δ) (Nat.ne_of_lt (Nat.lt_succ_self _));have c:=Inv.made (C:=C) I;have Y:=W.makes_of (M:=model X.prog X.w) I.yV M.makes;refine wpAny_call (Zk8 I.yV M.makes M.init (λself=>W.Looks.of_pure (W.oi_bind self)) ?_);have d:((s.heap.push W.emptyDict).push cv).get? (s.heap.objs.size+1)=some cv:=by
  have:=Heap.get?_push_size (s.heap.push W.emptyDict) (o:=W.instObj C s.heap.objs.size) rfl;rw[Heap.size_push]at this;exact this
 have t1:W.Looks ς ((s.heap.push W.emptyDict).push cv) (typeOf (.ref ap)) (.ref C):=(W.Looks.ld d).andThen .now;have t2:W.Looks ς ((s.heap.push W.emptyDict).push cv) (isInstance (.ref ap) (.type "object")) true:=t1.andThen (Y.top.keeps λb o e=>Heap.get?_push_of_some _ (Heap.get?_push_of_some _ e));refine codeAny_call_builtin W.oi_plain W.entry_oi (@W.check_slot ς _ _ _ "object.__init__" "object" "__init__" (.ref ap) [] [] _ W.oi_kind W.oi_split t2 (W.oi_args (.ref ap)) ?_);rw[W.oi_run];exact wpAny_pure (And.intro rfl ⟨V.ref ap,_,c,rfl,hq⟩)
theorem Jj{C:AI}{x:Str}{p b:Pos}(M:Mk0 X.K C)(d:Gl X x)(hm:X.mg x=↑C)(a:(x == ("__debug__":Str))=false:=by decide):PE X (.Call (.Name x p) [] [] b) (Iv C):=by
 intro c s e H Q I h;refine wpAny_Call_Name_kw (p6 I d hm ?_ a);exact W.callWith_K0 I.yV M.kp (Zfp M I h)
structure ZBr(K:aB)(C:AI):Prop where
 pg:W.plainGet K C "__class__"=true
 hd:W.hasDictIn K C=true
 cl:W.findIn K (.ref C) "__class__"=some (some (.builtin "object.__class__"))
 sp:W.specialIn K (.builtin "object.__class__") "__get__"=some (some (.builtin "getset_descriptor.__get__"))
 tk:W.takesIn K (.builtin "object.__class__")=some true
 so:W.mroIn K C (.type "object")=some true
end
end G
namespace G
open PySem L2
end G
namespace G
open PySem L2 PySem.Spec PyProof.Rows
def Zev(w:AO):List DictEntry->List (Str×AI)->Prop
 | [],[]=>True
 | e::a,p::t=>e.hash=hashStr w p.1/\(∃tk,e.key=.str p.1 tk)/\e.val=.ref p.2/\Zev w a t
 | _,_=>False
def Tab(K:aB)(w:AO)(mg:As)(nm:Str)(PJ:List (Str×AI)):Prop:=
 ∃dd o a b,mg nm=↑dd/\K.lookup dd=some o/\o.ExactDict/\o.data=.dict a b/\Zev w a.toList PJ
theorem Zev.keys{prog:AM}{w:AO}:∀{a:List DictEntry}{PJ:List (Str×AI)},Zev w a PJ->∀e∈a,∃k,(strKind prog w).is k e.key=true/\e.hash=(strKind prog w).hash k
 | [],_,_=>λe b=>absurd b List.not_mem_nil
 | e::a,[],h=>h.elim
 | e::a,p::t,h=>λx hx=>by
  obtain⟨h1,⟨tk,h2⟩,_,h4⟩:=h;rcases List.mem_cons.mp hx with rfl | hx
  ·refine⟨p.1,?_,h1⟩;rw[h2];show Value.isStrOf p.1 (.str p.1 tk)=true;simp[Value.isStrOf]
  ·exact Zev.keys h4 x hx
theorem Zev.find{w:AO}:∀{g:List DictEntry}{PJ:List (Str×AI)}{k:Str}{f:AI},Zev w g PJ->PJ.lookup k=some f->(g.find? λe=>Value.isStrOf k e.key).map (·.val)=↑f
 | [],[],_,_,_,h=>by cases h
 | [],_::_,_,_,h,_=>h.elim
 | _::_,[],_,_,h,_=>h.elim
 | e::g,p::t,k,f,h,hl=>by
  obtain⟨_,⟨tk,h2⟩,i,h4⟩:=h;rw[List.find?_cons,h2]
  by_cases hk:k=p.1
  ·subst hk;have d:Value.isStrOf p.1 (.str p.1 tk)=true:=by simp[Value.isStrOf]
   rw[d];have c:List.lookup p.1 (p::t)=some p.2:=by
    obtain⟨a,b⟩:=p;simp[List.lookup]
   rw[c]at hl;cases hl;show some e.val=_;rw[i]
  ·have d:Value.isStrOf k (.str p.1 tk)=false:=by
    simp only[Value.isStrOf,beq_eq_false_iff_ne,ne_eq];exact λz=>hk z.symm
   rw[d];have c:List.lookup k (p::t)=List.lookup k t:=by
    obtain⟨a,b⟩:=p;simp only[List.lookup];rw[beq_eq_false_iff_ne.mpr hk]
   rw[c]at hl;exact Zev.find h4 hl
def Zpe(PJ:List (Str×AI))(b:TE):TE:=λσ H Q=>b σ H λy a=>∃k f,y=.str k/\PJ.lookup k=some f/\Q (.ref f) a
theorem Zwp{PJ:List (Str×AI)}{a:TE}{σ:L2.St}{H:Hp}{Q:VK}(h:a σ H λy b=>∃k f,y=.str k/\PJ.lookup k=some f/\Q (.ref f) b):Zpe PJ a σ H Q:=h
theorem Zmk{X:Cx}{nm:Str}{PJ:List (Str×AI)}{i:AN}{m:TE}{p c:Pos}(T:Tab X.K X.w X.mg nm PJ)(u:Gl X nm)(q:PE X i m)(hs:Zrh i)(hd:(nm == ("__debug__":Str))=false:=by decide):
  PE X (.Subscript (.Name nm p) i c) (Zpe PJ m):=by
 intro a s z H Q I h;obtain⟨r,o,d,A,hm,hk,n,b,g⟩:=T;refine Zi1 PySem.F.slot_dict_getitem.lookup hs (p6 I u hm ?_ hd);refine fX (q a s z H _ I h) λt C qc=>?_;obtain⟨y,H2,I2,ry,k,f,ey,l,q2⟩:=qc;subst ey;have j:=I2.yV r o hk;refine⟨⟨o,j,n.1⟩,?_⟩;obtain⟨tk,rfl⟩:∃tk,t=.str k tk:=ry;refine wpAny_getItem_of (knd:=strKind X.prog X.w) (k:=k) (f:=λk=>findBy Value.isStrOf d k) (by show Value.isStrOf k (.str k tk)=true;simp[Value.isStrOf]) ⟨o,d,A,j,n,b,λe B=>g.keys e (by simpa using B),λ_=>rfl⟩ (v:=.ref f) ?_ ⟨.ref f,H2,I2.tok _,rfl,q2⟩;show Option.map (λx=>x.val) (Array.find? (λe=>Value.isStrOf k e.key) d)=_;rw[<- Array.find?_toList];exact g.find l
def Ux(P:AM)(w:AO)(K:aB)(mg:As)(base:Heap)(CX:CXT)(k:Nat)(ps:AH)(L:List (AI×Sp)):Prop:=
 ∀f sp,(f,sp)∈L->∃a fd,a<=k/\rD P w K mg base CX a f fd ps sp/\W.keepIn K (.ref f)=true/\L2.Binds K fd ps []
theorem Ux.nil{P:AM}{w:AO}{K:aB}{mg:As}{base:Heap}{CX:CXT}{k:Nat}{ps:AH}:Ux P w K mg base CX k ps []:=λ_ _ h=>absurd h List.not_mem_nil
theorem Ux.cons{P:AM}{w:AO}{K:aB}{mg:As}{base:Heap}{CX:CXT}{k a:Nat}{ps:AH}{L:List (AI×Sp)}{f:AI}{fd:AL}{sp:Sp}(hk:a<=k)(F:rD P w K mg base CX a f fd ps sp)(hb:L2.Binds K fd ps [])(hp:W.keepIn K (.ref f)=true)(t:Ux P w K mg base CX k ps L):Ux P w K mg base CX k ps ((f,sp)::L):=λg b h=>by
 rcases List.mem_cons.mp h with e | h
 ·cases e;exact⟨a,fd,hk,F,hp,hb⟩
 ·exact t g b h
def YL(i:Nat)(L:List (AI×Sp))(E:XK)(t:TA):TE:=λσ H Q=>∃f sp,σ[i]? =some (↑f)/\(f,sp)∈L/\t σ H λvs a=>sp vs a Q E
theorem jQ{i:Nat}{L:List (AI×Sp)}{E:XK}{t:TA}{σ:L2.St}{H:Hp}{Q:VK}{f:AI}(sp:Sp)(a:σ[i]? =some (↑f))(hm:(f,sp)∈L)(h:t σ H λvs b=>sp vs b Q E):YL i L E t σ H Q:=⟨f,sp,a,hm,h⟩
theorem Zcq{X:Cx}{CX:CXT}{k i:Nat}{ps:AH}{L:List (AI×Sp)}{x:Str}{E:XK}{e:AN}{c:AG}{t:TA}{p b:Pos}(F:Ux X.prog X.w X.K X.mg X.base CX k ps L)(hr:Room k X.A)(z:X.N[i]? =some x)(hv:Vis X.env.scope x)(hx:Passes CX X E)
  (y:PA X (e::c) t) (hd:(x == ("__debug__":Str))=false:=by decide) (g:(x == ("__classdict__":Str))=false:=by decide) (l:starEach (e::c) X.env=(false,eval e X.env)::starEach c X.env:=by rfl) (d:(backTo b (starEach c X.env)).any (·.1)=false:=by rfl):
  PE X (.Call (.Name x p) (e::c) [] b) (YL i L E t):=by
 intro a s j H Q I h;obtain⟨f,sp,n,hm,h⟩:=h;obtain⟨B,fd,hk,m,hp,hb⟩:=F f sp hm;refine wpAny_Call_Name_kw (fX (Zmj z hv hd g a s j H (λv q=>v=.ref f/\q=H) I ⟨_,n,rfl,rfl⟩) λu o qc=>?_);obtain⟨v,H1,I1,r,e1,e2⟩:=qc;subst e1 e2;obtain rfl:u=Value.ref f:=r;refine W.callWith_K (h₀:=X.base) I1.ok.mod.kin hp (fX (y b a o j H1 _ I1 h) λus D ⟨C,H2,I2,r2,q2⟩=>⟨I2.yV,?_⟩) l d;refine Zf (rC:=[]) m (hr.mono hk) hb .nil hx I2 r2 ?_;rw[List.append_nil];exact q2
section
variable {σ:L2.St}{H:Hp}{Q:VK}{td ty tv:TE}{n bk ct:L2.St->Hp->Prop}{r:VK}
theorem Zun(h:td σ H λx c=>ty σ c λy b=>∃a v,x=.ref a/\pK b a y (some v)/\Q v b):xZ td ty σ H Q:=h
theorem Zx6(h:ty σ H λy c=>td σ c λx b=>∃a o,x=.ref a/\pK b a y o/\Q (.bl o.isSome) b):Zsp ty td σ H Q:=h
theorem Zo0(h:ty σ H λy c=>td σ c λx b=>∃a o,x=.ref a/\pK b a y o/\Q (.bl (!o.isSome)) b):Ea ty td σ H Q:=h
theorem Zul(h:tv σ H λv d=>td σ d λx c=>ty σ c λy e=>∃a b,x=.ref a/\Wb e a y v b/\n σ b):Bb td ty tv ⟨n,r,bk,ct⟩ σ H:=h
theorem Zoy{a:AI}{b:List (L2.Key×V)}{z:Str}(e:H a=some (.dK b)):pK H a (.str z) (jN b (Sum.inr z)):=pK.k (k:=Sum.inr z) e
theorem Zxl{a:AI}{b:List (L2.Key×V)}{z:Str}{v:V}(e:H a=some (.dK b))(hl:b.length<sizeLine):Wb H a (.str z) v (upd H a (.dK (putK b (Sum.inr z) v))):=Wb.k (k:=Sum.inr z) e hl
end
def Zri(K:aB)(J:It)(b:List Nat)(tc:TT)(f:TE)(σ:L2.St)(g:Hp)(Q:VK):Prop:=∃W:Nat->Nat->List V->Hp->Prop,(∃m,W 0 m [] g)/\∀i m d H,W i m d H->
 (J.stop i H/\∀p,H p=none->Q (.ref p) (upd H p (.lst d)))\/
 (J.go i H/\d.length<sizeLine/\∀x H',J.yld i H x H'->∃a u v,x=.ref a/\dR K H' a [u,v]/\tc (some u::some v::b.map bj) H' λk e=>if k=true then f (some u::some v::b.map bj) e (λy h=>∃c,c<m/\W cy c (d++[y]) h)else ∃c,c<m/\W cy c d e)
def Zls(K:aB)(c:TI)(a:List Nat)(tc:TT)(d:TE):TE:=λσ H Q=>c σ H λJ b=>Zri K J a tc d σ b Q
theorem Zud{K:aB}{b:TI}{a:List Nat}{tc:TT}{c:TE}{σ:L2.St}{H:Hp}{Q:VK}(h:b σ H λJ d=>Zri K J a tc c σ d Q):Zls K b a tc c σ H Q:=h
def Zxw(K:aB)(b:TE):TE:=λσ H Q=>∃a u v r,σ=↑a::r/\dR K H a [u,v]/\b (some u::some v::r) H Q
theorem Zil{K:aB}{J:It}{b:List Nat}{c:TE}{σ:L2.St}{H:Hp}{Q:VK}(h:LCg J b uo (Zxw K c) σ H Q):Zri K J b uo c σ H Q:=by
 obtain⟨W,w0,step⟩:=h;refine⟨W,w0,λi m j H f=>?_⟩;rcases step i m j H f with z | ⟨g,l,st⟩
 ·exact .inl z
 ·refine .inr ⟨g,l,λx d y=>?_⟩;have h1:=st x d y;simp only[uo,↓reduceIte]at h1;obtain⟨a,u,v,r,e,hs,q⟩:=h1;cases e;refine⟨a,u,v,rfl,hs,?_⟩;simp only[uo,↓reduceIte];exact q
theorem Zfv{X:Cx}{o iter:AN}{x y:Str}{E D pt t:Pos}{F:Nat}{n:AG}{a:Scope}{cl:List (Str×AI)}{A:TI}{tc:TT}{B:TE}{cns:AH}(b:List Nat)
  (I:PI X (.Tuple [.Name x E,.Name y D] F pt) iter A)
  (P:∀C s H ex pn,PF (JP X a cl (x::y::cns) C s H ex pn) n tc) (V:∀C s H ex pn,PE (JP X a cl (x::y::cns) C s H ex pn) o B) (hc:X.calm=true)
  (e:closureFor a X.env=pure cl) (r:AllIn X.env.cells cl) (q:xT X cns b)
  (j:a.kind=.function) (f:(a.names.all λp=>p.2 != .cell)=true) (d:(a.names.all λp=>p.2 != .free || (cl.lookup p.1).isSome)=true)
  (u:(cns.all λy=>a.names.lookup y == some .free)=true) (c:∀y∈a.names,y.2=.local->a.names.lookup y.1=some .local) (hx:a.names.lookup x=some .local) (hy:a.names.lookup y=some .local) (k:(x::y::cns).Nodup)
  (hs:∀v,foldedSetIterable iter X.env v=pure v:=by intro _;rfl):
  PE X (.ListComp o [⟨.Tuple [.Name x E,.Name y D] F pt,iter,n,0⟩] a t) (Zls X.K A b tc B):=by
 refine Zmn (ns:=[x,y]) (gt:=Zgs X.K 2 (vg (aL 0) (vg (aL 1) Zgt))) b (λJ Z H Q h=>?_) I (λC s H ex pn=>Jg hc (jG (cJ k rfl (.inl (lookup_relabel_local hx)) (.inr (lookup_relabel_local hx))) (jG (cJ k rfl (.inl (lookup_relabel_local hy)) (.inr (lookup_relabel_local hy))) zU))) P V hc e r q j f d u c hs;obtain⟨W,w0,turn⟩:=h;refine⟨W,w0,λi m U H T=>(turn i m U H T).imp id λ⟨g,l,st⟩=>⟨g,l,λz N y O hv=>?_⟩⟩;obtain⟨S,L,R,M,w,st⟩:=st z N y
 match O,hv with
 | [v,Y],_=>exact⟨[some L,some R],rfl,⟨S,_,M,w,rfl,_,_,rfl,_,_,rfl,rfl,rfl,rfl⟩,st⟩
theorem Zcn{X:Cx}{iz:Nat}{z:Str}{Z P:Pos}{k iter:AN}{x:Str}{O n:Pos}{f:AG}{a:Scope}{cl:List (Str×AI)}{wi:TI}{tc:TT}{U:TE}{cns:AH}(d:List Nat)
  (hi:PI X (.Name x O) iter wi)
  (hf:∀C s H ex pn,PF (JP X a cl (x::cns) C s H ex pn) f tc) (he:∀C s H ex pn,PE (JP X a cl (x::cns) C s H ex pn) k U) (hc:X.calm=true)
  (B:closureFor a X.env=pure cl) (hcl:AllIn X.env.cells cl) (S:xT X cns d)
  (F:a.kind=.function) (L:(a.names.all λp=>p.2 != .cell)=true) (K:(a.names.all λp=>p.2 != .free || (cl.lookup p.1).isSome)=true)
  (hcf:(cns.all λy=>a.names.lookup y == some .free)=true) (r:∀y∈a.names,y.2=.local->a.names.lookup y.1=some .local) (hx:a.names.lookup x=some .local) (hnd:(x::cns).Nodup)
  (hN:X.N.Nodup) (hiz:X.N[iz]? =some z) (hz:Loc X.env.scope z) (hfz:X.fn z=true\/X.env.scope.names.lookup z=some .local)
  (hsw:swapsWithSole [.Name z Z] (.ListComp k [⟨.Name x O,iter,f,0⟩] a n) P.line X.env=pure true) (hs:∀v,foldedSetIterable iter X.env v=pure v:=by intro _;rfl):
  PS X (.Assign [.Name z Z] (.ListComp k [⟨.Name x O,iter,f,0⟩] a n) P) (bx (tLC wi d tc U) (aL iz)):=by
 intro j s E H D I h;generalize hQ:(λv H1=>aL iz v E H1 D.nx)=Q;have h:tLC wi d tc U E H Q:=hQ ▸ h;rw[exec_Assign_arm];refine wpAny_bind (wpAny_standAt ?_);rw[hsw];refine wpAny_bind (wpAny_pure ?_);rw[if_pos rfl];refine wpAny_bind ?_;rw[evalThenUse]
 suffices key:wpAny ς X.A (comprehension (.ListComp k [⟨.Name x O,iter,f,0⟩] a n) a X.env (firstIterPos [⟨.Name x O,iter,f,0⟩] n) (newList []) (firstAsync [⟨.Name x O,iter,f,0⟩]) (firstIter [⟨.Name x O,iter,f,0⟩] X.env) (some λv=>assignAll v ((assignEach [.Name z Z] X.env).map (·.2)))) (λ_ s'=>SP X j D .next s') X.xe s from
  wpAny_bind (wpAny_mono key (λ_ s' h=>wpAny_pure (wpAny_pure h)) λ_ _ h=>h)
 refine Zim (ns:=[x]) (gt:=aL 0) (R:=λJ E H Q=>LCg J d tc U E H Q) d (λJ E H Q h=>?_) hi (λC s H ex pn=>cJ hnd rfl (.inl (lookup_relabel_local hx)) (.inr (lookup_relabel_local hx))) hf he hc B hcl S F L K hcf r hs I h λacc C s6 m r0 hm fCC fin=>?_
 ·obtain⟨W,w0,turn⟩:=h;refine⟨W,w0,λi m ys H hw=>(turn i m ys H hw).imp id λ⟨g,l,st⟩=>⟨g,l,λz H' y vs hv=>?_⟩⟩
  match vs,hv with
  | [v],_=>exact⟨[some z],rfl,⟨rfl,rfl⟩,st z H' y⟩
 obtain⟨v,Y,If,rf,V,M⟩:=fin s6.heap (Heap.SameBut.refl _ _);have t:qd X j Y C:=fCC M;obtain⟨oC,esC,epC,gC,dC,kC,nC⟩:=hm;have Ip:Inv X (j++[(C,oC)]) E Y s6:=Inv.zT If λp hp=>by
  rcases List.mem_append.mp hp with hp | hp
  ·exact If.pin p (List.mem_append_right _ hp)
  ·rw[List.mem_singleton.mp hp];exact⟨gC,t.1,t.2.1,t.2.2.1,λv z=>by rw[dC]at z;cases z⟩
 show wpAny _ _ (assign (.Name z Z) X.env (.ref acc)) _ _ _;refine wpAny_assign_Name (Eb Ip hN hiz hz rf (λs7 I7=>?_) hfz);have g7:=(I7.pin (C,oC) (List.mem_append_right _ (List.mem_append_right _ List.mem_cons_self))).1;refine⟨m,⟨oC,esC,epC,g7,dC,kC,nC⟩,λh' hs'=>?_⟩;have I8:=I7.DY;have V:D.nx (E.set iz (some v)) Y:=by rw[<- hQ]at V;exact V
 have T:∀b o,b≠C->s7.heap.get? b=some o->h'.get? b=some o:=λb o hb e=>hs'.extBut b o hb e;refine⟨_,Y,I8.step (ch:=[C]) (λb hb=>?_) (λb o _ _ hb e _=>T b o (λz=>hb (by rw[z];exact List.mem_cons_self)) e) (λb o _ _ hb e _=>⟨o.slots,T b o (λz=>hb (by rw[z];exact List.mem_cons_self)) e⟩) (λ_ _ _ _ h=>h) (λb o hb e=>⟨o,T b o (λz=>hb (by rw[z];exact List.mem_cons_self)) e⟩) (λ_ _ h=>h) (λ_ _ _ h=>h) (λ_ ps h=>⟨#[],by simpa using h⟩) (λm' hm'=>?_) (λb u e=>?_) I8.bare,V⟩
 ·rw[List.mem_singleton.mp hb];exact⟨t.2.2.2.1,t.2.1,t.2.2.2.2.1,t.2.2.2.2.2⟩
 ·obtain⟨o',e1,e2,e3,e4,e5⟩:=hm';exact⟨o',e1,e2,T _ _ t.2.1.symm e3,e4,e5⟩
 ·refine(I8.hok b u e).stay (λc w' hc q=>T c w' ?_ q) (λ_ q=>q) λ_ _ q=>q;rintro rfl;rcases hc with rfl | hc
  ·rw[M]at e;cases e
  ·rw[M]at hc;cases hc
end G
namespace G
open PySem L2
def Ite(K:aB)(a:AI):It:=
 ⟨λi H=>∃xs x,bN K H a xs/\xs[i]? =some x,λi H x H'=>∃t v,x=.ref t/\H t=none/\H'=upd H t (.tup [.int i,v])/\∀xs,bN K H a xs->xs[i]? =some v,λi H=>∃xs,bN K H a xs/\xs.length<=i⟩
def Ze8(K:aB)(c:TA):TI:=λσ H R=>c σ H λvs b=>∃a,vs=[.ref a]/\(∃xs,bN K b a xs)/\R (Ite K a) b
theorem Zyr{K:aB}{b:TA}{σ:L2.St}{H:Hp}{R:It->Hp->Prop}(h:b σ H λvs c=>∃a,vs=[.ref a]/\(∃xs,bN K c a xs)/\R (Ite K a) c):Ze8 K b σ H R:=h
def JC(v d:AI):HO:=.ext λh=>h.IsItemsView v d
def Zfa(d:TE):TE:=λσ H Q=>d σ H λx b=>∃a c,x=.ref a/\Rd b a (.dK c)/\∀v,b v=none->Q (.ref v) (upd b v (JC v a))
theorem Zqn{d:TE}{σ:L2.St}{H:Hp}{Q:VK}(h:d σ H λx b=>∃a c,x=.ref a/\Rd b a (.dK c)/\∀v,b v=none->Q (.ref v) (upd b v (JC v a))):Zfa d σ H Q:=h
def Zez(H:Hp):AF->List eh->Prop
 | [],[]=>True
 | t::ts,kv::a=>H t=some (.tup [kV kv.1,kv.2])/\Zez H ts a
 | _,_=>False
def Zhf:List V->Hp->VK->Prop:=λxs H Q=>∃v a b,xs=[.ref v]/\H v=some (JC v a)/\Rd H a (.dK b)/\∀l ts H',H l=none->aX H H'->H' l=some (.lst bE)->Zez H' ts b->Q (.ref l) H'
theorem Zqm{H:Hp}{Q:VK}{v a:AI}{b:List eh}(h1:H v=some (JC v a))(h2:Rd H a (.dK b))(h:∀l ts H',H l=none->aX H H'->H' l=some (.lst bE)->Zez H' ts b->Q (.ref l) H'):Zhf [.ref v] H Q:=⟨v,a,b,rfl,h1,h2,h⟩
def Zqu(a:List eh):V->Option Bool
 | .int i=>some (jN a (.inl i)).isSome
 | .str x=>some (jN a (.inr x)).isSome
 | .non=>some false
 | _=>none
def Zlt(d:Bool)(ty g:TE):TE:=λσ H Q=>ty σ H λy f=>g σ f λx e=>∃a c b,x=.ref a/\Rd e a (.dK c)/\Zqu c y=some b/\Q (.bl (if d then !b else b)) e
theorem Zum{c:Bool}{ty f:TE}{σ:L2.St}{H:Hp}{Q:VK}(h:ty σ H λy g=>f σ g λx e=>∃a d b,x=.ref a/\Rd e a (.dK d)/\Zqu d y=some b/\Q (.bl (if c then !b else b)) e):Zlt c ty f σ H Q:=h
section
variable {K:aB}{a:AI}{g:TG}{tb:TS}{σ:L2.St}{H:Hp}{n:L2.St->Hp->Prop}{r:VK}
theorem Zxg(xs:List V)(Pv:Nat->L2.St->Hp->Prop)(h:Pv 0 σ H)(hl:∀i σ H,i<=xs.length->Pv i σ H->bN K H a xs)
  (hs:∀i x t σ H,xs[i]? =some x->Pv i σ H->H t=none->g (.ref t) σ (upd H t (.tup [.int i,x])) λc e=>tb ⟨Pv cy,r,n,Pv cy⟩ c e) (hd:∀ σ H,Pv xs.length σ H->n σ H):
  ∃W:Nat->Nat->L2.St->Hp->Prop,(∃m,W 0 m σ H)/\∀i m σ H,W i m σ H->
   ((Ite K a).stop i H/\n σ H)\/((Ite K a).go i H/\∃N:L2.St->Hp->Prop,(∀ b H',N b H'->∃f,f<m/\W cy f b H')/\∀x H',(Ite K a).yld i H x H'->g x σ H' λc e=>tb ⟨N,r,n,N⟩ c e):=by
 refine⟨λi m σ H=>i<=xs.length/\m=xs.length - i/\Pv i σ H,⟨xs.length,Nat.zero_le _,rfl,h⟩,?_⟩;rintro i m σ H ⟨j,rfl,p⟩;have hq:=hl i σ H j p
 by_cases hk:i=xs.length
 ·subst hk;exact .inl ⟨⟨xs,hq,Nat.le_refl _⟩,hd σ H p⟩
 ·have d:i<xs.length:=δ
  have hx:xs[i]? =some xs[i]:=bG d;refine .inr ⟨⟨xs,_,hq,hx⟩,Pv cy,λb H' k=>⟨xs.length - cy,δ,δ,rfl,k⟩,?_⟩;rintro x H' ⟨t,v,rfl,l,rfl,hv⟩;exact hs i v t σ H (hv xs hq) p l
theorem Zqf{d:List Nat}{tc:TT}{l:TE}{Q:VK}{xs:List V}(hs:bN K H a xs)(hz:xs.length<=1000000)(W:Nat->List V->Hp->Prop)(o:W 0 [] H)(h:∀i c b,W i c b->aX H b/\c.length<=i)
  (step:∀i x c b t (C:List V->Hp->Prop),(∀f e,W cy f e->C f e)->xs[i]? =some x->W i c b->b t=none->tc (some (.int i)::some x::d.map bj) (upd b t (.tup [.int i,x])) λk n=>if k=true then l (some (.int i)::some x::d.map bj) n (λy e=>C (c++[y]) e)else C c n)
  (q:∀c b,W xs.length c b->∀p,b p=none->Q (.ref p) (upd b p (.lst c))):Zri K (Ite K a) d tc l σ H Q:=by
 refine⟨λi m c b=>i<=xs.length/\m=xs.length - i/\W i c b,⟨xs.length,Nat.zero_le _,rfl,o⟩,?_⟩;rintro i m c b ⟨u,rfl,w⟩;obtain⟨sm,hl⟩:=h i c b w;have hq:bN K b a xs:=sm.seq hs
 by_cases hk:i=xs.length
 ·subst hk;exact .inl ⟨⟨xs,hq,Nat.le_refl _⟩,q c b w⟩
 ·have g:i<xs.length:=δ
  refine .inr ⟨⟨xs,_,hq,bG g⟩,Nat.lt_of_le_of_lt (show c.length<=1000000 by omega) (show 1000000<sizeLine by decide),?_⟩;rintro x z ⟨t,v,rfl,s,rfl,hv⟩;exact⟨t,_,_,rfl,dR.of aq,step i v c b t (λf e=>∃j,j<xs.length - i/\i+1<=xs.length/\j=xs.length - (i+1)/\W cy f e) (λf e r=>⟨xs.length - cy,δ,δ,rfl,r⟩) (hv xs hq) w s⟩
end
end G
namespace G
open PySem L2 PySem.Spec PyProof.Rows
theorem Zke{X:Cx}{a:At}{σ:L2.St}{H:Hp}{s:AK}{h':Heap}{t':Nat}{e d:AI}(I:Inv X a σ H s)(k:∀b u,b≠e->b≠d->s.heap.get? b=some u->h'.get? b=some u)(f:qd X a H e)(g:qd X a H d):
  Inv X a σ H { s with heap:=h',toks:=t' }:=by
 have ne:∀b u,H b=some u->b≠e:=λb u q z=>by rw[z,f.1]at q;cases q
 have h:∀b u,H b=some u->b≠d:=λb u q z=>by rw[z,g.1]at q;cases q
 have nm:∀b,b∉[e,d]->b≠e/\b≠d:=λb hb=>⟨λz=>hb (by simp[z]),λz=>hb (by simp[z])⟩;refine I.step (g':=s.gens) (d':=s.drawn) (ch:=[e,d]) (λb hb=>?_) (λb o _ _ hc q _=>k b o (nm b hc).1 (nm b hc).2 q) (λb o _ _ hc q _=>⟨o.slots,k b o (nm b hc).1 (nm b hc).2 q⟩) (λ_ _ _ _ n=>n)
  (λb o hc q=>⟨o,k b o (nm b hc).1 (nm b hc).2 q⟩) (λ_ _ q=>q) (λ_ _ _ q=>q) (λb t q=>⟨#[],by rw[q];simp⟩) (λm hm=>?_) (λb u q=>?_) I.bare
 ·rcases List.mem_cons.mp hb with z | z
  ·rw[z];exact⟨f.2.2.2.1,f.2.1,f.2.2.2.2.1,f.2.2.2.2.2⟩
  ·have j:b=d:=by simpa using z
   rw[j];exact⟨g.2.2.2.1,g.2.1,g.2.2.2.2.1,g.2.2.2.2.2⟩
 ·obtain⟨o,p,l,i,r⟩:=hm;exact⟨o,p,l,k _ o (Ne.symm f.2.1) (Ne.symm g.2.1) i,r⟩
 ·refine(I.hok b u q).stay (λc v hc z=>?_) (λ_ z=>z) λ_ _ z=>z;rcases hc with y | y
  ·rw[y]at z ⊢;exact k b v (ne b u q) (h b u q) z
  ·exact k c v (ne c _ y) (h c _ y) z
theorem SM{X:Cx}{d:At}{σ:L2.St}{H:Hp}{s:AK}{h':Heap}{t':Nat}{e f a:AI}{o:HO}(I:Inv X d σ H s)(k:∀b u,b≠e->b≠f->s.heap.get? b=some u->h'.get? b=some u)(g:qd X d H e)(h:qd X d H f)
  (j:s.heap.objs.size<=a) (new:gY X.prog X.w eo h' a o):Inv X d σ eo { s with heap:=h',toks:=t' }:=by
 have hn:=I.hok.fresh j;have ne:∀b u,H b=some u->b≠e:=λb u q z=>by rw[z,g.1]at q;cases q
 have l:∀b u,H b=some u->b≠f:=λb u q z=>by rw[z,h.1]at q;cases q
 have nm:∀b,b∉[e,f]->b≠e/\b≠f:=λb hb=>⟨λz=>hb (by simp[z]),λz=>hb (by simp[z])⟩;have p:∀b u,s.heap.get? b=some u->b≠a:=λb u q=>Nat.ne_of_lt (Nat.lt_of_lt_of_le (Heap.lt_size q) j);refine I.step (g':=s.gens) (d':=s.drawn) (ch:=[e,f]) (λb hb=>?_) (λb o _ _ hc q _=>k b o (nm b hc).1 (nm b hc).2 q) (λb o _ _ hc q _=>⟨o.slots,k b o (nm b hc).1 (nm b hc).2 q⟩) (λb u _ q n=>(aD (p b u q)).trans n)
  (λb o hc q=>⟨o,k b o (nm b hc).1 (nm b hc).2 q⟩) (λb i q=>(aD (aF q hn)).trans q) (λb o i q=>(aD (aF q hn)).trans q) (λb C q=>⟨#[],by rw[aD (aF q hn),q];simp⟩) (λm hm=>?_) (λb u q=>?_) I.bare
 ·rcases List.mem_cons.mp hb with z | z
  ·rw[z];exact⟨g.2.2.2.1,g.2.1,g.2.2.2.2.1,g.2.2.2.2.2⟩
  ·have x:b=f:=by simpa using z
   rw[x];exact⟨h.2.2.2.1,h.2.1,h.2.2.2.2.1,h.2.2.2.2.2⟩
 ·obtain⟨o,B,A,t,r⟩:=hm;exact⟨o,B,A,k _ o (Ne.symm g.2.1) (Ne.symm h.2.1) t,r⟩
 ·by_cases hb:b=a
  ·subst hb;rw[aq]at q;cases q;exact new
  ·rw[aD hb]at q;refine(I.hok b u q).stay (λc v hc z=>?_) (λc z=>by rw[aD (aF z hn)];exact z) λc i z=>by rw[aD (aF z hn)];exact z
   rcases hc with y | y
   ·rw[y]at z ⊢;exact k b v (ne b u q) (l b u q) z
   ·exact k c v (ne c _ y) (l c _ y) z
theorem Zjn{P:AM}{w:AO}{K:aB}{B:AG}{x1:Nat}{pt:Pos}(a e g:AI)(r:e≠g):
    Turn P w K (.Tuple B x1 pt) (Ite K a) [e,g] e (λi h=>(∃old,IsEnum h e g ((i:Nat):Int) old)/\h.IsListIter g a i) where
  mem:=ζ
  obj:=λi h st b hb=>by
    obtain⟨⟨old,j⟩,o,ho,c,d⟩:=st;rcases List.mem_cons.mp hb with z | z
    · rw[z];exact⟨_,j,λv z=>by cases z⟩
    · have U:b=g:=by simpa using z
      rw[U];exact⟨o,ho,λv z=>by rw[d]at z;cases z⟩
  keep:=λi h h' st k=>⟨let ⟨old,j⟩:=st.1;⟨old,k e ζ _ j⟩,st.2.at λo q=>k g ζ o q⟩
  item:=by
    intro X L T W hc i m s σ H E I y st S;subst L T W;obtain⟨xs,x,hq,hx⟩:=S;obtain⟨N,O,p,hz⟩:=I.list hq;obtain⟨u,hu,ru⟩:=O.get hx;obtain⟨⟨old,j⟩,l⟩:=st;have Y:=y e ζ;have Z:=y g ζ;have t:e<s.heap.objs.size:=Heap.lt_size j;have V:g<s.heap.objs.size:=by obtain⟨o,q,_⟩:=l;exact Heap.lt_size q
    refine wpAny_pyNext_enum_item j l p.isList (x:=u) (by simpa using hu) r λh1 D C J hz1 M=>?_;refine⟨_,rfl,wpAny_letOwnedTupleGo_enum (s:={ s with heap:=h1,toks:=s.toks+1 }) D λh2 R f=>?_⟩
    replace f:Heap.SameBut e h1 h2:=f
    have hn:H s.heap.objs.size=none:=I.hok.fresh Δ;have I2:Inv X m σ (upd H s.heap.objs.size (.tup [.int ((i:Nat):Int),x])) { s with heap:=h2,toks:=s.toks+1 }:=by
      refine SM I (λb v hb n q=>f.extBut b v hb (M b v hb n q)) Y Z Δ ?_;refine⟨by show 2<=sizeLine;decide,[.int ((i:Nat):Int) s.toks,u],.cons ⟨_,rfl⟩ (.cons ru .nil),⟨_,f.extBut _ _ (Nat.ne_of_gt t) J,rfl,_,rfl⟩⟩
    refine⟨.ref s.heap.objs.size,_,I2,rfl,⟨_,x,rfl,hn,rfl,λys hy=>by rw[I.Zdm hy hq];exact hx⟩,⟨⟨u,?_⟩,C.extBut f.extBut (Ne.symm r)⟩,λb hb=>?_⟩
    · have e1:(((i+1:Nat)):Int)=(i:Int)+1:=δ
      show IsEnum h2 e g (((i+1:Nat)):Int) u;rw[e1];exact R
    · rcases List.mem_cons.mp hb with z | z
      · rw[z,aD (Nat.ne_of_lt t)];exact Y.1
      · have U:b=g:=by simpa using z
        rw[U,aD (Nat.ne_of_lt V)];exact Z.1
  done:=by
    intro X L T W hc i m s σ H E I y st S;subst L T W;obtain⟨xs,hq,hx⟩:=S;obtain⟨N,O,p,hz⟩:=I.list hq;obtain⟨⟨old,j⟩,l⟩:=st;have hl:=O.length;exact wpAny_pyNext_enum_end (I.ok.hd hc) j l p.isList (by simp;omega) λh' F=>⟨rfl,Zke (t':=s.toks) I (λb o _ n q=>F b o n q) (y e ζ) (y g ζ)⟩
  self:=λA i s Q E st h=>let ⟨_,j⟩:=st.1;wpAny_pyIter_enum j h
theorem Zm{X:Cx}{g:AG}{B:Nat}{pt:Pos}{l:AN}{m:TA}{p f:Pos}(y:Gl X "enumerate")(hm:X.mg "enumerate"=none)(x:PA X [l] m)(hs:starEach [l] X.env=[(false,eval l X.env)]:=by rfl):
  PI X (.Tuple g B pt) (.Call (.Name "enumerate" p) [l] [] f) (Ze8 X.K m):=by
 intro c s n H R I h;refine Call_ (R0 I y hm boot_enumerate (PyProof.Rows.callWith_type1 (fX (x f c s n H _ I h) λus d qc=>?_) hs rfl));obtain⟨E,H1,I1,r1,q1⟩:=qc;obtain⟨a,e,⟨D,hq⟩,q⟩:=q1;subst e;cases r1 with
 | cons r w=>
  cases w;obtain rfl:_=Value.ref a:=r;obtain⟨u,F,C,hz⟩:=I1.list hq;refine call_enumerate_list C.isList λj o i v hk=>?_;have t:Inv X c n H1 { d with heap:=j }:=I1.kept (t':=d.toks) hk
  refine wpAny_pyIter_enum (s:={ d with heap:=j }) o ?_;have k:∀b,d.heap.objs.size<=b->qd X c H1 b:=λb hb=>I1.Zgv hb (I1.hok.fresh hb);refine⟨_,[d.heap.objs.size+1,d.heap.objs.size],_,_,H1,rfl,t,Zjn a _ _ (Nat.succ_ne_self _),⟨⟨_,o⟩,i⟩,λb hb=>?_,q⟩;rcases List.mem_cons.mp hb with z | z
  ·rw[z];exact k _ (Nat.le_succ _)
  ·have A:b=d.heap.objs.size:=by simpa using z
   rw[A];exact k _ Δ
theorem Zkf{X:Cx}{d:At}{σ:L2.St}{H:Hp}{s:AK}{a:AI}{o:HO}(I:Inv X d σ H s)(f:qd X d H a)(new:gY X.prog X.w eo s.heap a o):Inv X d σ eo s:=by
 have hn:=f.1;have r:Inv X d σ eo { s with heap:=s.heap,gens:=s.gens,drawn:=s.drawn,toks:=s.toks }:=by
  refine I.step (g':=s.gens) (t':=s.toks) (d':=s.drawn) (ch:=[a]) (λb hb=>?_) (λb u _ _ _ q _=>q) (λb u _ _ _ q _=>⟨u.slots,q⟩) (λb u hc q n=>(aD (λz=>hc (by simp[z]))).trans n) (λb u _ q=>⟨u,q⟩)
   (λb e q=>(aD (aF q hn)).trans q) (λb u e q=>(aD (aF q hn)).trans q) (λb g q=>⟨#[],by rw[aD (aF q hn),q];simp⟩) (λm hm=>hm) (λb u q=>?_) I.bare
  ·have z:b=a:=by simpa using hb
   rw[z];exact⟨f.2.2.2.1,f.2.1,f.2.2.2.2.1,f.2.2.2.2.2⟩
  ·by_cases hb:b=a
   ·subst hb;rw[aq]at q;cases q;exact new
   ·rw[aD hb]at q;exact(I.hok b u q).stay (λc v _ z=>z) (λc z=>by rw[aD (aF z hn)];exact z) λc e z=>by rw[aD (aF z hn)];exact z
 exact r
theorem Zgu{X:Cx}{c:At}{H:Hp}{a b:AI}{o:HO}(f:qd X c H b)(h:b≠a):qd X c eo b:=⟨(aD h).trans f.1,f.2⟩
theorem Zwj{P:AM}{w:AO}{k:Key}{u:AJ}(h:(dj P w).is k u=true):RelV (kV k) u:=by
 rcases dG h with ⟨i,t,rfl,rfl⟩ | ⟨x,t,rfl,rfl⟩
 ·exact⟨t,rfl⟩
 ·exact⟨t,rfl⟩
theorem Zmo{X:Cx}{o:AN}{m:TE}{d c:Pos}(j:PE X o m)(f:attributeBase o "items" X.env (eval o X.env)=eval o X.env:=by rfl)(g:(d.endLine == c.line)=true:=by rfl):
  PE X (.Call (.Attribute o "items" d) [] [] c) (Zfa m):=by
 intro i s t H Q I h;refine wpAny_Call_method0_late f g (fX (j i s t H _ I h) λu l qc=>?_);obtain⟨x,H1,I1,rx,a,kvs,ex,rd,q⟩:=qc;subst ex;obtain rfl:u=Value.ref a:=rx;obtain⟨t1,t2,hd⟩:=Zak I1 (.inl ⟨kvs,rd⟩);obtain⟨z,_,p,rel,n⟩:=xQ I1.hok rd;refine⟨"dict","dict.items",PySem.F.plainAttrs_dict,PySem.F.slot_dict_items,PySem.F.type_dict_items,t1,t2,Calls.callWith_builtin rfl (PySem.evalArgs_none ?_)⟩;refine call_meetsIn PySem.F.slot_dict_items t1 PySem.F.entry_dict_items (PySem.F.args_dict_items_1 _) (meets_dict_items (dj X.prog X.w) a hd) ⟨⟨p,n⟩,?_⟩;have hn:=I1.hok.fresh Δ;refine⟨.ref l.heap.objs.size,_,I1.laid (t':=l.toks) (λb u e=>Heap.get?_push_of_some _ e) Δ ?_,rfl,q _ hn⟩;exact⟨⟨_,Heap.get?_push_size _ rfl,rfl,rfl⟩,⟨_,Heap.get?_push_size _ rfl⟩,(by rintro h1 h2 ⟨o,j,r⟩ k;exact⟨o,k o j,r⟩)⟩
theorem Ko{X:Cx}{c:At}{σ:L2.St}{s:AK}:∀(g:AF) (d:List eh) (vs:List (Key×AJ)) (H:Hp),Inv X c σ H s->g.Nodup->(∀a∈g,qd X c H a)->g.length=d.length->KV d vs->
  (∀(j:Nat) (a:AI),g[j]? =some a->∃f k x,vs[j]? =some (k,x)/\(dj X.prog X.w).is k f=true/\s.heap.get? a=some { cls:=.type "tuple",data:=.seq #[f,x] })->
  ∃H',Inv X c σ H' s/\aX H H'/\Zez H' g d
 | [],[],_,H,I,_,_,_,_,_=>⟨H,I,λ_ _ h=>h,trivial⟩
 | [],_::_,_,_,_,_,_,hl,_,_=>by simp at hl
 | _::_,[],_,_,_,_,_,hl,_,_=>by simp at hl
 | a::g,i::d,vs,H,I,nd,n,hl,r,p=>by
  cases r with
  | cons B rs=>
   rename_i q C
   obtain⟨f,k,x,e,hk,E⟩:=p 0 a rfl;have u:q=(k,x):=by simpa using e
   subst u;obtain⟨F,t⟩:=B;have m:=n a ζ;have A:a∉g:=(List.nodup_cons.mp nd).1;have l:i.1=k:=F;have y:Inv X c σ (L2.upd H a (.tup [kV i.1,i.2])) s:=Zkf I m ⟨by show 2<=sizeLine;decide,[f,x],.cons (by rw[l];exact Zwj hk) (.cons t .nil),⟨_,E,rfl,_,rfl⟩⟩;obtain⟨H',D,sm,v⟩:=Ko g d C _ y (List.nodup_cons.mp nd).2 (λb hb=>Zgu (n b (by simp[hb])) λz=>A (z ▸ hb)) (by simpa using hl) rs (λj b hb=>by simpa using p (j+1) b (by simpa using hb));refine⟨H',D,λb o hb=>sm b o ?_,sm _ _ aq,v⟩;rw[aD (aF hb m.1)];exact hb
theorem W7:∀a:AF,Vals (a.map V.ref) (a.map Value.ref)
 | []=>.nil
 | _::a=>.cons rfl (W7 a)
theorem Zhd{X:Cx}(hc:X.calm=true):Im X (.type "list") Zhf:=by
 intro e s E H J us Q I r h;obtain⟨v,a,m,rfl,hv,F,q⟩:=h;obtain⟨u,rfl,p⟩:=Vals.one r;obtain rfl:u=Value.ref v:=p;have l:s.heap.IsItemsView v a:=(show gY X.prog X.w H s.heap v (JC v a)from I.hok v _ hv).1;obtain⟨z,hd,B,rel,t⟩:=xQ I.hok F;obtain⟨K,hm⟩:=t.dictAt;have hl:=rel.length;refine W.kdx_call (I.ok.hd hc) l hm (by rw[<- hl];exact z) λC tk k c d hk A f i g=>?_;have hn:=I.hok.fresh (Nat.le_refl s.heap.objs.size);have y:Inv X e E (upd H s.heap.objs.size (.lst (d.map V.ref))) { s with heap:=C,toks:=tk }:=by
  refine I.laid hk Δ ⟨by rw[aR,f,<- hl];exact z,k.toList,c,by rw[g];exact W7 d,by rw[Array.toArray_toList];exact A⟩
 have nd:d.Nodup:=i.rise.imp λh=>Nat.ne_of_lt h;obtain⟨n,D,sm,x⟩:=Ko d m B _ y nd (λb hb=>Zgu (I.Zgv (Nat.le_of_lt (i.above b hb)) (I.hok.fresh (Nat.le_of_lt (i.above b hb)))) (Nat.ne_of_gt (i.above b hb))) (by rw[f,hl]) rel (λj b hb=>i.pairs j b hb);refine⟨.ref s.heap.objs.size,n,D,rfl,q _ d n hn (λb o hb=>sm b o ?_) (sm _ _ aq) x⟩;rw[aD (aF hb hn)];exact hb
theorem Zoe{X:Cx}{e:At}{σ:L2.St}{H:Hp}{s:AK}{a:AI}{o:Obj}{d:List eh}(I:Inv X e σ H s)(h:H a=some (.dK d))(g:s.heap.get? a=some o):Inv X e σ (upd H a (.vH o (.dK d))) s:=by
 have ne:∀b u,H b=some u->u≠.dK d->b≠a:=λb u q n z=>n (by rw[z,h]at q;exact(Option.some.inj q).symm);have r:Inv X e σ (upd H a (.vH o (.dK d))) { s with heap:=s.heap,gens:=s.gens,drawn:=s.drawn,toks:=s.toks }:=by
  refine I.step (g':=s.gens) (t':=s.toks) (d':=s.drawn) (ch:=[]) (λb hb=>nomatch hb) (λb u _ _ _ q _=>q) (λb u _ _ _ q _=>⟨u.slots,q⟩) (λb u hc q n=>(aD (λz=>by rw[z,h]at n;cases n)).trans n) (λb u _ q=>⟨u,q⟩)
   (λb f q=>(aD (ne b _ q a4)).trans q) (λb u f q=>(aD (ne b _ q a4)).trans q) (λb i q=>⟨#[],by rw[aD (ne b _ q a4),q];simp⟩) (λm hm=>hm) (λb u q=>?_) I.bare
  have hs:∀c u,H c=some u->u≠.dK d->upd H a (.vH o (.dK d)) c=some u:=λc u z n=>by rw[aD (ne c u z n)];exact z
  by_cases hb:b=a
  ·subst hb;rw[aq]at q;cases q;exact⟨g,(I.hok b _ h).stay (λc v _ z=>z) (λc z=>hs c _ z (λy=>by cases y)) λc f z=>hs c _ z (λy=>by cases y)⟩
  ·rw[aD hb]at q;exact(I.hok b u q).stay (λc v _ z=>z) (λc z=>hs c _ z (λy=>by cases y)) λc f z=>hs c _ z (λy=>by cases y)
 exact r
def Zty:Option Key->AJ->Bool
 | none,.none=>true
 | none,_=>false
 | some k,v=>G6 k v
theorem jA{k:Option Key}{v:AJ}(h:Zty k v=true):(k=none/\v=.none)\/∃j,k=some j/\G6 j v=true:=by
 cases k with
 | none=>cases v<;>first | exact .inl ⟨rfl,rfl⟩ | cases h
 | some j=>exact .inr ⟨j,rfl,h⟩
theorem R6{j:Key}(h:G6 j Value.none=true):False:=by
 rcases dG h with ⟨i,t,_,e⟩ | ⟨x,t,_,e⟩<;>cases e
def Zto(P:AM)(w:AO):PySem.KeyKind P w (Option Key) where
  is:=Zty
  hash:=λk=>match k with | none=>reduceHash 0xFCA86420 | some k=>Zwi w k
  inj:=λv a b c hb=>by
    rcases jA c with ⟨rfl,rfl⟩ | ⟨i,rfl,h1⟩
    · rcases jA hb with ⟨rfl,_⟩ | ⟨j,rfl,h2⟩
      · rfl
      · exact(R6 h2).elim
    · rcases jA hb with ⟨rfl,rfl⟩ | ⟨j,rfl,h2⟩
      · exact(R6 h1).elim
      · rw[(dj P w).inj v i j h1 h2]
  byValue:=λk v h=>by
    rcases jA h with ⟨rfl,rfl⟩ | ⟨i,rfl,h1⟩
    · rfl
    · exact(dj P w).byValue i v h1
  pyHash:=λ{A E s k v Q} hv h=>by
    rcases jA hv with ⟨rfl,rfl⟩ | ⟨i,rfl,h1⟩
    · exact W.pyHash_slot (T:="NoneType") rfl F.slot_NoneType_hash F.entry_NoneType_hash (F.args_NoneType_hash_1 _) (beq_builtin_none _) (.inl rfl) (wpAny_bind (wpAny_pure (wpAny_bind (wpAny_mkInt (wpAny_pure ⟨_,_,rfl,h⟩)))))
    · exact(dj P w).pyHash h1 h
  eqBool:=λ{A E s a b u v Q} hu hv h=>by
    rcases jA hu with ⟨rfl,rfl⟩ | ⟨i,rfl,h1⟩
    · rcases jA hv with ⟨rfl,rfl⟩ | ⟨j,rfl,h2⟩
      · exact wj (A:=A) (s:=s) (y:=.non) (x:=.non) rfl rfl rfl rfl P w E Q h
      · rcases dG h2 with ⟨n,t,rfl,rfl⟩ | ⟨x,t,rfl,rfl⟩
        · exact wj (A:=A) (s:=s) (y:=.non) (x:=.int n) rfl ⟨t,rfl⟩ rfl rfl P w E Q h
        · exact wj (A:=A) (s:=s) (y:=.non) (x:=.str x) rfl ⟨t,rfl⟩ rfl rfl P w E Q h
    · rcases jA hv with ⟨rfl,rfl⟩ | ⟨j,rfl,h2⟩
      · rcases dG h1 with ⟨n,t,rfl,rfl⟩ | ⟨x,t,rfl,rfl⟩
        · exact wj (A:=A) (s:=s) (y:=.int n) (x:=.non) ⟨t,rfl⟩ rfl rfl rfl P w E Q h
        · exact wj (A:=A) (s:=s) (y:=.str x) (x:=.non) ⟨t,rfl⟩ rfl rfl rfl P w E Q h
      · refine(dj P w).eqBool h1 h2 ?_
        have e:decide (i=j)=decide (some i=some j):=by
          by_cases z:i=j
          · subst z;simp
          · rw[decide_eq_false z,decide_eq_false (λy=>z (Option.some.inj y))]
        rw[e];exact h
  «strs»:=λk x t v h=>by
    rcases jA h with ⟨_,e⟩ | ⟨i,rfl,h1⟩
    · cases e
    · exact(dj P w).strs i x t v h1
theorem Zn6{P:AM}{w:AO}{h:Heap}{a:AI}{vs:List (Key×AJ)}(dd:h.DictOf (dj P w) a vs):∃f,h.MapOf (Zto P w) a f/\f none=none:=by
 obtain⟨o,b,g,d,hc,hd,hk,hp,hn⟩:=dd;refine⟨λk=>findBy (Zto P w).is b k,⟨o,b,g,d,hc,hd,λe c=>?_,λ_=>rfl⟩,?_⟩
 ·obtain⟨k,h1,h2⟩:=hk e c;exact⟨some k,h1,h2⟩
 ·show Option.map (λx=>x.val) (Array.find? (λe=>Zty none e.key) b)=none;rw[Option.map_eq_none_iff,Array.find?_eq_none];intro e c;obtain⟨k,h1,_⟩:=hk e c;rcases dG h1 with ⟨n,t,_,z⟩ | ⟨x,t,_,z⟩<;>rw[z]<;>exact λy=>nomatch y
section
variable {X:Cx}{i o:AN}{ty td:TE}
theorem Zgp{a:List eh}{y:V}{b:Bool}(h:Zqu a y=some b):(∃k,y=kV k/\b=(jN a k).isSome)\/(y=.non/\b=false):=by
 cases y<;>simp only[Zqu,Option.some.injEq]at h<;>first | cases h
 ·exact .inr ⟨rfl,rfl⟩
 ·exact .inl ⟨.inl _,rfl,rfl⟩
 ·exact .inl ⟨.inr _,rfl,rfl⟩
theorem Zfw(hu:X.A.units+1<cLine)(e:PE X i ty)(p:PE X o td):PC X .NotIn i o (Zlt true ty td):=by
 intro c s d H Q I h;refine fX (e c s d H _ I h) λr g qc=>?_;obtain⟨y,H1,I1,ry,h1⟩:=qc;refine fX (p c g d H1 _ I1 h1) λl v qc=>?_;obtain⟨x,H2,I2,rx,a,kvs,b,ex,rd,hb,q⟩:=qc;subst ex;obtain rfl:l=Value.ref a:=rx;rcases Zgp hb with ⟨k,rfl,rfl⟩ | ⟨rfl,rfl⟩
 ·exact Zj5 hu I2 (.inl ⟨kvs,k,rd,rfl,rfl⟩) ry λu n=>⟨.bl _,H2,n,rfl,q⟩
 ·obtain rfl:r=Value.none:=ry;obtain⟨z,hd,t,rel,j⟩:=xQ I2.hok rd;obtain⟨f,hm,m⟩:=Zn6 j;refine wpAny_notIn_of (knd:=Zto X.prog X.w) (k:=none) rfl hd hm ?_;rw[m];exact⟨.bl _,H2,I2.tok _,rfl,q⟩
end
section
variable {X:Cx}
end
def Zax:List V->Hp->VK->Prop:=λxs H Q=>∃(a:AI) (b:List eh),xs=[.ref a]/\Rd H a (.dK b)/\∀l,H l=none->Q (.ref l) (upd H l (.lst (b.map λp=>kV p.1)))
theorem Zis{H:Hp}{Q:VK}{a:AI}{b:List eh}(h1:H a=some (.dK b))(h:∀l,H l=none->Q (.ref l) (upd H l (.lst (b.map λp=>kV p.1)))):Zax [.ref a] H Q:=⟨a,b,rfl,.inl h1,h⟩
theorem Ztz{P:AM}{w:AO}{k:Key}{u:AJ}(h:(dj P w).is k u=true):RelV (kV k) u:=by
 rcases dG h with ⟨i,t,rfl,rfl⟩ | ⟨x,t,rfl,rfl⟩
 ·exact⟨t,rfl⟩
 ·exact⟨t,rfl⟩
theorem XS{P:AM}{w:AO}:∀{a:List eh}{vs:List (Key×AJ)}{us:AC},KV a vs->us.length=vs.length->(∀(j:Nat) u,us[j]? =some u->∃k x,vs[j]? =some (k,x)/\(dj P w).is k u=true)->Vals (a.map λp=>kV p.1) us
 | [],_,[],.nil,_,_=>.nil
 | [],_,_::_,.nil,hl,_=>by simp at hl
 | kv::a,_,[],.cons _ _,hl,_=>by simp at hl
 | kv::a,_,u::us,.cons d rs,hl,h=>by
  obtain⟨k,x,e,hk⟩:=h 0 u rfl;obtain⟨g,i⟩:=d;have b:=Option.some.inj (show some _=some _ from e);refine .cons ?_ (XS rs (by simpa using hl) λj v f=>by simpa using h (j+1) v (by simpa using f));have c:kv.1=k:=by rw[g,b]
  show RelV (kV kv.1) u;rw[c];exact Ztz hk
theorem Tw{X:Cx}(hc:X.calm=true):Im X (.type "list") Zax:=by
 intro b s t H x us Q I r h;obtain⟨a,d,rfl,i,q⟩:=h;obtain⟨u,rfl,k⟩:=Vals.one r;obtain rfl:u=Value.ref a:=k;obtain⟨_,_,e⟩:=Zak I (.inl ⟨d,i⟩);obtain⟨z,hd,y,rel,l⟩:=xQ I.hok i;obtain⟨A,hm⟩:=l.dictAt;have hl:=rel.length;refine W.kdl_call (W.kdl_dict e) (I.ok.hd hc) hm (by rw[<- hl];exact z) λo tk f c hk n g=>?_;have hn:=I.hok.fresh (Nat.le_refl s.heap.objs.size);have m:Inv X b t (upd H s.heap.objs.size (.lst (d.map λp=>kV p.1))) { s with heap:=o,toks:=tk }:=
  I.laid hk Δ ⟨by rw[aR];exact z,f.toList,c,XS (P:=X.prog) (w:=X.w) rel (by rw[Array.length_toList];exact g.1) (λj u v=>g.2 j u (by simpa using v)),by rw[Array.toArray_toList];exact n⟩
 exact⟨.ref s.heap.objs.size,_,m,rfl,q _ hn⟩
section
variable {X:Cx}{x1 x2 x3 x4:Str}{C1 C2 C3 C4:AI}{pos np1 np2 np3 np4 hp1 hp2 hp3 hp4:Pos}{body su1 su2 su3 su4:List Stmt}{b1 b2 b3 b4:Stmt}{M1 M2 M3 M4:AJ->Prop}{tb:(L2.St->XK)->TS}{t1 t2 t3 t4:TS}
end
end G
namespace G
open PySem L2
end G
namespace G
open PySem L2 PySem.Spec PyProof.Rows
def Km(v d:AI):HO:=.ext λh=>h.IsValuesView v d
def Zlp(d:TE):TE:=λσ H Q=>d σ H λx b=>∃a c,x=.ref a/\Rd b a (.dK c)/\∀v,b v=none->Q (.ref v) (upd b v (Km v a))
theorem Zu3{d:TE}{σ:L2.St}{H:Hp}{Q:VK}(h:d σ H λx b=>∃a c,x=.ref a/\Rd b a (.dK c)/\∀v,b v=none->Q (.ref v) (upd b v (Km v a))):Zlp d σ H Q:=h
theorem Zk0{X:Cx}{o:AN}{m:TE}{d c:Pos}(j:PE X o m)(f:attributeBase o "values" X.env (eval o X.env)=eval o X.env:=by rfl)(g:(d.endLine == c.line)=true:=by rfl):
  PE X (.Call (.Attribute o "values" d) [] [] c) (Zlp m):=by
 intro i s t H Q I h;refine wpAny_Call_method0_late f g (fX (j i s t H _ I h) λu l qc=>?_);obtain⟨x,H1,I1,rx,a,kvs,ex,rd,q⟩:=qc;subst ex;obtain rfl:u=Value.ref a:=rx;obtain⟨t1,t2,hd⟩:=Zak I1 (.inl ⟨kvs,rd⟩);obtain⟨z,_,p,rel,n⟩:=xQ I1.hok rd;refine⟨"dict","dict.values",PySem.F.plainAttrs_dict,PySem.F.slot_dict_values,PySem.F.type_dict_values,t1,t2,Calls.callWith_builtin rfl (PySem.evalArgs_none ?_)⟩;refine call_meetsIn PySem.F.slot_dict_values t1 PySem.F.entry_dict_values (PySem.F.args_dict_values_1 _) (meets_dict_values (dj X.prog X.w) a hd) ⟨⟨p,n⟩,?_⟩;have hn:=I1.hok.fresh Δ;refine⟨.ref l.heap.objs.size,_,I1.laid (t':=l.toks) (λb u e=>Heap.get?_push_of_some _ e) Δ ?_,rfl,q _ hn⟩;exact⟨⟨_,Heap.get?_push_size _ rfl,rfl,rfl⟩,⟨_,Heap.get?_push_size _ rfl⟩,(by rintro h1 h2 ⟨o,j,r⟩ k;exact⟨o,k o j,r⟩)⟩
def Itv(a:AI)(o:Obj)(b:List eh):It:=
 ⟨λi H=>H a=some (.vH o (.dK b))/\i<b.length,λi H x H'=>H'=H/\∃kv,b[i]? =some kv/\x=kv.2,λi H=>H a=some (.vH o (.dK b))/\b.length<=i⟩
def Zo3(d:TE):TI:=λσ H R=>d σ H λx c=>∃v a b,x=.ref v/\c v=some (Km v a)/\c a=some (.dK b)/\∀o,R (Itv a o b) (upd c a (.vH o (.dK b)))
theorem Zyo{d:TE}{σ:L2.St}{H:Hp}{R:It->Hp->Prop}(h:d σ H λx c=>∃v a b,x=.ref v/\c v=some (Km v a)/\c a=some (.dK b)/\∀o,R (Itv a o b) (upd c a (.vH o (.dK b)))):Zo3 d σ H R:=h
theorem Xb{a b:Type}{R:a->b->Prop}:∀{xs:List a}{c:List b},Paired R xs c->∀(i:Nat) x y,xs[i]? =some x->c[i]? =some y->R x y
 | _,_,.nil,_,_,_,h,_=>by simp at h
 | _,_,.cons r rs,0,_,_,h1,h2=>by
  cases h1;cases h2;exact r
 | _,_,.cons r rs,i+1,_,_,h1,h2=>Xb rs i _ _ (by simpa using h1) (by simpa using h2)
theorem Zjl{P:AM}{w:AO}{K:aB}{tg:AN}(a q:AI)(o:Obj)(f:List eh)(B:Nat)(u:∃T,o.data=.dict T B):Turn P w K tg (Itv a o f) [q] q (λi h=>h.IsValIter q a i f.length B) where
  mem:=ζ
  obj:=λi h st b hb=>by
    have e:b=q:=by simpa using hb
    subst e;obtain⟨o,e,c,d⟩:=st;exact⟨o,e,λv z=>by rw[d]at z;cases z⟩
  keep:=λi h y st k=>by
    obtain⟨o,e,r⟩:=st;exact⟨o,k q ζ o e,r⟩
  item:=by
    intro X L S W hc i m s Z H E I A st R;subst L S W;obtain⟨hz,Y⟩:=R;obtain⟨M,z,hd,g,rel,J⟩:s.heap.get? a=some o/\f.length<=sizeLine/\(a == sysModules)=false/\∃g,KV f g/\s.heap.DictOf (dj X.prog X.w) a g:=I.hok a _ hz;obtain⟨p,hm⟩:=J.dictAt;obtain⟨T,n⟩:=u;have C:p=B:=by
      obtain⟨o',N,l,_,j,_⟩:=id hm;rw[M]at l;cases l;rw[n]at j;injection j with _ e;exact e.symm
    subst C;have hl:=rel.length;have hv:g[i]? =some g[i]:=bG δ;have x:f[i]? =some f[i]:=bG Y;have hk:RelV f[i].2 g[i].2:=(Xb rel i _ _ x hv).2;obtain⟨Q,F,f2,O,U,D⟩:=A q ζ;rw[hl]at st;refine wpAny_pyNext_values_item st hm (k:=g[i].1) (v:=g[i].2) (by rw[hv]) λy t sb=>?_;have I1:Inv X m Z H { s with heap:=y }:=I.turned (t':=s.toks) (λb o hb e=>(sb.2 b hb).trans e) Q F O U D;obtain⟨oi,e,c,d⟩:=id t;exact⟨_,rfl,Zoa (s:={ s with heap:=y }) e c d ε ⟨f[i].2,H,I1,hk,⟨rfl,_,x,rfl⟩,by rw[hl];exact t,λb hb=>(A b hb).1⟩⟩
  done:=by
    intro X L S W hc i m s Z H E I A st R;subst L S W;obtain⟨hz,Y⟩:=R;obtain⟨M,z,hd,g,rel,J⟩:s.heap.get? a=some o/\f.length<=sizeLine/\(a == sysModules)=false/\∃g,KV f g/\s.heap.DictOf (dj X.prog X.w) a g:=I.hok a _ hz;obtain⟨p,hm⟩:=J.dictAt;obtain⟨T,n⟩:=u;have C:p=B:=by
      obtain⟨o',N,l,_,j,_⟩:=id hm;rw[M]at l;cases l;rw[n]at j;injection j with _ e;exact e.symm
    subst C;have hl:=rel.length;obtain⟨Q,F,f2,O,U,D⟩:=A q ζ;rw[hl]at st;exact wpAny_pyNext_values_end (I.ok.hd hc) st hm (by rw[List.getElem?_eq_none];omega) λy eb=>⟨rfl,I.turned (t':=s.toks) (λb o hb e=>eb b o hb e) Q F O U D⟩
  self:=λ_ _ _ _ _ st h=>wpAny_pyIter_valiter st h
theorem Zpu{X:Cx}{tg:AN}{e:AN}{k:TE}(w:PE X e k):PI X tg e (Zo3 k):=by
 intro d s p H R I h;refine fX (w d s p H _ I h) λu c qc=>?_;obtain⟨x,H1,I1,r1,q1⟩:=qc;obtain⟨v,a,j,e,hv,hq,q⟩:=q1;subst e;obtain rfl:u=Value.ref v:=r1;have f:c.heap.IsValuesView v a:=(I1.hok v _ hv).1;obtain⟨z,hs,y,rel,n⟩:=Zsb I1.hok hq;obtain⟨r,hm⟩:=n.dictAt;obtain⟨o,t,l,_,i,_⟩:=id hm;refine wpAny_pyIter_values f hm ?_;have m:=Zoe I1 hq l;have g:c.heap.objs.size≠a:=Nat.ne_of_gt (Heap.lt_size l);refine⟨c.heap.objs.size,[c.heap.objs.size],_,_,_,rfl,m.kept (t':=c.toks) λb o e=>Heap.get?_push_of_some _ e,Zjl a _ o j r ⟨t,i⟩,?_,λb hb=>?_,q o⟩
 ·rw[rel.length];exact⟨_,Heap.get?_push_size _ rfl,rfl,rfl⟩
 ·have e:b=c.heap.objs.size:=by simpa using hb
  subst e;exact Zgu (I1.Zgv Δ (I1.hok.fresh Δ)) g
theorem Zjo{X:Cx}{f:At}{σ:L2.St}{H:Hp}{s:AK}{a:AI}{o:Obj}{d:List eh}(I:Inv X f σ H s)(h:H a=some (.vH o (.dK d)))(hn:∀B u,X.H₀ a≠some (.vH B u)):Inv X f σ (upd H a (.dK d)) s:=by
 have ne:∀b u,H b=some u->u≠.vH o (.dK d)->b≠a:=λb u q n z=>n (by rw[z,h]at q;exact(Option.some.inj q).symm);have k:∀b,H b=none->upd H a (.dK d) b=none:=λb q=>(aD (λz=>by rw[z,h]at q;cases q)).trans q;have hs:∀c u,H c=some u->u≠.vH o (.dK d)->upd H a (.dK d) c=some u:=λc u z n=>by rw[aD (ne c u z n)];exact z
 obtain⟨C,w,L,g,r,E,M,K,t,j,m⟩:=I;refine⟨C,w,L,⟨g.keep,g.slot,λb ob e n hx=>k b (g.free b ob e n hx),g.there,λb l e=>hs b _ (g.tups b l e) a4,λb ob u e=>(aD (a:=a) (b:=b) (λz=>hn ob u (by rw[<- z];exact e))).trans (g.JK b ob u e),λb A e=>?_⟩,r,E,k _ M,λx c e=>k _ (K x c e),λp hp=>?_,λb u q=>?_,m⟩
 ·obtain⟨i,q⟩:=g.Oc b A e;exact⟨i,hs b _ q a4⟩
 ·obtain⟨F,D,J⟩:=t p hp;exact⟨F,k _ D,J⟩
 ·by_cases hb:b=a
  ·subst hb;rw[aq]at q;cases q;exact(j b _ h).2.stay (λc v _ z=>z) (λc z=>hs c _ z (λy=>by cases y)) λc l z=>hs c _ z (λy=>by cases y)
  ·rw[aD hb]at q;exact(j b u q).stay (λc v _ z=>z) (λc z=>hs c _ z (λy=>by cases y)) λc l z=>hs c _ z (λy=>by cases y)
def Zlq(H0:Hp)(e:TE):TE:=λσ H Q=>e σ H λx c=>∃a o b,c a=some (.vH o (.dK b))/\(∀d u,H0 a≠some (.vH d u))/\Q x (upd c a (.dK b))
theorem Zu4{H0:Hp}{c:TE}{σ:L2.St}{H:Hp}{Q:VK}(h:c σ H λx d=>∃a o b,d a=some (.vH o (.dK b))/\(∀e u,H0 a≠some (.vH e u))/\Q x (upd d a (.dK b))):Zlq H0 c σ H Q:=h
theorem Zpv{X:Cx}{e:AN}{c:TE}(f:PE X e c):PE X e (Zlq X.H₀ c):=by
 intro b s d H Q I h;refine fX (f b s d H _ I h) λu g qc=>?_;obtain⟨x,H1,I1,r1,a,o,kvs,ha,hn,q⟩:=qc;exact⟨x,_,Zjo I1 ha hn,r1,q⟩
def Zpd(K:aB)(a:TE):TT:=λσ H Q=>a σ H λx H'=>∃k,Zp6 K x H' k/\Q k H'
theorem Zs1{K:aB}{a:TE}{σ:L2.St}{H:Hp}{Q:Bool->Hp->Prop}(h:a σ H λx H'=>∃k,Zp6 K x H' k/\Q k H'):Zpd K a σ H Q:=h
theorem Zvn{K:aB}{H:Hp}{a:AI}{xs:List V}{P:Bool->Prop}(h:bN K H a xs)(q:P (!xs.isEmpty)):∃k,Zp6 K (.ref a) H k/\P k:=⟨_,.inl ⟨xs,h,rfl⟩,q⟩
theorem Zo2{i:Nat}{c x:Int}{f:Int->Int->Int}{n:L2.St->Hp->Prop}{r:VK}{b ct:L2.St->Hp->Prop}{σ:L2.St}{H:Hp}(e:σ[i]? =some (some (.int x)))(h:n (σ.set i (some (.int (f x c)))) H):Zsr i (tC (.int c)) (ipI f) ⟨n,r,b,ct⟩ σ H:=⟨_,e,x,c,rfl,rfl,h⟩
def Zhe(K:aB):List V->Hp->VK->Prop:=λxs H Q=>∃p a,xs=[.ref p]/\(bN K H p a\/dR K H p a)/\∀l,H l=none->Q (.ref l) (upd H l (.lst a))
theorem Zir{K:aB}{H:Hp}{Q:VK}{p:AI}{a:List V}(h1:dR K H p a)(h:∀l,H l=none->Q (.ref l) (upd H l (.lst a))):Zhe K [.ref p] H Q:=⟨p,a,rfl,.inr h1,h⟩
def Dq(K:aB)(H:Hp):Nat->V->V->Prop
 | 0,x,y=>x=y/\lW x=true
 | d+1,x,y=>(x=y/\lW x=true)\/∃a b,x=.ref a/\y=.ref b/\(a=b\/∃xs c,((bN K H a xs/\bN K H b c)\/(dR K H a xs/\dR K H b c))/\Al (Dq K H d) xs c)
theorem Zr4{K:aB}{H:Hp}{d:Nat}{x:V}(h:lW x=true):Dq K H d x x:=by
 cases d with
 | zero=>exact⟨rfl,h⟩
 | succ d=>exact .inl ⟨rfl,h⟩
theorem HX{K:aB}{H:Hp}{d:Nat}:∀{xs:List V},xs.all lW=true->Al (Dq K H d) xs xs
 | [],_=>.nil
 | x::xs,h=>by
  rw[List.all_cons,Bool.and_eq_true]at h;exact .cons (Zr4 h.1) (HX h.2)
def Zcm(K:aB)(c:Bool):R2:=λx y H Q=>∃a b xs d,x=.ref a/\y=.ref b/\((bN K H a xs/\bN K H b d)\/(dR K H a xs/\dR K H b d))/\Al (Dq K H 6) xs d/\Q (.bl (!c)) H
section
variable {X:Cx}
theorem Zee:∀{x:V},lW x=true->Ys x x=true
 | .non,_=>rfl
 | .bl b,_=>by cases b<;>rfl
 | .int i,_=>by simp[Ys]
 | .str z,_=>by simp[Ys]
theorem Zxk{n:At}{σ:L2.St}{H:Hp}{s:AK}(I:Inv X n σ H s):∀(d:Nat) {A:Around}{x y:V}{u v:AJ},A.units+d<cLine->RelV x u->RelV y v->Dq X.K H d x y->SeqAt.EqAt A s u v true:=by
 intro d
 induction d with
 | zero=>
  intro A x y u v hu o p h;obtain⟨rfl,i⟩:=h;have:=wj (A:=A) (s:=s) o p i i;rw[Zee i]at this;exact this
 | succ d E=>
  intro A x y u v hu o p h;rcases h with ⟨rfl,i⟩ | ⟨a,b,rfl,rfl,h⟩
  ·have:=wj (A:=A) (s:=s) o p i i;rw[Zee i]at this;exact this
  ·obtain rfl:u=Value.ref a:=o;obtain rfl:v=Value.ref b:=p
   by_cases e:a=b
   ·subst e;exact SeqAt.EqAt.same _
   rcases h with rfl | ⟨q,r,hs,al⟩
   ·exact absurd rfl e
   ·refine SeqAt.EqAt.of_refs e ?_;have hl:=al.length;have m:A.units<cLine:=δ
    have item:∀{us g:AC},Vals q us->Vals r g->∀(j:Nat) (h1:j<us.toArray.size) (h2:j<g.toArray.size),SeqAt.EqAt A.in1 s us.toArray[j] g.toArray[j] true:=by
     intro us g c f j h1 h2;rw[List.size_toArray]at h1 h2;have M:=c.length;have Q:=f.length;have w:q[j]? =some q[j]:=bG δ;have C:r[j]? =some r[j]:=bG δ;obtain⟨N,B,J⟩:=c.get w;obtain⟨P,z,F⟩:=f.get C;rw[bG h1]at B;rw[bG h2]at z;cases B;cases z;obtain⟨O,e3,D⟩:=al.get C;rw[w]at e3;cases e3;exact E (A:=A.in1) (by show A.units+1+d<cLine;omega) J F D
    rcases hs with ⟨t,hb⟩ | ⟨t,hb⟩
    ·obtain⟨us,c,l,_⟩:=I.list t;obtain⟨g,f,k,_⟩:=I.list hb;have:=SeqAt.RcAt.lists (A:=A) (e:=λ_=>true) l.isList k.isList (by rw[List.size_toArray,List.size_toArray,<- c.length,<- f.length];exact hl) m (λj h1 h2=>item c f j h1 h2);rw[show(List.range us.toArray.size).all (λ_=>true)=true from by rw[List.all_eq_true];intros;rfl]at this;exact this
    ·obtain⟨us,c,l,_⟩:=I.tuple t;obtain⟨g,f,k,_⟩:=I.tuple hb;have L:us.toArray.size=g.toArray.size:=by rw[List.size_toArray,List.size_toArray,<- c.length,<- f.length];exact hl
     have:=SeqAt.RcAt.tuples (A:=A) (e:=λ_=>true) l k m (λj h1 h2=>item c f j h1 h2);rw[show(List.range (min us.toArray.size g.toArray.size)).all (λ_=>true)=true from by rw[List.all_eq_true];intros;rfl,L]at this;simpa using this
theorem z6{a:At}{σ:L2.St}{H:Hp}{s:AK}(I:Inv X a σ H s){A:Around}(hu:A.units+8<cLine){xs b:List V}{us c:AC}(al:Al (Dq X.K H 6) xs b)(d:Vals xs us)(f:Vals b c)(j:Nat)(h1:j<us.toArray.size)(h2:j<c.toArray.size):SeqAt.EqAt A.in1 s us.toArray[j] c.toArray[j] true:=by
 rw[List.size_toArray]at h1 h2;have n:=d.length;have r:=f.length;have e:xs[j]? =some xs[j]:=bG δ;have i:b[j]? =some b[j]:=bG δ;obtain⟨o,h,m⟩:=d.get e;obtain⟨q,g,l⟩:=f.get i;rw[bG h1]at h;rw[bG h2]at g;cases h;cases g;obtain⟨p,e3,k⟩:=al.get i;rw[e]at e3;cases e3;exact Zxk I 6 (A:=A.in1) (by show A.units+1+6<cLine;omega) m l k
theorem Zn0(hu:X.A.units+64<cLine):tK X (compareOp .Eq) (Zcm X.K false):=by
 intro i s o H x y v u Q I j l h;obtain⟨p,m,n,r,rfl,rfl,hs,al,q⟩:=h;obtain rfl:v=Value.ref p:=j;obtain rfl:u=Value.ref m:=l;have hl:=al.length;rcases hs with ⟨g,hb⟩ | ⟨g,hb⟩
 ·obtain⟨us,c,b,_⟩:=I.list g;obtain⟨f,d,a,_⟩:=I.list hb;refine SeqAt.eq_listAt (e:=λ_=>true) b.isList a.isList (by rw[List.size_toArray,List.size_toArray,<- c.length,<- d.length];exact hl) δ (z6 I δ al c d) ?_;rw[show(List.range us.toArray.size).all (λ_=>true)=true from by rw[List.all_eq_true];intros;rfl];exact⟨.bl _,H,I,rfl,q⟩
 ·obtain⟨us,c,b,_⟩:=I.tuple g;obtain⟨f,d,a,_⟩:=I.tuple hb;have k:us.toArray.size=f.toArray.size:=by rw[List.size_toArray,List.size_toArray,<- c.length,<- d.length];exact hl
  refine SeqAt.eq_tupleAt (e:=λ_=>true) b a δ (z6 I δ al c d) ?_;rw[show(List.range (min us.toArray.size f.toArray.size)).all (λ_=>true)=true from by rw[List.all_eq_true];intros;rfl,k];simp only[beq_self_eq_true,Bool.and_self];exact⟨.bl _,H,I,rfl,q⟩
theorem Zmz(hu:X.A.units+64<cLine):tK X (compareOp .NotEq) (Zcm X.K true):=by
 intro i s o H x y v u Q I j l h;obtain⟨p,m,n,r,rfl,rfl,hs,al,q⟩:=h;obtain rfl:v=Value.ref p:=j;obtain rfl:u=Value.ref m:=l;have hl:=al.length;rcases hs with ⟨g,hb⟩ | ⟨g,hb⟩
 ·obtain⟨us,c,b,_⟩:=I.list g;obtain⟨f,d,a,_⟩:=I.list hb;have:=SeqAt.RcNeAt.lists (A:=X.A) (s:=s) (e:=λ_=>true) b.isList a.isList (by rw[List.size_toArray,List.size_toArray,<- c.length,<- d.length];exact hl) δ (z6 I δ al c d);rw[show(List.range us.toArray.size).all (λ_=>true)=true from by rw[List.all_eq_true];intros;rfl]at this;exact this _ _ _ _ ⟨.bl _,H,I,rfl,q⟩
 ·obtain⟨us,c,b,_⟩:=I.tuple g;obtain⟨f,d,a,_⟩:=I.tuple hb;have k:us.toArray.size=f.toArray.size:=by rw[List.size_toArray,List.size_toArray,<- c.length,<- d.length];exact hl
  have:=SeqAt.RcNeAt.tuples (A:=X.A) (s:=s) (e:=λ_=>true) b a δ (z6 I δ al c d);rw[show(List.range (min us.toArray.size f.toArray.size)).all (λ_=>true)=true from by rw[List.all_eq_true];intros;rfl,k]at this;simp only[beq_self_eq_true,Bool.and_self]at this;exact this _ _ _ _ ⟨.bl _,H,I,rfl,q⟩
theorem Zit{K:aB}{c:Bool}{H:Hp}{Q:VK}{a b:AI}{xs d:List V}(hs:(bN K H a xs/\bN K H b d)\/(dR K H a xs/\dR K H b d))(al:Al (Dq K H 6) xs d)(q:Q (.bl (!c)) H):Zcm K c (.ref a) (.ref b) H Q:=⟨a,b,xs,d,rfl,rfl,hs,al,q⟩
end
end G
namespace G
open PySem L2
end G
local macro_rules|`(tactic|walk_at"g2")=>`(tactic|with_reducible first|refine G.Zu4 ?_|refine G.Zs1 ?_|refine G.Zyr ?_|refine G.Zqn ?_|refine G.Zum ?_)
local macro_rules|`(tactic|walk_at"g2")=>`(tactic|with_reducible first|refine G.Zud ?_|refine G.Zgo ?_|refine G.Ze7 ?_|refine G.Zgn ?_|refine G.Zu3 ?_|refine G.Zyo ?_)
local macro_rules|`(tactic|walk_at"g2")=>`(tactic|with_reducible first|refine G.Zql ?_|refine G.Zwp ?_|refine G.Zun ?_|refine G.Zx6 ?_|refine G.Zo0 ?_|refine G.Zul ?_)
local macro_rules|`(tactic|walk_at"g2")=>`(tactic|with_reducible first|refine G.Zqr ?_|refine G.Zqh ?_|refine G.Zqs ?_|refine G.Zwo ?_|refine G.Zui ?_|refine G.Zu9 ?_)
local macro_rules|`(tactic|walk_at"g2")=>`(tactic|with_reducible first|refine G.Zyu ?_|refine G.Zyt ?_|refine G.Zys ?_|refine G.Zx1 ?_|refine G.Zx0 ?_|refine G.yW ?_)
local macro_rules|`(tactic|walk_at"g2")=>`(tactic|with_reducible first|refine G.Zyx ?_|refine G.Zuj ?_|refine G.Zao ?_|refine G.Zqq ?_|refine G.Zyw ?_|refine G.Zyv ?_)
local macro_rules|`(tactic|walk_at"g2")=>`(tactic|with_reducible first|refine G.Zyf ?_|refine G.Zye ?_|refine G.Zyd ?_|refine G.Zyc ?_|refine G.Zwm ?_|refine G.Zwl ?_)
local macro_rules|`(tactic|walk_at"g2")=>`(tactic|with_reducible first|refine G.Zyk ?_|refine G.Zyj ?_|refine G.Zyi ?_|refine G.Zgi ?_|refine G.Zyh ?_|refine G.Zyg ?_)
local macro_rules|`(tactic|walk_at"g2")=>`(tactic|with_reducible first|refine G.Zym ?_|refine G.Zyy ?_|refine G.Zx7 ?_|refine G.Zx2 ?_|refine G.Zyq ?_|refine G.Zyp ?_)
local macro_rules|`(tactic|walk_at"g2")=>`(tactic|with_reducible first|refine G.Zx3 ?_|refine G.Zu6 ?_|refine G.Zub ?_|refine G.Znx ?_|refine G.Zu7 ?_|refine G.Zyn ?_)
local macro_rules|`(tactic|walk_at"g2")=>`(tactic|with_reducible first|refine G.Zuo ?_|refine G.Zwx ?_|refine G.Zwn ?_|refine G.Zup ?_|refine G.Zyz ?_|refine G.Zuc ?_)
local macro_rules|`(tactic|walk_at"g2")=>`(tactic|with_reducible first|refine G.Zqi ?_|refine G.Zgm ?_|refine G.Zan ?_|refine G.Zqo ?_|refine G.Zqp ?_|refine G.Zwt ?_)
local macro_rules|`(tactic|walk_at"g2")=>`(tactic|with_reducible first|refine G.Zww ?_|refine G.Zug ?_|refine G.Zuf ?_|refine G.Zue ?_|refine G.Zqk ?_|refine G.Zqj ?_)
local macro_rules|`(tactic|walk_at"g2")=>`(tactic|with_reducible first|refine G.Zx9 ?_|refine G.i_U ?_|refine G.Zx5 ?_|refine G.Zx4 ?_|refine G.Zwv ?_|refine G.Zwu ?_)
local macro_rules|`(tactic|walk_at"g2")=>`(tactic|with_reducible first|refine G.Zws ?_|refine G.Zs2 ?_|refine G.Zuq ?_|refine G.Zwr ?_|refine G.Zu8 ?_|refine G.Zwz ?_)
local macro_rules|`(tactic|walk_at"g2")=>`(tactic|with_reducible first|refine G.Zgj ?_|refine G.Zyl ?_|refine G.i_B ?_|refine G.Zu5 ?_|refine G.Zwq ?_|refine G.Zx8 ?_)
local macro_rules|`(tactic|walk_at"g2")=>`(tactic|with_reducible first|refine G.nY ?_|refine G.Zuk ?_|refine G.Ziq ?_|refine G.Zuh ?_|refine G.SQ ?_|refine G.i_C ?_)
local macro_rules|`(tactic|walk_at"g1")=>`(tactic|walk_at"g2")
local macro_rules|`(tactic|walk_at"g1")=>`(tactic|with_reducible refine G.yX ?_)
local macro_rules | `(tactic| walk_at "ne")=>`(tactic| first | assumption | (exact Ne.symm (by assumption)) | exact L2.aF (by assumption) (by assumption) | exact Ne.symm (L2.aF (by assumption) (by assumption)) | exact Nat.ne_of_lt (by assumption))
local macro_rules | `(tactic| walk_at "hp")=>`(tactic| first | assumption | exact L2.aq | (refine Eq.trans (L2.aD ?hne) ?_;(case hne=>walk_at "ne");walk_at "hp"))
local macro_rules | `(tactic| walk_at"d")=>`(tactic| first | omega | decide | (show (_:Int)<_;decide) | exact ⟨ε,ε⟩ | exact ⟨ε,ε,ε⟩ | (unfold L2.Uv;omega) | exact .inl (by unfold L2.Uv;omega))
local macro_rules | `(tactic| walk_at"e")=>`(tactic| repeat (first | walk_at "g1" | ((with_reducible refine G.i_I ?hc ?_);(case hc=>walk_at"d"))))
local macro_rules | `(tactic| walk_at"s")=>`(tactic| repeat (first | walk_at "g2" | ((with_reducible refine G.i_I ?hc ?_);(case hc=>walk_at"d"))))
local macro_rules | `(tactic| walk_at"c")=>`(tactic| simp only [List.map_cons,List.map_nil,G.pick,List.getElem?_cons_zero,List.getElem?_cons_succ])
local macro_rules | `(tactic| apply $e)=>`(tactic| (walk_at"e";refine $e))
local macro_rules | `(tactic| exists $e,*)=>`(tactic| (walk_at"e";refine⟨$e,*, ?_⟩))
local macro_rules | `(tactic| ext)=>`(tactic| walk_at"e")
local macro_rules | `(tactic| left)=>`(tactic| walk_at"s")
local macro_rules | `(tactic| right)=>`(tactic| (have h2:=(Except.ok.inj h);rw[<- (Prod.mk.inj h2).2]))
namespace K27
open PySem L2 G
def j7(birth:Int)(bulk:Int)(tone:Int)(load:Int)(fa:AI):List (Str×V):=[("birth",.int birth),("bulk",.int bulk),("tone",.int tone),("load",.int load),("fields",.ref fa)]
theorem fG{birth:Int}{bulk:Int}{tone:Int}{load:Int}{fa:AI}:List.lookup ("birth":Str) cf=some (.int birth:V):=rfl
theorem CT{birth:Int}{bulk:Int}{tone:Int}{load:Int}{fa:AI}:List.lookup ("bulk":Str) cf=some (.int bulk:V):=rfl
theorem V0{birth:Int}{bulk:Int}{tone:Int}{load:Int}{fa:AI}:List.lookup ("tone":Str) cf=some (.int tone:V):=rfl
theorem uf{birth:Int}{bulk:Int}{tone:Int}{load:Int}{fa:AI}:List.lookup ("load":Str) cf=some (.int load:V):=rfl
theorem ig{birth:Int}{bulk:Int}{tone:Int}{load:Int}{fa:AI}:List.lookup ("fields":Str) cf=some (.ref fa:V):=rfl
theorem Tt{birth:Int}{bulk:Int}{tone:Int}{load:Int}{fa:AI}(y:Int):cj "tone" (.int y) cf=j7 birth bulk y load fa:=rfl
theorem Tu{birth:Int}{bulk:Int}{tone:Int}{load:Int}{fa:AI}(y:Int):cj "load" (.int y) cf=j7 birth bulk tone y fa:=rfl
theorem Zp0{birth:Int}{bulk:Int}{tone:Int}{load:Int}{fa:AI}:(cj "fields" (.ref fa) (cj "load" (.int load) (cj "tone" (.int tone) (cj "bulk" (.int bulk) (cj "birth" (.int birth) [])))))=j7 birth bulk tone load fa:=rfl
theorem qY{birth:Int}{bulk:Int}{tone:Int}{load:Int}{fa:AI}:List.lookup ("units":Str) cf=none:=rfl
theorem Dp{birth:Int}{bulk:Int}{tone:Int}{load:Int}{fa:AI}:List.lookup ("has_field":Str) cf=none:=rfl
def jo(room:Int)(ca:AI)(used:Int)(born:Int):List (Str×V):=[("room",.int room),("cells",.ref ca),("used",.int used),("born",.int born)]
theorem VN{room:Int}{ca:AI}{used:Int}{born:Int}:List.lookup ("room":Str) cw=some (.int room:V):=rfl
theorem bM{room:Int}{ca:AI}{used:Int}{born:Int}:List.lookup ("cells":Str) cw=some (.ref ca:V):=rfl
theorem ue{room:Int}{ca:AI}{used:Int}{born:Int}:List.lookup ("used":Str) cw=some (.int used:V):=rfl
theorem VP{room:Int}{ca:AI}{used:Int}{born:Int}:List.lookup ("born":Str) cw=some (.int born:V):=rfl
theorem yZ{room:Int}{ca:AI}{used:Int}{born:Int}(y:Int):cj "used" (.int y) cw=jo room ca y born:=rfl
theorem SX{room:Int}{ca:AI}{used:Int}{born:Int}(y:Int):cj "born" (.int y) cw=jo room ca used y:=rfl
theorem Zo7{room:Int}{ca:AI}{used:Int}{born:Int}:(cj "born" (.int born) (cj "used" (.int used) (cj "cells" (.ref ca) (cj "room" (.int room) []))))=jo room ca used born:=rfl
theorem VJ{room:Int}{ca:AI}{used:Int}{born:Int}:List.lookup ("make":Str) cw=none:=rfl
theorem Zar{room:Int}{ca:AI}{used:Int}{born:Int}:List.lookup ("lay":Str) cw=none:=rfl
theorem VM{room:Int}{ca:AI}{used:Int}{born:Int}:List.lookup ("back":Str) cw=none:=rfl
theorem VL{room:Int}{ca:AI}{used:Int}{born:Int}:List.lookup ("free":Str) cw=none:=rfl
theorem zb{room:Int}{ca:AI}{used:Int}{born:Int}:List.lookup ("there":Str) cw=none:=rfl
def R5(lk:AI)(tl:Int):List (Str×V):=[("looking",.ref lk),("tells",.int tl)]
theorem kY{lk:AI}{tl:Int}:List.lookup ("looking":Str) (R5 lk tl)=some (.ref lk:V):=rfl
theorem yU{lk:AI}{tl:Int}:List.lookup ("tells":Str) (R5 lk tl)=some (.int tl:V):=rfl
theorem Zns{lk:AI}{tl:Int}:(cj "tells" (.int tl) (cj "looking" (.ref lk) []))=R5 lk tl:=rfl
def Ziv(nm:Str)(sa:AI):List (Str×V):=[("name",.str nm),("slots",.ref sa)]
theorem m7{nm:Str}{sa:AI}:List.lookup ("slots":Str) (Ziv nm sa)=some (.ref sa:V):=rfl
theorem Zo8{nm:Str}{sa:AI}:(cj "slots" (.ref sa) (cj "name" (.str nm) []))=Ziv nm sa:=rfl
def xW(hp:AI)(ki:AI)(hl:AI)(nm:AI)(sw:AI):List (Str×V):=[("heap",.ref hp),("kind",.ref ki),("hands",.ref hl),("names",.ref nm),("sweeper",.ref sw)]
theorem bz{hp:AI}{ki:AI}{hl:AI}{nm:AI}{sw:AI}:List.lookup ("heap":Str) (xW hp ki hl nm sw)=some (.ref hp:V):=rfl
theorem iY{hp:AI}{ki:AI}{hl:AI}{nm:AI}{sw:AI}:List.lookup ("kind":Str) (xW hp ki hl nm sw)=some (.ref ki:V):=rfl
theorem dH{hp:AI}{ki:AI}{hl:AI}{nm:AI}{sw:AI}:List.lookup ("hands":Str) (xW hp ki hl nm sw)=some (.ref hl:V):=rfl
theorem dX{hp:AI}{ki:AI}{hl:AI}{nm:AI}{sw:AI}:List.lookup ("names":Str) (xW hp ki hl nm sw)=some (.ref nm:V):=rfl
theorem aV{hp:AI}{ki:AI}{hl:AI}{nm:AI}{sw:AI}:List.lookup ("sweeper":Str) (xW hp ki hl nm sw)=some (.ref sw:V):=rfl
theorem Zjk{hp:AI}{ki:AI}{hl:AI}{nm:AI}{sw:AI}:(cj "sweeper" (.ref sw) (cj "names" (.ref nm) (cj "hands" (.ref hl) (cj "kind" (.ref ki) (cj "heap" (.ref hp) [])))))=xW hp ki hl nm sw:=rfl
def cg(se:Int)(ph:Str)(gr:AI)(lo:Int)(d:Int)(at_:Int)(st:Int)(c:Int)(ls:Int)(a:Int)(b:V):List (Str×V):=[("sense",.int se),("phase",.str ph),("grey",.ref gr),("looked",.int lo),("turn",.int d),("at",.int at_),("stop",.int st),("walks",.int c),("looks",.int ls),("passes",.int a),("loss",b)]
theorem jF{se:Int}{ph:Str}{gr:AI}{lo:Int}{d:Int}{at_:Int}{st:Int}{c:Int}{ls:Int}{a:Int}{b:V}:List.lookup ("sense":Str) ad=some (.int se:V):=rfl
theorem cY{se:Int}{ph:Str}{gr:AI}{lo:Int}{d:Int}{at_:Int}{st:Int}{c:Int}{ls:Int}{a:Int}{b:V}:List.lookup ("phase":Str) ad=some (.str ph:V):=rfl
theorem iZ{se:Int}{ph:Str}{gr:AI}{lo:Int}{d:Int}{at_:Int}{st:Int}{c:Int}{ls:Int}{a:Int}{b:V}:List.lookup ("grey":Str) ad=some (.ref gr:V):=rfl
theorem eV{se:Int}{ph:Str}{gr:AI}{lo:Int}{d:Int}{at_:Int}{st:Int}{c:Int}{ls:Int}{a:Int}{b:V}:List.lookup ("looked":Str) ad=some (.int lo:V):=rfl
theorem mL{se:Int}{ph:Str}{gr:AI}{lo:Int}{a:Int}{at_:Int}{st:Int}{d:Int}{ls:Int}{b:Int}{c:V}:List.lookup ("turn":Str) (cg se ph gr lo a at_ st d ls b c)=some (.int a:V):=rfl
theorem pU{se:Int}{ph:Str}{gr:AI}{lo:Int}{d:Int}{at_:Int}{st:Int}{c:Int}{ls:Int}{a:Int}{b:V}:List.lookup ("at":Str) ad=some (.int at_:V):=rfl
theorem qp{se:Int}{ph:Str}{gr:AI}{lo:Int}{d:Int}{at_:Int}{st:Int}{c:Int}{ls:Int}{a:Int}{b:V}:List.lookup ("stop":Str) ad=some (.int st:V):=rfl
theorem pH{se:Int}{ph:Str}{gr:AI}{lo:Int}{d:Int}{at_:Int}{st:Int}{a:Int}{ls:Int}{b:Int}{c:V}:List.lookup ("walks":Str) (cg se ph gr lo d at_ st a ls b c)=some (.int a:V):=rfl
theorem lG{se:Int}{ph:Str}{gr:AI}{lo:Int}{d:Int}{at_:Int}{st:Int}{c:Int}{ls:Int}{a:Int}{b:V}:List.lookup ("looks":Str) ad=some (.int ls:V):=rfl
theorem nM{se:Int}{ph:Str}{gr:AI}{lo:Int}{d:Int}{at_:Int}{st:Int}{c:Int}{ls:Int}{a:Int}{b:V}:List.lookup ("passes":Str) ad=some (.int a:V):=rfl
theorem qt{se:Int}{ph:Str}{gr:AI}{lo:Int}{d:Int}{at_:Int}{st:Int}{c:Int}{ls:Int}{b:Int}{a:V}:List.lookup ("loss":Str) (cg se ph gr lo d at_ st c ls b a)=some (a:V):=rfl
theorem Iw{se:Int}{ph:Str}{gr:AI}{lo:Int}{d:Int}{at_:Int}{st:Int}{c:Int}{ls:Int}{a:Int}{b:V}(y:Int):cj "sense" (.int y) ad=cg y ph gr lo d at_ st c ls a b:=rfl
theorem kj{se:Int}{ph:Str}{gr:AI}{lo:Int}{d:Int}{at_:Int}{st:Int}{c:Int}{ls:Int}{a:Int}{b:V}(y:Str):cj "phase" (.str y) ad=cg se y gr lo d at_ st c ls a b:=rfl
theorem Oh{se:Int}{ph:Str}{gr:AI}{lo:Int}{d:Int}{at_:Int}{st:Int}{c:Int}{ls:Int}{a:Int}{b:V}(y:AI):cj "grey" (.ref y) ad=cg se ph y lo d at_ st c ls a b:=rfl
theorem rF{se:Int}{ph:Str}{gr:AI}{lo:Int}{d:Int}{at_:Int}{st:Int}{c:Int}{ls:Int}{a:Int}{b:V}(y:Int):cj "looked" (.int y) ad=cg se ph gr y d at_ st c ls a b:=rfl
theorem Od{se:Int}{ph:Str}{gr:AI}{lo:Int}{d:Int}{at_:Int}{st:Int}{c:Int}{ls:Int}{a:Int}{b:V}(y:Int):cj "turn" (.int y) ad=cg se ph gr lo y at_ st c ls a b:=rfl
theorem Aj{se:Int}{ph:Str}{gr:AI}{lo:Int}{d:Int}{at_:Int}{st:Int}{c:Int}{ls:Int}{a:Int}{b:V}(y:Int):cj "at" (.int y) ad=cg se ph gr lo d y st c ls a b:=rfl
theorem Oe{se:Int}{ph:Str}{gr:AI}{lo:Int}{d:Int}{at_:Int}{st:Int}{c:Int}{ls:Int}{a:Int}{b:V}(y:Int):cj "stop" (.int y) ad=cg se ph gr lo d at_ y c ls a b:=rfl
theorem ur{se:Int}{ph:Str}{gr:AI}{lo:Int}{c:Int}{at_:Int}{st:Int}{d:Int}{ls:Int}{a:Int}{b:V}(y:Int):cj "walks" (.int y) (cg se ph gr lo c at_ st d ls a b)=cg se ph gr lo c at_ st y ls a b:=rfl
theorem nJ{se:Int}{ph:Str}{gr:AI}{lo:Int}{d:Int}{at_:Int}{st:Int}{c:Int}{ls:Int}{a:Int}{b:V}(y:Int):cj "looks" (.int y) ad=cg se ph gr lo d at_ st c y a b:=rfl
theorem rE{se:Int}{ph:Str}{gr:AI}{lo:Int}{c:Int}{at_:Int}{st:Int}{b:Int}{ls:Int}{d:Int}{a:V}(y:Int):cj "passes" (.int y) (cg se ph gr lo c at_ st b ls d a)=cg se ph gr lo c at_ st b ls y a:=rfl
theorem Og{se:Int}{ph:Str}{gr:AI}{lo:Int}{c:Int}{at_:Int}{st:Int}{b:Int}{ls:Int}{a:Int}{d:V}(y:V):cj "loss" (y) (cg se ph gr lo c at_ st b ls a d)=cg se ph gr lo c at_ st b ls a y:=rfl
theorem Zjp{se:Int}{ph:Str}{gr:AI}{lo:Int}{d:Int}{at_:Int}{st:Int}{c:Int}{ls:Int}{a:Int}{b:V}:(cj "loss" (b) (cj "passes" (.int a) (cj "looks" (.int ls) (cj "walks" (.int c) (cj "stop" (.int st) (cj "at" (.int at_) (cj "turn" (.int d) (cj "looked" (.int lo) (cj "grey" (.ref gr) (cj "phase" (.str ph) (cj "sense" (.int se) [])))))))))))=cg se ph gr lo d at_ st c ls a b:=rfl
def uF(K:aB):TS:=
 (aN (fH K π χ "birth")
   (aN (fH K π Θ "bulk")
   (aN (fH K π aI "tone")
   (aN (fH K π τ "load")
   (fH K π (bh (Zcl) (dM (aj be aC)) Φ) "fields")))))
def Bs(K:aB):TS:=
 (bB (bh ac (bh ac υ (pG dF (aj (aZ K π "fields") aC))) (aZ K π "bulk")))
def rO(K:aB):TS:=
 (bB (Dd (jJ λi j=>.bl (decide (i<=j))) ar τ χ (pG dF (aj (aZ K π "fields") aC))))
def uD(K:aB):TS:=
 (aN (fH K π χ "room")
   (aN (fH K π dN "cells")
   (aN (fH K π τ "used")
   (fH K π τ "born"))))
def Ga(K:aB)(a f d:AI)(g c e b:Sp)(E:XK):TS:=
 (aN (bx (wU a g [] E0 (aj (bh ac (aZ K π "born") υ) (aj χ (aj Φ bo)))) (aL 4))
   (aN (cL (bC (bh (jJ λi j=>.bl (decide (j<i))) (iM a "units" c [] E0 aI aC) (iM d "free" e [] E0 π aC))) (G.Ir f E (aj (tC (.str "the room does not suffice")) aC)) bI)
   (aN (fH K π (aZ K aI "birth") "born")
   (aN (fH K π (bh ac (aZ K π "used") (iM a "units" c [] E0 aI aC)) "used")
   (bB (iM d "lay" b [] E0 π ed))))))
def Le(K:aB):TS:=
 (aN (cL (bC (bh (G.Zt3 K true) be el)) (aN (lB (tBM K "list" lH el c7))
   (bB (bh c0 (pG dF (aj el aC)) υ))) bI)
   (aN (bx (tBM K "list" (G.Zia K) el (aj be aC)) de)
   (aN (bx χ (S6 el Φ Bt))
   (bB Φ))))
def Gd(K:aB)(a:AI)(b:Sp):TS:=
 (aN (bx (bh dy el χ) de)
   (aN (fH K π (bh c0 (aZ K π "used") (iM a "units" b [] E0 Φ aC)) "used")
   (aN (bx be (S6 el χ Bt))
   (bB (aZ K Φ "birth")))))
def Gb(K:aB):TS:=
 (bB (bh c0 (aZ K π "room") (aZ K π "used")))
def tU(K:aB):TS:=
 (bB (G.tLC (xK (aj (pG dF (aj el aC)) aC)) [0] (bC (bh (G.uG) (bh dy (aZ K χ "cells") π) be)) π))
def QD(K:aB):TS:=
 (aN (cL ((CZ (bC (bh (G.Jf) χ be)) (CZ (bC (bh ar χ τ)) (bC (bh (jJ λi j=>.bl (decide (j<=i))) χ (pG dF (aj el aC))))))) (bB be) bI)
   (bB (bh dy el χ)))
def Lb(K:aB)(a:Sp):TS:=
 (aN (bx (aP a [] E0 (aj π c7)) de)
   (aN (cL (bC (bh (G.Jf) Φ be)) (bB be) bI)
   (bB (aZ K Φ "birth"))))
def Dg(K:aB)(a:Sp):TS:=
 (aN (bx dN de)
   (aN (mK (G.Ze8 K c7) (Zgs K 2 (vg cE (vg (aL 4) Zgt)))
   (lB (tBM K "list" O6 Φ (aj (aP a [] E0 (aj π (aj aI (aj (dJ bo) aC)))) aC))))
   (aN (bx (Dc) (aL 5))
   (aN (bx τ (aL 6))
   (aN (YJ (bC (bh ar (ak 6) (pG dF b7))) (aN (bx (bh bd (bh dy Φ (ak 6)) τ) (aL 7))
   (aN (bx (bh bd (bh dy Φ (ak 6)) υ) (aL 8))
   (aN (bx (bh ac (ak 6) υ) (aL 6))
   (cL (tB (G.Zlt true (ak 7) dA)) (aN (Bb dA (ak 7) (ak 8))
   (lB (tBM K "list" O6 Φ (aj (aP a [] E0 (aj π (aj (aZ K (bh dy el (ak 7)) "fields") (aj (ak 8) aC)))) aC)))) bI)))))
   (bB (pG (G.Zhf) (aj (G.Zfa dA) aC))))))))
def zQ(K:aB)(a:Sp):TS:=
 (bB (G.Zls K (G.Ze8 K c7) [0,2] (bC (bh (G.uG) (aP a [] E0 (aj Φ c7)) be)) (dJ (aj χ (aj (bh (Zrr K) Θ (dJ a6)) aC)))))
def uE(K:aB):TS:=
 (aN (fH K π χ "name")
   (fH K π (bh (Zcl) (dM (aj be aC)) Φ) "slots"))
def pN(K:aB):TS:=
 (aN (fH K π τ "sense")
   (aN (fH K π (tC (.str "rest")) "phase")
   (aN (fH K π dN "grey")
   (aN (fH K π τ "looked")
   (aN (fH K π τ "turn")
   (aN (fH K π τ "at")
   (aN (fH K π τ "stop")
   (aN (fH K π τ "walks")
   (aN (fH K π τ "looks")
   (aN (fH K π τ "passes")
   (fH K π be "loss")))))))))))
def rJ(K:aB)(b d a:AI)(e c f:Sp):TS:=
 (aN (fH K π (wU d c [] E0 c7) "heap")
   (aN (fH K π Φ "kind")
   (aN (fH K π (G.Zls K (iR K Θ) [] G.uo (wU b e [] E0 (aj π c7))) "hands")
   (aN (fH K π (Dc) "names")
   (fH K π (wU a f [] E0 aC) "sweeper")))))
def Zh(K:aB):TS:=
 (bB (G.tLC (iR K (aZ K π "hands")) [] G.uo (pG (G.JQ K) (aj (aZ K π "slots") aC))))
def qD(K:aB)(a:Sp):TS:=
 (bB (G.tLC (iR K (aZ K π "hands")) [0] G.uo (aP a [] E0 (aj (aZ K χ "heap") (aj (aZ K π "slots") aC)))))
def Fq(K:aB)(a:Sp):TS:=
 (bB (G.tLC (iR K χ) [0] G.uo (aP a [] E0 (aj χ a6))))
def Fj(K:aB):TS:=
 (bB (bh (qI) (bh (jJ λi j=>.int (Builtin.bitAnd i j)) (bh (rI (λ_ j=>0<=j) λi j=>.int (i / 2 ^ j.toNat)) (aZ K ah "looked") χ) υ) υ))
def Fl(K:aB):TS:=
 (bB (bh (qI) (aZ K χ "tone") (aZ K ah "sense")))
def Bh(K:aB):TS:=
 (bB (bh (rIn K false) (aZ K ah "phase") (dJ (aj (tC (.str "walk")) (aj (tC (.str "lost")) aC)))))
def Qt(K:aB)(a:Sp):TS:=
 (aN (bx ah de)
   (aN (bx (aP a [] E0 (aj π (aj (bh dy (aZ K aE "cells") χ) aC))) cE)
   (aN (cL (bC (bh (qI) (aZ K Φ "phase") (tC (.str "rest")))) (bB (tC (.str "kept"))) bI)
   (aN (cL (bC (bh (qI) (aZ K Φ "phase") (tC (.str "give")))) (bB (tIf (tB Θ) (tC (.str "kept")) (tC (.str "doomed")))) bI)
   (aN (cL (nF (tB Θ)) (bB (tC (.str "pale"))) bI)
   (bB (tIf (bC (bh (rIn K false) χ (aZ K Φ "grey"))) (tC (.str "grey")) (tC (.str "dark")))))))))
def Bc(K:aB)(a:AI)(c b:Sp):TS:=
 (bB (G.tLC (iR K (iM a "there" c [] E0 aE aC)) [0] G.uo (aP b [] E0 (aj χ a6))))
def Fg(K:aB)(b a:Sp):TS:=
 (aN (bx (bh dy (aZ K aE "cells") χ) de)
   (aN (bx (aP b [] E0 (aj aE (aj (aZ K Φ "fields") aC))) cE)
   (bB (dJ (aj χ (aj (aZ K Φ "birth") (aj (aZ K Φ "bulk") (aj (aZ K Φ "load") (aj Θ (aj (aP a [] E0 (aj π c7)) aC))))))))))
def Zcj(K:aB)(d b c:AI)(e a:Sp):TS:=
 (aN (bx ah (aL 1))
   (aN (fH K χ (bh c0 υ (aZ K χ "sense")) "sense")
   (aN (fH K χ (bh ac (aZ K χ "turn") υ) "turn")
   (aN (fH K χ (tC (.str "walk")) "phase")
   (aN (fH K χ dN "grey")
   (aN (fH K χ (G.Iu (iM b "at_begin" e [] E0 (aZ K (aZ K π "kind") "looking") cr) (G.Iu (iM d "at_begin" a [] E0 (aZ K (aZ K π "kind") "looking") cr) (iM c "at_begin" a [] E0 (aZ K (aZ K π "kind") "looking") cr))) "looked")
   (aN (fH K χ τ "walks")
   (aN (fH K χ τ "looks")
   (fH K χ τ "passes")))))))))
def Zi6(K:aB)(a b:Sp):TS:=
 (aN (bx ah de)
   (aN (bx (aP a [] E0 (aj aE c7)) cE)
   (aN (cL ((CZ (bC (bh (rNe) (aZ K Φ "phase") (tC (.str "walk")))) (CZ (bC (bh (G.Jf) Θ be)) (tB (aP b [] E0 (aj π bo)))))) (bB be) bI)
   (aN (fH K Θ (aZ K Φ "sense") "tone")
   (aN (lB (tBM K "list" lH (aZ K Φ "grey") c7))
   (bB (aZ K Θ "birth")))))))
def K9(K:aB)(a:Sp):TS:=
 (aN (bx dN de)
   (aN (mK (iR K χ) cE
   (aN (bx (aP a [] E0 (aj π bo)) (aL 4))
   (cL (bC (bh (G.uG) aI be)) (lB (tBM K "list" lH Φ ed)) bI)))
   (bB Φ)))
def Zi7(K:aB)(a b:Sp):TS:=
 (aN (bx (aP a [] E0 (aj aE c7)) cE)
   (aN (cL ((CZ (bC (bh (G.Jf) Θ be)) (bC (bh (rNe) (aZ K Θ "birth") Φ)))) (bB (tC (.bl true))) bI)
   (bB ((PK (bh (qI) (aZ K ah "phase") (tC (.str "give"))) (Zi0 (aP b [] E0 (aj π bo))))))))
def Zci(K:aB)(b a:Sp)(H0:Hp):TS:=
 (bB (bh (nQ) (aP b [] E0 a6) (dM (aj (G.Zlq H0 (G.Zls K (G.Zo3 (G.Zlp (aZ K π "names"))) [0] G.uo (aP a [] E0 (aj Φ (aj π c7))))) aC))))
def Qs(K:aB)(a c b:Sp):TS:=
 (aN (cL (tB (aP a [] E0 (aj π (aj χ b7)))) (bB be) bI)
   (aN (cL ((PL (tB (aP b [] E0 a6)) (nF (tB (aP c [] E0 (aj π (aj (bh dy (aZ K aE "cells") χ) aC))))))) (bB be) bI)
   (bB χ)))
def Bg(K:aB)(a:Sp):TS:=
 (aN (bx dN de)
   (aN (mK (G.Ze8 K (aj (aZ K π "hands") aC)) (Zgs K 2 (vg cE (vg (aL 4) Zgt)))
   (cL (bC (bh (qI) a9 υ)) (lB (tBM K "list" O6 Φ (aj (aP a [] E0 (aj π (aj (aZ K aI "slots") aC))) aC))) bI))
   (bB Φ)))
def xj(K:aB)(a b:Sp):TS:=
 (aN (lB (aP a [] E0 a6))
   (aN (bx (aP b [] E0 (aj π (aj (aZ K ah "looked") aC))) (aL 1))
   (bB (dJ (aj (tC (.str "begin")) (aj (aZ K ah "turn") c7))))))
def w6(K:aB)(b a:Sp):TS:=
 (aN (cL (G.Zpd K (aZ K ah "grey")) (bB (aP a [] E0 a6)) bI)
   (bB (aP b [] E0 a6)))
def Zi5(K:aB)(a:Sp):TS:=
 (aN (bx ah (aL 1))
   (aN (bx (bh dy (aZ K aE "cells") (tBM K "list" Zma (aZ K χ "grey") (aj τ aC))) de)
   (aN (fH K χ (bh ac (aZ K χ "walks") υ) "walks")
   (bB (dJ (aj (tC (.str "walk")) (aj (aZ K Φ "birth") (aj (aP a [] E0 (aj π (aj (aZ K Φ "fields") aC))) aC))))))))
def lA(K:aB)(f c d:AI)(e a b g:Sp):TS:=
 (aN (bx (aP g [] E0 (aj π bo)) (aL 4))
   (aN (cL ((CZ (bC (bh (qI) Θ τ)) (nF ((CZ (tB (G.Iu (iM c "stays" a [] E0 Φ aC) (G.Iu (iM f "stays" a [] E0 Φ aC) (iM d "stays" e [] E0 Φ aC)))) (G.Zpd K aI)))))) (bB (aP b [] E0 a6)) bI)
   (aN (fH K χ (bh ac (aZ K χ "looks") υ) "looks")
   (aN (cL (tB (G.Iu (iM c "stays" a [] E0 Φ aC) (G.Iu (iM f "stays" a [] E0 Φ aC) (iM d "stays" e [] E0 Φ aC)))) (fH K χ (bh (jJ λi j=>.int (Builtin.bitOr i j)) (aZ K χ "looked") Θ) "looked") bI)
   (bB (dJ (aj (tC (.str "look")) (aj Θ ed))))))))
def yp(K:aB)(d b c:AI)(f j g i h a e:Sp):TS:=
 (aN (bx ah (aL 1))
   (aN (bx (aZ K (aZ K π "kind") "looking") de)
   (aN (bx (G.Iu (iM b "next_look" i [] E0 Φ (aj (aZ K χ "looked") cr)) (G.Iu (iM d "next_look" f [] E0 Φ (aj (aZ K χ "looked") cr)) (iM c "next_look" j [] E0 Φ (aj (aZ K χ "looked") cr)))) cE)
   (lA K d b c g h a e))))
def Zm8(K:aB)(d b a c:Sp):TS:=
 (aN (bx ah (aL 1))
   (aN (fH K χ (pG dF (aj (aZ K aE "cells") aC)) "stop")
   (aN (fH K χ τ "at")
   (aN (bx (aP b [] E0 a6) de)
   (aN (cL (bC (bh (G.uG) Φ be)) (aN (fH K χ (tC (.str "lost")) "phase")
   (aN (fH K χ Φ "loss")
   (bB (aP c [] E0 b7)))) bI)
   (aN (fH K χ (tC (.str "give")) "phase")
   (aN (bx (aP d [] E0 (aj aE (aj (aP a [] E0 a6) aC))) cE)
   (bB (dJ (aj (tC (.str "cut")) (aj (pG dF bo) bo)))))))))))
def Bj(K:aB)(b c a:Sp):TS:=
 (aN (mK (iR K (aP c [] E0 (aj aE (aj (aP a [] E0 a6) aC)))) (Zgs K 2 (vg (aL 1) (vg de Zgt)))
   (aN (bx (bh dy (aZ K aE "cells") χ) cE)
   (cL (nF (tB (aP b [] E0 (aj π bo)))) (bB (dJ (aj (tC (.str "lost")) (aj (aZ K Θ "birth") (aj (pG (G.Zhe K) b7) aC))))) bI)))
   (bB be))
def yq(K:aB)(a:AI)(c b:Sp):TS:=
 (aN (bx aE (aL 1))
   (bB (G.tLC (iR K (iM a "there" c [] E0 χ aC)) [0,1] (nF (tB (aP b [] E0 (aj χ (aj (bh dy (aZ K Φ "cells") π) aC))))) π)))
def Be(K:aB):TS:=
 (bB (dJ (aj (bh bd π τ) (aj (bh bd π υ) (aj (pG (G.JQ K) (aj (bh bd π am) aC)) aC)))))
def xg(K:aB)(a b:Sp):TS:=
 (aN (cL (bC (bh ar (aZ K ah "at") (aZ K ah "stop"))) (bB (aP b [] E0 a6)) bI)
   (bB (aP a [] E0 a6)))
def Bf(K:aB)(c:AI)(d a b:Sp):TS:=
 (aN (bx ah (aL 1))
   (aN (bx (aZ K χ "at") de)
   (aN (fH K χ (bh ac Φ υ) "at")
   (aN (fH K χ (bh ac (aZ K χ "passes") υ) "passes")
   (aN (bx (aP a [] E0 (aj aE b7)) cE)
   (aN (cL ((CZ (bC (bh (G.Jf) Θ be)) (tB (aP b [] E0 (aj π bo))))) (bB (dJ (aj (tC (.str "pass")) (aj Φ (aj dN aC))))) bI)
   (bB (dJ (aj (tC (.str "back")) (aj (iM c "back" d [] E0 aE b7) (aj (dM b7) aC)))))))))))
def Zm6(K:aB):TS:=
 (aN (bx ah (aL 1))
   (aN (fH K χ (tC (.str "rest")) "phase")
   (bB (dJ (aj (tC (.str "end")) (aj (aZ K χ "turn") (aj (dM (aj (aZ K χ "walks") (aj (aZ K χ "looks") (aj (aZ K χ "passes") aC)))) aC)))))))
def rH(K:aB)(a:Sp):TS:=
 (bB (aP a [] E0 (aj (aZ K ah "loss") aC)))
def Zg(K:aB)(c d b a:AI)(f h e g:Sp):TS:=
 (aN (bx (G.Zpe [("rest",c),("walk",b),("give",d),("lost",a)] (aZ K ah "phase")) (aL 1))
   (bB (G.YL 1 [(c,f),(b,e),(d,h),(a,g)] E0 a6)))
def Qq(K:aB)(a:Sp):TS:=
 (aN (bx τ (aL 1))
   (aN (YJ (bC (bh (rIn K true) (aZ K ah "phase") (dJ (aj (tC (.str "rest")) (aj (tC (.str "lost")) aC))))) (aN (lB (aP a [] E0 a6))
   (bx (bh ac χ υ) (aL 1))))
   (bB χ)))
def Xa:TS:=
 (bB (bh c0 (bh eB υ π) υ))
def pO:TS:=
 (bB τ)
def oU:TS:=
 (bB τ)
def uB:TS:=
 (bB (tC (.bl true)))
def rM(a:Sp):TS:=
 (bB (aP a [] E0 c7))
def rN:TS:=
 (aN (mK (xK b7) cE
   (cL (bC (bh (qI) a9 τ)) (bB (bh eB υ Θ)) bI))
   (bB τ))
def rK(a:Sp):TS:=
 (bB (aP a [] E0 b7))
def Br:TS:=
 (bB (tC (.bl false)))
def uC(K:aB):TS:=
 (aN (fH K π χ "looking")
   (fH K π Φ "tells"))
def K8(K:aB):TS:=
 (bB (aZ K (bh dy (aZ K π "hands") χ) "slots"))
def QC(K:aB)(b:AI)(a c:Sp)(E:XK):TS:=
 (aN (bx (aP a [] E0 (aj aE (aj (bh dy (aP c [] E0 (aj π c7)) Φ) aC))) cE)
   (aN (cL (bC (bh (G.Jf) Θ be)) (G.Ir b E (aj (tC (.str "the slot holds no cell")) aC)) bI)
   (bB Θ)))
def Fp(K:aB)(b c:AI)(a d:Sp)(E:XK):TS:=
 (aN (bx (aP d [] E (aj π (aj χ b7))) (aL 4))
   (aN (cL (nF (tB (iM b "has_field" a [] E0 aI bo))) (G.Ir c E (aj (tC (.str "the cell does not have the field")) aC)) bI)
   (bB (aZ K aI "fields"))))
def yj(K:aB):TS:=
 (aN (cL (bC (bh (qI) (bh (jJ λi j=>.int (Builtin.bitAnd i j)) (aZ K (aZ K π "kind") "tells") υ) τ)) (bB dN) bI)
   (bB (dM c7)))
def ym(K:aB)(a:Sp):TS:=
 (aN (cL ((CZ (bC (bh (qI) (bh (jJ λi j=>.int (Builtin.bitAnd i j)) (aZ K (aZ K π "kind") "tells") am) τ)) (tB (aP a [] E0 (aj π c7))))) (bB dN) bI)
   (bB (dM b7)))
def Qx(K:aB)(c:AI)(a b d:Sp)(E:XK):TS:=
 (aN (bx (aP d [] E0 (aj π (aj (bh bd χ υ) aC))) de)
   (aN (bx (bh bd χ a3) cE)
   (aN (bx (bh bd χ c6) (aL 4))
   (aN (bx (iM c "make" a [] E aE (aj Θ (aj aI (aj (aZ K ah "sense") aC)))) (aL 5))
   (aN (bx dA (S6 Φ (bh bd χ am) Bt))
   (bB (dJ (aj (tC (.str "made")) (aj (aP b [] E0 (aj aE (aj dA aC))) (aj dN aC))))))))))
def W9(K:aB)(a b c:Sp)(E:XK):TS:=
 (aN (bx (bh bd χ υ) de)
   (aN (bx (bh bd χ a3) cE)
   (aN (bx (bh bd χ c6) (aL 4))
   (aN (bx (bh dy (aP b [] E (aj π (aj Φ (aj Θ ed)))) aI) (aL 5))
   (aN (bx dA (S6 (aP c [] E0 (aj π b7)) (bh bd χ am) Bt))
   (bB (dJ (aj (tC (.str "got")) (aj (aP a [] E0 (aj aE (aj dA aC))) (aj dN aC))))))))))
def W8(K:aB)(b e a f d c:Sp)(E:XK):TS:=
 (aN (bx (bh bd χ υ) de)
   (aN (bx (bh bd χ a3) cE)
   (aN (bx (aP e [] E (aj π (aj Φ (aj (bh bd χ am) bo)))) (aL 4))
   (aN (bx (bh dy aI Θ) (aL 5))
   (aN (bx (bh dy (aP f [] E0 (aj π b7)) (bh bd χ c6)) (aL 6))
   (aN (bx (ak 6) (S6 aI Θ Bt))
   (aN (bx (aP a [] E0 (aj π (aj (bh (nQ) (aP c [] E0 (aj π (aj dA aC))) (aP d [] E0 (aj π (aj Φ (aj (ak 6) aC))))) aC))) (aL 7))
   (bB (dJ (aj (tC (.str "put")) (aj (aP b [] E0 (aj aE (aj dA aC))) (aj (ak 7) aC))))))))))))
def QB(K:aB)(a b:Sp):TS:=
 (aN (bx (aP b [] E0 (aj π (aj (bh bd χ υ) aC))) de)
   (aN (bx (bh dy Φ (bh bd χ a3)) cE)
   (aN (bx Θ (S6 Φ (bh bd χ am) Bt))
   (bB (dJ (aj (tC (.str "copied")) (aj (aP a [] E0 (aj aE bo)) (aj dN aC))))))))
def Qz(K:aB)(a b:Sp):TS:=
 (aN (bx (aP b [] E0 (aj π (aj (bh bd χ υ) aC))) de)
   (aN (bx (bh dy Φ (bh bd χ am)) cE)
   (aN (bx be (S6 Φ (bh bd χ am) Bt))
   (bB (dJ (aj (tC (.str "dropped")) (aj (aP a [] E0 (aj aE bo)) (aj dN aC))))))))
def Qy(K:aB)(c b a d:Sp):TS:=
 (aN (bx (bh bd χ υ) de)
   (aN (bx (bh bd χ a3) cE)
   (aN (bx (bh dy (aP a [] E0 (aj π b7)) (bh bd χ am)) (aL 4))
   (aN (bx aI (S6 (aP a [] E0 (aj π bo)) (bh bd χ c6) Bt))
   (aN (bx (aP b [] E0 (aj π (aj (aP d [] E0 (aj π (aj Φ ed))) aC))) (aL 5))
   (bB (dJ (aj (tC (.str "given")) (aj (aP c [] E0 (aj aE ed)) (aj dA aC))))))))))
def La(K:aB)(a:Sp)(E:XK):TS:=
 (aN (bx (aP a [] E (aj π (aj (bh bd χ υ) (aj (bh bd χ am) aC)))) de)
   (aN (bx (aZ K Φ "load") cE)
   (aN (fH K Φ (bh bd χ a3) "load")
   (bB (dJ (aj (tC (.str "wrote")) (aj Θ (aj dN aC))))))))
def Qv(K:aB)(a:Sp)(E:XK):TS:=
 (aN (bx (aP a [] E (aj π (aj (bh bd χ υ) (aj (bh bd χ am) aC)))) de)
   (bB (dJ (aj (tC (.str "read")) (aj (aZ K Φ "load") (aj dN aC))))))
def Qw(K:aB)(a b:Sp)(E:XK):TS:=
 (aN (bx (bh bd χ υ) de)
   (aN (bx (bh bd χ am) cE)
   (aN (bx (aZ K (aP a [] E (aj π (aj Φ bo))) "birth") (aL 4))
   (aN (Bb (aZ K π "names") (bh bd χ a3) (dJ (aj (bh dy (aP b [] E0 (aj π b7)) Θ) ed)))
   (bB (dJ (aj (tC (.str "named")) (aj aI (aj dN aC)))))))))
def Qu(K:aB)(b a c d:Sp)(E:XK):TS:=
 (aN (bx (aP c [] E (aj π (aj (bh bd χ a3) aC))) de)
   (aN (bx Φ (S6 (aP d [] E0 (aj π (aj (bh bd χ υ) aC))) (bh bd χ am) Bt))
   (aN (bx (aP a [] E0 (aj π (aj (dM b7) aC))) cE)
   (bB (dJ (aj (tC (.str "sought")) (aj (aP b [] E0 (aj aE b7)) bo)))))))
def yo(K:aB)(b:AI)(a:Sp)(E:XK):TS:=
 (aN (cL (tB (Ea χ (aZ K π "names"))) (G.Ir b E (aj (tC (.str "the weak name was never given")) aC)) bI)
   (aN (bx (bh bd (xZ (aZ K π "names") χ) τ) de)
   (aN (bx (bh bd (xZ (aZ K π "names") χ) υ) cE)
   (aN (cL (tB (aP a [] E0 (aj π (aj Φ bo)))) (bB be) bI)
   (bB Φ)))))
def Zm7(K:aB)(k n o t r l m q p s:AI)(f i b e h a d g c j:Sp)(E:XK):TS:=
 (aN (bx (G.Zpe [("make",r),("get",o),("put",m),("copy",k),("drop",n),("give",t),("write",s),("read",q),("name",l),("seek",p)] (bh bd χ τ)) de)
   (bB (G.YL 2 [(r,h),(o,b),(m,d),(k,f),(n,i),(t,e),(s,j),(q,g),(l,a),(p,c)] E (aj π c7))))
def FW(K:aB):TS:=
 (aN (cL (bC (bh ar χ (pG dF a6))) (bB (bh dy π χ)) bI)
   (bB τ))
def FP:TS:=
 (bB (bh ρ (bh ρ (bh ei (bh ρ π χ) (tC (.int 48271))) χ) Φ))
def Ft:TS:=
 (aN (bx (tC (.str "abcdefghijklmnopqrstuvwxyz")) de)
   (aN (bx (bh ac υ (bh ρ π (tC (.int 12)))) cE)
   (aN (bx (bh ρ (bh bb π (tC (.int 12))) Θ) (aL 4))
   (aN (bx (bh (Zmb) Φ (bh ρ (bh bb π eM) (tC (.int 26)))) (aL 5))
   (aN (bx (bh (Zmb) Φ (bh ρ (bh ac (bh bb π (tC (.int 7))) (bh ei eM χ)) (tC (.int 26)))) (aL 6))
   (bB (bh (G.Zmc) (bh (G.Zmc) (bh (G.Zi8) dA aI) (ak 6)) (bh (G.Zi8) dA (bh c0 (bh c0 Θ υ) aI)))))))))
def Bo(K:aB)(c a b:Sp):TS:=
 (aN (bx (aP c [] E0 (aj π (aj υ aC))) (aL 1))
   (aN (bx dN de)
   (aN (mK (xK (aj (bh ac υ (aP a [] E0 (aj χ (aj (tC (.int 104729)) (aj eM aC))))) aC)) cE
   (aN (bx a3 (aL 4))
   (aN (cL (bC (bh (qI) (bh ρ χ a3) υ)) (bx (bh ac a3 (aP a [] E0 (aj (bh ac χ (bh ei (bh ei (tC (.int 7)) Θ) Θ)) (aj (tC (.int 224737)) (aj (tC (.int 7)) aC))))) (aL 4)) bI)
   (lB (tBM K "list" lH Φ (aj (dJ (aj (aP b [] E0 (aj χ bo)) ed)) aC))))))
   (bB Φ))))
def Fy(a b:Sp):TS:=
 (aN (bx (aP a [] E0 (aj π (aj am aC))) (aL 1))
   (aN (cL (bC (bh (qI) (aP b [] E0 (aj χ (aj (tC (.int 7919)) (aj c6 aC)))) υ)) (bB (bh ac c6 (bh ρ (bh bb χ c6) (tC (.int 60))))) bI)
   (bB (bh c0 (bh (rI Uu λi j=>.int (i ^ j.toNat)) (tC (.int 10)) (tC (.int 15))) (bh ρ χ (bh (rI Uu λi j=>.int (i ^ j.toNat)) (tC (.int 10)) (tC (.int 12))))))))
def FN(e c a d:AI)(b:Sp):TS:=
 (aN (cL (bC (bh (qI) (bh ρ π a3) τ)) (bB (wU a b [] E0 (aj (G.Iv c) (aj (bh ρ (bh bb π a3) c6) aC)))) bI)
   (aN (cL (bC (bh (qI) (bh ρ π a3) υ)) (bB (wU a b [] E0 (aj (G.Iv e) (aj (bh ρ (bh bb π a3) c6) aC)))) bI)
   (bB (wU a b [] E0 (aj (G.Iv d) (aj (bh ρ (bh bb π a3) c6) aC))))))
def Fz(K:aB)(a:Sp):TS:=
 (aN (bx (bh dy (dM (aj υ (aj am (aj am (aj a3 (aj τ (aj (tC (.int 8)) aC))))))) (aP a [] E0 (aj π (aj (tC (.int 611953)) (aj (tC (.int 6)) aC))))) cE)
   (aN (bx τ (aL 4))
   (aN (cL (bC (bh (qI) (bh ρ π a3) υ)) (bx (bh ρ π (tC (.int 7))) (aL 4)) bI)
   (aN (cL (bC (bh (qI) (bh ρ π a3) am)) (bx (bh ρ π (bh ac (bh (rI Uu λi j=>.int (i ^ j.toNat)) (tC (.int 10)) (tC (.int 12))) υ)) (aL 4)) bI)
   (bB (dJ (aj (tC (.str "make")) (aj χ (aj Φ (aj Θ ed))))))))))
def FJ:TS:=
 (aN (bx (bh ρ π (bh (rI Uu λi j=>.int (i ^ j.toNat)) (tC (.int 10)) (tC (.int 60)))) (aL 1))
   (aN (cL (bC (bh (qI) (bh ρ (bh bb π (tC (.int 7))) am) υ)) (bB (tUn (rU λi=>.int (-i)) χ)) bI)
   (bB χ)))
def FQ(K:aB)(a b d c:Sp):TS:=
 (aN (bx (aP a [] E0 (aj π (aj (tC (.int 104729)) (aj (pG dF c7) aC)))) cE)
   (aN (bx (aP a [] E0 (aj π (aj (tC (.int 224737)) (aj (bh bd (bh dy χ Θ) υ) aC)))) (aL 4))
   (aN (bx (aP a [] E0 (aj π (aj (tC (.int 350377)) (aj (bh bd (bh dy χ Θ) υ) aC)))) (aL 5))
   (aN (bx (aP a [] E0 (aj π (aj (tC (.int 479909)) (aj (bh dy (dM (aj a3 (aj (tC (.int 8)) aC))) (bh bb (bh ρ π eM) c6)) aC)))) (aL 6))
   (aN (bx (aP a [] E0 (aj π (aj (tC (.int 7919)) (aj (tC (.int 20)) aC)))) (aL 7))
   (aN (cL (bC (bh ar (ak 7) eM)) (bB (aP d [] E0 (aj π (aj Θ ed)))) bI)
   (aN (cL (bC (bh ar (ak 7) (tC (.int 8)))) (bB (dJ (aj (tC (.str "get")) (aj Θ (aj aI (aj dA (aj (ak 6) aC))))))) bI)
   (aN (cL (bC (bh ar (ak 7) (tC (.int 11)))) (bB (dJ (aj (tC (.str "put")) (aj Θ (aj dA (aj (ak 6) ed)))))) bI)
   (aN (cL (bC (bh (qI) (ak 7) (tC (.int 11)))) (bB (dJ (aj (tC (.str "copy")) (aj Θ (aj aI (aj dA aC)))))) bI)
   (aN (cL (bC (bh (qI) (ak 7) (tC (.int 12)))) (bB (dJ (aj (tC (.str "drop")) (aj Θ ed)))) bI)
   (aN (cL (bC (bh ar (ak 7) (tC (.int 15)))) (aN (bx (aP a [] E0 (aj π (aj (tC (.int 746773)) (aj (pG dF c7) aC)))) (aL 8))
   (bB (dJ (aj (tC (.str "give")) (aj Θ (aj aI (aj (ak 8) (aj (aP a [] E0 (aj π (aj (tC (.int 882377)) (aj (bh bd (bh dy χ (ak 8)) υ) aC)))) aC)))))))) bI)
   (aN (cL (bC (bh (qI) (ak 7) (tC (.int 15)))) (bB (dJ (aj (tC (.str "write")) (aj Θ (aj dA (aj (aP b [] E0 a6) aC)))))) bI)
   (aN (bx (aP c [] E0 (aj Φ (aj (aP a [] E0 (aj π (aj (tC (.int 1299709)) (aj (tC (.int 7)) aC)))) aC))) (aL 9))
   (aN (cL (bC (bh ar (ak 7) (tC (.int 18)))) (bB (dJ (aj (tC (.str "name")) (aj Θ (aj dA (aj (ak 9) aC)))))) bI)
   (bB (dJ (aj (tC (.str "seek")) (aj Θ (aj aI (aj (ak 9) aC))))))))))))))))))))
def Bq(K:aB)(a b:Sp):TS:=
 (aN (bx (aP a [] E0 (aj π (aj χ b7))) cE)
   (aN (cL ((PL (bC (bh (qI) (bh bd Θ τ) (tC (.str "put")))) (bC (bh (qI) (bh ρ (bh bb π eM) am) τ)))) (bB (dM (aj Θ (aj (dJ (aj (tC (.str "drop")) (aj (bh bd Θ υ) (aj (bh bd Θ c6) aC)))) aC)))) bI)
   (aN (cL ((PL (bC (bh (qI) (bh bd Θ τ) (tC (.str "get")))) (bC (bh (qI) (bh ρ (bh bb π eM) am) τ)))) (bB (dM (aj Θ (aj (dJ (aj (tC (.str "put")) (aj (bh bd Θ υ) (aj (bh bd Θ a3) (aj (bh bd Θ c6) (aj (aP b [] E0 (aj π (aj (tC (.int 1159523)) (aj a3 aC)))) aC)))))) aC)))) bI)
   (bB (dM bo)))))
def lM(K:aB)(a:Sp):TS:=
 (aN (mK (xK (aj (pG dF a6) aC)) (aL 4)
   (aN (cL (bC (bh (qI) dA υ)) (bx (bh (nQ) Θ (dM (aj (dJ (aj (tC (.str "get")) (aj aI (aj υ (aj τ (aj (bh ρ aI am) aC)))))) (aj (dJ (aj (tC (.str "put")) (aj aI (aj τ (aj (bh ρ aI am) (aj am aC)))))) aC)))) cE) bI)
   (aN bi
   (cL (bC (bh (qI) dA a3)) (bx (bh (nQ) Θ (dM (aj (dJ (aj (tC (.str "name")) (aj aI (aj τ (aj (aP a [] E0 (aj Φ ed)) aC))))) (aj (dJ (aj (tC (.str "drop")) (aj aI (aj τ aC)))) aC)))) cE) bI))))
   (bB Θ))
def lN(K:aB)(b a:Sp):TS:=
 (aN (cL ((PL (bC (bh (qI) dA a3)) (bC (bh (qI) (aP b [] E0 (aj χ (aj (tC (.int 1159523)) (aj am aC)))) υ)))) (mK (xK (aj (tC (.int 6)) aC)) (aL 6)
   (bx (bh (nQ) Θ (dM (aj (dJ (aj (tC (.str "make")) (aj τ (aj am (aj υ (aj τ aC)))))) (aj (dJ (aj (tC (.str "name")) (aj τ (aj am (aj (aP a [] E0 (aj Φ (aj (bh ac (tC (.int 10)) (ak 6)) aC))) aC))))) (aj (dJ (aj (tC (.str "drop")) (aj τ (aj am aC)))) aC))))) cE)) bI)
   (lM K a))
def Bl(K:aB)(a b:Sp):TS:=
 (aN (bx dN cE)
   (aN (mK (xK (aj (pG dF a6) aC)) (aL 4)
   (aN (bx (bh (nQ) Θ (dM (aj (dJ (aj (tC (.str "make")) (aj aI (aj τ (aj am (aj τ aC)))))) (aj (dJ (aj (tC (.str "make")) (aj aI (aj υ (aj υ (aj τ aC)))))) aC)))) cE)
   (bx (bh (nQ) Θ (dM (aj (dJ (aj (tC (.str "put")) (aj aI (aj τ (aj (bh ρ aI am) (aj υ aC)))))) (aj (dJ (aj (tC (.str "drop")) (aj aI (aj υ aC)))) aC)))) cE)))
   (aN (bx (aP a [] E0 (aj χ (aj (tC (.int 746773)) (aj c6 aC)))) (aL 5))
   (aN (cL (bC (bh (jJ λi j=>.bl (decide (j<i))) dA υ)) (bx (bh (nQ) Θ (G.tLC (xK (aj (pG dF a6) aC)) [] G.uo (dJ (aj (tC (.str "make")) (aj π (aj υ (aj τ (aj τ aC)))))))) cE) bI)
   (aN (bx (bh (nQ) Θ (bh (Zcl) (dM (aj be aC)) (bh ac υ (aP a [] E0 (aj χ (aj (tC (.int 882377)) (aj c6 aC))))))) cE)
   (lN K a b))))))
def mX(K:aB)(c b a:Sp):TS:=
 (aN (bx (aP c [] E0 (aj π (aj am aC))) cE)
   (aN (bx τ (aL 4))
   (aN (mK (iR K (tSl (Zpo K) π (Kq a3) (Kq (tC (.int 63))))) (aL 5)
   (aN (bx (bh ac dA (bh ei (bh ei aI aI) (tC (.int 1000003)))) (aL 6))
   (aN (cL (bC (bh (qI) (aP a [] E0 (aj (ak 6) (aj (tC (.int 1020379)) (aj a3 aC)))) τ)) (bx (bh (nQ) Φ (bh (Zcl) (dM (aj be aC)) (bh ac υ (aP a [] E0 (aj (ak 6) (aj (tC (.int 1159523)) (aj (tC (.int 6)) aC))))))) de) (bx (bh (nQ) Φ (aP b [] E0 (aj (ak 6) (aj χ bo)))) de))
   (Zsr 4 υ (ipI λi j=>i+j)))))
   (bB (bh (nQ) Φ (bh (Zcl) (dM (aj be aC)) (bh ac (tC (.int 12)) (aP a [] E0 (aj Θ (aj (tC (.int 1020379)) (aj (tC (.int 12)) aC)))))))))))
def Fx(K:aB)(a c b d:Sp):TS:=
 (aN (bx dN de)
   (aN (cL (bC (bh (jJ λi j=>.bl (decide (j<i))) (aP b [] E0 (aj (aP a [] E0 (aj π (aj τ aC))) (aj (tC (.int 611953)) (aj c6 aC)))) τ)) (bx (aP d [] E0 (aj χ (aj (aP a [] E0 (aj π (aj τ aC))) (aj (aP a [] E0 (aj π (aj am aC))) aC)))) de) bI)
   (mX K a c b)))
def qF:TS:=
 (bB ((PK (pG (G.JR) (aj π (aj (tC (.ty "int")) aC))) (Zi0 (pG (G.JR) (aj π (aj (tC (.ty "bool")) aC)))))))
def tR(K:aB)(a:Sp):TS:=
 (aN (cL ((CZ (nF (tB (pG (G.JR) (aj π (aj (tC (.ty "tuple")) aC))))) (CZ (bC (bh (rNe) (pG dF a6) a3)) (nF (tB (pG (G.JR) (aj (bh bd π τ) (aj (tC (.ty "str")) aC)))))))) ba bI)
   (aN (cL ((CZ (nF (tB (aP a [] E0 (aj (bh bd π υ) aC)))) (nF (tB (pG (G.JR) (aj (bh bd π am) (aj (tC (.ty "list")) aC))))))) ba bI)
   (aN (mK (iR K (bh bd π am)) de
   (cL (nF (tB (aP a [] E0 b7))) ba bI))
   (bB (bh (G.Zcm K false) π χ)))))
def vK(d e c f:AI)(b:Sp):TS:=
 (aN (bx be de)
   (aN (G.Zsn (λa=>a=Value.ref d\/a=Value.ref c\/a=Value.ref e\/a=Value.ref f) (λEx=>(bx (G.Zfb b [] Ex (aj π c7)) de)) (bx be de))
   (bB Φ)))
def Bp(K:aB):TS:=
 (aN (bx dN de)
   (aN (mK (xK (aj (pG dF a6) aC)) cE
   (mK (iR K (bh dy π Θ)) (aL 4)
   (cL ((PL (bC (bh (qI) a9 υ)) (PL (bC (bh (G.uG) aI be)) (bC (bh (rIn K true) aI Φ))))) (lB (tBM K "list" lH Φ ed)) bI)))
   (bB Φ)))
def Fv(K:aB):TS:=
 (aN (bx (Dc) cE)
   (aN (mK (iR K π) (aL 4)
   (Bb Θ (bh bd aI υ) (bh bd aI eM)))
   (aN (mK (iR K χ) (aL 5)
   (Bb Θ dA Φ))
   (bB Θ))))
def qG(K:aB):TS:=
 (aN (cL ((CZ (nF (tB (pG (G.JR) (aj π (aj (tC (.ty "list")) aC))))) (bC (bh (rNe) (pG dF a6) (pG dF c7))))) ba bI)
   (aN (mK (xK (aj (pG dF c7) aC)) cE
   (aN (cL ((CZ (nF (tB (pG (G.JR) (aj (bh dy π Θ) (aj (tC (.ty "tuple")) aC))))) (bC (bh (rNe) (pG dF (aj (bh dy π Θ) aC)) (tC (.int 6)))))) ba bI)
   (cL ((CZ (bC (bh (G.Zcm K true) (tSl (Zt2 K) (bh dy π Θ) zP (Kq eM)) (tSl (Zt2 K) (bh dy χ Θ) zP (Kq eM)))) (bC (bh (rNe) (bh bd (bh dy π Θ) eM) (xZ Φ (bh bd (bh dy χ Θ) υ)))))) ba bI)))
   (bB (tC (.bl true)))))
def Bk(K:aB)(a:Sp):TS:=
 (aN (bx (dM (aj (aZ K π "sense") (aj (aZ K π "turn") (aj (aZ K π "looked") aC)))) (aL 1))
   (aN (bx (bh (nQ) χ (dM (aj (aZ K π "walks") (aj (aZ K π "looks") (aj (aZ K π "passes") aC))))) (aL 1))
   (aN (mK (iR K (bh (nQ) χ (aZ K π "grey"))) de
   (cL (nF (tB (aP a [] E0 b7))) (bB dN) bI))
   (bB χ))))
def FZ:TS:=
 (aN (cL (bC (bh (qI) π τ)) (bB τ) bI)
   (aN (cL (bC (bh (qI) π am)) (bB (bh c0 (bh eB υ Φ) υ)) bI)
   (aN (mK (xK b7) cE
   (cL (bC (bh (qI) a9 τ)) (bB (bh eB υ Θ)) bI))
   (bB τ))))
def vJ(K:aB):TS:=
 (bB (G.tLC (iR K π) [] (bC (bh (qI) (bh bd π eM) (tC (.str "pale")))) (bh bd π υ)))
def yx(K:aB)(d b a c:Sp):TS:=
 (aN (bx (aP c [] E0 a6) cE)
   (aN (bx (aP d [] E0 (aj χ (aj (aZ K ah "looked") (aj (pG dF bo) aC)))) (aL 4))
   (aN (bx (aP a [] E0 b7) (aL 5))
   (aN (bx (G.tLC (iR K (aP b [] E0 (aj Θ ed))) [5] (bC (bh (rIn K false) π χ)) π) (aL 6))
   (bB (dJ (aj aI (aj (ak 6) (aj ((PK (bh (rNe) aI τ) ((Zso (bh (qI) χ υ) (bh (G.QF K true) (ak 6) dN))))) aC)))))))))
def yw(K:aB):TS:=
 (aN (bx (Dc) (aL 1))
   (aN (mK (iR K π) de
   (Bb χ (bh bd Φ υ) (bh bd Φ c6)))
   (bB χ)))
def Bm(K:aB):TS:=
 (aN (bx (Dc) de)
   (aN (bx dN cE)
   (aN (mK (iR K π) (aL 4)
   (bx (bh (nQ) Θ aI) cE))
   (aN (YJ (bC (bh (G.QF K true) Θ dN)) (aN (bx (Zsq K "list" Zvv Θ) (aL 5))
   (cL ((PL (bC (bh (G.uG) dA be)) (tB (Ea dA Φ)))) (aN (Bb Φ dA (tC (.bl true)))
   (bx (bh (nQ) Θ (xZ χ dA)) cE)) bI)))
   (bB Φ)))))
def yr(K:aB)(a b:Sp):TS:=
 (aN (bx (aP a [] E0 (aj χ (aj dN (aj (tC (.str "")) aC)))) de)
   (aN (bx dN cE)
   (aN (mK (iR K (pG (G.Zax) (aj (aZ K π "names") aC))) (aL 4)
   (aN (bx (bh bd (xZ (aZ K π "names") aI) υ) (aL 5))
   (aN (cL (bC (bh (qI) (YK Φ dA (tC (.str "pale"))) (tC (.str "pale")))) (bx be (aL 5)) bI)
   (lB (tBM K "list" lH Θ (aj dA aC))))))
   (bB (bh (nQ) (aP b [] E0 a6) (dM bo))))))
def Ld(K:aB):TS:=
 (aN (cL ((CZ (bC (bh ar (pG dF b7) am)) (CZ (nF (bC (Dd (jJ λi j=>.bl (decide (i<=j))) ar τ (bh dy Φ τ) (pG dF a6)))) (nF (bC (Dd (jJ λi j=>.bl (decide (i<=j))) ar τ (bh dy Φ υ) (pG dF (aj (bh dy π (bh dy Φ τ)) aC)))))))) (bB be) bI)
   (aN (bx (bh dy (bh dy π (bh dy Φ τ)) (bh dy Φ υ)) cE)
   (aN (mK (iR K (tSl (Zpo K) Φ (Kq am) zP)) (aL 4)
   (aN (cL ((CZ (bC (bh (G.Jf) Θ be)) (nF (bC (Dd (jJ λi j=>.bl (decide (i<=j))) ar τ aI (pG dF (aj (xZ χ Θ) aC))))))) (bB be) bI)
   (bx (bh dy (xZ χ Θ) aI) cE)))
   (bB Θ))))
def yt(K:aB)(c b a:Sp):TS:=
 (aN (mK (iR K (aP b [] E0 (aj aE (aj (aP a [] E0 a6) aC)))) (Zgs K 2 (vg de (vg cE Zgt)))
   (aN (bx (aP c [] E0 (aj aE b7)) (aL 4))
   (cL (bC (bh (rIn K false) aI χ)) (bB (dJ (aj aI (aj (pG (G.Zhe K) bo) aC)))) bI)))
   (bB be))
def qH(K:aB)(b c a d:Sp):TS:=
 (aN (bx (aP b [] E0 (aj χ (aj dN (aj (tC (.str "")) aC)))) de)
   (aN (bx dN cE)
   (aN (mK (iR K (pG (G.Zax) (aj (aZ K π "names") aC))) (aL 4)
   (aN (bx (xZ (aZ K π "names") aI) (Zgs K 2 (vg (aL 5) (vg (aL 6) Zgt))))
   (aN (bx (aP c [] E0 (aj π (aj dA (aj (ak 6) aC)))) (aL 7))
   (aN (cL ((CZ ((PL (bC (bh (G.Zi9) (ak 7) (tC (.bl true)))) (bC (bh (G.Zi9) (ak 7) (tC (.bl false)))))) (bC (bh (rNe) (ak 7) (Ea (ak 6) Φ))))) ba bI)
   (aN (cL (bC (bh (qI) (YK Φ (ak 6) (tC (.str "pale"))) (tC (.str "pale")))) (bx be (aL 5)) bI)
   (lB (tBM K "list" lH Θ (aj dA aC))))))))
   (bB (bh (G.Zcm K false) (aP d [] E0 a6) (bh (nQ) (aP a [] E0 a6) (dM bo)))))))
def xm(K:aB)(a f h e c g b d:Sp):TS:=
 (aN (cL (nF (tB (aP a [] E0 (aj Φ bo)))) ba bI)
   (aN (lB (tBM K "list" lH (bh bd Φ am) (aj (tC (.int 9)) aC)))
   (aN (cL ((CZ (nF (tB (aP a [] E0 (aj (aP g [] E0 a6) bo)))) (nF (tB (aP a [] E0 (aj (aZ K ah "loss") bo)))))) ba bI)
   (aN (bx (aP b [] E0 a6) (aL 4))
   (aN (cL ((CZ (nF (tB (aP e [] E0 ed))) (CZ (bC (bh (rNe) aI τ)) (nF (tB (aP f [] E0 (aj π c7))))))) ba bI)
   (aN (bx (aP c [] E0 (aj χ (aj dN (aj (tC (.str "")) aC)))) (aL 5))
   (bB ((PK (bh (qI) (aZ K ah "phase") (tC (.str "lost"))) (aP h [] E0 (aj (aP d [] E0 a6) (aj χ (aj dA aC)))))))))))))
def yu(K:aB)(b d a c:Sp):TS:=
 (aN (bx ah (aL 4))
   (aN (cL (nF (tB (aP b [] E0 (aj Θ (aj (dJ (aj (tC (.str "cut")) (aj (pG dF b7) (aj (pG (G.JQ K) b7) aC)))) aC))))) ba bI)
   (aN (cL ((CZ (nF (tB (aP a [] E0 (aj (aZ K aI "at") aC)))) (bC (bh (rNe) (aZ K aI "at") τ)))) ba bI)
   (aN (cL ((CZ (nF (tB (aP a [] E0 (aj (aZ K aI "stop") aC)))) (bC (bh (rNe) (aZ K aI "stop") (pG dF (aj (aZ K aE "cells") aC)))))) ba bI)
   (aN (bx (Dc) (aL 5))
   (aN (mK (iR K χ) (aL 6)
   (Bb dA (bh bd (ak 6) υ) (tC (.str "kept"))))
   (aN (mK (iR K Φ) (aL 7)
   (Bb dA (ak 7) (tC (.str "doomed"))))
   (aN (cL ((CZ (bC (bh (rNe) (aZ K aI "phase") (tC (.str "give")))) (bC (bh (G.uG) (aZ K aI "loss") be)))) ba bI)
   (bB (aP d [] E0 (aj (aP c [] E0 a6) (aj χ (aj dA aC)))))))))))))
def jt(K:aB)(a c d b e:Sp):TS:=
 (aN (cL ((CZ (bC (bh (G.Zcm K true) (aP e [] E0 a6) (tSl (Zpo K) dA zP (Kq (tUn (rU λi=>.int (-i)) υ))))) (CZ (bC (bh (G.QF K false) (ak 10) dN)) (bC (bh (G.QF K true) (aP d [] E0 b7) (ak 10)))))) ba bI)
   (aN (cL (bC (bh (G.QF K false) (ak 8) dN)) (bB ((PK (bh (G.Jf) (ak 9) be) (aP a [] E0 (aj π (aj Θ (aj aI (aj (ak 11) aC)))))))) bI)
   (aN (cL ((CZ (bC (bh (G.Jf) (ak 9) be)) (bC (bh (rNe) (aP b [] E0 (aj dA (aj (ak 6) (aj (bh bd (ak 9) υ) aC)))) (bh bd (ak 9) τ))))) ba bI)
   (bB (aP c [] E0 (aj π (aj Θ (aj (ak 11) (aj (dJ (aj (tC (.str "lost")) (aj (bh bd (ak 9) τ) (aj (bh bd (ak 9) υ) aC)))) aC)))))))))
def mV(K:aB)(b e f a c g d:Sp):TS:=
 (aN (bx (G.tLC (iR K aI) [7] (tB (Zsp π χ)) π) (aL 8))
   (aN (bx (aP f [] E0 (aj π ed)) (aL 9))
   (aN (bx (aP a [] E0 b7) (aL 10))
   (aN (bx (aP d [] E0 a6) (aL 11))
   (jt K b e a c g)))))
def mW(K:aB)(k a g i b c f h d j e:Sp):TS:=
 (aN (bx (aP b [] E0 bo) (aL 4))
   (aN (bx (aP f [] E0 (aj π bo)) (aL 5))
   (aN (bx (aP k [] E0 bo) (aL 6))
   (aN (bx (aP c [] E0 (aj dA (aj (ak 6) aC))) (aL 7))
   (mV K a g i h d j e)))))
def Fw(K:aB)(a m c i k d e h j g l b f:Sp):TS:=
 (aN (bx ah de)
   (aN (cL ((CZ (bC (bh (rNe) (aZ K Φ "phase") (tC (.str "walk")))) (bC (bh (G.QF K true) (aZ K Φ "grey") dN)))) (aN (lB (aP b [] E0 a6))
   (bB (tC (.bl true)))) bI)
   (aN (bx (aP f [] E0 a6) cE)
   (aN (cL (G.Zpd K (bh bd (aP a [] E0 (aj π (aj χ bo))) am)) (aN (lB (aP b [] E0 a6))
   (bB (tC (.bl true)))) bI)
   (mW K m c i k d e h j g l b)))))
def Zfs(K:aB)(a:AI)(b h c f d g e k:Sp):TS:=
 (aN (bx (bh ρ (aP h [] E0 (aj π (aj τ aC))) (tC (.int 12))) (aL 1))
   (aN (bx (aP f [] E0 a6) de)
   (aN (bx (wU a b [] E0 (aj (aP g [] E0 a6) (aj (aP d [] E0 c7) (aj (pG (G.JQ K) b7) aC)))) cE)
   (aN (mK (iR K (aP e [] E0 (aj π b7))) (aL 4)
   (aN (cL (bC (bh (qI) (aZ K (aZ K Θ "sweeper") "phase") (tC (.str "lost")))) (bB (tC (.bl true))) bI)
   (cL (bC (bh (G.uG) aI be)) (lB (aP c [] E0 (aj Θ ed))) (cL (nF (tB (aP k [] E0 (aj Θ (aj (bh ρ χ a3) aC))))) ba bI))))
   (bB (tC (.bl true)))))))
structure TxC(K:aB)(cG bZ:AI):Prop where
 dD:Py K cG
 eF:cX K cG "birth"
 o8:cX K cG "bulk"
 o7:cX K cG "tone"
 jY:cX K cG "load"
 fW:cX K cG "fields"
 cT:Py K bZ
 sO:cX K bZ "room"
 bR:cX K bZ "cells"
 jk:cX K bZ "used"
 o5:cX K bZ "born"
 Pn:EqD K cG
structure zO(CC:AI)(H:Hp)(p fa:AI)(birth bulk tone load:Int)(fl:List V):Prop where
 o:∃dx,H p=some (.ins CC dx cf)
 f:H fa=some (.lst fl)
theorem zO.same{a:AI}{H H':Hp}{p fa:AI}{birth bulk tone load:Int}{fl:List V}(h:zO a H p fa birth bulk tone load fl)(s:aX H H'):zO a H' p fa birth bulk tone load fl:=by
 obtain⟨⟨b,h1⟩,h2⟩:=h;exact⟨⟨b,s _ _ h1⟩,s _ _ h2⟩
structure HpO(CH:AI)(H:Hp)(hp ca:AI)(room used born:Int)(cs:List V):Prop where
 o:∃dx,H hp=some (.ins CH dx cw)
 c:H ca=some (.lst cs)
theorem Tv{a b c d e f g:Int}{x y:AI}:j7 a b c d x≠jo e y f g:=λz=>by
 have:=congrArg List.length z;cases this
inductive zG(CC:AI)(p:AI)(birth:Int)(many:Int)(bulk:Int)(tone:Int)(H:Hp)(Q:VK):Prop
 | mk (dx) (_:H p=some (.ins CC dx [])) (_:0<=many) (_:many<=1000) (_:∀fa H',H fa=none->H' p=some (.ins CC dx (j7 birth bulk tone 0 fa))->H' fa=some (.lst (List.replicate many.toNat V.non))->(∀b o,H b=some o->b≠p->H' b=some o)->Q .non H'):zG CC p birth many bulk tone H Q
def Oa(a:AI):Sp:=λvs H Q E=>∃p birth many bulk tone,vs=[.ref p,.int birth,.int many,.int bulk,.int tone]/\zG a p birth many bulk tone H Q
def wN(a:AI):Sp:=λvs H Q E=>∃p,vs=[.ref p]/\∃fa birth bulk tone load fl,zO a H p fa birth bulk tone load fl/\Q (.int (1+fl.length+bulk)) H
def N6(a:AI):Sp:=λvs H Q E=>∃p room,vs=[.ref p,.int room]/\∃dx,H p=some (.ins a dx [])/\
 ∀ca H',H ca=none->H' p=some (.ins a dx (jo room ca 0 0))->H' ca=some (.lst [])->(∀b o,H b=some o->b≠p->H' b=some o)->Q .non H'
def N7(a:AI):Sp:=λvs H Q E=>∃hp,vs=[.ref hp]/\∃ca room used born cs,HpO a H hp ca room used born cs/\Q (.int (room - used)) H
def plc(cs:List V):AE:=((List.range cs.length).filter λi=>!decide (cs[i]? =some V.non)).map λ(i:Nat)=>(i:Int)
inductive wH(CH:AI)(hp:AI)(H:Hp)(Q:VK):Prop
 | mk (ca room used born cs) (_:HpO CH H hp ca room used born cs) (_:cs.length<=1000) (_:∀l,H l=none->Q (.ref l) (upd H l (.lst ((plc cs).map V.int)))):wH CH hp H Q
def qb(a:AI):Sp:=λvs H Q E=>∃hp,vs=[.ref hp]/\wH a hp H Q
def putN(cs:List V)(v:V):List V:=if V.non∈cs then cs.set (cs.idxOf V.non) v else cs++[v]
inductive DG(K:aB)(CH:AI)(hp:AI)(v:V)(H:Hp)(Q:VK):Prop
 | mk (ca room used born cs) (_:HpO CH H hp ca room used born cs) (_:OkN K H cs) (_:cs.length<=1000) (_:Q (.int (cs.idxOf V.non)) (upd H ca (.lst (putN cs v)))):DG K CH hp v H Q
def Us(K:aB)(a:AI):Sp:=λvs H Q E=>∃hp v,vs=[.ref hp,v]/\DG K a hp v H Q
inductive zE(CC:AI)(CH:AI)(hp:AI)(i:Int)(H:Hp)(Q:VK):Prop
 | mk (ca dx room used born cs p fa birth bulk tone load fl) (_:0<=i) (_:H hp=some (.ins CH dx (jo room ca used born))) (_:H ca=some (.lst cs)) (_:cs[i.toNat]? =↑p) (_:zO CC H p fa birth bulk tone load fl) (_:Q (.int birth) (upd (upd H hp (.ins CH dx (jo room ca (used - (1+fl.length+bulk)) born))) ca (.lst (cs.set i.toNat V.non)))):zE CC CH hp i H Q
def zL(b a:AI):Sp:=λvs H Q E=>∃hp i,vs=[.ref hp,.int i]/\zE b a hp i H Q
inductive zB(K:aB)(CC:AI)(CH:AI)(CF:AI)(hp:AI)(many:Int)(bulk:Int)(tone:Int)(H:Hp)(Q:VK)(E:XK):Prop
 | mk (ca dx room used born cs) (_:H hp=some (.ins CH dx (jo room ca used born))) (_:H ca=some (.lst cs)) (_:OkN K H cs) (_:cs.length<=1000) (_:0<=many) (_:many<=1000) (_:(room - used<1+many+bulk->∀H',aX H H'->E (.ref CF) none H')) (_:(1+many+bulk<=room - used->∀p fa H',H p=none->H fa=none->Fm [hp,ca] H H'->H' hp=some (.ins CH dx (jo room ca (used+(1+many+bulk)) (born+1)))->H' ca=some (.lst (putN cs (.ref p)))->
  zO CC H' p fa (born+1) bulk tone 0 (List.replicate many.toNat V.non)->Q (.int (cs.idxOf V.non)) H')):zB K CC CH CF hp many bulk tone H Q E
def N5(K:aB)(b a c:AI):Sp:=λvs H Q E=>∃hp many bulk tone,vs=[.ref hp,.int many,.int bulk,.int tone]/\zB K b a c hp many bulk tone H Q E
section
variable {K:aB}{cG bZ di:AI}{H:Hp}{Q:VK}{E:XK}{n:ν}{bk ct:ν}
theorem Wc{p:AI}(T:TxC K cG bZ)(q:∃fa birth bulk tone load fl,zO cG H p fa birth bulk tone load fl/\Q (.int (1+fl.length+bulk)) H):Bs K ξ [↑p] H:=by
 obtain⟨fa,birth,bulk,tone,load,fl,⟨⟨a,h1⟩,h2⟩,h⟩:=q;unfold Bs;apply aJ h1 T.dD T.fW ig ?_;apply eU (bN.of h2) ?_;apply aJ h1 T.dD T.o8 CT ?_;apply h
theorem Kh{p:AI}{birth many bulk tone:Int}(T:TxC K cG bZ)(q:zG cG p birth many bulk tone H Q):
  uF K ⟨λ_ H'=>Q .non H',Q,bk,ct⟩ [↑p,some (.int birth),some (.int many),some (.int bulk),some (.int tone)] H:=by
 obtain⟨d,hp,t,h1,h⟩:=q;unfold uF;exists p,cG,d,[],rfl,hp,T.dD,T.eF,ε;apply⟨p,cG,d,_,rfl,aq,T.dD,T.o8,by show 1<1000;decide,?_⟩;rw[dI];apply⟨p,cG,d,_,rfl,aq,T.dD,T.o7,by show 2<1000;decide,?_⟩;rw[dI];apply⟨p,cG,d,_,rfl,aq,T.dD,T.jY,by show 3<1000;decide,?_⟩;rw[dI];apply⟨ε,λm j=>?_⟩;apply⟨m,many,_,rfl,rfl,aq,δ,δ,?_,λg a=>?_⟩
 ·show 1 * many.toNat<=sizeLine;exact aQ δ
 have i:p≠m:=aF aq j;have c:p≠g:=aF ((aD i).trans aq) a;apply⟨p,cG,d,_,rfl,(aD c).trans ((aD i).trans aq),T.dD,T.fW,by show 4<1000;decide,?_⟩;have n:H g=none:=by
  have e:=a;have n1:g≠m:=λz=>by rw[z,aq]at e;cases e
  rw[aD n1,aD c.symm]at e;exact e
 refine h g _ n (aq.trans (congrArg (λl=>some (HO.ins cG d l)) Zp0)) ?_ λb o hb f=>?_
 ·rw[aD c.symm,aq];have e:(List.replicate many.toNat [V.non]).flatten=List.replicate many.toNat V.non:=by
   generalize many.toNat=k
   induction k with
   | zero=>rfl
   | succ k s=>rw[List.replicate_succ,List.replicate_succ,List.flatten_cons,s];rfl
  rw[e]
 ·have r:upd H p (HO.ins cG d (cj "load" (V.int 0) (cj "tone" (V.int tone) (cj "bulk" (V.int bulk) (cj "birth" (V.int birth) []))))) b=some o:=(aD f).trans hb;have n1:b≠m:=aF r j;have n2:b≠g:=aF ((aD n1).trans r) a;rw[aD f,aD n2,aD n1];exact r
theorem Ke{p:AI}{room:Int}(T:TxC K cG bZ)(q:∃dx,H p=some (.ins bZ dx [])/\
 ∀ca H',H ca=none->H' p=some (.ins bZ dx (jo room ca 0 0))->H' ca=some (.lst [])->(∀b o,H b=some o->b≠p->H' b=some o)->Q .non H'):
  uD K ⟨λ_ H'=>Q .non H',Q,bk,ct⟩ [↑p,some (.int room)] H:=by
 obtain⟨dx,hp,h⟩:=q;unfold uD;exists p,bZ,dx,[],rfl,hp,T.cT,T.sO,ε;apply⟨ε,λca d=>?_⟩;ext;have c:p≠ca:=aF aq d;refine⟨p,bZ,dx,_,rfl,(aD c).trans aq,T.cT,T.bR,by show 1<1000;decide,?_⟩;apply⟨p,bZ,dx,_,rfl,aq,T.cT,T.jk,by show 2<1000;decide,?_⟩;rw[dI];apply⟨p,bZ,dx,_,rfl,aq,T.cT,T.o5,by show 3<1000;decide,?_⟩;rw[dI];have f:H ca=none:=by
  have e:=d;rw[aD c.symm]at e;exact e
 refine h ca _ f (aq.trans (congrArg (λl=>some (HO.ins bZ dx l)) Zo7)) ?_ λb o hb a=>?_
 ·rw[aD c.symm,aq]
 ·rw[aD a,aD (aF ((aD a).trans hb) d),aD a];exact hb
theorem Zc0{hp:AI}(T:TxC K cG bZ)(q:∃ca room used born cs,HpO bZ H hp ca room used born cs/\Q (.int (room - used)) H):Gb K ξ [↑hp] H:=by
 obtain⟨ca,room,used,born,cs,⟨⟨a,h1⟩,h2⟩,h⟩:=q;unfold Gb;apply aJ h1 T.cT T.sO VN ?_;apply aJ h1 T.cT T.jk ue ?_;apply h
theorem V9{hp:AI}(T:TxC K cG bZ)(q:wH bZ hp H Q):tU K ξ [↑hp] H:=by
 obtain⟨ca,room,used,born,cs,⟨⟨b,h1⟩,h2⟩,hl,h⟩:=q;unfold tU;apply Cp ?_;apply aJ h1 T.cT T.bR bM ?_;apply eU (bN.of h2) ?_;exists _,rfl,δ,δ;refine Znp (n:=cs.length) δ (p:=λi=>!decide (cs[i]? =some V.non)) (f:=λi=>.int i) δ ?_ ?_ ?_
 ·intro i a k hk;walk_at"c";apply aJ h1 T.cT T.bR bM ?_;apply fD (bN.of h2) (gq (bG a)) ?_;apply Zgk ?_;rw[bG a]at hk;ext;simpa using hk
 ·intro i a _ k hk;walk_at"c";apply hk
 ·have e:((plc cs).map V.int)=((List.range cs.length).filter λi=>!decide (cs[i]? =some V.non)).map λ(i:Nat)=>V.int i:=by
   unfold plc;rw[List.map_map];rfl
  rw[<- e];exact h
theorem Zf0{hp:AI}{v:V}(T:TxC K cG bZ)(q:DG K bZ hp v H Q):Le K ξ [↑hp,some v,none] H:=by
 obtain⟨ca,room,used,born,cs,⟨⟨f,h1⟩,h2⟩,c,hl,h⟩:=q;unfold Le;apply aJ h1 T.cT T.bR bM ?_;apply Znw (bN.of h2) c ?_;apply qT (λhn=>?_) (λhn=>?_)
 ·apply aJ h1 T.cT T.bR bM ?_;refine⟨.inl ⟨rfl,_,bN.of h2⟩,?_⟩;exists ca,cs,v,rfl,rfl,h2,Nat.lt_of_le_of_lt hl ε;ext;have a:hp≠ca:=lV h1 h2 a4;refine aJ ((aD a).trans h1) T.cT T.bR bM ?_;apply eU (bN.of aq) ?_;ext;have e:(((cs++[v]).length:Int) - 1)=(cs.idxOf V.non:Nat):=by
   rw[List.length_append,List.idxOf_eq_length hn];simp
  have b:putN cs v=cs++[v]:=by unfold putN;rw[if_neg hn]
  rw[e,<- b];exact h
 ·apply aJ h1 T.cT T.bR bM ?_;refine⟨.inl ⟨rfl,_,bN.of h2⟩,?_⟩;exists ca,cs,rfl,rfl,bN.of h2,c,hn;apply aJ h1 T.cT T.bR bM ?_;ext;have d:cs.idxOf V.non<cs.length:=List.idxOf_lt_length_iff.mpr hn;refine⟨ca,cs,_,_,rfl,rfl,h2,p7 d,?_⟩;have b:putN cs v=cs.set (cs.idxOf V.non) v:=by unfold putN;rw[if_pos hn]
  rw[<- b];apply h
theorem Zc1{hp:AI}{i:Int}(T:TxC K cG bZ)(q:zE cG bZ hp i H Q):Gd K cG (wN cG) ξ [↑hp,some (.int i),none] H:=by
 obtain⟨ca,dx,room,used,born,cs,p,f,birth,bulk,tone,load,fl,d,h1,h2,e,co,h⟩:=q;obtain⟨⟨dp,c1⟩,c2⟩:=id co;unfold Gd;apply aJ h1 T.cT T.bR bM ?_;apply fD (bN.of h2) (iW d e) ?_;apply aJ h1 T.cT T.jk ue ?_;exists p,dp,_,rfl,c1,qY;exists p,rfl,f,birth,bulk,tone,load,fl,co;apply⟨hp,bZ,dx,_,rfl,h1,T.cT,T.jk,by show 4<1000;decide,?_⟩;rw[yZ];have b:hp≠ca:=lV h1 h2 a4;apply aJ aq T.cT T.bR bM ?_;ext;have c:i.toNat<cs.length:=(cI e).1;refine⟨ca,cs,_,_,rfl,rfl,(aD b.symm).trans h2,Zqg d c,?_⟩;apply aJ (C:=cG) (a:=p) (dx:=dp) (fs:=j7 birth bulk tone load f) ?_ T.dD T.eF fG ?_
 ·have n1:p≠ca:=lV c1 h2 a4;have n2:p≠hp:=lV c1 h1 (λz=>by injection z with _ _ z;exact Tv z);rw[aD n1,aD n2];exact c1
 exact h
theorem Zbz{hp:AI}{many bulk tone:Int}(T:TxC K cG bZ)(q:zB K cG bZ di hp many bulk tone H Q E):
  Ga K cG di bZ (Oa cG) (wN cG) (N7 bZ) (Us K bZ) E ξ [↑hp,some (.int many),some (.int bulk),some (.int tone),none] H:=by
 obtain⟨ca,g,room,used,born,cs,h1,h2,F,hl,x,w,v,D⟩:=q;have h:hp≠ca:=lV h1 h2 a4;unfold Ga;apply aJ h1 T.cT T.o5 VP ?_;ext;intro p dp i m B;refine⟨p,_,many,_,_,rfl,dp,aq,x,w,λc k l c1 c2 J=>⟨rfl,?_⟩⟩;have f:H c=none:=by
  have e:=l
  by_cases z1:c=p
  ·rw[z1,aq]at e;cases e
  ·rw[aD z1]at e
   by_cases t:c=dp
   ·rw[t,aq]at e;cases e
   ·rw[aD t]at e;exact e
 have sm:aX H k:=λb o hb=>by
  refine J b o ?_ (aF hb i);rw[aD (aF hb i),aD (aF hb m)];exact hb
 have co:zO cG k p c (born+1) bulk tone 0 (List.replicate many.toNat V.non):=⟨⟨dp,c1⟩,c2⟩;have r:((List.replicate many.toNat V.non).length:Int)=many:=by rw[List.length_replicate];omega
 exists p,dp,_,rfl,c1,qY;exists p,rfl,c,_,_,_,_,_,co;exists hp,g,_,rfl,sm _ _ h1,VL;exists hp,rfl,ca,room,used,born,cs,⟨⟨g,sm _ _ h1⟩,sm _ _ h2⟩;ext;rw[r];refine mG (λs=>?_) (λs=>?_)
 ·apply⟨ε,v s k sm⟩
 ·apply aJ c1 T.dD T.eF fG ?_;apply⟨hp,bZ,g,_,rfl,sm _ _ h1,T.cT,T.o5,by show 4<1000;decide,?_⟩;rw[SX];apply aJ aq T.cT T.jk ue ?_;ext;have n1:p≠hp:=(aF h1 i).symm;have n2:c≠hp:=(aF h1 f).symm;have n3:p≠ca:=(aF h2 i).symm;have n4:c≠ca:=(aF h2 f).symm;refine⟨p,dp,_,rfl,(aD n1).trans c1,qY,?_⟩;exists p,rfl,c,_,_,_,_,_,⟨⟨dp,(aD n1).trans c1⟩,(aD n2).trans c2⟩;ext;rw[r];refine⟨hp,bZ,g,_,rfl,aq,T.cT,T.jk,by show 4<1000;decide,?_⟩;rw[yZ,dI];exists hp,g,_,rfl,aq,Zar;exists hp,.ref p,rfl,ca,room,_,_,cs,⟨⟨g,aq⟩,(aD h.symm).trans (sm _ _ h2)⟩,?_,hl
  ·intro y hy;rcases F y hy with e | ⟨a,C,d,fs,e,j,hc,u⟩
   ·exact .inl e
   ·refine .inr ?_
    by_cases z:a=hp
    ·rw[z]at j e;rw[h1]at j;cases j;exact⟨hp,_,_,_,e,aq,hc,u⟩
    ·exact⟨a,C,d,fs,e,(aD z).trans (sm _ _ j),hc,u⟩
  ·refine D δ p c _ i f ?_ ((aD h).trans aq) aq ⟨⟨dp,?_⟩,?_⟩
   ·intro b o hb hn;have A:b≠hp:=λz=>hn (by rw[z];exact List.mem_cons_self);have I:b≠ca:=λz=>hn (by rw[z];exact List.mem_cons_of_mem _ List.mem_cons_self);rw[aD I,aD A];exact sm _ _ hb
   ·rw[aD n3,aD n1];exact c1
   ·rw[aD n4,aD n2];exact c2
end
structure Ce where
 birth:Int
 bulk:Int
 tone:Int
 load:Int
 fl:Au
 deriving DecidableEq
structure Sw where
 sense:Int
 phase:Str
 grey:AE
 looked:Int
 turn:Int
 at':Int
 stop:Int
 walks:Int
 looks:Int
 passes:Int
 loss:V
structure Wm where
 room:Int
 used:Int
 born:Int
 cells:List (Option Ce)
 hands:List (Str×Au)
 names:List b8
 w:Int
 tells:Int
 sw:Sw
structure Wa where
 wo:AI
 hp:AI
 ca:AI
 ki:AI
 lk:AI
 hl:AI
 nm:AI
 sw:AI
 gr:AI
 hs:List (AI×AI)
 cs:List (Option (AI×AI))
 ns:AF
def oV:AA->V
 | none=>.non
 | some i=>.int i
def pV:Option (AI×AI)->V
 | none=>.non
 | some p=>.ref p.1
structure uh(s:Nat)(t0:Nat->Prop)(H H':Hp)(T T':Tg):Prop where
 kp:∀b o,H b=some o->(T b).1=s->¬ t0 (T b).2->H' b=some o
 tg:∀b o,H b=some o->T' b=T b
section
variable {CHd CC:AI}{H H':Hp}{T T':Tg}{s j i:Nat}{t0:Nat->Prop}
theorem uh.at{a:AI}{o:HO}{m:Nat}(f:uh s t0 H H' T T')(b:T a=(s,m))(n:¬ t0 m)(h:H a=some o):H' a=some o:=f.kp a o h (by rw[b]) (by rw[b];exact n)
theorem uh.tag{a:AI}{o:HO}{x:Nat×Nat}(f:uh s t0 H H' T T')(h:H a=some o)(b:T a=x):T' a=x:=(f.tg a o h).trans b
theorem uh.yJ{a:AI}{o:HO}{m:Nat}(c:T a=(s,m)):uh s (·=m) H eo T T:=⟨λb u h e n=>by
  have:b≠a:=λz=>n (by rw[z,c]);rw[aD this];exact h,λ_ _ _=>rfl⟩
theorem uh.of_same(e:aX H H'):uh s (λ_=>False) H H' T T:=⟨λb o h _ _=>e b o h,λ_ _ _=>rfl⟩
theorem uh.Zn4{s':Nat}(e:gD s' H H' T T')(n:s≠s'):uh s (λ_=>False) H H' T T':=⟨λb o h z _=>e.kp b o h (by rw[z];exact n),e.tg⟩
structure HdO(CHd:AI)(H:Hp)(T:Tg)(s j:Nat)(p:AI×AI)(m:Str×Au):Prop where
 t1:T p.1=(s,20+2 * j)
 t2:T p.2=(s,21+2 * j)
 o1:∃dx,H p.1=some (.ins CHd dx (Ziv m.1 p.2))
 o2:H p.2=some (.lst (m.2.map oV))
theorem HdO.mv{p:AI×AI}{m:Str×Au}(h:HdO CHd H T s j p m)(f:uh s t0 H H' T T')(n1:¬ t0 (20+2 * j))(n2:¬ t0 (21+2 * j)):HdO CHd H' T' s j p m:=by
 obtain⟨a,d,⟨e,b⟩,c⟩:=h;exact⟨f.tag b a,f.tag c d,⟨e,f.at a n1 b⟩,f.at d n2 c⟩
structure CeO(CC:AI)(H:Hp)(T:Tg)(s i:Nat)(p:AI×AI)(c:Ce):Prop where
 t1:T p.1=(s,100+2 * i)
 t2:T p.2=(s,101+2 * i)
 o1:∃dx,H p.1=some (.ins CC dx (j7 c.birth c.bulk c.tone c.load p.2))
 o2:H p.2=some (.lst (c.fl.map oV))
theorem CeO.mv{p:AI×AI}{c:Ce}(h:CeO CC H T s i p c)(f:uh s t0 H H' T T')(n1:¬ t0 (100+2 * i))(n2:¬ t0 (101+2 * i)):CeO CC H' T' s i p c:=by
 obtain⟨a,e,⟨g,b⟩,d⟩:=h;exact⟨f.tag b a,f.tag d e,⟨g,f.at a n1 b⟩,f.at e n2 d⟩
def CeP(CC:AI)(H:Hp)(T:Tg)(s i:Nat):Option (AI×AI)->Option Ce->Prop
 | none,none=>True
 | some p,some c=>CeO CC H T s i p c
 | _,_=>False
theorem CeP.mv{p:Option (AI×AI)}{c:Option Ce}(h:CeP CC H T s i p c)(f:uh s t0 H H' T T')(n1:¬ t0 (100+2 * i))(n2:¬ t0 (101+2 * i)):CeP CC H' T' s i p c:=by
 cases p with
 | none=>cases c with
  | none=>trivial
  | some c=>exact h.elim
 | some p=>cases c with
  | none=>exact h.elim
  | some c=>exact CeO.mv h f n1 n2
end
def NmO(H:Hp)(T:Tg)(t:AI)(m:Str×(Int×Int)):Prop:=T t=(0,0)/\H t=some (.tup [.int m.2.1,.int m.2.2])
structure Cs where
 W:AI
 H:AI
 C:AI
 K:AI
 D:AI
 S:AI
 F:AI
 E:AI
 L:AI
structure WB(X:Cs)(H:Hp)(T:Tg)(s:Nat)(A:Wa)(w tells:Int):Prop where
 tw:T A.wo=(s,0)
 tk:T A.ki=(0,0)
 tl:T A.lk=(0,0)
 tn:T A.hl=(s,5)
 ow:∃dx,H A.wo=some (.ins X.W dx (xW A.hp A.ki A.hl A.nm A.sw))
 ok:∃dx,H A.ki=some (.ins X.K dx (R5 A.lk tells))
 ol:∃dx,(w=0/\H A.lk=some (.ins X.F dx []))\/(w=1/\H A.lk=some (.ins X.E dx []))\/(w=2/\H A.lk=some (.ins X.L dx []))
 on:H A.hl=some (.lst (A.hs.map λp=>V.ref p.1))
structure WH(X:Cs)(H:Hp)(T:Tg)(s:Nat)(A:Wa)(room used born:Int):Prop where
 th:T A.hp=(s,1)
 tc:T A.ca=(s,2)
 oh:∃dx,H A.hp=some (.ins X.H dx (jo room A.ca used born))
 oc:H A.ca=some (.lst df)
def m5(M:List b8)(ns:AF):List ((Int ⊕ Str)×V):=List.zipWith (λ(m:Str×(Int×Int)) (t:AI)=>(Sum.inr m.1,V.ref t)) M ns
structure WN(H:Hp)(T:Tg)(s:Nat)(A:Wa)(names:List b8):Prop where
 tm:T A.nm=(s,6)
 om:H A.nm=some (.dK (m5 names A.ns))
 nms:Al (NmO H T) A.ns names
structure WS(X:Cs)(H:Hp)(T:Tg)(s:Nat)(A:Wa)(S:Sw):Prop where
 ts:T A.sw=(s,7)
 tg:T A.gr=(s,8)
 os:∃dx,H A.sw=some (.ins X.S dx bF)
 og:H A.gr=some (.lst (S.grey.map V.int))
structure WD(X:Cs)(H:Hp)(T:Tg)(s:Nat)(hs:List (AI×AI))(hands:List (Str×Au)):Prop where
 lh:hs.length=hands.length
 l5:hs.length<=30
 hd:∀(j:Nat) p m,hs[j]? =some p->hands[j]? =some m->HdO X.D H T s j p m
structure WC(X:Cs)(H:Hp)(T:Tg)(s:Nat)(cs:List (Option (AI×AI)))(cells:List (Option Ce)):Prop where
 lc:cs.length=cells.length
 ce:∀(i:Nat) p c,cs[i]? =some p->cells[i]? =some c->CeP X.C H T s i p c
structure WJ(X:Cs)(H:Hp)(T:Tg)(s:Nat)(A:Wa)(M:Wm):Prop where
 jb:WB X H T s A M.w M.tells
 jh:WH X H T s A M.room M.used M.born
 jn:WN H T s A M.names
 js:WS X H T s A M.sw
 jd:WD X H T s A.hs M.hands
 jc:WC X H T s A.cs M.cells
section
variable {X:Cs}{H H':Hp}{T T':Tg}{s:Nat}{t0:Nat->Prop}{A:Wa}{M:Wm}
theorem WB.mv{w tells:Int}(j:WB X H T s A w tells)(f:uh s t0 H H' T T')(a:∀b o,H b=some o->T b=(0,0)->H' b=some o)(g:¬ t0 0)(n5:¬ t0 5):WB X H' T' s A w tells:=by
 obtain⟨tw,tk,tl,tn,⟨d1,ow⟩,⟨d3,ok⟩,⟨d4,ol⟩,on⟩:=j;have d:∃o,H A.lk=some o:=by
  rcases ol with ⟨_,e⟩ | ⟨_,e⟩ | ⟨_,e⟩
  ·exact⟨_,e⟩
  ·exact⟨_,e⟩
  ·exact⟨_,e⟩
 obtain⟨h,c⟩:=d;refine⟨f.tag ow tw,f.tag ok tk,f.tag c tl,f.tag on tn,⟨d1,f.at tw g ow⟩,⟨d3,a _ _ ok tk⟩,⟨d4,?_⟩,f.at tn n5 on⟩;rcases ol with ⟨z,e⟩ | ⟨z,e⟩ | ⟨z,e⟩
 ·exact .inl ⟨z,a _ _ e tl⟩
 ·exact .inr (.inl ⟨z,a _ _ e tl⟩)
 ·exact .inr (.inr ⟨z,a _ _ e tl⟩)
theorem WH.mv{room used born:Int}(j:WH X H T s A room used born)(f:uh s t0 H H' T T')(n1:¬ t0 1)(n2:¬ t0 2):WH X H' T' s A room used born:=by
 obtain⟨th,tc,⟨d,oh⟩,oc⟩:=j;exact⟨f.tag oh th,f.tag oc tc,⟨d,f.at th n1 oh⟩,f.at tc n2 oc⟩
theorem WN.mv{names:List b8}(j:WN H T s A names)(f:uh s t0 H H' T T')(a:∀b o,H b=some o->T b=(0,0)->H' b=some o)(n6:¬ t0 6):WN H' T' s A names:=by
 obtain⟨tm,om,nms⟩:=j;exact⟨f.tag om tm,f.at tm n6 om,nms.mono (by rintro t m ⟨z1,z2⟩;exact⟨f.tag z2 z1,a _ _ z2 z1⟩)⟩
theorem WS.mv{S:Sw}(j:WS X H T s A S)(f:uh s t0 H H' T T')(n7:¬ t0 7)(n8:¬ t0 8):WS X H' T' s A S:=by
 obtain⟨ts,tg,⟨d,os⟩,og⟩:=j;exact⟨f.tag os ts,f.tag og tg,⟨d,f.at ts n7 os⟩,f.at tg n8 og⟩
theorem WD.mv{hs:List (AI×AI)}{hands:List (Str×Au)}(j:WD X H T s hs hands)(f:uh s t0 H H' T T')(n:∀k,20<=k->k<100->¬ t0 k):WD X H' T' s hs hands:=by
 obtain⟨lh,l5,hd⟩:=j;refine⟨lh,l5,λj p m a b=>?_⟩;have hl:j<hs.length:=(cI a).1;exact(hd j p m a b).mv f (n _ δ δ) (n _ δ δ)
theorem WC.mv{cs:List (Option (AI×AI))}{cells:List (Option Ce)}(j:WC X H T s cs cells)(f:uh s t0 H H' T T')(n:∀k,100<=k->¬ t0 k):WC X H' T' s cs cells:=by
 obtain⟨lc,ce⟩:=j;exact⟨lc,λi p c b a=>(ce i p c b a).mv f (n _ δ) (n _ δ)⟩
theorem WJ.mv(j:WJ X H T s A M)(f:uh s (λ_=>False) H H' T T')(a:∀b o,H b=some o->T b=(0,0)->H' b=some o):WJ X H' T' s A M:=
 ⟨j.jb.mv f a id id,j.jh.mv f id id,j.jn.mv f a id,j.js.mv f id id,j.jd.mv f λ_ _ _=>id,j.jc.mv f λ_ _=>id⟩
theorem WJ.same(j:WJ X H T s A M)(e:aX H H'):WJ X H' T s A M:=j.mv (uh.of_same e) λb o h _=>e b o h
theorem WJ.other{s':Nat}(j:WJ X H T s A M)(e:gD s' H H' T T')(n:s≠s')(a:s'≠0):WJ X H' T' s A M:=j.mv (uh.Zn4 e n) λb o h t=>e.kp b o h (by rw[t];exact λz=>a z.symm)
theorem lQ{a:AI}{f:HO}{m:Nat}(d:s≠0)(c:T a=(s,m)):∀b o,H b=some o->T b=(0,0)->upd H a f b=some o:=λb o e t=>by
 rw[aD (RC t c (λz=>d (congrArg Prod.fst z).symm))];exact e
theorem WJ.slot(j:WJ X H T s A M)(w:WT H T)(e:s≠0){h k:Nat}{p:AI×AI}{m:Str×Au}{x:AA}(hp:A.hs[h]? =some p)(hm:M.hands[h]? =some m):
  gD s H (upd H p.2 (.lst ((m.2.map oV).set k (oV x)))) T T/\WJ X (upd H p.2 (.lst ((m.2.map oV).set k (oV x)))) T s A { M with hands:=M.hands.set h (m.1,m.2.set k x) }:=by
 have hl:=j.jd.l5;have r:h<A.hs.length:=(cI hp).1;have c:h<M.hands.length:=(cI hm).1;have d:=j.jd.hd h p m hp hm;refine⟨gD.upd w d.o2 (by rw[d.t2]),?_⟩;have f:uh s (·=21+2 * h) H (upd H p.2 (.lst ((m.2.map oV).set k (oV x)))) T T:=uh.yJ d.t2;have q:upd H p.2 (.lst ((m.2.map oV).set k (oV x))) p.2=some (.lst ((m.2.set k x).map oV)):=by rw[aq,List.map_set]
 refine⟨j.jb.mv f (lQ e d.t2) δ δ,j.jh.mv f δ δ,j.jn.mv f (lQ e d.t2) δ,j.js.mv f δ δ,⟨by rw[List.length_set];exact j.jd.lh,hl,λg o l b a=>?_⟩,j.jc.mv f λ_ _=>δ⟩
 by_cases i:g=h
 ·subst i;dsimp only at a;rw[List.getElem?_set_self c]at a;rw[hp]at b;cases b;cases a;obtain⟨n,o1⟩:=d.o1;exact⟨d.t1,d.t2,⟨n,f.at d.t1 δ o1⟩,q⟩
 ·dsimp only at a;rw[List.getElem?_set_ne (λz=>i z.symm)]at a;exact(j.jd.hd g o l b a).mv f δ δ
theorem WC.at(j:WC X H T s A.cs M.cells){i:Nat}{c:Ce}(h:M.cells[i]? =some (some c)):∃p,A.cs[i]? =some (some p)/\CeO X.C H T s i p c:=by
 have hl:i<A.cs.length:=by rw[j.lc];exact(cI h).1
 have e:=j.ce i _ _ (bG hl) h;cases a:A.cs[i]with
 | none=>rw[a]at e;exact e.elim
 | some g=>rw[a]at e;exact⟨g,by rw[bG hl,a],e⟩
theorem WC.at0(j:WC X H T s A.cs M.cells){i:Nat}(h:M.cells[i]? =some none):A.cs[i]? =some none:=by
 have hl:i<A.cs.length:=by rw[j.lc];exact(cI h).1
 have e:=j.ce i _ _ (bG hl) h;cases a:A.cs[i]with
 | none=>rw[bG hl,a]
 | some g=>rw[a]at e;exact e.elim
theorem WC.chg(j:WC X H T s A.cs M.cells){i:Nat}{p:AI×AI}{c':Ce}(f:uh s t0 H H' T T')(hp:A.cs[i]? =some (some p))(n:∀k,100<=k->k≠100+2 * i->k≠101+2 * i->¬ t0 k)(e:CeO X.C H' T' s i p c'):
  WC X H' T' s A.cs (M.cells.set i (some c')):=by
 have hl:i<A.cs.length:=(cI hp).1;refine⟨by rw[List.length_set];exact j.lc,λk g c b a=>?_⟩
 by_cases hk:k=i
 ·subst hk;rw[List.getElem?_set_self (by rw[<- j.lc];exact hl)]at a;rw[hp]at b;cases b;cases a;exact e
 ·rw[List.getElem?_set_ne (λz=>hk z.symm)]at a;exact(j.ce k g c b a).mv f (n _ δ δ δ) (n _ δ δ δ)
theorem WJ.field(j:WJ X H T s A M)(w:WT H T)(a:s≠0){i k:Nat}{p:AI×AI}{c:Ce}{x:AA}(hp:A.cs[i]? =some (some p))(e:CeO X.C H T s i p c):
  gD s H (upd H p.2 (.lst ((c.fl.map oV).set k (oV x)))) T T/\WJ X (upd H p.2 (.lst ((c.fl.map oV).set k (oV x)))) T s A { M with cells:=M.cells.set i (some { c with fl:=c.fl.set k x }) }:=by
 refine⟨gD.upd w e.o2 (by rw[e.t2]),?_⟩;have f:uh s (·=101+2 * i) H (upd H p.2 (.lst ((c.fl.map oV).set k (oV x)))) T T:=uh.yJ e.t2;have d:upd H p.2 (.lst ((c.fl.map oV).set k (oV x))) p.2=some (.lst ((c.fl.set k x).map oV)):=by rw[aq,List.map_set]
 obtain⟨b,o1⟩:=e.o1;exact⟨j.jb.mv f (lQ a e.t2) δ δ,j.jh.mv f δ δ,j.jn.mv f (lQ a e.t2) δ,j.js.mv f δ δ,j.jd.mv f λ_ _ _=>δ,
  j.jc.chg f hp (λk _ _ n2 z=>n2 z) ⟨e.t1,e.t2,⟨b,f.at e.t1 δ o1⟩,d⟩⟩
theorem WJ.cell(j:WJ X H T s A M)(w:WT H T)(a:s≠0){i:Nat}{p:AI×AI}{c:Ce}{dx:AI}{tone load:Int}(hp:A.cs[i]? =some (some p))(e:CeO X.C H T s i p c):
  gD s H (upd H p.1 (.ins X.C dx (j7 c.birth c.bulk tone load p.2))) T T/\WJ X (upd H p.1 (.ins X.C dx (j7 c.birth c.bulk tone load p.2))) T s A { M with cells:=M.cells.set i (some { c with tone:=tone,load:=load }) }:=by
 obtain⟨b,o1⟩:=e.o1;refine⟨gD.upd w o1 (by rw[e.t1]),?_⟩;have f:uh s (·=100+2 * i) H (upd H p.1 (.ins X.C dx (j7 c.birth c.bulk tone load p.2))) T T:=uh.yJ e.t1;exact⟨j.jb.mv f (lQ a e.t1) δ δ,j.jh.mv f δ δ,j.jn.mv f (lQ a e.t1) δ,j.js.mv f δ δ,j.jd.mv f λ_ _ _=>δ,
  j.jc.chg f hp (λk _ n1 _ z=>n1 z) ⟨e.t1,e.t2,⟨dx,aq⟩,f.at e.t2 δ e.o2⟩⟩
theorem WJ.sweep(j:WJ X H T s A M)(w:WT H T)(a:s≠0){dx:AI}(S:Sw)(b:S.grey=M.sw.grey):
  gD s H (upd H A.sw (.ins X.S dx bF)) T T/\
  WJ X (upd H A.sw (.ins X.S dx bF)) T s A { M with sw:=S }:=by
 obtain⟨ts,tg,⟨c,os⟩,og⟩:=j.js;refine⟨gD.upd w os (by rw[ts]),?_⟩;have f:uh s (·=7) H (upd H A.sw (.ins X.S dx bF)) T T:=uh.yJ ts;exact⟨j.jb.mv f (lQ a ts) δ δ,j.jh.mv f δ δ,j.jn.mv f (lQ a ts) δ,⟨ts,tg,⟨dx,aq⟩,by rw[b];exact f.at tg δ og⟩,j.jd.mv f λ_ _ _=>δ,j.jc.mv f λ_ _=>δ⟩
theorem WJ.Zs3(j:WJ X H T s A M)(w:WT H T)(a:s≠0){g:AE}:gD s H (upd H A.gr (.lst (g.map V.int))) T T/\WJ X (upd H A.gr (.lst (g.map V.int))) T s A { M with sw:={ M.sw with grey:=g } }:=by
 obtain⟨ts,tg,⟨b,os⟩,og⟩:=j.js;refine⟨gD.upd w og (by rw[tg]),?_⟩;have f:uh s (·=8) H (upd H A.gr (.lst (g.map V.int))) T T:=uh.yJ tg;exact⟨j.jb.mv f (lQ a tg) δ δ,j.jh.mv f δ δ,j.jn.mv f (lQ a tg) δ,⟨ts,tg,⟨b,f.at ts δ os⟩,aq⟩,j.jd.mv f λ_ _ _=>δ,j.jc.mv f λ_ _=>δ⟩
theorem WJ.back(j:WJ X H T s A M)(w:WT H T)(u:s≠0){i:Nat}{dx:AI}{used':Int}(v:i<A.cs.length)(H':Hp)(kp:∀b o,H b=some o->b≠A.hp->b≠A.ca->H' b=some o)(r:H' A.hp=some (.ins X.H dx (jo M.room A.ca used' M.born)))(y:H' A.ca=some (.lst ((A.cs.map pV).set i V.non))):
  gD s H H' T T/\WJ X H' T s { A with cs:=A.cs.set i none } { M with used:=used',cells:=M.cells.set i none }:=by
 obtain⟨th,tc,⟨K,oh⟩,oc⟩:=j.jh;have al:∀b o,H b=some o->∃x,H' b=some x:=λb o h=>by
  by_cases z1:b=A.hp
  ·exact⟨_,by rw[z1];exact r⟩
  ·by_cases D:b=A.ca
   ·exact⟨_,by rw[D];exact y⟩
   ·exact⟨o,kp b o h z1 D⟩
 have f:uh s (λk=>k=1\/k=2) H H' T T:=⟨λb o h e n=>kp b o h (λz=>n (.inl (by rw[z,th]))) (λz=>n (.inr (by rw[z,tc]))),λ_ _ _=>rfl⟩;have B:∀b o,H b=some o->T b=(0,0)->H' b=some o:=λb o h t=>kp b o h (RC t th (λz=>u (congrArg Prod.fst z).symm)) (RC t tc (λz=>u (congrArg Prod.fst z).symm));refine⟨⟨λb o h n=>kp b o h (λz=>n (by rw[z,th])) (λz=>n (by rw[z,tc])),al,λ_ _ _=>rfl,λb h=>w b ?_⟩,?_⟩
 ·cases z:H b with
  | none=>rfl
  | some o=>obtain⟨x,C⟩:=al b o z;rw[h]at C;cases C
 ·refine⟨?_,⟨th,tc,⟨dx,r⟩,by rw[List.map_set];exact y⟩,?_,?_,j.jd.mv f λ_ _ _=>δ,⟨by rw[List.length_set,List.length_set];exact j.jc.lc,λk g c d a=>?_⟩⟩
  ·obtain⟨l,m,p,q,I,J,F,E⟩:=j.jb.mv f B δ δ;exact⟨l,m,p,q,I,J,F,E⟩
  ·obtain⟨l,m,p⟩:=j.jn.mv f B δ;exact⟨l,m,p⟩
  ·obtain⟨l,m,p,q⟩:=j.js.mv f δ δ;exact⟨l,m,p,q⟩
  ·by_cases hk:k=i
   ·subst hk;dsimp only at d a;rw[List.getElem?_set_self v]at d;rw[List.getElem?_set_self (by rw[<- j.jc.lc];exact v)]at a;cases d;cases a
    trivial
   ·dsimp only at d a;rw[List.getElem?_set_ne (λz=>hk z.symm)]at d a;exact(j.jc.ce k g c d a).mv f δ δ
end
def jj{a:Type}:List (Option a)->Nat
 | []=>0
 | none::_=>0
 | some _::l=>jj l+1
def lO{a:Type}(l:List (Option a))(x:a):List (Option a):=if jj l<l.length then l.set (jj l) (some x)else l++[some x]
theorem Zat{b:Type}(l:List (Option b)):jj l<=l.length:=by
 induction l with
 | nil=>exact Nat.le_refl _
 | cons a l c=>cases a with
  | none=>exact Nat.zero_le _
  | some a=>exact Nat.succ_le_succ c
theorem Zqz{b:Type}{l:List (Option b)}(h:jj l<l.length):l[jj l]? =some none:=by
 induction l with
 | nil=>exact absurd h (Nat.lt_irrefl _)
 | cons a l c=>cases a with
  | none=>rfl
  | some a=>exact c (Nat.lt_of_succ_lt_succ h)
theorem Zea{d:Type}{f:Option d->V}(c:∀x,f x=V.non↔x=none)(l:List (Option d)):(l.map f).idxOf V.non=jj l/\(V.non∈l.map f↔jj l<l.length):=by
 induction l with
 | nil=>exact⟨rfl,⟨λz=>(nomatch z),λz=>absurd z (Nat.lt_irrefl _)⟩⟩
 | cons a l g=>
  rw[List.map_cons,List.idxOf_cons];cases a with
  | none=>
   have e:f none=V.non:=(c none).mpr rfl;rw[e];exact⟨rfl,⟨λ_=>Nat.zero_lt_succ _,λ_=>List.mem_cons_self⟩⟩
  | some a=>
   have e:f (some a)≠V.non:=λz=>by cases (c (some a)).mp z
   have b:(f (some a) == V.non)=false:=beq_eq_false_iff_ne.mpr e;rw[b];refine⟨congrArg (· + 1) g.1,?_⟩;show _↔jj l+1<l.length+1;rw[List.mem_cons,g.2];constructor
   ·rintro(z | z)
    ·exact absurd z.symm e
    ·omega
   ·intro z;exact .inr δ
theorem Zmd{a:Type}{f:Option a->V}(c:∀x,f x=V.non↔x=none)(l:List (Option a))(x:a):putN (l.map f) (f (some x))=(lO l x).map f:=by
 obtain⟨d,b⟩:=Zea c l;unfold putN lO
 by_cases z:jj l<l.length
 ·rw[if_pos z,if_pos (b.mpr z),List.map_set];exact congrArg (λk=>(l.map f).set k (f (some x))) d
 ·rw[if_neg z,if_neg (λw=>z (b.mp w)),List.map_append];rfl
theorem Zmv(p:Option (AI×AI)):pV p=V.non↔p=none:=by cases p<;>simp[pV]
theorem O7{a:Type}(l:List (Option a))(x:a):(lO l x)[jj l]? =some (some x):=by
 unfold lO
 by_cases z:jj l<l.length
 ·rw[if_pos z,List.getElem?_set_self z]
 ·have e:jj l=l.length:=Nat.le_antisymm (Zat l) δ;rw[if_neg z,e,List.getElem?_append_right Δ,Nat.sub_self];rfl
theorem Zib{a:Type}{l:List (Option a)}{x:a}{i:Nat}{y:Option a}(b:i≠jj l)(h:(lO l x)[i]? =some y):l[i]? =some y:=by
 unfold lO at h
 by_cases z:jj l<l.length
 ·rw[if_pos z,List.getElem?_set_ne (λw=>b w.symm)]at h;exact h
 ·rw[if_neg z]at h;have e:jj l=l.length:=Nat.le_antisymm (Zat l) δ;have hl:=(cI h).1;rw[List.length_append,List.length_singleton]at hl;rw[List.getElem?_append_left δ]at h;exact h
theorem Zme{a b:Type}{l:List (Option a)}{m:List (Option b)}{x:a}{y:b}(hl:l.length=m.length)(c:jj l=jj m):(lO l x).length=(lO m y).length:=by
 unfold lO
 by_cases z:jj l<l.length
 ·rw[if_pos z,if_pos δ,List.length_set,List.length_set];exact hl
 ·rw[if_neg z,if_neg δ,List.length_append,List.length_append,hl];rfl
theorem Zpr{a:Type}(l:List (Option a))(x:a):(lO l x).length<=l.length+1:=by
 unfold lO
 by_cases z:jj l<l.length
 ·rw[if_pos z,List.length_set];omega
 ·rw[if_neg z,List.length_append];exact Nat.le_refl _
theorem Zqy{g d:Type}:∀(l:List (Option g)) (m:List (Option d)),l.length=m.length->(∀(i:Nat) x y,l[i]? =some x->m[i]? =some y->(x=none↔y=none))->jj l=jj m:=by
 intro l
 induction l with
 | nil=>
  intro m hl _;cases m with
  | nil=>rfl
  | cons b m=>simp at hl
 | cons a l f=>
  intro m hl h;cases m with
  | nil=>simp at hl
  | cons b m=>
   have c:=f m (by simpa using hl) λi x y h1 h2=>h cy x y (by simpa using h1) (by simpa using h2);have e:=h 0 a b rfl rfl;cases a with
   | none=>rw[e.mp rfl];rfl
   | some a=>cases b with
    | none=>exact absurd (e.mpr rfl) a4
    | some b=>exact congrArg (· + 1) c
section
variable {X:Cs}{H H':Hp}{T T':Tg}{s:Nat}{A:Wa}{M:Wm}
theorem WC.fst(j:WC X H T s A.cs M.cells):jj A.cs=jj M.cells:=Zqy _ _ j.lc λi p c b a=>by
 have e:=j.ce i p c b a;cases p with
 | none=>cases c with
  | none=>exact⟨λ_=>rfl,λ_=>rfl⟩
  | some c=>exact e.elim
 | some p=>cases c with
  | none=>exact e.elim
  | some c=>exact⟨λz=>(by cases z),λz=>(by cases z)⟩
theorem WJ.put(j:WJ X H T s A M)(w:WT H T)(D:s≠0){dx:AI}{used':Int}{p fa:AI}{c:Ce}(kp:∀b o,H b=some o->b≠A.hp->b≠A.ca->H' b=some o)(y:H' A.hp=some (.ins X.H dx (jo M.room A.ca used' (M.born+1))))(F:H' A.ca=some (.lst (putN df (.ref p))))
  (n1:H p=none) (n2:H fa=none) (N:p≠fa) (o1:∃dx,H' p=some (.ins X.C dx (j7 c.birth c.bulk c.tone c.load fa))) (o2:H' fa=some (.lst (c.fl.map oV))):
  ∃T',gD s H H' T T'/\WJ X H' T' s { A with cs:=lO A.cs (p,fa) } { M with used:=used',born:=M.born+1,cells:=lO M.cells c }:=by
 obtain⟨th,tc,⟨S,oh⟩,oc⟩:=j.jh;have v:=j.jc.fst
 let k:=jj A.cs
 let T':Tg:=eZ (eZ T p (s,100+2 * k)) fa (s,101+2 * k)
 have a:∀b o,H b=some o->T' b=T b:=λb o h=>by
  show eZ _ _ _ b=_;rw[eE (aF h n2),eE (aF h n1)]
 have t1:T' p=(s,100+2 * k):=by show eZ _ _ _ p=_;rw[eE N,fL]
 have t2:T' fa=(s,101+2 * k):=by show eZ _ _ _ fa=_;rw[fL]
 have al:∀b o,H b=some o->∃E,H' b=some E:=λb o h=>by
  by_cases z1:b=A.hp
  ·exact⟨_,by rw[z1];exact y⟩
  ·by_cases K:b=A.ca
   ·exact⟨_,by rw[K];exact F⟩
   ·exact⟨o,kp b o h z1 K⟩
 have f:uh s (λk=>k=1\/k=2) H H' T T':=⟨λb o h e n=>kp b o h (λz=>n (.inl (by rw[z,th]))) (λz=>n (.inr (by rw[z,tc]))),a⟩;have I:∀b o,H b=some o->T b=(0,0)->H' b=some o:=λb o h t=>kp b o h (RC t th (λz=>D (congrArg Prod.fst z).symm)) (RC t tc (λz=>D (congrArg Prod.fst z).symm));refine⟨T',⟨λb o h B=>kp b o h (λz=>B (by rw[z,th])) (λz=>B (by rw[z,tc])),al,a,λb h=>?_⟩,?_⟩
 ·have l:b≠p:=λe=>by obtain⟨d,z⟩:=o1;rw[e,z]at h;cases h
  have m:b≠fa:=λe=>by rw[e,o2]at h;cases h
  have hb:H b=none:=by
   cases z:H b with
   | none=>rfl
   | some o=>obtain⟨E,J⟩:=al b o z;rw[h]at J;cases J
  show eZ _ _ _ b=_;rw[eE m,eE l];exact w b hb
 ·refine⟨?_,⟨f.tag oh th,f.tag oc tc,⟨dx,y⟩,?_⟩,?_,?_,j.jd.mv f λ_ _ _=>δ,⟨Zme j.jc.lc v,λi g R u r=>?_⟩⟩
  ·obtain⟨l,m,q,x,P,Q,O,L⟩:=j.jb.mv f I δ δ;exact⟨l,m,q,x,P,Q,O,L⟩
  ·show H' A.ca=some (.lst ((lO A.cs (p,fa)).map pV));rw[<- Zmd Zmv];exact F
  ·obtain⟨l,m,q⟩:=j.jn.mv f I δ;exact⟨l,m,q⟩
  ·obtain⟨l,m,q,x⟩:=j.js.mv f δ δ;exact⟨l,m,q,x⟩
  ·dsimp only at u r
   by_cases hk:i=jj A.cs
   ·subst hk;rw[O7]at u;rw[v,O7]at r;cases u;cases r;exact⟨t1,t2,o1,o2⟩
   ·exact(j.jc.ce i g R (Zib hk u) (Zib (by rw[<- v];exact hk) r)).mv f δ δ
end
def cellAt(M:Wm)(x:Int):Option Ce:=if 0<=x then(M.cells[x.toNat]?).join else none
def nD(M:Wm):AA->AA
 | none=>none
 | some x=>(cellAt M x).map (·.birth)
def bw(M:Wm)(h k:Nat):AA:=((M.hands[h]?).bind λm=>m.2[k]?).join
def setSlot(M:Wm)(h k:Nat)(x:AA):Wm:={ M with hands:=M.hands.modify h λm=>(m.1,m.2.set k x) }
def setCell(M:Wm)(i:Int)(c:Ce):Wm:={ M with cells:=M.cells.set i.toNat (some c) }
def bO(M:Wm):AA->AA×Wm
 | none=>(none,M)
 | some i=>match cellAt M i with
  | none=>(none,M)
  | some c=>if M.sw.phase="walk"/\c.tone≠M.sw.sense then(some c.birth,{ setCell M i { c with tone:=M.sw.sense }with sw:={ M.sw with grey:=M.sw.grey++[i] } })else(none,M)
def dB(M:Wm)(h:Nat):Bool:=decide (M.sw.looked / 2 ^ h % 2=1)
def jq(M:Wm)(a birth:Int):Bool:=match cellAt M a with
 | none=>true
 | some c=>if c.birth=birth then decide (M.sw.phase="give"/\c.tone≠M.sw.sense)else true
def nH(l:List b8)(k:Str)(v:Int×Int):List b8:=if (l.any λm=>decide (m.1=k))=true then l.map (λm=>if m.1=k then(m.1,v)else m)else l++[(k,v)]
def qU(l:List b8)(k:Str):Option (Int×Int):=(l.find? λm=>decide (m.1=k)).map (·.2)
inductive Rf where
 | full | empty | oN | Ry
 deriving DecidableEq
structure Ev where
 word:Str
 thing:AA
 notes:AE
inductive lg where
 | make (h s:Nat) (many bulk:Int)
 | get (h s t f:Nat)
 | put (h t f s:Nat)
 | copy (h s t:Nat)
 | drop (h s:Nat)
 | give (h s g t:Nat)
 | write (h t:Nat) (load:Int)
 | read (h t:Nat)
 | name (h t:Nat) (word:Str)
 | seek (h s:Nat) (word:Str)
def old?(M:Wm):Bool:=decide (M.tells % 2=1)
def oZ(M:Wm):Bool:=decide (M.tells / 2 % 2=1)
def ofN:AA->AE
 | none=>[]
 | some b=>[b]
def aW(M:Wm):Au->AE×Wm
 | []=>([],M)
 | x::l=>(ofN (bO M x).1++(aW (bO M x).2 l).1,(aW (bO M x).2 l).2)
def qj(M:Wm):lg->Except Rf (Ev×Wm)
 | .make h s many bulk=>
  if M.used+(1+many+bulk)<=M.room then
   .ok (⟨"made",some (M.born+1),[]⟩,setSlot { M with used:=M.used+(1+many+bulk),born:=M.born+1,cells:=lO M.cells ⟨M.born+1,bulk,M.sw.sense,0,List.replicate many.toNat none⟩ } h s (some (jj M.cells)))
  else .error .full
 | .get h s t f=>match bw M h t with
  | none=>.error .empty
  | some x=>match cellAt M x with
   | none=>.error .empty
   | some c=>match c.fl[f]? with
    | none=>.error .oN
    | some v=>.ok (⟨"got",nD M v,[]⟩,setSlot M h s v)
 | .put h t f s=>match bw M h t with
  | none=>.error .empty
  | some x=>match cellAt M x with
   | none=>.error .empty
   | some c=>match c.fl[f]? with
    | none=>.error .oN
    | some v=>
     let M1:=setCell M x { c with fl:=c.fl.set f (bw M h s) }
     let r:=aW M1 ((if old? M=true then [v]else [])++if (oZ M && !dB M h)=true then [bw M h s]else [])
     .ok (⟨"put",nD M v,r.1⟩,r.2)
 | .copy h s t=>.ok (⟨"copied",nD M (bw M h t),[]⟩,setSlot M h s (bw M h t))
 | .drop h s=>.ok (⟨"dropped",nD M (bw M h s),[]⟩,setSlot M h s none)
 | .give h s g t=>
  let r:=aW (setSlot M g t (bw M h s)) (if (oZ M && !dB M h)=true then [bw M h s]else [])
  .ok (⟨"given",nD M (bw M h s),r.1⟩,r.2)
 | .write h t load=>match bw M h t with
  | none=>.error .empty
  | some x=>match cellAt M x with
   | none=>.error .empty
   | some c=>.ok (⟨"wrote",some c.load,[]⟩,setCell M x { c with load:=load })
 | .read h t=>match bw M h t with
  | none=>.error .empty
  | some x=>match cellAt M x with
   | none=>.error .empty
   | some c=>.ok (⟨"read",some c.load,[]⟩,M)
 | .name h t word=>match bw M h t with
  | none=>.error .empty
  | some x=>match cellAt M x with
   | none=>.error .empty
   | some c=>.ok (⟨"named",some c.birth,[]⟩,{ M with names:=nH M.names word (x,c.birth) })
 | .seek h s word=>match qU M.names word with
  | none=>.error .Ry
  | some (p,b)=>
   if jq M p b=true then .ok (⟨"sought",none,[]⟩,setSlot M h s none)
   else
    let r:=aW (setSlot M h s (some p)) [some p]
    .ok (⟨"sought",some b,r.1⟩,r.2)
def dV:lg->List V
 | .make h s many bulk=>[.str "make",.int h,.int s,.int many,.int bulk]
 | .get h s t f=>[.str "get",.int h,.int s,.int t,.int f]
 | .put h t f s=>[.str "put",.int h,.int t,.int f,.int s]
 | .copy h s t=>[.str "copy",.int h,.int s,.int t]
 | .drop h s=>[.str "drop",.int h,.int s]
 | .give h s g t=>[.str "give",.int h,.int s,.int g,.int t]
 | .write h t load=>[.str "write",.int h,.int t,.int load]
 | .read h t=>[.str "read",.int h,.int t]
 | .name h t word=>[.str "name",.int h,.int t,.str word]
 | .seek h s word=>[.str "seek",.int h,.int s,.str word]
def zW(M:Wm)(h s:Nat):Prop:=∃m,M.hands[h]? =some m/\s<m.2.length
def okD(M:Wm):lg->Prop
 | .make h s many bulk=>zW M h s/\0<=many/\many<=1000/\0<=bulk
 | .get h s t _=>zW M h s/\zW M h t
 | .put h t _ s=>zW M h t/\zW M h s
 | .copy h s t=>zW M h s/\zW M h t
 | .drop h s=>zW M h s
 | .give h s g t=>zW M h s/\zW M g t
 | .write h t _=>zW M h t
 | .read h t=>zW M h t
 | .name h t _=>zW M h t
 | .seek h s _=>zW M h s
structure Ok(M:Wm):Prop where
 sl:∀m∈M.hands,∀x,some x∈m.2->∃c,cellAt M x=some c
 fl:∀c,some c∈M.cells->∀x,some x∈c.fl->∃d,cellAt M x=some d
 tn:∀c,some c∈M.cells->c.tone=0\/c.tone=1
def O5(a b c d:AI):Rf->AI
 | .full=>a
 | .empty=>b
 | .oN=>c
 | .Ry=>d
def EvN(H0 H:Hp)(T:Tg)(s:Nat)(a:AI)(e:Ev):Prop:=∃l,(H0 l=none/\(T l).1≠s)/\H a=some (.tup [.str e.word,oV e.thing,.ref l])/\H l=some (.lst (e.notes.map V.int))
theorem Zf9{H:Hp}{T:Tg}{s:Nat}{l:AI}(w:WT H T)(a:s≠0)(n:H l=none):H l=none/\(T l).1≠s:=⟨n,by rw[w l n];exact λz=>a z.symm⟩
inductive vG(X:Cs)(rf:Rf->AI)(P:lg->Prop)(wo dd:AI)(H:Hp)(Q:VK)(E:XK):Prop
 | mk (T s A M d) (_:P d) (_:WT H T) (_:s≠0) (_:WJ X H T s A M) (_:A.wo=wo) (_:H dd=some (.tup (dV d))) (_:okD M d) (_:M.cells.length<=900) (_:(M.sw.phase="walk"->M.sw.grey.length<=10000)) (_:(0<=M.tells/\M.tells<4)) (_:M.names.length<=1000) (_:(∀r,qj M d=.error r->∀H',aX H H'->E (.ref (rf r)) none H')) (_:(∀e M',qj M d=.ok (e,M')->∀H' T' A' a,gD s H H' T T'->WJ X H' T' s A' M'->A'.wo=wo->EvN H H' T' s a e->Q (.ref a) H')):vG X rf P wo dd H Q E
def cN(X:Cs)(a:Rf->AI)(P:lg->Prop):Sp:=λvs H Q E=>∃wo dd,vs=[.ref wo,.ref dd]/\vG X a P wo dd H Q E
abbrev ZBa(X:Cs)(rf:Rf->AI):Sp:=cN X rf λ_=>True
theorem Zjw{b:Type}{l:List (Option b)}{x a:b}{i:Nat}(h:l[i]? =some (some a)):(lO l x)[i]? =some (some a):=by
 have hl:=(cI h).1;unfold lO
 by_cases z:jj l<l.length
 ·have c:i≠jj l:=λe=>by rw[e,Zqz z]at h;cases h
  rw[if_pos z,List.getElem?_set_ne (λw=>c w.symm)];exact h
 ·rw[if_neg z,List.getElem?_append_left hl];exact h
theorem cC{M:Wm}{x:Int}{c:Ce}:cellAt M x=some c↔0<=x/\M.cells[x.toNat]? =some (some c):=by
 unfold cellAt
 by_cases z:0<=x
 ·rw[if_pos z];cases e:M.cells[x.toNat]? with
  | none=>simp
  | some y=>cases y with
   | none=>simp
   | some d=>simp[z]
 ·rw[if_neg z];simp[z]
theorem oA{M:Wm}{x:Int}{c:Ce}(h:cellAt M x=some c):some c∈M.cells:=List.mem_of_getElem? (cC.mp h).2
theorem Zhb{M:Wm}{x u b:Int}{c d:Ce}(h:cellAt M x=some d):cellAt { M with used:=u,born:=b,cells:=lO M.cells c } x=some d:=by
 obtain⟨a,h1⟩:=cC.mp h;exact cC.mpr ⟨a,Zjw h1⟩
theorem Zhc{M:Wm}{u b:Int}{c:Ce}:cellAt { M with used:=u,born:=b,cells:=lO M.cells c } (jj M.cells)=some c:=
 cC.mpr ⟨δ,by rw[Int.toNat_natCast];exact O7 _ _⟩
theorem Zne{a:Type}{l:List (Option a)}{x:a}{y:Option a}(h:y∈lO l x):y∈l\/y=some x:=by
 unfold lO at h
 by_cases z:jj l<l.length
 ·rw[if_pos z]at h;rcases List.mem_or_eq_of_mem_set h with h | h
  ·exact .inl h
  ·exact .inr h
 ·rw[if_neg z]at h;rcases List.mem_append.mp h with h | h
  ·exact .inl h
  ·exact .inr (List.mem_singleton.mp h)
theorem Zjt{M:Wm}{h k:Nat}{m:Str×Au}{x:AA}(hm:M.hands[h]? =some m)(hk:m.2[k]? =some x):bw M h k=x:=by
 unfold bw;rw[hm];show(m.2[k]?).join=x;rw[hk];rfl
theorem Zd0{M:Wm}{h k:Nat}(o:zW M h k):∃m,M.hands[h]? =some m/\m.2[k]? =some (bw M h k)/\k<m.2.length:=by
 obtain⟨m,hm,hk⟩:=o;refine⟨m,hm,?_,hk⟩;rw[Zjt hm (bG hk)];exact bG hk
theorem U6{M:Wm}{h k:Nat}{x:AA}{m:Str×Au}(hm:M.hands[h]? =some m):(setSlot M h k x).hands=M.hands.set h (m.1,m.2.set k x):=by
 show M.hands.modify h _=_;refine List.ext_getElem? ?_;intro i;rw[List.getElem?_modify]
 by_cases e:h=i
 ·subst e;rw[List.getElem?_set_self (cI hm).1,hm];simp
 ·rw[List.getElem?_set_ne e];simp[e]
theorem mD{M:Wm}{h k:Nat}{x:AA}{y:AA}:nD (setSlot M h k x) y=nD M y:=by cases y<;>rfl
def rowsOf(M:Wm):List Au:=M.hands.map λm=>m.2.map (nD M)
theorem Zg2{M:Wm}(h:M.sw.phase≠"walk")(x:AA):bO M x=(none,M):=by
 cases x with
 | none=>rfl
 | some x=>
  unfold bO;dsimp only;cases cellAt M x with
  | none=>rfl
  | some c=>
   dsimp only;rw[if_neg (λz=>h z.1)]
theorem Zei{M:Wm}{h s:Nat}{many bulk:Int}(a:M.used+(1+many+bulk)<=M.room):qj M (.make h s many bulk)=.ok (⟨"made",some (M.born+1),[]⟩,setSlot { M with used:=M.used+(1+many+bulk),born:=M.born+1,cells:=lO M.cells ⟨M.born+1,bulk,M.sw.sense,0,List.replicate many.toNat none⟩ } h s (some (jj M.cells))):=by
 show(if _ then _ else _)=_;rw[if_pos a]
structure lq(K:aB)(X:Cs):Prop where
 c:TxC K X.C X.H
 cW:Py K X.W
 Gy:cX K X.W "heap"
 nWk:cX K X.W "kind"
 nWd:cX K X.W "hands"
 nWn:cX K X.W "names"
 Io:cX K X.W "sweeper"
 cD:Py K X.D
 nDn:cX K X.D "name"
 nDs:cX K X.D "slots"
 cK:Py K X.K
 nKl:cX K X.K "looking"
 nKt:cX K X.K "tells"
 cS:Py K X.S
 n1:cX K X.S "sense"
 n2:cX K X.S "phase"
 n3:cX K X.S "grey"
 n4:cX K X.S "looked"
 n5:cX K X.S "turn"
 n6:cX K X.S "at"
 n7:cX K X.S "stop"
 n8:cX K X.S "walks"
 n9:cX K X.S "looks"
 n10:cX K X.S "passes"
 n11:cX K X.S "loss"
structure WJ0(X:Cs)(H:Hp)(T:Tg)(s:Nat)(A:Wa)(M:Wm):Prop where
 jb:WB X H T s A M.w M.tells
 jh:WH X H T s A M.room M.used M.born
 js:WS X H T s A M.sw
 jd:WD X H T s A.hs M.hands
 jc:WC X H T s A.cs M.cells
theorem WJ.w0{X:Cs}{H:Hp}{T:Tg}{s:Nat}{A:Wa}{M:Wm}(j:WJ X H T s A M):WJ0 X H T s A M:=⟨j.jb,j.jh,j.js,j.jd,j.jc⟩
theorem WJ.names{X:Cs}{H:Hp}{T:Tg}{s:Nat}{A:Wa}{M:Wm}{o:HO}(j:WJ X H T s A M)(a:s≠0):WJ0 X (upd H A.nm o) T s A M:=by
 have f:uh s (·=6) H (upd H A.nm o) T T:=uh.yJ j.jn.tm;exact⟨j.jb.mv f (lQ a j.jn.tm) δ δ,j.jh.mv f δ δ,j.js.mv f δ δ,j.jd.mv f λ_ _ _=>δ,j.jc.mv f λ_ _=>δ⟩
theorem WJ0.same{X:Cs}{H H':Hp}{T:Tg}{s:Nat}{A:Wa}{M:Wm}(j:WJ0 X H T s A M)(e:aX H H'):WJ0 X H' T s A M:=by
 have f:uh s (λ_=>False) H H' T T:=uh.of_same e;exact⟨j.jb.mv f (λb o h _=>e b o h) id id,j.jh.mv f id id,j.js.mv f id id,j.jd.mv f λ_ _ _=>id,j.jc.mv f λ_ _=>id⟩
def atO(cs:List V):V->V
 | .int i=>if 0<=i then(cs[i.toNat]?).getD .non else .non
 | _=>.non
inductive J2(CH:AI)(hp:AI)(pl:V)(H:Hp)(Q:VK):Prop
 | mk (_:(pl=.non\/∃i,pl=.int i)) (ca room used born cs) (_:HpO CH H hp ca room used born cs) (_:Q (atO cs pl) H):J2 CH hp pl H Q
def jM(a:AI):Sp:=λvs H Q E=>∃hp pl,vs=[.ref hp,pl]/\J2 a hp pl H Q
def cO(M:Wm)(x:AA):Option Ce:=x.bind (cellAt M)
inductive Dz(X:Cs)(hp:AI)(pl:V)(H:Hp)(Q:VK):Prop
 | mk (x) (_:pl=oV x) (T s A M) (_:WJ X H T s A M) (_:A.hp=hp) (_:Q (oV (nD M x)) H):Dz X hp pl H Q
def iI(X:Cs):Sp:=λvs H Q E=>∃hp pl,vs=[.ref hp,pl]/\Dz X hp pl H Q
inductive zy(X:Cs)(p:AI)(f:Int)(H:Hp)(Q:VK):Prop
 | mk (T s i q c) (_:CeO X.C H T s i q c) (_:q.1=p) (_:Q (.bl (decide (0<=f) && decide (f<c.fl.length))) H):zy X p f H Q
def NZ(X:Cs):Sp:=λvs H Q E=>∃p f,vs=[.ref p,.int f]/\zy X p f H Q
inductive Dv(X:Cs)(wo:AI)(h:Int)(H:Hp)(Q:VK):Prop
 | mk (T s A M k p) (_:WJ X H T s A M) (_:A.wo=wo) (_:h=((k:Nat):Int)) (_:A.hs[k]? =some p) (_:Q (.ref p.2) H):Dv X wo h H Q
def iH(X:Cs):Sp:=λvs H Q E=>∃wo h,vs=[.ref wo,.int h]/\Dv X wo h H Q
inductive zx(X:Cs)(wo:AI)(p:AI)(H:Hp)(Q:VK):Prop
 | mk (T s A M i q c) (_:WJ0 X H T s A M) (_:A.wo=wo) (_:CeO X.C H T s i q c) (_:q.1=p) (_:Q (.bl (decide (c.tone=M.sw.sense))) H):zx X wo p H Q
def iB(X:Cs):Sp:=λvs H Q E=>∃wo p,vs=[.ref wo,.ref p]/\zx X wo p H Q
inductive zq(X:Cs)(wo:AI)(h:Int)(H:Hp)(Q:VK):Prop
 | mk (T s A M k) (_:WJ X H T s A M) (_:A.wo=wo) (_:h=((k:Nat):Int)) (_:Q (.bl (dB M k)) H):zq X wo h H Q
def NT(X:Cs):Sp:=λvs H Q E=>∃wo h,vs=[.ref wo,.int h]/\zq X wo h H Q
inductive Dt(X:Cs)(wo:AI)(v:V)(H:Hp)(Q:VK):Prop
 | mk (T s A M) (_:WJ X H T s A M) (_:A.wo=wo) (_:(0<=M.tells/\M.tells<4)) (_:∀l,H l=none->Q (.ref l) (upd H l (.lst (if old? M=true then [v]else [])))):Dt X wo v H Q
def Uj(X:Cs):Sp:=λvs H Q E=>∃wo v,vs=[.ref wo,v]/\Dt X wo v H Q
inductive Du(X:Cs)(wo:AI)(h:Int)(v:V)(H:Hp)(Q:VK):Prop
 | mk (T s A M k) (_:WJ X H T s A M) (_:A.wo=wo) (_:(0<=M.tells/\M.tells<4)) (_:h=((k:Nat):Int)) (_:∀l,H l=none->Q (.ref l) (upd H l (.lst (if (oZ M && !dB M k)=true then [v]else [])))):Du X wo h v H Q
def DK(X:Cs):Sp:=λvs H Q E=>∃wo h v,vs=[.ref wo,.int h,v]/\Du X wo h v H Q
inductive J1(X:Cs)(CE:AI)(wo:AI)(h:Int)(t:Int)(H:Hp)(Q:VK)(E:XK):Prop
 | mk (T s A M hn tn) (_:WJ X H T s A M) (_:A.wo=wo) (_:h=((hn:Nat):Int)) (_:t=((tn:Nat):Int)) (_:zW M hn tn) (_:(cO M (bw M hn tn)=none->E (.ref CE) none H)) (_:(∀i c p,bw M hn tn=some i->0<=i->cellAt M i=some c->A.cs[i.toNat]? =some (some p)->CeO X.C H T s i.toNat p c->Q (.ref p.1) H)):J1 X CE wo h t H Q E
def vD(X:Cs)(CE:AI):Sp:=λvs H Q E=>∃wo h t,vs=[.ref wo,.int h,.int t]/\J1 X CE wo h t H Q E
inductive zz(X:Cs)(CE:AI)(CF:AI)(wo:AI)(h:Int)(t:Int)(f:Int)(H:Hp)(Q:VK)(E:XK):Prop
 | mk (T s A M hn tn fn) (_:WJ X H T s A M) (_:A.wo=wo) (_:h=((hn:Nat):Int)) (_:t=((tn:Nat):Int)) (_:f=((fn:Nat):Int)) (_:zW M hn tn) (_:(cO M (bw M hn tn)=none->E (.ref CE) none H)) (_:(∀i c,bw M hn tn=some i->0<=i->cellAt M i=some c->c.fl[fn]? =none->E (.ref CF) none H)) (_:(∀i c p,bw M hn tn=some i->0<=i->cellAt M i=some c->A.cs[i.toNat]? =some (some p)->CeO X.C H T s i.toNat p c->fn<c.fl.length->Q (.ref p.2) H)):zz X CE CF wo h t f H Q E
def zH(X:Cs)(CE a:AI):Sp:=λvs H Q E=>∃wo h t f,vs=[.ref wo,.int h,.int t,.int f]/\zz X CE a wo h t f H Q E
inductive Zhl(X:Cs)(wo:AI)(pl:V)(H:Hp)(Q:VK):Prop
 | mk (x) (_:pl=oV x) (T s A M) (_:WT H T) (_:s≠0) (_:WJ X H T s A M) (_:A.wo=wo) (_:(M.sw.phase="walk"->M.sw.grey.length<=20000)) (_:∀H',gD s H H' T T->WJ X H' T s A (bO M x).2->Q (oV (bO M x).1) H'):Zhl X wo pl H Q
def Zp8(X:Cs):Sp:=λvs H Q E=>∃wo pl,vs=[.ref wo,pl]/\Zhl X wo pl H Q
def PlO(H:Hp)(T:Tg)(A:Wa)(M:Wm)(pl:AI)(xs:Au):Prop:=(H pl=some (.lst (xs.map oV))/\T pl=(0,0))\/(∃(k:Nat) (p:AI×AI) (m:Str×Au),A.hs[k]? =some p/\M.hands[k]? =some m/\pl=p.2/\xs=m.2)\/(∃(k:Nat) (p:AI×AI) (c:Ce),A.cs[k]? =some (some p)/\M.cells[k]? =some (some c)/\pl=p.2/\xs=c.fl)
theorem PlO.get{X:Cs}{H:Hp}{T:Tg}{s:Nat}{A:Wa}{M:Wm}{pl:AI}{xs:Au}(h:PlO H T A M pl xs)(j:WJ X H T s A M):H pl=some (.lst (xs.map oV)):=by
 rcases h with ⟨h,_⟩ | ⟨k,p,m,h1,h2,rfl,rfl⟩ | ⟨k,p,c,h1,h2,rfl,rfl⟩
 ·exact h
 ·exact(j.jd.hd k p m h1 h2).o2
 ·have e:=j.jc.ce k _ _ h1 h2;exact(show CeO X.C H T s k p c from e).o2
inductive Dw(X:Cs)(wo:AI)(pl:AI)(H:Hp)(Q:VK):Prop
 | mk (xs T s A M) (_:WT H T) (_:s≠0) (_:WJ X H T s A M) (_:A.wo=wo) (_:PlO H T A M pl xs) (_:xs.length<=100) (_:(M.sw.phase="walk"->M.sw.grey.length<=10000)) (_:∀H' T' l,gD s H H' T T'->WJ X H' T' s A (aW M xs).2->H' l=some (.lst ((aW M xs).1.map V.int))->(H l=none/\(T' l).1≠s)->Q (.ref l) H'):Dw X wo pl H Q
def oE(X:Cs):Sp:=λvs H Q E=>∃wo pl,vs=[.ref wo,.ref pl]/\Dw X wo pl H Q
inductive Zhn(X:Cs)(wo:AI)(p:Int)(b:Int)(H:Hp)(Q:VK):Prop
 | mk (T s A M) (_:WJ0 X H T s A M) (_:A.wo=wo) (_:Q (.bl (jq M p b)) H):Zhn X wo p b H Q
def Zbv(X:Cs):Sp:=λvs H Q E=>∃wo p b,vs=[.ref wo,.int p,.int b]/\Zhn X wo p b H Q
inductive ug(X:Cs)(CN:AI)(wo:AI)(z:Str)(H:Hp)(Q:VK)(E:XK):Prop
 | mk (T s A M) (_:WJ X H T s A M) (_:A.wo=wo) (_:(qU M.names z=none->E (.ref CN) none H)) (_:(∀p b,qU M.names z=some (p,b)->Q (if jq M p b=true then .non else .int p) H)):ug X CN wo z H Q E
def CV(X:Cs)(a:AI):Sp:=λvs H Q E=>∃wo z,vs=[.ref wo,.str z]/\ug X a wo z H Q E
theorem uU(x:AA):oV x=.non\/∃i,oV x=.int i:=by cases x with
 | none=>exact .inl rfl
 | some i=>exact .inr ⟨i,rfl⟩
section
variable {X:Cs}{H H':Hp}{T T':Tg}{s:Nat}{A:Wa}{M:Wm}
theorem WJ0.hpO(j:WJ0 X H T s A M):HpO X.H H A.hp A.ca M.room M.used M.born df:=⟨j.jh.oh,j.jh.oc⟩
theorem WJ0.look(j:WJ0 X H T s A M)(x:AA):(cO M x=none/\atO df (oV x)=.non)\/∃i c p,x=some i/\0<=i/\cellAt M i=some c/\M.cells[i.toNat]? =some (some c)/\A.cs[i.toNat]? =some (some p)/\atO df (oV x)=.ref p.1/\CeO X.C H T s i.toNat p c:=by
 cases x with
 | none=>exact .inl ⟨rfl,rfl⟩
 | some i=>
  show(cellAt M i=none/\atO _ (.int i)=_)\/_
  by_cases a:0<=i
  ·cases hc:M.cells[i.toNat]? with
   | none=>
    have hl:A.cs[i.toNat]? =none:=by
     rw[List.getElem?_eq_none_iff]at hc ⊢;rw[j.jc.lc];exact hc
    refine .inl ⟨by unfold cellAt;rw[if_pos a,hc];rfl,?_⟩;show(if 0<=i then _ else _)=_;rw[if_pos a,bL,hl];rfl
   | some y=>cases y with
    | none=>
     refine .inl ⟨by unfold cellAt;rw[if_pos a,hc];rfl,?_⟩;show(if 0<=i then _ else _)=_;rw[if_pos a,bL,j.jc.at0 hc];rfl
    | some c=>
     obtain⟨p,hp,e⟩:=j.jc.at hc;refine .inr ⟨i,c,p,rfl,a,by unfold cellAt;rw[if_pos a,hc];rfl,hc,hp,?_,e⟩;show(if 0<=i then _ else _)=_;rw[if_pos a,bL,hp];rfl
  ·refine .inl ⟨by unfold cellAt;rw[if_neg a],?_⟩;show(if 0<=i then _ else _)=_;rw[if_neg a]
theorem WJ.hpO(j:WJ X H T s A M):HpO X.H H A.hp A.ca M.room M.used M.born df:=j.w0.hpO
theorem WJ.look(j:WJ X H T s A M)(x:AA):(cO M x=none/\atO df (oV x)=.non)\/∃i c p,x=some i/\0<=i/\cellAt M i=some c/\M.cells[i.toNat]? =some (some c)/\A.cs[i.toNat]? =some (some p)/\atO df (oV x)=.ref p.1/\CeO X.C H T s i.toNat p c:=j.w0.look x
theorem WJ.hand(j:WJ X H T s A M){k:Nat}{p:AI×AI}(hp:A.hs[k]? =some p):∃m,M.hands[k]? =some m/\HdO X.D H T s k p m:=by
 have hl:k<M.hands.length:=by rw[<- j.jd.lh];exact(cI hp).1
 exact⟨_,bG hl,j.jd.hd k p _ hp (bG hl)⟩
theorem WJ.handOf(j:WJ X H T s A M){h t:Nat}(o:zW M h t):∃p m,A.hs[h]? =some p/\M.hands[h]? =some m/\m.2[t]? =some (bw M h t)/\t<m.2.length/\HdO X.D H T s h p m:=by
 obtain⟨m,hm,hk,hl⟩:=Zd0 o;have a:h<A.hs.length:=by rw[j.jd.lh];exact(cI hm).1
 exact⟨_,m,bG a,hm,hk,hl,j.jd.hd h _ m (bG a) hm⟩
theorem WJ.fresh(j:WJ X H T s A M){l:AI}{o:HO}{v:Nat×Nat}(h:H l=none):WJ X (upd H l o) (eZ T l v) s A M:=
 j.mv (H':=upd H l o) (T':=eZ T l v) ⟨λb u e _ _=>by rw[aD (aF e h)];exact e,λb u e=>eE (aF e h)⟩ λb u e _=>by rw[aD (aF e h)];exact e
end
theorem Zxr{t:Int}(h:0<=t/\t<4):Builtin.bitAnd t 1=t % 2/\(Builtin.bitAnd t 2=0↔¬ t / 2 % 2=1):=by
 have:t=0\/t=1\/t=2\/t=3:=δ
 rcases this with rfl | rfl | rfl | rfl<;>decide
section
variable {K:aB}{X:Cs}{H:Hp}{Q:VK}{E:XK}{n:ν}{bk ct:ν}
theorem Zha{hp:AI}{pl:V}(T:lq K X)(q:J2 X.H hp pl H Q):QD K ξ [↑hp,some pl] H:=by
 obtain⟨a,ca,room,used,born,cs,⟨⟨b,h1⟩,h2⟩,q⟩:=q;unfold QD;rcases a with rfl | ⟨i,rfl⟩
 ·apply q
 ·apply mG bp bp
  ·ext;rw[show atO cs (.int i)=.non from if_neg δ]at q;exact q
  ·rw[show atO cs (.int i)=(cs[i.toNat]?).getD .non from if_pos δ]at q;apply aJ h1 T.c.cT T.c.bR bM ?_;apply eU (bN.of h2) ?_;apply mG (λy=>?_) (λy=>?_)
   ·ext;rw[List.getElem?_eq_none_iff.mpr δ]at q;exact q
   ·apply aJ h1 T.c.cT T.c.bR bM ?_;ext;have hl:i.toNat<cs.length:=δ
    refine fD (bN.of h2) (iW δ (bG hl)) ?_;rw[bG hl]at q;exact q
theorem Zep{hp:AI}{pl:V}(T:lq K X)(q:Dz X hp pl H Q):Lb K (jM X.H) ξ [↑hp,some pl,none] H:=by
 obtain⟨x,rfl,Tg,s,A,M,j,rfl,q⟩:=q;unfold Lb;exists _,_,rfl,uU x,_,_,_,_,_,j.hpO;rcases j.look x with ⟨b,a⟩ | ⟨i,c,p,rfl,e,d,_,_,a,⟨t1,t2,⟨f,o1⟩,o2⟩⟩
 ·rw[a];have:nD M x=none:=by
   cases x with
   | none=>rfl
   | some i=>show(cellAt M i).map _=none;rw[show cellAt M i=none from b];rfl
  rw[this]at q;apply q
 ·rw[a];have:nD M (some i)=some c.birth:=by show(cellAt M i).map _=_;rw[d];rfl
  rw[this]at q;apply aJ o1 T.c.dD T.c.eF fG ?_;exact q
theorem Il{p:AI}{f:Int}(T:lq K X)(q:zy X p f H Q):rO K ξ [↑p,some (.int f)] H:=by
 obtain⟨Tg,s,i,r,c,⟨t1,t2,⟨a,o1⟩,o2⟩,rfl,q⟩:=q;unfold rO;apply mG bp bp
 ·rw[decide_eq_true z,Bool.true_and]at q;apply aJ o1 T.c.dD T.c.fW ig ?_;apply eU (bN.of o2) ?_;ext;rw[aR];exact q
 ·rw[decide_eq_false z,Bool.false_and]at q;apply q
theorem Zc9{wo:AI}{h:Int}(T:lq K X)(q:Dv X wo h H Q):K8 K ξ [↑wo,some (.int h)] H:=by
 obtain⟨Tg,s,A,M,k,p,j,rfl,rfl,hp,q⟩:=q;obtain⟨d1,ow⟩:=j.jb.ow;obtain⟨m,hm,⟨t1,t2,⟨a,o1⟩,o2⟩⟩:=j.hand hp;unfold K8;apply aJ ow T.cW T.nWd dH ?_;apply fD (bN.of j.jb.on) (gq (v:=.ref p.1) (by rw[bL,hp];rfl)) ?_;refine aJ o1 T.cD T.nDs m7 ?_;exact q
theorem Zas{wo p:AI}(T:lq K X)(q:zx X wo p H Q):Fl K ξ [↑wo,↑p] H:=by
 obtain⟨Tg,s,A,M,i,r,c,j,rfl,⟨t1,t2,⟨a,o1⟩,o2⟩,rfl,q⟩:=q;obtain⟨d1,ow⟩:=j.jb.ow;obtain⟨d2,os⟩:=j.js.os;unfold Fl;apply aJ o1 T.c.dD T.c.o7 V0 ?_;apply aJ ow T.cW T.Io aV ?_;apply aJ os T.cS T.n1 jF ?_;apply q
end
theorem Zp2{y:Int}:Builtin.bitAnd y 1=y % 2:=by
 unfold Builtin.bitAnd
 by_cases h:0<=y
 ·rw[decide_eq_true h,decide_eq_true (show(0:Int)<=1 by decide)];show((y.toNat &&& 1:Nat):Int)=_;rw[Nat.and_one_is_mod];omega
 ·rw[decide_eq_false h,decide_eq_true (show(0:Int)<=1 by decide)];show(1:Int) - ((1 &&& (Builtin.bitNot y).toNat:Nat):Int)=_;rw[Nat.and_comm,Nat.and_one_is_mod];unfold Builtin.bitNot;omega
section
variable {K:aB}{X:Cs}{H:Hp}{Q:VK}{E:XK}{n:ν}{bk ct:ν}{CE CF CN:AI}
theorem Z4{wo:AI}{h:Int}(T:lq K X)(q:zq X wo h H Q):Fj K ξ [↑wo,some (.int h)] H:=by
 obtain⟨Tg,s,A,M,k,j,rfl,rfl,q⟩:=q;obtain⟨d1,ow⟩:=j.jb.ow;obtain⟨d2,os⟩:=j.js.os;unfold Fj;apply aJ ow T.cW T.Io aV ?_;apply aJ os T.cS T.n4 eV ?_;ext;rw[Zp2,Int.toNat_natCast];exact q
theorem Pz{wo:AI}{v:V}(T:lq K X)(q:Dt X wo v H Q):
  yj K ξ [↑wo,some v] H:=by
 obtain⟨Tg,s,A,M,j,rfl,b,q⟩:=q;obtain⟨d1,ow⟩:=j.jb.ow;obtain⟨d2,ok⟩:=j.jb.ok;obtain⟨a,_⟩:=Zxr b;unfold yj;apply aJ ow T.cW T.nWk iY ?_;apply aJ ok T.cK T.nKt yU ?_;ext;rw[a];refine mG bp bp
 ·apply⟨aQ ζ,λl hl=>?_⟩;have:=q l hl;rw[if_neg (by unfold old?;rw[decide_eq_true_iff];omega)]at this;exact this
 ·apply⟨aQ ζ,λl hl=>?_⟩;have:=q l hl;rw[if_pos (by unfold old?;rw[decide_eq_true_iff];omega)]at this;exact this
theorem PB{wo:AI}{h:Int}{v:V}(T:lq K X)(q:Du X wo h v H Q):
  ym K (NT X) ξ [↑wo,some (.int h),some v] H:=by
 obtain⟨Tg,s,A,M,k,j,rfl,b,rfl,q⟩:=q;obtain⟨d1,ow⟩:=j.jb.ow;obtain⟨d2,ok⟩:=j.jb.ok;obtain⟨_,a⟩:=Zxr b;unfold ym;apply aJ ow T.cW T.nWk iY ?_;apply aJ ok T.cK T.nKt yU ?_;apply mG bp bp
 ·apply⟨aQ ζ,λl hl=>?_⟩;have:=q l hl;have e:oZ M=false:=by unfold oZ;exact decide_eq_false (a.mp z)
  rw[e,Bool.false_and,if_neg ε]at this;exact this
 ·have e:oZ M=true:=by unfold oZ;exact decide_eq_true (Decidable.not_not.mp λw=>z (a.mpr w))
  rw[e,Bool.true_and]at q;exists _,_,rfl,Tg,s,A,M,k,j,rfl,rfl;cases hl:dB M k with
  | true=>
   rw[hl]at q;apply⟨aQ ζ,λl hl=>?_⟩;exact q l hl
  | false=>
   rw[hl]at q;apply⟨aQ ζ,λl hl=>?_⟩;exact q l hl
theorem Zh9{wo:AI}{h t:Int}(T:lq K X)(q:J1 X CE wo h t H Q E):
  QC K CE (jM X.H) (iH X) E ξ [↑wo,some (.int h),some (.int t),none] H:=by
 obtain⟨Tg,s,A,M,hn,tn,j,rfl,rfl,rfl,ok,d,k⟩:=q;obtain⟨d1,ow⟩:=j.jb.ow;obtain⟨p,m,hp,hm,hs,hl,⟨t1,t2,o1,o2⟩⟩:=j.handOf ok;unfold QC;apply aJ ow T.cW T.Gy bz ?_;exists _,_,rfl,Tg,s,A,M,hn,p,j,rfl,rfl,hp;apply fD (bN.of o2) (gq (v:=oV (bw M hn tn)) (by rw[bL,hs];rfl)) ?_;exists _,_,rfl,uU _,_,_,_,_,_,j.hpO;rcases j.look (bw M hn tn)with ⟨g,b⟩ | ⟨i,c,f,o,e,l,_,a,b,ce⟩
 ·rw[b];apply⟨ε,d g⟩
 ·rw[b];apply k i c f o e l a ce
theorem Zav{wo:AI}{h t f:Int}(T:lq K X)(q:zz X CE CF wo h t f H Q E):
  Fp K X.C CF (NZ X) (vD X CE) E ξ [↑wo,some (.int h),some (.int t),some (.int f),none] H:=by
 obtain⟨Tg,s,A,M,hn,tn,fn,j,rfl,rfl,rfl,rfl,ok,e,k,g⟩:=q;unfold Fp;apply⟨_,_,_,rfl,Tg,s,A,M,hn,tn,j,rfl,rfl,rfl,ok,e,λi c p d a b hp ce=>?_⟩;obtain⟨t1,t2,⟨l,o1⟩,o2⟩:=id ce;exists p.1,l,_,rfl,o1,Dp;exists _,_,rfl,Tg,s,_,p,c,ce,rfl
 by_cases z:fn<c.fl.length
 ·rw[show(decide ((0:Int)<=(fn:Int)) && decide ((fn:Int)<c.fl.length))=true from by simp;omega];apply aJ o1 T.c.dD T.c.fW ig ?_;exact g i c p d a b hp ce z
 ·rw[show(decide ((0:Int)<=(fn:Int)) && decide ((fn:Int)<c.fl.length))=false from by simp;omega];apply⟨ε,k i c d a b (List.getElem?_eq_none_iff.mpr δ)⟩
theorem Zqw{wo:AI}{pl b:Int}(T:lq K X)(q:Zhn X wo pl b H Q):Zi7 K (jM X.H) (iB X) ξ [↑wo,some (.int pl),some (.int b),none] H:=by
 obtain⟨Tg,s,A,M,j,rfl,q⟩:=q;obtain⟨d1,ow⟩:=j.jb.ow;obtain⟨d2,os⟩:=j.js.os;unfold Zi7;apply aJ ow T.cW T.Gy bz ?_;exists _,_,rfl,uU (some pl),_,_,_,_,_,j.hpO;unfold jq at q;rcases j.look (some pl)with ⟨e,a⟩ | ⟨i,c,p,d,g,f,_,hp,a,ce⟩
 ·rw[show atO df (.int pl)=.non from a];rw[show cellAt M pl=none from e]at q;apply q
 ·cases d;rw[show atO df (.int pl)=.ref p.1 from a];rw[f]at q;dsimp only at q;obtain⟨t1,t2,⟨h,o1⟩,o2⟩:=id ce;apply aJ o1 T.c.dD T.c.eF fG ?_;apply qT bp bp
  ·rw[if_neg z]at q;apply q
  ·rw[if_pos z]at q;apply aJ ow T.cW T.Io aV ?_;apply aJ os T.cS T.n2 cY ?_;apply mG (λy=>?_) (λy=>?_)
   ·exists _,_,rfl,Tg,s,A,M,_,p,c,j,rfl,ce,rfl;ext;have:decide (M.sw.phase="give"/\c.tone≠M.sw.sense)=!decide (c.tone=M.sw.sense):=by simp[y]
    rw[this]at q;exact q
   ·have:decide (M.sw.phase="give"/\c.tone≠M.sw.sense)=false:=decide_eq_false λw=>y w.1;rw[this]at q;exact q
theorem Zq8{wo:AI}{pl:V}(T:lq K X)(q:Zhl X wo pl H Q):Zi6 K (jM X.H) (iB X) ξ [↑wo,some pl,none,none] H:=by
 obtain⟨x,rfl,Tg,s,A,M,w,t,j,rfl,L,q⟩:=q;obtain⟨d1,ow⟩:=j.jb.ow;obtain⟨d2,os⟩:=j.js.os;unfold Zi6;apply aJ ow T.cW T.Io aV ?_;apply aJ ow T.cW T.Gy bz ?_;exists _,_,rfl,uU x,_,_,_,_,_,j.hpO;apply aJ os T.cS T.n2 cY ?_;ext;have stay:bO M x=(none,M)->Q .non H:=λe=>by
  have:=q H (gD.refl w);rw[e]at this;exact this j
 refine qT bp bp
 ·apply stay (Zg2 z x)
 ·rcases j.look x with ⟨D,l⟩ | ⟨i,c,p,rfl,O,v,hc,hp,l,ce⟩
  ·rw[l];apply stay ?_;cases x with
   | none=>rfl
   | some i=>unfold bO;dsimp only;rw[show cellAt M i=none from D]
  ·rw[l];obtain⟨t1,t2,⟨dx,o1⟩,o2⟩:=id ce;exists _,_,rfl,Tg,s,A,M,_,p,c,j.w0,rfl,ce,rfl
   by_cases y:c.tone=M.sw.sense
   ·rw[decide_eq_true y];apply stay ?_;unfold bO;dsimp only;rw[v];dsimp only;rw[if_neg λw=>w.2 y]
   ·rw[decide_eq_false y];have F:bO M (some i)=(some c.birth,{ setCell M i { c with tone:=M.sw.sense }with sw:={ M.sw with grey:=M.sw.grey++[i] } }):=by
     unfold bO;dsimp only;rw[v];dsimp only;rw[if_pos ⟨z,y⟩]
    rw[F]at q;apply aJ os T.cS T.n1 jF ?_;apply⟨p.1,X.C,dx,_,rfl,o1,T.c.dD,T.c.o7,by show 5<1000;decide,?_⟩;rw[Tt];obtain⟨a,b⟩:=j.cell w t (dx:=dx) (tone:=M.sw.sense) (load:=c.load) hp ce;generalize upd H p.1 (.ins X.C dx (j7 c.birth c.bulk M.sw.sense c.load p.2))=u at a b ⊢;obtain⟨d3,r⟩:=b.js.os;obtain⟨R,f,E⟩:=b.jc.at (i:=i.toNat) (c:={ c with tone:=M.sw.sense,load:=c.load }) (by rw[List.getElem?_set_self (cI hc).1]);rw[hp]at f;cases f;apply aJ r T.cS T.n3 iZ ?_;ext;have m:=L z;refine⟨.inl ⟨rfl,_,bN.of b.js.og⟩,?_⟩;exists _,_,_,rfl,rfl,b.js.og,?_
    ·rw[aR];exact Nat.lt_of_le_of_lt m ε
    obtain⟨d,k⟩:=b.Zs3 a.wt t (g:=M.sw.grey++[i]);have B:(M.sw.grey.map V.int++[V.int i])=(M.sw.grey++[i]).map V.int:=by rw[List.map_append];rfl
    show bB _ _ _ (upd u A.gr (.lst (M.sw.grey.map V.int++[oV (some i)])));rw[show(M.sw.grey.map V.int++[oV (some i)])=(M.sw.grey++[i]).map V.int from B];generalize upd u A.gr (.lst ((M.sw.grey++[i]).map V.int))=I at d k ⊢;obtain⟨P,h,o⟩:=k.jc.at (i:=i.toNat) (c:={ c with tone:=M.sw.sense,load:=c.load }) (by show(M.cells.set _ _)[_]? =_;rw[List.getElem?_set_self (cI hc).1]);rw[hp]at h;cases h;obtain⟨_,_,⟨J,N⟩,_⟩:=o;apply aJ N T.c.dD T.c.eF fG ?_;exact q I (a.trans d) k
theorem Zg5{Tg:Tg}{z:Str}:∀{ns:AF}{names:List b8},Al (NmO H Tg) ns names->(qU names z=none/\jN (m5 names ns) (Sum.inr z)=none)\/∃p b t,qU names z=some (p,b)/\jN (m5 names ns) (Sum.inr z)=↑t/\H t=some (.tup [.int p,.int b])/\Tg t=(0,0):=by
 intro ns names h
 induction h with
 | nil=>exact .inl ⟨rfl,rfl⟩
 | @cons t m ns names h1 _ a=>
  by_cases e:m.1=z
  ·refine .inr ⟨m.2.1,m.2.2,t,?_,?_,h1.2,h1.1⟩
   ·unfold qU;rw[List.find?_cons_of_pos (by simpa using e)];rfl
   ·show(List.find? _ ((Sum.inr m.1,V.ref t)::m5 names ns)).map _=_;rw[List.find?_cons_of_pos (by simpa using e)];rfl
  ·have g:qU (m::names) z=qU names z:=by unfold qU;rw[List.find?_cons_of_neg (by simpa using e)]
   have v:jN (m5 (m::names) (t::ns)) (Sum.inr z)=jN (m5 names ns) (Sum.inr z):=by
    show(List.find? _ ((Sum.inr m.1,V.ref t)::m5 names ns)).map _=_;rw[List.find?_cons_of_neg (by simpa using e)];rfl
   rw[g,v];exact a
theorem QK{wo:AI}{z:Str}(T:lq K X)(q:ug X CN wo z H Q E):
  yo K CN (Zbv X) E ξ [↑wo,some (.str z),none,none] H:=by
 obtain⟨Tg,s,A,M,j,rfl,f,g⟩:=q;obtain⟨d1,ow⟩:=j.jb.ow;obtain⟨tm,om,nms⟩:=j.jn;unfold yo;apply aJ ow T.cW T.nWn dX ?_;refine⟨_,_,rfl,Zoy om,?_⟩;rcases Zg5 (z:=z) nms with ⟨c,a⟩ | ⟨p,b,t,c,a,d,_⟩
 ·rw[a];apply⟨ε,f c⟩
 ·rw[a,show(!(some (V.ref t)).isSome)=false from rfl];apply aJ ow T.cW T.nWn dX ?_;apply⟨_,_,rfl,by have:=Zoy (z:=z) om;rw[a]at this;exact this,?_⟩;exists t,_,0,_,rfl,rfl,dR.of d,rfl;apply aJ ow T.cW T.nWn dX ?_;apply⟨_,_,rfl,by have:=Zoy (z:=z) om;rw[a]at this;exact this,?_⟩;exists t,_,1,_,rfl,rfl,dR.of d,rfl;exists _,_,_,rfl,Tg,s,A,M,j.w0,rfl;have:=g p b c;cases e:jq M p b with
  | true=>
   rw[e]at this;apply this
  | false=>
   rw[e]at this;apply this
theorem gD.new{s:Nat}{H a:Hp}{T c:Tg}{l:AI}{o d:HO}(e:gD s H a T c)(hl:H l=none)(hx:a l=some d):gD s H (upd a l o) T c where
 kp:=λb u h z=>by rw[aD (aF h hl)];exact e.kp b u h z
 al:=λb u h=>by rw[aD (aF h hl)];exact e.al b u h
 tg:=e.tg
 wt:=λb h=>e.wt b (by
  by_cases z:b=l
  ·rw[z,aq]at h;cases h
  ·rw[aD z]at h;exact h)
theorem gD.fresh{s:Nat}{H:Hp}{T:Tg}{l:AI}{o:HO}{v:Nat×Nat}(w:WT H T)(hl:H l=none):gD s H (upd H l o) T (eZ T l v) where
 kp:=λb u h z=>by rw[aD (aF h hl)];exact h
 al:=λb u h=>⟨u,by rw[aD (aF h hl)];exact h⟩
 tg:=λb u h=>eE (aF h hl)
 wt:=λb h=>by
  by_cases z:b=l
  ·rw[z,aq]at h;cases h
  ·rw[aD z]at h;rw[eE z];exact w b h
theorem Zg3{M:Wm}{x:AA}:(bO M x).2.sw.phase=M.sw.phase/\(bO M x).2.sw.grey.length<=M.sw.grey.length+1/\(bO M x).2.tells=M.tells/\(bO M x).2.names=M.names:=by
 cases x with
 | none=>exact⟨rfl,Nat.le_succ _,rfl,rfl⟩
 | some i=>
  unfold bO;dsimp only;cases cellAt M i with
  | none=>exact⟨rfl,Nat.le_succ _,rfl,rfl⟩
  | some c=>
   dsimp only
   by_cases z:M.sw.phase="walk"/\c.tone≠M.sw.sense
   ·rw[if_pos z];exact⟨rfl,by show(M.sw.grey++[i]).length<=_;rw[List.length_append];exact Nat.le_refl _,rfl,rfl⟩
   ·rw[if_neg z];exact⟨rfl,Nat.le_succ _,rfl,rfl⟩
theorem Mj{M:Wm}{x:AA}:(bO M x).2.hands=M.hands:=by
 cases x with
 | none=>rfl
 | some i=>
  unfold bO;dsimp only;cases cellAt M i with
  | none=>rfl
  | some c=>
   dsimp only;split<;>rfl
theorem Zg4{M:Wm}{x:AA}{k:Nat}{c:Ce}(h:M.cells[k]? =some (some c)):∃c',(bO M x).2.cells[k]? =some (some c')/\c'.fl=c.fl/\c'.birth=c.birth/\c'.bulk=c.bulk/\c'.load=c.load:=by
 cases x with
 | none=>exact⟨c,h,rfl,rfl,rfl,rfl⟩
 | some i=>
  unfold bO;dsimp only;cases hc:cellAt M i with
  | none=>exact⟨c,h,rfl,rfl,rfl,rfl⟩
  | some d=>
   dsimp only;split
   ·show ∃c',(M.cells.set i.toNat _)[k]? =_/\_
    by_cases z:i.toNat=k
    ·subst z;obtain⟨_,hd⟩:=cC.mp hc;rw[h]at hd;cases hd;exact⟨_,List.getElem?_set_self (cI h).1,rfl,rfl,rfl,rfl⟩
    ·rw[List.getElem?_set_ne z];exact⟨c,h,rfl,rfl,rfl,rfl⟩
   ·exact⟨c,h,rfl,rfl,rfl,rfl⟩
theorem iC:∀{l:Au}{M:Wm}{x:AA},aW M (l++[x])=((aW M l).1++ofN (bO (aW M l).2 x).1,(bO (aW M l).2 x).2)
 | [],M,x=>by
  show(ofN (bO M x).1++[],(bO M x).2)=([]++ofN (bO M x).1,(bO M x).2);rw[List.append_nil,List.nil_append]
 | y::l,M,x=>by
  show(ofN (bO M y).1++(aW (bO M y).2 (l++[x])).1,(aW (bO M y).2 (l++[x])).2)=_;rw[iC];show _=((ofN (bO M y).1++(aW (bO M y).2 l).1)++_,_);rw[List.append_assoc];rfl
theorem sJ:∀{l:Au}{M:Wm},(aW M l).2.sw.phase=M.sw.phase/\(aW M l).2.sw.grey.length<=M.sw.grey.length+l.length
 | [],M=>⟨rfl,Nat.le_refl _⟩
 | y::l,M=>by
  obtain⟨a,b,_⟩:=Zg3 (M:=M) (x:=y);obtain⟨c,d⟩:=sJ (l:=l) (M:=(bO M y).2);refine⟨c.trans a,?_⟩;show(aW (bO M y).2 l).2.sw.grey.length<=_;rw[List.length_cons];omega
theorem vU:∀{l:Au}{M:Wm},(aW M l).1.length<=l.length
 | [],M=>Nat.le_refl _
 | y::l,M=>by
  have:=vU (l:=l) (M:=(bO M y).2);show(ofN (bO M y).1++(aW (bO M y).2 l).1).length<=_;rw[List.length_append,List.length_cons];have:(ofN (bO M y).1).length<=1:=by cases (bO M y).1<;>simp[ofN]
  omega
theorem Zd1{wo pl:AI}(T:lq K X)(q:Dw X wo pl H Q):K9 K (Zp8 X) ξ [↑wo,↑pl,none,none,none] H:=by
 obtain⟨d,Tg,s,A,M,w,Y,j,rfl,J,hx,hg,q⟩:=q;have D:=J.get j;unfold K9;apply⟨aQ ζ,λl hl=>?_⟩;have o:pl≠l:=aF D hl;have u:gD s H eD Tg (eZ Tg l (s+1,0)):=gD.fresh w hl;have S:WJ X eD (eZ Tg l (s+1,0)) s A M:=j.fresh hl;have g1:upd H l (.lst []) l=some (.lst []):=aq;have tl:eZ Tg l (s+1,0) l=(s+1,0):=fL;have t:PlO eD (eZ Tg l (s+1,0)) A M pl d:=by
  rcases J with ⟨h1,h2⟩ | h
  ·exact .inl ⟨(aD o).trans h1,(eE o).trans h2⟩
  ·exact .inr h
 have E:upd H l (.lst []) pl=some (.lst (d.map oV)):=(aD o).trans D;generalize upd H l (.lst [])=H1 at u S g1 E t ⊢;generalize eZ Tg l (s+1,0)=B at u S tl t;apply⟨pl,rfl,⟨_,bN.of E⟩,forL (d.map oV) (λi U r=>∃R P,U=[↑A.wo,↑pl,↑l,R,P]/\gD s H r Tg B/\WJ X r B s A (aW M (d.take i)).2/\r l=some (.lst ((aW M (d.take i)).1.map V.int))/\PlO r B A (aW M (d.take i)).2 pl d) ⟨_,_,rfl,u,S,g1,t⟩ (by rintro _ _ _ _ ⟨_,_,_,_,j,_,e⟩;exact bN.of (e.get j)) ?_ ?_⟩
 ·rintro i x U r hi ⟨R,P,rfl,f,L,N,I⟩;obtain⟨y,hy,rfl⟩:∃y,d[i]? =some y/\oV y=x:=by
   rw[bL]at hi;obtain⟨y,a,b⟩:=Option.map_eq_some_iff.mp hi;exact⟨y,a,b⟩
  have il:=(cI hy).1;have v:d.take cy=d.take i++[y]:=by
   rw[List.take_add_one,hy];rfl
  obtain⟨gp,gl⟩:=sJ (l:=d.take i) (M:=M);have nl:=vU (l:=d.take i) (M:=M);have tk:(d.take i).length<=100:=by rw[List.length_take];omega
  apply⟨_,_,rfl,y,rfl,B,s,A,_,f.wt,Y,L,rfl,λz=>?_,λO g Z=>?_⟩
  ·have:=hg (gp.symm.trans z);omega
  have F:O l=some (.lst ((aW M (d.take i)).1.map V.int)):=g.kp _ _ N (by rw[tl];show s+1≠s;omega);have oy:PlO O B A (bO (aW M (d.take i)).2 y).2 pl d:=by
   rcases I with ⟨h1,h2⟩ | ⟨k,p,m,h1,h2,W,h4⟩ | ⟨k,p,c,h1,h2,W,h4⟩
   ·exact .inl ⟨g.kp _ _ h1 (by rw[h2];exact λz=>Y z.symm),h2⟩
   ·exact .inr (.inl ⟨k,p,m,h1,by rw[Mj];exact h2,W,h4⟩)
   ·obtain⟨c',e1,e2,_⟩:=Zg4 (x:=y) h2;exact .inr (.inr ⟨k,p,c',h1,e1,W,by rw[e2];exact h4⟩)
  have C:=f.trans g;ext;cases hn:(bO (aW M (d.take i)).2 y).1 with
  | none=>
   dsimp only[oV];apply⟨_,_,rfl,C,?_,?_,by rw[v,iC];exact oy⟩
   ·rw[v,iC];exact Z
   ·rw[v,iC];show O l=some (.lst (((aW M (d.take i)).1++ofN (bO (aW M (d.take i)).2 y).1).map V.int));rw[hn];show O l=some (.lst (((aW M (d.take i)).1++[]).map V.int));rw[List.append_nil];exact F
  | some b=>
   dsimp only[oV];exists .inl ⟨rfl,_,bN.of F⟩;exists _,_,_,rfl,rfl,F,?_
   ·rw[aR];exact Nat.lt_of_le_of_lt (show _<=100 by omega) ε
   exists _,_,rfl,gD.new C hl F,?_,?_
   ·rw[v,iC];exact Z.other (s':=s+1) (gD.upd g.wt F (by rw[tl])) δ δ
   ·rw[v,iC,aq];show some (HO.lst _)=some (HO.lst (((aW M (d.take i)).1++ofN (bO (aW M (d.take i)).2 y).1).map V.int));rw[hn,List.map_append];rfl
   ·rw[v,iC];rcases oy with ⟨h1,h2⟩ | h
    ·exact .inl ⟨by rw[aD o];exact h1,h2⟩
    ·exact .inr h
 ·rintro U r ⟨R,P,rfl,f,L,N,I⟩;ext;rw[show(d.map oV).length=d.length from aR _,List.take_length]at L N;exact q r B l f L N ⟨hl,by rw[tl];show s+1≠s;omega⟩
end
theorem nP{M:Wm}{h k:Nat}{x:AA}{m:Str×Au}(hm:M.hands[h]? =some m):{ M with hands:=M.hands.set h (m.1,m.2.set k x) }=setSlot M h k x:=by
 have e:=U6 (k:=k) (x:=x) hm;show _={ M with hands:=_ };rw[show(M.hands.modify h λm=>(m.1,m.2.set k x))=M.hands.set h (m.1,m.2.set k x)from e]
def R9(d:lg):Prop:=∃h s many bulk,d=.make h s many bulk
def Ze5(d:lg):Prop:=∃h s t f,d=.get h s t f
def Ze2(d:lg):Prop:=∃h t f s,d=.put h t f s
def SJ(d:lg):Prop:=∃h s t,d=.copy h s t
def Sy(d:lg):Prop:=∃h s,d=.drop h s
def Sv(d:lg):Prop:=∃h s g t,d=.give h s g t
def G8(d:lg):Prop:=∃h t load,d=.write h t load
def R8(d:lg):Prop:=∃h t,d=.read h t
def isName(d:lg):Prop:=∃h t word,d=.name h t word
def R7(d:lg):Prop:=∃h s word,d=.seek h s word
section
variable {X:Cs}{H Hx:Hp}{T Tx:Tg}{s:Nat}{A Ax:Wa}{M M':Wm}{d:lg}{e:Ev}{wo:AI}{Q:VK}
theorem gD.free{s:Nat}{H Hx:Hp}{T Tx:Tg}{l:AI}(e:gD s H Hx T Tx)(h:Hx l=none):H l=none:=by
 cases z:H l with
 | none=>rfl
 | some o=>obtain⟨b,a⟩:=e.al l o z;rw[h]at a;cases a
theorem ev0(g:s≠0)(k:∀e M',qj M d=.ok (e,M')->∀H' T' c a,gD s H H' T T'->WJ X H' T' s c M'->c.wo=wo->EvN H H' T' s a e->Q (.ref a) H')(n:qj M d=.ok (e,M'))(hn:e.notes=[])(st:gD s H Hx T Tx)(j:WJ X Hx Tx s Ax M')(i:Ax.wo=wo){l a:AI}(hl:Hx l=none)(m:upd Hx l (.lst []) a=none):
  Q (.ref a) (upd (upd Hx l (.lst [])) a (.tup [.str e.word,oV e.thing,.ref l])):=by
 have h:=aH hl (.lst []);have f:=aH m (.tup [.str e.word,oV e.thing,.ref l]);have b:=h.trans f;refine k e M' n _ Tx Ax a (st.trans (gD.same st.wt b)) (j.same b) i ⟨l,⟨gD.free st hl,(Zf9 st.wt g hl).2⟩,aq,?_⟩;rw[hn];exact f _ _ aq
theorem ev1{l a:AI}(c:H l=none/\(Tx l).1≠s)(g:∀e M',qj M d=.ok (e,M')->∀H' T' f a,gD s H H' T T'->WJ X H' T' s f M'->f.wo=wo->EvN H H' T' s a e->Q (.ref a) H')(k:qj M d=.ok (e,M'))(st:gD s H Hx T Tx)(j:WJ X Hx Tx s Ax M')(h:Ax.wo=wo)(hl:Hx l=some (.lst (e.notes.map V.int)))(i:Hx a=none):
  Q (.ref a) (upd Hx a (.tup [.str e.word,oV e.thing,.ref l])):=by
 have b:=aH i (.tup [.str e.word,oV e.thing,.ref l]);exact g e M' k _ Tx Ax a (st.trans (gD.same st.wt b)) (j.same b) h ⟨l,c,aq,b _ _ hl⟩
end
theorem Kr{M:Wm}{i:Int}{c c':Ce}(h:cellAt M i=some c)(hb:c'.birth=c.birth)(x:AA):nD (setCell M i c') x=nD M x:=by
 cases x with
 | none=>rfl
 | some y=>
  obtain⟨a,h1⟩:=cC.mp h;show(cellAt (setCell M i c') y).map _=(cellAt M y).map _
  by_cases e:y=i
  ·subst e;rw[h,show cellAt (setCell M y c') y=some c' from cC.mpr ⟨a,by show(M.cells.set _ _)[_]? =_;rw[List.getElem?_set_self (cI h1).1]⟩];show some c'.birth=some c.birth;rw[hb]
  ·have:cellAt (setCell M i c') y=cellAt M y:=by
    unfold cellAt setCell
    by_cases z:0<=y
    ·rw[if_pos z,if_pos z];show((M.cells.set _ _)[_]?).join=_;rw[List.getElem?_set_ne δ]
    ·rw[if_neg z,if_neg z]
   rw[this]
theorem Zk4{M:Wm}{y:AA}(x:AA):nD (bO M y).2 x=nD M x:=by
 cases y with
 | none=>rfl
 | some i=>
  unfold bO;dsimp only;cases hc:cellAt M i with
  | none=>rfl
  | some c=>
   dsimp only
   by_cases z:M.sw.phase="walk"/\c.tone≠M.sw.sense
   ·rw[if_pos z];have e:=Kr (M:=M) (i:=i) (c:=c) (c':={ c with tone:=M.sw.sense }) hc rfl x;cases x with
    | none=>rfl
    | some y=>exact e
   ·rw[if_neg z]
theorem vV:∀{l:Au}{M:Wm} (x:AA),nD (aW M l).2 x=nD M x
 | [],_,_=>rfl
 | y::l,M,x=>(vV (l:=l) (M:=(bO M y).2) x).trans (Zk4 x)
theorem Znu{b:Bool}{x:AA}:(if b=true then [oV x]else [])=(if b=true then [x]else []).map oV:=by cases b<;>rfl
section
variable {K:aB}{X:Cs}{H:Hp}{Q:VK}{E:XK}{n:ν}{bk ct:ν}{rf:Rf->AI}
theorem Zh5{wo dd:AI}(T:lq K X)(q:vG X rf SJ wo dd H Q E):QB K (iI X) (iH X) ξ [↑wo,↑dd,none,none] H:=by
 obtain⟨Tg,s,A,M,_,⟨h,sl,t,rfl⟩,w,g,j,rfl,od,⟨o1,o2⟩,hc,z,B,hn,r,i⟩:=q;obtain⟨p,m,hp,hm,hs,hl,hd⟩:=j.handOf o2;obtain⟨u,c,_,f⟩:=Zd0 o1;rw[hm]at c;cases c;unfold QB;exists dd,_,1,_,rfl,rfl,dR.of od,rfl;exists _,_,rfl,Tg,s,A,M,h,p,j,rfl,rfl,hp;exists dd,_,3,_,rfl,rfl,dR.of od,rfl;refine fD (bN.of hd.o2) (gq (v:=oV (bw M h t)) (by rw[bL,hs];rfl)) ?_;exists dd,_,2,_,rfl,rfl,dR.of od,rfl;refine⟨p.2,_,_,sl,rfl,rfl,hd.o2,p7 (by rw[aR];exact f),?_⟩;obtain⟨e,b⟩:=j.slot w g (k:=sl) (x:=bw M h t) hp hm;rw[nP hm]at b;generalize upd H p.2 (.lst ((m.2.map oV).set sl (oV (bw M h t))))=y at e b ⊢;obtain⟨d1,ow⟩:=b.jb.ow;apply aJ ow T.cW T.Gy bz ?_;exists _,_,rfl,bw M h t,rfl,Tg,s,A,_,b,rfl;rw[mD];apply⟨aQ ζ,λl hl=>⟨aQ ζ,λa o=>?_⟩⟩;exact ev0 g i (d:=.copy h sl t) rfl rfl e b rfl hl o
theorem Zh4{wo dd:AI}(T:lq K X)(q:vG X rf Sy wo dd H Q E):Qz K (iI X) (iH X) ξ [↑wo,↑dd,none,none] H:=by
 obtain⟨Tg,s,A,M,_,⟨h,sl,rfl⟩,w,e,j,rfl,od,o1,hc,r,t,hn,i,f⟩:=q;obtain⟨p,m,hp,hm,hs,hl,hd⟩:=j.handOf o1;unfold Qz;exists dd,_,1,_,rfl,rfl,dR.of od,rfl;exists _,_,rfl,Tg,s,A,M,h,p,j,rfl,rfl,hp;exists dd,_,2,_,rfl,rfl,dR.of od,rfl;refine fD (bN.of hd.o2) (gq (v:=oV (bw M h sl)) (by rw[bL,hs];rfl)) ?_;exists dd,_,2,_,rfl,rfl,dR.of od,rfl;refine⟨p.2,_,_,sl,rfl,rfl,hd.o2,p7 (by rw[aR];exact hl),?_⟩;obtain⟨c,b⟩:=j.slot w e (k:=sl) (x:=none) hp hm;rw[nP hm]at b;show bB _ _ _ (upd H p.2 (.lst ((m.2.map oV).set sl (oV none))));generalize upd H p.2 (.lst ((m.2.map oV).set sl (oV none)))=o at c b ⊢;obtain⟨d1,ow⟩:=b.jb.ow;apply aJ ow T.cW T.Gy bz ?_;exists _,_,rfl,bw M h sl,rfl,Tg,s,A,_,b,rfl;rw[mD];apply⟨aQ ζ,λl hl=>⟨aQ ζ,λa g=>?_⟩⟩;exact ev0 e f (d:=.drop h sl) rfl rfl c b rfl hl g
theorem Zh3{wo dd:AI}(T:lq K X)(q:vG X rf Sv wo dd H Q E):Qy K (iI X) (oE X) (iH X) (DK X) ξ [↑wo,↑dd,none,none,none,none] H:=by
 obtain⟨Tg,s,A,M,_,⟨h,sl,g,t,rfl⟩,w,C,j,rfl,od,⟨o1,o2⟩,hc,S,U,hn,V,O⟩:=q;obtain⟨p,m,hp,hm,hs,hl,hd⟩:=j.handOf o1;obtain⟨r,F,c,i,J,z,u⟩:=j.handOf o2;unfold Qy;exists dd,_,1,_,rfl,rfl,dR.of od,rfl;exists dd,_,3,_,rfl,rfl,dR.of od,rfl;exists _,_,rfl,Tg,s,A,M,h,p,j,rfl,rfl,hp;exists dd,_,2,_,rfl,rfl,dR.of od,rfl;refine fD (bN.of hd.o2) (gq (v:=oV (bw M h sl)) (by rw[bL,hs];rfl)) ?_;exists _,_,rfl,Tg,s,A,M,g,r,j,rfl,rfl,c;exists dd,_,4,_,rfl,rfl,dR.of od,rfl;refine⟨r.2,_,_,t,rfl,rfl,u.o2,p7 (by rw[aR];exact z),?_⟩;obtain⟨b,o⟩:=j.slot w C (k:=t) (x:=bw M h sl) c i;rw[nP i]at o;generalize upd H r.2 (.lst ((F.2.map oV).set t (oV (bw M h sl))))=L at b o ⊢;apply⟨_,_,_,rfl,Tg,s,A,_,h,o,rfl,U,rfl,λI f=>?_⟩;rw[show(oZ (setSlot M g t (bw M h sl)) && !dB (setSlot M g t (bw M h sl)) h)=(oZ M && !dB M h)from rfl,Znu];generalize zz:upd L I _=H2;obtain⟨l,R⟩:=nwO f zz;apply⟨_,_,rfl,_,Tg,s,A,_,b.wt.same l,C,o.same l,rfl,.inl ⟨R,b.wt _ f⟩,by cases (oZ M && !dB M h)<;>simp,S,λW D Y B y N e=>?_⟩;obtain⟨d1,ow⟩:=y.jb.ow;apply aJ ow T.cW T.Gy bz ?_;exists _,_,rfl,bw M h sl,rfl,D,s,A,_,y,rfl;rw[vV,mD];apply⟨aQ ζ,λa P=>?_⟩;exact ev1 ⟨gD.free b (l.free e.1),e.2⟩ O (d:=.give h sl g t) rfl (b.trans ((gD.same b.wt l).trans B)) y rfl N P
theorem Zh2{wo dd W:AI}(T:lq K X)(hF:rf .full=W)(q:vG X rf R9 wo dd H Q E):Qx K X.H (N5 K X.C X.H W) (iI X) (iH X) E ξ [↑wo,↑dd,none,none,none,none] H:=by
 obtain⟨Tg,s,A,M,_,⟨h,sl,f,bulk,rfl⟩,w,I,j,rfl,od,⟨o1,m0,m1,b0⟩,hc,hg,ht,hn,hE,Z⟩:=q;obtain⟨p,m,hp,hm,hs,hl,hd⟩:=j.handOf o1;obtain⟨d1,ow⟩:=j.jb.ow;obtain⟨d2,os⟩:=j.js.os;obtain⟨th,tc,⟨d3,oh⟩,oc⟩:=j.jh;have hcs:A.cs.length<=900:=by rw[j.jc.lc];exact hc
 unfold Qx;exists dd,_,1,_,rfl,rfl,dR.of od,rfl;exists _,_,rfl,Tg,s,A,M,h,p,j,rfl,rfl,hp;exists dd,_,3,_,rfl,rfl,dR.of od,rfl;exists dd,_,4,_,rfl,rfl,dR.of od,rfl;apply aJ ow T.cW T.Gy bz ?_;refine⟨A.hp,d3,_,rfl,oh,VJ,?_⟩;apply aJ ow T.cW T.Io aV ?_;apply aJ os T.cS T.n1 jF ?_;apply⟨_,_,_,_,rfl,A.ca,d3,_,_,_,_,oh,oc,?_,by rw[aR];omega,m0,m1,λhf H' sm=>?_,λhf R fa J B O U Y a2 co=>?_⟩
 ·intro y hy;obtain⟨o,ho,rfl⟩:=List.mem_map.mp hy;cases o with
  | none=>exact .inl rfl
  | some g=>
   obtain⟨i,N,D⟩:=List.getElem_of_mem ho;have e:=j.jc.ce i _ _ (bG N) (bG (by rw[<- j.jc.lc];exact N));rw[D]at e;cases v:M.cells[i]'(by rw[<- j.jc.lc];exact N)with
   | none=>rw[v]at e;exact e.elim
   | some c=>
    rw[v]at e;obtain⟨_,_,⟨dx,o1⟩,_⟩:=(show CeO X.C H Tg s i g c from e);exact .inr ⟨g.1,X.C,dx,_,rfl,o1,T.c.dD,T.c.Pn⟩
 ·rw[<- hF];refine hE .full ?_ H' sm;show(if _ then _ else _)=_;rw[if_neg δ]
 ·obtain⟨⟨dp,c1⟩,c2⟩:=co;have P:R≠fa:=lV c1 c2 a4;obtain⟨T1,r,S⟩:=j.put w I (H':=J) (dx:=d3) (used':=M.used+(1+f+bulk)) (p:=R) (fa:=fa) (c:=⟨M.born+1,bulk,M.sw.sense,0,List.replicate f.toNat none⟩)
   (λb o hb n1 n2=>U b o hb (by simp[n1,n2])) Y a2 B O P ⟨dp,c1⟩ (by rw[c2,List.map_replicate];rfl)
  have D:((A.cs.map pV).idxOf V.non:Int)=(jj M.cells:Nat):=by rw[(Zea Zmv A.cs).1,j.jc.fst]
  ext;rw[D];refine⟨dd,_,2,_,rfl,rfl,dR.of (U _ _ od ?_),rfl,?_⟩
  ·intro z;rcases List.mem_cons.mp z with z | z
   ·rw[z,oh]at od;cases od
   ·rw[List.mem_singleton.mp z,oc]at od;cases od
  have L:=S.jd.hd h p m hp hm;refine⟨p.2,_,_,sl,rfl,rfl,L.o2,p7 (by rw[aR];exact hl),?_⟩;obtain⟨u,t⟩:=S.slot r.wt I (k:=sl) (x:=some (jj M.cells:Nat)) hp hm;rw[nP (M:={ M with used:=M.used+(1+f+bulk),born:=M.born+1,cells:=lO M.cells ⟨M.born+1,bulk,M.sw.sense,0,List.replicate f.toNat none⟩ }) hm]at t;show bB _ _ _ (upd J p.2 (.lst ((m.2.map oV).set sl (oV (some (jj M.cells:Nat))))));generalize upd J p.2 (.lst ((m.2.map oV).set sl (oV (some (jj M.cells:Nat)))))=H2 at u t ⊢;obtain⟨d5,F⟩:=t.jb.ow;apply aJ F T.cW T.Gy bz ?_;exists _,_,rfl,some (jj M.cells:Nat),rfl,T1,s,_,_,t,rfl;rw[mD];rw[show nD { M with used:=M.used+(1+f+bulk),born:=M.born+1,cells:=lO M.cells ⟨M.born+1,bulk,M.sw.sense,0,List.replicate f.toNat none⟩ } (some (jj M.cells:Nat))=some (M.born+1)from by
   show(cellAt _ _).map _=_;rw[Zhc];rfl]
  apply⟨aQ ζ,λl hl=>⟨aQ ζ,λa ha=>?_⟩⟩;exact ev0 I Z (d:=.make h sl f bulk) (Zei δ) rfl (r.trans u) t rfl hl ha
end
theorem Zl6{M:Wm}{h s t f:Nat}(e:cO M (bw M h t)=none):qj M (.get h s t f)=.error .empty:=by
 show(match bw M h t with | none=>_ | some x=>_)=_;cases hs:bw M h t with
 | none=>rfl
 | some x=>
  rw[hs]at e;show(match cellAt M x with | none=>_ | some c=>_)=_;rw[show cellAt M x=none from e]
theorem Zl4{M:Wm}{h s t f:Nat}(e:cO M (bw M h t)=none):qj M (.put h t f s)=.error .empty:=by
 show(match bw M h t with | none=>_ | some x=>_)=_;cases hs:bw M h t with
 | none=>rfl
 | some x=>
  rw[hs]at e;show(match cellAt M x with | none=>_ | some c=>_)=_;rw[show cellAt M x=none from e]
theorem Zej{M:Wm}{h t:Nat}{l:Int}(e:cO M (bw M h t)=none):qj M (.write h t l)=.error .empty:=by
 show(match bw M h t with | none=>_ | some x=>_)=_;cases hs:bw M h t with
 | none=>rfl
 | some x=>
  rw[hs]at e;show(match cellAt M x with | none=>_ | some c=>_)=_;rw[show cellAt M x=none from e]
theorem Zh7{M:Wm}{h t:Nat}(e:cO M (bw M h t)=none):qj M (.read h t)=.error .empty:=by
 show(match bw M h t with | none=>_ | some x=>_)=_;cases hs:bw M h t with
 | none=>rfl
 | some x=>
  rw[hs]at e;show(match cellAt M x with | none=>_ | some c=>_)=_;rw[show cellAt M x=none from e]
theorem Zh8{M:Wm}{h t:Nat}{z:Str}(e:cO M (bw M h t)=none):qj M (.name h t z)=.error .empty:=by
 show(match bw M h t with | none=>_ | some x=>_)=_;cases hs:bw M h t with
 | none=>rfl
 | some x=>
  rw[hs]at e;show(match cellAt M x with | none=>_ | some c=>_)=_;rw[show cellAt M x=none from e]
theorem Zow{M:Wm}{h s t f:Nat}{i:Int}{c:Ce}(d:bw M h t=some i)(b:cellAt M i=some c)(a:c.fl[f]? =none):qj M (.get h s t f)=.error .oN:=by
 show(match bw M h t with | none=>_ | some x=>_)=_;rw[d];show(match cellAt M i with | none=>_ | some c=>_)=_;rw[b];show(match c.fl[f]? with | none=>_ | some v=>_)=_;rw[a]
theorem Zou{M:Wm}{h s t f:Nat}{i:Int}{c:Ce}(d:bw M h t=some i)(b:cellAt M i=some c)(a:c.fl[f]? =none):qj M (.put h t f s)=.error .oN:=by
 show(match bw M h t with | none=>_ | some x=>_)=_;rw[d];show(match cellAt M i with | none=>_ | some c=>_)=_;rw[b];show(match c.fl[f]? with | none=>_ | some v=>_)=_;rw[a]
theorem Zov{M:Wm}{h s t f:Nat}{i:Int}{c:Ce}{v:AA}(d:bw M h t=some i)(b:cellAt M i=some c)(a:c.fl[f]? =some v):qj M (.get h s t f)=.ok (⟨"got",nD M v,[]⟩,setSlot M h s v):=by
 show(match bw M h t with | none=>_ | some x=>_)=_;rw[d];show(match cellAt M i with | none=>_ | some c=>_)=_;rw[b];show(match c.fl[f]? with | none=>_ | some v=>_)=_;rw[a]
def putL(M:Wm)(h s:Nat)(v:AA):Au:=(if old? M=true then [v]else [])++if (oZ M && !dB M h)=true then [bw M h s]else []
theorem Zot{M:Wm}{h s t f:Nat}{i:Int}{c:Ce}{v:AA}(d:bw M h t=some i)(b:cellAt M i=some c)(a:c.fl[f]? =some v):qj M (.put h t f s)=.ok (⟨"put",nD M v,(aW (setCell M i { c with fl:=c.fl.set f (bw M h s) }) (putL M h s v)).1⟩,(aW (setCell M i { c with fl:=c.fl.set f (bw M h s) }) (putL M h s v)).2):=by
 show(match bw M h t with | none=>_ | some x=>_)=_;rw[d];show(match cellAt M i with | none=>_ | some c=>_)=_;rw[b];show(match c.fl[f]? with | none=>_ | some v=>_)=_;rw[a];rfl
theorem Zh6{M:Wm}{h t:Nat}{l i:Int}{c:Ce}(b:bw M h t=some i)(a:cellAt M i=some c):qj M (.write h t l)=.ok (⟨"wrote",some c.load,[]⟩,setCell M i { c with load:=l }):=by
 show(match bw M h t with | none=>_ | some x=>_)=_;rw[b];show(match cellAt M i with | none=>_ | some c=>_)=_;rw[a]
theorem Zl3{M:Wm}{h t:Nat}{i:Int}{c:Ce}(b:bw M h t=some i)(a:cellAt M i=some c):qj M (.read h t)=.ok (⟨"read",some c.load,[]⟩,M):=by
 show(match bw M h t with | none=>_ | some x=>_)=_;rw[b];show(match cellAt M i with | none=>_ | some c=>_)=_;rw[a]
theorem Zl5{M:Wm}{h t:Nat}{z:Str}{i:Int}{c:Ce}(b:bw M h t=some i)(a:cellAt M i=some c):qj M (.name h t z)=.ok (⟨"named",some c.birth,[]⟩,{ M with names:=nH M.names z (i,c.birth) }):=by
 show(match bw M h t with | none=>_ | some x=>_)=_;rw[b];show(match cellAt M i with | none=>_ | some c=>_)=_;rw[a]
section
variable {X:Cs}{H H':Hp}{T T':Tg}{s:Nat}{A:Wa}{M:Wm}
theorem Zti{z:Str}{v:Int×Int}{t:AI}(f:NmO H T t (z,v)):∀{ns:AF}{names:List b8},Al (NmO H T) ns names->(∃b,(m5 names ns).map (λkv=>if kv.1=Sum.inr z then(kv.1,V.ref t)else kv)=m5 (names.map λm=>if m.1=z then(m.1,v)else m) b/\Al (NmO H T) b (names.map λm=>if m.1=z then(m.1,v)else m))/\
  ((m5 names ns).any λkv=>decide (kv.1=Sum.inr z))=(names.any λm=>decide (m.1=z))/\m5 names ns++[(Sum.inr z,V.ref t)]=m5 (names++[(z,v)]) (ns++[t])/\Al (NmO H T) (ns++[t]) (names++[(z,v)]):=by
 intro ns names h
 induction h with
 | nil=>exact⟨⟨[],rfl,.nil⟩,rfl,rfl,.cons f .nil⟩
 | @cons a m ns names h1 _ g=>
  obtain⟨⟨b,d,c⟩,e3,j,i⟩:=g;refine⟨?_,?_,?_,.cons h1 i⟩
  ·by_cases e:m.1=z
   ·refine⟨t::b,?_,?_⟩
    ·show(if (Sum.inr m.1:Int ⊕ Str)=Sum.inr z then _ else _)::_=_;rw[if_pos (by rw[e]),List.map_cons,if_pos e];show _::_=(Sum.inr m.1,V.ref t)::m5 _ b;rw[<- d];rfl
    ·rw[List.map_cons,if_pos e];exact .cons (by rw[e];exact f) c
   ·refine⟨a::b,?_,?_⟩
    ·show(if (Sum.inr m.1:Int ⊕ Str)=Sum.inr z then _ else _)::_=_;rw[if_neg (λw=>e (Sum.inr.inj w)),List.map_cons,if_neg e];show _::_=(Sum.inr m.1,V.ref a)::m5 _ b;rw[<- d];rfl
    ·rw[List.map_cons,if_neg e];exact .cons h1 c
  ·show(decide ((Sum.inr m.1:Int ⊕ Str)=Sum.inr z) || (m5 names ns).any _)=(decide (m.1=z) || names.any _);rw[e3];congr 1
   by_cases e:m.1=z<;>simp[e]
  ·show(Sum.inr m.1,V.ref a)::(m5 names ns++_)=(Sum.inr m.1,V.ref a)::m5 (names++_) (ns++_);rw[j]
theorem ZQ{ns:AF}{names:List b8}(h:Al (NmO H T) ns names):(m5 names ns).length=names.length:=by
 induction h with
 | nil=>rfl
 | @cons a m ns names h1 _ b=>show(_::m5 names ns).length=_;rw[List.length_cons,List.length_cons,b]
theorem WJ.named(j:WJ X H T s A M)(w:WT H T)(k:s≠0){z:Str}{v:Int×Int}{t:AI}(D:NmO H T t (z,v)):∃a,gD s H bX T T/\
  WJ X bX T s { A with ns:=a } { M with names:=nH M.names z v }:=by
 obtain⟨tm,om,nms⟩:=j.jn;obtain⟨⟨n1,q,n⟩,e3,C,u⟩:=Zti D nms;have f:uh s (·=6) H bX T T:=uh.yJ tm;have i:∀{ns:AF}{names:List b8},Al (NmO H T) ns names->Al (NmO bX T) ns names:=λh=>h.mono (by rintro t m ⟨z1,z2⟩;exact⟨z1,lQ k tm _ _ z2 z1⟩);have go:∀a,putK eJ (Sum.inr z) (.ref t)=m5 (nH M.names z v) a->Al (NmO H T) a (nH M.names z v)->WJ X bX T s { A with ns:=a } { M with names:=nH M.names z v }:=λa x p=>by
  refine⟨?_,?_,⟨tm,by show upd _ A.nm _ A.nm=_;rw[aq,x],i p⟩,?_,j.jd.mv f λ_ _ _=>δ,j.jc.mv f λ_ _=>δ⟩
  ·obtain⟨c,e,g,d,r,B,o,l⟩:=j.jb.mv f (lQ k tm) δ δ;exact⟨c,e,g,d,r,B,o,l⟩
  ·obtain⟨c,e,g,d⟩:=j.jh.mv f δ δ;exact⟨c,e,g,d⟩
  ·obtain⟨c,e,g,d⟩:=j.js.mv f δ δ;exact⟨c,e,g,d⟩
 by_cases b:(M.names.any λm=>decide (m.1=z))=true
 ·refine⟨n1,gD.upd w om (by rw[tm]),go n1 ?_ ?_⟩
  ·unfold putK nH;rw[if_pos (e3.trans b),if_pos b,q]
  ·unfold nH;rw[if_pos b];exact n
 ·refine⟨A.ns++[t],gD.upd w om (by rw[tm]),go _ ?_ ?_⟩
  ·unfold putK nH;rw[if_neg (λy=>b (e3.symm.trans y)),if_neg b,C]
  ·unfold nH;rw[if_neg b];exact u
end
section
variable {K:aB}{X:Cs}{H:Hp}{Q:VK}{E:XK}{n:ν}{bk ct:ν}{rf:Rf->AI}{CE CF CN:AI}
theorem Zl2{wo dd:AI}(T:lq K X)(o:rf .empty=CE)(y:rf .oN=CF)(q:vG X rf Ze5 wo dd H Q E):W9 K (iI X) (zH X CE CF) (iH X) E ξ [↑wo,↑dd,none,none,none,none] H:=by
 obtain⟨Tg,s,A,M,_,⟨h,sl,t,f,rfl⟩,w,C,j,rfl,od,⟨o1,o2⟩,hc,O,P,hn,B,F⟩:=q;obtain⟨p,m,hp,hm,hs,hl,hd⟩:=j.handOf o1;unfold W9;exists dd,_,1,_,rfl,rfl,dR.of od,rfl;exists dd,_,3,_,rfl,rfl,dR.of od,rfl;exists dd,_,4,_,rfl,rfl,dR.of od,rfl;apply⟨_,_,_,_,rfl,Tg,s,A,M,h,t,f,j,rfl,rfl,rfl,rfl,o2,λe=>?_,λi c z D u r=>?_,λi c L z D u J ce r=>?_⟩
 ·rw[<- o];exact B .empty (Zl6 e) H (aX.refl _)
 ·rw[<- y];exact B .oN (Zow z u r) H (aX.refl _)
 ·have hv:=bG r;apply fD (bN.of ce.o2) (gq (v:=oV (c.fl[f])) (by rw[bL,hv];rfl)) ?_;exists _,_,rfl,Tg,s,A,M,h,p,j,rfl,rfl,hp;exists dd,_,2,_,rfl,rfl,dR.of od,rfl;refine⟨p.2,_,_,sl,rfl,rfl,hd.o2,p7 (by rw[aR];exact hl),?_⟩;obtain⟨g,b⟩:=j.slot w C (k:=sl) (x:=c.fl[f]) hp hm;rw[nP hm]at b;generalize upd H p.2 (.lst ((m.2.map oV).set sl (oV c.fl[f])))=N at g b ⊢;obtain⟨d1,ow⟩:=b.jb.ow;apply aJ ow T.cW T.Gy bz ?_;exists _,_,rfl,c.fl[f],rfl,Tg,s,A,_,b,rfl;rw[mD];apply⟨aQ ζ,λl hl=>⟨aQ ζ,λa I=>?_⟩⟩;exact ev0 C F (d:=.get h sl t f) (Zov z u hv) rfl g b rfl hl I
theorem Zl1{wo dd:AI}(T:lq K X)(z:rf .empty=CE)(O:rf .oN=CF)(q:vG X rf Ze2 wo dd H Q E):W8 K (iI X) (zH X CE CF) (oE X) (iH X) (DK X) (Uj X) E ξ [↑wo,↑dd,none,none,none,none,none,none] H:=by
 obtain⟨Tg,s,A,M,_,⟨h,t,f,sl,rfl⟩,w,U,j,rfl,od,⟨o2,o1⟩,hc,hg,Z,hn,R,hQ⟩:=q;obtain⟨p,m,hp,hm,hs,hl,hd⟩:=j.handOf o1;unfold W8;exists dd,_,1,_,rfl,rfl,dR.of od,rfl;exists dd,_,3,_,rfl,rfl,dR.of od,rfl;exists dd,_,2,_,rfl,rfl,dR.of od,rfl;apply⟨_,_,_,_,rfl,Tg,s,A,M,h,t,f,j,rfl,rfl,rfl,rfl,o2,λe=>?_,λi c P h0 y u=>?_,λi c V P h0 y N ce u=>?_⟩
 ·rw[<- z];exact R .empty (Zl4 e) H (aX.refl _)
 ·rw[<- O];exact R .oN (Zou P y u) H (aX.refl _)
 ·have hv:=bG u;apply fD (bN.of ce.o2) (gq (v:=oV (c.fl[f])) (by rw[bL,hv];rfl)) ?_;exists _,_,rfl,Tg,s,A,M,h,p,j,rfl,rfl,hp;exists dd,_,4,_,rfl,rfl,dR.of od,rfl;refine fD (bN.of hd.o2) (gq (v:=oV (bw M h sl)) (by rw[bL,hs];rfl)) ?_;exists V.2,_,_,f,rfl,rfl,ce.o2,p7 (by rw[aR];exact u);obtain⟨b,l⟩:=j.field w U (k:=f) (x:=bw M h sl) N ce;have l:WJ X _ Tg s A (setCell M i { c with fl:=c.fl.set f (bw M h sl) }):=l;generalize upd H V.2 (.lst ((c.fl.map oV).set f (oV (bw M h sl))))=H1 at b l ⊢;apply⟨_,_,rfl,Tg,s,A,_,l,rfl,Z,λS I=>?_⟩;rw[show old? (setCell M i { c with fl:=c.fl.set f (bw M h sl) })=old? M from rfl,Znu];generalize zz:upd H1 S _=H2;obtain⟨D,g1⟩:=nwO I zz;apply⟨_,_,_,rfl,Tg,s,A,_,h,l.same D,rfl,Z,rfl,λW B=>?_⟩;rw[show(oZ (setCell M i { c with fl:=c.fl.set f (bw M h sl) }) && !dB (setCell M i { c with fl:=c.fl.set f (bw M h sl) }) h)=(oZ M && !dB M h)from rfl,Znu];generalize zz:upd H2 W _=H3;obtain⟨L,g2⟩:=nwO B zz;apply⟨S,W,_,_,rfl,rfl,L _ _ g1,g2,?_,λY r=>?_⟩
  ·refine aQ ?_;cases old? M<;>cases (oZ M && !dB M h)<;>simp
  rw[<- List.map_append];generalize zz:upd H3 Y _=H4;obtain⟨s3,C⟩:=nwO r zz;have C:H4 Y=some (.lst ((putL M h sl c.fl[f]).map oV)):=C;have g:=D.trans (L.trans s3);apply⟨_,_,rfl,putL M h sl c.fl[f],Tg,s,A,_,b.wt.same g,U,l.same g,rfl,.inl ⟨C,(b.wt.same (D.trans L)) _ r⟩,?_,hg,λH5 T5 l5 F J g5 o=>?_⟩
  ·unfold putL;cases old? M<;>cases (oZ M && !dB M h)<;>simp
  obtain⟨d1,ow⟩:=J.jb.ow;apply aJ ow T.cW T.Gy bz ?_;exists _,_,rfl,c.fl[f],rfl,T5,s,A,_,J,rfl;rw[vV,Kr (c':={ c with fl:=c.fl.set f (bw M h sl) }) y rfl];apply⟨aQ ζ,λa ha=>?_⟩;exact ev1 ⟨gD.free b (g.free o.1),o.2⟩ hQ (d:=.put h t f sl) (Zot P y hv) (b.trans ((gD.same b.wt g).trans F)) J rfl g5 ha
theorem Zeh{wo dd:AI}(T:lq K X)(g:rf .empty=CE)(q:vG X rf G8 wo dd H Q E):La K (vD X CE) E ξ [↑wo,↑dd,none,none] H:=by
 obtain⟨Tg,s,A,M,_,⟨h,t,load,rfl⟩,w,o,j,rfl,od,o1,hc,F,I,hn,r,v⟩:=q;unfold La;exists dd,_,1,_,rfl,rfl,dR.of od,rfl;exists dd,_,2,_,rfl,rfl,dR.of od,rfl;apply⟨_,_,_,rfl,Tg,s,A,M,h,t,j,rfl,rfl,rfl,o1,λe=>?_,λi c k z B y m ce=>?_⟩
 ·rw[<- g];exact r .empty (Zej e) H (aX.refl _)
 ·obtain⟨t1,t2,⟨dx,b⟩,u⟩:=id ce;apply aJ b T.c.dD T.c.jY uf ?_;exists dd,_,3,_,rfl,rfl,dR.of od,rfl;apply⟨k.1,X.C,dx,_,rfl,b,T.c.dD,T.c.jY,by show 5<1000;decide,?_⟩;rw[Tu];obtain⟨f,p⟩:=j.cell w o (dx:=dx) (tone:=c.tone) (load:=load) m ce;generalize upd H k.1 (.ins X.C dx (j7 c.birth c.bulk c.tone load k.2))=D at f p ⊢;apply⟨aQ ζ,λl hl=>⟨aQ ζ,λa x=>?_⟩⟩;exact ev0 o v (d:=.write h t load) (Zh6 z y) rfl f p rfl hl x
theorem Zh0{wo dd:AI}(T:lq K X)(b:rf .empty=CE)(q:vG X rf R8 wo dd H Q E):Qv K (vD X CE) E ξ [↑wo,↑dd,none] H:=by
 obtain⟨Tg,s,A,M,_,⟨h,t,rfl⟩,w,k,j,rfl,od,o1,hc,B,C,hn,g,o⟩:=q;unfold Qv;exists dd,_,1,_,rfl,rfl,dR.of od,rfl;exists dd,_,2,_,rfl,rfl,dR.of od,rfl;apply⟨_,_,_,rfl,Tg,s,A,M,h,t,j,rfl,rfl,rfl,o1,λe=>?_,λi c y v x r u ce=>?_⟩
 ·rw[<- b];exact g .empty (Zh7 e) H (aX.refl _)
 ·obtain⟨t1,t2,⟨z,f⟩,m⟩:=id ce;apply aJ f T.c.dD T.c.jY uf ?_;apply⟨aQ ζ,λl hl=>⟨aQ ζ,λa p=>?_⟩⟩;exact ev0 k o (d:=.read h t) (Zl3 v r) rfl (gD.refl w) j rfl hl p
theorem Zh1{wo dd:AI}(T:lq K X)(o:rf .empty=CE)(q:vG X rf isName wo dd H Q E):Qw K (vD X CE) (iH X) E ξ [↑wo,↑dd,none,none,none] H:=by
 obtain⟨Tg,s,A,M,_,⟨h,t,z,rfl⟩,w,y,j,rfl,od,o1,hc,V,W,hn,C,J⟩:=q;obtain⟨p,m,hp,hm,hs,hl,hd⟩:=j.handOf o1;unfold Qw;exists dd,_,1,_,rfl,rfl,dR.of od,rfl;exists dd,_,2,_,rfl,rfl,dR.of od,rfl;apply⟨_,_,_,rfl,Tg,s,A,M,h,t,j,rfl,rfl,rfl,o1,λe=>?_,λi c R B P N O ce=>?_⟩
 ·rw[<- o];exact C .empty (Zh8 e) H (aX.refl _)
 ·obtain⟨t1,t2,⟨U,u⟩,F⟩:=id ce;apply aJ u T.c.dD T.c.eF fG ?_;exists _,_,rfl,Tg,s,A,M,h,p,j,rfl,rfl,hp;apply fD (bN.of hd.o2) (gq (v:=oV (bw M h t)) (by rw[bL,hs];rfl)) ?_;rw[B];apply⟨aQ ζ,λtp f=>?_⟩;generalize zz:upd H tp _=H1;obtain⟨g,r⟩:=nwO f zz;have r:H1 tp=some (.tup [.int i,.int c.birth]):=r;have k:=j.same g;have D:=w.same g;obtain⟨d1,ow⟩:=k.jb.ow;apply aJ ow T.cW T.nWn dX ?_;exists dd,_,3,_,rfl,rfl,dR.of (g _ _ od),rfl;refine⟨_,_,rfl,Zxl k.jn.om (by rw[ZQ k.jn.nms];exact Nat.lt_of_le_of_lt hn ε),?_⟩;obtain⟨I,b,x⟩:=k.named D y (z:=z) (v:=(i,c.birth)) (t:=tp) ⟨w _ f,r⟩;generalize upd H1 A.nm (.dK (putK eJ (Sum.inr z) (.ref tp)))=S at b x ⊢;apply⟨aQ ζ,λl hl=>⟨aQ ζ,λa L=>?_⟩⟩;exact ev0 y J (d:=.name h t z) (Zl5 B N) rfl ((gD.same w g).trans b) x rfl hl L
theorem Zgz{wo dd:AI}(T:lq K X)(u:rf .Ry=CN)(q:vG X rf R7 wo dd H Q E):Qu K (iI X) (oE X) (CV X CN) (iH X) E ξ [↑wo,↑dd,none,none] H:=by
 obtain⟨Tg,s,A,M,_,⟨h,sl,z,rfl⟩,w,I,j,rfl,od,o1,hc,S,Z,hn,L,P⟩:=q;obtain⟨p,m,hp,hm,hs,hl,hd⟩:=j.handOf o1;unfold Qu;exists dd,_,3,_,rfl,rfl,dR.of od,rfl;apply⟨_,_,rfl,Tg,s,A,M,j,rfl,λe=>?_,λi b e=>?_⟩
 ·rw[<- u];refine L .Ry ?_ H (aX.refl _);show(match qU M.names z with | none=>_ | some (p,b)=>_)=_;rw[e]
 ·let x:AA:=if jq M i b=true then none else some i
  have ex:(if jq M i b=true then V.non else .int i)=oV x:=by
   show _=oV (if _ then _ else _);cases jq M i b<;>rfl
  rw[ex];have U:qj M (.seek h sl z)=.ok (⟨"sought",nD M x,(aW (setSlot M h sl x) [x]).1⟩,(aW (setSlot M h sl x) [x]).2):=by
   show(match qU M.names z with | none=>_ | some (p,b)=>_)=_;rw[e];dsimp only;cases f:jq M i b with
   | true=>
    have:x=none:=by show(if _ then _ else _)=_;rw[f];rfl
    rw[this];rfl
   | false=>
    have hx:x=some i:=by show(if _ then _ else _)=_;rw[f];rfl
    have:nD M (some i)=some b:=by
     unfold jq at f;show(cellAt M i).map _=_;cases r:cellAt M i with
     | none=>rw[r]at f;cases f
     | some c=>
      rw[r]at f;dsimp only at f
      by_cases y:c.birth=b
      ·rw[<- y];rfl
      ·rw[if_neg y]at f;cases f
    rw[hx,this];rfl
  clear_value x;exists dd,_,1,_,rfl,rfl,dR.of od,rfl;exists _,_,rfl,Tg,s,A,M,h,p,j,rfl,rfl,hp;exists dd,_,2,_,rfl,rfl,dR.of od,rfl;refine⟨p.2,_,_,sl,rfl,rfl,hd.o2,p7 (by rw[aR];exact hl),?_⟩;obtain⟨g,B⟩:=j.slot w I (k:=sl) (x:=x) hp hm;rw[nP hm]at B;generalize upd H p.2 (.lst ((m.2.map oV).set sl (oV x)))=N at g B ⊢;apply⟨aQ ζ,λF o=>?_⟩;generalize zz:upd N F _=H2;obtain⟨t,C⟩:=nwO o zz;have C:H2 F=some (.lst ([x].map oV)):=C;apply⟨_,_,rfl,[x],Tg,s,A,_,g.wt.same t,I,B.same t,rfl,.inl ⟨C,g.wt _ o⟩,ζ,S,λW J Y D v O l=>?_⟩;obtain⟨d1,ow⟩:=v.jb.ow;apply aJ ow T.cW T.Gy bz ?_;exists _,_,rfl,x,rfl,J,s,A,_,v,rfl;rw[vV,mD];apply⟨aQ ζ,λa R=>?_⟩;exact ev1 ⟨gD.free g (t.free l.1),l.2⟩ P (d:=.seek h sl z) U (g.trans ((gD.same g.wt t).trans D)) v rfl O R
end
section
variable {K:aB}{X:Cs}{H:Hp}{Q:VK}{E:XK}{n:ν}{bk ct:ν}{rf:Rf->AI}{f1 f2 f3 f4 f5 f6 f7 f8 f9 f10:AI}
theorem Zxm{wo dd:AI}(T:lq K X)(q:vG X rf (λ_=>True) wo dd H Q E):
  Zm7 K f1 f2 f3 f4 f5 f6 f7 f8 f9 f10 (cN X rf SJ) (cN X rf Sy) (cN X rf Ze5) (cN X rf Sv) (cN X rf R9) (cN X rf isName) (cN X rf Ze2) (cN X rf R8) (cN X rf R7) (cN X rf G8) E ξ [↑wo,↑dd,none] H:=by
 obtain⟨Tg,s,A,M,d,_,w,b,j,rfl,od,a,c,k,l,e,i,m⟩:=q;unfold Zm7;cases d with
 | make h o p bulk=>
  exists dd,_,0,_,rfl,rfl,dR.of od,rfl;refine⟨_,f5,rfl,rfl,?_⟩;apply jQ (cN X rf R9) rfl ζ ?_;apply⟨_,_,rfl,Tg,s,A,M,_,⟨_,_,_,_,rfl⟩,w,b,j,rfl,od,a,c,k,l,e,i,m⟩
 | get h o t f=>
  exists dd,_,0,_,rfl,rfl,dR.of od,rfl;refine⟨_,f3,rfl,rfl,?_⟩;apply jQ (cN X rf Ze5) rfl ζ ?_;apply⟨_,_,rfl,Tg,s,A,M,_,⟨_,_,_,_,rfl⟩,w,b,j,rfl,od,a,c,k,l,e,i,m⟩
 | put h t f o=>
  exists dd,_,0,_,rfl,rfl,dR.of od,rfl;refine⟨_,f7,rfl,rfl,?_⟩;apply jQ (cN X rf Ze2) rfl ζ ?_;apply⟨_,_,rfl,Tg,s,A,M,_,⟨_,_,_,_,rfl⟩,w,b,j,rfl,od,a,c,k,l,e,i,m⟩
 | copy h o t=>
  exists dd,_,0,_,rfl,rfl,dR.of od,rfl;refine⟨_,f1,rfl,rfl,?_⟩;apply jQ (cN X rf SJ) rfl ζ ?_;apply⟨_,_,rfl,Tg,s,A,M,_,⟨_,_,_,rfl⟩,w,b,j,rfl,od,a,c,k,l,e,i,m⟩
 | drop h o=>
  exists dd,_,0,_,rfl,rfl,dR.of od,rfl;refine⟨_,f2,rfl,rfl,?_⟩;apply jQ (cN X rf Sy) rfl ζ ?_;apply⟨_,_,rfl,Tg,s,A,M,_,⟨_,_,rfl⟩,w,b,j,rfl,od,a,c,k,l,e,i,m⟩
 | give h o g t=>
  exists dd,_,0,_,rfl,rfl,dR.of od,rfl;refine⟨_,f4,rfl,rfl,?_⟩;apply jQ (cN X rf Sv) rfl ζ ?_;apply⟨_,_,rfl,Tg,s,A,M,_,⟨_,_,_,_,rfl⟩,w,b,j,rfl,od,a,c,k,l,e,i,m⟩
 | write h t load=>
  exists dd,_,0,_,rfl,rfl,dR.of od,rfl;refine⟨_,f10,rfl,rfl,?_⟩;apply jQ (cN X rf G8) rfl ζ ?_;apply⟨_,_,rfl,Tg,s,A,M,_,⟨_,_,_,rfl⟩,w,b,j,rfl,od,a,c,k,l,e,i,m⟩
 | read h t=>
  exists dd,_,0,_,rfl,rfl,dR.of od,rfl;refine⟨_,f8,rfl,rfl,?_⟩;apply jQ (cN X rf R8) rfl ζ ?_;apply⟨_,_,rfl,Tg,s,A,M,_,⟨_,_,rfl⟩,w,b,j,rfl,od,a,c,k,l,e,i,m⟩
 | name h t z=>
  exists dd,_,0,_,rfl,rfl,dR.of od,rfl;refine⟨_,f6,rfl,rfl,?_⟩;apply jQ (cN X rf isName) rfl ζ ?_;apply⟨_,_,rfl,Tg,s,A,M,_,⟨_,_,_,rfl⟩,w,b,j,rfl,od,a,c,k,l,e,i,m⟩
 | seek h o z=>
  exists dd,_,0,_,rfl,rfl,dR.of od,rfl;refine⟨_,f9,rfl,rfl,?_⟩;apply jQ (cN X rf R7) rfl ζ ?_;apply⟨_,_,rfl,Tg,s,A,M,_,⟨_,_,_,rfl⟩,w,b,j,rfl,od,a,c,k,l,e,i,m⟩
end
inductive zA(X:Cs)(hp:AI)(sl:AI)(H:Hp)(Q:VK):Prop
 | mk (T s A M) (xs:Au) (_:WJ X H T s A M) (_:A.hp=hp) (_:H sl=some (.lst (xs.map oV))) (_:xs.length<=1000) (_:∀l,H l=none->Q (.ref l) (upd H l (.lst ((xs.map (nD M)).map oV)))):zA X hp sl H Q
def pD(X:Cs):Sp:=λvs H Q E=>∃hp sl,vs=[.ref hp,.ref sl]/\zA X hp sl H Q
inductive Ui(X:Cs)(wo:AI)(H:Hp)(Q:VK):Prop
 | mk (T s A M) (_:WJ X H T s A M) (_:A.wo=wo) (_:M.cells.length<=1000) (_:(∀m∈M.hands,m.2.length<=1000)) (_:∀(l:AI) (ls:AF) H',aX H H'->H' l=some (.lst (ls.map V.ref))->ls.length=(rowsOf M).length->(∀(j:Nat) r x,ls[j]? =some r->(rowsOf M)[j]? =some x->H' r=some (.lst (x.map oV)))->(H l=none/\(∀r∈ls,H r=none)/\l∉ls)->Q (.ref l) H'):Ui X wo H Q
def nA(X:Cs):Sp:=λvs H Q E=>∃wo,vs=[.ref wo]/\Ui X wo H Q
section
variable {K:aB}{X:Cs}{H:Hp}{Q:VK}{E:XK}{n:ν}{bk ct:ν}
theorem Zay{hp sl:AI}(T:lq K X)(q:zA X hp sl H Q):
  Fq K (iI X) ξ [↑hp,↑sl] H:=by
 obtain⟨Tg,s,A,M,b,j,rfl,o,hx,q⟩:=q;unfold Fq;apply Cp ?_;exists _,rfl,⟨_,bN.of o⟩;refine G4 (bN.of o) (λi=>(b[i]?).map λx=>oV (nD M x)) (by rw[aR];omega) (λi x hx=>?_) ?_
 ·rw[bL]at hx;obtain⟨y,hy,rfl⟩:=Option.map_eq_some_iff.mp hx;refine⟨λq hq=>?_,λz q hz hq=>?_⟩
  ·rw[hy]at hq;exact yW hq
  ·rw[hy]at hz;cases hz;walk_at"c";apply⟨_,_,rfl,y,rfl,Tg,s,A,M,j,rfl,hq⟩
 ·intro p hp;have:(List.range (b.map oV).length).filterMap (λi=>(b[i]?).map λx=>oV (nD M x))=(b.map (nD M)).map oV:=by
   rw[aR,List.map_map];clear q o hx
   induction b with
   | nil=>rfl
   | cons a l c=>
    rw[List.length_cons,List.range_succ_eq_map,List.filterMap_cons];simp only[List.getElem?_cons_zero,Option.map_some,List.map_cons,List.filterMap_map];congr 1
  rw[this];exact q p hp
theorem TF{wo:AI}(T:lq K X)(q:Ui X wo H Q):
  qD K (pD X) ξ [↑wo] H:=by
 obtain⟨Tg,s,A,M,j,rfl,hc,w,q⟩:=q;obtain⟨d1,ow⟩:=j.jb.ow;have l5:=j.jd.l5;unfold qD;apply Cp ?_;apply aJ ow T.cW T.nWd dH ?_;refine⟨_,rfl,⟨_,bN.of j.jb.on⟩,?_⟩;refine R1 (bN.of j.jb.on) (by rw[aR];omega) (λi r o=>∃x,(rowsOf M)[i]? =some x/\o r=some (.lst (x.map oV))) (by rintro _ _ _ _ ⟨x,e,z⟩ s;exact⟨x,e,s _ _ z⟩) (by rintro _ _ _ ⟨_,_,z⟩;exact⟨_,z⟩) (λx v q hq=>yW hq) (λi x v d a D hq=>?_) ?_
 ·rw[bL]at d;obtain⟨p,hp,rfl⟩:=Option.map_eq_some_iff.mp d;have c:=j.same a;obtain⟨m,hm,hd⟩:=c.hand hp;obtain⟨E,o1⟩:=hd.o1;obtain⟨d2,b⟩:=c.jb.ow;walk_at"c";apply aJ b T.cW T.Gy bz ?_;apply aJ o1 T.cD T.nDs m7 ?_;apply⟨_,_,rfl,Tg,s,A,M,m.2,c,rfl,hd.o2,w m (List.mem_of_getElem? hm),λl hl=>?_⟩;exact hq l _ (aH hl _) hl ⟨_,by unfold rowsOf;rw[bL,hm];rfl,aq⟩
 ·intro rs C a hl _ h hr p hp;have f:=aH hp (.lst (rs.map V.ref));refine q p rs _ (a.trans f) aq ?_ (λt r x B u=>?_) ⟨a.free hp,h,λz=>?_⟩
  ·rw[hl,aR];unfold rowsOf;rw[aR,j.jd.lh]
  ·obtain⟨y,e3,z⟩:=hr t r B;rw[u]at e3;cases e3;exact f _ _ z
  ·obtain⟨k,hk,e⟩:=List.getElem_of_mem z;obtain⟨_,_,g⟩:=hr k p (by rw[bG hk,e]);rw[hp]at g;cases g
end
inductive zF(CD:AI)(p:AI)(nm:Str)(many:Int)(H:Hp)(Q:VK):Prop
 | mk (dx) (_:H p=some (.ins CD dx [])) (_:0<=many) (_:many<=1000) (_:∀sa H',H sa=none->H' p=some (.ins CD dx (Ziv nm sa))->H' sa=some (.lst (List.replicate many.toNat V.non))->(∀b o,H b=some o->b≠p->H' b=some o)->Q .non H'):zF CD p nm many H Q
def N8(a:AI):Sp:=λvs H Q E=>∃p nm many,vs=[.ref p,.str nm,.int many]/\zF a p nm many H Q
def zJ(a:AI):Sp:=λvs H Q E=>∃p,vs=[.ref p]/\∃dx,H p=some (.ins a dx [])/\
 ∀gr H',H gr=none->H' p=some (.ins a dx (cg 0 "rest" gr 0 0 0 0 0 0 0 .non))->H' gr=some (.lst [])->(∀b o,H b=some o->b≠p->H' b=some o)->Q .non H'
section
variable {K:aB}{X:Cs}{H:Hp}{Q:VK}{E:XK}{n:ν}{bk ct:ν}
theorem Kg{p:AI}{nm:Str}{many:Int}(T:lq K X)(q:zF X.D p nm many H Q):
  uE K ⟨λ_ H'=>Q .non H',Q,bk,ct⟩ [↑p,some (.str nm),some (.int many)] H:=by
 obtain⟨n,hp,s,h1,h⟩:=q;unfold uE;exists p,X.D,n,[],rfl,hp,T.cD,T.nDn,ε;apply⟨ε,λj d=>?_⟩;apply⟨j,many,_,rfl,rfl,aq,δ,δ,?_,λi a=>?_⟩
 ·show 1 * many.toNat<=sizeLine;exact aQ δ
 have c:p≠j:=aF aq d;have f:p≠i:=aF (by rw[aD c];exact aq) a;have g:H i=none:=by
  by_cases z:i=j
  ·rw[z,aq]at a;cases a
  ·rw[aD z,aD (λe=>f e.symm)]at a;exact a
 have l:H j=none:=by rw[aD (λe=>c e.symm)]at d;exact d
 apply⟨p,X.D,n,_,rfl,by rw[aD f,aD c];exact aq,T.cD,T.nDs,by show 1<1000;decide,?_⟩;refine h i _ g ?_ ?_ λb o hb m=>?_
 ·rw[aq,Zo8]
 ·rw[aD f.symm,aq];congr 2;generalize many.toNat=k
  induction k with
  | zero=>rfl
  | succ k r=>rw[List.replicate_succ,List.replicate_succ,List.flatten_cons,r];rfl
 ·rw[aD m,aD (aF hb g),aD (aF hb l),aD m];exact hb
theorem Ag{p:AI}(T:lq K X)(q:∃dx,H p=some (.ins X.S dx [])/\
 ∀gr H',H gr=none->H' p=some (.ins X.S dx (cg 0 "rest" gr 0 0 0 0 0 0 0 .non))->H' gr=some (.lst [])->(∀b o,H b=some o->b≠p->H' b=some o)->Q .non H'):
  pN K ⟨λ_ H'=>Q .non H',Q,bk,ct⟩ [↑p] H:=by
 obtain⟨dx,hp,h⟩:=q;unfold pN;exists p,X.S,dx,[],rfl,hp,T.cS,T.n1,ε;apply⟨p,X.S,dx,_,rfl,aq,T.cS,T.n2,by show 1<1000;decide,?_⟩;rw[dI];apply⟨ε,λgr a=>?_⟩;have c:p≠gr:=aF aq a;have d:H gr=none:=by rw[aD c.symm]at a;exact a
 apply⟨p,X.S,dx,_,rfl,by rw[aD c];exact aq,T.cS,T.n3,by show 2<1000;decide,?_⟩;apply⟨p,X.S,dx,_,rfl,aq,T.cS,T.n4,by show 3<1000;decide,?_⟩;rw[dI];apply⟨p,X.S,dx,_,rfl,aq,T.cS,T.n5,by show 4<1000;decide,?_⟩;rw[dI];apply⟨p,X.S,dx,_,rfl,aq,T.cS,T.n6,by show 5<1000;decide,?_⟩;rw[dI];apply⟨p,X.S,dx,_,rfl,aq,T.cS,T.n7,by show 6<1000;decide,?_⟩;rw[dI];apply⟨p,X.S,dx,_,rfl,aq,T.cS,T.n8,by show 7<1000;decide,?_⟩;rw[dI];apply⟨p,X.S,dx,_,rfl,aq,T.cS,T.n9,by show 8<1000;decide,?_⟩;rw[dI];apply⟨p,X.S,dx,_,rfl,aq,T.cS,T.n10,by show 9<1000;decide,?_⟩;rw[dI];apply⟨p,X.S,dx,_,rfl,aq,T.cS,T.n11,by show 10<1000;decide,?_⟩;rw[dI];refine h gr _ d ?_ ?_ λb o hb e=>?_
 ·rw[aq,Zjp]
 ·rw[aD c.symm,aq]
 ·rw[aD e,aD (aF hb d),aD e];exact hb
end
def wd(w:Int):Str:=if w=0 then "first" else if w=1 then "each" else "last"
def tlS(t:Int):Str:=if t=0 then "" else if t=1 then " old" else if t=2 then " new" else " old new"
def words(w t:Int):Str:=wd w++tlS t
structure KdO(X:Cs)(H:Hp)(ki lk:AI)(w t:Int):Prop where
 ok:∃dx,H ki=some (.ins X.K dx (R5 lk t))
 ol:∃dx,(w=0/\H lk=some (.ins X.F dx []))\/(w=1/\H lk=some (.ins X.E dx []))\/(w=2/\H lk=some (.ins X.L dx []))
theorem KdO.same{X:Cs}{H H':Hp}{ki lk:AI}{w t:Int}(k:KdO X H ki lk w t)(s:aX H H'):KdO X H' ki lk w t:=by
 obtain⟨⟨d1,a⟩,⟨d2,b⟩⟩:=k;refine⟨⟨d1,s _ _ a⟩,⟨d2,?_⟩⟩;rcases b with ⟨z,e⟩ | ⟨z,e⟩ | ⟨z,e⟩
 ·exact .inl ⟨z,s _ _ e⟩
 ·exact .inr (.inl ⟨z,s _ _ e⟩)
 ·exact .inr (.inr ⟨z,s _ _ e⟩)
def RB(room:Int)(hands:List (Str×Int))(w t:Int):Wm:=⟨room,0,0,[],hands.map λm=>(m.1,List.replicate m.2.toNat none),[],w,t,⟨0,"rest",[],0,0,0,0,0,0,0,.non⟩⟩
inductive wG(X:Cs)(p:AI)(room:Int)(ki:AI)(hl0:AI)(H:Hp)(Q:VK):Prop
 | mk (dx T s lk w t) (ts:AF) (hands) (_:H p=some (.ins X.W dx [])) (_:WT H T) (_:s≠0) (_:KdO X H ki lk w t) (_:T ki=(0,0)) (_:T lk=(0,0)) (_:ki≠p) (_:lk≠p) (_:H hl0=some (.lst (ts.map V.ref))) (_:Al (λ(t:AI) (m:Str×Int)=>H t=some (.tup [.str m.1,.int m.2])/\0<=m.2/\m.2<=1000) ts hands) (_:hands.length<=30) (_:∀H' T' A,(∀b o,H b=some o->b≠p->H' b=some o)->(∀b o,H b=some o->b≠p->T' b=T b)->WT H' T'->A.wo=p->WJ X H' T' s A (RB room hands w t)->Q .non H'):wG X p room ki hl0 H Q
def wM(X:Cs):Sp:=λvs H Q E=>∃p room ki a,vs=[.ref p,.int room,.ref ki,.ref a]/\wG X p room ki a H Q
def zK(a:AI):Sp:=λvs H Q E=>∃p l t,vs=[.ref p,.ref l,.int t]/\∃dx,H p=some (.ins a dx [])/\∀H',H' p=some (.ins a dx (R5 l t))->(∀b o,H b=some o->b≠p->H' b=some o)->Q .non H'
def wK(v:V):Sp:=λvs H Q E=>∃a,vs=[.ref a]/\Q v H
section
variable {K:aB}{X:Cs}{H:Hp}{Q:VK}{E:XK}{n:ν}{bk ct:ν}
theorem Kd{p l:AI}{t:Int}(T:lq K X)(q:∃dx,H p=some (.ins X.K dx [])/\∀H',H' p=some (.ins X.K dx (R5 l t))->(∀b o,H b=some o->b≠p->H' b=some o)->Q .non H'):
  uC K ⟨λ_ H'=>Q .non H',Q,bk,ct⟩ [↑p,↑l,some (.int t)] H:=by
 obtain⟨dx,hp,h⟩:=q;unfold uC;exists p,X.K,dx,[],rfl,hp,T.cK,T.nKl,ε;apply⟨p,X.K,dx,_,rfl,aq,T.cK,T.nKt,by show 1<1000;decide,?_⟩;rw[dI];refine h _ ?_ λb o hb a=>?_
 ·rw[aq,Zns]
 ·rw[aD a];exact hb
theorem w0{w:Int}(a:w=0\/w=1\/w=2):words w 0=wd w:=by rcases a with rfl | rfl | rfl<;>decide +kernel
theorem w3{w:Int}(a:w=0\/w=1\/w=2):words w 3=(wd w++" old")++" new":=by rcases a with rfl | rfl | rfl<;>decide +kernel
end
structure Ex(p:AI)(H H':Hp)(T T':Tg):Prop where
 kp:∀b o,H b=some o->b≠p->H' b=some o
 al:∀b o,H b=some o->∃o',H' b=some o'
 tg:∀b o,H b=some o->T' b=T b
 wt:WT H' T'
section
variable {p:AI}{H H1 H2 H':Hp}{T T1 T2 T':Tg}
theorem Ex.trans(a:Ex p H H1 T T1)(b:Ex p H1 H2 T1 T2):Ex p H H2 T T2 where
 kp:=λx o h n=>b.kp x o (a.kp x o h n) n
 al:=λx o h=>by obtain⟨o1,h1⟩:=a.al x o h;exact b.al x o1 h1
 tg:=λx o h=>by obtain⟨o1,h1⟩:=a.al x o h;rw[b.tg x o1 h1,a.tg x o h]
 wt:=b.wt
theorem Zvl(w:WT H T)(al:∀b o,H b=some o->∃a,H' b=some a):WT H' T:=λb h=>w b (by
 cases z:H b with
 | none=>rfl
 | some o=>obtain⟨a,e⟩:=al b o z;rw[h]at e;cases e)
theorem Zf2{a:AI}{o:HO}{v:Nat×Nat}(w:WT H T)(h:H a=some o):WT H (eZ T a v):=λb hb=>by
 rw[eE (λe=>by rw[e,h]at hb;cases hb)];exact w b hb
theorem Ex.Zlj{o a:HO}(w:WT H T)(h:H p=some a):Ex p H (upd H p o) T T where
 kp:=λx u hx n=>by rw[aD n];exact hx
 al:=λx u hx=>by
  by_cases e:x=p
  ·exact⟨o,by rw[e,aq]⟩
  ·exact⟨u,by rw[aD e];exact hx⟩
 tg:=λ_ _ _=>rfl
 wt:=Zvl w λx u hx=>by
  by_cases e:x=p
  ·exact⟨o,by rw[e,aq]⟩
  ·exact⟨u,by rw[aD e];exact hx⟩
theorem Ex.news{vs:List (AI×(Nat×Nat))}(w:WT H T)(s:aX H H')(hn:∀v∈vs,H v.1=none/\∃o,H' v.1=some o):Ex p H H' T (vs.foldr cQ T):=by
 have tg:∀b o,H b=some o->(vs.foldr cQ T) b=T b:=by
  intro b o hb
  induction vs with
  | nil=>rfl
  | cons v vs a=>
   show eZ _ v.1 v.2 b=_;rw[eE (aF hb (hn v List.mem_cons_self).1)];exact a λu hu=>hn u (List.mem_cons_of_mem _ hu)
 refine⟨λb o hb _=>s _ _ hb,λb o hb=>⟨o,s _ _ hb⟩,tg,?_⟩;clear tg
 induction vs with
 | nil=>exact w.same s
 | cons v vs a=>
  obtain⟨o,c⟩:=(hn v List.mem_cons_self).2;exact Zf2 (a λu hu=>hn u (List.mem_cons_of_mem _ hu)) c
end
section
variable {K:aB}{X:Cs}{H:Hp}{Q:VK}{E:XK}{n:ν}{bk ct:ν}
theorem Ib{p ki hl0:AI}{room:Int}(T:lq K X)(q:wG X p room ki hl0 H Q):
  rJ K X.D X.H X.S (N8 X.D) (N6 X.H) (zJ X.S) ⟨λ_ H'=>Q .non H',Q,bk,ct⟩ [↑p,some (.int room),↑ki,↑hl0] H:=by
 obtain⟨f,T0,s,lk,w,t,ts,hands,hp,wt0,s0,kd,tki,tlk,nki,R,oh0,al,hn,hQ⟩:=q;have x0:WT H (eZ T0 p (s,0)):=Zf2 wt0 hp;have tp:eZ T0 p (s,0) p=(s,0):=fL;have U:∀b o,H b=some o->b≠p->eZ T0 p (s,0) b=T0 b:=λb _ _ hb=>eE hb;generalize hT:eZ T0 p (s,0)=Ta at x0 tp U;unfold rJ;ext;intro hq dh nh ndh neh;refine⟨hq,room,rfl,dh,aq,λca H1 n J L k1=>⟨rfl,?_⟩⟩;have Ztm:H ca=none:=by
  by_cases z:ca=hq
  ·rw[z,aq]at n;cases n
  ·rw[aD z]at n
   by_cases y:ca=dh
   ·rw[y,aq]at n;cases n
   ·rw[aD y]at n;exact n
 have sm1:aX H H1:=λb o hb=>k1 b o (by rw[aD (aF hb nh),aD (aF hb ndh)];exact hb) (aF hb nh);have e1:Ex p H H1 Ta _:=Ex.news (vs:=[(hq,(s,1)),(ca,(s,2))]) x0 sm1 (by
  intro v hv;simp only[List.mem_cons,List.not_mem_nil,or_false]at hv;rcases hv with rfl | rfl
  ·exact⟨nh,_,J⟩
  ·exact⟨Ztm,_,L⟩)
 have nhc:hq≠ca:=lV J L a4;have th1:([(hq,(s,1)),(ca,(s,2))].foldr cQ Ta) hq=(s,1):=fL;have tc1:([(hq,(s,1)),(ca,(s,2))].foldr cQ Ta) ca=(s,2):=(eE nhc.symm).trans fL;generalize ([(hq,(s,1)),(ca,(s,2))]:List (AI×(Nat×Nat))).foldr cQ Ta=Tb at e1 th1 tc1;have hp1:=sm1 _ _ hp;have nph:hq≠p:=λz=>by rw[z,hp]at nh;cases nh
 have npc:ca≠p:=λz=>by rw[z,hp]at Ztm;cases Ztm
 clear k1 n;exists p,X.W,f,[],rfl,hp1,T.cW,T.Gy,ε;have e2:=e1.trans (Ex.Zlj (o:=.ins X.W f bq) e1.wt hp1);have g2:upd H1 p (.ins X.W f bq) p=some (.ins X.W f bq):=aq;have J:=(aD (o:=.ins X.W f bq) nph).trans J;have L:=(aD (o:=.ins X.W f bq) npc).trans L;generalize upd H1 p (.ins X.W f bq)=H2 at e2 g2 J L ⊢;apply⟨p,X.W,f,_,rfl,g2,T.cW,T.nWk,by show 1<1000;decide,?_⟩;have e3:=e2.trans (Ex.Zlj (o:=.ins X.W f (cj "kind" (.ref ki) bq)) e2.wt g2);have g3:upd H2 p (.ins X.W f (cj "kind" (.ref ki) bq)) p=some (.ins X.W f (cj "kind" (.ref ki) bq)):=aq;have J:=(aD (o:=.ins X.W f (cj "kind" (.ref ki) bq)) nph).trans J;have L:=(aD (o:=.ins X.W f (cj "kind" (.ref ki) bq)) npc).trans L;generalize upd H2 p (.ins X.W f (cj "kind" (.ref ki) bq))=H3 at e3 g3 J L ⊢;generalize O:(cj "kind" (.ref ki) bq)=u at g3 ⊢;have lF3:u.length=2:=by rw[<- O];rfl
 have Z:H3 hl0=some (.lst bE):=e3.kp _ _ oh0 (λz=>by rw[z,hp]at oh0;cases oh0);have ltl:ts.length=hands.length:=al.length;have Zxv:∀(i:Nat) a,ts[i]? =some a->∃m,hands[i]? =some m/\H3 a=some (.tup [.str m.1,.int m.2])/\0<=m.2/\m.2<=1000:=λi a ha=>by
  have hl:i<hands.length:=by rw[<- ltl];exact(cI ha).1
  obtain⟨a',ha',z1,B,z3⟩:=al.get (bG hl);rw[ha]at ha';cases ha';exact⟨_,bG hl,e3.kp _ _ z1 (λz=>by rw[z,hp]at z1;cases z1),B,z3⟩
 have lo:=e3.wt;apply⟨_,rfl,⟨_,bN.of Z⟩,Zil ?_⟩;refine⟨λi m ys Hx=>i<=ts.length/\m=ts.length - i/\∃(hs:List (AI×AI)) (Tx:Tg),ys=hs.map (λq=>V.ref q.1)/\hs.length=i/\aX H3 Hx/\Ex p H3 Hx Tb Tx/\∀(j:Nat) q m,hs[j]? =some q->hands[j]? =some m->HdO X.D Hx Tx s j q (m.1,List.replicate m.2.toNat none)/\q.1≠p/\q.2≠p,
  ⟨ts.length,Nat.zero_le _,rfl,[],Tb,rfl,rfl,aX.refl _,⟨λ_ _ h _=>h,λ_ o h=>⟨o,h⟩,λ_ _ _=>rfl,lo⟩,λj q m e=>by simp at e⟩,?_⟩
 rintro i m ys Hx ⟨hi,rfl,hs,Tx,rfl,hl,sx,ex,hds⟩
 by_cases hk:i=ts.length
 ·refine .inl ⟨⟨_,bN.of (sx _ _ Z),by rw[aR];omega⟩,λd E=>?_⟩;have ZBo:H3 d=none:=sx.free E;have s4:=aH E (.lst (hs.map λq=>V.ref q.1));have e4:Ex p Hx _ Tx _:=Ex.news (p:=p) (vs:=[(d,(s,5))]) ex.wt s4 (by
   intro v hv;rw[List.mem_singleton.mp hv];exact⟨E,_,aq⟩)
  have t4:([(d,(s,5))].foldr cQ Tx) d=(s,5):=fL;have o4:upd Hx d (.lst (hs.map λq=>V.ref q.1)) d=some (.lst (hs.map λq=>V.ref q.1)):=aq;have A:=sx _ _ g3;have nhp:d≠p:=λz=>by rw[z,A]at E;cases E
  have hp4:=s4 _ _ A;generalize upd Hx d (.lst (hs.map λq=>V.ref q.1))=H4 at s4 e4 o4 hp4 ⊢;generalize ([(d,(s,5))]:List (AI×(Nat×Nat))).foldr cQ Tx=T4 at e4 t4;apply⟨p,X.W,f,_,rfl,hp4,T.cW,T.nWd,by rw[lF3];decide,?_⟩;have e5:=Ex.Zlj (p:=p) (o:=.ins X.W f (cj "hands" (.ref d) u)) e4.wt hp4;have hp5:upd H4 p (.ins X.W f (cj "hands" (.ref d) u)) p=some (.ins X.W f (cj "hands" (.ref d) u)):=aq;generalize upd H4 p (.ins X.W f (cj "hands" (.ref d) u))=H5 at e5 hp5 ⊢;ext;intro nm Y;have nnp:nm≠p:=λz=>by rw[z,hp5]at Y;cases Y
  have s6:=aH Y (.dK []);have e6:Ex p H5 _ T4 _:=Ex.news (p:=p) (vs:=[(nm,(s,6))]) e5.wt s6 (by
   intro v hv;rw[List.mem_singleton.mp hv];exact⟨Y,_,aq⟩)
  have t6:([(nm,(s,6))].foldr cQ T4) nm=(s,6):=fL;have o6:upd H5 nm (.dK []) nm=some (.dK []):=aq;have hp6:=s6 _ _ hp5;generalize upd H5 nm (.dK [])=H6 at s6 e6 o6 hp6 ⊢;generalize ([(nm,(s,6))]:List (AI×(Nat×Nat))).foldr cQ T4=T6 at e6 t6;apply⟨p,X.W,f,_,rfl,hp6,T.cW,T.nWn,by rw[<- O];show 3<1000;decide,?_⟩;have e7:=Ex.Zlj (p:=p) (o:=.ins X.W f br) e6.wt hp6;have M:upd H6 p (.ins X.W f br) p=some (.ins X.W f br):=aq;generalize upd H6 p (.ins X.W f br)=H7 at e7 M ⊢;ext;intro sw ds F nds nes;refine⟨sw,rfl,ds,aq,λgr H8 l b1 b2 k8=>⟨rfl,?_⟩⟩;have Ztk:H7 gr=none:=by
   by_cases z:gr=sw
   ·rw[z,aq]at l;cases l
   ·rw[aD z]at l
    by_cases y:gr=ds
    ·rw[y,aq]at l;cases l
    ·rw[aD y]at l;exact l
  have s8:aX H7 H8:=λb o hb=>k8 b o (by rw[aD (aF hb F),aD (aF hb nds)];exact hb) (aF hb F);have e8:Ex p H7 H8 T6 _:=Ex.news (p:=p) (vs:=[(sw,(s,7)),(gr,(s,8))]) e7.wt s8 (by
   intro v hv;simp only[List.mem_cons,List.not_mem_nil,or_false]at hv;rcases hv with rfl | rfl
   ·exact⟨F,_,b1⟩
   ·exact⟨Ztk,_,b2⟩)
  have nsg:sw≠gr:=lV b1 b2 a4;have ts8:([(sw,(s,7)),(gr,(s,8))].foldr cQ T6) sw=(s,7):=fL;have tg8:([(sw,(s,7)),(gr,(s,8))].foldr cQ T6) gr=(s,8):=(eE nsg.symm).trans fL;generalize ([(sw,(s,7)),(gr,(s,8))]:List (AI×(Nat×Nat))).foldr cQ T6=T8 at e8 ts8 tg8;have hp8:=s8 _ _ M;have nsp:sw≠p:=λz=>by rw[z,M]at F;cases F
  have ngp:gr≠p:=λz=>by rw[z,M]at Ztk;cases Ztk
  clear k8 l;apply⟨p,X.W,f,_,rfl,hp8,T.cW,T.Io,by rw[<- O];show 4<1000;decide,?_⟩;have e9:=Ex.Zlj (p:=p) (o:=.ins X.W f (cj "sweeper" (.ref sw) br)) e8.wt hp8;have hp9:upd H8 p (.ins X.W f (cj "sweeper" (.ref sw) br)) p=some (.ins X.W f (xW hq ki d nm sw)):=by
   rw[aq,<- O,Zjk]
  generalize upd H8 p (.ins X.W f (cj "sweeper" (.ref sw) br))=H9 at e9 hp9 ⊢;have P:=e9;have f69:=e7.trans (e8.trans e9);have f49:=e5.trans (e6.trans f69);have I:=e4.trans f49;have C:=ex.trans I;have g:=e3.trans C;obtain⟨⟨dk,ok⟩,⟨dl,ol⟩⟩:=kd;have hlk:∃o,H lk=some o:=by
   rcases ol with ⟨_,z⟩ | ⟨_,z⟩ | ⟨_,z⟩
   ·exact⟨_,z⟩
   ·exact⟨_,z⟩
   ·exact⟨_,z⟩
  obtain⟨olk,elk⟩:=hlk;refine hQ H9 T8 ⟨p,hq,ca,ki,lk,d,nm,sw,gr,hs,[],[]⟩ g.kp (λb o hb nb=>(g.tg b o hb).trans (U b o hb nb)) g.wt rfl ⟨⟨(g.tg _ _ hp).trans tp,(g.tg _ _ ok).trans ((U _ _ ok nki).trans tki),(g.tg _ _ elk).trans ((U _ _ elk R).trans tlk),(f49.tg _ _ o4).trans t4,⟨f,hp9⟩,⟨dk,g.kp _ _ ok nki⟩,⟨dl,?_⟩,f49.kp _ _ o4 nhp⟩,
   ⟨(C.tg _ _ J).trans th1,(C.tg _ _ L).trans tc1,⟨dh,C.kp _ _ J nph⟩,C.kp _ _ L npc⟩,⟨(f69.tg _ _ o6).trans t6,f69.kp _ _ o6 nnp,.nil⟩,
   ⟨(P.tg _ _ b1).trans ts8,(P.tg _ _ b2).trans tg8,⟨ds,P.kp _ _ b1 nsp⟩,P.kp _ _ b2 ngp⟩,⟨?_,by show hs.length<=30;rw[hl,hk,ltl];exact hn,?_⟩,⟨rfl,λi q c z=>by simp at z⟩⟩
  ·rcases ol with ⟨z,y⟩ | ⟨z,y⟩ | ⟨z,y⟩
   ·exact .inl ⟨z,g.kp _ _ y R⟩
   ·exact .inr (.inl ⟨z,g.kp _ _ y R⟩)
   ·exact .inr (.inr ⟨z,g.kp _ _ y R⟩)
  ·show hs.length=(hands.map _).length;rw[aR,hl,hk,ltl]
  ·intro j q m z1 B;have B:(hands.map λm=>(m.1,List.replicate m.2.toNat none))[j]? =some m:=B;rw[bL]at B;obtain⟨m0,y1,rfl⟩:=Option.map_eq_some_iff.mp B;obtain⟨⟨u1,u2,⟨du,u3⟩,u4⟩,v1,v2⟩:=hds j q m0 z1 y1;exact⟨(I.tg _ _ u3).trans u1,(I.tg _ _ u4).trans u2,⟨du,I.kp _ _ u3 v1⟩,I.kp _ _ u4 v2⟩
 ·have N:i<ts.length:=δ
  refine .inr ⟨⟨_,_,bN.of (sx _ _ Z),by rw[bL,bG N];rfl⟩,?_,λx H' y=>?_⟩
  ·rw[aR,hl];exact Nat.lt_of_lt_of_le N (aQ δ)
  obtain⟨y1,y2⟩:=y;subst y1;have ey:=y2 _ (bN.of (sx _ _ Z));rw[bL,bG N]at ey;have ey:x=.ref ts[i]:=(Option.some.inj ey).symm;subst ey;obtain⟨m,hm,ot,m0,m1⟩:=Zxv i _ (bG N);refine yW (Ze1 ⟨ts[i],.str m.1,.int m.2,_,rfl,dR.of (sx _ _ ot),?_⟩);walk_at"c";ext;intro q1 dq nq ndq neq;refine⟨q1,m.1,m.2,rfl,dq,aq,m0,m1,λsa Hy r b1 b2 k=>⟨rfl,?_⟩⟩;have Ztg:H' sa=none:=by
   by_cases z:sa=q1
   ·rw[z,aq]at r;cases r
   ·rw[aD z]at r
    by_cases y:sa=dq
    ·rw[y,aq]at r;cases r
    ·rw[aD y]at r;exact r
  have sy:aX H' Hy:=λb o hb=>k b o (by rw[aD (aF hb nq),aD (aF hb ndq)];exact hb) (aF hb nq);have ey:Ex p H' Hy Tx _:=Ex.news (p:=p) (vs:=[(q1,(s,20+2 * i)),(sa,(s,21+2 * i))]) ex.wt sy (by
   intro v hv;simp only[List.mem_cons,List.not_mem_nil,or_false]at hv;rcases hv with rfl | rfl
   ·exact⟨nq,_,b1⟩
   ·exact⟨Ztg,_,b2⟩)
  have nqs:q1≠sa:=lV b1 b2 a4;have A:=sx _ _ g3;refine⟨ts.length - cy,δ,δ,rfl,hs++[(q1,sa)],_,by rw[List.map_append];rfl,by rw[List.length_append,hl];rfl,sx.trans sy,ex.trans ey,λj q m' z1 B=>?_⟩
  by_cases hj:j<hs.length
  ·rw[List.getElem?_append_left hj]at z1;obtain⟨⟨u1,u2,⟨du,u3⟩,u4⟩,v1,v2⟩:=hds j q m' z1 B;exact⟨⟨(ey.tg _ _ u3).trans u1,(ey.tg _ _ u4).trans u2,⟨du,sy _ _ u3⟩,sy _ _ u4⟩,v1,v2⟩
  ·have hj':=(cI z1).1;rw[List.length_append,List.length_singleton]at hj';have ej:j=hs.length:=δ
   subst ej;rw[List.getElem?_append_right Δ,Nat.sub_self]at z1;cases z1;rw[hl]at B ⊢;rw[hm]at B;cases B;exact⟨⟨fL,(eE nqs.symm).trans fL,⟨dq,b1⟩,by rw[b2,List.map_replicate];rfl⟩,(λz=>by rw[show q1=p from z,A]at nq;cases nq),(λz=>by rw[show sa=p from z,A]at Ztg;cases Ztg)⟩
end
def jP(M:Wm)(i:Int)(c:Ce):Str:=if M.sw.phase="rest" then "kept" else if M.sw.phase="give" then(if c.tone=M.sw.sense then "kept" else "doomed")else if c.tone=M.sw.sense then(if i∈M.sw.grey then "grey" else "dark")else "pale"
def iK(M:Wm):List (Int×Ce):=(List.range M.cells.length).filterMap λ(i:Nat)=>((M.cells[i]?).join).map λc=>((i:Int),c)
inductive JX(X:Cs)(wo:AI)(i:Int)(H:Hp)(Q:VK):Prop
 | mk (T s A M c) (_:WJ X H T s A M) (_:A.wo=wo) (_:0<=i) (_:M.cells[i.toNat]? =some (some c)) (_:Q (.str (jP M i c)) H):JX X wo i H Q
def YB(X:Cs):Sp:=λvs H Q E=>∃wo i,vs=[.ref wo,.int i]/\JX X wo i H Q
def TcO(M:Wm)(H:Hp)(p:AI×AI)(t:Int×Ce):Prop:=H p.1=some (.tup [.int t.1,.int t.2.birth,.int t.2.bulk,.int t.2.load,.ref p.2,.str (jP M t.1 t.2)])/\H p.2=some (.lst ((t.2.fl.map (nD M)).map oV))
inductive zp(X:Cs)(wo:AI)(i:Int)(H:Hp)(Q:VK):Prop
 | mk (T s A M c) (_:WJ X H T s A M) (_:A.wo=wo) (_:0<=i) (_:M.cells[i.toNat]? =some (some c)) (_:c.fl.length<=1000) (_:∀a l H',aX H H'->H a=none->H l=none->TcO M H' (a,l) (i,c)->Q (.ref a) H'):zp X wo i H Q
def NQ(X:Cs):Sp:=λvs H Q E=>∃wo i,vs=[.ref wo,.int i]/\zp X wo i H Q
inductive Zhk(X:Cs)(wo:AI)(H:Hp)(Q:VK):Prop
 | mk (T s A M) (_:WJ X H T s A M) (_:A.wo=wo) (_:M.cells.length<=1000) (_:(∀c,some c∈M.cells->c.fl.length<=1000)) (_:∀(l:AI) (ls:AF) H',aX H H'->H' l=some (.lst (ls.map V.ref))->ls.length=(iK M).length->(∀(j:Nat) r t,ls[j]? =some r->(iK M)[j]? =some t->∃f,TcO M H' (r,f) t/\H f=none/\H r=none)->H l=none->Q (.ref l) H'):Zhk X wo H Q
def Zbp(X:Cs):Sp:=λvs H Q E=>∃wo,vs=[.ref wo]/\Zhk X wo H Q
theorem Zmh{X:Cs}{H:Hp}{T:Tg}{s:Nat}{A:Wa}{M:Wm}(j:WJ X H T s A M):plc df=(iK M).map (·.1):=by
 have a:∀i,i<M.cells.length->(decide ((A.cs.map pV)[i]? =some V.non)=true↔(M.cells[i]?).join=none):=λi b=>by
  rw[decide_eq_true_iff,bL];cases hc:M.cells[i]? with
  | none=>rw[List.getElem?_eq_none_iff]at hc;omega
  | some y=>cases y with
   | none=>rw[j.jc.at0 hc];simp[pV]
   | some c=>
    obtain⟨p,hp,_⟩:=j.jc.at hc;rw[hp];simp[pV]
 unfold plc iK;rw[aR,j.jc.lc];generalize hn:M.cells.length=n at a;clear hn
 induction n with
 | zero=>rfl
 | succ n d=>
  rw[List.range_succ,List.filter_append,List.map_append,List.filterMap_append,List.map_append,d λi b=>a i δ];congr 1;have k:=a n δ;cases hc:(M.cells[n]?).join with
  | none=>
   have:decide ((A.cs.map pV)[n]? =some V.non)=true:=k.mpr hc;simp only[List.filter_cons,this,Bool.not_true,List.filter_nil,List.filterMap_cons,hc,Option.map_none,List.filterMap_nil];rfl
  | some c=>
   have:decide ((A.cs.map pV)[n]? =some V.non)=false:=by
    cases hd:decide ((A.cs.map pV)[n]? =some V.non)with
    | false=>rfl
    | true=>rw[k.mp hd]at hc;cases hc
   simp only[List.filter_cons,this,Bool.not_false,List.filter_nil,List.filterMap_cons,hc,Option.map_some,List.filterMap_nil];rfl
theorem Zhz{M:Wm}{j:Nat}{t:Int×Ce}(h:(iK M)[j]? =some t):0<=t.1/\M.cells[t.1.toNat]? =some (some t.2):=by
 have hm:=List.mem_of_getElem? h;unfold iK at hm;obtain⟨i,a,e⟩:=List.mem_filterMap.mp hm;obtain⟨c,hc,rfl⟩:=Option.map_eq_some_iff.mp e;refine⟨by show(0:Int)<=(i:Nat);omega,?_⟩;show M.cells[((i:Nat):Int).toNat]? =some (some c);rw[Int.toNat_natCast];cases hx:M.cells[i]? with
 | none=>rw[hx]at hc;cases hc
 | some y=>rw[hx]at hc;rw[show y=some c from hc]
section
variable {K:aB}{X:Cs}{H:Hp}{Q:VK}{E:XK}{n:ν}{bk ct:ν}
theorem Ze6{i:Int}{l:AE}:inV (.int i) (l.map V.int)=decide (i∈l):=by
 unfold inV
 induction l with
 | nil=>rfl
 | cons a l c=>
  rw[List.map_cons,List.any_cons,c]
  by_cases e:i=a
  ·subst e;simp[Ys]
  ·have b:¬ a=i:=λz=>e z.symm;simp[Ys,e,b]
theorem Zg6{wo:AI}{i:Int}(T:lq K X)(q:JX X wo i H Q):Qt K (iB X) ξ [↑wo,some (.int i),none,none] H:=by
 obtain⟨Tg,s,A,M,c,j,rfl,b,hc,q⟩:=q;obtain⟨d1,ow⟩:=j.jb.ow;obtain⟨d2,os⟩:=j.js.os;obtain⟨th,tc,⟨d3,oh⟩,oc⟩:=j.jh;obtain⟨p,hp,ce⟩:=j.jc.at hc;unfold Qt;apply aJ ow T.cW T.Io aV ?_;apply aJ ow T.cW T.Gy bz ?_;refine aJ oh T.c.cT T.c.bR bM ?_;apply fD (bN.of oc) (iW (v:=.ref p.1) b (by rw[bL,hp];rfl)) ?_;exists _,_,rfl,Tg,s,A,M,_,p,c,j.w0,rfl,ce,rfl;apply aJ os T.cS T.n2 cY ?_;ext;unfold jP at q;refine mG bp bp
 ·rw[if_pos z]at q;apply q
 ·rw[if_neg z]at q;apply aJ os T.cS T.n2 cY ?_;apply mG (λy=>?_) (λy=>?_)
  ·rw[if_pos y]at q;apply mG (λx=>?_) (λx=>?_)
   ·rw[if_pos x]at q;apply q
   ·rw[if_neg x]at q;apply q
  ·rw[if_neg y]at q;apply qT (λx=>?_) (λx=>?_)
   ·rw[if_neg x]at q;apply q
   ·rw[if_pos x]at q;apply aJ os T.cS T.n3 iZ ?_;refine⟨_,_,rfl,.inl (bN.of j.js.og),rfl,?_,?_⟩
    ·rw[List.all_map,List.all_eq_true];intro a _;rfl
    rw[if_neg ε,Ze6];apply mG (λy=>?_) (λy=>?_)
    ·rw[if_pos y]at q;apply q
    ·rw[if_neg y]at q;apply q
theorem YH{wo:AI}{i:Int}(T:lq K X)(q:zp X wo i H Q):
  Fg K (pD X) (YB X) ξ [↑wo,some (.int i),none,none] H:=by
 obtain⟨Tg,s,A,M,c,j,rfl,d,hc,hl,q⟩:=q;obtain⟨d1,ow⟩:=j.jb.ow;obtain⟨th,tc,⟨d3,oh⟩,oc⟩:=j.jh;obtain⟨p,hp,ce⟩:=j.jc.at hc;obtain⟨t1,t2,⟨h,o1⟩,o2⟩:=id ce;unfold Fg;apply aJ ow T.cW T.Gy bz ?_;refine aJ oh T.c.cT T.c.bR bM ?_;apply fD (bN.of oc) (iW (v:=.ref p.1) d (by rw[bL,hp];rfl)) ?_;apply aJ ow T.cW T.Gy bz ?_;apply aJ o1 T.c.dD T.c.fW ig ?_;apply⟨_,_,rfl,Tg,s,A,M,c.fl,j,rfl,o2,hl,λl nl=>?_⟩;generalize zz:upd H l _=H1;obtain⟨b,g⟩:=nwO nl zz;apply aJ (b _ _ o1) T.c.dD T.c.eF fG ?_;apply aJ (b _ _ o1) T.c.dD T.c.o8 CT ?_;apply aJ (b _ _ o1) T.c.dD T.c.jY uf ?_;exists _,_,rfl,Tg,s,A,M,c,j.same b,rfl,d,hc;apply⟨aQ ζ,λa e=>?_⟩;have f:=aH e (.tup [.int i,.int c.birth,.int c.bulk,.int c.load,.ref l,.str (jP M i c)]);exact q a l _ (b.trans f) (b.free e) nl ⟨aq,f _ _ g⟩
theorem Uz{wo:AI}(T:lq K X)(q:Zhk X wo H Q):
  Bc K X.H (qb X.H) (NQ X) ξ [↑wo] H:=by
 obtain⟨Tg,s,A,M,j,rfl,hc,O,q⟩:=q;obtain⟨d1,ow⟩:=j.jb.ow;obtain⟨th,tc,⟨d3,oh⟩,oc⟩:=j.jh;have hl:(iK M).length<=1000:=by
  have:=List.length_filterMap_le (λ(i:Nat)=>((M.cells[i]?).join).map λc=>((i:Int),c)) (List.range M.cells.length);rw[List.length_range]at this;exact Nat.le_trans this hc
 unfold Bc;apply Cp ?_;apply aJ ow T.cW T.Gy bz ?_;refine⟨A.hp,d3,_,rfl,oh,zb,?_⟩;apply⟨_,rfl,_,_,_,_,_,j.hpO,by rw[aR,j.jc.lc];exact hc,λP B=>?_⟩;rw[Zmh j];generalize zz:upd H P _=J;obtain⟨h,D⟩:=nwO B zz;refine⟨_,rfl,⟨_,bN.of D⟩,?_⟩;refine R1 (bN.of D) (by rw[aR,aR];omega) (λi r F=>∃t f,(iK M)[i]? =some t/\TcO M F (r,f) t/\H f=none) (by rintro _ _ _ _ ⟨t,f,e,⟨z1,y⟩,w⟩ s;exact⟨t,f,e,⟨s _ _ z1,s _ _ y⟩,w⟩) (by rintro _ _ _ ⟨_,_,_,⟨z,_⟩,_⟩;exact⟨_,z⟩) (λx J q hq=>yW hq) (λi x U g m W hq=>?_) ?_
 ·rw[bL,bL]at g;cases o:(iK M)[i]? with
  | none=>rw[o]at g;cases g
  | some t=>
   rw[o]at g;cases g;obtain⟨R,b⟩:=Zhz o;walk_at"c";apply⟨_,_,rfl,Tg,s,A,M,t.2,j.same (h.trans m),rfl,R,b,O _ (List.mem_of_getElem? b),λa l L d N nl u=>?_⟩;exact hq a L d N ⟨t,l,o,u,(h.trans m).free nl⟩
 ·intro rs S m v _ E hr p hp;have d:=aH hp (.lst (rs.map V.ref));refine q p rs _ (h.trans (m.trans d)) aq (by rw[v,aR,aR]) (λk r t C I=>?_) (h.free (m.free hp));obtain⟨Y,f,e3,⟨z1,y⟩,w⟩:=hr k r C;rw[I]at e3;cases e3;exact⟨f,⟨d _ _ z1,d _ _ y⟩,w,h.free (E r (List.mem_of_getElem? C))⟩
end
section
variable {K:aB}{X:Cs}{H:Hp}{Q:VK}{E:XK}{T:Tg}{s:Nat}{A:Wa}{M:Wm}
theorem Zkx{i:Nat}{c:Ce}(j:WJ X H T s A M)(w:WT H T)(m:s≠0)(hc:M.cells[i]? =some (some c))
  (k:∀H' d,gD s H H' T T->WJ X H' T s d { M with used:=M.used - (1+c.fl.length+c.bulk),cells:=M.cells.set i none }->d.wo=A.wo/\d.sw=A.sw->Q (.int c.birth) H'):
  zL X.C X.H [.ref A.hp,.int i] H Q E:=by
 obtain⟨th,tc,⟨l,oh⟩,oc⟩:=j.jh;obtain⟨h,g,ce⟩:=j.jc.at hc;obtain⟨_,_,⟨p,o1⟩,f⟩:=id ce;have hl:=(cI hc).1;refine⟨A.hp,i,rfl,A.ca,l,M.room,M.used,M.born,A.cs.map pV,h.1,h.2,c.birth,c.bulk,c.tone,c.load,c.fl.map oV,δ,oh,oc,by rw[Int.toNat_natCast,bL,g];rfl,⟨⟨p,o1⟩,f⟩,?_⟩;rw[Int.toNat_natCast,aR];have a:A.hp≠A.ca:=lV oh oc a4;obtain⟨e,n⟩:=j.back w m (i:=i) (used':=M.used - (1+c.fl.length+c.bulk)) (by rw[j.jc.lc];exact hl) (upd (upd H A.hp (.ins X.H l (jo M.room A.ca (M.used - (1+c.fl.length+c.bulk)) M.born))) A.ca (.lst ((A.cs.map pV).set i V.non)))
  (λb o hb n1 n2=>by rw[aD n2,aD n1];exact hb) (by rw[aD a];exact aq) aq
 exact k _ _ e n ⟨rfl,rfl⟩
end
def heldOf(M:Wm):List Au:=M.hands.map (·.2)
inductive Zhm(X:Cs)(wo:AI)(H:Hp)(Q:VK):Prop
 | mk (T s A M) (_:WJ X H T s A M) (_:A.wo=wo) (_:M.hands.length<=1000) (_:∀(l:AI) (ls:AF) H',aX H H'->H l=none->H' l=some (.lst (ls.map V.ref))->ls.length=(heldOf M).length->ls.Nodup->(∀r∈ls,H r=none)->l∉ls->(∀(j:Nat) r x,ls[j]? =some r->(heldOf M)[j]? =some x->H' r=some (.lst (x.map oV)))->Q (.ref l) H'):Zhm X wo H Q
def Zhs(X:Cs):Sp:=λvs H Q E=>∃wo,vs=[.ref wo]/\Zhm X wo H Q
section
variable {K:aB}{X:Cs}{H:Hp}{Q:VK}{E:XK}{n:ν}{bk ct:ν}
theorem Zqt{wo:AI}(T:lq K X)(q:Zhm X wo H Q):
  Zh K ξ [↑wo] H:=by
 obtain⟨Tg,s,A,M,j,rfl,hl,q⟩:=q;obtain⟨v,ow⟩:=j.jb.ow;unfold Zh;apply Cp ?_;apply aJ ow T.cW T.nWd dH ?_;have l5:=j.jd.l5;refine⟨_,rfl,⟨_,bN.of j.jb.on⟩,?_⟩;refine R1 (bN.of j.jb.on) (by rw[aR];omega) (λi r g=>∃x,(heldOf M)[i]? =some x/\g r=some (.lst (x.map oV))) (by rintro _ _ _ _ ⟨x,e,z⟩ s;exact⟨x,e,s _ _ z⟩) (by rintro _ _ _ ⟨_,_,z⟩;exact⟨_,z⟩) (λx t q hq=>yW hq) (λi x t b a C hq=>?_) ?_
 ·rw[bL]at b;obtain⟨p,hp,rfl⟩:=Option.map_eq_some_iff.mp b;have w:=j.same a;obtain⟨m,hm,hd⟩:=w.hand hp;obtain⟨v,o1⟩:=hd.o1;walk_at"c";apply aJ o1 T.cD T.nDs m7 ?_;apply Zam (bN.of hd.o2) λl hl=>?_;exact hq l _ (aH hl _) hl ⟨_,by unfold heldOf;rw[bL,hm];rfl,aq⟩
 ·intro rs B a hl nd f hr p hp;have c:=aH hp (.lst (rs.map V.ref));refine q p rs _ (a.trans c) (a.free hp) aq ?_ nd f bp λh r x u o=>?_
  ·rw[hl,aR];unfold heldOf;rw[aR,j.jd.lh]
  ·obtain⟨k,hk,e⟩:=List.getElem_of_mem z;obtain⟨_,_,d⟩:=hr k p (by rw[bG hk,e]);rw[hp]at d;cases d
  ·obtain⟨y,e3,z⟩:=hr h r u;rw[o]at e3;cases e3;exact c _ _ z
end
def kZ(w:Int)(h:Nat):Int:=if w=0 then 2 ^ h - 1 else 0
def wA(M:Wm):Wm:={ M with sw:={ M.sw with sense:=1 - M.sw.sense,phase:="walk",grey:=[],looked:=kZ M.w M.hands.length,turn:=M.sw.turn+1,walks:=0,looks:=0,passes:=0 } }
def Ur:Sp:=λvs H Q E=>∃h,vs=[.int h]/\0<=h/\h<=30/\Q (.int (2 ^ h.toNat - 1)) H
def wL(k:Nat):Sp:=λvs H Q E=>∃a h,vs=[.ref a,.int h]/\0<=h/\h<=30/\Q (.int (if k=0 then 2 ^ h.toNat - 1 else 0)) H
inductive Zbo(X:Cs)(wo:AI)(H:Hp)(Q:VK):Prop
 | mk (T s A M) (_:WT H T) (_:s≠0) (_:WJ X H T s A M) (_:A.wo=wo) (_:∀H' T' A',gD s H H' T T'->WJ X H' T' s A' (wA M)->A'.wo=wo/\A'.sw=A.sw->Q .non H'):Zbo X wo H Q
def Zjg(X:Cs):Sp:=λvs H Q E=>∃wo,vs=[.ref wo]/\Zbo X wo H Q
section
variable {X:Cs}{H H':Hp}{T T':Tg}{s:Nat}{A:Wa}{M:Wm}
theorem WJ.Zqa(j:WJ X H T s A M)(w:WT H T)(i:s≠0){dx l:AI}(S:Sw)(hl:H l=none)(K:S.grey=[]):
  gD s H bP T (eZ T l (s,8))/\
  WJ X bP (eZ T l (s,8)) s { A with gr:=l } { M with sw:=S }:=by
 obtain⟨ts,tg,⟨P,os⟩,og⟩:=id j.js;have d:l≠A.sw:=(aF os hl).symm;have k:WT eD (eZ T l (s,8)):=Zf2 (w.same (aH hl _)) aq;have g:gD s H eD T (eZ T l (s,8)):=⟨λb o h _=>(aH hl _) _ _ h,λb o h=>⟨o,(aH hl _) _ _ h⟩,λb o h=>eE (aF h hl),k⟩;have c:WJ X eD (eZ T l (s,8)) s A M:=j.fresh hl;obtain⟨a,L,⟨x,e⟩,t⟩:=id c.js;refine⟨g.trans (gD.upd k e (by rw[a])),?_⟩;have f:uh s (·=7) eD bP (eZ T l (s,8)) (eZ T l (s,8)):=uh.yJ a;have y:=c.jb.mv f (lQ i a) δ δ;have C:=c.jh.mv f δ δ;have D:=c.jn.mv f (lQ i a) δ;have B:=c.jd.mv f λ_ _ _=>δ
 have J:=c.jc.mv f λ_ _=>δ
 obtain⟨N,q,v,p,u,r,z,m⟩:=y;obtain⟨y1,E,F,O⟩:=C;obtain⟨z1,I,n⟩:=D;exact⟨⟨N,q,v,p,u,r,z,m⟩,⟨y1,E,F,O⟩,⟨z1,I,n⟩,⟨a,fL,⟨dx,aq⟩,by rw[aD d,aq,K];rfl⟩,B,J⟩
end
section
variable {K:aB}{X:Cs}{H:Hp}{Q:VK}{E:XK}{n:ν}{bk ct:ν}
theorem Zj6{j:Int}(a:0<=j)(h1:j<=1000):Uu 1 j:=⟨a,δ,ε⟩
theorem Zlb{h:Int}(q:0<=h/\h<=30/\Q (.int (2 ^ h.toNat - 1)) H):Xa ξ [some (.int h)] H:=by
 obtain⟨a,h1,q⟩:=q;unfold Xa;exists _,_,rfl,rfl,Zj6 a δ;ext;rw[Int.one_mul];exact q
theorem Ah{a:AI}{h:Int}(q:0<=h/\h<=30/\Q (.int (if (1:Nat)=0 then 2 ^ h.toNat - 1 else 0)) H):pO ξ [↑a,some (.int h)] H:=by
 unfold pO;apply q.2.2
theorem Ij{a:AI}{h:Int}(q:0<=h/\h<=30/\Q (.int (if (0:Nat)=0 then 2 ^ h.toNat - 1 else 0)) H):rM Ur ξ [↑a,some (.int h)] H:=by
 obtain⟨b,h1,q⟩:=q;unfold rM;apply⟨h,rfl,b,h1,q⟩
theorem Zp3{wo:AI}(c:lq K X)(q:Zbo X wo H Q):
  Zcj K X.E X.F X.L (wL 0) (wL 1) ⟨λ_ H'=>Q .non H',Q,bk,ct⟩ [↑wo,none] H:=by
 obtain⟨T,s,A,M,w,O,j,rfl,q⟩:=q;obtain⟨W,ow⟩:=j.jb.ow;obtain⟨g,os⟩:=j.js.os;obtain⟨U,ok⟩:=j.jb.ok;obtain⟨dl,ol⟩:=j.jb.ol;have on:=j.jb.on;have lh:=j.jd.lh;have l5:=j.jd.l5;unfold Zcj;apply aJ ow c.cW c.Io aV ?_;apply aJ os c.cS c.n1 jF ?_;apply⟨A.sw,X.S,g,_,rfl,os,c.cS,c.n1,by show 11<1000;decide,?_⟩;rw[Iw];apply aJ aq c.cS c.n5 mL ?_;apply⟨A.sw,X.S,g,_,rfl,aq,c.cS,c.n5,by show 11<1000;decide,?_⟩;rw[Od,dI];apply⟨A.sw,X.S,g,_,rfl,aq,c.cS,c.n2,by show 11<1000;decide,?_⟩;rw[kj,dI];apply⟨ε,λgr k=>?_⟩;have u:A.sw≠gr:=aF aq k;have v:H gr=none:=by rw[aD u.symm]at k;exact k
 apply⟨A.sw,X.S,g,_,rfl,by rw[aD u];exact aq,c.cS,c.n3,by show 11<1000;decide,?_⟩;rw[Oh];have N:∀(a b:HO) (o:HO),upd (upd (upd H A.sw a) gr o) A.sw b=upd (upd H gr o) A.sw b:=λa b o=>by
  funext x
  by_cases z:x=A.sw
  ·rw[z,aq,aq]
  ·rw[aD z,aD z]
   by_cases y:x=gr
   ·rw[y,aq,aq]
   ·rw[aD y,aD y,aD z]
 rw[N];have fin:∀{lo:Int}{I:St},I=[↑A.wo,↑A.sw]->lo=kZ M.w M.hands.length->∀(r:Hp),r=upd (upd H gr (.lst [])) A.sw (.ins X.S g cc)->
   (∃a C dx fs,V.ref A.sw=.ref a/\r a=some (.ins C dx fs)/\Py K C/\cX K C "looked"/\fs.length<1000/\(aN (fH K χ τ "walks") (aN (fH K χ τ "looks") (fH K χ τ "passes"))) ⟨λ_ H'=>Q .non H',Q,bk,ct⟩ I (upd r a (.ins C dx (cj "looked" (.int lo) fs)))):=by
  rintro lo I rfl D r rfl;refine⟨A.sw,X.S,g,_,rfl,aq,c.cS,c.n4,by show 11<1000;decide,?_⟩;rw[rF,dI];apply⟨A.sw,X.S,g,_,rfl,aq,c.cS,c.n8,by show 11<1000;decide,?_⟩;rw[ur,dI];apply⟨A.sw,X.S,g,_,rfl,aq,c.cS,c.n9,by show 11<1000;decide,?_⟩;rw[nJ,dI];apply⟨A.sw,X.S,g,_,rfl,aq,c.cS,c.n10,by show 11<1000;decide,?_⟩;rw[rE,dI];obtain⟨st,P⟩:=j.Zqa w O (dx:=g) (l:=gr) { M.sw with sense:=1 - M.sw.sense,phase:="walk",grey:=[],looked:=kZ M.w M.hands.length,turn:=M.sw.turn+1,walks:=0,looks:=0,passes:=0 } v rfl;subst D;exact q _ _ _ st P ⟨rfl,rfl⟩
 have kp:∀b o,H b=some o->b≠A.sw->upd (upd H gr (.lst [])) A.sw (.ins X.S g cc) b=some o:=λb o hb R=>by
  rw[aD R,aD (aF hb v)];exact hb
 have t:∀{a:AI}{C d:AI}{fs:List (Str×V)},H a=some (.ins C d fs)->fs.length<11->a≠A.sw:=λe hl z=>by
  rw[z,os]at e;have:=Option.some.inj e
  injection this with _ _ e3
  rw[<- e3]at hl;exact absurd hl (by show ¬ 11<11;decide)
 have f:=kp _ _ ow (t ow (by show 5<11;decide));have h:=kp _ _ ok (t ok (by show 2<11;decide));have i:=kp _ _ on (lV on os a4);generalize m:upd (upd H gr (.lst [])) A.sw (.ins X.S g cc)=r at kp f h i ⊢;have n:((A.hs.map λp=>V.ref p.1).length:Int)=(M.hands.length:Int):=by rw[aR,lh]
 refine yX ?_;left;rcases ol with ⟨J,o⟩ | ⟨J,o⟩ | ⟨J,o⟩
 ·have B:=kp _ _ o (t o (by show 0<11;decide));refine X4 ?_;left;refine aJ f c.cW c.nWk iY ?_;refine aJ h c.cK c.nKl kY ?_;left;refine⟨A.lk,dl,_,rfl,B,rfl,?_⟩;left;refine aJ f c.cW c.nWd dH ?_;left;refine eU (bN.of i) ?_;rw[n];left;refine⟨A.lk,_,rfl,δ,δ,?_⟩;left;exact fin rfl (by unfold kZ;rw[if_pos J,if_pos rfl,Int.toNat_natCast]) _ m.symm
 ·have B:=kp _ _ o (t o (by show 0<11;decide));refine Hl (X4 ?_);left;refine aJ f c.cW c.nWk iY ?_;refine aJ h c.cK c.nKl kY ?_;left;refine⟨A.lk,dl,_,rfl,B,rfl,?_⟩;left;refine aJ f c.cW c.nWd dH ?_;left;refine eU (bN.of i) ?_;rw[n];left;refine⟨A.lk,_,rfl,δ,δ,?_⟩;left;exact fin rfl (by unfold kZ;rw[if_neg (show ¬ (1:Nat)=0 by decide),if_neg δ]) _ m.symm
 ·have B:=kp _ _ o (t o (by show 0<11;decide));refine Hl (Hl ?_);left;refine aJ f c.cW c.nWk iY ?_;refine aJ h c.cK c.nKl kY ?_;left;refine⟨A.lk,dl,_,rfl,B,rfl,?_⟩;left;refine aJ f c.cW c.nWd dH ?_;left;refine eU (bN.of i) ?_;rw[n];left;refine⟨A.lk,_,rfl,δ,δ,?_⟩;left;exact fin rfl (by unfold kZ;rw[if_neg (show ¬ (1:Nat)=0 by decide),if_neg δ]) _ m.symm
end
def Ai(M:Wm):Bool:=decide (M.sw.phase="walk"\/M.sw.phase="lost")
def nG(M:Wm)(p b:Int):AA:=if jq M p b=true then none else match cellAt M p with
 | none=>none
 | some c=>if Ai M=true/\¬ c.tone=M.sw.sense then none else some p
inductive wD(X:Cs)(wo:AI)(H:Hp)(Q:VK):Prop
 | mk (T s A M) (_:WJ0 X H T s A M) (_:A.wo=wo) (_:∀H',aX H H'->Q (.bl (Ai M)) H'):wD X wo H Q
def Ig(X:Cs):Sp:=λvs H Q E=>∃wo,vs=[.ref wo]/\wD X wo H Q
inductive JV(X:Cs)(wo:AI)(p:Int)(b:Int)(H:Hp)(Q:VK):Prop
 | mk (T s A M) (_:WJ0 X H T s A M) (_:A.wo=wo) (_:∀H',aX H H'->Q (oV (nG M p b)) H'):JV X wo p b H Q
def Yz(X:Cs):Sp:=λvs H Q E=>∃wo p b,vs=[.ref wo,.int p,.int b]/\JV X wo p b H Q
section
variable {K:aB}{X:Cs}{H:Hp}{Q:VK}{E:XK}{n:ν}{bk ct:ν}
theorem Vr{wo:AI}(T:lq K X)(q:wD X wo H Q):Bh K ξ [↑wo] H:=by
 obtain⟨Tg,s,A,M,j,rfl,q⟩:=q;obtain⟨d1,ow⟩:=j.jb.ow;obtain⟨d2,os⟩:=j.js.os;unfold Bh;apply aJ ow T.cW T.Io aV ?_;apply aJ os T.cS T.n2 cY ?_;apply⟨aQ ζ,λtp d=>?_⟩;generalize zz:upd H tp _=H1;obtain⟨b,e⟩:=nwO d zz;refine⟨tp,_,rfl,.inr (dR.of e),rfl,rfl,?_⟩;have q:=q H1 b;rw[show Ai M=(if false=true then !inV (V.str M.sw.phase) [V.str "walk",.str "lost"]else inV (V.str M.sw.phase) [V.str "walk",.str "lost"])from by
  rw[if_neg Bool.false_ne_true];unfold Ai inV
  by_cases h1:M.sw.phase="walk"
  ·simp[h1,Ys]
  ·by_cases h2:M.sw.phase="lost"
   ·simp[h2,Ys]
   ·have c:¬ ("walk":Str)=M.sw.phase:=λz=>h1 z.symm;have a:¬ ("lost":Str)=M.sw.phase:=λz=>h2 z.symm;simp[h1,h2,c,a,Ys]]at q
 exact q
theorem Zfq{wo:AI}{p b:Int}(T:lq K X)(q:JV X wo p b H Q):Qs K (Zbv X) (iB X) (Ig X) ξ [↑wo,some (.int p),some (.int b)] H:=by
 obtain⟨Tg,s,A,M,j,rfl,q⟩:=q;unfold Qs;exists _,_,_,rfl,Tg,s,A,M,j,rfl;have h:∀c,cellAt M p=some c->jq M p b=false->nG M p b=if Ai M=true/\¬ c.tone=M.sw.sense then none else some p:=λc hc a=>by
  unfold nG;rw[a,if_neg Bool.false_ne_true,hc]
 cases a:jq M p b with
 | true=>
  ext;have:=q H (aX.refl _);rw[show nG M p b=none from if_pos a]at this;exact this
 | false=>
  apply⟨_,rfl,Tg,s,A,M,j,rfl,λu k=>?_⟩;obtain⟨c,hc⟩:∃c,cellAt M p=some c:=by
   cases e:cellAt M p with
   | none=>
    have:jq M p b=true:=by unfold jq;rw[e]
    rw[this]at a;cases a
   | some c=>exact⟨c,rfl⟩
  have q:=q u k;rw[h c hc a]at q;have d:=j.same k;cases l:Ai M with
  | false=>
   ext;rw[if_neg (λz=>by rw[l]at z;cases z.1)]at q;exact q
  | true=>
   ext;obtain⟨d1,ow⟩:=d.jb.ow;obtain⟨y,oh⟩:=d.jh.oh;rcases d.look (some p)with ⟨f,_⟩ | ⟨i,x,o,w,t,m,r,hp,_,ce⟩
   ·have f:cellAt M p=none:=f;rw[hc]at f;cases f
   cases w;rw[hc]at m;cases m;refine aJ ow T.cW T.Gy bz ?_;apply aJ oh T.c.cT T.c.bR bM ?_;apply fD (bN.of d.jh.oc) (iW (v:=.ref o.1) t (by rw[bL,hp];rfl)) ?_;exists _,_,rfl,Tg,s,A,M,_,o,c,d,rfl,ce,rfl;ext
   by_cases g:c.tone=M.sw.sense
   ·rw[if_neg (λz=>z.2 g)]at q;refine qT (λz=>absurd g z) aT;apply q
   ·rw[if_pos ⟨l,g⟩]at q;refine qT aT (λz=>absurd z g);apply q
end
def dU(M:Wm):Au:=M.names.map λm=>nG M m.2.1 m.2.2
def cP(M:Wm):List Au:=heldOf M++[dU M]
inductive Zbh(X:Cs)(wo:AI)(H:Hp)(Q:VK):Prop
 | mk (T s A M) (_:s≠0) (_:WJ X H T s A M) (_:A.wo=wo) (_:M.hands.length<=1000) (_:M.names.length<=1000) (_:∀(l:AI) (ls:AF) H',aX H H'->H l=none->H' l=some (.lst (ls.map V.ref))->ls.length=(cP M).length->(∀r∈ls,H r=none)->l∉ls->(∀(j:Nat) r x,ls[j]? =some r->(cP M)[j]? =some x->H' r=some (.lst (x.map oV)))->Q (.ref l) H'):Zbh X wo H Q
def Px(X:Cs):Sp:=λvs H Q E=>∃wo,vs=[.ref wo]/\Zbh X wo H Q
section
variable {K:aB}{X:Cs}{H:Hp}{Q:VK}{E:XK}{n:ν}{bk ct:ν}
theorem Zwb{T:Tg}{ns:AF}{names:List b8}(h:Al (NmO H T) ns names):∀{i:Nat}{kv:L2.Key×V},(m5 names ns)[i]? =some kv->∃t m,names[i]? =some m/\kv.2=.ref t/\H t=some (.tup [.int m.2.1,.int m.2.2])/\T t=(0,0):=by
 induction h with
 | nil=>intro i kv e;simp[m5]at e
 | cons a h b=>
  intro i kv e;cases i with
  | zero=>cases e;exact⟨_,_,rfl,rfl,a.2,a.1⟩
  | succ i=>exact b (i:=i) (kv:=kv) (by simpa[m5]using e)
theorem Zm4{wo:AI}(T:lq K X)(q:Zbh X wo H Q):
  Zci K (Zhs X) (Yz X) H ξ [↑wo] H:=by
 obtain⟨Tg,s,A,M,h0,j,rfl,hh,hn,q⟩:=q;unfold Zci;apply⟨_,rfl,Tg,s,A,M,j,rfl,hh,λl1 c H1 Y nl1 ol1 E nd1 nn1 ZBn g1=>?_⟩;have j1:=j.same Y;obtain⟨dw,ow⟩:=j1.jb.ow;have om:=j1.jn.om;apply aJ ow T.cW T.nWn dX ?_;refine⟨_,_,rfl,.inl om,λvv nvv=>?_⟩;generalize zz:upd H1 vv _=H2;obtain⟨W,g2⟩:=nwO nvv zz;have O:=j1.same W;have D:=O.jn.om;refine⟨_,_,_,rfl,g2,D,λo=>?_⟩;have lnm:(m5 M.names A.ns).length=M.names.length:=ZQ O.jn.nms;have w3:=O.names (o:=.vH o (.dK eJ)) h0;have f:∀b u,H2 b=some u->b≠A.nm->upd H2 A.nm (.vH o (.dK eJ)) b=some u:=λb u hb nb=>by rw[aD nb];exact hb
 have P:upd H2 A.nm (.vH o (.dK eJ)) A.nm=some (.vH o (.dK eJ)):=aq;generalize upd H2 A.nm (.vH o (.dK eJ))=H3 at w3 f P ⊢;have nmn:∀t xs,H2 t=some (.tup xs)->t≠A.nm:=λt xs z=>lV z D (λy=>by cases y);refine Zil ?_;refine Znq M.names.length δ (λi y _=>∃m,M.names[i]? =some m/\y=oV (nG M m.2.1 m.2.2)) (λ_ _ _ _ h _=>h) (λH' s=>⟨s _ _ P,δ⟩) (λi H' U s=>⟨s _ _ P,δ⟩) (λi x H4 R U v y=>?_) ?_
 ·obtain⟨rfl,kv,ekv,rfl⟩:=y;obtain⟨t,m,em,et,ot,tt⟩:=Zwb O.jn.nms ekv;refine⟨rfl,λq hq=>yW hq,λq hq=>?_⟩;have ot4:=v _ _ (f _ _ ot (nmn _ _ ot));refine⟨t,_,_,_,by rw[et],dR.of ot4,?_⟩;walk_at"c";apply⟨_,_,_,rfl,Tg,s,A,M,w3.same v,rfl,λH6 d=>hq _ _ d ⟨m,em,rfl⟩⟩
 ·intro ys H4 v ly hy p N;have ey:ys=(dU M).map oV:=by
   refine List.ext_getElem? λi=>?_
   by_cases U:i<ys.length
   ·obtain⟨m,l,g⟩:=hy i ys[i] (bG U);rw[bG U,g];unfold dU;rw[bL,bL,l];rfl
   ·rw[List.getElem?_eq_none δ,List.getElem?_eq_none];unfold dU;rw[aR,aR];omega
  subst ey;have g5:=v _ _ P;have B:p≠A.nm:=λz=>by rw[z,g5]at N;cases N
  refine⟨A.nm,o,_,by rw[aD B.symm];exact g5,(λo' u z=>by rw[j.jn.om]at z;cases z),?_⟩;generalize w:upd (upd H4 p (.lst ((dU M).map oV))) A.nm (.dK eJ)=R;have J:aX H2 R:=λb u hb=>by
   rw[<- w]
   by_cases z:b=A.nm
   ·subst z;rw[aq];rw[D]at hb;exact hb
   ·have h3:=f b u hb z;rw[aD z,aD (aF (v _ _ h3) N)];exact v _ _ h3
  have np2:H2 p=none:=by
   cases z:H2 p with
   | none=>rfl
   | some u=>
    have:=v _ _ (f p u z B);rw[N]at this;cases this
  have F:R p=some (.lst ((dU M).map oV)):=by rw[<- w,aD B];exact aq
  clear w;have I:=Y.trans (W.trans J);have C:=W.trans J;apply⟨aQ ζ,λl2 Vi=>?_⟩;generalize zz:upd R l2 _=H6;obtain⟨d,g6⟩:=nwO Vi zz;refine⟨l1,l2,_,_,rfl,rfl,d _ _ (C _ _ ol1),g6,?_,λl3 a=>?_⟩
  ·rw[aR];have:(heldOf M).length=M.hands.length:=by unfold heldOf;rw[aR]
   exact aQ (by simp;omega)
  have S:=aH a (.lst (c.map V.ref++[.ref p]));have L:=I.trans (d.trans S);have e7:c.map V.ref++[V.ref p]=(c++[p]).map V.ref:=by rw[List.map_append];rfl
  rw[e7]at S L ⊢;have fp:H p=none:=Y.free (W.free np2);refine q l3 (c++[p]) _ L (I.free (d.free a)) aq ?_ (λr hr=>?_) (λhr=>?_) λk r x l g=>?_
  ·unfold cP;rw[List.length_append,List.length_append,E];rfl
  ·rcases List.mem_append.mp hr with hr | hr
   ·exact nn1 r hr
   ·rw[List.mem_singleton.mp hr];exact fp
  ·rcases List.mem_append.mp hr with hr | hr
   ·obtain⟨k,hk,e⟩:=List.getElem_of_mem hr;have:=g1 k l3 (heldOf M)[k] (by rw[bG hk,e]) (bG δ);rw[d _ _ (C _ _ this)]at a;cases a
   ·rw[List.mem_singleton.mp hr,d _ _ F]at a;cases a
  ·unfold cP at g
   by_cases hk:k<c.length
   ·rw[List.getElem?_append_left hk]at l;rw[List.getElem?_append_left δ]at g;exact S _ _ (d _ _ (C _ _ (g1 k r x l g)))
   ·have Z:=(cI l).1;rw[List.length_append,List.length_singleton]at Z;have ek:k=c.length:=δ
    rw[List.getElem?_append_right δ]at l g;rw[ek,Nat.sub_self]at l;rw[ek,E,Nat.sub_self]at g;cases l;cases g;exact S _ _ (d _ _ F)
end
namespace KB
abbrev Fd:=List (Option Au)
def DQ(F:Fd)(p:Int):Option Au:=if 0<=p then(F[p.toNat]?).join else none
def nxt(F:Fd)(pl:AA)(f:Int):AA:=match pl with
 | none=>none
 | some p=>match DQ F p with
  | none=>none
  | some fl=>if 0<=f then(fl[f.toNat]?).join else none
abbrev Rw:=List Au
def slt(R:Rw)(r s:Int):AA:=((R[r.toNat]?).bind λx=>x[s.toNat]?).join
def Zt(F:Fd)(w:AE)(x:AA×Nat):Option cb:=match x.1 with
 | none=>none
 | some q=>if (DQ F q).isSome then some (q,w++[(x.2:Int)])else none
def onw(F:Fd)(w:AE)(n:Nat)(ps:Au):List cb:=(ps.zipIdx n).filterMap (Zt F w)
def q0(F:Fd)(n:Nat)(R:Rw):List cb:=(R.zipIdx n).flatMap λx=>onw F [(x.2:Int)] 0 x.1
structure Good(F:Fd)(R:Rw)(p:Int)(w:AE):Prop where
 ex:∃r s fs row,w=r::s::fs/\0<=r/\0<=s/\R[r.toNat]? =some row/\s.toNat<row.length/\(∀f∈fs,0<=f)/\fs.foldl (nxt F) (slt R r s)=some p
 there:(DQ F p).isSome=true
theorem zZ{F:Fd}{w:AE}{n:Nat}{ps:Au}{q:Int}{v:AE}(h:(q,v)∈onw F w n ps):∃k,ps[k]? =some (some q)/\v=w++[((n+k:Nat):Int)]/\(DQ F q).isSome=true:=by
 obtain⟨⟨x,m⟩,hm,e⟩:=List.mem_filterMap.mp h;obtain⟨b,a⟩:=List.mem_zipIdx_iff_le_and_getElem?_sub.mp hm;unfold Zt at e;cases x with
 | none=>cases e
 | some c=>
  simp only at e;split at e
  ·rename_i hs
   cases e;refine⟨m - n,a,?_,hs⟩;have:n+(m - n)=m:=by have:=b;simp only at this;omega
   rw[this]
  ·cases e
theorem Zo9{F:Fd}{R:Rw}{p q:Int}{w v:AE}{fl:Au}(g:Good F R p w)(a:DQ F p=some fl)(h:(q,v)∈onw F w 0 fl):Good F R q v:=by
 obtain⟨k,hk,rfl,hs⟩:=zZ h;obtain⟨⟨r,s,fs,row,rfl,h1,h2,c,h4,h5,b⟩,_⟩:=g;refine⟨⟨r,s,fs++[((0+k:Nat):Int)],row,rfl,h1,h2,c,h4,λf a=>?_,?_⟩,hs⟩
 ·rcases List.mem_append.mp a with z | z
  ·exact h5 f z
  ·have:f=((0+k:Nat):Int):=by simpa using z
   omega
 ·rw[List.foldl_append,b];show nxt F (some p) _=some q;unfold nxt;simp only[a];rw[if_pos δ];have:(((0+k:Nat):Int)).toNat=k:=δ
  rw[this,hk];rfl
theorem Zqv{F:Fd}{R:Rw}{q:Int}{v:AE}(h:(q,v)∈q0 F 0 R):Good F R q v:=by
 obtain⟨⟨row,n⟩,hm,h⟩:=List.mem_flatMap.mp h;have hr:R[n]? =some row:=List.mem_zipIdx_iff_getElem?.mp hm;obtain⟨k,hk,rfl,hs⟩:=zZ h;refine⟨⟨(n:Int),((0+k:Nat):Int),[],row,rfl,δ,δ,by simpa using hr,?_,(λf a=>by cases a),?_⟩,hs⟩
 ·have:k<row.length:=(cI hk).1;omega
 ·show slt R _ _=some q;unfold slt;have b:((n:Int)).toNat=n:=δ
  have c:(((0+k:Nat):Int)).toNat=k:=δ
  rw[b,c,hr];simp only[Option.bind_some,hk,Option.join_some]
inductive wR(F:Fd)(R:Rw):List cb->Nat->List cb->Prop
 | start:wR F R (q0 F 0 R) 0 []
 | old {q k l p w}:wR F R q k l->q[k]? =some (p,w)->p∈l.map (·.1)->wR F R q (k+1) l
 | new {q k l p w fl}:wR F R q k l->q[k]? =some (p,w)->p∉l.map (·.1)->DQ F p=some fl->wR F R (q++onw F w 0 fl) (k+1) (l++[(p,w)])
theorem wR.good{F:Fd}{R:Rw}{q l:List cb}{k:Nat}(b:wR F R q k l):(∀x∈q,Good F R x.1 x.2)/\∀x∈l,Good F R x.1 x.2:=by
 induction b with
 | start=>exact⟨λx hx=>Zqv hx,λx hx=>nomatch hx⟩
 | old _ _ _ a=>exact a
 | new b hq hn c a=>
  have g:=a.1 _ (List.mem_of_getElem? hq);refine⟨λx hx=>?_,λx hx=>?_⟩
  ·rcases List.mem_append.mp hx with z | z
   ·exact a.1 x z
   ·exact Zo9 g c z
  ·rcases List.mem_append.mp hx with z | z
   ·exact a.2 x z
   ·have d:=List.mem_singleton.mp z;rw[d];exact g
def wgt:Option Au->Nat
 | none=>0
 | some fl=>fl.length
def Zf7(F:Fd)(l:List cb):Nat:=((F.zipIdx).map λx=>if (x.2:Int)∈l.map (·.1)then 0 else wgt x.1).sum
theorem Zlu{a:Type}(f g:a->Nat):∀(xs:List a),(∀x∈xs,g x<=f x)->(xs.map g).sum<=(xs.map f).sum
 | [],_=>Nat.le_refl _
 | x::xs,h=>by
  have h1:=h x ζ;have h2:=Zlu f g xs λy hy=>h y (by simp[hy]);simp only[List.map_cons,List.sum_cons];omega
theorem Zc4{b:Type}(f g:b->Nat)(d:Nat):∀(xs:List b) (a:b),a∈xs->(∀x∈xs,g x<=f x)->g a+d<=f a->(xs.map g).sum+d<=(xs.map f).sum
 | [],_,h,_,_=>nomatch h
 | x::xs,a,c,h,hd=>by
  have h1:=h x ζ;have h2:=Zlu f g xs λy hy=>h y (by simp[hy]);simp only[List.map_cons,List.sum_cons];rcases List.mem_cons.mp c with z | z
  ·subst z;omega
  ·have e:=Zc4 f g d xs a z (λy hy=>h y (by simp[hy])) hd;omega
theorem O9{F:Fd}{w:AE}{n:Nat}{ps:Au}:(onw F w n ps).length<=ps.length:=by
 unfold onw;have:=List.length_filterMap_le (Zt F w) (ps.zipIdx n);rw[List.length_zipIdx]at this;exact this
theorem Zlm{F:Fd}{l:List cb}{p:Int}{w:AE}{fl:Au}(hn:p∉l.map (·.1))(a:DQ F p=some fl):Zf7 F (l++[(p,w)])+fl.length<=Zf7 F l:=by
 unfold DQ at a;split at a
 ·rename_i b
  have hp:F[p.toNat]? =some (some fl):=by
   cases e:F[p.toNat]? with
   | none=>rw[e]at a;cases a
   | some x=>rw[e]at a;simp only[Option.join_some]at a;rw[a]
  unfold Zf7;refine Zc4 _ _ fl.length _ (some fl,p.toNat) (List.mem_zipIdx_iff_getElem?.mpr hp) (λx _=>?_) ?_
  ·simp only[List.map_append,List.map_cons,List.map_nil,List.mem_append]
   by_cases h1:(x.2:Int)∈l.map (·.1)
   ·simp only[h1,true_or,↓reduceIte,Nat.le_refl]
   ·simp only[h1,false_or];split
    ·exact Nat.zero_le _
    ·exact Nat.le_refl _
  ·have e:((p.toNat:Nat):Int)=p:=δ
   simp only[List.map_append,List.map_cons,List.map_nil,List.mem_append,e];rw[if_pos (.inr ζ),if_neg hn];show 0+fl.length<=wgt (some fl);show 0+fl.length<=fl.length;omega
 ·cases a
def total(F:Fd)(R:Rw):Nat:=(q0 F 0 R).length+Zf7 F []
theorem wR.bound{F:Fd}{R:Rw}{q l:List cb}{k:Nat}(b:wR F R q k l):q.length+Zf7 F l<=total F R:=by
 induction b with
 | start=>exact Nat.le_refl _
 | old _ _ _ a=>exact a
 | new b hq hn c a=>
  have h2:=@O9 F;rw[List.length_append];refine Nat.le_trans ?_ a
  rename_i w fl
  have d:=h2 (w:=w) (n:=0) (ps:=fl);have h4:=Zlm (w:=w) hn c;omega
end KB
def Zrb(cs:List V)(i:Int):V:=if 0<=i then(cs[i.toNat]?).getD .non else .non
def CO(a:AI)(H:Hp)(cs:List V)(i:Nat):Option Au->Prop
 | none=>cs[i]? =some .non
 | some fl=>∃p fa b u t l,cs[i]? =↑p/\zO a H p fa b u t l (fl.map oV)
structure HV(CC CH:AI)(H:Hp)(hp:AI)(F:KB.Fd):Prop where
 ex:∃ca room used born cs,HpO CH H hp ca room used born cs/\cs.length=F.length/\∀(i:Nat) x,F[i]? =some x->CO CC H cs i x
theorem HpO.same{a:AI}{H H':Hp}{hp ca:AI}{room used born:Int}{cs:List V}(h:HpO a H hp ca room used born cs)(s:aX H H'):HpO a H' hp ca room used born cs:=by
 obtain⟨⟨b,h1⟩,h2⟩:=h;exact⟨⟨b,s _ _ h1⟩,s _ _ h2⟩
theorem CO.same{a:AI}{H H':Hp}{cs:List V}{i:Nat}{x:Option Au}(h:CO a H cs i x)(s:aX H H'):CO a H' cs i x:=by
 cases x with
 | none=>exact h
 | some fl=>
  obtain⟨p,d,b,u,t,l,e,c⟩:=h;exact⟨p,d,b,u,t,l,e,c.same s⟩
theorem HV.same{a b:AI}{H H':Hp}{hp:AI}{F:KB.Fd}(h:HV a b H hp F)(s:aX H H'):HV a b H' hp F:=by
 obtain⟨ca,room,used,born,cs,o,l,e⟩:=h;exact⟨ca,room,used,born,cs,o.same s,l,λi x hx=>(e i x hx).same s⟩
theorem Zoj{a:AI}{H:Hp}{cs:List V}{F:KB.Fd}(hl:cs.length=F.length)(e:∀(i:Nat) x,F[i]? =some x->CO a H cs i x)(i:Int):
  (KB.DQ F i=none/\Zrb cs i=.non)\/∃fl p fa b u t l,KB.DQ F i=some fl/\Zrb cs i=.ref p/\cs[i.toNat]? =↑p/\0<=i/\zO a H p fa b u t l (fl.map oV):=by
 unfold KB.DQ Zrb
 by_cases d:0<=i
 ·simp only[d,↓reduceIte];cases g:F[i.toNat]? with
  | none=>
   have:cs[i.toNat]? =none:=by rw[List.getElem?_eq_none_iff]at g ⊢;omega
   exact .inl ⟨rfl,by rw[this];rfl⟩
  | some x=>
   have c:=e _ _ g;cases x with
   | none=>exact .inl ⟨rfl,by rw[show cs[i.toNat]? =some V.non from c];rfl⟩
   | some fl=>
    obtain⟨p,fa,b,u,t,l,f,c1⟩:=c;exact .inr ⟨fl,p,fa,b,u,t,l,rfl,by rw[f];rfl,f,trivial,c1⟩
 ·simp only[d,↓reduceIte];exact .inl ⟨trivial,trivial⟩
def DR(H:Hp):AF->List cb->Prop
 | [],[]=>True
 | t::ts,x::b=>(∃a,H t=some (.tup [.int x.1,.ref a])/\H a=some (.tup (x.2.map V.int)))/\DR H ts b
 | _,_=>False
theorem DR.same{H H':Hp}(s:aX H H'):∀{ts:AF}{b:List cb},DR H ts b->DR H' ts b
 | [],[],_=>trivial
 | [],_::_,h=>h.elim
 | _::_,[],h=>h.elim
 | _::_,_::_,⟨⟨a,h1,h2⟩,c⟩=>⟨⟨a,s _ _ h1,s _ _ h2⟩,DR.same s c⟩
theorem DR.app{H:Hp}:∀{ts us:AF}{a rs:List cb},DR H ts a->DR H us rs->DR H (ts++us) (a++rs)
 | [],_,[],_,_,h=>h
 | [],_,_::_,_,h,_=>h.elim
 | _::_,_,[],_,h,_=>h.elim
 | _::_,_,_::_,_,⟨h1,b⟩,h=>⟨h1,DR.app b h⟩
theorem DR.len{H:Hp}:∀{ts:AF}{a:List cb},DR H ts a->ts.length=a.length
 | [],[],_=>rfl
 | [],_::_,h=>h.elim
 | _::_,[],h=>h.elim
 | _::_,_::_,⟨_,b⟩=>by rw[List.length_cons,List.length_cons,DR.len b]
theorem DR.at{H:Hp}:∀{ts:AF}{b:List cb}{i:Nat}{x:Int×AE},DR H ts b->b[i]? =some x->∃t a,ts[i]? =some t/\H t=some (.tup [.int x.1,.ref a])/\H a=some (.tup (x.2.map V.int))
 | [],[],_,_,_,e=>by simp at e
 | [],_::_,_,_,h,_=>h.elim
 | _::_,[],_,_,h,_=>h.elim
 | t::_,_::_,0,_,⟨⟨a,h1,h2⟩,_⟩,e=>by cases e;exact⟨t,a,rfl,h1,h2⟩
 | _::_,_::_,i+1,_,⟨_,c⟩,e=>DR.at (i:=i) c e
def Ul(K:aB)(c b:AI):Sp:=λvs H Q E=>∃hp a wt F ps w,vs=[.ref hp,.ref a,.ref wt]/\HV c b H hp F/\bN K H a (ps.map oV)/\dR K H wt (w.map V.int)/\w≠[]/\w.length<=100000/\ps.length<=1000/\
 ∀l ts H',H l=none->aX H H'->H' l=some (.lst bE)->DR H' ts (KB.onw F w 0 ps)->Q (.ref l) H'
def DP(K:aB)(H:Hp):AF->KB.Rw->Prop
 | [],[]=>True
 | a::b,r::R=>bN K H a (r.map oV)/\DP K H b R
 | _,_=>False
theorem DP.same{K:aB}{H H':Hp}(s:aX H H'):∀{a:AF}{R:KB.Rw},DP K H a R->DP K H' a R
 | [],[],_=>trivial
 | [],_::_,h=>h.elim
 | _::_,[],h=>h.elim
 | _::_,_::_,⟨h1,b⟩=>⟨s.seq h1,DP.same s b⟩
theorem DP.len{K:aB}{H:Hp}:∀{a:AF}{R:KB.Rw},DP K H a R->a.length=R.length
 | [],[],_=>rfl
 | [],_::_,h=>h.elim
 | _::_,[],h=>h.elim
 | _::_,_::_,⟨_,b⟩=>by rw[List.length_cons,List.length_cons,DP.len b]
theorem DP.at{K:aB}{H:Hp}:∀{b:AF}{R:KB.Rw}{i:Nat}{a:AI},DP K H b R->b[i]? =some a->∃r,R[i]? =some r/\bN K H a (r.map oV)
 | [],[],_,_,_,e=>by simp at e
 | [],_::_,_,_,h,_=>h.elim
 | _::_,[],_,_,h,_=>h.elim
 | _::_,r::_,0,_,⟨h1,_⟩,e=>by cases e;exact⟨r,rfl,h1⟩
 | _::_,_::_,i+1,_,⟨_,c⟩,e=>DP.at (i:=i) c e
structure Few(F:KB.Fd)(R:KB.Rw):Prop where
 f:F.length<=1000
 g:∀p fl,KB.DQ F p=some fl->fl.length<=1000
 r:R.length<=1000
 s:∀x∈R,x.length<=1000
 t:KB.total F R<=90000
def J8(K:aB)(d c:AI):Sp:=λvs H Q E=>∃hp a F rs R,vs=[.ref hp,.ref a]/\HV d c H hp F/\bN K H a (rs.map V.ref)/\DP K H rs R/\Few F R/\
 ∀l ts q b H',KB.wR F R q q.length b->H l=none->aX H H'->H' l=some (.lst bE)->DR H' ts b->Q (.ref l) H'
theorem Zxq{e f hp:AI}{H:Hp}{Q:VK}{E:XK}{pl:AA}{F:KB.Fd}(v:HV e f H hp F)(g:pl.bind (KB.DQ F)=none->Q .non H)(h:∀fl p fa b u t l,pl.bind (KB.DQ F)=some fl->zO e H p fa b u t l (fl.map oV)->Q (.ref p) H):jM f [.ref hp,oV pl] H Q E:=by
 obtain⟨ca,room,used,born,cs,o,hl,j⟩:=v;refine⟨hp,oV pl,rfl,uU pl,ca,room,used,born,cs,o,?_⟩;cases pl with
 | none=>exact g rfl
 | some i=>
  show Q (Zrb cs i) H;rcases Zoj hl j i with ⟨d,a⟩ | ⟨fl,p,fa,b,u,t,l,d,a,_,_,c⟩
  ·rw[a];exact g d
  ·rw[a];exact h fl p fa b u t l d c
theorem Zcw(F:KB.Fd)(w:AE)(n:Nat)(ps:Au)(x:AA):KB.onw F w n (ps++[x])=KB.onw F w n ps++(KB.Zt F w (x,n+ps.length)).toList:=by
 unfold KB.onw;rw[List.zipIdx_append,List.filterMap_append];congr 1
theorem take_snoc{a:Type}{xs:List a}{i:Nat}{x:a}(h:xs[i]? =some x):xs.take cy=xs.take i++[x]:=by
 rw[List.take_add_one,h];rfl
theorem je{H:Hp}{a:AI}{o:HO}(h:H a=none):aX H eo:=λb u q=>by rw[aD (aF q h)];exact q
section
variable {K:aB}{cG bZ di:AI}{H:Hp}{Q:VK}{E:XK}{n:ν}{bk ct:ν}
theorem Zfy{hp a wt:AI}{F:KB.Fd}{ps:Au}{w:AE}(v:HV cG bZ H hp F)(O:bN K H a (ps.map oV))(hw:dR K H wt (w.map V.int))(A:w≠[])(U:w.length<=100000)(W:ps.length<=1000)
  (Zsy:∀{H':Hp},aX H H'->dR K H' wt (w.map V.int))
  (q:∀l ts H',H l=none->aX H H'->H' l=some (.lst bE)->DR H' ts (KB.onw F w 0 ps)->Q (.ref l) H'):
  zQ K (jM bZ) ξ [↑hp,↑a,↑wt] H:=by
 unfold zQ;apply⟨a,rfl,⟨_,O⟩,Zqf O (by rw[aR];omega) (λi s f=>aX H f/\i<=ps.length/\∃ts,s=ts.map V.ref/\DR f ts (KB.onw F w 0 (ps.take i))) ⟨aX.refl _,Nat.zero_le _,[],rfl,trivial⟩ ?_ ?_ ?_⟩
 ·rintro i s f ⟨sm,S,ts,rfl,g⟩;refine⟨sm,?_⟩;rw[aR,g.len];refine Nat.le_trans KB.O9 ?_;rw[List.length_take];omega
 ·rintro i x s f t C N hx ⟨sm,S,ts,rfl,g⟩ Y;walk_at"c";rw[bL]at hx;obtain⟨y,hy,rfl⟩:=Option.map_eq_some_iff.mp hx;have k:i<ps.length:=(cI hy).1;have j:0+(ps.take i).length=i:=by rw[List.length_take];omega
  have D:aX f (upd f t (.tup [.int i,oV y])):=je Y;have r:=sm.trans D;apply Zxq (v.same r) (λe=>?_) (λfl p Z b u t' l e c=>?_)
  ·refine Zgk ?_;apply Za8 (N _ _ ⟨r,k,ts,rfl,?_⟩);rw[take_snoc hy,Zcw,j];have I:KB.Zt F w (y,i)=none:=by
    unfold KB.Zt;cases y with
    | none=>rfl
    | some d=>simp only;rw[show KB.DQ F d=none from e];rfl
   rw[I];simp only[Option.toList_none,List.append_nil];exact g.same D
  ·refine Zgk ?_;apply Ze1 ?_;obtain⟨d,rfl⟩:∃d,y=some d:=by
    cases y with
    | none=>cases e
    | some d=>exact⟨d,rfl⟩
   have T:KB.DQ F d=some fl:=e;apply⟨(by show 1<=sizeLine;decide),λt2 L=>?_⟩;have P:=D.trans (je (o:=.tup [.int i]) L);refine⟨wt,t2,w.map V.int,[.int i],rfl,rfl,Zsy (sm.trans P),dR.of aq,by simpa using A,by rw[aR];exact aQ (by simp only[List.length_cons,List.length_nil];omega),ai,(λ_ h B=>?_)⟩;have R:=P.trans (je (o:=.tup (w.map V.int++[.int i])) B);apply⟨(by show 2<=sizeLine;decide),λJ m=>?_⟩;have M:=R.trans (je (o:=.tup [oV (some d),.ref h]) m);have E:h≠J:=aF aq m;have X:upd (upd (upd (upd f t (.tup [.int i,oV (some d)])) t2 (.tup [.int i])) h (.tup (w.map V.int++[.int i]))) J (.tup [oV (some d),.ref h]) h=some (.tup (w.map V.int++[.int i])):=by
    rw[aD E,aq]
   apply N _ _ ⟨sm.trans M,k,ts++[J],ζ,?_⟩;rw[take_snoc hy,Zcw,j];have I:KB.Zt F w (some d,i)=some (d,w++[(i:Int)]):=by
    unfold KB.Zt;simp only[T,Option.isSome_some,↓reduceIte]
   rw[I];refine(g.same M).app ⟨⟨h,aq,?_⟩,trivial⟩;rw[X,List.map_append];rfl
 ·rintro s f ⟨sm,_,ts,rfl,g⟩ l hl;ext;rw[aR,List.take_length]at g;exact q l ts _ (sm.free hl) (sm.trans (je hl)) aq (g.same (je hl))
end
theorem Zsy{K:aB}{H H':Hp}{a:AI}{xs:List V}(e:aX H H')(h:dR K H a xs):dR K H' a xs:=by
 rcases h with (h | ⟨o,h⟩) | h
 ·exact .inl (.inl (e _ _ h))
 ·exact .inl (.inr ⟨o,e _ _ h⟩)
 ·exact .inr h
def TK(H H':Hp):Prop:=∀b xs,H b=some (.tup xs)->H' b=some (.tup xs)
theorem TK.same{H H':Hp}(s:aX H H'):TK H H':=λb _ h=>s b _ h
theorem TK.upd{H:Hp}{a:AI}{o:HO}(h:∀xs,H a≠some (.tup xs)):TK H (L2.upd H a o):=λb xs q=>by
 have n:b≠a:=λz=>h xs (by rw[<- z];exact q);rw[aD n];exact q
theorem TK.trans{H e d:Hp}(a:TK H e)(b:TK e d):TK H d:=λc xs h=>b c xs (a c xs h)
theorem DR.tk{H H':Hp}(s:TK H H'):∀{ts:AF}{b:List cb},DR H ts b->DR H' ts b
 | [],[],_=>trivial
 | [],_::_,h=>h.elim
 | _::_,[],h=>h.elim
 | _::_,_::_,⟨⟨a,h1,h2⟩,c⟩=>⟨⟨a,s _ _ h1,s _ _ h2⟩,DR.tk s c⟩
def YC(H:Hp):List eh->List cb->Prop
 | [],[]=>True
 | kv::b,x::c=>(kv.1=Sum.inl x.1/\∃a,kv.2=.ref a/\H a=some (.tup (x.2.map V.int)))/\YC H b c
 | _,_=>False
theorem YC.tk{H H':Hp}(s:TK H H'):∀{b:List eh}{c:List cb},YC H b c->YC H' b c
 | [],[],_=>trivial
 | [],_::_,h=>h.elim
 | _::_,[],h=>h.elim
 | _::_,_::_,⟨⟨e,a,h1,h2⟩,d⟩=>⟨⟨e,a,h1,s _ _ h2⟩,YC.tk s d⟩
theorem YC.app{H:Hp}:∀{a ls:List eh}{b rs:List cb},YC H a b->YC H ls rs->YC H (a++ls) (b++rs)
 | [],_,[],_,_,h=>h
 | [],_,_::_,_,h,_=>h.elim
 | _::_,_,[],_,h,_=>h.elim
 | _::_,_,_::_,_,⟨h1,c⟩,h=>⟨h1,YC.app c h⟩
theorem YC.len{H:Hp}:∀{ts:List eh}{a:List cb},YC H ts a->ts.length=a.length
 | [],[],_=>rfl
 | [],_::_,h=>h.elim
 | _::_,[],h=>h.elim
 | _::_,_::_,⟨_,b⟩=>by rw[List.length_cons,List.length_cons,YC.len b]
theorem YC.val{H:Hp}(p:Int):∀{a:List eh}{b:List cb},YC H a b->(jN a (Sum.inl p)).isSome=decide (p∈b.map (·.1))
 | [],[],_=>by simp[jN]
 | [],_::_,h=>h.elim
 | _::_,[],h=>h.elim
 | kv::a,x::b,⟨⟨c,_⟩,f⟩=>by
  by_cases e:x.1=p
  ·rw[jD (by rw[c,e])];simp[e]
  ·rw[jE (by rw[c];exact λz=>e (Sum.inl.inj z)),YC.val p f];simp only[List.map_cons,List.mem_cons];have d:¬ p=x.1:=λz=>e z.symm;simp only[d,false_or]
theorem YC.prs{H:Hp}:∀{ts:AF}{b:List eh}{c:List cb},YC H b c->Zez H ts b->DR H ts c
 | [],[],[],_,_=>trivial
 | _,[],_::_,h,_=>h.elim
 | _,_::_,[],h,_=>h.elim
 | [],_::_,_::_,_,h=>h.elim
 | _::_,[],[],_,h=>h.elim
 | t::ts,kv::b,x::c,⟨⟨d,a,h1,h2⟩,g⟩,⟨f,e⟩=>⟨⟨a,by rw[f,d,h1];rfl,h2⟩,YC.prs g e⟩
theorem Zpq(F:KB.Fd)(R:KB.Rw)(i:Nat)(r:Au)(h:R[i]? =some r):KB.q0 F 0 (R.take cy)=KB.q0 F 0 (R.take i)++KB.onw F [(i:Int)] 0 r:=by
 unfold KB.q0;rw[take_snoc h,List.zipIdx_append,List.flatMap_append];have hl:(R.take i).length=i:=by
  have:=(cI h).1;rw[List.length_take];omega
 rw[hl];simp only[List.zipIdx_cons,List.zipIdx_nil,List.flatMap_cons,List.flatMap_nil,List.append_nil,Nat.zero_add]
structure RS(K:aB)(CC CH:AI)(H0 H:Hp)(ql d:AI)(F:KB.Fd)(R:KB.Rw)(q qs:List cb)(k:Nat):Prop where
 sm:aX H0 H
 nq:H0 ql=none
 b:KB.wR F R q k qs
 hk:k<=q.length
 oq:∃ts,H ql=some (.lst bE)/\DR H ts q
 od:∃kvs,H d=some (.dK kvs)/\YC H kvs qs
 nd:H0 d=none
theorem Zni{H:Hp}{a:AI}{xs:List V}{o:HO}(h:H a=some (.lst xs)):TK H eo:=TK.upd λb z=>by rw[h]at z;cases z
theorem Zxn{H:Hp}{a:AI}{xs:List eh}{o:HO}(h:H a=some (.dK xs)):TK H eo:=TK.upd λb z=>by rw[h]at z;cases z
theorem Qd{H0 H:Hp}{a:AI}{o:HO}(s:aX H0 H)(h:H0 a=none):aX H0 eo:=λb u q=>by rw[aD (aF q h)];exact s b u q
theorem Zrm{F:KB.Fd}{R:KB.Rw}{q l:List cb}{k:Nat}(b:KB.wR F R q k l):l.length<=k:=by
 induction b with
 | start=>exact Nat.le_refl _
 | old _ _ _ a=>omega
 | new _ _ _ _ a=>rw[List.length_append];simp only[List.length_cons,List.length_nil];omega
theorem Zf1{F:KB.Fd}{R:KB.Rw}{q l:List cb}{k:Nat}(b:KB.wR F R q k l):∀x∈q,x.2.length<=k+2:=by
 induction b with
 | start=>
  intro x hx;obtain⟨⟨row,n⟩,hm,h⟩:=List.mem_flatMap.mp hx;obtain⟨j,_,e,_⟩:=KB.zZ (q:=x.1) (v:=x.2) h;rw[e];simp
 | old _ _ _ a=>intro x hx;have:=a x hx;omega
 | new b hq _ _ a=>
  intro x hx;rcases List.mem_append.mp hx with z | z
  ·have:=a x z;omega
  ·obtain⟨j,_,e,_⟩:=KB.zZ (q:=x.1) (v:=x.2) z;have:=a _ (List.mem_of_getElem? hq);rw[e,List.length_append];simp only[List.length_cons,List.length_nil];simp only at this;omega
theorem Zt4(F:KB.Fd):∀(R S:KB.Rw) (n:Nat),(KB.q0 F n R).length<=(KB.q0 F n (R++S)).length:=λR S n=>by
 unfold KB.q0;rw[List.zipIdx_append,List.flatMap_append,List.length_append];omega
theorem Zpp(F:KB.Fd)(R:KB.Rw)(i:Nat):(KB.q0 F 0 (R.take i)).length<=KB.total F R:=by
 have:=Zt4 F (R.take i) (R.drop i) 0;rw[List.take_append_drop]at this;unfold KB.total;omega
section
variable {K:aB}{cG bZ di:AI}{H:Hp}{Q:VK}{E:XK}{n:ν}{bk ct:ν}
theorem Zch{hp ra:AI}{F:KB.Fd}{rs:AF}{R:KB.Rw}{v2 v3 v4 v5 v6 L J:Option V}(T:TxC K cG bZ)(v:HV cG bZ H hp F)(hr:bN K H ra (rs.map V.ref))(rw':DP K H rs R)(S:Few F R)
  (q:∀l ts q O H',KB.wR F R q q.length O->H l=none->aX H H'->H' l=some (.lst bE)->DR H' ts O->Q (.ref l) H'):
  Dg K (Ul K cG bZ) ξ [↑hp,↑ra,v2,v3,v4,v5,v6,L,J] H:=by
 have hrl:=rw'.len;have f1:=S.r;unfold Dg;apply⟨(by show 0<=sizeLine;decide),λA E=>?_⟩;apply⟨ra,rfl,⟨_,(je E).seq hr⟩,Zxg (rs.map V.ref) (λi P N=>i<=rs.length/\aX H N/\(∃ts,N A=some (.lst bE)/\DR N ts (KB.q0 F 0 (R.take i)))/\∃x y,P=[↑hp,↑ra,↑A,x,y,v5,v6,L,J])
  ⟨Nat.zero_le _,je E,⟨[],aq,trivial⟩,_,_,rfl⟩ (by rintro i P N _ ⟨_,sm,_⟩;exact sm.seq hr) ?_ ?_⟩
 ·rintro i x t P N hx ⟨hi,sm,⟨ts,f,D⟩,y,z,rfl⟩ ht;rw[bL]at hx;obtain⟨r,er,rfl⟩:=Option.map_eq_some_iff.mp hx;obtain⟨row,eR,hrow⟩:=rw'.at er;have hil:i<rs.length:=(cI er).1;have B:=je (o:=.tup [.int i,.ref r]) ht;refine⟨t,_,rfl,dR.of aq,rfl,.int i,_,rfl,?_⟩;exists .ref r,_,rfl;exists rfl;exists .inl ⟨rfl,_,bN.of (B _ _ f)⟩;apply⟨(by show 1<=sizeLine;decide),λt2 ht2=>?_⟩;have C:=B.trans (je (o:=.tup [.int i]) ht2);apply⟨hp,r,t2,F,row,[(i:Int)],rfl,v.same (sm.trans C),(sm.trans C).seq hrow,dR.of aq,ai,(by show 1<=100000;decide),S.s _ (List.mem_of_getElem? eR),λl us H' hl s3 hl' qa'=>?_⟩;have s4:=C.trans s3;have hq':H' A=some (.lst bE):=s4 _ _ f;ext;have hlen:ts.length<=100000:=by
   rw[D.len];exact Nat.le_trans (Nat.le_trans (Zpp F R i) S.t) ε
  have hlen2:us.length<=1000:=by
   rw[qa'.len];exact Nat.le_trans KB.O9 (S.s _ (List.mem_of_getElem? eR))
  refine⟨A,l,_,_,rfl,rfl,hq',hl',by rw[aR,aR];exact aQ δ,?_⟩;apply⟨hil,Qd (sm.trans s4) E,⟨ts++us,by rw[aq,List.map_append],?_⟩,_,_,rfl⟩;rw[Zpq F R i row eR];exact((D.same s4).app qa').tk (Zni hq')
 ·rintro P N ⟨hi,sm,⟨ts,f,D⟩,y,z,rfl⟩;rw[aR,hrl,List.take_length]at D;ext;intro d hd;ext;have ndq:d≠A:=λe=>by rw[e,f]at hd;cases hd
  refine⟨λm P N=>∃q O k x y L J,m=KB.total F R - k/\P=[↑hp,↑ra,↑A,x,y,↑d,some (.int (k:Nat)),L,J]/\RS K cG bZ H N A d F R q O k,⟨_,KB.q0 F 0 R,[],0,_,_,_,_,rfl,rfl,?_⟩,?_⟩
  ·exact⟨sm.trans (je hd),E,.start,Nat.zero_le _,⟨ts,by rw[aD ndq.symm];exact f,D.same (je hd)⟩,⟨[],aq,trivial⟩,sm.free hd⟩
  ·rintro m P Hy ⟨Z,O,k,x,y,L,J,rfl,rfl,rs'⟩;obtain⟨I,nq,b,hk,⟨ts,f,D⟩,⟨h,j,la⟩,nd⟩:=rs';have hlq:=D.len;apply eU (bN.of f) ?_;ext;have hb:=b.bound;refine mG bp bp
   ·rw[aR]at z;have U:k<Z.length:=δ
    have hq:Z[k]? =some Z[k]:=bG U;obtain⟨t,a,et,ht,X⟩:=D.at hq;generalize hx:Z[k]=pw at hq ht X;obtain⟨p,w⟩:=pw;refine⟨λσ' H'=>∃q2 W x y L J,σ'=[↑hp,↑ra,↑A,x,y,↑d,some (.int ((k:Int)+1)),L,J]/\RS K cG bZ H H' A d F R q2 W db,?_,?_⟩
    ·rintro σ' H' ⟨q2,W,x,y,L,J,rfl,r2⟩;exact⟨KB.total F R - db,δ,q2,W,k+1,x,y,L,J,rfl,by rw[show((k+1:Nat):Int)=(k:Int)+1 from δ],r2⟩
    have hix:atI bE ((k:Nat):Int)=↑t:=gq (by rw[bL,et];rfl);apply fD (bN.of f) hix ?_;exists t,_,0,.int p,rfl,rfl,dR.of ht,iW ε rfl;apply fD (bN.of f) hix ?_;exists t,_,1,.ref a,rfl,rfl,dR.of ht,iW ε rfl;exists d,h,_,rfl,.inl j,rfl;ext;have gd:=b.good.1 _ (List.mem_of_getElem? hq);refine Zu0 (λy=>?_) (λy=>?_)
    ·have hno:jN h (Sum.inl p)=none:=by
      cases e:jN h (Sum.inl p)with
      | none=>rfl
      | some _=>rw[e]at y;simp at y
     have hnp:p∉O.map (·.1):=by
      have:=la.val p;rw[hno]at this;simpa using this
     obtain⟨fl,M⟩:∃fl,KB.DQ F p=some fl:=Option.isSome_iff_exists.mp gd.there;exists d,_,rfl,Wb.k (k:=Sum.inl p) j ?_
     ·have h2:=la.len;have h3:=Zrm b;have h4:=S.t;exact Nat.lt_of_le_of_lt (show h.length<=1000000 by omega) (show 1000000<sizeLine by decide)
     rw[Zmg _ hno];have nd':A≠d:=lV f j a4;have B:aX H (upd Hy d (.dK (h++[(Sum.inl p,.ref a)]))):=Qd I nd;have k1:TK Hy (upd Hy d (.dK (h++[(Sum.inl p,.ref a)]))):=Zxn j;have q1:upd Hy d (.dK (h++[(Sum.inl p,.ref a)])) A=some (.lst bE):=(aD nd').trans f;exists .inl ⟨rfl,_,bN.of q1⟩;ext;obtain⟨ca,room,used,born,cs,ho,hl,he⟩:=(v.same B).ex;have ho':=ho;obtain⟨⟨dx,o1⟩,o2⟩:=ho';refine aJ o1 T.cT T.bR bM ?_;ext;rcases Zoj hl he p with ⟨e1,_⟩ | ⟨fl',p',fa,b',u,t',l,e1,_,e3,e4,c⟩
     ·rw[M]at e1;cases e1
     rw[M]at e1;cases e1;refine fD (bN.of o2) (iW e4 e3) ?_;obtain⟨⟨dc,c1⟩,c2⟩:=c;refine aJ c1 T.dD T.fW ig ?_;ext;have hw:=Zf1 b _ (List.mem_of_getElem? hq);have hgt:=S.t;refine⟨hp,fa,a,F,fl,w,rfl,v.same B,bN.of c2,dR.of (k1 _ _ X),?_,?_,S.g p fl M,λl2 us Y hl2 C hl2' qa2=>?_⟩
     ·obtain⟨r0,s0,fs0,_,e0,_⟩:=gd.ex;intro z;rw[show w=(p,w).2 from rfl,e0]at z;cases z
     ·simp only at hw;omega
     have hq2:Y A=some (.lst bE):=C _ _ q1;have hd2:Y d=some (.dK (h++[(Sum.inl p,.ref a)])):=C _ _ aq;have k2:=k1.trans (TK.same C);have k3:TK Y (upd Y A (.lst (ts.map V.ref++us.map V.ref))):=Zni hq2;have b2:=KB.wR.new b hq hnp M;have hb2:=b2.bound;rw[List.length_append,<- qa2.len,<- hlq]at hb2;apply⟨A,l2,_,_,rfl,rfl,hq2,hl2',by rw[aR,aR];exact aQ δ,?_⟩;apply⟨_,_,_,_,_,_,rfl,⟨Qd (B.trans C) nq,nq,b2,by rw[List.length_append];omega,⟨ts++us,by rw[aq,List.map_append],(((D.tk k2).app qa2).tk k3)⟩,⟨_,by rw[aD nd'.symm];exact hd2,((la.tk k2).app ?_).tk k3⟩,nd⟩⟩;exact⟨⟨rfl,a,rfl,k2 _ _ X⟩,trivial⟩
    ·have hin:p∈O.map (·.1):=by
      have:=la.val p;cases e:jN h (Sum.inl p)with
      | none=>rw[e]at y;simp at y
      | some _=>rw[e]at this;simpa using this.symm
     apply⟨_,_,_,_,_,_,rfl,⟨I,nq,.old b hq hin,δ,⟨ts,f,D⟩,⟨h,j,la⟩,nd⟩⟩
   ·rw[aR]at z;have U:k=Z.length:=δ
    subst U;apply⟨d,h,rfl,.inl j,λvw hvw=>?_⟩;ext;have B:=je (o:=JC vw d) hvw;refine Zqm aq (.inl (B _ _ j)) λl us Y hl C hl2 pa=>?_;apply q l us Z O Y b ((I.trans B).free hl) ((I.trans B).trans C) hl2 ((la.tk (TK.same (B.trans C))).prs pa)
end
def fdOf(M:Wm):KB.Fd:=M.cells.map λo=>o.map (·.fl)
theorem WJ0.hv{X:Cs}{H:Hp}{T:Tg}{s:Nat}{A:Wa}{M:Wm}(j:WJ0 X H T s A M):HV X.C X.H H A.hp eu:=by
 have hl:=j.jc.lc;refine⟨A.ca,M.room,M.used,M.born,A.cs.map pV,j.hpO,by unfold fdOf;rw[aR,aR];exact hl,λi x hx=>?_⟩;unfold fdOf at hx;rw[bL]at hx;obtain⟨o,a,rfl⟩:=Option.map_eq_some_iff.mp hx;cases o with
 | none=>
  show(A.cs.map pV)[i]? =some .non;rw[bL,j.jc.at0 a];rfl
 | some c=>
  obtain⟨p,hp,ce⟩:=j.jc.at a;obtain⟨_,_,o1,o2⟩:=ce;exact⟨p.1,p.2,c.birth,c.bulk,c.tone,c.load,by rw[bL,hp];rfl,⟨o1,o2⟩⟩
theorem S8{M:Wm}(x:Int):KB.DQ eu x=(cellAt M x).map (·.fl):=by
 unfold KB.DQ fdOf cellAt
 by_cases h:0<=x
 ·rw[if_pos h,if_pos h,bL];cases M.cells[x.toNat]? with
  | none=>rfl
  | some o=>cases o<;>rfl
 ·rw[if_neg h,if_neg h];rfl
section
variable {K:aB}{X:Cs}{H:Hp}{Q:VK}{E:XK}{n:ν}{bk ct:ν}
theorem Zk2{hp a wt:AI}{F:KB.Fd}{ps:Au}{w:AE}(q:HV X.C X.H H hp F/\bN K H a (ps.map oV)/\dR K H wt (w.map V.int)/\w≠[]/\w.length<=100000/\ps.length<=1000/\∀l ts H',H l=none->aX H H'->H' l=some (.lst bE)->DR H' ts (KB.onw F w 0 ps)->Q (.ref l) H'):
  zQ K (jM X.H) ξ [↑hp,↑a,↑wt] H:=by
 obtain⟨v,h1,h2,b,h4,h5,q⟩:=q;exact Zfy v h1 h2 b h4 h5 (λe=>Zsy e h2) q
theorem Zfr{hp a:AI}{F:KB.Fd}{rs:AF}{R:KB.Rw}(T:lq K X)(q:HV X.C X.H H hp F/\bN K H a (rs.map V.ref)/\DP K H rs R/\Few F R/\∀l ts q b H',KB.wR F R q q.length b->H l=none->aX H H'->H' l=some (.lst bE)->DR H' ts b->Q (.ref l) H'):
  Dg K (Ul K X.C X.H) ξ [↑hp,↑a,none,none,none,none,none,none,none] H:=by
 obtain⟨v,h1,h2,d,q⟩:=q;exact Zch T.c v h1 h2 d q
end
theorem toN{x:Int}(h:0<=x):∃k:Nat,x=k:=⟨x.toNat,δ⟩
theorem WK(c:Nat):(⟨#[c]⟩:Str).length=1:=rfl
theorem Zvr(a b:Str):(a++b).length=a.length+b.length:=by
 show(a.cps++b.cps).size=_;rw[Array.size_append];rfl
theorem Zjb{d e:Type}{P:d->e->Prop}:∀{xs:List d}{c:List e},xs.length=c.length->(∀(i:Nat) x y,xs[i]? =some x->c[i]? =some y->P x y)->Al P xs c
 | [],[],_,_=>.nil
 | [],_::_,h,_=>by simp at h
 | _::_,[],h,_=>by simp at h
 | x::xs,y::c,h,p=>.cons (p 0 x y rfl rfl) (Zjb (by simpa using h) λi a b h1 h2=>p cy a b (by simpa using h1) (by simpa using h2))
def fQ(a:Int):List (Str×Au)->Nat->Wm->AE×Wm
 | [],_,M=>([],M)
 | m::l,k,M=>if a / 2 ^ k % 2=1 then((aW M m.2).1++(fQ a l db (aW M m.2).2).1,(fQ a l db (aW M m.2).2).2)else fQ a l db M
def lsE(x:Int):Nat->Nat->Int
 | _,0=>0
 | i,n+1=>if x / 2 ^ i % 2=0 then 2 ^ i else lsE x cy n
def BX(k:Nat)(lo:Int)(n:Nat):Int:=if k=0 then 0 else if k=1 then lsE lo 0 n else 2 ^ n - 1
theorem Rz(b:Int)(m:Str×Au):∀(l:List (Str×Au)) (k:Nat) (M:Wm),fQ b (l++[m]) k M=if b / 2 ^ (k+l.length) % 2=1 then((fQ b l k M).1++(aW (fQ b l k M).2 m.2).1,(aW (fQ b l k M).2 m.2).2)else fQ b l k M
 | [],k,M=>by
  show(if b / 2 ^ k % 2=1 then((aW M m.2).1++[],(aW M m.2).2)else([],M))=_;rw[List.append_nil];rfl
 | a::l,k,M=>by
  have e:k+(a::l).length=k+1+l.length:=by rw[List.length_cons];omega
  rw[e,List.cons_append];show(if b / 2 ^ k % 2=1 then((aW M a.2).1++(fQ b (l++[m]) db (aW M a.2).2).1,(fQ b (l++[m]) db (aW M a.2).2).2)else fQ b (l++[m]) db M)=_;show _=if b / 2 ^ (k+1+l.length) % 2=1 then(((if b / 2 ^ k % 2=1 then((aW M a.2).1++(fQ b l db (aW M a.2).2).1,(fQ b l db (aW M a.2).2).2)else fQ b l db M)).1++(aW (if b / 2 ^ k % 2=1 then((aW M a.2).1++(fQ b l db (aW M a.2).2).1,(fQ b l db (aW M a.2).2).2)else fQ b l db M).2 m.2).1,(aW (if b / 2 ^ k % 2=1 then((aW M a.2).1++(fQ b l db (aW M a.2).2).1,(fQ b l db (aW M a.2).2).2)else fQ b l db M).2 m.2).2)else(if b / 2 ^ k % 2=1 then((aW M a.2).1++(fQ b l db (aW M a.2).2).1,(fQ b l db (aW M a.2).2).2)else fQ b l db M)
  by_cases h:b / 2 ^ k % 2=1
  ·simp only[if_pos h];rw[Rz b m l db]
   by_cases h2:b / 2 ^ (k+1+l.length) % 2=1
   ·simp only[if_pos h2,List.append_assoc]
   ·simp only[if_neg h2]
  ·simp only[if_neg h];rw[Rz b m l db]
theorem Gx:∀{l:Au}{M:Wm},(aW M l).2.hands=M.hands
 | [],_=>rfl
 | x::l,M=>by
  show(aW (bO M x).2 l).2.hands=_;rw[Gx,Mj]
theorem yL(a:Int)(B:Nat):∀(l:List (Str×Au)) (k:Nat) (M:Wm),(∀m∈l,m.2.length<=B)->(fQ a l k M).2.sw.phase=M.sw.phase/\(fQ a l k M).2.sw.grey.length<=M.sw.grey.length+l.length * B/\(fQ a l k M).1.length<=l.length * B/\(fQ a l k M).2.hands=M.hands
 | [],_,_,_=>by simp[fQ]
 | m::l,k,M,h=>by
  have hm:=h m ζ;have e:(m::l).length * B=l.length * B+B:=by rw[List.length_cons,Nat.succ_mul]
  unfold fQ
  by_cases z:a / 2 ^ k % 2=1
  ·rw[if_pos z];obtain⟨b,f,g,c⟩:=yL a B l db (aW M m.2).2 λx hx=>h x (by simp[hx]);obtain⟨d,i⟩:=sJ (l:=m.2) (M:=M);have j:=vU (l:=m.2) (M:=M);exact⟨b.trans d,by show(fQ a l db (aW M m.2).2).2.sw.grey.length<=_;omega,by show((aW M m.2).1++_).length<=_;rw[List.length_append];omega,c.trans Gx⟩
  ·rw[if_neg z];obtain⟨b,f,g,c⟩:=yL a B l db M λx hx=>h x (by simp[hx]);exact⟨b,δ,δ,c⟩
structure NtR(M M':Wm):Prop where
 rm:M'.room=M.room
 us:M'.used=M.used
 bn:M'.born=M.born
 hd:M'.hands=M.hands
 nm:M'.names=M.names
 ww:M'.w=M.w
 tl:M'.tells=M.tells
 sw:∃g,M'.sw={ M.sw with grey:=g }
 ce:M'.cells.map (λo=>o.map λc=>{ c with tone:=0 })=M.cells.map (λo=>o.map λc=>{ c with tone:=0 })
theorem NtR.refl(M:Wm):NtR M M:=⟨rfl,rfl,rfl,rfl,rfl,rfl,rfl,⟨_,rfl⟩,rfl⟩
theorem NtR.trans{M M1 M2:Wm}(a:NtR M M1)(b:NtR M1 M2):NtR M M2:=by
 obtain⟨d,j,k,n,q,c,f,⟨g,t⟩,o⟩:=a;obtain⟨h,m,p,v,l,s,i,⟨r,e⟩,u⟩:=b;exact⟨h.trans d,m.trans j,p.trans k,v.trans n,l.trans q,s.trans c,i.trans f,⟨r,by rw[e,t]⟩,u.trans o⟩
theorem Zd2(M:Wm)(x:AA):NtR M (bO M x).2:=by
 cases x with
 | none=>exact NtR.refl M
 | some i=>
  unfold bO;dsimp only;cases hc:cellAt M i with
  | none=>exact NtR.refl M
  | some c=>
   dsimp only;split
   ·obtain⟨a,h1⟩:=cC.mp hc;refine⟨rfl,rfl,rfl,rfl,rfl,rfl,rfl,⟨_,rfl⟩,?_⟩;show(M.cells.set i.toNat _).map _=_;rw[List.map_set];refine List.ext_getElem? λk=>?_
    by_cases z:i.toNat=k
    ·subst z;rw[List.getElem?_set_self (by rw[aR];exact(cI h1).1),bL,h1];rfl
    ·rw[List.getElem?_set_ne z]
   ·exact NtR.refl M
theorem zY:∀(l:Au) (M:Wm),NtR M (aW M l).2
 | [],M=>NtR.refl M
 | x::l,M=>(Zd2 M x).trans (zY l _)
theorem Jo(a:Int):∀(l:List (Str×Au)) (k:Nat) (M:Wm),NtR M (fQ a l k M).2
 | [],_,M=>NtR.refl M
 | m::l,k,M=>by
  unfold fQ;split
  ·exact(zY m.2 M).trans (Jo a l db _)
  ·exact Jo a l db M
theorem Zna(a:Int)(l:List (Str×Au))(k:Nat)(M:Wm):(fQ a l k M).2.sw.turn=M.sw.turn/\(fQ a l k M).2.sw.looked=M.sw.looked/\(fQ a l k M).2.sw.looks=M.sw.looks:=by
 obtain⟨g,e⟩:=(Jo a l k M).sw;rw[e];exact⟨rfl,rfl,rfl⟩
theorem Zk3{M:Wm}{x:AA}(h:(bO M x).1=none):(bO M x).2=M:=by
 cases x with
 | none=>rfl
 | some i=>
  unfold bO at h ⊢;dsimp only at h ⊢;cases hc:cellAt M i with
  | none=>rfl
  | some c=>
   rw[hc]at h;dsimp only at h ⊢;split
   ·rename_i z
    rw[if_pos z]at h;cases h
   ·rfl
theorem Rt:∀{l:Au}{M:Wm},(aW M l).1=[]->(aW M l).2=M
 | [],_,_=>rfl
 | x::l,M,h=>by
  have h:ofN (bO M x).1++(aW (bO M x).2 l).1=[]:=h;obtain⟨h1,h2⟩:=List.append_eq_nil_iff.mp h;have a:(bO M x).1=none:=by
   cases e:(bO M x).1 with
   | none=>rfl
   | some b=>rw[e]at h1;cases h1
  show(aW (bO M x).2 l).2=M;rw[Rt h2,Zk3 a]
theorem ZW(a:Int):∀{l:List (Str×Au)}{k:Nat}{M:Wm},(fQ a l k M).1=[]->(fQ a l k M).2=M
 | [],_,_,_=>rfl
 | m::l,k,M,h=>by
  unfold fQ at h ⊢;split
  ·rename_i z
   rw[if_pos z]at h;obtain⟨h1,h2⟩:=List.append_eq_nil_iff.mp h;show(fQ a l db (aW M m.2).2).2=M;rw[ZW a h2,Rt h1]
  ·rename_i z
   rw[if_neg z]at h;exact ZW a h
theorem Zde:∀(l:List (Str×Au)) (k:Nat) (M:Wm),fQ 0 l k M=([],M)
 | [],_,_=>rfl
 | m::l,k,M=>by
  unfold fQ;rw[if_neg ζ,Zde l db M]
inductive wC(X:Cs)(wo:AI)(bits:Int)(H:Hp)(Q:VK):Prop
 | mk (T s A M) (_:WT H T) (_:s≠0) (_:WJ X H T s A M) (_:A.wo=wo) (_:(∀m∈M.hands,m.2.length<=100)) (_:(M.sw.phase="walk"->M.sw.grey.length<=5000)) (_:∀H' T' l,gD s H H' T T'->WJ X H' T' s A (fQ bits M.hands 0 M).2->H' l=some (.lst ((fQ bits M.hands 0 M).1.map V.int))->(H l=none/\(T' l).1≠s)->Q (.ref l) H'):wC X wo bits H Q
def p8(X:Cs):Sp:=λvs H Q E=>∃wo a,vs=[.ref wo,.int a]/\wC X wo a H Q
def mF(k:Nat):Sp:=λvs H Q E=>∃a lo h,vs=[.ref a,.int lo,.int h]/\0<=h/\h<=30/\Q (.int (BX k lo h.toNat)) H
section
variable {K:aB}{X:Cs}{H:Hp}{Q:VK}{E:XK}{n:ν}{bk ct:ν}
theorem Kc{a:AI}(q:Q (.bl true) H):uB ξ [↑a] H:=by
 unfold uB;apply q
theorem V8{a:AI}(q:Q (.bl false) H):Br ξ [↑a] H:=by
 unfold Br;apply q
theorem zM{a:AI}{lo h:Int}(q:0<=h/\h<=30/\Q (.int (BX 0 lo h.toNat)) H):oU ξ [↑a,some (.int lo),some (.int h)] H:=by
 unfold oU;apply q.2.2
theorem Ii{a:AI}{lo h:Int}(q:0<=h/\h<=30/\Q (.int (BX 2 lo h.toNat)) H):rK Ur ξ [↑a,some (.int lo),some (.int h)] H:=by
 obtain⟨b,h1,q⟩:=q;unfold rK;apply⟨h,rfl,b,h1,q⟩
theorem Ik{a:AI}{lo h:Int}(q:0<=h/\h<=30/\Q (.int (BX 1 lo h.toNat)) H):rN ξ [↑a,some (.int lo),some (.int h),none] H:=by
 obtain⟨k,h1,q⟩:=q;have q:Q (.int (lsE lo 0 h.toNat)) H:=q;unfold rN;exists h,rfl,δ,δ;refine forR (λi c d=>∃v,c=[↑a,some (.int lo),some (.int h),v]/\d=H/\(i<=h.toNat->lsE lo 0 h.toNat=lsE lo i (h.toNat - i))) ⟨none,rfl,rfl,λ_=>rfl⟩ ?_ ?_
 ·rintro i c d j ⟨v,rfl,rfl,b⟩;have b:=b δ;have g:h.toNat - i=(h.toNat - cy)+1:=δ
  rw[g]at b;have f:lsE lo i (h.toNat - (i+1)+1)=if lo / 2 ^ i % 2=0 then 2 ^ i else lsE lo cy (h.toNat - cy):=rfl
  rw[f]at b;have e:((0:Int)+(i:Int)).toNat=i:=δ
  ext;rw[e,Zp2];refine mG bp bp
  ·rw[if_pos z]at b;apply i_I (Zj6 δ δ) ?_;rw[e,Int.one_mul,<- b];exact q
  ·rw[if_neg z]at b;apply⟨_,rfl,rfl,λ_=>b⟩
 ·rintro c d ⟨v,rfl,rfl,b⟩;have b:=b Δ;rw[Nat.sub_self]at b;have b:lsE lo 0 h.toNat=0:=b;ext;rw[b]at q;exact q
theorem Vh{wo:AI}{a:Int}(E:lq K X)(q:wC X wo a H Q):
  Bg K (oE X) ξ [↑wo,some (.int a),none,none,none] H:=by
 obtain⟨T,s,A,M,w,s0,j,rfl,hs,hg,q⟩:=q;have lh:=j.jd.lh;have l5:=j.jd.l5;unfold Bg;apply⟨aQ ζ,λl hl=>?_⟩;have e:gD s H eD T (eZ T l (s+1,1)):=gD.fresh w hl;have r:WJ X eD (eZ T l (s+1,1)) s A M:=j.fresh hl;have W:upd H l (.lst []) l=some (.lst []):=aq;have tl:eZ T l (s+1,1) l=(s+1,1):=fL;generalize upd H l (.lst [])=H1 at e r W ⊢;generalize eZ T l (s+1,1)=T1 at e r tl;obtain⟨dw,ow⟩:=r.jb.ow;apply aJ ow E.cW E.nWd dH ?_;apply⟨A.hl,rfl,⟨_,bN.of r.jb.on⟩,Zxg (A.hs.map λp=>V.ref p.1) (λi L f=>∃R P O,L=[↑A.wo,some (.int a),↑l,P,O]/\gD s H f T R/\R l=(s+1,1)/\WJ X f R s A (fQ a (M.hands.take i) 0 M).2/\f l=some (.lst ((fQ a (M.hands.take i) 0 M).1.map V.int))) ⟨T1,_,_,rfl,e,tl,r,W⟩ (by rintro _ _ _ _ ⟨_,_,_,_,_,_,z,_⟩;exact bN.of z.jb.on) ?_ ?_⟩
 ·rintro i x t L f hx ⟨v,P,O,rfl,d,b,C,B⟩ ht;rw[bL]at hx;obtain⟨p,hp,rfl⟩:=Option.map_eq_some_iff.mp hx;have hil:i<A.hs.length:=(cI hp).1;obtain⟨m,hm⟩:∃m,M.hands[i]? =some m:=⟨_,bG δ⟩;have U:M.hands.take cy=M.hands.take i++[m]:=by rw[List.take_add_one,hm];rfl
  have u:(M.hands.take i).length=i:=by rw[List.length_take];omega
  obtain⟨n1,n2,n3,n4⟩:=yL a 100 (M.hands.take i) 0 M λx hx=>hs x (List.mem_of_mem_take hx);have g:=Rz a m (M.hands.take i) 0 M;rw[<- U,Nat.zero_add,u]at g;generalize zz:upd f t _=H3;obtain⟨I,S⟩:=nwO ht zz;have N:=C.same I;have h:=d.trans (gD.same (s:=s) d.wt I);have D:=I _ _ B;refine⟨t,_,rfl,dR.of S,rfl,.int i,_,rfl,?_⟩;exists .ref p.1,_,rfl;exists rfl;ext;rw[Zp2,Int.toNat_natCast];refine mG bp bp
  ·rw[if_pos z]at g;exists .inl ⟨rfl,_,bN.of D⟩;have k:(fQ a (M.hands.take i) 0 M).2.hands[i]? =some m:=by rw[n4];exact hm
   have hd:=N.jd.hd i p m hp k;obtain⟨dx,o1⟩:=hd.o1;have J:=hs m (List.mem_of_getElem? hm);have hB:(M.hands.take i).length * 100<=3000:=by rw[u];omega
   apply aJ o1 E.cD E.nDs m7 ?_;apply⟨_,_,rfl,m.2,v,s,A,_,h.wt,s0,N,rfl,.inr (.inl ⟨i,p,m,hp,k,rfl,rfl⟩),J,λy=>?_,λZ Y l4 c j4 g4 nl4=>?_⟩
   ·have:=hg (n1.symm.trans y);omega
   have F:Z l=some (.lst ((fQ a (M.hands.take i) 0 M).1.map V.int)):=c.kp _ _ D (by rw[b];show s+1≠s;omega);have nl:=vU (l:=m.2) (M:=(fQ a (M.hands.take i) 0 M).2);apply⟨l,l4,_,_,rfl,rfl,F,g4,by rw[aR,aR];exact aQ δ,?_⟩;ext;have o:Y l=(s+1,1):=(c.tg _ _ D).trans b;refine⟨Y,_,_,rfl,gD.new (h.trans c) hl F,o,?_,?_⟩
   ·rw[g];exact j4.other (s':=s+1) (gD.upd c.wt F (by rw[o])) δ δ
   ·rw[g,aq,List.map_append]
  ·rw[if_neg z]at g;apply⟨v,_,_,rfl,h,b,by rw[g];exact N,by rw[g];exact D⟩
 ·rintro L f ⟨v,P,O,rfl,d,b,C,B⟩;ext;rw[aR,lh,List.take_length]at C B;exact q f v l d C B ⟨hl,by rw[b];show s+1≠s;omega⟩
end
structure J3(M:Wm):Prop where
 cl:M.cells.length<=900
 hl:∀m∈M.hands,m.2.length<=100
 fl:∀c,some c∈M.cells->c.fl.length<=50
 nl:M.names.length<=900
 gl:M.sw.phase="walk"->M.sw.grey.length<=900
 gc:M.sw.phase="walk"->∀x∈M.sw.grey,∃c,cellAt M x=some c
 ph:M.sw.phase="rest"\/M.sw.phase="walk"\/M.sw.phase="give"\/M.sw.phase="lost"
 a0:0<=M.sw.at'
inductive Ut(H:Hp)(T:Tg)(M:Wm)(b:Int)(w:AE):Prop
 | mk (a wl) (_:M.sw.loss=.ref a) (_:T a=(0,0)) (_:H a=some (.tup [.str "lost",.int b,.ref wl])) (_:T wl=(0,0)) (_:H wl=some (.lst (w.map V.int))):Ut H T M b w
def LsN(H:Hp)(M:Wm)(a:AI):Prop:=∀x b l z c i d,M.sw.loss=.ref x->H x=some (.tup [z,i,.ref b])->H a=some (.tup [c,d,.ref l])->l≠b
theorem lsn{H:Hp}{M:Wm}{a x d l:AI}{z g i h:V}(e:M.sw.loss=.ref x)(o:H x=some (.tup [z,i,.ref d]))(m:H a=some (.tup [g,h,.ref l]))(n:l≠d):LsN H M a:=λy r k u q j p c f b=>by
 rw[e]at c;cases c;rw[o]at f;cases f;rw[m]at b;cases b;exact n
def qK(M:Wm)(i:Nat):Option Ce:=((M.cells[i]?).join).bind λc=>if c.tone=M.sw.sense then none else some c
def qJ(M:Wm):AE:=(List.range M.cells.length).filterMap λi=>(qK M i).map λ_=>(i:Int)
def jf(M:Wm):AE:=(List.range M.cells.length).filterMap λi=>(qK M i).map (·.birth)
def fK(M:Wm):Wm:={ M with sw:={ M.sw with stop:=M.cells.length,at':=0 } }
def bJ(M:Wm):Int:=BX M.w.toNat M.sw.looked M.hands.length
def nZ(M:Wm):Prop:=bJ M=0\/(M.w=2/\(fQ bg M.hands 0 M).1=[])
inductive nj(lb:Int)(lw:AE)(M:Wm):Ev->Wm->Prop
 | begin:M.sw.phase="rest"->nj lb lw M ⟨"begin",some (M.sw.turn+1),(fQ (kZ M.w M.hands.length) M.hands 0 (wA M)).1⟩ (fQ (kZ M.w M.hands.length) M.hands 0 (wA M)).2
 | walk (x:Int) (g:AE) (c:Ce):M.sw.phase="walk"->M.sw.grey=x::g->cellAt M x=some c->nj lb lw M ⟨"walk",some c.birth,(aW { M with sw:={ M.sw with grey:=g,walks:=M.sw.walks+1 } } c.fl).1⟩ (aW { M with sw:={ M.sw with grey:=g,walks:=M.sw.walks+1 } } c.fl).2
 | look (N:Wm):M.sw.phase="walk"->M.sw.grey=[]->¬ nZ M->N=(fQ (bJ M) M.hands 0 M).2->nj lb lw M ⟨"look",some (bJ M),(fQ (bJ M) M.hands 0 M).1⟩ { N with sw:={ N.sw with looks:=N.sw.looks+1,looked:=if M.w=2 then N.sw.looked else Builtin.bitOr N.sw.looked (bJ M) } }
 | cut (q qs:List (Int×AE)):M.sw.phase="walk"->M.sw.grey=[]->nZ M->KB.wR (fdOf M) (cP M) q q.length qs->(∀x∈qs,∀c,cellAt M x.1=some c->c.tone=M.sw.sense)->nj lb lw M ⟨"cut",some (jf M).length,jf M⟩ { fK M with sw:={ (fK M).sw with phase:="give" } }
 | lost (q qs:List (Int×AE)) (i:Nat) (x:Int×AE) (c:Ce) (v:V):M.sw.phase="walk"->M.sw.grey=[]->nZ M->KB.wR (fdOf M) (cP M) q q.length qs->qs[i]? =some x->(∀(k:Nat) y d,k<i->qs[k]? =some y->cellAt M y.1=some d->d.tone=M.sw.sense)->cellAt M x.1=some c->c.tone≠M.sw.sense->nj lb lw M ⟨"lost",some c.birth,x.2⟩ { fK M with sw:={ (fK M).sw with phase:="lost",loss:=v } }
 | pass:M.sw.phase="give"->M.sw.at'<M.sw.stop->(∀c,cellAt M M.sw.at'=some c->c.tone=M.sw.sense)->nj lb lw M ⟨"pass",some M.sw.at',[]⟩ { M with sw:={ M.sw with at':=M.sw.at'+1,passes:=M.sw.passes+1 } }
 | back (c:Ce):M.sw.phase="give"->M.sw.at'<M.sw.stop->cellAt M M.sw.at'=some c->c.tone≠M.sw.sense->nj lb lw M ⟨"back",some c.birth,[M.sw.at']⟩ { M with used:=M.used - (1+c.fl.length+c.bulk),cells:=M.cells.set M.sw.at'.toNat none,sw:={ M.sw with at':=M.sw.at'+1,passes:=M.sw.passes+1 } }
 | fin:M.sw.phase="give"->¬ M.sw.at'<M.sw.stop->nj lb lw M ⟨"end",some M.sw.turn,[M.sw.walks,M.sw.looks,M.sw.passes]⟩ { M with sw:={ M.sw with phase:="rest" } }
 | again:M.sw.phase="lost"->nj lb lw M ⟨"lost",some lb,lw⟩ M
inductive xR(X:Cs)(P:Wm->Prop)(wo:AI)(H:Hp)(Q:VK):Prop
 | mk (T s A M lb lw) (_:WT H T) (_:s≠0) (_:WJ X H T s A M) (_:A.wo=wo) (_:J3 M) (_:P M) (_:(M.sw.phase="lost"->Ut H T M lb lw)) (_:∀e M',nj lb lw M e M'->∀H' T' A' a,gD s H H' T T'->WJ X H' T' s A' M'->A'.wo=wo/\A'.sw=A.sw->EvN H H' T' s a e->(M'.sw.phase="lost"->∃b,e.thing=some b/\Ut H' T' M' b e.notes/\LsN H' M' a)->Q (.ref a) H'):xR X P wo H Q
def cM(X:Cs)(P:Wm->Prop):Sp:=λvs H Q E=>∃wo,vs=[.ref wo]/\xR X P wo H Q
def Zmu(M:Wm):Prop:=M.sw.phase="walk"/\M.sw.grey≠[]
def Zmx(M:Wm):Prop:=M.sw.phase="walk"/\M.sw.grey=[]
def Zmy(M:Wm):Prop:=M.sw.phase="walk"/\M.sw.grey=[]/\nZ M
def Zmw(M:Wm):Prop:=M.sw.phase="give"/\M.sw.at'<M.sw.stop
def pEnd(M:Wm):Prop:=M.sw.phase="give"/\¬ M.sw.at'<M.sw.stop
def Xo(z:Str)(M:Wm):Prop:=M.sw.phase=z
def Zcv(_:Wm):Prop:=True
inductive wB(K:aB)(ev:AI)(H:Hp)(Q:VK):Prop
 | mk (z b l) (ns:AE) (_:H ev=some (.tup [.str z,.int b,.ref l])) (_:H l=some (.lst (ns.map V.int))) (_:∀a l' H',aX H H'->H l'=none->H' a=some (.tup [.str z,.int b,.ref l'])->H' l'=some (.lst (ns.map V.int))->Q (.ref a) H'):wB K ev H Q
def wJ(K:aB):Sp:=λvs H Q E=>∃a,vs=[.ref a]/\wB K a H Q
inductive Dy(X:Cs)(wo:AI)(H:Hp)(Q:VK):Prop
 | mk (T s A M) (_:WJ X H T s A M) (_:A.wo=wo) (_:M.cells.length<=900) (_:∀l H',aX H H'->H l=none->H' l=some (.lst ((qJ M).map V.int))->Q (.ref l) H'):Dy X wo H Q
def Um(X:Cs):Sp:=λvs H Q E=>∃wo,vs=[.ref wo]/\Dy X wo H Q
section
variable {K:aB}{X:Cs}{H:Hp}{Q:VK}{E:XK}{n:ν}{bk ct:ν}
theorem UG{d:AI}(q:wB K d H Q):
  Be K ξ [↑d] H:=by
 obtain⟨z,b,l,ns,o1,o2,q⟩:=q;unfold Be;exists d,_,0,_,rfl,rfl,dR.of o1,rfl;exists d,_,1,_,rfl,rfl,dR.of o1,rfl;exists d,_,2,_,rfl,rfl,dR.of o1,rfl;apply Zam (bN.of o2) λe c=>?_;generalize zz:upd H e _=H1;obtain⟨g,i⟩:=nwO c zz;apply⟨aQ ζ,λa h=>?_⟩;have f:=aH h (.tup [.str z,.int b,.ref e]);exact q a e _ (g.trans f) c aq (f _ _ i)
theorem S7{a b:Type}{f g:a->Option b}:∀{l:List a},(∀x∈l,f x=g x)->l.filterMap f=l.filterMap g
 | [],_=>rfl
 | x::l,h=>by
  rw[List.filterMap_cons,List.filterMap_cons,h x ζ,S7 λy hy=>h y (by simp[hy])]
theorem Zck{a b:Type}(f:a->Option b):∀(xs:List a),(List.range xs.length).filterMap (λi=>(xs[i]?).bind f)=xs.filterMap f
 | []=>rfl
 | x::xs=>by
  rw[List.length_cons,List.range_succ_eq_map,List.filterMap_cons];simp only[List.getElem?_cons_zero,Option.bind_some,List.filterMap_map,List.filterMap_cons];have e:((λi=>((x::xs)[i]?).bind f) ∘ Nat.succ)=λi=>(xs[i]?).bind f:=by
   funext i
   simp
  rw[e,Zck f xs]
theorem Zjz{A:Wa}{M:Wm}{T:Tg}{s:Nat}(j:WJ X H T s A M)(f:V->Option V)(g:∀(i:Nat) (c:Ce),M.cells[i]? =some (some c)->f (.int i)=(qK M i).map λ_=>V.int i):((plc df).map V.int).filterMap f=(qJ M).map V.int:=by
 unfold plc qJ;rw[List.filterMap_map,List.filterMap_map,List.filterMap_filter,List.map_filterMap,aR,j.jc.lc];refine S7 λi d=>?_;have a:=List.mem_range.mp d;have e:(A.cs.map pV)[i]? =some V.non↔M.cells[i]? =some none:=by
  constructor
  ·intro z;cases hc:M.cells[i]with
   | none=>rw[bG a,hc]
   | some c=>
    obtain⟨p,hp,_⟩:=j.jc.at (i:=i) (c:=c) (by rw[bG a,hc]);rw[bL,hp]at z;cases z
  ·intro z;rw[bL,j.jc.at0 z];rfl
 by_cases z:M.cells[i]? =some none
 ·rw[if_neg (by simp[e.mpr z])];unfold qK;rw[z];rfl
 ·have b:¬ (A.cs.map pV)[i]? =some V.non:=λy=>z (e.mp y);rw[if_pos (by simp only[b,decide_false,Bool.not_false])];cases hc:M.cells[i]with
  | none=>exact absurd (by rw[bG a,hc]) z
  | some c=>
   show f (.int (i:Int))=_;rw[g i c (by rw[bG a,hc]),Option.map_map];rfl
theorem Ze9{wo:AI}(d:lq K X)(q:Dy X wo H Q):
  yq K X.H (qb X.H) (iB X) ξ [↑wo,none] H:=by
 obtain⟨T,s,A,M,j,rfl,hc,q⟩:=q;obtain⟨L,ow⟩:=j.jb.ow;obtain⟨F,oh⟩:=j.jh.oh;unfold yq;apply aJ ow d.cW d.Gy bz ?_;apply Cp ?_;exists A.hp,F,_,rfl,oh,zb;apply⟨_,rfl,A.ca,M.room,M.used,M.born,_,j.hpO,by rw[aR,j.jc.lc];omega,λlt r=>?_⟩;generalize zz:upd H lt _=H1;obtain⟨h,w⟩:=nwO r zz;have e:=j.same h;have J:(plc df).length<=900:=by
  unfold plc;rw[aR];refine Nat.le_trans (List.length_filter_le _ _) ?_;rw[List.length_range,aR,j.jc.lc];exact hc
 refine⟨lt,rfl,⟨_,bN.of w⟩,?_⟩
 let f:V->Option V:=λv=>match v with
  | .int p=>(qK M p.toNat).map λ_=>V.int p
  | _=>none
 refine G4 (bN.of w) (λi=>(((plc df).map V.int)[i]?).bind f) (by rw[aR];omega) (λi x t=>?_) ?_
 ·rw[bL]at t;obtain⟨p,hp,rfl⟩:=Option.map_eq_some_iff.mp t;have hm:=List.mem_of_getElem? hp;unfold plc at hm;obtain⟨k,hk,rfl⟩:=List.mem_map.mp hm;obtain⟨l,m⟩:=List.mem_filter.mp hk;have a:k<M.cells.length:=by
   have:=List.mem_range.mp l;rw[aR,j.jc.lc]at this;exact this
  obtain⟨c,b⟩:∃c,M.cells[k]? =some (some c):=by
   cases C:M.cells[k]with
   | none=>
    exfalso
    have:(A.cs.map pV)[k]? =some V.non:=by rw[bL,j.jc.at0 (i:=k) (by rw[bG a,C])];rfl
    simp[this]at m
   | some c=>exact⟨c,by rw[bG a,C]⟩
  obtain⟨D,o,ce⟩:=e.jc.at b;have u:(((plc df).map V.int)[i]?).bind f=(qK M k).map λ_=>V.int (k:Int):=by
   rw[bL,hp];show(qK M (Int.toNat k)).map _=_;rw[Int.toNat_natCast]
  have I:(qK M k)=if c.tone=M.sw.sense then none else some c:=by unfold qK;rw[b];rfl
  obtain⟨E,g⟩:=e.jh.oh;refine⟨λq hq=>?_,λy q hy hq=>?_⟩
  ·rw[u,I]at hq;walk_at"c";apply aJ g d.c.cT d.c.bR bM ?_;apply fD (bN.of e.jh.oc) (gq (v:=.ref D.1) (by rw[bL,o];rfl)) ?_;exists _,_,rfl,T,s,A,M,_,D,c,e.w0,rfl,ce,rfl;ext
   by_cases z:c.tone=M.sw.sense
   ·rw[if_pos z]at hq;rw[decide_eq_true z];exact hq
   ·rw[if_neg z]at hq;rw[decide_eq_false z];exact hq
  ·rw[u]at hy;obtain⟨_,_,rfl⟩:=Option.map_eq_some_iff.mp hy;walk_at"c";apply hq
 ·intro p B;rw[Zck f,Zjz j f (λi c hc=>by show(qK M (Int.toNat i)).map _=_;rw[Int.toNat_natCast])];exact q p _ (h.trans (aH B _)) (h.free B) aq
theorem Ol{wo:AI}(c:lq K X)(q:xR X (Xo "rest") wo H Q):xj K (Zjg X) (p8 X) ξ [↑wo,none] H:=by
 obtain⟨T,s,A,M,F,D,w,t,j,rfl,ok,ph,lo,q⟩:=q;unfold xj;apply⟨_,rfl,T,s,A,M,w,t,j,rfl,λE B p d o b=>?_⟩;obtain⟨J,ow⟩:=o.jb.ow;obtain⟨I,os⟩:=o.js.os;rw[b.1]at ow;apply aJ ow c.cW c.Io aV ?_;apply aJ os c.cS c.n4 eV ?_;apply⟨_,_,rfl,B,s,p,_,d.wt,t,o,b.1,ok.hl,λ_=>Nat.zero_le _,λv u l e f m r=>?_⟩;have f:WJ X v u s p (fQ (kZ M.w M.hands.length) M.hands 0 (wA M)).2:=f;have m:v l=some (.lst ((fQ (kZ M.w M.hands.length) M.hands 0 (wA M)).1.map V.int)):=m;obtain⟨x,g⟩:=f.jb.ow;obtain⟨C,k⟩:=f.js.os;rw[b.1]at g;have h:=Zna (kZ M.w M.hands.length) M.hands 0 (wA M);apply aJ g c.cW c.Io aV ?_;apply aJ k c.cS c.n5 mL ?_;apply⟨aQ ζ,λa y=>?_⟩;rw[h.1];have i:=aH y (.tup [.str "begin",.int (M.sw.turn+1),.ref l]);refine q _ _ (.begin ph) _ u p a (d.trans (e.trans (gD.same e.wt i))) (f.same i) b ⟨l,⟨gD.free d r.1,r.2⟩,aq,i _ _ m⟩ λz=>?_;have:=(yL (kZ M.w M.hands.length) 100 M.hands 0 (wA M) ok.hl).1;rw[this]at z;exact absurd z (show ¬ ("walk":Str)="lost" by decide)
end
inductive wF(X:Cs)(wo:AI)(H:Hp)(Q:VK):Prop
 | mk (T s A M) (_:WT H T) (_:s≠0) (_:WJ X H T s A M) (_:A.wo=wo) (_:J3 M) (_:(∀q qs H',KB.wR (fdOf M) (cP M) q q.length qs->(∀x∈qs,∀c,cellAt M x.1=some c->c.tone=M.sw.sense)->aX H H'->Q .non H')) (_:(∀q qs (i:Nat) x c a wl H',KB.wR (fdOf M) (cP M) q q.length qs->qs[i]? =some x->(∀(k:Nat) y d,k<i->qs[k]? =some y->cellAt M y.1=some d->d.tone=M.sw.sense)->cellAt M x.1=some c->c.tone≠M.sw.sense->aX H H'->H a=none->H wl=none->H' a=some (.tup [.str "lost",.int c.birth,.ref wl])->H' wl=some (.lst (x.2.map V.int))->Q (.ref a) H')):wF X wo H Q
def Ih(X:Cs):Sp:=λvs H Q E=>∃wo,vs=[.ref wo]/\wF X wo H Q
section
variable {K:aB}{X:Cs}{H:Hp}{Q:VK}{E:XK}{n:ν}{bk ct:ν}
theorem Zlv{a:Type}(f:a->Nat)(B:Nat):∀(xs:List a),(∀x∈xs,f x<=B)->(xs.map f).sum<=xs.length * B
 | [],_=>ζ
 | x::xs,h=>by
  have h1:=h x ζ;have h2:=Zlv f B xs λy hy=>h y (by simp[hy]);rw[List.map_cons,List.sum_cons,List.length_cons,Nat.succ_mul];omega
theorem Zs6{a b:Type}(f:a->List b)(B:Nat):∀(xs:List a),(∀x∈xs,(f x).length<=B)->(xs.flatMap f).length<=xs.length * B
 | [],_=>ζ
 | x::xs,h=>by
  have h1:=h x ζ;have h2:=Zs6 f B xs λy hy=>h y (by simp[hy]);rw[List.flatMap_cons,List.length_append,List.length_cons,Nat.succ_mul];omega
theorem Zgw{M:Wm}{T:Tg}{s:Nat}{A:Wa}(j:WJ X H T s A M)(ok:J3 M):Few eu (cP M):=by
 have l5:=j.jd.l5;have lh:=j.jd.lh;have hl:(heldOf M).length=M.hands.length:=by unfold heldOf;rw[aR]
 have hr:(cP M).length<=31:=by unfold cP;rw[List.length_append,hl,<- lh];simp;omega
 have a:∀x∈cP M,x.length<=900:=λx hx=>by
  unfold cP at hx;rcases List.mem_append.mp hx with hx | hx
  ·obtain⟨m,hm,rfl⟩:=List.mem_map.mp hx;exact Nat.le_trans (ok.hl m hm) ε
  ·rw[List.mem_singleton.mp hx];unfold dU;rw[aR];exact ok.nl
 have e:(fdOf M).length=M.cells.length:=by unfold fdOf;rw[aR]
 have b:=ok.cl;have d:∀(i:Nat) x,(fdOf M)[i]? =some x->KB.wgt x<=50:=λi x hx=>by
  unfold fdOf at hx;rw[bL]at hx;obtain⟨o,f,rfl⟩:=Option.map_eq_some_iff.mp hx;cases o with
  | none=>exact Nat.zero_le _
  | some c=>exact ok.fl c (List.mem_of_getElem? f)
 refine⟨δ,λp fl hp=>?_,δ,λx hx=>by have:=a x hx;omega,?_⟩
 ·rw[S8]at hp;obtain⟨c,hc,rfl⟩:=Option.map_eq_some_iff.mp hp;have:=ok.fl c (oA hc);omega
 ·unfold KB.total;have h1:(KB.q0 eu 0 (cP M)).length<=31 * 900:=by
   unfold KB.q0;refine Nat.le_trans (Zs6 _ 900 _ λx hx=>?_) (by rw[List.length_zipIdx];exact Nat.mul_le_mul_right _ hr);refine Nat.le_trans KB.O9 (a x.1 ?_);obtain⟨_,h2⟩:=List.mem_zipIdx_iff_le_and_getElem?_sub.mp hx;exact List.mem_of_getElem? h2
  have h2:KB.Zf7 eu []<=900 * 50:=by
   unfold KB.Zf7;refine Nat.le_trans (Zlv _ 50 _ λx hx=>?_) (by rw[List.length_zipIdx,e];exact Nat.mul_le_mul_right _ b);obtain⟨_,h2⟩:=List.mem_zipIdx_iff_le_and_getElem?_sub.mp hx;simp only[List.map_nil,List.not_mem_nil,↓reduceIte];exact d _ _ h2
  omega
theorem Ze{M:Wm}:∀{a:List Au}{ls:AF},ls.length=a.length->(∀(j:Nat) r x,ls[j]? =some r->a[j]? =some x->H r=some (.lst (x.map oV)))->DP K H ls a
 | [],[],_,_=>trivial
 | [],_::_,h,_=>by simp at h
 | _::_,[],h,_=>by simp at h
 | x::a,r::ls,h,g=>⟨bN.of (g 0 r x rfl rfl),Ze (M:=M) (by simpa using h) λj r x b c=>g (j+1) r x (by simpa using b) (by simpa using c)⟩
theorem VR{wo:AI}(b:lq K X)(q:wF X wo H Q):
  Bj K (iB X) (J8 K X.C X.H) (Px X) ξ [↑wo,none,none,none] H:=by
 obtain⟨T,s,A,M,w,s0,j,rfl,ok,q1,q2⟩:=q;obtain⟨dw,ow⟩:=j.jb.ow;have l5:=j.jd.l5;have lh:=j.jd.lh;have nl:=ok.nl;unfold Bj;apply aJ ow b.cW b.Gy bz ?_;apply⟨_,rfl,T,s,A,M,s0,j,rfl,δ,δ,λra rs H1 s1 nra W U nrs nrl g1=>?_⟩;apply⟨A.hp,ra,fdOf M,rs,cP M,rfl,(j.same s1).w0.hv,bN.of W,Ze (M:=M) U g1,Zgw j ok,λl ts q f H2 L Vi s2 ol qa=>?_⟩;have u:=s1.trans s2;have p:=j.same u;have good:=L.good.2;have B:=qa.len;obtain⟨dw2,O⟩:=p.jb.ow;obtain⟨dh2,I⟩:=p.jh.oh;refine⟨l,rfl,⟨_,bN.of ol⟩,forL bE (λi J r=>∃F P S,J=[↑A.wo,F,P,S]/\r=H2/\∀(k:Nat) y d,k<i->f[k]? =some y->cellAt M y.1=some d->d.tone=M.sw.sense) ⟨_,_,_,rfl,rfl,λk y d hk=>absurd hk (Nat.not_lt_zero _)⟩ (by rintro _ _ _ _ ⟨_,_,_,_,z,_⟩;rw[z];exact bN.of ol) ?_ ?_⟩
 ·rintro i x J r hi ⟨F,P,S,rfl,rfl,hno⟩;rw[bL]at hi;obtain⟨t,ht,rfl⟩:=Option.map_eq_some_iff.mp hi;have g:i<f.length:=by rw[<- B];exact(cI ht).1
  obtain⟨t',wa,et,ot,m⟩:=qa.at (bG g);rw[ht]at et;cases et;have hx:f[i]? =some f[i]:=bG g;generalize f[i]=x at hx ot m;obtain⟨fl,D⟩:=Option.isSome_iff_exists.mp (good x (List.mem_of_getElem? hx)).there;rw[S8]at D;obtain⟨c,hc,_⟩:=Option.map_eq_some_iff.mp D;obtain⟨x0,Z⟩:=cC.mp hc;obtain⟨pp,R,ce⟩:=p.jc.at Z;obtain⟨_,_,⟨dc,oc⟩,_⟩:=id ce;refine⟨t,_,rfl,dR.of ot,rfl,?_⟩;refine⟨_,_,rfl,?_⟩;exists _,_,rfl;exists rfl;apply aJ O b.cW b.Gy bz ?_;refine aJ I b.c.cT b.c.bR bM ?_;apply fD (bN.of p.jh.oc) (iW (v:=.ref pp.1) x0 (by rw[bL,R];rfl)) ?_;exists _,_,rfl,T,s,A,M,_,pp,c,p.w0,rfl,ce,rfl;apply qT bp bp
  ·apply aJ oc b.c.dD b.c.eF fG ?_;apply Zir (dR.of m) λY o=>?_;generalize zz:upd r Y _=H3;obtain⟨s3,g3⟩:=nwO o zz;apply⟨aQ ζ,λa na=>?_⟩;have s4:=aH na (.tup [.str "lost",.int c.birth,.ref Y]);exact q2 q f i x c a Y _ L hx hno hc z (u.trans (s3.trans s4)) (u.free (s3.free na)) (u.free o) aq (s4 _ _ g3)
  ·apply⟨_,_,_,rfl,rfl,λk y d hk N E=>?_⟩
   by_cases h:k<i
   ·exact hno k y d h N E
   ·have:k=i:=δ
    subst this;rw[hx]at N;cases N;rw[hc]at E;cases E;exact z
 ·rintro J r ⟨F,P,S,rfl,rfl,hno⟩;rw[aR,B]at hno;apply q1 q f r L (λx hx c hc=>?_) u;obtain⟨k,hk,e⟩:=List.getElem_of_mem hx;exact hno k x c hk (by rw[bG hk,e]) hc
theorem Zn{M:Wm}:((qJ M).map some).map (nD M)=(jf M).map some:=by
 unfold qJ jf;rw[List.map_map,List.map_filterMap,List.map_filterMap];refine S7 λi b=>?_;rw[Option.map_map,Option.map_map];cases hp:qK M i with
 | none=>rfl
 | some c=>
  unfold qK at hp;obtain⟨d,hd,e⟩:=Option.bind_eq_some_iff.mp hp;have a:d=c:=by
   split at e
   ·cases e
   ·exact Option.some.inj e
  subst a;show some (nD M (some (i:Int)))=some (some d.birth);have:cellAt M (i:Int)=some d:=by
   unfold cellAt;rw[if_pos δ,Int.toNat_natCast,hd]
  show some ((cellAt M (i:Int)).map _)=_;rw[this];rfl
theorem Zfx{M:Wm}(h:M.cells.length<=900):(jf M).length<=900/\(qJ M).length<=900:=by
 unfold jf qJ;have h1:=List.length_filterMap_le (λi=>(qK M i).map (·.birth)) (List.range M.cells.length);have h2:=List.length_filterMap_le (λ(i:Nat)=>(qK M i).map λ_=>(i:Int)) (List.range M.cells.length);rw[List.length_range]at h1 h2;exact⟨δ,δ⟩
theorem Zv5{wo:AI}(f:lq K X)(q:xR X Zmy wo H Q):Zm8 K (pD X) (Ih X) (Um X) (wJ K) ξ [↑wo,none,none,none] H:=by
 obtain⟨T,s,A,M,lb,lw,w,t,j,rfl,ok,⟨ph,gr,cd⟩,lo,q⟩:=q;obtain⟨dw,ow⟩:=j.jb.ow;obtain⟨I,os⟩:=j.js.os;obtain⟨dh,oh⟩:=j.jh.oh;have u:=ok.cl;unfold Zm8;apply aJ ow f.cW f.Io aV ?_;apply aJ ow f.cW f.Gy bz ?_;refine aJ oh f.c.cT f.c.bR bM ?_;apply eU (bN.of j.jh.oc) ?_;rw[aR,j.jc.lc];apply⟨A.sw,X.S,I,_,rfl,os,f.cS,f.n7,by show 11<1000;decide,?_⟩;rw[Oe];apply⟨A.sw,X.S,I,_,rfl,aq,f.cS,f.n6,by show 11<1000;decide,?_⟩;rw[Aj,dI];obtain⟨b,r⟩:=j.sweep w t (dx:=I) { M.sw with stop:=M.cells.length,at':=0 } rfl;have r:WJ X _ T s A (fK M):=r;generalize upd H A.sw (.ins X.S I (cg M.sw.sense M.sw.phase A.gr M.sw.looked M.sw.turn 0 M.cells.length M.sw.walks M.sw.looks M.sw.passes M.sw.loss))=H1 at b r ⊢;have R:J3 (fK M):=⟨ok.cl,ok.hl,ok.fl,ok.nl,ok.gl,ok.gc,ok.ph,Int.le_refl _⟩;apply⟨_,rfl,T,s,A,fK M,b.wt,t,r,rfl,R,λN U B P hno m=>?_,λN U i x c a E B P hx hno hc ht m L O oa D=>?_⟩
 ·have p:=r.same m;obtain⟨dw2,ow2⟩:=p.jb.ow;obtain⟨d,h⟩:=p.js.os;apply⟨A.sw,X.S,d,_,rfl,h,f.cS,f.n2,by show 11<1000;decide,?_⟩;rw[kj];obtain⟨e,g⟩:=p.sweep (b.wt.same m) t (dx:=d) { (fK M).sw with phase:="give" } rfl;have g:WJ X _ T s A { fK M with sw:={ (fK M).sw with phase:="give" } }:=g;generalize upd B A.sw (.ins X.S d (cg (fK M).sw.sense "give" A.gr (fK M).sw.looked (fK M).sw.turn (fK M).sw.at' (fK M).sw.stop (fK M).sw.walks (fK M).sw.looks (fK M).sw.passes (fK M).sw.loss))=H3 at e g ⊢;obtain⟨dw3,Y⟩:=g.jb.ow;obtain⟨ob,ol⟩:=Zfx u;apply aJ Y f.cW f.Gy bz ?_;apply⟨_,rfl,T,s,A,_,g,rfl,u,λl4 Z l nl4 g4=>?_⟩;have e4:(qJ { fK M with sw:={ (fK M).sw with phase:="give" } }).map V.int=((qJ M).map some).map oV:=by
   rw[List.map_map];rfl
  rw[e4]at g4;apply⟨A.hp,l4,rfl,T,s,A,_,(qJ M).map some,g.same l,rfl,g4,by rw[aR];omega,λl5 v=>?_⟩;have e5:(((qJ M).map some).map (nD { fK M with sw:={ (fK M).sw with phase:="give" } })).map oV=(jf M).map V.int:=by
   have:nD { fK M with sw:={ (fK M).sw with phase:="give" } }=nD M:=by funext x;cases x<;>rfl
   rw[this,Zn,List.map_map];rfl
  rw[e5];generalize zz:upd Z l5 _=H5;obtain⟨s5,g5⟩:=nwO v zz;apply eU (bN.of g5) ?_;rw[aR];apply⟨aQ ζ,λa L=>?_⟩;have s6:=aH L (.tup [.str "cut",.int (jf M).length,.ref l5]);have y:=l.trans (s5.trans s6);have W:H l5=none:=gD.free b (m.free (gD.free e (l.free v)));exact q _ _ (.cut N U ph gr cd P hno) _ T A a (b.trans ((gD.same b.wt m).trans (e.trans (gD.same e.wt y)))) (g.same y) ⟨rfl,rfl⟩ ⟨l5,Zf9 w t W,aq,s6 _ _ g5⟩ λz=>absurd z (show ¬ ("give":Str)="lost" by decide)
 ·have p:=r.same m;have w2:=b.wt.same m;obtain⟨d,h⟩:=p.js.os;apply⟨A.sw,X.S,d,_,rfl,h,f.cS,f.n2,by show 11<1000;decide,?_⟩;rw[kj];apply⟨A.sw,X.S,d,_,rfl,aq,f.cS,f.n11,by show 11<1000;decide,?_⟩;rw[Og,dI];obtain⟨e,g⟩:=p.sweep w2 t (dx:=d) { (fK M).sw with phase:="lost",loss:=.ref a } rfl;have g:WJ X _ T s A { fK M with sw:={ (fK M).sw with phase:="lost",loss:=.ref a } }:=g;have ta:T a=(0,0):=b.wt _ L;have tw:T E=(0,0):=b.wt _ O;have k:upd B A.sw (.ins X.S d bc) a=some (.tup [.str "lost",.int c.birth,.ref E]):=(aD (lV oa h a4)).trans oa;have o:upd B A.sw (.ins X.S d bc) E=some (.lst (x.2.map V.int)):=(aD (lV D h a4)).trans D;generalize upd B A.sw (.ins X.S d bc)=H3 at e g k o ⊢;apply⟨a,rfl,"lost",c.birth,E,x.2,k,o,λa' l' Z l C F J=>?_⟩;have W:H l'=none:=gD.free b (m.free (gD.free e C));exact q _ _ (.lost N U i x c (.ref a) ph gr cd P hx hno hc ht) _ T A a' (b.trans ((gD.same b.wt m).trans (e.trans (gD.same e.wt l)))) (g.same l) ⟨rfl,rfl⟩ ⟨l',Zf9 w t W,F,J⟩ λ_=>⟨c.birth,rfl,⟨a,E,rfl,ta,l _ _ k,tw,l _ _ o⟩,lsn rfl (l _ _ k) F (aF o C).symm⟩
end
section
variable {K:aB}{X:Cs}{H:Hp}{Q:VK}{E:XK}{n:ν}{bk ct:ν}
theorem Zpb{wo:AI}(b:lq K X)(q:xR X Zmu wo H Q):Zi5 K (oE X) ξ [↑wo,none,none] H:=by
 obtain⟨T,s,A,M,lb,W,w,B,j,rfl,ok,⟨ph,gr⟩,lo,q⟩:=q;obtain⟨dw,ow⟩:=j.jb.ow;obtain⟨ds,os⟩:=j.js.os;obtain⟨dh,oh⟩:=j.jh.oh;have og:=j.js.og;cases u:M.sw.grey with
 | nil=>exact absurd u gr
 | cons x g=>
  obtain⟨c,hc⟩:=ok.gc ph x (by rw[u];simp);obtain⟨J,h⟩:=cC.mp hc;have D:=ok.gl ph;have U:=ok.fl c (oA hc);rw[u]at og;unfold Zi5;apply aJ ow b.cW b.Io aV ?_;apply aJ ow b.cW b.Gy bz ?_;refine aJ oh b.c.cT b.c.bR bM ?_;apply aJ os b.cS b.n3 iZ ?_;exists .inl ⟨rfl,_,bN.of og⟩;exists A.gr,_,0,0,.int x,rfl,rfl,og,ε,ε,by simp[seqIndex?],rfl;obtain⟨e,r⟩:=j.Zs3 w B (g:=g);show gF K _ _ (upd H A.gr (.lst (g.map V.int))) _;generalize upd H A.gr (.lst (g.map V.int))=H1 at e r ⊢;obtain⟨F,f,ce⟩:=r.jc.at (i:=x.toNat) (c:=c) h;refine fD (bN.of r.jh.oc) (iW (v:=.ref F.1) J (by rw[bL,f];rfl)) ?_;obtain⟨p,t⟩:=r.js.os;apply aJ t b.cS b.n8 pH ?_;apply⟨A.sw,X.S,p,_,rfl,t,b.cS,b.n8,by show 11<1000;decide,?_⟩;rw[ur];obtain⟨d,k⟩:=r.sweep e.wt B (dx:=p) { M.sw with grey:=g,walks:=M.sw.walks+1 } rfl;have k:WJ X _ T s A { M with sw:={ M.sw with grey:=g,walks:=M.sw.walks+1 } }:=k;generalize upd H1 A.sw _=Z at d k ⊢;obtain⟨L,o,E⟩:=k.jc.at (i:=x.toNat) (c:=c) h;rw[f]at o;cases o;obtain⟨_,_,⟨dc,oc⟩,P⟩:=id E;apply aJ oc b.c.dD b.c.eF fG ?_;apply aJ oc b.c.dD b.c.fW ig ?_;apply⟨_,_,rfl,c.fl,T,s,A,_,d.wt,B,k,rfl,.inr (.inr ⟨x.toNat,F,c,f,h,rfl,rfl⟩),δ,λ_=>?_,λY I l y R N m=>?_⟩
  ·show g.length<=10000;rw[u,List.length_cons]at D;omega
  apply⟨aQ ζ,λa O=>?_⟩;have C:=aH O (.tup [.str "walk",.int c.birth,.ref l]);refine q _ _ (.walk x g c ph u hc) _ I A a (e.trans (d.trans (y.trans (gD.same y.wt C)))) (R.same C) ⟨rfl,rfl⟩ ⟨l,⟨gD.free e (gD.free d m.1),m.2⟩,aq,C _ _ N⟩ λz=>?_;rw[(sJ (l:=c.fl) (M:={ M with sw:={ M.sw with grey:=g,walks:=M.sw.walks+1 } })).1]at z;exact absurd (ph.symm.trans z) (show ¬ ("walk":Str)="lost" by decide)
theorem U8{wo:AI}(e:lq K X)(q:xR X Zmw wo H Q):Bf K X.H (zL X.C X.H) (jM X.H) (iB X) ξ [↑wo,none,none,none] H:=by
 obtain⟨T,s,A,M,lb,lw,w,x,j,rfl,ok,⟨ph,lt⟩,lo,q⟩:=q;obtain⟨dw,ow⟩:=j.jb.ow;obtain⟨L,os⟩:=j.js.os;unfold Bf;apply aJ ow e.cW e.Io aV ?_;apply aJ os e.cS e.n6 pU ?_;apply⟨A.sw,X.S,L,_,rfl,os,e.cS,e.n6,by show 11<1000;decide,?_⟩;rw[Aj];apply aJ aq e.cS e.n10 nM ?_;apply⟨A.sw,X.S,L,_,rfl,aq,e.cS,e.n10,by show 11<1000;decide,?_⟩;rw[rE,dI];obtain⟨b,f⟩:=j.sweep w x (dx:=L) { M.sw with at':=M.sw.at'+1,passes:=M.sw.passes+1 } rfl;generalize upd H A.sw _=R at b f ⊢;obtain⟨dw1,t⟩:=f.jb.ow;obtain⟨J,F⟩:=f.jh.oh;apply aJ t e.cW e.Gy bz ?_;exists _,_,rfl,uU (some M.sw.at'),_,_,_,_,_,f.hpO;have p:(∀c,cellAt M M.sw.at'=some c->c.tone=M.sw.sense)->∀l a m,R l=none->aX R m->m a=some (.tup [.str "pass",.int M.sw.at',.ref l])->m l=some (.lst [])->Q (.ref a) m:=λhp l a m nl o oa ol=>
  q _ _ (.pass ph lt hp) _ T A a (b.trans (gD.same b.wt o)) (f.same o) ⟨rfl,rfl⟩ ⟨l,Zf9 w x (gD.free b nl),oa,ol⟩ λz=>absurd (ph.symm.trans z) (show ¬ ("give":Str)="lost" by decide)
 rcases f.look (some M.sw.at')with ⟨I,E⟩ | ⟨i,c,V,Y,W,D,v,hpp,E,ce⟩
 ·have I:cellAt M M.sw.at'=none:=I;rw[show atO df (.int M.sw.at')=.non from E];apply⟨aQ ζ,λl nl=>⟨aQ ζ,λa r=>?_⟩⟩;have o:=aH nl (.lst []);have h:=aH r (.tup [.str "pass",.int M.sw.at',.ref l]);exact p (λc hc=>by rw[I]at hc;cases hc) l a _ nl (o.trans h) aq (h _ _ aq)
 ·cases Y;have D:cellAt M M.sw.at'=some c:=D;rw[show atO df (.int M.sw.at')=.ref V.1 from E];exists _,_,rfl,T,s,A,_,_,V,c,f.w0,rfl,ce,rfl
  by_cases z:c.tone=M.sw.sense
  ·rw[decide_eq_true (show c.tone=({ M.sw with at':=M.sw.at'+1,passes:=M.sw.passes+1 }:Sw).sense from z)];apply⟨aQ ζ,λl nl=>⟨aQ ζ,λa r=>?_⟩⟩;have o:=aH nl (.lst []);have h:=aH r (.tup [.str "pass",.int M.sw.at',.ref l]);exact p (λd hd=>by rw[D]at hd;cases hd;exact z) l a _ nl (o.trans h) aq (h _ _ aq)
  ·rw[decide_eq_false (show ¬ c.tone=({ M.sw with at':=M.sw.at'+1,passes:=M.sw.passes+1 }:Sw).sense from z)];obtain⟨k,B⟩:=toN W;have hk:M.cells[k]? =some (some c):=by rw[B,Int.toNat_natCast]at v;exact v
   apply aJ t e.cW e.Gy bz ?_;exists A.hp,J,_,rfl,F,VM;ext;rw[B];refine Zkx f b.wt x hk λm Z g O N=>?_;apply⟨aQ ζ,λl nl=>⟨aQ ζ,λa r=>?_⟩⟩;have h:=aH nl (.lst [.int (k:Int)]);have P:=aH r (.tup [.str "back",.int c.birth,.ref l]);have u:=h.trans P;have U:=nj.back (lb:=lb) (lw:=lw) (M:=M) c ph lt D z;rw[B,Int.toNat_natCast]at U;rw[B]at O;exact q _ _ U _ T Z a (b.trans (g.trans (gD.same g.wt u))) (O.same u) N ⟨l,Zf9 w x (gD.free b (gD.free g nl)),aq,P _ _ aq⟩ λy=>absurd (ph.symm.trans y) (show ¬ ("give":Str)="lost" by decide)
theorem Zv0{wo:AI}(b:lq K X)(q:xR X pEnd wo H Q):Zm6 K ξ [↑wo,none] H:=by
 obtain⟨T,s,A,M,t,p,w,g,j,rfl,ok,⟨ph,lt⟩,lo,q⟩:=q;obtain⟨u,ow⟩:=j.jb.ow;obtain⟨i,os⟩:=j.js.os;unfold Zm6;apply aJ ow b.cW b.Io aV ?_;apply⟨A.sw,X.S,i,_,rfl,os,b.cS,b.n2,by show 11<1000;decide,?_⟩;rw[kj];obtain⟨d,f⟩:=j.sweep w g (dx:=i) { M.sw with phase:="rest" } rfl;generalize upd H A.sw _=r at d f ⊢;obtain⟨m,c⟩:=f.js.os;apply aJ c b.cS b.n5 mL ?_;apply aJ c b.cS b.n8 pH ?_;apply aJ c b.cS b.n9 lG ?_;apply aJ c b.cS b.n10 nM ?_;apply⟨aQ ζ,λl nl=>⟨aQ ζ,λa k=>?_⟩⟩;have o:=aH nl (.lst [.int M.sw.walks,.int M.sw.looks,.int M.sw.passes]);have h:=aH k (.tup [.str "end",.int M.sw.turn,.ref l]);have e:=o.trans h;exact q _ _ (.fin ph lt) _ T A a (d.trans (gD.same d.wt e)) (f.same e) ⟨rfl,rfl⟩ ⟨l,Zf9 w g (gD.free d nl),aq,h _ _ aq⟩ λz=>absurd z (show ¬ ("rest":Str)="lost" by decide)
theorem Oj{wo:AI}(a:lq K X)(q:xR X (Xo "give") wo H Q):xg K (cM X pEnd) (cM X Zmw) ξ [↑wo] H:=by
 obtain⟨T,s,A,M,d,c,w,b,j,rfl,ok,ph,lo,q⟩:=q;obtain⟨f,ow⟩:=j.jb.ow;obtain⟨e,os⟩:=j.js.os;unfold xg;apply aJ ow a.cW a.Io aV ?_;apply aJ os a.cS a.n6 pU ?_;apply aJ ow a.cW a.Io aV ?_;apply aJ os a.cS a.n7 qp ?_;apply mG bp bp
 ·apply⟨_,rfl,T,s,A,M,d,c,w,b,j,rfl,ok,⟨ph,z⟩,lo,q⟩
 ·apply⟨_,rfl,T,s,A,M,d,c,w,b,j,rfl,ok,⟨ph,z⟩,lo,q⟩
theorem Oi{wo:AI}(a:lq K X)(q:xR X (Xo "walk") wo H Q):w6 K (cM X Zmx) (cM X Zmu) ξ [↑wo] H:=by
 obtain⟨T,s,A,M,d,c,w,b,j,rfl,ok,ph,lo,q⟩:=q;obtain⟨h,ow⟩:=j.jb.ow;obtain⟨f,os⟩:=j.js.os;unfold w6;apply aJ ow a.cW a.Io aV ?_;apply aJ os a.cS a.n3 iZ ?_;refine Zvn (bN.of j.js.og) ?_;cases e:M.sw.grey with
 | nil=>
  refine Zan ?_;apply⟨_,rfl,T,s,A,M,d,c,w,b,j,rfl,ok,⟨ph,e⟩,lo,q⟩
 | cons x g=>
  refine Zgm ?_;apply⟨_,rfl,T,s,A,M,d,c,w,b,j,rfl,ok,⟨ph,by rw[e];simp⟩,lo,q⟩
theorem Ec{wo:AI}(c:lq K X)(q:xR X (Xo "lost") wo H Q):rH K (wJ K) ξ [↑wo] H:=by
 obtain⟨T,s,A,M,g,k,w,i,j,rfl,ok,ph,lo,q⟩:=q;obtain⟨p,ow⟩:=j.jb.ow;obtain⟨o,os⟩:=j.js.os;obtain⟨f,e,d,t1,o1,t2,o2⟩:=lo ph;rw[d]at os;unfold rH;apply aJ ow c.cW c.Io aV ?_;apply aJ os c.cS c.n11 qt ?_;apply⟨f,rfl,"lost",g,e,k,o1,o2,λa l m b nl h ol=>?_⟩;exact q _ _ (.again ph) _ T A a (gD.same w b) (j.same b) ⟨rfl,rfl⟩ ⟨l,Zf9 w i nl,h,ol⟩ λ_=>⟨g,rfl,⟨f,e,d,t1,b _ _ o1,t2,b _ _ o2⟩,lsn d (b _ _ o1) h (aF o2 nl).symm⟩
theorem Zpf{wo e f g h:AI}(c:lq K X)(q:xR X Zcv wo H Q):Zg K e f g h (cM X (Xo "rest")) (cM X (Xo "give")) (cM X (Xo "walk")) (cM X (Xo "lost")) ξ [↑wo,none] H:=by
 obtain⟨T,s,A,M,d,b,w,a,j,rfl,ok,_,lo,q⟩:=q;obtain⟨k,ow⟩:=j.jb.ow;obtain⟨i,os⟩:=j.js.os;unfold Zg;apply aJ ow c.cW c.Io aV ?_;apply aJ os c.cS c.n2 cY ?_;rcases ok.ph with ph | ph | ph | ph
 ·rw[ph];refine⟨_,e,rfl,rfl,?_⟩;apply jQ (cM X (Xo "rest")) rfl ζ ?_;apply⟨_,rfl,T,s,A,M,d,b,w,a,j,rfl,ok,ph,lo,q⟩
 ·rw[ph];refine⟨_,g,rfl,rfl,?_⟩;apply jQ (cM X (Xo "walk")) rfl ζ ?_;apply⟨_,rfl,T,s,A,M,d,b,w,a,j,rfl,ok,ph,lo,q⟩
 ·rw[ph];refine⟨_,f,rfl,rfl,?_⟩;apply jQ (cM X (Xo "give")) rfl ζ ?_;apply⟨_,rfl,T,s,A,M,d,b,w,a,j,rfl,ok,ph,lo,q⟩
 ·rw[ph];refine⟨_,h,rfl,rfl,?_⟩;apply jQ (cM X (Xo "lost")) rfl ζ ?_;apply⟨_,rfl,T,s,A,M,d,b,w,a,j,rfl,ok,ph,lo,q⟩
end
section
variable {K:aB}{X:Cs}{H:Hp}{Q:VK}{E:XK}{n:ν}{bk ct:ν}
theorem PN{A:Wa}{w:Int}{σ:St}{b:TE}{q:Bool->Hp->Prop}(ol:∃dx,(w=0/\H A.lk=some (.ins X.F dx []))\/(w=1/\H A.lk=some (.ins X.E dx []))\/(w=2/\H A.lk=some (.ins X.L dx [])))(a:∀d:VK,d (.ref A.lk) H->b σ H d)(h:q (decide (w≠2)) H):
  tB (G.Iu (iM X.F "stays" (wK (.bl true)) [] E0 b aC) (G.Iu (iM X.E "stays" (wK (.bl true)) [] E0 b aC) (iM X.L "stays" (wK (.bl false)) [] E0 b aC))) σ H q:=by
 refine Zwq ?_;obtain⟨dl,⟨c,o⟩ | ⟨c,o⟩ | ⟨c,o⟩⟩:=ol
 ·rw[show decide (w≠2)=true from decide_eq_true δ]at h;refine X4 ?_;left;refine a _ ?_;refine⟨A.lk,dl,_,rfl,o,rfl,?_⟩;left;exact⟨_,rfl,i_B h⟩
 ·rw[show decide (w≠2)=true from decide_eq_true δ]at h;refine Hl (X4 ?_);left;refine a _ ?_;refine⟨A.lk,dl,_,rfl,o,rfl,?_⟩;left;exact⟨_,rfl,i_B h⟩
 ·rw[show decide (w≠2)=false from decide_eq_false δ]at h;refine Hl (Hl ?_);left;refine a _ ?_;refine⟨A.lk,dl,_,rfl,o,rfl,?_⟩;left;exact⟨_,rfl,i_B h⟩
theorem Zk9{T:Tg}{s:Nat}{A:Wa}{M:Wm}{lb:Int}{lw:AE}(i:lq K X)(w:WT H T)(B:s≠0)(j:WJ X H T s A M)(ok:J3 M)(ph:M.sw.phase="walk")(gr:M.sw.grey=[])
  (q:∀e v,nj lb lw M e v->∀H' T' C a,gD s H H' T T'->WJ X H' T' s C v->C.wo=A.wo/\C.sw=A.sw->EvN H H' T' s a e->(v.sw.phase="lost"->∃b,e.thing=some b/\Ut H' T' v b e.notes/\LsN H' v a)->Q (.ref a) H'):
  lA K X.E X.F X.L (wK (.bl false)) (wK (.bl true)) (cM X Zmy) (p8 X) ξ [↑A.wo,↑A.sw,↑A.lk,some (.int bg),none] H:=by
 unfold lA;apply⟨_,_,rfl,T,s,A,M,w,B,j,rfl,ok.hl,λ_=>by rw[gr];exact Nat.zero_le _,λy O l g t N nl=>?_⟩;have nt:=Jo bg M.hands 0 M;have ww:=nt.ww;have ol:=t.jb.ol;rw[ww]at ol;have P:nZ M->cM X Zmy [.ref A.wo] y Q E0:=λcd=>by
  have e:(fQ bg M.hands 0 M).2=M:=by
   rcases cd with z | ⟨_,z⟩
   ·rw[z,Zde]
   ·exact ZW _ z
  rw[e]at t;refine⟨_,rfl,O,s,A,M,lb,lw,g.wt,B,t,rfl,ok,⟨ph,gr,cd⟩,λz=>absurd (ph.symm.trans z) ε,λe' v r H' T' C a st' j' aw' Z Y=>?_⟩;obtain⟨l',J,o1,o2⟩:=Z;exact q e' v r H' T' C a (g.trans st') j' aw' ⟨l',⟨gD.free g J.1,J.2⟩,o1,o2⟩ Y
 have p:¬ nZ M->∀(lo:Int),lo=(if M.w=2 then(fQ bg M.hands 0 M).2.sw.looked else Builtin.bitOr (fQ bg M.hands 0 M).2.sw.looked bg)->∀m,gD s y m O O->WJ X m O s A { (fQ bg M.hands 0 M).2 with sw:={ (fQ bg M.hands 0 M).2.sw with looks:=(fQ bg M.hands 0 M).2.sw.looks+1,looked:=lo } }->m l=some (.lst ((fQ bg M.hands 0 M).1.map V.int))->∀a,m a=none->Q (.ref a) (upd m a (.tup [.str "look",.int bg,.ref l])):=λI lo elo m d o x a D=>by
  have W:=aH D (.tup [.str "look",.int bg,.ref l]);subst elo;refine q _ _ (.look _ ph gr I rfl) _ O A a (g.trans (d.trans (gD.same d.wt W))) (o.same W) ⟨rfl,rfl⟩ ⟨l,nl,aq,W _ _ x⟩ λz=>?_;have:=(yL bg 100 M.hands 0 M ok.hl).1;have z:(fQ bg M.hands 0 M).2.sw.phase="lost":=z;rw[this]at z;exact absurd (ph.symm.trans z) ε
 apply mG (λhz=>?_) (λhz=>?_)
 ·apply P (.inl hz)
 ·refine Zs2 ?_;refine Zws ?_;refine PN ol (λQ' h=>by left;exact h) ?_
  by_cases R:M.w=2
  ·rw[show decide (M.w≠2)=false from decide_eq_false δ];refine Zan ?_;refine Zs1 ?_;left;refine Zvn (bN.of N) ?_;cases hn:(fQ bg M.hands 0 M).1 with
   | nil=>
    refine Zgm ?_;apply P (.inr ⟨R,hn⟩)
   | cons b bs=>
    have I:¬ nZ M:=λz=>by
     rcases z with z | ⟨_,z⟩
     ·exact hz z
     ·rw[hn]at z;cases z
    have p:=p I _ rfl;rw[if_pos R]at p;obtain⟨c,f⟩:=t.js.os;refine Zan ?_;apply aJ f i.cS i.n9 lG ?_;apply⟨A.sw,X.S,c,_,rfl,f,i.cS,i.n9,by show 11<1000;decide,?_⟩;rw[nJ];obtain⟨d,o⟩:=t.sweep g.wt B (dx:=c) { (fQ bg M.hands 0 M).2.sw with looks:=(fQ bg M.hands 0 M).2.sw.looks+1 } rfl;have x:upd y A.sw (.ins X.S c (cg (fQ bg M.hands 0 M).2.sw.sense (fQ bg M.hands 0 M).2.sw.phase A.gr (fQ bg M.hands 0 M).2.sw.looked (fQ bg M.hands 0 M).2.sw.turn (fQ bg M.hands 0 M).2.sw.at' (fQ bg M.hands 0 M).2.sw.stop (fQ bg M.hands 0 M).2.sw.walks ((fQ bg M.hands 0 M).2.sw.looks+1) (fQ bg M.hands 0 M).2.sw.passes (fQ bg M.hands 0 M).2.sw.loss)) l=some (.lst ((fQ bg M.hands 0 M).1.map V.int)):=(aD (lV N f a4)).trans N;generalize upd y A.sw _=m at d o x ⊢;have k:=o.jb.ol;have u:({ (fQ bg M.hands 0 M).2 with sw:={ (fQ bg M.hands 0 M).2.sw with looks:=(fQ bg M.hands 0 M).2.sw.looks+1 } }:Wm).w=M.w:=ww;rw[u]at k;refine yX ?_;refine Zuh ?_;refine PN k (λQ' h=>by left;exact h) ?_;rw[show decide (M.w≠2)=false from decide_eq_false δ];apply⟨aQ ζ,λa D=>p m d o x a D⟩
  ·rw[show decide (M.w≠2)=true from decide_eq_true δ];have I:¬ nZ M:=λz=>by
    rcases z with z | ⟨z,_⟩
    ·exact hz z
    ·exact R z
   have p:=p I _ rfl;rw[if_neg R]at p;obtain⟨c,f⟩:=t.js.os;apply aJ f i.cS i.n9 lG ?_;apply⟨A.sw,X.S,c,_,rfl,f,i.cS,i.n9,by show 11<1000;decide,?_⟩;rw[nJ];obtain⟨ZBk,U⟩:=t.sweep g.wt B (dx:=c) { (fQ bg M.hands 0 M).2.sw with looks:=(fQ bg M.hands 0 M).2.sw.looks+1 } rfl;have k:=U.jb.ol;have u:({ (fQ bg M.hands 0 M).2 with sw:={ (fQ bg M.hands 0 M).2.sw with looks:=(fQ bg M.hands 0 M).2.sw.looks+1 } }:Wm).w=M.w:=ww;rw[u]at k;refine yX ?_;refine Zuh ?_;refine PN k (λQ' h=>by left;exact h) ?_;rw[show decide (M.w≠2)=true from decide_eq_true δ];apply aJ aq i.cS i.n4 eV ?_;apply⟨A.sw,X.S,c,_,rfl,aq,i.cS,i.n4,by show 11<1000;decide,?_⟩;rw[rF,dI];obtain⟨d,o⟩:=t.sweep g.wt B (dx:=c) { (fQ bg M.hands 0 M).2.sw with looks:=(fQ bg M.hands 0 M).2.sw.looks+1,looked:=Builtin.bitOr (fQ bg M.hands 0 M).2.sw.looked bg } rfl;have x:upd y A.sw (.ins X.S c (cg (fQ bg M.hands 0 M).2.sw.sense (fQ bg M.hands 0 M).2.sw.phase A.gr (Builtin.bitOr (fQ bg M.hands 0 M).2.sw.looked bg) (fQ bg M.hands 0 M).2.sw.turn (fQ bg M.hands 0 M).2.sw.at' (fQ bg M.hands 0 M).2.sw.stop (fQ bg M.hands 0 M).2.sw.walks ((fQ bg M.hands 0 M).2.sw.looks+1) (fQ bg M.hands 0 M).2.sw.passes (fQ bg M.hands 0 M).2.sw.loss)) l=some (.lst ((fQ bg M.hands 0 M).1.map V.int)):=(aD (lV N f a4)).trans N;generalize upd y A.sw _=m at d o x ⊢;apply⟨aQ ζ,λa D=>p m d o x a D⟩
theorem RZ{wo:AI}(a:lq K X)(q:xR X Zmx wo H Q):yp K X.E X.F X.L (mF 1) (mF 2) (wK (.bl false)) (mF 0) (wK (.bl true)) (cM X Zmy) (p8 X) ξ [↑wo,none,none,none,none] H:=by
 obtain⟨T,s,A,M,k,h,w,g,j,rfl,ok,⟨ph,gr⟩,lo,q⟩:=q;obtain⟨m,ow⟩:=j.jb.ow;obtain⟨l,os⟩:=j.js.os;obtain⟨i,f⟩:=j.jb.ok;have on:=j.jb.on;have lh:=j.jd.lh;have l5:=j.jd.l5;have c:((A.hs.map λp=>V.ref p.1).length:Int)=(M.hands.length:Int):=by rw[aR,lh]
 have b:=Zk9 (n:=n) (bk:=bk) (ct:=ct) a w g j ok ph gr q;obtain⟨dl,ol⟩:=j.jb.ol;unfold yp;apply aJ ow a.cW a.Io aV ?_;apply aJ ow a.cW a.nWk iY ?_;refine aJ f a.cK a.nKl kY ?_;refine Zuj ?_;refine yX ?_;left;rcases ol with ⟨d,o⟩ | ⟨d,o⟩ | ⟨d,o⟩
 ·have e:bJ M=BX 0 M.sw.looked M.hands.length:=by unfold bJ;rw[d];rfl
  refine X4 ?_;left;refine⟨A.lk,dl,_,rfl,o,rfl,?_⟩;left;refine aJ os a.cS a.n4 eV ?_;left;refine aJ ow a.cW a.nWd dH ?_;left;refine eU (bN.of on) ?_;rw[c];left;refine⟨A.lk,_,_,rfl,δ,δ,?_⟩;rw[Int.toNat_natCast,<- e];left;exact b
 ·have e:bJ M=BX 1 M.sw.looked M.hands.length:=by unfold bJ;rw[d];rfl
  refine Hl (X4 ?_);left;refine⟨A.lk,dl,_,rfl,o,rfl,?_⟩;left;refine aJ os a.cS a.n4 eV ?_;left;refine aJ ow a.cW a.nWd dH ?_;left;refine eU (bN.of on) ?_;rw[c];left;refine⟨A.lk,_,_,rfl,δ,δ,?_⟩;rw[Int.toNat_natCast,<- e];left;exact b
 ·have e:bJ M=BX 2 M.sw.looked M.hands.length:=by unfold bJ;rw[d];rfl
  refine Hl (Hl ?_);left;refine⟨A.lk,dl,_,rfl,o,rfl,?_⟩;left;refine aJ os a.cS a.n4 eV ?_;left;refine aJ ow a.cW a.nWd dH ?_;left;refine eU (bN.of on) ?_;rw[c];left;refine⟨A.lk,_,_,rfl,δ,δ,?_⟩;rw[Int.toNat_natCast,<- e];left;exact b
end
abbrev Kf:=List (Str×Int)
def HsO(H:Hp)(l:AI)(hs:Kf):Prop:=∃ts:AF,H l=some (.lst bE)/\Al (λ(a:AI) (m:Str×Int)=>H a=some (.tup [.str m.1,.int m.2])) ts hs
theorem HsO.same{H H':Hp}{l:AI}{hs:Kf}(h:HsO H l hs)(s:aX H H'):HsO H' l hs:=by
 obtain⟨ts,h1,h2⟩:=h;exact⟨ts,s _ _ h1,h2.mono λa m z=>s _ _ z⟩
structure HsB(hs:Kf):Prop where
 n1:1<=hs.length
 n5:hs.length<=5
 sb:∀m∈hs,3<=m.2/\m.2<=9
def Pa(hs:Kf)(h s:Nat):Prop:=∃m,hs[h]? =some m/\(s:Int)<m.2
def okR(hs:Kf):lg->Prop
 | .make h s many bulk=>Pa hs h s/\0<=many/\many<=8/\0<=bulk
 | .get h s t _=>Pa hs h s/\Pa hs h t
 | .put h t _ s=>Pa hs h t/\Pa hs h s
 | .copy h s t=>Pa hs h s/\Pa hs h t
 | .drop h s=>Pa hs h s
 | .give h s g t=>Pa hs h s/\Pa hs g t
 | .write h t _=>Pa hs h t
 | .read h t=>Pa hs h t
 | .name h t _=>Pa hs h t
 | .seek h s _=>Pa hs h s
theorem HsB.ok{hs:Kf}(b:HsB hs){h s:Nat}(a:h<hs.length)(c:s<3):Pa hs h s:=by
 have:=b.sb _ (List.getElem_mem a);exact⟨_,bG a,δ⟩
def Zby(H0 H:Hp)(hs:Kf)(vs:List V):Prop:=∀v∈vs,v=.non\/∃t d,v=.ref t/\H0 t=none/\H t=some (.tup (dV d))/\okR hs d
structure RL(H0 H:Hp)(hs:Kf)(l:AI)(N:Nat):Prop where
 s:aX H0 H
 n:H0 l=none
 ex:∃vs,H l=some (.lst vs)/\vs.length<=N/\Zby H0 H hs vs
theorem Zby.same{H0 H H':Hp}{hs:Kf}{vs:List V}(h:Zby H0 H hs vs)(s:aX H H'):Zby H0 H' hs vs:=λv hv=>by
 rcases h v hv with z | ⟨t,d,e,f,o,k⟩
 ·exact .inl z
 ·exact .inr ⟨t,d,e,f,s _ _ o,k⟩
theorem RL.same{H0 H H':Hp}{hs:Kf}{l:AI}{N:Nat}(h:RL H0 H hs l N)(s:aX H H'):RL H0 H' hs l N:=by
 obtain⟨b,n,c,h1,h2,a⟩:=h;exact⟨b.trans s,n,c,s _ _ h1,h2,a.same s⟩
theorem RL.base{H0 a H:Hp}{hs:Kf}{l:AI}{N:Nat}(h:RL a H hs l N)(s:aX H0 a):RL H0 H hs l N:=by
 obtain⟨b,n,c,h1,h2,g⟩:=h;refine⟨s.trans b,s.free n,c,h1,h2,λv hv=>?_⟩;rcases g v hv with z | ⟨t,d,e,f,o,k⟩
 ·exact .inl z
 ·exact .inr ⟨t,d,e,s.free f,o,k⟩
theorem RL.mono{H0 H:Hp}{hs:Kf}{l:AI}{N N':Nat}(h:RL H0 H hs l N)(n:N<=N'):RL H0 H hs l N':=by
 obtain⟨c,b,d,h1,h2,a⟩:=h;exact⟨c,b,d,h1,δ,a⟩
theorem qZ{H0 H:Hp}{hs:Kf}{a d:AI}{b c:Nat}{Q:VK}(h1:RL H0 H hs a b)(h2:RL H0 H hs d c)(hb:b+c<=100000)(k:∀l H',aX H H'->H l=none->RL H0 H' hs l (b+c)->Q (.ref l) H'):nQ (.ref a) (.ref d) H Q:=by
 obtain⟨e,_,f,h,n,j⟩:=h1;obtain⟨_,_,g,i,o,m⟩:=h2;refine⟨a,d,_,_,rfl,rfl,h,i,aQ δ,λl nl=>?_⟩;have s:=aH nl (.lst (f++g));refine k l _ s nl ⟨e.trans s,e.free nl,f++g,aq,by rw[List.length_append];omega,λv hv=>?_⟩;rcases List.mem_append.mp hv with hv | hv
 ·exact(j.same s) v hv
 ·exact(m.same s) v hv
theorem Zpm(m:Nat):(List.replicate m [V.non]).flatten=(List.replicate m (none:AA)).map oV:=by
 induction m with
 | zero=>rfl
 | succ m a=>rw[List.replicate_succ,List.flatten_cons,a];rfl
theorem Rx{H0 H:Hp}{hs:Kf}{Q:VK}{a:AI}{k:Int}(b:aX H0 H)(c:H a=some (.lst [V.non]))(k0:0<=k)(k1:k<=1000)(q:∀l H',aX H H'->H l=none->RL H0 H' hs l k.toNat->Q (.ref l) H'):Zcl (.ref a) (.int k) H Q:=by
 refine⟨a,k,_,rfl,rfl,c,δ,δ,by show 1 * k.toNat<=sizeLine;exact aQ δ,λl nl=>?_⟩;rw[Zpm];refine q l _ (aH nl _) nl ⟨b.trans (aH nl _),b.free nl,_,aq,by rw[aR,List.length_replicate];exact Nat.le_refl _,λv hv=>?_⟩;rw[List.map_replicate]at hv;rw[List.eq_of_mem_replicate hv];exact .inl rfl
theorem rl1{H0 H:Hp}{hs:Kf}{l t:AI}{d:lg}(s:aX H0 H)(nl:H0 l=none)(nt:H0 t=none)(h:H l=some (.lst [.ref t]))(o:H t=some (.tup (dV d)))(k:okR hs d):RL H0 H hs l 1:=⟨s,nl,_,h,Nat.le_refl _,λv hv=>by
 rw[List.mem_singleton.mp hv];exact .inr ⟨t,d,rfl,nt,o,k⟩⟩
theorem rl2{H0 H:Hp}{hs:Kf}{l t u:AI}{d e:lg}(s:aX H0 H)(nl:H0 l=none)(nt:H0 t=none)(c:H0 u=none)(h:H l=some (.lst [.ref t,.ref u]))(o:H t=some (.tup (dV d)))(k:okR hs d)(b:H u=some (.tup (dV e)))(a:okR hs e):RL H0 H hs l 2:=⟨s,nl,_,h,Nat.le_refl _,λv hv=>by
 rcases List.mem_cons.mp hv with rfl | hv
 ·exact .inr ⟨t,d,rfl,nt,o,k⟩
 ·rw[List.mem_singleton.mp hv];exact .inr ⟨u,e,rfl,c,b,a⟩⟩
theorem rl3{H0 H:Hp}{hs:Kf}{l t u w:AI}{d e f:lg}(s:aX H0 H)(nl:H0 l=none)(nt:H0 t=none)(c:H0 u=none)(nw:H0 w=none)(h:H l=some (.lst [.ref t,.ref u,.ref w]))(o:H t=some (.tup (dV d)))(k:okR hs d)(b:H u=some (.tup (dV e)))(a:okR hs e)(o2:H w=some (.tup (dV f)))(k2:okR hs f):RL H0 H hs l 3:=⟨s,nl,_,h,Nat.le_refl _,λv hv=>by
 rcases List.mem_cons.mp hv with rfl | hv
 ·exact .inr ⟨t,d,rfl,nt,o,k⟩
 ·rcases List.mem_cons.mp hv with rfl | hv
  ·exact .inr ⟨u,e,rfl,c,b,a⟩
  ·rw[List.mem_singleton.mp hv];exact .inr ⟨w,f,rfl,nw,o2,k2⟩⟩
inductive Zhq(K:aB)(a:AI)(k:Int)(H:Hp)(Q:VK):Prop
 | mk (ns:AE) (_:bN K H a (ns.map V.int)) (_:0<=k) (_:∀z:Int,Q (.int z) H):Zhq K a k H Q
def DN(K:aB):Sp:=λvs H Q E=>∃a k,vs=[.ref a,.int k]/\Zhq K a k H Q
inductive Zhp(c:Int)(p:Int)(m:Int)(H:Hp)(Q:VK):Prop
 | mk (_:0<p) (_:p<2 ^ 32) (_:0<m) (_:∀z:Int,0<=z->z<m->Q (.int z) H):Zhp c p m H Q
def pJ:Sp:=λvs H Q E=>∃c p m,vs=[.int c,.int p,.int m]/\Zhp c p m H Q
def wI:Sp:=λvs H Q E=>∃c w,vs=[.int c,.int w]/\0<=w/\w<=1000/\∀z:Str,Q (.str z) H
def Zbt(K:aB):Sp:=λvs H Q E=>∃a,vs=[.ref a]/\∃ns:AE,bN K H a ep/\∀l hs H',aX H H'->H l=none->HsO H' l hs->HsB hs->Q (.ref l) H'
def Zhr(K:aB):Sp:=λvs H Q E=>∃a,vs=[.ref a]/\∃ns:AE,bN K H a ep/\∀z:Int,Q (.int z) H
def Zbs(X:Cs):Sp:=λvs H Q E=>∃c,vs=[.int c]/\∀ki lk w t H',0<=t->t<4->w=c % 3->aX H H'->H ki=none->H lk=none->KdO X H' ki lk w t->Q (.ref ki) H'
inductive Zbj(c:Int)(h:Int)(s:Int)(H:Hp)(Q:VK):Prop
 | mk (hn sn:Nat) (_:h=(hn:Int)) (_:s=(sn:Int)) (_:∀t many bulk H',aX H H'->H t=none->0<=many->many<=8->0<=bulk->H' t=some (.tup (dV (.make hn sn many bulk)))->Q (.ref t) H'):Zbj c h s H Q
def Zjc:Sp:=λvs H Q E=>∃c h s,vs=[.int c,.int h,.int s]/\Zbj c h s H Q
def Zjd:Sp:=λvs H Q E=>∃c,vs=[.int c]/\∀z:Int,Q (.int z) H
def vB:Sp:=λvs H Q E=>∃i,vs=[.int i]/\Q (.bl true) H
inductive Zbl(K:aB)(a:AI)(b:AI)(H:Hp)(Q:VK):Prop
 | mk (z:Str) (i:Int) (l l':AI) (ns:AE) (_:H a=some (.tup [.str z,.int i,.ref l])) (_:H b=some (.tup [.str z,.int i,.ref l'])) (_:H l=some (.lst (ns.map V.int))) (_:H l'=some (.lst (ns.map V.int))) (_:Q (.bl true) H):Zbl K a b H Q
def Zbw(K:aB):Sp:=λvs H Q E=>∃a b,vs=[.ref a,.ref b]/\Zbl K a b H Q
variable {K:aB}{X:Cs}{rf:Rf->AI}{H:Hp}{Q:VK}{E:XK}{n:ν}{bk ct:ν}
section
theorem Zbd{a:AI}{k:Int}(q:Zhq K a k H Q):FW K ξ [↑a,some (.int k)] H:=by
 obtain⟨ns,b,c,h⟩:=q;unfold FW;apply eU b ?_;apply mG (λh1=>?_) (λh1=>?_)
 ·ext;rw[aR]at h1;have hk:k.toNat<ns.length:=δ
  exact fD b (iW c (by rw[bL,bG hk]<;>rfl)) (h _)
 ·apply h _
theorem Zbb{c p m:Int}(q:Zhp c p m H Q):FP ξ [some (.int c),some (.int p),some (.int m)] H:=by
 obtain⟨b,d,a,q⟩:=q;have h1:=Int.emod_nonneg c (show p≠0 by omega);have h2:=Int.emod_lt_of_pos c b;unfold FP;apply q _ (Int.emod_nonneg _ δ) (Int.emod_lt_of_pos _ a)
theorem Zb1{c w:Int}(q:0<=w/\w<=1000/\∀z:Str,Q (.str z) H):Ft ξ [some (.int c),some (.int w),none,none,none,none,none] H:=by
 obtain⟨w0,k,q⟩:=q;have c1:=Int.emod_nonneg c (show(12:Int)≠0 by decide);have c2:=Int.emod_lt_of_pos c (show(0:Int)<12 by decide);obtain⟨sz,o⟩:=toN (x:=1+c % 12) δ;have hs:1<=sz/\sz<=12:=δ
 have a0:=Int.emod_nonneg (c / 12) (show(1+c % 12)≠0 by omega);have i:=Int.emod_lt_of_pos (c / 12) (show 0<1+c % 12 by omega);unfold Ft;ext;have d1:=Int.emod_nonneg (c / 5) (show(26:Int)≠0 by decide);have d2:=Int.emod_lt_of_pos (c / 5) (show(0:Int)<26 by decide);refine Zny ε d1 (by show c / 5 % 26<26;exact d2) λl=>?_;ext;have f:=Int.emod_nonneg (c / 7+5 * w) (show(26:Int)≠0 by decide);have e:=Int.emod_lt_of_pos (c / 7+5 * w) (show(0:Int)<26 by decide);refine Zny ε f (by show(c / 7+5 * w) % 26<26;exact e) λd=>?_;apply Znv a0 δ (by rw[WK];decide) λt1 j a=>?_;have g:t1.length<=12:=by rw[a,Qo,WK];omega
 apply Zo1 (by rw[WK];exact aQ δ) ?_;apply Znv δ δ (by rw[WK];decide) λt2 m b=>?_;have h:t2.length<=12:=by rw[b,Qo,WK];omega
 apply Zo1 (by rw[Zvr,WK];exact aQ δ) ?_;exact q _
theorem V4{a:AI}(q:∃ns:AE,bN K H a ep/\∀l hs H',aX H H'->H l=none->HsO H' l hs->HsB hs->Q (.ref l) H'):Bo K (DN K) pJ wI ξ [↑a,none,none,none,none] H:=by
 obtain⟨ns,O,q⟩:=q;unfold Bo;apply⟨a,1,rfl,ns,O,ε,λc=>?_⟩;apply⟨ε,λl nl=>?_⟩;generalize zz:upd H l _=H1;obtain⟨N,A⟩:=nwO nl zz;have A:H1 l=some (.lst (([]:AF).map V.ref)):=A;apply⟨_,_,_,rfl,ε,ε,ε,λz T z1=>?_⟩;exists _,rfl,δ,δ;refine forR (λk e d=>∃(ts:AF) (hs:Kf) (j g:Option V),e=[↑a,some (.int c),↑l,j,g]/\aX H d/\d l=some (.lst bE)/\Al (λ(a:AI) (m:Str×Int)=>d a=some (.tup [.str m.1,.int m.2])) ts hs/\hs.length=k/\∀m∈hs,3<=m.2/\m.2<=9) ⟨[],[],_,_,rfl,N,A,.nil,rfl,λm hm=>(nomatch hm)⟩ ?_ ?_
 ·rintro k e d hk ⟨ts,hs,j,g,rfl,B,r,al,hl,hb⟩;have P:k<5:=δ
  have u:=al.length;have fin:∀{many:Int},3<=many->many<=9->∀(s:ν) (E:VK) (C I:ν),(∀ e H',(∃(ts:AF) (hs:Kf) (j g:Option V),e=[↑a,some (.int c),↑l,j,g]/\aX H H'/\H' l=some (.lst bE)/\Al (λ(a:AI) (m:Str×Int)=>H' a=some (.tup [.str m.1,.int m.2])) ts hs/\hs.length=k+1/\∀m∈hs,3<=m.2/\m.2<=9)->s e H')->
    lB (tBM K "list" lH Φ (aj (dJ (aj (aP wI [] E0 (aj χ bo)) ed)) aC)) ⟨s,E,C,I⟩ [↑a,some (.int c),↑l,some (.int ((0:Int)+k)),some (.int many)] d:=by
   intro many S J s E C I R;exists .inl ⟨rfl,_,bN.of r⟩;apply⟨_,_,rfl,δ,δ,λwd=>?_⟩;apply⟨aQ ζ,λt nt=>?_⟩;generalize zz:upd d t _=H3;obtain⟨v,M⟩:=nwO nt zz;have D:=v _ _ r;exists l,_,_,rfl,rfl,D,?_
   ·rw[aR];exact Nat.lt_of_le_of_lt (show _<=1000 by omega) ε
   rw[show ts.map V.ref++[V.ref t]=(ts++[t]).map V.ref from by rw[List.map_append];rfl];have F:∀b w,H3 b=some (.tup w)->upd H3 l (.lst ((ts++[t]).map V.ref)) b=some (.tup w):=λb w hb=>by
    rw[aD (lV hb D a4)];exact hb
   apply R _ _ ⟨ts++[t],hs++[(wd,many)],_,_,rfl,λb o hb=>by rw[aD (aF hb nl)];exact v _ _ (B _ _ hb),aq,?_,by rw[List.length_append,hl];rfl,λm hm=>?_⟩
   ·refine Zjb (by rw[List.length_append,List.length_append,u];rfl) λi x y f p=>?_
    by_cases L:i<ts.length
    ·rw[List.getElem?_append_left L]at f;rw[List.getElem?_append_left δ]at p;obtain⟨U,e3,z⟩:=al.get p;rw[f]at e3;cases e3;exact F _ _ (v _ _ z)
    ·have h1:=(cI f).1;rw[List.length_append,List.length_singleton]at h1;rw[List.getElem?_append_right δ]at f p;rw[show i - ts.length=0 by omega]at f;rw[show i - hs.length=0 by omega]at p;cases f;cases p;exact F _ _ M
   ·rcases List.mem_append.mp hm with hm | hm
    ·exact hb m hm
    ·rw[List.mem_singleton.mp hm];exact⟨S,J⟩
  apply mG aT aT
  ·apply⟨_,_,_,rfl,ε,ε,ε,λy W y1=>?_⟩;refine Zx9 ?_;refine Zqq ?_;exact fin (many:=3+y) δ δ _ _ _ _ λe H' h=>h
  ·refine nY ?_;exact fin (many:=3) δ δ _ _ _ _ λe H' h=>h
 ·rintro e d ⟨ts,hs,j,g,rfl,B,r,al,hl,hb⟩;apply q l hs d B nl ⟨ts,r,al⟩ ⟨δ,δ,hb⟩
theorem Zb5{a:AI}(q:∃ns:AE,bN K H a ep/\∀z:Int,Q (.int z) H):Fy (DN K) pJ ξ [↑a,none] H:=by
 obtain⟨ns,b,q⟩:=q;unfold Fy;apply⟨a,2,rfl,ns,b,ε,λc=>?_⟩;apply⟨_,_,_,rfl,ε,ε,ε,λz d z1=>?_⟩;apply mG aT aT
 ·apply q _
 ·apply q _
theorem R4{C:AI}{w t:Int}{σ:St}{r:TE}(z:∀(a:Hp) (p:VK),p (.int t) a->r σ a p)(v:∀{a:Hp}{lk dl:AI},a lk=some (.ins C dl [])->(w=0/\a lk=some (.ins X.F dl []))\/(w=1/\a lk=some (.ins X.E dl []))\/(w=2/\a lk=some (.ins X.L dl [])))
  (q:∀ki lk H',aX H H'->H ki=none->H lk=none->KdO X H' ki lk w t->Q (.ref ki) H'):wU X.K (zK X.K) [] E0 (aj (G.Iv C) (aj r aC)) σ H Q:=by
 ext;intro lk dl e h y;have f:aX H (upd (upd H dl (.own lk)) lk (.ins C dl [])):=λb o hb=>by rw[aD (aF hb e),aD (aF hb h)];exact hb
 have i:upd (upd H dl (.own lk)) lk (.ins C dl []) lk=some (.ins C dl []):=aq;generalize upd (upd H dl (.own lk)) lk (.ins C dl [])=a at f i ⊢;left;refine z a _ ?_;left;intro ki c d k u;have j:aX a (upd (upd a c (.own ki)) ki (.ins X.K c [])):=λb o hb=>by rw[aD (aF hb d),aD (aF hb k)];exact hb
 have n:upd (upd a c (.own ki)) ki (.ins X.K c []) ki=some (.ins X.K c []):=aq;generalize upd (upd a c (.own ki)) ki (.ins X.K c [])=A at j n ⊢;refine⟨ki,lk,t,rfl,c,n,λl x m=>⟨rfl,?_⟩⟩;have s:aX H l:=λb o hb=>m b o (j _ _ (f _ _ hb)) (aF (f _ _ hb) d);have g:lk≠ki:=aF i d;exact q ki lk l s (f.free d) e ⟨⟨c,x⟩,⟨dl,v (m _ _ (j _ _ i) g)⟩⟩
theorem Zb9{c:Int}(q:∀ki lk w t H',0<=t->t<4->w=c % 3->aX H H'->H ki=none->H lk=none->KdO X H' ki lk w t->Q (.ref ki) H'):FN X.E X.F X.K X.L (zK X.K) ξ [some (.int c)] H:=by
 have b:=Int.emod_nonneg (c / 3) (show(4:Int)≠0 by decide);have t1:=Int.emod_lt_of_pos (c / 3) (show(0:Int)<4 by decide);have w0:=Int.emod_nonneg c (show(3:Int)≠0 by decide);have g:=Int.emod_lt_of_pos c (show(0:Int)<3 by decide);unfold FN;apply mG bp bp
 ·refine Ziq ?_;exact R4 (λd f h=>by apply h) (λe=>.inl ⟨rfl,e⟩) λki lk H' s n1 n2 a=>q ki lk 0 (c / 3 % 4) H' b t1 z.symm s n1 n2 a
 ·refine nY ?_;refine yX ?_;left;refine mG (λy=>?_) (λy=>?_)
  ·refine Ziq ?_;exact R4 (λd f h=>by apply h) (λe=>.inr (.inl ⟨rfl,e⟩)) λki lk H' s n1 n2 a=>q ki lk 1 (c / 3 % 4) H' b t1 y.symm s n1 n2 a
  ·refine nY ?_;refine Ziq ?_;exact R4 (λd f h=>by apply h) (λe=>.inr (.inr ⟨rfl,e⟩)) λki lk H' s n1 n2 a=>q ki lk 2 (c / 3 % 4) H' b t1 δ s n1 n2 a
theorem Zwe{z:Int}(a:0<=z)(h1:z<6):∃m:Int,atI [V.int 1,.int 2,.int 2,.int 3,.int 0,.int 8] z=some (.int m)/\0<=m/\m<=8:=by
 have:z=0\/z=1\/z=2\/z=3\/z=4\/z=5:=δ
 rcases this with rfl | rfl | rfl | rfl | rfl | rfl
 ·exact⟨1,rfl,ε,ε⟩
 ·exact⟨2,rfl,ε,ε⟩
 ·exact⟨2,rfl,ε,ε⟩
 ·exact⟨3,rfl,ε,ε⟩
 ·exact⟨0,rfl,ε,ε⟩
 ·exact⟨8,rfl,ε,ε⟩
theorem Zb7{c h s:Int}(q:Zbj c h s H Q):
  Fz K pJ ξ [some (.int c),some (.int h),some (.int s),none,none] H:=by
 obtain⟨hn,o,rfl,rfl,q⟩:=q;have g:=Int.emod_nonneg c (show(7:Int)≠0 by decide);have p:(0:Int)<10 ^ Int.toNat 12+1:=ε
 have k:=Int.emod_nonneg c (show(10:Int) ^ Int.toNat 12+1≠0 by decide);unfold Fz;apply⟨aQ ζ,λl nl=>?_⟩;generalize zz:upd H l _=H1;obtain⟨a,j⟩:=nwO nl zz;apply⟨_,_,_,rfl,ε,ε,ε,λz f z1=>?_⟩;obtain⟨m,i,d,e⟩:=Zwe f z1;apply fD (bN.of j) i ?_;have fin:∀{b:Int},0<=b->∀{v:Option V},(bB (dJ (aj (tC (.str "make")) (aj χ (aj Φ (aj Θ ed)))))) ξ [some (.int c),some (.int hn),some (.int o),some (.int m),some (.int b)] H1:=by
  intro b hb v;apply⟨aQ ζ,λt nt=>?_⟩;exact q t m b _ (a.trans (aH nt _)) (a.free nt) d e hb aq
 apply mG (λy=>?_) (λy=>?_)
 ·apply mG (λx=>absurd (y.symm.trans x) ε) (λx=>?_);refine nY ?_;exact fin g (v:=none)
 ·apply mG (λx=>?_) (λx=>?_)
  ·left;exact⟨aQ ζ,λt nt=>q t m _ _ (a.trans (aH nt _)) (a.free nt) d e k aq⟩
  ·refine nY ?_;exact fin (Int.le_refl _) (v:=none)
theorem Zb8{c:Int}(q:∀z:Int,Q (.int z) H):FJ ξ [some (.int c),none] H:=by
 have a:(0:Int)<10 ^ Int.toNat 60:=ε
 unfold FJ;apply mG aT aT
 ·apply q _
 ·apply q _
theorem TQ{i:Int}(q:Q (.bl true) H):qF ξ [some (.int i)] H:=by
 unfold qF;apply q
theorem V6{a b:AI}(q:Zbl K a b H Q):
  tR K vB ξ [↑a,↑b,none] H:=by
 obtain⟨z,i,l,h,ns,c,ob,ol,f,q⟩:=q;unfold tR;apply Ho c ?_;exists a,_,rfl,.inr (dR.of c);apply qT dS aT;exists a,_,0,_,rfl,rfl,dR.of c,rfl;exists a,_,1,_,rfl,rfl,dR.of c,rfl;exists _,rfl;exists a,_,2,_,rfl,rfl,dR.of c,rfl;apply M7 ol ?_;exists a,_,2,_,rfl,rfl,dR.of c,rfl;refine⟨l,rfl,⟨_,bN.of ol⟩,forL ep (λ_ g d=>∃v,g=[↑a,↑b,v]/\d=H) ⟨_,rfl,rfl⟩ (by rintro _ _ _ _ ⟨_,_,e⟩;rw[e];exact bN.of ol) ?_ ?_⟩
 ·rintro k x g d hk ⟨v,rfl,rfl⟩;obtain⟨y,_,rfl⟩:=List.mem_map.mp (List.mem_of_getElem? hk);exists _,rfl;apply⟨_,rfl,rfl⟩
 ·rintro g d ⟨v,rfl,rfl⟩;apply Zit (.inr ⟨dR.of c,dR.of ob⟩) (.cons (.inl ⟨rfl,rfl⟩) (.cons (.inl ⟨rfl,rfl⟩) (.cons (.inr ⟨l,h,rfl,rfl,.inr ⟨_,_,.inl ⟨bN.of ol,bN.of f⟩,HX (qi _)⟩⟩) .nil))) ?_;exact q
end
inductive Zbm(K:aB)(c:Int)(l:AI)(sd:Int)(H:Hp)(Q:VK):Prop
 | mk (hs) (_:HsO H l hs) (_:HsB hs) (_:∀t d H',aX H H'->H t=none->H' t=some (.tup (dV d))->okR hs d->Q (.ref t) H'):Zbm K c l sd H Q
def Zjf(K:aB):Sp:=λvs H Q E=>∃c l a,vs=[.int c,.ref l,.int a]/\Zbm K c l a H Q
inductive Uh(K:aB)(c:Int)(l:AI)(sd:Int)(H:Hp)(Q:VK):Prop
 | mk (hs) (_:HsO H l hs) (_:HsB hs) (_:∀r H',aX H H'->H r=none->RL H H' hs r 2->Q (.ref r) H'):Uh K c l sd H Q
def Up(K:aB):Sp:=λvs H Q E=>∃c l a,vs=[.int c,.ref l,.int a]/\Uh K c l a H Q
inductive Ub(K:aB)(l:AI)(c:Int)(sd:Int)(H:Hp)(Q:VK):Prop
 | mk (hs) (_:HsO H l hs) (_:HsB hs) (_:∀r H',aX H H'->RL H H' hs r 200->Q (.ref r) H'):Ub K l c sd H Q
def Zex(K:aB):Sp:=λvs H Q E=>∃l c a,vs=[.ref l,.int c,.int a]/\Ub K l c a H Q
inductive Zbg(K:aB)(a:AI)(l:AI)(H:Hp)(Q:VK):Prop
 | mk (ns:AE) (hs) (_:bN K H a (ns.map V.int)) (_:ns.length<=63) (_:HsO H l hs) (_:HsB hs) (_:∀r H',aX H H'->RL H H' hs r 700->Q (.ref r) H'):Zbg K a l H Q
def Zbr(K:aB):Sp:=λvs H Q E=>∃a l,vs=[.ref a,.ref l]/\Zbg K a l H Q
section
theorem f38{x:Int}(a:0<=x)(h1:x<2):∃m:Int,atI [V.int 3,.int 8] x=some (.int m)/\0<m:=by
 have:x=0\/x=1:=δ
 rcases this with rfl | rfl
 ·exact⟨3,rfl,ε⟩
 ·exact⟨8,rfl,ε⟩
theorem Zbc{c J:Int}{l:AI}(q:Zbm K c l J H Q):
  FQ K pJ Zjd Zjc wI ξ [some (.int c),↑l,some (.int J),none,none,none,none,none,none,none] H:=by
 obtain⟨hs,O,hb,q⟩:=q;have n1:=hb.n1;have R:∀{p:Hp}{ts:AF},HsO p l hs->p l=some (.lst bE)->ts.length=hs.length:=λ{p ts} h e=>by
  obtain⟨ts',h1,h2⟩:=h;rw[h1]at e;have:=congrArg (λo=>match o with | some (HO.lst T)=>T.length | _=>0) e;simp only[aR]at this;rw[<- this];exact h2.length
 obtain⟨ts,ol,al⟩:=id O;have z:=al.length;unfold FQ;apply eU (bN.of ol) ?_;rw[aR,z];apply⟨_,_,_,rfl,ε,ε,δ,λzh Y h1=>?_⟩;obtain⟨h,rfl⟩:=toN Y;have Z:h<hs.length:=δ
 obtain⟨m,hm⟩:∃m,hs[h]? =some m:=⟨_,bG Z⟩;have mb:=hb.sb m (List.mem_of_getElem? hm);obtain⟨F,E,k⟩:=al.get hm;have j:atI bE (h:Int)=↑F:=gq (by rw[bL,E];rfl);apply fD (bN.of ol) j ?_;refine⟨F,_,1,_,rfl,rfl,dR.of k,rfl,?_⟩;apply⟨_,_,_,rfl,ε,ε,δ,λzs X L=>?_⟩;obtain⟨s,rfl⟩:=toN X;apply fD (bN.of ol) j ?_;refine⟨F,_,1,_,rfl,rfl,dR.of k,rfl,?_⟩;apply⟨_,_,_,rfl,ε,ε,δ,λzt t0 t1=>?_⟩;obtain⟨t,rfl⟩:=toN t0;apply⟨aQ ζ,λl2 W=>?_⟩;generalize zz:upd H l2 _=H2;obtain⟨i,M⟩:=nwO W zz;ext;obtain⟨mf,D,B⟩:=f38 (x:=c % 5 / 4) δ δ;refine fD (bN.of M) D ?_;apply⟨_,_,_,rfl,ε,ε,B,λzf U _=>?_⟩;obtain⟨f,rfl⟩:=toN U;apply⟨_,_,_,rfl,ε,ε,ε,λw w0 w1=>?_⟩;have os:Pa hs h s:=⟨m,hm,L⟩;have r:Pa hs h t:=⟨m,hm,t1⟩;have tup:∀(d:lg),okR hs d->∀tp,H2 tp=none->Q (.ref tp) (upd H2 tp (.tup (dV d))):=λd ok tp a=>q tp d _ (i.trans (aH a _)) (i.free a) aq ok;apply mG aT (λw5=>?_)
 ·apply⟨_,_,_,rfl,h,s,rfl,rfl,λtp I bulk p sm a m0 m8 b0 o=>q tp _ p (i.trans sm) (i.free a) o ⟨os,m0,m8,b0⟩⟩
 apply mG aT (λw8=>?_)
 ·apply⟨aQ ζ,λtp a=>tup (.get h s t f) ⟨os,r⟩ tp a⟩
 apply mG aT (λw11=>?_)
 ·apply⟨aQ ζ,λtp a=>tup (.put h t f s) ⟨r,os⟩ tp a⟩
 apply mG aT (λZBj=>?_)
 ·apply⟨aQ ζ,λtp a=>tup (.copy h s t) ⟨os,r⟩ tp a⟩
 apply mG aT (λw12=>?_)
 ·apply⟨aQ ζ,λtp a=>tup (.drop h s) os tp a⟩
 apply mG aT (λw15=>?_)
 ·have y:=i _ _ ol;apply eU (bN.of y) ?_;rw[aR,z];apply⟨_,_,_,rfl,ε,ε,δ,λzg g0 g1=>?_⟩;obtain⟨g,rfl⟩:=toN g0;have P:g<hs.length:=δ
  obtain⟨mg,b⟩:∃m,hs[g]? =some m:=⟨_,bG P⟩;have S:=hb.sb mg (List.mem_of_getElem? b);obtain⟨tg,A,C⟩:=al.get b;apply fD (bN.of y) (gq (v:=.ref tg) (by rw[bL,A];rfl)) ?_;refine⟨tg,_,1,_,rfl,rfl,dR.of (i _ _ C),rfl,?_⟩;apply⟨_,_,_,rfl,ε,ε,δ,λzu u0 u1=>?_⟩;obtain⟨u,rfl⟩:=toN u0;apply⟨aQ ζ,λtp a=>tup (.give h s g u) ⟨os,mg,b,u1⟩ tp a⟩
 apply mG aT (λN=>?_)
 ·apply⟨_,rfl,λld=>?_⟩;apply⟨aQ ζ,λtp a=>tup (.write h t ld) r tp a⟩
 apply⟨_,_,_,rfl,ε,ε,ε,λzw a0 a1=>?_⟩;apply⟨_,_,rfl,a0,δ,λwd=>?_⟩;apply mG aT (λw18=>?_)
 ·apply⟨aQ ζ,λtp a=>tup (.name h t wd) r tp a⟩
 apply⟨aQ ζ,λtp a=>tup (.seek h s wd) os tp a⟩
def dW:lg->Str
 | .make .. =>"make"
 | .get .. =>"get"
 | .put .. =>"put"
 | .copy .. =>"copy"
 | .drop .. =>"drop"
 | .give .. =>"give"
 | .write .. =>"write"
 | .read .. =>"read"
 | .name .. =>"name"
 | .seek .. =>"seek"
theorem dV0(d:lg):∃r,dV d=.str (dW d)::r:=by cases d<;>exact⟨_,rfl⟩
theorem Zv3{d:lg}(h:dW d="put"):∃h t f s,d=.put h t f s:=by
 cases d<;>first | exact⟨_,_,_,_,rfl⟩ | exact absurd h (by simp only[dW];decide)
theorem Zv4{d:lg}(h:dW d="get"):∃h s t f,d=.get h s t f:=by
 cases d<;>first | exact⟨_,_,_,_,rfl⟩ | exact absurd h (by simp only[dW];decide)
theorem V7{c y:Int}{l:AI}(q:Uh K c l y H Q):
  Bq K (Zjf K) pJ ξ [some (.int c),↑l,some (.int y),none] H:=by
 obtain⟨hs,D,hb,q⟩:=q;unfold Bq;apply⟨_,_,_,rfl,hs,D,hb,λt d A b nt k ok=>?_⟩;obtain⟨F,E⟩:=dV0 d;have v:atI (dV d) 0=some (.str (dW d)):=by rw[E];exact gq (j:=0) rfl
 have one:bB (dM bo) ξ [some (.int c),↑l,some (.int y),↑t] A:=by
  apply⟨aQ ζ,λr g=>?_⟩;have a:=aH g (.lst [.ref t]);exact q r _ (b.trans a) (b.free g) ((rl1 (d:=d) (b.trans a) (b.free g) nt aq (a _ _ k) ok).mono ε)
 have p:(aN (cL ((PL (bC (bh (qI) (bh bd Θ τ) (tC (.str "get")))) (bC (bh (qI) (bh ρ (bh bb π eM) am) τ)))) (bB (dM (aj Θ (aj (dJ (aj (tC (.str "put")) (aj (bh bd Θ υ) (aj (bh bd Θ a3) (aj (bh bd Θ c6) (aj (aP pJ [] E0 (aj π (aj (tC (.int 1159523)) (aj a3 aC)))) aC)))))) aC)))) bI)
   (bB (dM bo))) ξ [some (.int c),↑l,some (.int y),↑t] A:=by
  exists t,_,0,_,rfl,rfl,dR.of k,v;apply mG (λhp=>?_) aT
  ·obtain⟨h,s,x,f,rfl⟩:=Zv4 hp;obtain⟨o1,o2⟩:=ok;apply mG aT aT
   ·exists t,_,1,_,rfl,rfl,dR.of k,rfl;exists t,_,3,_,rfl,rfl,dR.of k,rfl;exists t,_,4,_,rfl,rfl,dR.of k,rfl;apply⟨_,_,_,rfl,ε,ε,ε,λz C z1=>?_⟩;obtain⟨sl,rfl⟩:=toN C;apply⟨aQ ζ,λu w=>⟨aQ ζ,λr g=>?_⟩⟩;have a:=aH w (.tup (dV (.put h x f sl)));have o:=aH g (.lst [.ref t,.ref u]);have B:h<hs.length:=by obtain⟨m,hm,_⟩:=o1;exact(cI hm).1
    exact q r _ (b.trans (a.trans o)) (b.free (a.free g)) (rl2 (d:=.get h s x f) (e:=.put h x f sl) (b.trans (a.trans o)) (b.free (a.free g)) nt (b.free w) aq (o _ _ (a _ _ k)) ⟨o1,o2⟩ (o _ _ aq) ⟨o2,hb.ok B δ⟩)
   ·exact one
  ·exact one
 exists t,_,0,_,rfl,rfl,dR.of k,v;apply mG (λhp=>?_) aT
 ·obtain⟨h,x,f,s,rfl⟩:=Zv3 hp;obtain⟨o1,o2⟩:=ok;apply mG aT aT
  ·exists t,_,1,_,rfl,rfl,dR.of k,rfl;exists t,_,4,_,rfl,rfl,dR.of k,rfl;apply⟨aQ ζ,λu w=>⟨aQ ζ,λr g=>?_⟩⟩;have a:=aH w (.tup (dV (.drop h s)));have o:=aH g (.lst [.ref t,.ref u]);exact q r _ (b.trans (a.trans o)) (b.free (a.free g)) (rl2 (d:=.put h x f s) (e:=.drop h s) (b.trans (a.trans o)) (b.free (a.free g)) nt (b.free w) aq (o _ _ (a _ _ k)) ⟨o1,o2⟩ (o _ _ aq) o2)
  ·exact p
 ·exact p
end
section
def Zle(σ:St)(e:TE)(d:lg):Prop:=∀(b:Hp) (c:VK),(∀t a,aX b a->b t=none->a t=some (.tup (dV d))->c (.ref t) a)->e σ b c
theorem YG{σ:St}{c:TE}{d:lg}(h:∀(a:Hp) (b:VK),(∀t,a t=none->b (.ref t) (upd a t (.tup (dV d))))->c σ a b):Zle σ c d:=λa b k=>h a b λt nt=>k t _ (aH nt _) nt aq
theorem Zf3{H0:Hp}{hs:Kf}{d e:lg}{i h:TE}{σ:St}(a:aX H0 H)(q:Zle σ i d)(hb:Zle σ h e)(o:okR hs d)(n:okR hs e)(k:∀l H',aX H H'->RL H0 H' hs l 2->Q (.ref l) H'):dM (aj i (aj h aC)) σ H Q:=by
 left;refine q H _ λt m c nt j=>?_;left;refine hb m _ λu s f r p=>?_;left;refine⟨aQ ζ,λl nl=>?_⟩;have b:=aH nl (.lst [.ref t,.ref u]);have g:=a.trans (c.trans (f.trans b));exact k l _ (c.trans (f.trans b)) (rl2 g (a.free (c.free (f.free nl))) (a.free nt) (a.free (c.free r)) aq (b _ _ (f _ _ j)) o (b _ _ p) n)
theorem Zlo{H0:Hp}{hs:Kf}{d e f:lg}{m j tc:TE}{σ:St}(a:aX H0 H)(v:Zle σ m d)(hb:Zle σ j e)(hc:Zle σ tc f)(r:okR hs d)(p:okR hs e)(y:okR hs f)(k:∀l H',aX H H'->RL H0 H' hs l 3->Q (.ref l) H'):dM (aj m (aj j (aj tc aC))) σ H Q:=by
 left;refine v H _ λt o g nt n=>?_;left;refine hb o _ λu q h x s=>?_;left;refine hc q _ λw z b nw ow=>?_;left;refine⟨aQ ζ,λl nl=>?_⟩;have c:=aH nl (.lst [.ref t,.ref u,.ref w]);have i:=a.trans (g.trans (h.trans (b.trans c)));exact k l _ (g.trans (h.trans (b.trans c))) (rl3 i (a.free (g.free (h.free (b.free nl)))) (a.free nt) (a.free (g.free x)) (a.free (g.free (h.free nw))) aq (c _ _ (b _ _ (h _ _ n))) r (c _ _ (b _ _ s)) p (c _ _ ow) y)
theorem V2{l:AI}{c L:Int}(q:Ub K l c L H Q):
  Bl K pJ wI ξ [↑l,some (.int c),some (.int L),none,none,none,none] H:=by
 obtain⟨hs,ho,hb,q⟩:=q;obtain⟨ts,ol,al⟩:=id ho;have lts:=al.length;have n5:=hb.n5;unfold Bl;apply⟨ε,λr0 nr0=>?_⟩;have s1:=aH nr0 (.lst []);have g1:RL H (upd H r0 (.lst [])) hs r0 0:=⟨s1,nr0,[],aq,Nat.le_refl _,λv hv=>(nomatch hv)⟩;generalize upd H r0 (.lst [])=R at s1 g1 ⊢;apply eU (bN.of (s1 _ _ ol)) ?_;rw[aR,lts];exists _,rfl,δ,δ;refine forR (λk B a=>∃r m,B=[↑l,some (.int c),some (.int L),↑r,m,none,none]/\aX H a/\RL H a hs r (4 * k)) ⟨r0,_,rfl,s1,g1⟩ ?_ ?_
 ·rintro k B a hk ⟨r,m,rfl,g,F⟩;have J:k<hs.length:=δ
  rw[Int.zero_add];obtain⟨f,ef⟩:=toN (x:=(k:Int) % 2) δ;have Y:Pa hs k 0:=hb.ok J ε;have o1:Pa hs k 1:=hb.ok J ε;refine Zqq ?_;refine yX ?_;refine SQ ?_;refine Zgj ?_;refine Zgi ?_;refine Zf3 (H0:=H) g (d:=.make k 0 2 0) (e:=.make k 1 1 0) dt dt ⟨Y,ε,ε,ε⟩ ⟨o1,ε,ε,ε⟩ λX H2 sm2 rl2=>?_;refine qZ (F.same sm2) rl2 δ λr3 o sm3 _ rl3=>?_;refine Zao ?_;refine SQ ?_;refine Zgj ?_;refine Zgi ?_;refine Zf3 (H0:=H) rl3.s (d:=.put k 0 f 1) (e:=.drop k 1) (YG λR Q' h=>by ext;rw[ef];exact⟨aQ ζ,h⟩) dt ⟨Y,o1⟩ o1 λl4 O sm4 D=>?_;refine qZ (rl3.same sm4) D δ λr5 W sm5 _ Z=>?_;refine Zao ?_;exact⟨r5,_,rfl,g.trans (sm2.trans (sm3.trans (sm4.trans sm5))),Z.mono δ⟩
 ·rintro B a ⟨r,m,rfl,g,F⟩;have F:=F.mono (N':=20) δ;apply⟨_,_,_,rfl,ε,ε,ε,λw w0 w1=>?_⟩;have Zm5:∀{r6:AI}{H6:Hp}{m E:Option V},aX H H6->RL H H6 hs r6 52->lM K wI ξ [↑l,some (.int c),some (.int L),↑r6,m,some (.int w),E] H6:=by
   intro r6 H6 m E M T;unfold lM;apply eU (bN.of (M _ _ ol)) ?_;rw[aR,lts];exists _,rfl,δ,δ;refine forR (λk B a=>∃r m,B=[↑l,some (.int c),some (.int L),↑r,m,some (.int w),E]/\aX H a/\RL H a hs r (52+7 * k)) ⟨r6,_,rfl,M,T⟩ ?_ ?_
   ·rintro k B a hk ⟨r,m,rfl,g,F⟩;have J:k<hs.length:=δ
    rw[Int.zero_add];obtain⟨f,ef⟩:=toN (x:=(k:Int) % 2) δ;have Y:Pa hs k 0:=hb.ok J ε;have o1:Pa hs k 1:=hb.ok J ε;have o2:Pa hs k 2:=hb.ok J ε;refine Zqq ?_;refine yX ?_;have S:∀{N:AI}{o:Hp},aX H o->RL H o hs N (52+7 * k+5)->(cL (bC (bh (qI) dA a3)) dv bI) ⟨λB a=>∃r m,B=[↑l,some (.int c),some (.int L),↑r,m,some (.int w),E]/\aX H a/\RL H a hs r (52+7 * db),Q,bB Θ ⟨n,Q,bk,ct⟩,λB a=>∃r m,B=[↑l,some (.int c),some (.int L),↑r,m,some (.int w),E]/\aX H a/\RL H a hs r (52+7 * db)⟩ [↑l,some (.int c),some (.int L),↑N,some (.int k),some (.int w),E] o:=by
     intro N o C rl3;apply mG aT aT
     ·refine SQ ?_;refine Zgj ?_;refine Zgi ?_;left;refine⟨_,_,rfl,δ,δ,λwd=>?_⟩;left;refine⟨aQ ζ,λt nt=>?_⟩;have b:=aH nt (.tup (dV (.name k 0 wd)));have g4:upd o t (.tup (dV (.name k 0 wd))) t=some (.tup (dV (.name k 0 wd))):=aq;show aj _ _ _ (upd o t (.tup (dV (.name k 0 wd)))) _;generalize upd o t (.tup (dV (.name k 0 wd)))=O at b g4 ⊢;left;refine⟨aQ ζ,λu nu=>⟨aQ ζ,λX U=>?_⟩⟩;have A:=aH nu (.tup (dV (.drop k 0)));have g5:upd O u (.tup (dV (.drop k 0))) u=some (.tup (dV (.drop k 0))):=aq;show nQ _ _ (upd (upd O u (.tup (dV (.drop k 0)))) X _) _;have U:upd O u (.tup (dV (.drop k 0))) X=none:=U;generalize upd O u (.tup (dV (.drop k 0)))=W at A g5 U ⊢;have P:=aH U (.lst [.ref t,.ref u]);have r6:RL H (upd W X (.lst [.ref t,.ref u])) hs X 2:=rl2 (d:=.name k 0 wd) (e:=.drop k 0) (C.trans (b.trans (A.trans P))) (C.free (b.free (A.free U))) (C.free nt) (C.free (b.free nu)) aq (P _ _ (A _ _ g4)) Y (P _ _ g5) Y;have s36:=b.trans (A.trans P);refine qZ (rl3.same s36) r6 δ λr7 H7 s7 _ rl7=>?_;refine Zao ?_;exact⟨r7,_,rfl,C.trans (s36.trans s7),rl7.mono δ⟩
     ·refine nY ?_;exact⟨N,_,rfl,C,rl3.mono δ⟩
    have I:∀{N:AI}{o:Hp},aX H o->RL H o hs N (52+7 * k+2)->(aN bi
     (cL (bC (bh (qI) dA a3)) dv bI)) ⟨λB a=>∃r m,B=[↑l,some (.int c),some (.int L),↑r,m,some (.int w),E]/\aX H a/\RL H a hs r (52+7 * db),Q,bB Θ ⟨n,Q,bk,ct⟩,λB a=>∃r m,B=[↑l,some (.int c),some (.int L),↑r,m,some (.int w),E]/\aX H a/\RL H a hs r (52+7 * db)⟩ [↑l,some (.int c),some (.int L),↑N,some (.int k),some (.int w),E] o:=by
     intro N o C rl3;refine yX ?_;left;refine mG aT aT
     ·refine SQ ?_;refine Zgj ?_;refine Zgi ?_;refine Zlo (H0:=H) C (d:=.make k 0 1 0) (e:=.put k 0 0 1) (f:=.drop k 1) dt dt dt ⟨Y,ε,ε,ε⟩ ⟨Y,o1⟩ o1 λl4 O b D=>?_;refine qZ (rl3.same b) D δ λr5 W A _ Z=>?_;refine Zao ?_;exact S (C.trans (b.trans A)) (Z.mono δ)
     ·refine nY ?_;exact S C (rl3.mono δ)
    left;refine mG aT aT
    ·refine SQ ?_;refine Zgj ?_;refine Zgi ?_;refine Zf3 (H0:=H) g (d:=.get k 1 0 f) (e:=.put k 0 f 2) (YG λR Q' h=>by ext;rw[ef];exact⟨aQ ζ,h⟩) (YG λR Q' h=>by ext;rw[ef];exact⟨aQ ζ,h⟩) ⟨o1,Y⟩ ⟨Y,o2⟩ λl4 O b D=>?_;refine qZ (F.same b) D δ λr5 W A _ Z=>?_;refine Zao ?_;exact I (g.trans (b.trans A)) (Z.mono δ)
    ·refine nY ?_;exact I g (F.mono δ)
   ·rintro B a ⟨r,m,rfl,g,F⟩;apply q r a g (F.mono δ)
  have rest:∀{N:AI}{o:Hp}{m E:Option V},aX H o->RL H o hs N 30->(aN (bx (bh (nQ) Θ (bh (Zcl) (dM (aj be aC)) (bh ac υ (aP pJ [] E0 (aj χ (aj (tC (.int 882377)) (aj c6 aC))))))) cE)
   (lN K pJ wI)) ξ [↑l,some (.int c),some (.int L),↑N,m,some (.int w),E] o:=by
   intro N o m E C rl1;apply⟨ε,λl0 nl0=>?_⟩;generalize zz:upd o l0 _=O;obtain⟨b,g4⟩:=nwO nl0 zz;have D:=rl1.same b;apply⟨_,_,_,rfl,ε,ε,ε,λz z0 z1=>?_⟩;apply Rx (H0:=H) (hs:=hs) D.s g4 δ δ λl5 W A _ Z=>?_;refine qZ (D.same A) (Z.mono (N':=4) δ) ε λr6 H6 P _ T=>?_;have M:=C.trans (b.trans (A.trans P));refine Zao ?_;unfold lN;refine yX ?_;left;refine mG aT aT
   ·left;refine⟨_,_,_,rfl,ε,ε,ε,λy y0 y1=>?_⟩;left;refine mG aT aT
    ·left;refine⟨_,rfl,ε,ε,?_⟩;have p0:0<hs.length:=by have:=hb.n1;omega
     have o2:Pa hs 0 2:=hb.ok p0 ε;refine forR (λk B a=>∃r E,B=[↑l,some (.int c),some (.int L),↑r,m,some (.int w),E]/\aX H a/\RL H a hs r (34+3 * k)) ⟨r6,_,rfl,M,T⟩ ?_ ?_
     ·rintro k B a hk ⟨r,E,rfl,g,F⟩;have hk:k<6:=hk;left;refine⟨aQ ζ,λt nt=>?_⟩;have b:=aH nt (.tup (dV (.make 0 2 1 0)));have g4:upd a t (.tup (dV (.make 0 2 1 0))) t=some (.tup (dV (.make 0 2 1 0))):=aq;show aj _ _ _ (upd a t (.tup (dV (.make 0 2 1 0)))) _;generalize upd a t (.tup (dV (.make 0 2 1 0)))=O at b g4 ⊢;left;refine⟨_,_,rfl,δ,δ,λwd=>?_⟩;left;refine⟨aQ ζ,λu nu=>?_⟩;have A:=aH nu (.tup (dV (.name 0 2 wd)));have g5:upd O u (.tup (dV (.name 0 2 wd))) u=some (.tup (dV (.name 0 2 wd))):=aq;show aj _ _ _ (upd O u (.tup (dV (.name 0 2 wd)))) _;generalize upd O u (.tup (dV (.name 0 2 wd)))=W at A g5 ⊢;left;refine⟨aQ ζ,λx nx=>⟨aQ ζ,λX U=>?_⟩⟩;have P:=aH nx (.tup (dV (.drop 0 2)));have g6:upd W x (.tup (dV (.drop 0 2))) x=some (.tup (dV (.drop 0 2))):=aq;show nQ _ _ (upd (upd W x (.tup (dV (.drop 0 2)))) X _) _;have U:upd W x (.tup (dV (.drop 0 2))) X=none:=U;generalize upd W x (.tup (dV (.drop 0 2)))=H6 at P g6 U ⊢;have s7:=aH U (.lst [.ref t,.ref u,.ref x]);have s47:=b.trans (A.trans (P.trans s7));have r7:RL H (upd H6 X (.lst [.ref t,.ref u,.ref x])) hs X 3:=rl3 (d:=.make 0 2 1 0) (e:=.name 0 2 wd) (f:=.drop 0 2) (g.trans s47) (g.free (b.free (A.free (P.free U)))) (g.free nt) (g.free (b.free nu)) (g.free (b.free (A.free nx))) aq (s7 _ _ (P _ _ (A _ _ g4))) ⟨o2,ε,ε,ε⟩ (s7 _ _ (P _ _ g5)) o2 (s7 _ _ g6) o2;refine qZ (F.same s47) r7 δ λr8 H8 s8 _ rl8=>?_;refine Zao ?_;exact⟨r8,_,rfl,g.trans (s47.trans s8),rl8.mono δ⟩
     ·rintro B a ⟨r,E,rfl,g,F⟩;exact Zm5 g (F.mono ε)
    ·refine nY ?_;exact Zm5 M (T.mono ε)
   ·refine nY ?_;exact Zm5 M (T.mono ε)
  apply mG aT aT
  ·refine SQ ?_;refine Zgj ?_;refine Zgi ?_;refine Cp ?_;left;refine eU (bN.of (g _ _ ol)) ?_;rw[aR,lts];left;refine⟨_,rfl,δ,δ,?_⟩;refine Zqd (n:=hs.length) rfl δ (λi y a=>∃t,y=.ref t/\H t=none/\a t=some (.tup (dV (.make i 1 0 0)))) (by rintro i y R H2 ⟨t,e,f,z⟩ s;exact⟨t,e,f,s _ _ z⟩) (λi R q hq=>yW hq) (λi R hi C q hq=>?_) ?_
   ·walk_at"c";apply⟨aQ ζ,λt nt=>hq _ _ (aH nt _) ⟨t,rfl,g.free (C.free nt),aq⟩⟩
   ·intro ys o C ly hy p np;have b:=aH np (.lst ys);have r4:RL H (upd o p (.lst ys)) hs p 5:=⟨g.trans (C.trans b),g.free (C.free np),ys,aq,δ,λv hv=>by
     obtain⟨i,hi,e⟩:=List.getElem_of_mem hv;obtain⟨t,e2,fz,z⟩:=hy i v (by rw[bG hi,e]);exact .inr ⟨t,_,e2,fz,b _ _ z,hb.ok δ ε,ε,ε,ε⟩⟩
    refine qZ (F.same (C.trans b)) r4 ε λr5 W A _ Z=>?_;refine Zao ?_;exact rest (g.trans (C.trans (b.trans A))) (Z.mono ε)
  ·refine nY ?_;exact rest g (F.mono ε)
theorem Zb4{a l:AI}(q:Zbg K a l H Q):
  Fx K (DN K) (Up K) pJ (Zex K) ξ [↑a,↑l,none,none,none,none,none] H:=by
 obtain⟨ns,hs,E,hlen,Y,hb,q⟩:=q;unfold Fx;apply⟨ε,λU A=>?_⟩;have d:=aH A (.lst []);have Z:RL H (upd H U (.lst [])) hs U 200:=⟨d,A,[],aq,Nat.zero_le _,λv hv=>(nomatch hv)⟩;generalize upd H U (.lst [])=H1 at d Z ⊢;have rest:∀{I:AI}{k:Hp},aX H k->RL H k hs I 200->(mX K (DN K) (Up K) pJ) ξ [↑a,↑l,↑I,none,none,none,none] k:=by
  intro I k o rl2;unfold mX;apply⟨a,2,rfl,ns,o.seq E,ε,λsd=>?_⟩;apply⟨a,_,rfl,o.seq E,λt R=>?_⟩;have W:∃J:AE,Ae ep (some 3) (some 63)=J.map V.int/\J.length<=63:=by
   refine⟨(ns.drop (HT.lK ns.length 0 (some 3))).take (HT.lK ns.length ns.length (some 63) - HT.lK ns.length 0 (some 3)),?_,?_⟩
   ·unfold Ae;rw[List.map_take,List.map_drop,aR]
   ·rw[List.length_take,List.length_drop];omega
  obtain⟨J,ez,lz⟩:=W;rw[ez];generalize zz:upd k t _=H3;obtain⟨P,g3⟩:=nwO R zz;refine⟨t,rfl,⟨_,bN.of g3⟩,forL (J.map V.int) (λi N m=>∃r T X,N=[↑a,↑l,↑r,some (.int sd),some (.int i),T,X]/\aX H3 m/\RL H m hs r (200+6 * i)) ⟨I,_,_,rfl,aX.refl _,rl2.same P⟩ (by rintro _ _ _ _ ⟨_,_,_,_,z,_⟩;exact bN.of (z _ _ g3)) ?_ ?_⟩
  ·rintro i x N m hi ⟨r,T,X,rfl,u,F⟩;have L:=(cI hi).1;rw[aR]at L;obtain⟨c,hc,rfl⟩:=List.mem_map.mp (List.mem_of_getElem? hi);have hii:(i:Int) * i<=3969:=by
    have:=Nat.mul_le_mul (show i<=63 by omega) (show i<=63 by omega);have e:((i * i:Nat):Int)=(i:Int) * i:=by push_cast;rfl
    omega
   have hi0:0<=(i:Int) * i:=Int.mul_nonneg δ δ;have D:=o.trans (P.trans u);ext;generalize c+(i:Int) * i * 1000003=z;refine⟨_,_,_,rfl,ε,ε,ε,λy y0 y1=>?_⟩;apply mG aT aT
   ·apply⟨ε,λO j=>?_⟩;generalize zz:upd m O _=H5;obtain⟨g,M⟩:=nwO j zz;have f:=F.same g;apply⟨_,_,_,rfl,ε,ε,ε,λw w0 w1=>?_⟩;apply Rx (H0:=H) (hs:=hs) f.s M δ δ λl6 H6 p _ h=>?_;refine qZ (f.same p) (h.mono (N':=6) δ) δ λB S C _ b=>?_;apply Zo2 rfl ?_;exact⟨B,_,_,by rw[show((i+1:Nat):Int)=(i:Int)+1 from by push_cast;rfl];rfl,u.trans (g.trans (p.trans C)),b.mono δ⟩
   ·apply⟨_,_,_,rfl,hs,Y.same D,hb,λr5 H5 g _ f=>?_⟩;have f:=f.base D;refine qZ (F.same g) f δ λB S C _ b=>?_;apply Zo2 rfl ?_;exact⟨B,_,_,by rw[show((i+1:Nat):Int)=(i:Int)+1 from by push_cast;rfl];rfl,u.trans (g.trans C),b.mono δ⟩
  ·rintro N m ⟨r,T,X,rfl,u,F⟩;rw[aR]at F;apply⟨ε,λO j=>?_⟩;generalize zz:upd m O _=H5;obtain⟨g,M⟩:=nwO j zz;have f:=F.same g;apply⟨_,_,_,rfl,ε,ε,ε,λw w0 w1=>?_⟩;apply Rx (H0:=H) (hs:=hs) f.s M δ δ λl6 H6 p _ h=>?_;refine qZ (f.same p) (h.mono (N':=24) δ) δ λB S C _ b=>?_;exact q B S (o.trans (P.trans (u.trans (g.trans (p.trans C))))) (b.mono δ)
 apply⟨a,0,rfl,ns,d.seq E,ε,λc0=>?_⟩;apply⟨_,_,_,rfl,ε,ε,ε,λz z0 z1=>?_⟩;apply mG aT aT
 ·apply⟨a,0,rfl,ns,d.seq E,ε,λc1=>?_⟩;apply⟨a,2,rfl,ns,d.seq E,ε,λc2=>?_⟩;apply⟨_,_,_,rfl,hs,Y.same d,hb,λr k o rl2=>?_⟩;refine Zuj ?_;exact rest (d.trans o) (rl2.base d)
 ·refine nY ?_;exact rest d Z
end
def Zvg(M:Wm):Prop:=M.sw.phase="walk"->M.sw.grey.Nodup/\∀x∈M.sw.grey,∃c,cellAt M x=some c/\c.tone=M.sw.sense
structure KW(M:Wm)(hs:Kf)(k:Nat):Prop where
 hl:M.hands.length=hs.length
 hn:∀(i:Nat) m n,M.hands[i]? =some m->hs[i]? =some n->m.2.length=n.2.toNat
 cl:M.cells.length<=k
 nl:M.names.length<=k
 fl:∀c,some c∈M.cells->c.fl.length<=8
 gr:Zvg M
 ph:M.sw.phase="rest"\/M.sw.phase="walk"\/M.sw.phase="give"\/M.sw.phase="lost"
 a0:0<=M.sw.at'
 tl:0<=M.tells/\M.tells<4
section
variable {M:Wm}{hs:Kf}{k:Nat}
theorem Zda:∀(n:Nat) (l:AE),l.Nodup->(∀x∈l,0<=x/\x<n)->l.length<=n
 | 0,l,_,h=>by
  cases l with
  | nil=>exact Nat.le_refl _
  | cons x l=>have:=h x ζ;omega
 | n+1,l,nd,h=>by
  have h1:(l.erase (n:Int)).length<=n:=Zda n _ (nd.erase _) λx hx=>by
   have h2:=h x (List.mem_of_mem_erase hx);have b:x≠(n:Int):=((nd.mem_erase_iff).mp hx).1
   push_cast at h2
   omega
  have h4:=List.length_erase (a:=(n:Int)) (l:=l);split at h4<;>omega
theorem Yu{x:Int}{c:Ce}(h:cellAt M x=some c):0<=x/\x<M.cells.length:=by
 obtain⟨a,h1⟩:=cC.mp h;have:=(cI h1).1;omega
theorem KW.ok(p:KW M hs k)(hb:HsB hs)(hk:k<=900):J3 M:=by
 have d:=p.cl;have f:=p.nl;refine⟨δ,λm hm=>?_,λc hc=>by have:=p.fl c hc;omega,δ,λph=>?_,λph x hx=>?_,p.ph,p.a0⟩
 ·obtain⟨i,b,e⟩:=List.getElem_of_mem hm;have a:i<hs.length:=by rw[<- p.hl];exact b
  have h1:=p.hn i m _ (by rw[bG b,e]) (bG a);have h2:=hb.sb _ (List.getElem_mem a);omega
 ·obtain⟨nd,h1⟩:=p.gr ph;refine Nat.le_trans (Zda M.cells.length _ nd λx hx=>?_) δ;obtain⟨c,hc,_⟩:=h1 x hx;exact Yu hc
 ·obtain⟨c,hc,_⟩:=(p.gr ph).2 x hx;exact⟨c,hc⟩
theorem KW.zW(p:KW M hs k){h s:Nat}(o:Pa hs h s):zW M h s:=by
 obtain⟨m,hm,b⟩:=o;have a:h<M.hands.length:=by rw[p.hl];exact(cI hm).1
 refine⟨_,bG a,?_⟩;have:=p.hn h _ m (bG a) hm;omega
theorem KW.okD(p:KW M hs k){d:lg}(o:okR hs d):okD M d:=by
 cases d with
 | make h s a bulk=>exact⟨p.zW o.1,o.2.1,by have:=o.2.2.1;omega,o.2.2.2⟩
 | get h s t f=>exact⟨p.zW o.1,p.zW o.2⟩
 | put h t f s=>exact⟨p.zW o.1,p.zW o.2⟩
 | copy h s t=>exact⟨p.zW o.1,p.zW o.2⟩
 | drop h s=>exact p.zW o
 | give h s g t=>exact⟨p.zW o.1,p.zW o.2⟩
 | write h t l=>exact p.zW o
 | read h t=>exact p.zW o
 | name h t z=>exact p.zW o
 | seek h s z=>exact p.zW o
theorem KW.mono{a:Nat}(p:KW M hs k)(h:k<=a):KW M hs a:=by
 obtain⟨d,i,l,j,b,c,e,f,g⟩:=p;exact⟨d,i,δ,δ,b,c,e,f,g⟩
theorem KW.slot(p:KW M hs k)(h s:Nat)(x:AA):KW (setSlot M h s x) hs k:=by
 obtain⟨g,e,l,o,r,f,j,t,q⟩:=p;refine⟨by show(M.hands.modify h _).length=_;rw[List.length_modify];exact g,λi m n a d=>?_,l,o,r,f,j,t,q⟩;have a:(M.hands.modify h λm=>(m.1,m.2.set s x))[i]? =some m:=a;rw[List.getElem?_modify]at a;cases c:M.hands[i]? with
 | none=>rw[c]at a;cases a
 | some b=>
  rw[c]at a
  by_cases z:h=i
  ·have e3:(b.1,b.2.set s x)=m:=by simpa[z]using a
   rw[<- e3];show(b.2.set s x).length=_;rw[List.length_set];exact e i b n c d
  ·have e3:b=m:=by simpa[z]using a
   rw[<- e3];exact e i b n c d
theorem j9{i:Int}{c c':Ce}(h:cellAt M i=some c)(x:Int):cellAt (setCell M i c') x=if x=i then some c' else cellAt M x:=by
 obtain⟨b,h1⟩:=cC.mp h;unfold cellAt;show(if 0<=x then((M.cells.set i.toNat (some c'))[x.toNat]?).join else none)=_
 by_cases e:x=i
 ·subst e;rw[if_pos b,if_pos rfl,List.getElem?_set_self (cI h1).1];rfl
 ·rw[if_neg e]
  by_cases a:0<=x
  ·rw[if_pos a,if_pos a,List.getElem?_set_ne δ]
  ·rw[if_neg a,if_neg a]
theorem KW.cell(p:KW M hs k){i:Int}{c c':Ce}(h:cellAt M i=some c)(r:c'.tone=c.tone)(s:c'.fl.length=c.fl.length):KW (setCell M i c') hs k:=by
 have h8:=p.fl c (oA h);obtain⟨f,j,l,m,o,b,g,q,n⟩:=p;refine⟨f,j,by show(M.cells.set _ _).length<=_;rw[List.length_set];exact l,m,λd hd=>?_,λph=>?_,g,q,n⟩
 ·rcases List.mem_or_eq_of_mem_set (show some d∈M.cells.set _ _ from hd)with hd | hd
  ·exact o d hd
  ·cases hd;omega
 ·obtain⟨nd,h1⟩:=b ph;refine⟨nd,λx hx=>?_⟩;obtain⟨d,hd,a⟩:=h1 x hx;rw[j9 h]
  by_cases e:x=i
  ·subst e;rw[h]at hd;cases hd;exact⟨c',by rw[if_pos rfl],by rw[r];exact a⟩
  ·exact⟨d,by rw[if_neg e];exact hd,a⟩
theorem KW.note(p:KW M hs k)(x:AA):KW (bO M x).2 hs k:=by
 cases x with
 | none=>exact p
 | some i=>
  unfold bO;dsimp only;cases hc:cellAt M i with
  | none=>exact p
  | some c=>
   dsimp only;split
   ·rename_i z
    obtain⟨z1,u⟩:=z;have h8:=p.fl c (oA hc);obtain⟨j,n,o,q,t,h,m,v,s⟩:=p;obtain⟨nd,h1⟩:=h z1;have f:i∉M.sw.grey:=λl=>by
     obtain⟨d,hd,g⟩:=h1 i l;rw[hc]at hd;cases hd;exact u g
    refine⟨j,n,by show(M.cells.set _ _).length<=_;rw[List.length_set];exact o,q,λd hd=>?_,λ_=>⟨?_,λx hx=>?_⟩,m,v,s⟩
    ·rcases List.mem_or_eq_of_mem_set (show some d∈M.cells.set _ _ from hd)with hd | hd
     ·exact t d hd
     ·cases hd;exact h8
    ·show(M.sw.grey++[i]).Nodup;rw[List.nodup_append];exact⟨nd,ζ,λa r b hb e=>f (by rw[List.mem_singleton.mp hb]at e;rw[<- e];exact r)⟩
    ·have e:=j9 (c':={ c with tone:=M.sw.sense }) hc x;show ∃d,cellAt (setCell M i { c with tone:=M.sw.sense }) x=some d/\d.tone=M.sw.sense;rw[e]
     by_cases ex:x=i
     ·exact⟨_,by rw[if_pos ex],rfl⟩
     ·rcases List.mem_append.mp (show x∈M.sw.grey++[i]from hx)with hx | hx
      ·obtain⟨d,hd,g⟩:=h1 x hx;exact⟨d,by rw[if_neg ex];exact hd,g⟩
      ·exact absurd (List.mem_singleton.mp hx) ex
   ·exact p
theorem KW.notes:∀{l:Au}{M:Wm},KW M hs k->KW (aW M l).2 hs k
 | [],_,p=>p
 | x::l,_,p=>KW.notes (l:=l) (p.note x)
theorem KW.nh(a:Int):∀{l:List (Str×Au)}{j:Nat}{M:Wm},KW M hs k->KW (fQ a l j M).2 hs k
 | [],_,_,p=>p
 | m::l,j,M,p=>by
  unfold fQ;split
  ·exact KW.nh a (l:=l) (KW.notes p)
  ·exact KW.nh a (l:=l) p
theorem KW.put(p:KW M hs k){u b:Int}{c:Ce}(h:c.fl.length<=8):KW { M with used:=u,born:=b,cells:=lO M.cells c } hs db:=by
 obtain⟨e,g,n,o,j,a,f,m,i⟩:=p;refine⟨e,g,?_,by show M.names.length<=_;omega,λd hd=>?_,λph=>?_,f,m,i⟩
 ·have:=Zpr M.cells c;show(lO M.cells c).length<=_;omega
 ·rcases Zne hd with hd | hd
  ·exact j d hd
  ·cases hd;exact h
 ·obtain⟨nd,h1⟩:=a ph;refine⟨nd,λx hx=>?_⟩;obtain⟨d,hd,l⟩:=h1 x hx;exact⟨d,Zhb hd,l⟩
theorem Zjx{l:List b8}{z:Str}{v:Int×Int}:(nH l z v).length<=l.length+1:=by
 unfold nH;split
 ·rw[aR];omega
 ·rw[List.length_append];simp
theorem KW.name(p:KW M hs k){z:Str}{v:Int×Int}:KW { M with names:=nH M.names z v } hs db:=by
 obtain⟨c,g,i,h,a,b,d,e,f⟩:=p;refine⟨c,g,by show M.cells.length<=_;omega,?_,a,b,d,e,f⟩;have:=Zjx (l:=M.names) (z:=z) (v:=v);show(nH M.names z v).length<=_;omega
theorem KW.deed(p:KW M hs k){d:lg}{e:Ev}{i:Wm}(o:okR hs d)(h:qj M d=.ok (e,i)):KW i hs db:=by
 have le:k<=k+1:=δ
 cases d with
 | make a s b bulk=>
  simp only[qj]at h;split at h
  ·right;refine KW.slot (KW.put p ?_) _ _ _;show(List.replicate b.toNat none).length<=8;rw[List.length_replicate];have:=o.2.2.1;omega
  ·cases h
 | get a s t f=>
  simp only[qj]at h;split at h
  ·cases h
  ·split at h
   ·cases h
   ·split at h
    ·cases h
    ·right;exact(p.slot _ _ _).mono le
 | put a t f s=>
  simp only[qj]at h;split at h
  ·cases h
  ·split at h
   ·cases h
   ·rename_i c hc
    split at h
    ·cases h
    ·right;exact(KW.notes (p.cell (c':={ c with fl:=c.fl.set f (bw M a s) }) hc rfl (by show(List.set _ _ _).length=_;rw[List.length_set]))).mono le
 | copy a s t=>
  right;exact(p.slot _ _ _).mono le
 | drop a s=>
  right;exact(p.slot _ _ _).mono le
 | give a s g t=>
  right;exact(KW.notes (p.slot _ _ _)).mono le
 | write a t l=>
  simp only[qj]at h;split at h
  ·cases h
  ·split at h
   ·cases h
   ·rename_i c hc
    right;exact(p.cell (c':={ c with load:=l }) hc rfl rfl).mono le
 | read a t=>
  simp only[qj]at h;split at h
  ·cases h
  ·split at h
   ·cases h
   ·right;exact p.mono le
 | name a t z=>
  simp only[qj]at h;split at h
  ·cases h
  ·split at h
   ·cases h
   ·right;exact p.name
 | seek a s z=>
  simp only[qj]at h;split at h
  ·cases h
  ·split at h
   ·right;exact(p.slot _ _ _).mono le
   ·right;exact(KW.notes (p.slot _ _ _)).mono le
theorem KW.step(p:KW M hs k){lb:Int}{lw:AE}{e:Ev}{t:Wm}(h:nj lb lw M e t):KW t hs k:=by
 cases h with
 | begin ph=>
  refine KW.nh _ ?_;obtain⟨a,b,f,j,m,r,n,o,l⟩:=p;exact⟨a,b,f,j,m,λ_=>⟨List.nodup_nil,λx hx=>(nomatch hx)⟩,.inr (.inl rfl),o,l⟩
 | walk x g c ph s hc=>
  refine KW.notes ?_;obtain⟨a,b,f,j,m,r,n,o,l⟩:=p;refine⟨a,b,f,j,m,λ_=>?_,n,o,l⟩;obtain⟨nd,h1⟩:=r ph;rw[s]at nd h1;exact⟨(List.nodup_cons.mp nd).2,λy hy=>h1 y (List.mem_cons_of_mem _ hy)⟩
 | look N ph s E B=>
  have u:KW N hs k:=by rw[B];exact KW.nh _ p
  obtain⟨a,b,f,j,m,r,n,o,l⟩:=u;exact⟨a,b,f,j,m,r,n,o,l⟩
 | cut q w ph s A C hno=>
  obtain⟨a,b,f,j,m,r,n,o,l⟩:=p;exact⟨a,b,f,j,m,λz=>absurd z (show ¬ ("give":Str)="walk" by decide),.inr (.inr (.inl rfl)),Int.le_refl _,l⟩
 | lost q w i x c v ph s A C hx hno hc D=>
  obtain⟨a,b,f,j,m,r,n,o,l⟩:=p;exact⟨a,b,f,j,m,λz=>absurd z (show ¬ ("lost":Str)="walk" by decide),.inr (.inr (.inr rfl)),Int.le_refl _,l⟩
 | pass ph lt hp=>
  obtain⟨a,b,f,j,m,r,n,o,l⟩:=p;exact⟨a,b,f,j,m,r,n,by show 0<=M.sw.at'+1;omega,l⟩
 | back c ph lt hc D=>
  obtain⟨a,b,f,j,m,r,n,o,l⟩:=p;refine⟨a,b,by show(M.cells.set _ _).length<=_;rw[List.length_set];exact f,j,λd hd=>?_,λz=>absurd (ph.symm.trans z) ε,n,by show 0<=M.sw.at'+1;omega,l⟩;rcases List.mem_or_eq_of_mem_set (show some d∈M.cells.set _ _ from hd)with hd | hd
  ·exact m d hd
  ·cases hd
 | fin ph lt=>
  obtain⟨a,b,f,j,m,r,n,o,l⟩:=p;exact⟨a,b,f,j,m,λz=>absurd z (show ¬ ("rest":Str)="walk" by decide),.inl rfl,o,l⟩
 | again ph=>exact p
theorem KW.new{room:Int}{w t:Int}(b:0<=t)(h1:t<4):KW (RB room hs w t) hs 0:=by
 refine⟨by show(hs.map _).length=_;rw[aR],λi m n a d=>?_,Nat.le_refl _,Nat.le_refl _,λc hc=>(nomatch hc),λz=>absurd z (show ¬ ("rest":Str)="walk" by decide),.inl rfl,Int.le_refl _,⟨b,h1⟩⟩;have a:(hs.map λm=>(m.1,List.replicate m.2.toNat (none:AA)))[i]? =some m:=a;rw[bL,d]at a;cases a;exact List.length_replicate
end
inductive Tr where
 | fl:V->Tr
 | ls:List Tr->Tr
 | tp:List Tr->Tr
structure Kp(H H':Hp)(T T':Tg):Prop where
 k:∀b o,H b=some o->(T b).1=0\/6<=(T b).1->H' b=some o
 tg:∀b o,H b=some o->T' b=T b
 al:∀b o,H b=some o->∃o',H' b=some o'
theorem Kp.same{H H':Hp}{T:Tg}(s:aX H H'):Kp H H' T T:=⟨λb o h _=>s _ _ h,λ_ _ _=>rfl,λb o h=>⟨o,s _ _ h⟩⟩
theorem Kp.stp{s:Nat}{H H':Hp}{T T':Tg}(st:gD s H H' T T')(n:s≠0/\s<6):Kp H H' T T':=⟨λb o h t=>st.kp b o h δ,st.tg,st.al⟩
theorem Kp.trans{H f d:Hp}{T e c:Tg}(a:Kp H f T e)(b:Kp f d e c):Kp H d T c:=
 ⟨λx o h t=>b.k x o (a.k x o h t) (by rw[a.tg x o h];exact t),λx o h=>by
  obtain⟨o1,h1⟩:=a.al x o h;exact(b.tg x o1 h1).trans (a.tg x o h),λx o h=>by
  obtain⟨o1,h1⟩:=a.al x o h;exact b.al x o1 h1⟩
theorem Zr0(x:AA):lW (oV x)=true:=by cases x<;>rfl
def jO(M:Wm)(i:Int):Bool:=match cellAt M i with
 | none=>false
 | some c=>decide (c.tone≠M.sw.sense)
def ntP(M:Wm):Au->AE->AE
 | [],acc=>acc
 | none::l,acc=>ntP M l acc
 | some i::l,acc=>if jO M i=true/\i∉acc then ntP M l (acc++[i])else ntP M l acc
def fB(M:Wm):AE->Wm
 | acc=>acc.foldl (λN i=>(bO N (some i)).2) M
def jC(M:Wm)(i:Int):Int:=((cellAt M i).map (·.birth)).getD 0
section
variable {M:Wm}
theorem Rv(acc:AE)(i:Int):fB M (acc++[i])=(bO eH (some i)).2:=by
 unfold fB;rw[List.foldl_append];rfl
structure NL(M N:Wm)(acc:AE):Prop where
 sw:N.sw={ M.sw with grey:=M.sw.grey++acc }
 at_:∀i,cellAt N i=if i∈acc then(cellAt M i).map (λc=>{ c with tone:=M.sw.sense })else cellAt M i
 nt:NtR M N
theorem Zd3(ph:M.sw.phase="walk"):∀(n:Nat) (acc:AE),acc.length=n->acc.Nodup->(∀i∈acc,jO M i=true)->NL M eH acc:=by
 intro n
 induction n with
 | zero=>
  intro acc hl _ _;rw[List.eq_nil_of_length_eq_zero hl];exact⟨by rw[List.append_nil];rfl,λi=>by rw[if_neg ζ];rfl,NtR.refl M⟩
 | succ n q=>
  intro acc hl nd hp;obtain⟨a0,i,rfl⟩:∃a0 i,acc=a0++[i]:=⟨acc.dropLast,acc.getLast (by intro z;rw[z]at hl;cases hl),(List.dropLast_concat_getLast _).symm⟩;rw[List.length_append,List.length_singleton]at hl;rw[List.nodup_append]at nd;obtain⟨m,_,f⟩:=nd;have j:i∉a0:=λz=>f i z i ζ rfl;obtain⟨k,o,n1⟩:=q a0 δ m λx hx=>hp x (by simp[hx]);have a:=hp i ζ;unfold jO at a;cases hc:cellAt M i with
  | none=>rw[hc]at a;cases a
  | some c=>
   rw[hc]at a;have r:c.tone≠M.sw.sense:=decide_eq_true_iff.mp a;have b:cellAt (fB M a0) i=some c:=by rw[o i,if_neg j];exact hc
   have g:(fB M a0).sw.phase="walk":=by rw[k];exact ph
   have d:(fB M a0).sw.sense=M.sw.sense:=by rw[k]
   have p:bO (fB M a0) (some i)=(some c.birth,{ setCell (fB M a0) i { c with tone:=(fB M a0).sw.sense }with sw:={ (fB M a0).sw with grey:=(fB M a0).sw.grey++[i] } }):=by
    unfold bO;dsimp only;rw[b];dsimp only;rw[if_pos ⟨g,by rw[d];exact r⟩]
   rw[Rv];have l:=n1.trans (Zd2 (fB M a0) (some i));refine⟨?_,λx=>?_,l⟩
   ·rw[p];show { (fB M a0).sw with grey:=(fB M a0).sw.grey++[i] }=_;rw[k];simp only[List.append_assoc]
   ·rw[p];show cellAt (setCell (fB M a0) i { c with tone:=(fB M a0).sw.sense }) x=_;rw[j9 b,d]
    by_cases e:x=i
    ·subst e;rw[if_pos rfl,if_pos ζ,hc];rfl
    ·rw[if_neg e,o x]
     by_cases h:x∈a0
     ·rw[if_pos h,if_pos (by simp[h])]
     ·rw[if_neg h,if_neg (by simp[h,e])]
theorem ZP:∀(l:Au) (acc:AE),acc.Nodup->(∀i∈acc,jO M i=true)->(ntP M l acc).Nodup/\∀i∈ntP M l acc,jO M i=true
 | [],acc,h1,h2=>⟨h1,h2⟩
 | none::l,acc,h1,h2=>ZP l acc h1 h2
 | some i::l,acc,h1,h2=>by
  unfold ntP;split
  ·rename_i z
   refine ZP l (acc++[i]) ?_ λx hx=>?_
   ·rw[List.nodup_append];exact⟨h1,ζ,λa c b hb e=>z.2 (by rw[List.mem_singleton.mp hb]at e;rw[<- e];exact c)⟩
   ·rcases List.mem_append.mp hx with hx | hx
    ·exact h2 x hx
    ·rw[List.mem_singleton.mp hx];exact z.1
  ·exact ZP l acc h1 h2
theorem zX(ph:M.sw.phase="walk"):∀(l:Au) (acc:AE),acc.Nodup->(∀i∈acc,jO M i=true)->(aW eH l).2=fB M (ntP M l acc)/\acc.map (jC M)++(aW eH l).1=(ntP M l acc).map (jC M)
 | [],acc,_,_=>⟨rfl,by rw[show(aW eH []).1=[]from rfl,List.append_nil];rfl⟩
 | none::l,acc,h1,h2=>by
  have e:aW eH (none::l)=aW eH l:=by
   show(ofN none++(aW eH l).1,(aW eH l).2)=_;rfl
  rw[e];exact zX ph l acc h1 h2
 | some i::l,acc,h1,h2=>by
  have nl:=Zd3 ph acc.length acc rfl h1 h2;have j:(fB M acc).sw.phase="walk":=by rw[nl.sw];exact ph
  have d:(fB M acc).sw.sense=M.sw.sense:=by rw[nl.sw]
  have q:aW eH (some i::l)=(ofN (bO eH (some i)).1++(aW (bO eH (some i)).2 l).1,(aW (bO eH (some i)).2 l).2):=rfl;rw[q];unfold ntP
  by_cases z:jO M i=true/\i∉acc
  ·rw[if_pos z];obtain⟨z1,o⟩:=z;have n:=z1;unfold jO at z1;cases hc:cellAt M i with
   | none=>rw[hc]at z1;cases z1
   | some c=>
    rw[hc]at z1;have r:c.tone≠M.sw.sense:=decide_eq_true_iff.mp z1;have h:cellAt eH i=some c:=by rw[nl.at_ i,if_neg o];exact hc
    have m:(bO eH (some i)).1=some c.birth:=by
     unfold bO;dsimp only;rw[h];dsimp only;rw[if_pos ⟨j,by rw[d];exact r⟩]
    have p:(bO eH (some i)).2=fB M (acc++[i]):=(Rv acc i).symm;rw[m,p];have nd:(acc++[i]).Nodup:=by
     rw[List.nodup_append];exact⟨h1,ζ,λa s b hb e=>o (by rw[List.mem_singleton.mp hb]at e;rw[<- e];exact s)⟩
    obtain⟨f,g⟩:=zX ph l (acc++[i]) nd λx hx=>by
     rcases List.mem_append.mp hx with hx | hx
     ·exact h2 x hx
     ·rw[List.mem_singleton.mp hx];exact n
    refine⟨f,?_⟩;rw[<- g,List.map_append];have t:jC M i=c.birth:=by unfold jC;rw[hc];rfl
    simp[ofN,t]
  ·rw[if_neg z];have m:bO eH (some i)=(none,fB M acc):=by
    unfold bO;dsimp only;rw[nl.at_ i]
    by_cases k:i∈acc
    ·rw[if_pos k];cases hc:cellAt M i with
     | none=>rfl
     | some c=>
      show(if _ then _ else _)=_;rw[if_neg (λy=>y.2 (by rw[d]))]
    ·rw[if_neg k];cases hc:cellAt M i with
     | none=>rfl
     | some c=>
      have:¬ jO M i=true:=λy=>z ⟨y,k⟩;unfold jO at this;rw[hc]at this;show(if _ then _ else _)=_;rw[if_neg (λy=>this (decide_eq_true (by rw[<- d];exact y.2)))]
   rw[m];obtain⟨f,g⟩:=zX ph l acc h1 h2;exact⟨f,by simpa[ofN]using g⟩
def nhL(a:Int):List (Str×Au)->Nat->Au
 | [],_=>[]
 | m::l,k=>if a / 2 ^ k % 2=1 then m.2++nhL a l db else nhL a l db
theorem Ru:∀(a b:Au) (M:Wm),aW M (a++b)=((aW M a).1++(aW (aW M a).2 b).1,(aW (aW M a).2 b).2)
 | [],b,M=>rfl
 | x::a,b,M=>by
  show(ofN (bO M x).1++(aW (bO M x).2 (a++b)).1,(aW (bO M x).2 (a++b)).2)=((ofN (bO M x).1++(aW (bO M x).2 a).1)++(aW (aW (bO M x).2 a).2 b).1,(aW (aW (bO M x).2 a).2 b).2);rw[Ru a b,List.append_assoc]
theorem Zdf(a:Int):∀(l:List (Str×Au)) (k:Nat) (M:Wm),fQ a l k M=aW M (nhL a l k)
 | [],_,_=>rfl
 | m::l,k,M=>by
  unfold fQ nhL;split
  ·rw[Ru,Zdf a l db]
  ·exact Zdf a l db M
end
structure TB(w0:Int)(M:Wm):Prop where
 bu:∀i j c d,cellAt M i=some c->cellAt M j=some d->c.birth=d.birth->i=j
 bn:∀i c,cellAt M i=some c->1<=c.birth/\c.birth<=M.born
 b0:0<=M.born
 se:M.sw.sense=0\/M.sw.sense=1
 tn:∀i c,cellAt M i=some c->c.tone=0\/c.tone=1
 rs:M.sw.phase="rest"->∀i c,cellAt M i=some c->c.tone=M.sw.sense
 gv:M.sw.phase="give"->∀i c,cellAt M i=some c->c.tone≠M.sw.sense->M.sw.at'<=i/\i<M.sw.stop
 ww:M.w=w0
structure Sb(M M':Wm):Prop where
 ce:∀i,(cellAt M' i).map (·.birth)=(cellAt M i).map (·.birth)
 tn:∀i c c',cellAt M i=some c->cellAt M' i=some c'->c'.tone=c.tone\/(M.sw.phase="walk"/\c'.tone=M.sw.sense)
 bn:M'.born=M.born
 se:M'.sw.sense=M.sw.sense
 ph:M'.sw.phase=M.sw.phase
 at_:M'.sw.at'=M.sw.at'
 st:M'.sw.stop=M.sw.stop
 ww:M'.w=M.w
section
variable {M M':Wm}{w0:Int}
theorem Sb.get(h:Sb M M'){i:Int}{c':Ce}(e:cellAt M' i=some c'):∃c,cellAt M i=some c/\c'.birth=c.birth/\(c'.tone=c.tone\/(M.sw.phase="walk"/\c'.tone=M.sw.sense)):=by
 have h1:=h.ce i;rw[e]at h1;cases hc:cellAt M i with
 | none=>rw[hc]at h1;cases h1
 | some c=>
  rw[hc]at h1;exact⟨c,rfl,Option.some.inj h1,h.tn i c c' hc e⟩
theorem Sb.uT(h:M'.cells=M.cells)(bn:M'.born=M.born)(se:M'.sw.sense=M.sw.sense)(ph:M'.sw.phase=M.sw.phase)(at_:M'.sw.at'=M.sw.at')(st:M'.sw.stop=M.sw.stop)(ww:M'.w=M.w):Sb M M':=by
 have e:∀i,cellAt M' i=cellAt M i:=λi=>by unfold cellAt;rw[h]
 exact⟨λi=>by rw[e],λi c a h1 h2=>by rw[e,h1]at h2;cases h2;exact .inl rfl,bn,se,ph,at_,st,ww⟩
theorem Sb.refl(M:Wm):Sb M M:=Sb.uT rfl rfl rfl rfl rfl rfl rfl
theorem Sb.trans{d:Wm}(a:Sb M M')(b:Sb M' d):Sb M d:=by
 refine⟨λi=>(b.ce i).trans (a.ce i),λi c c2 h1 h2=>?_,b.bn.trans a.bn,b.se.trans a.se,b.ph.trans a.ph,b.at_.trans a.at_,b.st.trans a.st,b.ww.trans a.ww⟩;obtain⟨c1,e,_,h4⟩:=b.get h2;have h5:=a.tn i c c1 h1 e;rw[a.ph,a.se]at h4;rcases h4 with h4 | h4
 ·rcases h5 with h5 | h5
  ·exact .inl (h4.trans h5)
  ·exact .inr ⟨h5.1,h4.trans h5.2⟩
 ·exact .inr h4
theorem Sb.slot(M:Wm)(h s:Nat)(x:AA):Sb M (setSlot M h s x):=Sb.uT rfl rfl rfl rfl rfl rfl rfl
theorem Sb.cell{i:Int}{c c':Ce}(h:cellAt M i=some c)(hb:c'.birth=c.birth)(a:c'.tone=c.tone\/(M.sw.phase="walk"/\c'.tone=M.sw.sense)):Sb M (setCell M i c'):=by
 refine⟨λx=>?_,λx d b h1 h2=>?_,rfl,rfl,rfl,rfl,rfl,rfl⟩
 ·rw[j9 h]
  by_cases e:x=i
  ·subst e;rw[if_pos rfl,h];exact congrArg some hb
  ·rw[if_neg e]
 ·rw[j9 h]at h2
  by_cases e:x=i
  ·subst e;rw[if_pos rfl]at h2;rw[h]at h1;cases h1;cases h2;exact a
  ·rw[if_neg e,h1]at h2;cases h2;exact .inl rfl
theorem Sb.note(M:Wm)(x:AA):Sb M (bO M x).2:=by
 cases x with
 | none=>exact Sb.refl M
 | some i=>
  unfold bO;dsimp only;cases hc:cellAt M i with
  | none=>exact Sb.refl M
  | some c=>
   dsimp only;split
   ·rename_i z
    exact(Sb.cell (c':={ c with tone:=M.sw.sense }) hc rfl (.inr ⟨z.1,rfl⟩)).trans (Sb.uT rfl rfl rfl rfl rfl rfl rfl)
   ·exact Sb.refl M
theorem Sb.notes:∀(l:Au) (M:Wm),Sb M (aW M l).2
 | [],M=>Sb.refl M
 | x::l,M=>(Sb.note M x).trans (Sb.notes l _)
theorem Sb.nh(a:Int):∀(l:List (Str×Au)) (j:Nat) (M:Wm),Sb M (fQ a l j M).2
 | [],_,M=>Sb.refl M
 | m::l,j,M=>by
  unfold fQ;split
  ·exact(Sb.notes m.2 M).trans (Sb.nh a l (j+1) _)
  ·exact Sb.nh a l (j+1) M
theorem TB.sb(p:TB w0 M)(h:Sb M M'):TB w0 M':=by
 refine⟨λi j c d h1 h2 e=>?_,λi c h1=>?_,by rw[h.bn];exact p.b0,by rw[h.se];exact p.se,λi c h1=>?_,λph i c h1=>?_,λph i c h1 g=>?_,by rw[h.ww];exact p.ww⟩
 ·obtain⟨a,b,f,_⟩:=h.get h1;obtain⟨l,k,m,_⟩:=h.get h2;exact p.bu i j a l b k (by rw[<- f,<- m];exact e)
 ·obtain⟨a,b,f,_⟩:=h.get h1;rw[f,h.bn];exact p.bn i a b
 ·obtain⟨a,b,_,t1⟩:=h.get h1;rcases t1 with t1 | t1
  ·rw[t1];exact p.tn i a b
  ·rw[t1.2];exact p.se
 ·obtain⟨a,b,_,t1⟩:=h.get h1;rw[h.ph]at ph;rw[h.se];rcases t1 with t1 | t1
  ·rw[t1];exact p.rs ph i a b
  ·exact t1.2
 ·obtain⟨a,b,_,t1⟩:=h.get h1;rw[h.ph]at ph;rw[h.se]at g;rw[h.at_,h.st];rcases t1 with t1 | t1
  ·exact p.gv ph i a b (by rw[<- t1];exact g)
  ·exact absurd t1.2 g
theorem gk{x u b:Int}{c d:Ce}(h:cellAt { M with used:=u,born:=b,cells:=lO M.cells c } x=some d):(x=jj M.cells/\d=c)\/cellAt M x=some d:=by
 obtain⟨g,h1⟩:=cC.mp h;have h1:(lO M.cells c)[x.toNat]? =some (some d):=h1
 by_cases z:x.toNat=jj M.cells
 ·rw[z,O7]at h1;cases h1;exact .inl ⟨δ,rfl⟩
 ·refine .inr (cC.mpr ⟨g,?_⟩);unfold lO at h1;split at h1
  ·rw[List.getElem?_set_ne (λe=>z e.symm)]at h1;exact h1
  ·rename_i y
   rw[List.getElem?_append]at h1;split at h1
   ·exact h1
   ·rename_i i
    have a:=(cI h1).1;have f:=Zat M.cells;have:x.toNat - M.cells.length<1:=a;omega
theorem TB.put(p:TB w0 M){u:Int}{c:Ce}(hb:c.birth=M.born+1)(f:c.tone=M.sw.sense):TB w0 { M with used:=u,born:=M.born+1,cells:=lO M.cells c }:=by
 have b0:=p.b0;refine⟨λi j d e h1 h2 b=>?_,λi d h1=>?_,by show 0<=M.born+1;omega,p.se,λi d h1=>?_,λph i d h1=>?_,λph i d h1 hp=>?_,p.ww⟩
 ·rcases gk h1 with ⟨z1,a⟩ | z1
  ·rcases gk h2 with ⟨y1,g⟩ | y1
   ·rw[z1,y1]
   ·have:=p.bn j e y1;rw[a,hb]at b;omega
  ·rcases gk h2 with ⟨y1,g⟩ | y1
   ·have:=p.bn i d z1;rw[g,hb]at b;omega
   ·exact p.bu i j d e z1 y1 b
 ·show 1<=d.birth/\d.birth<=M.born+1;rcases gk h1 with ⟨z1,a⟩ | z1
  ·rw[a,hb];omega
  ·have:=p.bn i d z1;omega
 ·rcases gk h1 with ⟨z1,a⟩ | z1
  ·rw[a,f];exact p.se
  ·exact p.tn i d z1
 ·rcases gk h1 with ⟨z1,a⟩ | z1
  ·rw[a];exact f
  ·exact p.rs ph i d z1
 ·rcases gk h1 with ⟨z1,a⟩ | z1
  ·rw[a]at hp;exact absurd f hp
  ·exact p.gv ph i d z1 hp
theorem TB.deed(p:TB w0 M){d:lg}{e:Ev}(h:qj M d=.ok (e,M')):TB w0 M':=by
 cases d with
 | make a s b bulk=>
  simp only[qj]at h;split at h
  ·right;exact(TB.put p (c:=⟨M.born+1,bulk,M.sw.sense,0,List.replicate b.toNat none⟩) rfl rfl).sb eK
  ·cases h
 | get a s t f=>
  simp only[qj]at h;split at h
  ·cases h
  ·split at h
   ·cases h
   ·split at h
    ·cases h
    ·right;exact p.sb eK
 | put a t f s=>
  simp only[qj]at h;split at h
  ·cases h
  ·split at h
   ·cases h
   ·rename_i c hc
    split at h
    ·cases h
    ·right;exact p.sb ((Sb.cell (c':={ c with fl:=c.fl.set f (bw M a s) }) hc rfl (.inl rfl)).trans (Sb.notes _ _))
 | copy a s t=>
  right;exact p.sb eK
 | drop a s=>
  right;exact p.sb eK
 | give a s g t=>
  right;exact p.sb ((Sb.slot _ _ _ _).trans (Sb.notes _ _))
 | write a t l=>
  simp only[qj]at h;split at h
  ·cases h
  ·split at h
   ·cases h
   ·rename_i c hc
    right;exact p.sb (Sb.cell (c':={ c with load:=l }) hc rfl (.inl rfl))
 | read a t=>
  simp only[qj]at h;split at h
  ·cases h
  ·split at h
   ·cases h
   ·right;exact p
 | name a t z=>
  simp only[qj]at h;split at h
  ·cases h
  ·split at h
   ·cases h
   ·right;exact p.sb (Sb.uT rfl rfl rfl rfl rfl rfl rfl)
 | seek a s z=>
  simp only[qj]at h;split at h
  ·cases h
  ·split at h
   ·right;exact p.sb eK
   ·right;exact p.sb ((Sb.slot _ _ _ _).trans (Sb.notes _ _))
theorem TB.step(p:TB w0 M){lb:Int}{lw:AE}{e:Ev}(h:nj lb lw M e M'):TB w0 M':=by
 cases h with
 | begin ph=>
  refine TB.sb ?_ (Sb.nh _ _ _ _);obtain⟨b,f,k,n,l,r,o,m⟩:=p;exact⟨b,f,k,by show 1 - M.sw.sense=0\/1 - M.sw.sense=1;omega,l,λz=>absurd z (show ¬ ("walk":Str)="rest" by decide),λz=>absurd z (show ¬ ("walk":Str)="give" by decide),m⟩
 | walk x g c ph y hc=>
  have a:Sb M { M with sw:={ M.sw with grey:=g,walks:=M.sw.walks+1 } }:=Sb.uT rfl rfl rfl rfl rfl rfl rfl;exact p.sb (a.trans (Sb.notes c.fl _))
 | look N ph y I E=>
  subst E;exact p.sb ((Sb.nh _ _ _ _).trans (Sb.uT rfl rfl rfl rfl rfl rfl rfl))
 | cut q B ph y C F hno=>
  obtain⟨b,f,k,n,l,r,o,m⟩:=p;exact⟨b,f,k,n,l,λz=>absurd z (show ¬ ("give":Str)="rest" by decide),λ_ i c hc _=>Yu (M:=M) hc,m⟩
 | lost q B i x c v ph y C F hx hno hc s=>
  obtain⟨b,f,k,n,l,r,o,m⟩:=p;exact⟨b,f,k,n,l,λz=>absurd z (show ¬ ("lost":Str)="rest" by decide),λz=>absurd z (show ¬ ("lost":Str)="give" by decide),m⟩
 | pass ph lt hp=>
  obtain⟨b,f,k,n,l,r,o,m⟩:=p;refine⟨b,f,k,n,l,r,λ_ i c hc s=>?_,m⟩;have h1:=o ph i c hc s;have h2:i≠M.sw.at':=λz=>s (hp c (by rw[<- z];exact hc));show M.sw.at'+1<=i/\i<M.sw.stop;omega
 | back c ph lt hc s=>
  obtain⟨b,f,k,n,l,r,o,m⟩:=p;have t:∀(u:Int) (w:Sw) (i:Int) (d:Ce),cellAt { M with used:=u,cells:=M.cells.set M.sw.at'.toNat none,sw:=w } i=some d->i≠M.sw.at'/\cellAt M i=some d:=λu w i d hd=>by
   obtain⟨A,h1⟩:=cC.mp hd;have h1:(M.cells.set M.sw.at'.toNat none)[i.toNat]? =some (some d):=h1;obtain⟨J,D⟩:=cC.mp hc
   by_cases z:M.sw.at'.toNat=i.toNat
   ·rw[z,List.getElem?_set_self (by rw[<- z];exact(cI D).1)]at h1;cases h1
   ·rw[List.getElem?_set_ne z]at h1;exact⟨λe=>z (by rw[e]),cC.mpr ⟨A,h1⟩⟩
  refine⟨λi j d e h1 h2 H=>b i j d e (t _ _ i d h1).2 (t _ _ j e h2).2 H,λi d h1=>f i d (t _ _ i d h1).2,k,n,λi d h1=>l i d (t _ _ i d h1).2,λz=>absurd (ph.symm.trans z) ε,λ_ i d h1 hp=>?_,m⟩;obtain⟨n1,n2⟩:=t _ _ i d h1;have K:=o ph i d n2 hp;show M.sw.at'+1<=i/\i<M.sw.stop;omega
 | fin ph lt=>
  obtain⟨b,f,k,n,l,r,o,m⟩:=p;refine⟨b,f,k,n,l,λ_ i c hc=>?_,λz=>absurd z (show ¬ ("rest":Str)="give" by decide),m⟩;refine Decidable.byContradiction λs=>?_;have h1:=o ph i c hc s;omega
 | again ph=>exact p
theorem TB.new{room:Int}{hs:Kf}{w t:Int}:TB w (RB room hs w t):=by
 have e:∀i c,cellAt (RB room hs w t) i=some c->False:=λi c h=>nomatch oA h;exact⟨λi _ c _ h=>(e i c h).elim,λi c h=>(e i c h).elim,Int.le_refl _,.inl rfl,λi c h=>(e i c h).elim,λ_ i c h=>(e i c h).elim,λ_ i c h=>(e i c h).elim,rfl⟩
end
def gA(P:Int->Bool):Au->AE->AE
 | [],acc=>acc
 | none::l,acc=>gA P l acc
 | some b::l,acc=>if P b=true/\b∉acc then gA P l (acc++[b])else gA P l acc
section
variable {M:Wm}
theorem Dr{i:Int}{c:Ce}(h:cellAt M i=some c):jC M i=c.birth:=by unfold jC;rw[h];rfl
theorem Ml(bu:∀i j c d,cellAt M i=some c->cellAt M j=some d->c.birth=d.birth->i=j){acc:AE}(b:∀i∈acc,∃c,cellAt M i=some c){i:Int}{c:Ce}(h:cellAt M i=some c):c.birth∈acc.map (jC M)↔i∈acc:=by
 constructor
 ·intro hm;obtain⟨j,a,e⟩:=List.mem_map.mp hm;obtain⟨d,hd⟩:=b j a;rw[Dr hd]at e;rw[bu i j c d h hd e.symm];exact a
 ·intro hm;rw[<- Dr h];exact List.mem_map_of_mem hm
theorem yC(bu:∀i j c d,cellAt M i=some c->cellAt M j=some d->c.birth=d.birth->i=j){P:Int->Bool}(a:∀i c,cellAt M i=some c->P c.birth=jO M i):∀(l:Au) (acc:AE),(∀i∈acc,∃c,cellAt M i=some c)->gA P (l.map (nD M)) (acc.map (jC M))=(ntP M l acc).map (jC M)
 | [],acc,_=>rfl
 | none::l,acc,h=>yC bu a l acc h
 | some i::l,acc,h=>by
  cases hc:cellAt M i with
  | none=>
   have e:nD M (some i)=none:=by show(cellAt M i).map _=_;rw[hc];rfl
   have z:jO M i=false:=by unfold jO;rw[hc]
   rw[List.map_cons,e];unfold ntP;rw[if_neg (by rw[z];simp)];exact yC bu a l acc h
  | some c=>
   have e:nD M (some i)=some c.birth:=by show(cellAt M i).map _=_;rw[hc];rfl
   rw[List.map_cons,e];unfold ntP gA;rw[a i c hc]
   by_cases z:jO M i=true/\i∉acc
   ·rw[if_pos z,if_pos ⟨z.1,λy=>z.2 ((Ml bu h hc).mp y)⟩];have f:acc.map (jC M)++[c.birth]=(acc++[i]).map (jC M):=by rw[List.map_append,List.map_singleton,Dr hc]
    rw[f];refine yC bu a l (acc++[i]) λx hx=>?_;rcases List.mem_append.mp hx with hx | hx
    ·exact h x hx
    ·rw[List.mem_singleton.mp hx];exact⟨c,hc⟩
   ·rw[if_neg z,if_neg (λy=>z ⟨y.1,λb=>y.2 ((Ml bu h hc).mpr b)⟩)];exact yC bu a l acc h
theorem rQ(P:Int->Bool):∀(l:Au) (acc:AE),(gA (λ_=>true) l acc).filter P=gA P l (acc.filter P)
 | [],acc=>rfl
 | none::l,acc=>rQ P l acc
 | some b::l,acc=>by
  unfold gA
  by_cases h:b∈acc
  ·rw[if_neg (λy=>y.2 h),if_neg (λy=>y.2 (List.mem_filter.mpr ⟨h,y.1⟩))];exact rQ P l acc
  ·rw[if_pos ⟨rfl,h⟩,rQ P l (acc++[b]),List.filter_append];cases hb:P b with
   | true=>
    rw[if_pos ⟨rfl,λy=>h (List.mem_filter.mp y).1⟩];have:[b].filter P=[b]:=by simp[hb]
    rw[this]
   | false=>
    rw[if_neg (λy=>by cases y.1)];have:[b].filter P=[]:=by simp[hb]
    rw[this,List.append_nil]
def Xw(a:Int):List Au->Nat->Au
 | [],_=>[]
 | m::l,k=>if a / 2 ^ k % 2=1 then m++Xw a l db else Xw a l db
theorem Zn9(a:Int)(f:AA->AA):∀(l:List (Str×Au)) (k:Nat),Xw a (l.map λm=>m.2.map f) k=(nhL a l k).map f
 | [],_=>rfl
 | m::l,k=>by
  rw[List.map_cons];unfold Xw nhL;split
  ·rw[List.map_append,Zn9 a f l db]
  ·exact Zn9 a f l db
theorem uH(P:Int->Bool):∀(a b:Au) (acc:AE),gA P (a++b) acc=gA P b (gA P a acc)
 | [],_,_=>rfl
 | none::a,b,acc=>uH P a b acc
 | some x::a,b,acc=>by
  show(if _ then gA P (a++b) _ else gA P (a++b) _)=gA P b (if _ then _ else _);split
  ·exact uH P a b _
  ·exact uH P a b _
end
inductive Zp7(K:aB)(a:AI)(H:Hp)(Q:VK):Prop
 | mk (ns:AE) (_:bN K H a (ns.map V.int)) (_:ns.length<=63) (_:∀H',Q (.bl true) H'):Zp7 K a H Q
def Zje(K:aB):Sp:=λvs H Q E=>∃a,vs=[.ref a]/\Zp7 K a H Q
inductive Zbk(X:Cs)(rf:Rf->AI)(wo:AI)(dd:AI)(H:Hp)(Q:VK):Prop
 | mk (T s A M d) (_:WT H T) (_:s≠0) (_:WJ X H T s A M) (_:A.wo=wo) (_:H dd=some (.tup (dV d))) (_:okD M d) (_:M.cells.length<=900) (_:(M.sw.phase="walk"->M.sw.grey.length<=10000)) (_:(0<=M.tells/\M.tells<4)) (_:M.names.length<=1000) (_:(∀r,qj M d=.error r->∀H',aX H H'->Q .non H')) (_:(∀e M',qj M d=.ok (e,M')->∀H' T' A' a,gD s H H' T T'->WJ X H' T' s A' M'->A'.wo=wo->EvN H H' T' s a e->Q (.ref a) H')):Zbk X rf wo dd H Q
def Zbu(X:Cs)(rf:Rf->AI):Sp:=λvs H Q E=>∃wo dd,vs=[.ref wo,.ref dd]/\Zbk X rf wo dd H Q
section
theorem Zba{wo dd CE g f c:AI}(h:rf .empty=CE)(B:rf .oN=g)(v:rf .full=f)(t:rf .Ry=c)(q:Zbk X rf wo dd H Q):
  vK CE f g c (ZBa X rf) ξ [↑wo,↑dd,none] H:=by
 obtain⟨T,s,A,M,d,w,i,j,rfl,x,od,hc,z,tl,nm,h1,h2⟩:=q;unfold vK;apply⟨_,dd,rfl,T,s,A,M,d,trivial,w,i,j,rfl,x,od,hc,z,tl,nm,λr l b sm=>?_,λe p C b o m a st k u y=>?_⟩
 ·refine⟨?_,?_⟩
  ·cases r
   ·exact .inr (.inr (.inl (by rw[v])))
   ·exact .inl (by rw[h])
   ·exact .inr (.inl (by rw[B]))
   ·exact .inr (.inr (.inr (by rw[t])))
  ·apply h1 r l b sm
 ·apply h2 e p C b o m a st k u y
end
def RwO(H:Hp)(l:AI)(a:List Au):Prop:=∃ls:AF,H l=some (.lst (ls.map V.ref))/\ls.length=a.length/\∀(j:Nat) r x,ls[j]? =some r->a[j]? =some x->H r=some (.lst (x.map oV))
theorem RwO.same{H H':Hp}{l:AI}{a:List Au}(s:aX H H')(h:RwO H l a):RwO H' l a:=by
 obtain⟨ls,h1,h2,b⟩:=h;exact⟨ls,s _ _ h1,h2,λj r x c d=>s _ _ (b j r x c d)⟩
def allB:Int->Bool:=λ_=>true
inductive Ug(K:aB)(l:AI)(bits:Int)(H:Hp)(Q:VK):Prop
 | mk (rows) (_:RwO H l rows) (_:rows.length<=30) (_:(∀x∈rows,x.length<=100)) (_:∀a H',aX H H'->H a=none->H' a=some (.lst ((gA allB (Xw bits rows 0) []).map V.int))->Q (.ref a) H'):Ug K l bits H Q
def Uo(K:aB):Sp:=λvs H Q E=>∃l a,vs=[.ref l,.int a]/\Ug K l a H Q
theorem Zdd(b:Int)(m:Au):∀(l:List Au) (k:Nat),Xw b (l++[m]) k=Xw b l k++if b / 2 ^ (k+l.length) % 2=1 then m else []
 | [],k=>by
  show(if b / 2 ^ k % 2=1 then m++[]else [])=_;rw[List.append_nil];rfl
 | a::l,k=>by
  have e:k+(a::l).length=k+1+l.length:=by rw[List.length_cons];omega
  rw[e,List.cons_append];unfold Xw;rw[Zdd b m l db];split
  ·rw[List.append_assoc]
  ·rfl
theorem qg(P:Int->Bool):∀(l:Au) (acc:AE),(gA P l acc).length<=acc.length+l.length
 | [],acc=>Nat.le_refl _
 | none::l,acc=>by have:=qg P l acc;rw[List.length_cons];show(gA P l acc).length<=_;omega
 | some b::l,acc=>by
  unfold gA;rw[List.length_cons];split
  ·have:=qg P l (acc++[b]);rw[List.length_append,List.length_singleton]at this;omega
  ·have:=qg P l acc;omega
theorem ZV(a:Int)(B:Nat):∀(l:List Au) (k:Nat),(∀x∈l,x.length<=B)->(Xw a l k).length<=l.length * B
 | [],_,_=>Nat.zero_le _
 | m::l,k,h=>by
  have h1:=ZV a B l db λx hx=>h x (by simp[hx]);have h2:=h m ζ;rw[List.length_cons,Nat.succ_mul];unfold Xw;split
  ·rw[List.length_append];omega
  ·omega
theorem Zfu(P:Int->Bool)(a:Au)(x:AA)(acc:AE):gA P (a++[x]) acc=gA P [x] (gA P a acc):=uH P a [x] acc
theorem Zal{b:Int}{l:AE}:inV (.int b) (l.map V.int)=decide (b∈l):=Ze6
section
theorem V5{l:AI}{d:Int}(q:Ug K l d H Q):Bp K ξ [↑l,some (.int d),none,none,none] H:=by
 obtain⟨e,⟨ls,o1,hl,o2⟩,P,g,q⟩:=q;unfold Bp;apply⟨aQ ζ,λa I=>?_⟩;generalize zz:upd H a _=H1;obtain⟨N,L⟩:=nwO I zz;have L:H1 a=some (.lst (([]:AE).map V.int)):=L;apply eU (bN.of (N _ _ o1)) ?_;rw[aR,hl];exists _,rfl,δ,δ;refine forR (λk j s=>∃B p,j=[↑l,some (.int d),↑a,B,p]/\aX H s/\s a=some (.lst ((gA allB (Xw d (e.take k) 0) []).map V.int))) ⟨_,_,rfl,N,L⟩ ?_ ?_
 ·rintro k j s hk ⟨B,p,rfl,u,t⟩;have hk:k<e.length:=δ
  obtain⟨x,hx⟩:∃x,e[k]? =some x:=⟨_,bG hk⟩;obtain⟨r,hr⟩:∃r,ls[k]? =some r:=⟨_,bG δ⟩;have E:e.take db=e.take k++[x]:=by rw[List.take_add_one,hx];rfl
  have w:(e.take k).length=k:=by rw[List.length_take];omega
  have or:=o2 k r x hr hx;have R:=g x (List.mem_of_getElem? hx);have J:=ZV d 100 (e.take k) 0 λy hy=>g y (List.mem_of_mem_take hy);rw[w]at J;generalize h:gA allB (Xw d (e.take k) 0) []=acc at t;have T:acc.length<=k * 100:=by
   rw[<- h];have:=qg allB (Xw d (e.take k) 0) [];rw[List.length_nil]at this;omega
  have S:((0:Int)+(k:Int)).toNat=k:=δ
  apply fD (bN.of (u _ _ o1)) (v:=.ref r) ?_ ?_
  ·rw[Int.zero_add];exact gq (by rw[bL,hr];rfl)
  refine⟨r,rfl,⟨_,bN.of (u _ _ or)⟩,forL (x.map oV) (λi j A=>∃p,j=[↑l,some (.int d),↑a,some (.int ((0:Int)+k)),p]/\aX H A/\A a=some (.lst ((gA allB (if d / 2 ^ k % 2=1 then x.take i else []) acc).map V.int))) ⟨_,rfl,u,?_⟩ (by rintro _ _ _ _ ⟨_,_,z,_⟩;exact bN.of (z _ _ or)) ?_ ?_⟩
  ·rw[List.take_zero];split<;>exact t
  ·rintro i y j A hy ⟨D,rfl,m,f⟩;rw[bL]at hy;obtain⟨b,hb,rfl⟩:=Option.map_eq_some_iff.mp hy;have M:x.take cy=x.take i++[b]:=by rw[List.take_add_one,hb];rfl
   have U:i<x.length:=(cI hb).1;ext;rw[S,Zp2];refine mG bp bp
   ·rw[if_pos z]at f;rw[if_pos z,M,Zfu];generalize C:gA allB (x.take i) acc=ac2 at f;have O:ac2.length<=k * 100+100:=by
     rw[<- C];have h1:=qg allB (x.take i) acc;rw[List.length_take]at h1;omega
    cases b with
    | none=>
     rw[show oV none=V.non from rfl];apply⟨_,rfl,m,f⟩
    | some b=>
     rw[show oV (some b)=V.int b from rfl];exists a,_,rfl,.inl (bN.of f),rfl,qi _;rw[Zal]
     by_cases hm:b∈ac2
     ·have F:gA allB [some b] ac2=ac2:=by show(if allB b=true/\b∉ac2 then _ else _)=_;rw[if_neg (λy=>y.2 hm)];rfl
      rw[show(if true=true then !decide (b∈ac2)else decide (b∈ac2))=false from by simp[hm],F];apply⟨_,rfl,m,f⟩
     ·have F:gA allB [some b] ac2=ac2++[b]:=by show(if allB b=true/\b∉ac2 then _ else _)=_;rw[if_pos ⟨rfl,hm⟩];rfl
      rw[show(if true=true then !decide (b∈ac2)else decide (b∈ac2))=true from by simp[hm],F];exists .inl ⟨rfl,_,bN.of f⟩;exists a,_,_,rfl,rfl,f,?_
      ·rw[aR];exact Nat.lt_of_le_of_lt (show _<=4000 by omega) ε
      rw[show ac2.map V.int++[V.int b]=(ac2++[b]).map V.int from by rw[List.map_append];rfl];apply⟨_,rfl,λc o hc=>by rw[aD (aF hc I)];exact m _ _ hc,aq⟩
   ·rw[if_neg z]at f;rw[if_neg z];apply⟨_,rfl,m,f⟩
  ·rintro j A ⟨D,rfl,m,f⟩;rw[aR,List.take_length]at f;have:gA allB (Xw d (e.take db) 0) []=gA allB (if d / 2 ^ k % 2=1 then x else []) acc:=by
    rw[E,Zdd,uH,h,Nat.zero_add,w]
   refine⟨_,_,rfl,m,?_⟩;rw[this];exact f
 ·rintro j s ⟨B,p,rfl,u,t⟩;rw[List.take_of_length_le δ]at t;apply q a s u I t
end
def CW(H:Hp)(d:AI)(f:Int->Option V)(k:Nat):Prop:=∃a:List (L2.Key×V),H d=some (.dK a)/\a.length<=k/\∀b:Int,jN a (Sum.inl b)=f b
theorem CW.get{H:Hp}{d:AI}{f:Int->Option V}{k:Nat}(h:CW H d f k){b:Int}{v:V}(e:f b=some v):pK H d (.int b) (some v):=by
 obtain⟨a,h1,_,h2⟩:=h;have:=pK.k (k:=Sum.inl b) h1;rw[h2 b,e]at this;exact this
theorem CW.put{H:Hp}{d:AI}{f:Int->Option V}{k:Nat}(h:CW H d f k)(hk:k<=100000)(b:Int)(v:V):∃H',Wb H d (.int b) v H'/\CW H' d (λx=>if x=b then some v else f x) db/\∃o,H'=upd H d o:=by
 obtain⟨a,h1,c,h2⟩:=h;refine⟨_,Wb.k (k:=Sum.inl b) (v:=v) h1 (Nat.lt_of_le_of_lt c (Nat.lt_of_le_of_lt hk ε)),⟨_,aq,?_,λx=>?_⟩,_,rfl⟩
 ·have:=yS a (Sum.inl b) v;omega
 ·rw[Zli,h2 x];dsimp only
  by_cases e:x=b
  ·rw[if_pos e,if_pos (by rw[e])]
  ·rw[if_neg e,if_neg (λz=>e (Sum.inl.inj z))]
theorem CW.same{H H':Hp}{d:AI}{f:Int->Option V}{k:Nat}(s:aX H H')(h:CW H d f k):CW H' d f k:=by
 obtain⟨a,h1,b,h2⟩:=h;exact⟨a,s _ _ h1,b,h2⟩
def stL(S:Sw):AE:=[S.sense,S.turn,S.looked,S.walks,S.looks,S.passes]
inductive Ua(X:Cs)(sw:AI)(H:Hp)(Q:VK):Prop
 | mk (T s A M) (_:WJ X H T s A M) (_:A.sw=sw) (_:M.sw.grey.length<=10000) (_:∀a H',aX H H'->H a=none->H' a=some (.lst ((stL M.sw).map V.int))->Q (.ref a) H'):Ua X sw H Q
def rA(X:Cs):Sp:=λvs H Q E=>∃sw,vs=[.ref sw]/\Ua X sw H Q
structure Tc where
 p:Int
 b:Int
 bulk:Int
 load:Int
 fs:Au
 tone:Str
def Tc1(H:Hp)(r f:AI)(x:Tc):Prop:=H r=some (.tup [.int x.p,.int x.b,.int x.bulk,.int x.load,.ref f,.str x.tone])/\H f=some (.lst (x.fs.map oV))
def CtO(H:Hp)(l:AI)(a:List Tc):Prop:=∃ls:AF,H l=some (.lst (ls.map V.ref))/\ls.length=a.length/\∀(j:Nat) r x,ls[j]? =some r->a[j]? =some x->∃f,Tc1 H r f x
theorem CtO.same{H H':Hp}{l:AI}{a:List Tc}(s:aX H H')(h:CtO H l a):CtO H' l a:=by
 obtain⟨ls,h1,h2,b⟩:=h;refine⟨ls,s _ _ h1,h2,λj r x d e=>?_⟩;obtain⟨f,z1,c⟩:=b j r x d e;exact⟨f,s _ _ z1,s _ _ c⟩
inductive JW(K:aB)(l':AI)(l:AI)(d:AI)(H:Hp)(Q:VK):Prop
 | mk (rows Zcg:List Tc) (f:Int->Option V) (k:Nat) (_:CtO H l' Zcg) (_:CtO H l rows) (_:CW H d f k) (_:Zcg.length=rows.length) (_:rows.length<=1000) (_:(∀(j:Nat) x x',rows[j]? =some x->Zcg[j]? =some x'->x'.p=x.p/\x'.b=x.b/\x'.bulk=x.bulk/\x'.load=x.load/\x'.fs=x.fs/\f x.b=some (.str x'.tone))) (_:∀H',aX H H'->Q (.bl true) H'):JW K l' l d H Q
def J9(K:aB):Sp:=λvs H Q E=>∃a l d,vs=[.ref a,.ref l,.ref d]/\JW K a l d H Q
theorem Ziw(l:Au):(l.map oV).all lW=true:=by
 rw[List.all_eq_true];intro v hv;obtain⟨x,_,rfl⟩:=List.mem_map.mp hv;exact Zr0 x
section
theorem V1{sw:AI}(c:lq K X)(q:Ua X sw H Q):Bk K vB ξ [↑sw,none,none] H:=by
 obtain⟨T,s,A,M,j,rfl,I,q⟩:=q;obtain⟨F,os⟩:=j.js.os;have og:=j.js.og;unfold Bk;apply aJ os c.cS c.n1 jF ?_;apply aJ os c.cS c.n5 mL ?_;apply aJ os c.cS c.n4 eV ?_;apply⟨aQ ζ,λr n1=>?_⟩;generalize zz:upd H r _=H1;obtain⟨i,E⟩:=nwO n1 zz;have d:=i _ _ os;apply aJ d c.cS c.n8 pH ?_;apply aJ d c.cS c.n9 lG ?_;apply aJ d c.cS c.n10 nM ?_;apply⟨aQ ζ,λw n2=>?_⟩;generalize zz:upd H1 w _=H2;obtain⟨o,C⟩:=nwO n2 zz;have p:=o _ _ E;apply⟨r,w,_,_,rfl,rfl,p,C,aQ ζ,λa n3=>?_⟩;rw[show([V.int M.sw.sense,.int M.sw.turn,.int M.sw.looked]++[V.int M.sw.walks,.int M.sw.looks,.int M.sw.passes])=(stL M.sw).map V.int from rfl];generalize zz:upd H2 a _=H3;obtain⟨B,u⟩:=nwO n3 zz;have l:=i.trans (o.trans B);have D:H a=none:=i.free (o.free n3);apply aJ (l _ _ os) c.cS c.n3 iZ ?_;apply⟨a,A.gr,_,_,rfl,rfl,u,l _ _ og,by rw[aR,aR];exact aQ (by show 6+_<=_;omega),λb n4=>?_⟩;rw[<- List.map_append];generalize zz:upd H3 b _=H4;obtain⟨t,z⟩:=nwO n4 zz;have h:=t _ _ u;have g:=l.trans t;refine⟨b,rfl,⟨_,bN.of z⟩,forL ((stL M.sw++M.sw.grey).map V.int) (λ_ m f=>∃v,m=[↑A.sw,↑a,v]/\f=H4) ⟨_,rfl,rfl⟩ (by rintro _ _ _ _ ⟨_,_,e⟩;rw[e];exact bN.of z) ?_ ?_⟩
 ·rintro k x m f hk ⟨v,rfl,rfl⟩;obtain⟨y,_,rfl⟩:=List.mem_map.mp (List.mem_of_getElem? hk);exists _,rfl;apply⟨_,rfl,rfl⟩
 ·rintro m f ⟨v,rfl,rfl⟩;apply q a f g D h
theorem TV{C l d:AI}(q:JW K C l d H Q):qG K ξ [↑C,↑l,↑d,none] H:=by
 obtain⟨u,S,f,kk,⟨o,s,R,F⟩,⟨ls,o1,hl,o2⟩,om,I,hb,hx,q⟩:=q;unfold qG;apply M7 s ?_;apply eU (bN.of s) ?_;apply eU (bN.of o1) ?_;rw[aR,aR];apply qT (λz=>absurd (by rw[R,hl,I]) z) aT;apply eU (bN.of o1) ?_;rw[aR];exists _,rfl,δ,δ;refine forR (λk P t=>∃E,P=[↑C,↑l,↑d,E]/\aX H t) ⟨_,rfl,λ_ _ h=>h⟩ ?_ ?_
 ·rintro k P t hk ⟨E,rfl,j⟩;have hk:k<ls.length:=δ
  obtain⟨r,hr⟩:∃r,ls[k]? =some r:=⟨_,bG hk⟩;obtain⟨B,A⟩:∃r,o[k]? =some r:=⟨_,bG δ⟩;obtain⟨x,ex⟩:∃x,u[k]? =some x:=⟨_,bG δ⟩;obtain⟨N,v⟩:∃x,S[k]? =some x:=⟨_,bG δ⟩;obtain⟨M,t1,t2⟩:=o2 k r x hr ex;obtain⟨c,e,w⟩:=F k B N A v;obtain⟨e1,Z,e3,e4,e5,e6⟩:=hx k x N ex v;rw[e1,Z,e3,e4]at e;rw[e5]at w;have Y:∀{y:Hp},aX H y->bN K y l (ls.map V.ref):=λz=>bN.of (z _ _ o1);have g:∀{y:Hp},aX H y->bN K y C (o.map V.ref):=λz=>bN.of (z _ _ s);have T:atI (ls.map V.ref) ((0:Int)+(k:Int))=↑r:=by rw[Int.zero_add];exact gq (by rw[bL,hr];rfl)
  have i:atI (o.map V.ref) ((0:Int)+(k:Int))=↑B:=by rw[Int.zero_add];exact gq (by rw[bL,A];rfl)
  apply fD (g j) i ?_;apply Ho (j _ _ e) ?_;apply fD (g j) i ?_;exists B,_,rfl,.inr (dR.of (j _ _ e));apply qT dS aT;apply fD (g j) i ?_;apply⟨B,_,rfl,dR.of (j _ _ e),(show ¬ (HT.lK 6 0 none=0/\HT.lK 6 6 (some 5)=6) by decide),λO D=>?_⟩;have W:=aH D (.tup [.int x.p,.int x.b,.int x.bulk,.int x.load,.ref c]);have X:upd t O (.tup [.int x.p,.int x.b,.int x.bulk,.int x.load,.ref c]) O=some (.tup [.int x.p,.int x.b,.int x.bulk,.int x.load,.ref c]):=aq;rw[show Ae [V.int x.p,.int x.b,.int x.bulk,.int x.load,.ref c,.str N.tone] none (some 5)=[.int x.p,.int x.b,.int x.bulk,.int x.load,.ref c]from rfl];generalize upd t O (.tup [.int x.p,.int x.b,.int x.bulk,.int x.load,.ref c])=H3 at W X ⊢;have m:=j.trans W;apply fD (Y m) T ?_;apply⟨r,_,rfl,dR.of (m _ _ t1),(show ¬ (HT.lK 6 0 none=0/\HT.lK 6 6 (some 5)=6) by decide),λp2 J=>?_⟩;rw[show Ae [V.int x.p,.int x.b,.int x.bulk,.int x.load,.ref M,.str x.tone] none (some 5)=[.int x.p,.int x.b,.int x.bulk,.int x.load,.ref M]from rfl];generalize zz:upd H3 p2 _=H4;obtain⟨U,g4⟩:=nwO J zz;have L:=U _ _ X;have a:=m.trans U;refine Zit (.inr ⟨dR.of L,dR.of g4⟩) (.cons (.inl ⟨rfl,rfl⟩) (.cons (.inl ⟨rfl,rfl⟩) (.cons (.inl ⟨rfl,rfl⟩) (.cons (.inl ⟨rfl,rfl⟩) (.cons (.inr ⟨c,M,rfl,rfl,.inr ⟨_,_,.inl ⟨bN.of (a _ _ w),bN.of (a _ _ t2)⟩,HX (Ziw _)⟩⟩) .nil))))) ?_;apply fD (g a) i ?_;exists B,_,5,_,rfl,rfl,dR.of (a _ _ e),rfl;apply fD (Y a) T ?_;exists r,_,1,_,rfl,rfl,dR.of (a _ _ t1),rfl;refine⟨d,_,rfl,(om.same a).get e6,?_⟩;apply qT dS aT;apply⟨_,rfl,a⟩
 ·rintro P t ⟨E,rfl,j⟩;apply q t j
end
def UJ(M:Wm)(t:Int×Ce):Tc:=⟨t.1,t.2.birth,t.2.bulk,t.2.load,t.2.fl.map (nD M),jP M t.1 t.2⟩
def dY(M:Wm):List Tc:=(iK M).map (UJ M)
section
variable {M M':Wm}{w0:Int}
theorem lU{t:Int×Ce}(h:t∈iK M):cellAt M t.1=some t.2:=by
 obtain⟨k,hk,e⟩:=List.getElem_of_mem h;obtain⟨a,h1⟩:=Zhz (M:=M) (j:=k) (t:=t) (by rw[bG hk,e]);exact cC.mpr ⟨a,h1⟩
theorem pC{i:Int}{c:Ce}(h:cellAt M i=some c):(i,c)∈iK M:=by
 obtain⟨a,h1⟩:=cC.mp h;unfold iK;refine List.mem_filterMap.mpr ⟨i.toNat,List.mem_range.mpr (cI h1).1,?_⟩;rw[h1];show some (((i.toNat:Nat):Int),c)=some (i,c);rw[show((i.toNat:Nat):Int)=i from δ]
end
def CtF(H0 H:Hp)(l:AI)(a:List Tc):Prop:=∃ls:AF,H l=some (.lst (ls.map V.ref))/\ls.length=a.length/\(∀(j:Nat) r x,ls[j]? =some r->a[j]? =some x->∃f,Tc1 H r f x/\H0 f=none/\H0 r=none)/\H0 l=none
def RwF(H0 H:Hp)(l:AI)(a:List Au):Prop:=∃ls:AF,H l=some (.lst (ls.map V.ref))/\ls.length=a.length/\(∀(j:Nat) r x,ls[j]? =some r->a[j]? =some x->H r=some (.lst (x.map oV)))/\H0 l=none/\∀r∈ls,H0 r=none
def Nw(H0 H H':Hp):Prop:=∀b o,H0 b=none->H b=some o->H' b=some o
theorem CtF.nw{H0 H H':Hp}{l:AI}{a:List Tc}(k:Nw H0 H H')(h:CtF H0 H l a):CtF H0 H' l a:=by
 obtain⟨ls,h1,h2,i,h4⟩:=h;refine⟨ls,k _ _ h4 h1,h2,λj r x e d=>?_,h4⟩;obtain⟨f,⟨z1,g⟩,b,c⟩:=i j r x e d;exact⟨f,⟨k _ _ c z1,k _ _ b g⟩,b,c⟩
theorem CtF.o{H0 H:Hp}{l:AI}{a:List Tc}(h:CtF H0 H l a):CtO H l a:=by
 obtain⟨ls,h1,h2,b,_⟩:=h;refine⟨ls,h1,h2,λj r x c d=>?_⟩;obtain⟨f,z,_⟩:=b j r x c d;exact⟨f,z⟩
theorem RwF.nw{H0 H H':Hp}{l:AI}{a:List Au}(k:Nw H0 H H')(h:RwF H0 H l a):RwF H0 H' l a:=by
 obtain⟨ls,h1,h2,c,h4,h5⟩:=h;exact⟨ls,k _ _ h4 h1,h2,λj r x b d=>k _ _ (h5 r (List.mem_of_getElem? b)) (c j r x b d),h4,h5⟩
theorem RwF.o{H0 H:Hp}{l:AI}{a:List Au}(h:RwF H0 H l a):RwO H l a:=by
 obtain⟨ls,h1,h2,b,_⟩:=h;exact⟨ls,h1,h2,b⟩
theorem Nw.same{H0 H H':Hp}(s:aX H H'):Nw H0 H H':=λb o _ h=>s b o h
theorem Zi4{K:aB}{H:Hp}{l f:AI}{a:List Au}(h:RwO H l a)(h':RwO H f a):∃xs n,bN K H l xs/\bN K H f n/\Al (Dq K H 6) xs n:=by
 obtain⟨ls,h1,h2,q⟩:=h;obtain⟨o,c,b,e⟩:=h';refine⟨_,_,bN.of h1,bN.of c,Zjb (by rw[aR,aR,h2,b]) λi u v k j=>?_⟩;rw[bL]at k j;obtain⟨r,hr,rfl⟩:=Option.map_eq_some_iff.mp k;obtain⟨m,d,rfl⟩:=Option.map_eq_some_iff.mp j;have g:i<a.length:=by rw[<- h2];exact(cI hr).1
 have z:=q i r a[i] hr (bG g);have p:=e i m a[i] d (bG g);exact .inr ⟨r,m,rfl,rfl,.inr ⟨_,_,.inl ⟨bN.of z,bN.of p⟩,HX (Ziw _)⟩⟩
inductive Zrf(X:Cs)(wo:AI)(way:Int)(H:Hp)(Q:VK):Prop
 | mk (T A M hs k) (_:WT H T) (_:WJ X H T 1 A M) (_:A.wo=wo) (_:KW M hs k) (_:TB way M) (_:HsB hs) (_:k<=900) (_:M.sw.phase≠"lost") (_:∀H' T' A' M',Kp H H' T T'->WT H' T'->WJ X H' T' 1 A' M'->A'.wo=wo->KW M' hs k->TB way M'->Q (.bl true) H'):Zrf X wo way H Q
def iJ(a:List Tc)(b:Int):Option V:=(a.reverse.find? λx=>decide (x.b=b)).map λx=>V.str x.tone
theorem Zf6(a:List Tc)(x:Tc)(b:Int):iJ (a++[x]) b=if b=x.b then some (.str x.tone)else iJ a b:=by
 unfold iJ;rw[List.reverse_append,List.reverse_singleton,List.singleton_append,List.find?_cons]
 by_cases e:b=x.b
 ·rw[if_pos e,decide_eq_true e.symm];rfl
 ·rw[if_neg e,decide_eq_false (λz=>e z.symm)]
def u9(z:Str)(f:Int->Option V)(bs:AE)(b:Int):Option V:=if b∈bs then some (.str z)else f b
theorem RN(z:Str)(f:Int->Option V)(bs:AE)(b0 b:Int):u9 z f (bs++[b0]) b=if b=b0 then some (.str z)else u9 z f bs b:=by
 unfold u9
 by_cases e:b=b0
 ·rw[if_pos e,if_pos (by simp[e])]
 ·rw[if_neg e]
  by_cases a:b∈bs
  ·rw[if_pos a,if_pos (List.mem_append.mpr (.inl a))]
  ·rw[if_neg a,if_neg (λy=>?_)];rcases List.mem_append.mp y with y | y
   ·exact a y
   ·exact e (by simpa using y)
def cB(a:List Tc):AE:=(a.filter λ(x:Tc)=>decide (x.tone=("pale":Str))).map (·.b)
def inP(l:AE)(b:Int):Bool:=decide (b∈l)
theorem QM(a:List Tc):(cB a).length<=a.length:=by
 unfold cB;rw[aR];exact List.length_filter_le _ _
inductive Zbf(K:aB)(l:AI)(m:AI)(z:Str)(H:Hp)(Q:VK):Prop
 | mk (rows:List Tc) (bs:AE) (_:CtO H l rows) (_:rows.length<=1000) (_:H m=some (.lst (bs.map V.int))) (_:bs.length<=4000) (_:∀a H',aX H H'->H a=none->CW H' a (u9 z (iJ rows) bs) 5000->Q (.ref a) H'):Zbf K l m z H Q
def Pu(K:aB):Sp:=λvs H Q E=>∃l m z,vs=[.ref l,.ref m,.str z]/\Zbf K l m z H Q
section
theorem Zb2{l m:AI}{z:Str}(q:Zbf K l m z H Q):Fv K ξ [↑l,↑m,some (.str z),none,none,none] H:=by
 obtain⟨a,bs,⟨ls,o1,hl,o2⟩,hb,om,O,q⟩:=q;unfold Fv;ext;intro d nd;have E:=aH nd (.dK []);have J:CW (upd H d (.dK [])) d (iJ []) 0:=⟨[],aq,Nat.le_refl _,λb=>rfl⟩;generalize upd H d (.dK [])=P at E J ⊢;apply⟨l,rfl,⟨_,bN.of (E _ _ o1)⟩,forL (ls.map V.ref) (λi k w=>∃v,k=[↑l,↑m,some (.str z),↑d,v,none]/\aX H w/\CW w d (iJ (a.take i)) i) ⟨_,rfl,E,J⟩ (by rintro _ _ _ _ ⟨_,_,y,_⟩;exact bN.of (y _ _ o1)) ?_ ?_⟩
 ·rintro i y k w hy ⟨v,rfl,t,A⟩;rw[bL]at hy;obtain⟨r,hr,rfl⟩:=Option.map_eq_some_iff.mp hy;have L:i<ls.length:=(cI hr).1;obtain⟨x,hx⟩:∃x,a[i]? =some x:=⟨_,bG δ⟩;have h:a.take cy=a.take i++[x]:=by rw[List.take_add_one,hx];rfl
  obtain⟨R,f,_⟩:=o2 i r x hr hx;have f:=t _ _ f;exists r,_,5,_,rfl,rfl,dR.of f,rfl;exists r,_,1,_,rfl,rfl,dR.of f,rfl;obtain⟨C,F,⟨e,j,p,g⟩,o,I⟩:=A.put δ x.b (.str x.tone);refine⟨d,C,rfl,F,_,rfl,λc N hc=>?_,e,j,p,λb=>?_⟩
  ·rw[I,aD (aF hc nd)];exact t _ _ hc
  ·rw[g b,h,Zf6]
 ·rintro k w ⟨v,rfl,t,A⟩;rw[aR,List.take_of_length_le δ]at A;apply⟨m,rfl,⟨_,bN.of (t _ _ om)⟩,forL (bs.map V.int) (λi k u=>∃B,k=[↑l,↑m,some (.str z),↑d,v,B]/\aX H u/\CW u d (u9 z (iJ a) (bs.take i)) (ls.length+i)) ⟨_,rfl,t,?_⟩ (by rintro _ _ _ _ ⟨_,_,y,_⟩;exact bN.of (y _ _ om)) ?_ ?_⟩
  ·obtain⟨e,j,p,g⟩:=A;exact⟨e,j,δ,λb=>by rw[g b];unfold u9;rw[if_neg ζ]⟩
  ·rintro i y k u hy ⟨B,rfl,D,M⟩;rw[bL]at hy;obtain⟨b0,s,rfl⟩:=Option.map_eq_some_iff.mp hy;have L:i<bs.length:=(cI s).1;have h:bs.take cy=bs.take i++[b0]:=by rw[List.take_add_one,s];rfl
   ext;obtain⟨C,F,⟨e,j,p,g⟩,o,I⟩:=M.put δ b0 (.str z);refine⟨d,C,rfl,F,_,rfl,λc N hc=>?_,e,j,p,λb=>?_⟩
   ·rw[I,aD (aF hc nd)];exact D _ _ hc
   ·rw[g b,h,RN]
  ·rintro k u ⟨B,rfl,D,e,j,p,g⟩;rw[aR,List.take_length]at g;rw[aR]at p;apply q d u D nd ⟨e,j,δ,g⟩
end
theorem um{M:Wm}:(iK M).length<=M.cells.length:=by
 unfold iK;exact Nat.le_trans (List.length_filterMap_le _ _) (by rw[List.length_range];exact Nat.le_refl _)
theorem mJ{M:Wm}:(dY M).length=(iK M).length:=by unfold dY;rw[aR]
section
variable {M M':Wm}{w0:Int}
theorem Zk7(ph:M.sw.phase="walk")(i:Int)(c:Ce):jP M i c=if c.tone=M.sw.sense then(if i∈M.sw.grey then("grey":Str)else("dark":Str))else("pale":Str):=by
 unfold jP;rw[ph,if_neg (show ¬ ("walk":Str)="rest" by decide),if_neg (show ¬ ("walk":Str)="give" by decide)]
theorem nT(ph:M.sw.phase="walk"){i:Int}{c:Ce}:jP M i c=("pale":Str)↔c.tone≠M.sw.sense:=by
 rw[Zk7 ph]
 by_cases e:c.tone=M.sw.sense
 ·rw[if_pos e];constructor
  ·intro z;split at z
   ·exact absurd z ε
   ·exact absurd z ε
  ·exact λz=>absurd e z
 ·rw[if_neg e];exact⟨λ_=>e,λ_=>rfl⟩
theorem TB.Zhy(p:TB w0 M){t u:Int×Ce}(b:t∈iK M)(hu:u∈iK M)(e:t.2.birth=u.2.birth):t=u:=by
 have h1:=lU b;have h2:=lU hu;have a:=p.bu t.1 u.1 t.2 u.2 h1 h2 e;rw[a,h2]at h1;exact Prod.ext a (Option.some.inj h1).symm
theorem TB.Zsk(p:TB w0 M){t:Int×Ce}(c:t∈iK M):iJ bf t.2.birth=some (.str (jP M t.1 t.2)):=by
 unfold iJ;cases a:(dY M).reverse.find? λ(x:Tc)=>decide (x.b=t.2.birth)with
 | none=>
  have:=List.find?_eq_none.mp a (UJ M t) (List.mem_reverse.mpr (List.mem_map.mpr ⟨t,c,rfl⟩));exact absurd (decide_eq_true rfl) this
 | some x=>
  have h1:x.b=t.2.birth:=of_decide_eq_true (List.find?_some (p:=λ(x:Tc)=>decide (x.b=t.2.birth)) a);obtain⟨u,hu,rfl⟩:=List.mem_map.mp (List.mem_reverse.mp (List.mem_of_find?_eq_some a));rw[p.Zhy hu c h1];rfl
theorem TB.Zrv(p:TB w0 M)(ph:M.sw.phase="walk"){i:Int}{c:Ce}(h:cellAt M i=some c):inP (cB bf) c.birth=jO M i:=by
 unfold inP jO;rw[h];show decide _=decide _;refine decide_eq_decide.mpr ⟨λz=>?_,λz=>?_⟩
 ·obtain⟨x,hx,e⟩:=List.mem_map.mp z;obtain⟨h1,h2⟩:=List.mem_filter.mp hx;obtain⟨u,hu,rfl⟩:=List.mem_map.mp h1;have a:=p.Zhy hu (pC h) e;subst a;exact(nT ph).mp (of_decide_eq_true h2)
 ·exact List.mem_map.mpr ⟨UJ M (i,c),List.mem_filter.mpr ⟨List.mem_map.mpr ⟨(i,c),pC h,rfl⟩,decide_eq_true ((nT ph).mpr z)⟩,rfl⟩
end
theorem Zcr:∀a:List Tc,a.filterMap (λ(x:Tc)=>if x.tone=("pale":Str)then some (V.int x.b)else none)=(cB a).map V.int
 | []=>rfl
 | x::l=>by
  have c:=Zcr l;unfold cB at c ⊢;rw[List.filterMap_cons,List.filter_cons]
  by_cases e:x.tone=("pale":Str)
  ·rw[if_pos e,if_pos (decide_eq_true e),List.map_cons,List.map_cons,<- c]
  ·rw[if_neg e,if_neg (λz=>e (of_decide_eq_true z))];exact c
theorem Pj(P:Int->Bool):∀l:AE,l.filterMap (λb=>if P b=true then some (V.int b)else none)=(l.filter P).map V.int
 | []=>rfl
 | x::l=>by
  rw[List.filterMap_cons,List.filter_cons]
  by_cases e:P x=true
  ·rw[if_pos e,if_pos e,List.map_cons,<- Pj P l]
  ·rw[if_neg e,if_neg e];exact Pj P l
def JM(M:Wm):AE:=gA (inP (cB bf)) (Xw bg (rowsOf M) 0) []
def DX(M:Wm):Bool:=decide (bJ M≠0/\(M.w=1\/JM M≠[]))
inductive Zbn(way:Int)(lo:Int)(h:Int)(H:Hp)(Q:VK):Prop
 | mk (_:(way=0\/way=1\/way=2)) (_:0<=h) (_:h<=30) (_:Q (.int (BX way.toNat lo h.toNat)) H):Zbn way lo h H Q
def Zbx:Sp:=λvs H Q E=>∃a lo h,vs=[.int a,.int lo,.int h]/\Zbn a lo h H Q
inductive Zbi(K:aB)(l:AI)(H:Hp)(Q:VK):Prop
 | mk (rows:List Tc) (_:CtO H l rows) (_:rows.length<=1000) (_:∀a,H a=none->Q (.ref a) (upd H a (.lst ((cB rows).map V.int)))):Zbi K l H Q
def Ie(K:aB):Sp:=λvs H Q E=>∃l,vs=[.ref l]/\Zbi K l H Q
inductive Zho(X:Cs)(wo:AI)(way:Int)(lc:AI)(H:Hp)(Q:VK):Prop
 | mk (T s A M) (_:WJ X H T s A M) (_:A.wo=wo) (_:J3 M) (_:M.w=way) (_:CtO H lc (dY M)) (_:∀t lb H',aX H H'->H lb=none->H' t=some (.tup [.int (bJ M),.ref lb,.bl (DX M)])->H' lb=some (.lst ((JM M).map V.int))->Q (.ref t) H'):Zho X wo way lc H Q
def Zp9(X:Cs):Sp:=λvs H Q E=>∃wo a lc,vs=[.ref wo,.int a,.ref lc]/\Zho X wo a lc H Q
section
theorem Zbe{b lo h:Int}(q:Zbn b lo h H Q):FZ ξ [some (.int b),some (.int lo),some (.int h),none] H:=by
 obtain⟨f,k,h1,q⟩:=q;unfold FZ;apply mG bp (λm=>?_)
 ·subst z;apply q
 apply mG bp (λo=>?_)
 ·subst z;apply i_I (Zj6 δ δ) ?_;ext;rw[Int.one_mul];exact q
 have f:b=1:=δ
 subst f;have q:Q (.int (lsE lo 0 h.toNat)) H:=q;exists h,rfl,δ,δ;refine forR (λi d c=>∃v,d=[some (.int 1),some (.int lo),some (.int h),v]/\c=H/\(i<=h.toNat->lsE lo 0 h.toNat=lsE lo i (h.toNat - i))) ⟨none,rfl,rfl,λ_=>rfl⟩ ?_ ?_
 ·rintro i d c l ⟨v,rfl,rfl,a⟩;have a:=a δ;have j:h.toNat - i=(h.toNat - cy)+1:=δ
  rw[j]at a;have g:lsE lo i (h.toNat - (i+1)+1)=if lo / 2 ^ i % 2=0 then 2 ^ i else lsE lo cy (h.toNat - cy):=rfl
  rw[g]at a;have e:((0:Int)+(i:Int)).toNat=i:=δ
  ext;rw[e,Zp2];refine mG bp bp
  ·rw[if_pos z]at a;apply i_I (Zj6 δ δ) ?_;rw[e,Int.one_mul,<- a];exact q
  ·rw[if_neg z]at a;apply⟨_,rfl,rfl,λ_=>a⟩
 ·rintro d c ⟨v,rfl,rfl,a⟩;have a:=a Δ;rw[Nat.sub_self]at a;have a:lsE lo 0 h.toNat=0:=a;ext;rw[a]at q;exact q
theorem Zb6{l:AI}(q:Zbi K l H Q):vJ K ξ [↑l] H:=by
 obtain⟨a,⟨ls,o1,hl,o2⟩,hb,q⟩:=q;unfold vJ;apply Cp ?_;exists _,rfl,⟨_,bN.of o1⟩;refine G4 (bN.of o1) (λi=>a[i]?.bind λ(x:Tc)=>if x.tone=("pale":Str)then some (V.int x.b)else none) (by rw[aR];omega) (λi y hy=>?_) ?_
 ·rw[bL]at hy;obtain⟨r,hr,rfl⟩:=Option.map_eq_some_iff.mp hy;have c:i<ls.length:=(cI hr).1;obtain⟨x,hx⟩:∃x,a[i]? =some x:=⟨_,bG δ⟩;obtain⟨d,z,_⟩:=o2 i r x hr hx;refine⟨λq hq=>?_,λy q hy hq=>?_⟩
  ·walk_at"c";exists r,_,5,_,rfl,rfl,dR.of z,rfl;ext;rw[hx]at hq
   by_cases e:x.tone=("pale":Str)
   ·rw[show((some x).bind λx:Tc=>if x.tone=("pale":Str)then some (V.int x.b)else none)=some (V.int x.b)from if_pos e]at hq;rw[decide_eq_true e];exact hq
   ·rw[show((some x).bind λx:Tc=>if x.tone=("pale":Str)then some (V.int x.b)else none)=none from if_neg e]at hq;rw[decide_eq_false e];exact hq
  ·rw[hx]at hy;have hy:(if x.tone=("pale":Str)then some (V.int x.b)else none)=some y:=hy;split at hy
   ·cases hy;walk_at"c";apply⟨r,_,1,_,rfl,rfl,dR.of z,rfl,hq⟩
   ·cases hy
 ·rw[aR,hl,pI,Zcr];exact q
theorem Zeu{wo lc:AI}{h:Int}(u:lq K X)(q:Zho X wo h lc H Q):
  yx K Zbx (Uo K) (Ie K) (nA X) ξ [↑wo,some (.int h),↑lc,none,none,none,none] H:=by
 obtain⟨T,s,A,M,j,rfl,ok,rfl,oc,q⟩:=q;obtain⟨dw,ow⟩:=j.jb.ow;obtain⟨ds,os⟩:=j.js.os;have lh:=j.jd.lh;have l5:=j.jd.l5;have R:=ok.cl;have ltl:=um (M:=M);have ltc:=mJ (M:=M);have hw:M.w=0\/M.w=1\/M.w=2:=by
  obtain⟨dl,ol⟩:=j.jb.ol;rcases ol with ⟨e,_⟩ | ⟨e,_⟩ | ⟨e,_⟩
  ·exact .inl e
  ·exact .inr (.inl e)
  ·exact .inr (.inr e)
 have Z:(rowsOf M).length=M.hands.length:=by unfold rowsOf;rw[aR]
 have a:∀x∈rowsOf M,x.length<=100:=λx hx=>by
  unfold rowsOf at hx;obtain⟨m,hm,rfl⟩:=List.mem_map.mp hx;rw[aR];exact ok.hl m hm
 unfold yx;apply⟨_,rfl,T,s,A,M,j,rfl,δ,λm hm=>by have:=ok.hl m hm;omega,λS rs L p o1 k D _=>?_⟩;have or:RwO L S (rowsOf M):=⟨rs,o1,k,D⟩;apply aJ (p _ _ ow) u.cW u.Io aV ?_;apply aJ (p _ _ os) u.cS u.n4 eV ?_;apply eU (bN.of o1) ?_;rw[aR,k,Z];exists _,_,_,rfl,hw,δ,δ;rw[Int.toNat_natCast,show BX M.w.toNat M.sw.looked M.hands.length=bJ M from rfl];apply⟨_,rfl,dY M,oc.same p,δ,λN C=>?_⟩;generalize zz:upd L N _=H2;obtain⟨P,U⟩:=nwO C zz;have v:=p.trans P;apply Cp ?_;apply⟨_,_,rfl,rowsOf M,or.same P,δ,a,λlf F J nlf c=>?_⟩;have la:(gA allB (Xw bg (rowsOf M) 0) []).length<=4000:=by
  have h1:=qg allB (Xw bg (rowsOf M) 0) [];have h2:=ZV bg 100 (rowsOf M) 0 a;rw[List.length_nil]at h1;omega
 have I:(gA allB (Xw bg (rowsOf M) 0) []).filter (inP (cB bf))=JM M:=rQ (inP (cB bf)) (Xw bg (rowsOf M) 0) [];generalize gA allB (Xw bg (rowsOf M) 0) []=fs at c la I;have O:=v.trans J;have g3:=J _ _ U;refine⟨_,rfl,⟨_,bN.of c⟩,?_⟩;refine G4 (bN.of c) (λi=>fs[i]?.bind λb=>if inP (cB bf) b=true then some (V.int b)else none) (by rw[aR];omega) (λi y hy=>?_) ?_
 ·rw[bL]at hy;obtain⟨b,hb,rfl⟩:=Option.map_eq_some_iff.mp hy;refine⟨λq hq=>?_,λy q hy hq=>?_⟩
  ·walk_at"c";exists N,_,rfl,.inl (bN.of g3),rfl,qi _;rw[Zal];rw[hb]at hq;have hq:q ((if inP (cB bf) b=true then some (V.int b)else none).isSome) F:=hq;rw[show(if false=true then !decide (b∈cB bf)else decide (b∈cB bf))=inP (cB bf) b from rfl];cases hz:inP (cB bf) b with
   | true=>
    rw[hz]at hq;apply hq
   | false=>
    rw[hz]at hq;apply hq
  ·rw[hb]at hy;have hy:(if inP (cB bf) b=true then some (V.int b)else none)=some y:=hy;split at hy
   ·cases hy;walk_at"c";apply hq
   ·cases hy
 ·rw[aR,pI,Pj,I];intro l g;generalize zz:upd F l _=H4;obtain⟨Y,r⟩:=nwO g zz;have d:=O.trans Y;have f:H l=none:=O.free g;apply qT bp bp
  ·apply mG (λz1=>?_) (λz1=>?_)
   ·apply⟨aQ ζ,λt nt=>?_⟩;refine q t l _ (d.trans (aH nt _)) f ?_ (aH nt _ _ _ r);rw[show DX M=true from decide_eq_true ⟨z,.inl z1⟩];exact aq
   ·apply⟨aQ ζ,λW B=>?_⟩;have o:=aH B (.lst []);refine Zgl (bN.of (o _ _ r)) (ms:=[]) (bN.of aq) ?_;have E:=o _ _ r;generalize upd H4 W (.lst [])=H5 at o E ⊢;apply⟨aQ ζ,λt nt=>?_⟩;refine q t l _ (d.trans (o.trans (aH nt _))) f ?_ (aH nt _ _ _ E);have:DX M=!decide (JM M=[]):=by
     unfold DX
     by_cases e:JM M=[]
     ·rw[decide_eq_false (λy=>?_),decide_eq_true e]
      ·rfl
      ·rcases y.2 with y | y
       ·exact z1 y
       ·exact y e
     ·rw[decide_eq_true ⟨z,.inr e⟩,decide_eq_false e];rfl
    rw[this];exact aq
  ·apply⟨aQ ζ,λt nt=>?_⟩;refine q t l _ (d.trans (aH nt _)) f ?_ (aH nt _ _ _ r);rw[show DX M=false from decide_eq_false (λy=>y.1 z)];exact aq
end
def FdO(H:Hp)(d:AI)(c:List Tc)(k:Nat):Prop:=∃f,CW H d f k/\∀x∈c,∃a,f x.b=↑a/\H a=some (.lst (x.fs.map oV))
theorem FdO.same{H H':Hp}{d:AI}{b:List Tc}{k:Nat}(s:aX H H')(h:FdO H d b k):FdO H' d b k:=by
 obtain⟨f,h1,h2⟩:=h;refine⟨f,h1.same s,λx hx=>?_⟩;obtain⟨a,z1,c⟩:=h2 x hx;exact⟨a,z1,s _ _ c⟩
theorem CW.ask{H:Hp}{d:AI}{f:Int->Option V}{k:Nat}(h:CW H d f k)(b:Int):pK H d (.int b) (f b):=by
 obtain⟨a,h1,_,h2⟩:=h;have:=pK.k (k:=Sum.inl b) h1;rw[h2 b]at this;exact this
theorem CW.ne{H:Hp}{d l:AI}{f:Int->Option V}{k:Nat}{xs:List V}(h:CW H d f k)(e:H l=some (.lst xs)):l≠d:=by
 obtain⟨a,h1,_⟩:=h;exact lV e h1 a4
theorem CW.upd{H:Hp}{d l:AI}{f:Int->Option V}{k:Nat}{o:HO}(h:CW H d f k)(n:l≠d):CW (upd H l o) d f k:=by
 obtain⟨a,h1,h2⟩:=h;exact⟨a,(aD n.symm).trans h1,h2⟩
def Uq(a:List Tc):Prop:=∀x∈a,∀y∈a,x.b=y.b->x.fs=y.fs
def Cl(a:List Tc):Prop:=∀x∈a,∀b,some b∈x.fs->∃y∈a,y.b=b
def flS(f:Int->Option V):List Tc->Nat
 | []=>0
 | x::l=>(if (f x.b).isSome=true then 0 else x.fs.length)+flS f l
theorem Zoh(f:Int->Option V){B:Nat}:∀(l:List Tc),(∀x∈l,x.fs.length<=B)->flS f l<=l.length * B
 | [],_=>Nat.zero_le _
 | x::l,h=>by
  have h1:=Zoh f l λy hy=>h y (List.mem_cons_of_mem _ hy);have h2:=h x (List.mem_cons_self ..);unfold flS;rw[List.length_cons,Nat.succ_mul];split<;>omega
theorem Zeb(f:Int->Option V)(b:Int)(v:V):∀(l:List Tc),flS (λx=>if x=b then some v else f x) l<=flS f l
 | []=>Nat.le_refl _
 | x::l=>by
  have h1:=Zeb f b v l;unfold flS
  by_cases e:x.b=b
  ·rw[if_pos (by rw[if_pos e];rfl)];split<;>omega
  ·rw[if_neg e];omega
theorem Zix{f:Int->Option V}{y:Tc}(v:V)(hn:f y.b=none):∀(l:List Tc),y∈l->flS (λx=>if x=y.b then some v else f x) l+y.fs.length<=flS f l
 | [],h=>nomatch h
 | x::l,h=>by
  have h1:=Zeb f y.b v l;unfold flS;rcases List.mem_cons.mp h with e | h
  ·subst e;rw[if_pos (by rw[if_pos rfl];rfl),if_neg (by rw[hn];exact Bool.false_ne_true)];omega
  ·have h2:=Zix v hn l h
   by_cases e:x.b=y.b
   ·rw[if_pos (by rw[if_pos e];rfl)];split<;>omega
   ·rw[if_neg e];omega
def FdF(H0 H:Hp)(d:AI)(c:List Tc)(k:Nat):Prop:=∃f,CW H d f k/\∀x∈c,∃a,f x.b=↑a/\H0 a=none/\H a=some (.lst (x.fs.map oV))
theorem FdF.o{H0 H:Hp}{d:AI}{b:List Tc}{k:Nat}(h:FdF H0 H d b k):FdO H d b k:=by
 obtain⟨f,h1,h2⟩:=h;exact⟨f,h1,λx hx=>by
  obtain⟨a,z1,_,c⟩:=h2 x hx;exact⟨a,z1,c⟩⟩
theorem FdF.nw{H0 H H':Hp}{d:AI}{b:List Tc}{k:Nat}(h:FdF H0 H d b k)(n:Nw H0 H H')(nd:H0 d=none):FdF H0 H' d b k:=by
 obtain⟨f,⟨c,h1,g⟩,h2⟩:=h;exact⟨f,⟨c,n _ _ nd h1,g⟩,λx hx=>by
  obtain⟨a,z1,e,i⟩:=h2 x hx;exact⟨a,z1,e,n _ _ e i⟩⟩
inductive J0(K:aB)(l:AI)(H:Hp)(Q:VK):Prop
 | mk (H0) (rows:List Tc) (_:CtF H0 H l rows) (_:rows.length<=1000) (_:Uq rows) (_:∀a H',aX H H'->H a=none->FdF H0 H' a rows 1000->Q (.ref a) H'):J0 K l H Q
def Ka(K:aB):Sp:=λvs H Q E=>∃l,vs=[.ref l]/\J0 K l H Q
section
theorem Zua{p q:AI}{xs:List V}(h1:bN K H p xs)(h2:bN K H q [])(h:Q (.bl (decide (xs≠[]))) H):G.QF K true (.ref p) (.ref q) H Q:=by
 refine⟨p,q,_,_,rfl,rfl,h1,h2,λe=>?_,?_⟩
 ·have:xs=[]:=List.length_eq_zero_iff.mp e;subst this;exact⟨rfl,rfl⟩
 ·cases xs with
  | nil=>exact h
  | cons a l=>
   rw[decide_eq_true (show a::l≠[]from λz=>nomatch z)]at h;exact h
theorem T7{l:AI}(q:J0 K l H Q):yw K ξ [↑l,none,none] H:=by
 obtain⟨C,g,⟨ls,o1,hl,o2,_⟩,hb,uq,q⟩:=q;unfold yw;ext;intro d nd;have u:=aH nd (.dK []);have I:FdF C (upd H d (.dK [])) d [] 0:=⟨λ_=>none,⟨[],aq,Nat.le_refl _,λb=>rfl⟩,λx hx=>nomatch hx⟩;generalize upd H d (.dK [])=S at u I ⊢;apply⟨l,rfl,⟨_,bN.of (u _ _ o1)⟩,forL (ls.map V.ref) (λi B j=>∃z,B=[↑l,↑d,z]/\aX H j/\FdF C j d (g.take i) i) ⟨_,rfl,u,I⟩ (by rintro _ _ _ _ ⟨_,_,y,_⟩;exact bN.of (y _ _ o1)) ?_ ?_⟩
 ·rintro i y B j hy ⟨z,rfl,s,f,E,p⟩;rw[bL]at hy;obtain⟨r,hr,rfl⟩:=Option.map_eq_some_iff.mp hy;have R:i<ls.length:=(cI hr).1;obtain⟨x,hx⟩:∃x,g[i]? =some x:=⟨_,bG δ⟩;have w:g.take cy=g.take i++[x]:=by rw[List.take_add_one,hx];rfl
  obtain⟨v,⟨h,m⟩,k,_⟩:=o2 i r x hr hx;have h:=s _ _ h;exists r,_,4,_,rfl,rfl,dR.of h,rfl;exists r,_,1,_,rfl,rfl,dR.of h,rfl;obtain⟨D,O,mk,o,F⟩:=E.put δ x.b (.ref v);have t:aX H D:=λc T hc=>by rw[F,aD (aF hc nd)];exact s _ _ hc
  refine⟨d,D,rfl,O,_,rfl,t,_,mk,λy hy=>?_⟩;show ∃a,(if y.b=x.b then _ else _)=_/\_;rw[w]at hy;rcases List.mem_append.mp hy with hy | hy
  ·by_cases e:y.b=x.b
   ·refine⟨v,if_pos e,k,?_⟩;rw[uq y (List.mem_of_mem_take hy) x (List.mem_of_getElem? hx) e];exact t _ _ m
   ·obtain⟨a,z1,M,J⟩:=p y hy;refine⟨a,(if_neg e).trans z1,M,?_⟩;rw[F,aD (E.ne J)];exact J
  ·rw[List.mem_singleton.mp hy];exact⟨v,if_pos rfl,k,t _ _ m⟩
 ·rintro B j ⟨z,rfl,s,f,⟨A,P,N,L⟩,p⟩;rw[aR]at N;rw[aR,List.take_of_length_le δ]at p;apply q d j s nd ⟨f,⟨A,P,δ,L⟩,p⟩
end
inductive Rb(rs:List Au)(rows:List Tc):Int->Prop
 | row {r:Au}{b:Int}:r∈rs->some b∈r->Rb rs rows b
 | via {x:Tc}{b:Int}:Rb rs rows x.b->x∈rows->some b∈x.fs->Rb rs rows b
structure PfR(rs:List Au)(rows:List Tc)(f:Int->Option V)(ys:Au):Prop where
 c1:∀b,f b≠none->Rb rs rows b
 c2:∀b,some b∈ys->Rb rs rows b
 c3:∀r∈rs,∀b,some b∈r->f b≠none\/some b∈ys
 c4:∀x∈rows,f x.b≠none->∀b,some b∈x.fs->f b≠none\/some b∈ys
section
variable {rs:List Au}{rows:List Tc}{f:Int->Option V}{zs:Au}
theorem PfR.pop{y:AA}(h:PfR rs rows f (zs++[y]))(hy:∀b,y=some b->f b≠none):PfR rs rows f zs:=by
 have k:∀b,(f b≠none\/some b∈zs++[y])->f b≠none\/some b∈zs:=λb z=>by
  rcases z with z | z
  ·exact .inl z
  ·rcases List.mem_append.mp z with z | z
   ·exact .inr z
   ·exact .inl (hy b (List.mem_singleton.mp z).symm)
 exact⟨h.c1,λb hb=>h.c2 b (List.mem_append.mpr (.inl hb)),λr hr b hb=>k b (h.c3 r hr b hb),λx hx a b hb=>k b (h.c4 x hx a b hb)⟩
theorem PfR.put{r:Tc}{v:V}(uq:Uq rows)(hr:r∈rows)(h:PfR rs rows f (zs++[some r.b])):PfR rs rows (λx=>if x=r.b then some v else f x) (zs++r.fs):=by
 have c:Rb rs rows r.b:=h.c2 _ (List.mem_append.mpr (.inr (List.mem_singleton.mpr rfl)));have d:∀b,f b≠none\/some b∈zs++[some r.b]->(if b=r.b then some v else f b)≠none\/some b∈zs++r.fs:=λb z=>by
  by_cases e:b=r.b
  ·exact .inl (by rw[if_pos e];exact λz=>nomatch z)
  ·rw[if_neg e];rcases z with z | z
   ·exact .inl z
   ·rcases List.mem_append.mp z with z | z
    ·exact .inr (List.mem_append.mpr (.inl z))
    ·exact absurd (Option.some.inj (List.mem_singleton.mp z)) e
 refine⟨λb hb=>?_,λb hb=>?_,λw g b hb=>d b (h.c3 w g b hb),λx hx a b hb=>?_⟩
 ·have hb:(if b=r.b then some v else f b)≠none:=hb
  by_cases e:b=r.b
  ·rw[e];exact c
  ·rw[if_neg e]at hb;exact h.c1 b hb
 ·rcases List.mem_append.mp hb with hb | hb
  ·exact h.c2 b (List.mem_append.mpr (.inl hb))
  ·exact .via c hr hb
 ·have a:(if x.b=r.b then some v else f x.b)≠none:=a
  by_cases e:x.b=r.b
  ·exact .inr (List.mem_append.mpr (.inr (by rw[<- uq x hx r hr e];exact hb)))
  ·rw[if_neg e]at a;exact d b (h.c4 x hx a b hb)
theorem PfR.all(h:PfR rs rows f [])(b:Int):f b≠none↔Rb rs rows b:=by
 refine⟨h.c1 b,λr=>?_⟩
 induction r with
 | row hr hb=>exact(h.c3 _ hr _ hb).resolve_right ai
 | via _ hx hb a=>exact(h.c4 _ hx a _ hb).resolve_right ai
end
def RaI(H:Hp)(rs:List Au)(a:List Tc)(l d h:AI)(i:Nat)(σ:St)(e:Hp):Prop:=∃(g:AI) (j m:Option V) (c:Au) (f:Int->Option V) (k:Nat),σ=[↑l,↑d,↑h,↑g,j,m]/\aX H e/\H g=none/\e g=some (.lst (c.map oV))/\CW e h f k/\i=c.length+flS f a/\k + i<=100000/\(∀b,some b∈c->∃y∈a,y.b=b)/\PfR rs a f c
inductive Uc(K:aB)(l:AI)(d:AI)(H:Hp)(Q:VK):Prop
 | mk (rs:List Au) (rows:List Tc) (_:RwO H l rs) (_:rs.length<=40) (_:(∀r∈rs,r.length<=1000)) (_:rows.length<=1000) (_:(∀x∈rows,x.fs.length<=50)) (_:Uq rows) (_:Cl rows) (_:(∀r∈rs,∀b,some b∈r->∃y∈rows,y.b=b)) (_:FdO H d rows 1000) (_:∀a H' f,aX H H'->H a=none->CW H' a f 100000->(∀b,f b≠none↔Rb rs rows b)->Q (.ref a) H'):Uc K l d H Q
def Uk(K:aB):Sp:=λvs H Q E=>∃l d,vs=[.ref l,.ref d]/\Uc K l d H Q
section
theorem V3{l d:AI}(q:Uc K l d H Q):Bm K ξ [↑l,↑d,none,none,none,none] H:=by
 obtain⟨rs,g,⟨ls,o1,hl,o2⟩,l40,Zwg,hb,I,uq,cl,rc,od,q⟩:=q;unfold Bm;ext;intro p D;have Z:=aH D (.dK []);have g1:CW (upd H p (.dK [])) p (λ_=>none) 0:=⟨[],aq,Nat.le_refl _,λb=>rfl⟩;generalize upd H p (.dK [])=H1 at Z g1 ⊢;apply⟨aQ ζ,λa j=>?_⟩;generalize zz:upd H1 a _=H2;obtain⟨s2,g2⟩:=nwO j zz;have g2:H2 a=some (.lst (([]:Au).map oV)):=g2;have M:=Z.trans s2;apply⟨l,rfl,⟨_,bN.of (M _ _ o1)⟩,forL (ls.map V.ref) (λi T N=>∃a C,T=[↑l,↑d,↑p,↑a,C,none]/\aX H N/\H a=none/\N a=some (.lst ((rs.take i).flatten.map oV))/\CW N p (λ_=>none) 0/\(rs.take i).flatten.length<=i * 1000) ⟨a,_,rfl,M,Z.free j,g2,g1.same s2,Nat.zero_le _⟩ (by rintro _ _ _ _ ⟨_,_,_,y,_⟩;exact bN.of (y _ _ o1)) ?_ ?_⟩
 ·rintro i y T N hy ⟨a,C,rfl,B,j,w,F,S⟩;rw[bL]at hy;obtain⟨r,hr,rfl⟩:=Option.map_eq_some_iff.mp hy;have hi:i<ls.length:=(cI hr).1;obtain⟨x,hx⟩:∃x,rs[i]? =some x:=⟨_,bG δ⟩;have O:(rs.take cy).flatten=(rs.take i).flatten++x:=by rw[List.take_add_one,hx,List.flatten_append];simp
  have orr:=B _ _ (o2 i r x hr hx);have lx:=Zwg x (List.mem_of_getElem? hx);apply⟨a,r,_,_,rfl,rfl,w,orr,aQ (by rw[aR,aR];omega),λt2 m=>?_⟩;rw[<- List.map_append,<- O];have A:=aH m (.lst ((rs.take cy).flatten.map oV));apply⟨t2,_,rfl,B.trans A,B.free m,aq,F.same A,by rw[O,List.length_append];omega⟩
 ·rintro T N ⟨a,C,rfl,B,j,w,F,S⟩;rw[aR]at S w;rw[hl,List.take_length]at S w;have hS:=Zoh (λ_=>none) g I;have hm:∀b,some b∈rs.flatten->∃r∈rs,some b∈r:=λb hb=>List.mem_flatten.mp hb;refine yX ?_;refine⟨RaI H rs g l d p,⟨_,a,C,none,rs.flatten,λ_=>none,0,rfl,B,j,w,F,rfl,δ,λb hb=>let ⟨r,h1,h2⟩:=hm b hb;rc r h1 b h2,⟨λb h=>absurd rfl h,λb hb=>let ⟨r,h1,h2⟩:=hm b hb;.row h1 h2,λr hr b hb=>.inr (List.mem_flatten.mpr ⟨r,hr,hb⟩),λx _ h=>absurd rfl h⟩⟩,?_⟩;clear hm S w j F B;rintro μ T Hy ⟨a,C,v5,ys,f,k,rfl,B,j,w,F,rfl,hk,hc,pf⟩;apply⟨aQ ζ,λe0 ne0=>?_⟩;have A:=aH ne0 (.lst []);refine Zua (bN.of (A _ _ w)) (bN.of aq) ?_;generalize upd Hy e0 (.lst [])=P at A ⊢;have L:=B.trans A;have R:=A _ _ w;have E:=F.same A;rcases List.eq_nil_or_concat ys with e | ⟨t,y,e⟩
  ·subst e;rw[decide_eq_false (λz=>z rfl)];ext;obtain⟨kvs,k1,k2,k3⟩:=E;exact q p P f L D ⟨kvs,k1,δ,k3⟩ pf.all
  ·rw[List.concat_eq_append]at e;subst e;rw[decide_eq_true ζ];exists _,λ_ _ h=>h;rw[List.map_append,List.map_singleton]at R;rw[List.length_append,List.length_singleton]at hk;exists .inl ⟨rfl,_,bN.of R⟩;refine⟨a,_,oV y,rfl,rfl,R,ζ,?_⟩;rw[List.dropLast_concat];have nt:=E.ne R;have Y:upd P a (.lst (t.map oV)) a=some (.lst (t.map oV)):=aq;have u:=E.upd (o:=.lst (t.map oV)) nt;have W:aX H (upd P a (.lst (t.map oV))):=λc o s=>by rw[aD (aF s j)];exact L _ _ s
   generalize upd P a (.lst (t.map oV))=H5 at Y u W ⊢;have J:∀b,some b∈t->∃y∈g,y.b=b:=λb hb=>hc b (List.mem_append.mpr (.inl hb));have skip:(∀b,y=some b->f b≠none)->∃m',m'<(t++[y]).length+flS f g/\RaI H rs g l d p m' [↑l,↑d,↑p,↑a,C,some (oV y)] H5:=λhy=>⟨_,by rw[List.length_append,List.length_singleton];omega,a,C,_,t,f,k,rfl,W,j,Y,u,rfl,δ,J,pf.pop hy⟩;ext;cases y with
   | none=>
    rw[show oV none=V.non from rfl]at skip ⊢;apply skip λb e=>nomatch e
   | some b=>
    rw[show oV (some b)=V.int b from rfl]at skip ⊢;obtain⟨r,hr,rfl⟩:=hc b (List.mem_append.mpr (.inr (List.mem_singleton.mpr rfl)));exists p,_,rfl,u.ask r.b;cases hf:f r.b with
    | some v=>
     apply skip λb e=>by cases e;rw[hf];exact λz=>nomatch z
    | none=>
     rw[show(!(none:Option V).isSome)=true from rfl];ext;obtain⟨U,p1,mk,o,p3⟩:=u.put δ r.b (.bl true);have g6:U a=some (.lst (t.map oV)):=by rw[p3,aD nt];exact Y
     have X:aX H U:=λc o' s=>by rw[p3,aD (aF s D)];exact W _ _ s
     refine⟨p,U,rfl,p1,?_⟩;obtain⟨ff,fm,fx⟩:=od.same X;obtain⟨fa,z1,z2⟩:=fx r hr;have h5:=I r hr;have fl:=Zix (.bl true) hf g hr;exists d,_,rfl,fm.get z1;apply⟨a,fa,_,_,rfl,rfl,g6,z2,aQ (by rw[aR,aR];omega),λt2 m=>?_⟩;rw[<- List.map_append];generalize zz:upd U t2 _=H7;obtain⟨s7,g7⟩:=nwO m zz;apply⟨_,?_,t2,C,_,t++r.fs,_,k+1,rfl,X.trans s7,X.free m,g7,mk.same s7,rfl,?_,λb hb=>?_,pf.put uq hr⟩
     ·rw[List.length_append,List.length_append,List.length_singleton];omega
     ·rw[List.length_append];omega
     ·rcases List.mem_append.mp hb with hb | hb
      ·exact J b hb
      ·exact cl r hr b hb
end
inductive ChB(rows:List Tc)(b:Int):AA->AE->Prop
 | nil:ChB rows b (some b) []
 | cons {x:Tc}{f:Int}{fs:AE}{y:AA}:x∈rows->0<=f->x.fs[f.toNat]? =some y->ChB rows b y fs->ChB rows b (some x.b) (f::fs)
structure Zsf(rs:List Au)(rows:List Tc)(way:AE)(b:Int):Prop where
 ex:∃r s fs row y,way=r::s::fs/\0<=r/\0<=s/\rs[r.toNat]? =some row/\row[s.toNat]? =some y/\ChB rows b y fs
theorem Zxp(x y:Int)(fs:AE):Ae ((x::y::fs).map V.int) (some 2) none=fs.map V.int:=by
 unfold Ae;rw[HT.Zm3,show HT.lK ((x::y::fs).map V.int).length 0 (some 2)=2 from by
  have:=HT.Zpj ((x::y::fs).map V.int).length 0 2;rw[show((2:Nat):Int)=2 from rfl]at this;rw[this,aR];simp only[List.length_cons];omega]
 show List.take _ (fs.map V.int)=_;exact List.take_of_length_le (by simp only[List.map_cons,List.length_cons,aR];omega)
inductive Zhj(K:aB)(l:AI)(d:AI)(wl:AI)(H:Hp)(Q:VK):Prop
 | mk (rs:List Au) (rows:List Tc) (way:AE) (b:Int) (_:RwO H l rs) (_:FdO H d rows 1000) (_:H wl=some (.lst (way.map V.int))) (_:Zsf rs rows way b) (_:∀H',aX H H'->Q (.int b) H'):Zhj K l d wl H Q
def J4(K:aB):Sp:=λvs H Q E=>∃l d a,vs=[.ref l,.ref d,.ref a]/\Zhj K l d a H Q
section
theorem Zet{l d m:AI}(q:Zhj K l d m H Q):Ld K ξ [↑l,↑d,↑m,none,none] H:=by
 obtain⟨rs,o,T,b,⟨ls,o1,hl,o2⟩,od,ow,⟨r,s,fs,row,y,rfl,O,I,hr,hs,c⟩,q⟩:=q;have lr:=(cI hr).1;have W:=(cI hs).1;obtain⟨D,t⟩:∃D,ls[r.toNat]? =some D:=⟨_,bG δ⟩;have w:=o2 _ D row t hr;have j:bN K H m ((r::s::fs).map V.int):=bN.of ow;have k:∀a:VK,a (.int r) H->gF K (.ref m) (.int 0) H a:=λa h=>fD j (iW ε rfl) h;have A:∀a:VK,a (.int s) H->gF K (.ref m) (.int 1) H a:=λa h=>fD j (iW ε rfl) h;have u:∀a:VK,a (.ref D) H->gF K (.ref l) (.int r) H a:=λa h=>fD (bN.of o1) (iW O (by rw[bL,t];rfl)) h;unfold Ld;apply eU j ?_;apply mG bp λ_=>?_
 ·simp only[List.map_cons,List.length_cons]at z;omega
 apply k _ ?_;apply mG aT λz=>absurd O z;apply eU (bN.of o1) ?_;ext;rw[aR,hl];refine qT (λz=>absurd δ z) λ_=>?_;apply A _ ?_;apply mG aT λz=>absurd I z;apply k _ ?_;refine u _ ?_;apply eU (bN.of w) ?_;ext;rw[aR];refine qT (λz=>absurd δ z) λ_=>?_;apply k _ ?_;refine u _ ?_;apply A _ ?_;refine fD (v:=oV y) (bN.of w) (iW I (by rw[bL,hs];rfl)) ?_;apply⟨m,_,rfl,j,λp Y=>?_⟩;rw[show Ae ((r::s::fs).map V.int) (some 2) none=fs.map V.int from Zxp _ _ _];generalize zz:upd H p _=H1;obtain⟨N,c1⟩:=nwO Y zz;have F:=od.same N;refine⟨p,rfl,⟨_,bN.of c1⟩,forL (fs.map V.int) (λi C B=>B=H1/\∃y E,C=[↑l,↑d,↑m,some (oV y),E]/\ChB o b y (fs.drop i)) ⟨rfl,y,none,rfl,c⟩ (by rintro i C B _ ⟨e,_⟩;rw[e];exact bN.of c1) ?_ ?_⟩
 ·rintro i v C B hv ⟨rfl,y,E,rfl,c⟩;rw[bL]at hv;obtain⟨f,X,rfl⟩:=Option.map_eq_some_iff.mp hv;have U:fs.drop i=f::fs.drop cy:=by
   have M:=(cI X);rw[<- M.2];exact List.drop_eq_getElem_cons M.1
  rw[U]at c;cases c with
  | @cons x _ _ J hx P hy c=>
   obtain⟨g,L,S⟩:=F;obtain⟨Z,z1,R⟩:=S x hx;have lf:=(cI hy).1;rw[show oV (some x.b)=V.int x.b from rfl];apply mG aT λz=>absurd P z;exists d,_,rfl,L.get z1;apply eU (bN.of R) ?_;ext;rw[aR];refine qT (λz=>absurd δ z) λ_=>?_;exists d,_,rfl,L.get z1;apply fD (v:=oV J) (bN.of R) (iW P (by rw[bL,hy];rfl)) ?_;apply⟨rfl,J,_,rfl,c⟩
 ·rintro C B ⟨rfl,y,E,rfl,c⟩;rw[aR,List.drop_length]at c;cases c;apply q _ N
end
inductive JZ(X:Cs)(wo:AI)(pl:AI)(H:Hp)(Q:VK):Prop
 | mk (T s A M) (bs:AE) (_:s≠0) (_:WJ X H T s A M) (_:A.wo=wo) (_:J3 M) (_:H pl=some (.lst (bs.map V.int))) (_:(∀i c,cellAt M i=some c->(c.birth∈bs↔c.tone≠M.sw.sense))) (_:(∀q qs H',KB.wR (fdOf M) (cP M) q q.length qs->(∀x∈qs,∀c,cellAt M x.1=some c->c.tone=M.sw.sense)->aX H H'->Q .non H')) (_:(∀q qs (i:Nat) x c a wl H',KB.wR (fdOf M) (cP M) q q.length qs->qs[i]? =some x->(∀(k:Nat) y d,k<i->qs[k]? =some y->cellAt M y.1=some d->d.tone=M.sw.sense)->cellAt M x.1=some c->c.tone≠M.sw.sense->aX H H'->H a=none->H wl=none->H' a=some (.tup [.int c.birth,.ref wl])->H' wl=some (.lst (x.2.map V.int))->Q (.ref a) H')):JZ X wo pl H Q
def Aa(X:Cs):Sp:=λvs H Q E=>∃wo pl,vs=[.ref wo,.ref pl]/\JZ X wo pl H Q
section
theorem TX{wo pl:AI}(v:lq K X)(q:JZ X wo pl H Q):
  yt K (iI X) (J8 K X.C X.H) (Px X) ξ [↑wo,↑pl,none,none,none] H:=by
 obtain⟨T,s,A,M,bs,s0,j,rfl,ok,R,hp,q1,q2⟩:=q;obtain⟨dw,ow⟩:=j.jb.ow;have l5:=j.jd.l5;have lh:=j.jd.lh;have nl:=ok.nl;unfold yt;apply aJ ow v.cW v.Gy bz ?_;apply⟨_,rfl,T,s,A,M,s0,j,rfl,δ,δ,λra rs H1 S nra O N nrs nrl g1=>?_⟩;apply⟨A.hp,ra,fdOf M,rs,cP M,rfl,(j.same S).w0.hv,bN.of O,Ze (M:=M) N g1,Zgw j ok,λl ts q b H2 D Vi s2 ol U=>?_⟩;have f:=S.trans s2;have Y:=j.same f;have good:=D.good.2;have r:=U.len;obtain⟨dw2,F⟩:=Y.jb.ow;refine⟨l,rfl,⟨_,bN.of ol⟩,forL bE (λi B p=>∃I L J,B=[↑A.wo,↑pl,I,L,J]/\p=H2/\∀(k:Nat) y d,k<i->b[k]? =some y->cellAt M y.1=some d->d.tone=M.sw.sense) ⟨_,_,_,rfl,rfl,λk y d hk=>absurd hk (Nat.not_lt_zero _)⟩ (by rintro _ _ _ _ ⟨_,_,_,_,z,_⟩;rw[z];exact bN.of ol) ?_ ?_⟩
 ·rintro i x B p hi ⟨I,L,J,rfl,rfl,hno⟩;rw[bL]at hi;obtain⟨t,ht,rfl⟩:=Option.map_eq_some_iff.mp hi;have g:i<b.length:=by rw[<- r];exact(cI ht).1
  obtain⟨t',wa,Z,ot,m⟩:=U.at (bG g);rw[ht]at Z;cases Z;have hx:b[i]? =some b[i]:=bG g;generalize b[i]=x at hx ot m;obtain⟨fl,u⟩:=Option.isSome_iff_exists.mp (good x (List.mem_of_getElem? hx)).there;rw[S8]at u;obtain⟨c,hc,_⟩:=Option.map_eq_some_iff.mp u;refine⟨t,_,rfl,dR.of ot,rfl,?_⟩;refine⟨_,_,rfl,?_⟩;exists _,_,rfl;exists rfl;apply aJ F v.cW v.Gy bz ?_;exists _,_,rfl,some x.1,rfl,T,s,A,M,Y,rfl;rw[show nD M (some x.1)=some c.birth by show(cellAt M x.1).map _=_;rw[hc];rfl,show oV (some c.birth)=V.int c.birth from rfl];exists pl,_,rfl,.inl (bN.of (f _ _ R)),rfl,qi _;refine⟨decide (c.birth∈bs),by rw[show(if false=true then !inV (.int c.birth) (bs.map V.int)else inV (.int c.birth) (bs.map V.int))=inV (.int c.birth) (bs.map V.int)from rfl,Zal],?_⟩;refine mG bp bp
  ·have z:=(hp _ c hc).mp z;apply Zir (dR.of m) λP o=>?_;generalize zz:upd p P _=H3;obtain⟨s3,g3⟩:=nwO o zz;apply⟨aQ ζ,λa W=>?_⟩;have s4:=aH W (.tup [.int c.birth,.ref P]);exact q2 q b i x c a P _ D hx hno hc z (f.trans (s3.trans s4)) (f.free (s3.free W)) (f.free o) aq (s4 _ _ g3)
  ·have z:c.tone=M.sw.sense:=Classical.byContradiction λy=>z ((hp _ c hc).mpr y);apply⟨_,_,_,rfl,rfl,λk y d hk E w=>?_⟩
   by_cases h:k<i
   ·exact hno k y d h E w
   ·have:k=i:=δ
    subst this;rw[hx]at E;cases E;rw[hc]at w;cases w;exact z
 ·rintro B p ⟨I,L,J,rfl,rfl,hno⟩;rw[aR,r]at hno;apply q1 q b p D (λx hx c hc=>let ⟨k,hk,e⟩:=List.getElem_of_mem hx;hno k x c hk (by rw[bG hk,e]) hc) f
end
theorem Zob{l:List b8}{x:Str×(Int×Int)}(h:(l.map (·.1)).Nodup)(hx:x∈l):qU l x.1=some x.2:=by
 induction l with
 | nil=>cases hx
 | cons a l b=>
  unfold qU;rw[List.find?_cons];rw[List.map_cons,List.nodup_cons]at h;rcases List.mem_cons.mp hx with e | hx
  ·rw[e,decide_eq_true rfl];rfl
  ·rw[decide_eq_false (λz=>h.1 (List.mem_map.mpr ⟨x,hx,z.symm⟩))];exact b h.2 hx
theorem Zap{b ty c:TE}{σ:St}{H:Hp}{Q:VK}(h:b σ H λx d=>∃a,x=.ref a/\IsD d a/\ty σ d λy f=>c σ f λz e=>∃o,pK e a y o/\Q (o.getD z) e):YK b ty c σ H Q:=h
theorem Wg{a:List Tc}{b:Int}{v:V}(h:iJ a b=some v):∃z:Str,v=.str z:=by
 unfold iJ at h;obtain⟨x,_,e⟩:=Option.map_eq_some_iff.mp h;exact⟨_,e.symm⟩
theorem Zn8{H:Hp}{T:Tg}{ns:AF}{names:List b8}(h:Al (NmO H T) ns names){i:Nat}{kv:(Int ⊕ Str)×V}(e:(m5 names ns)[i]? =some kv):∃m t,names[i]? =some m/\kv=(Sum.inr m.1,.ref t):=by
 unfold m5 at e;rw[List.getElem?_zipWith]at e;cases h1:names[i]? with
 | none=>rw[h1]at e;cases e
 | some m=>
  cases h2:ns[i]? with
  | none=>rw[h1,h2]at e;cases e
  | some t=>
   rw[h1,h2]at e;exact⟨m,t,rfl,(Option.some.inj e).symm⟩
theorem Js(z:Str)(f:Int->Option V)(b:Int):u9 z f [] b=f b:=by unfold u9;rw[if_neg ζ]
def ZR(a:List Tc)(m:Str×(Int×Int)):AA:=if (iJ a m.2.2).getD (.str "pale")=.str "pale" then none else some m.2.2
def lF(M:Wm):List Au:=rowsOf M++[M.names.map (ZR bf)]
inductive JT(X:Cs)(wo:AI)(lc:AI)(H:Hp)(Q:VK):Prop
 | mk (T s A M) (_:WJ X H T s A M) (_:A.wo=wo) (_:J3 M) (_:(M.names.map (·.1)).Nodup) (_:CtO H lc (dY M)) (_:∀l H',aX H H'->RwF H H' l (lF M)->Q (.ref l) H'):JT X wo lc H Q
def J7(X:Cs):Sp:=λvs H Q E=>∃wo lc,vs=[.ref wo,.ref lc]/\JT X wo lc H Q
section
theorem Zce{l d:AI}{ls:AF}{rs:List Au}{r:Au}(h:H l=some (.lst ((ls++[d]).map V.ref)))(e:ls.length=rs.length)(hr:∀(j:Nat) a x,ls[j]? =some a->rs[j]? =some x->H a=some (.lst (x.map oV)))(h2:H d=some (.lst (r.map oV))){H0:Hp}(g:H0 l=none)(n1:∀a∈ls,H0 a=none)(n2:H0 d=none):RwF H0 H l (rs++[r]):=by
 refine⟨ls++[d],h,by rw[List.length_append,List.length_append,e];rfl,λj a x b c=>?_,g,λa k=>(List.mem_append.mp k).elim (n1 a) λz=>by rw[List.mem_singleton.mp z];exact n2⟩
 by_cases m:j<ls.length
 ·rw[List.getElem?_append_left m]at b;rw[List.getElem?_append_left δ]at c;exact hr j a x b c
 ·have f:=(cI b).1;rw[List.length_append,List.length_singleton]at f;have i:j=ls.length:=δ
  subst i;rw[List.getElem?_append_right Δ,Nat.sub_self]at b;rw[e,List.getElem?_append_right Δ,Nat.sub_self]at c;cases b;cases c;exact h2
theorem TJ{wo lc:AI}(U:lq K X)(q:JT X wo lc H Q):
  yr K (Pu K) (nA X) ξ [↑wo,↑lc,none,none,none,none] H:=by
 obtain⟨T,s,A,M,j,rfl,ok,nd,oc,q⟩:=q;obtain⟨dw,ow⟩:=j.jb.ow;have om:=j.jn.om;have hcl:=ok.cl;have hnl:=ok.nl;have ltl:=um (M:=M);have ltc:=mJ (M:=M);have lnm:(m5 M.names A.ns).length=M.names.length:=ZQ j.jn.nms;unfold yr;apply⟨aQ ζ,λe0 ne0=>?_⟩;generalize zz:upd H e0 _=H2;obtain⟨s2,Z⟩:=nwO ne0 zz;have Z:H2 e0=some (.lst (([]:AE).map V.int)):=Z;apply⟨_,_,_,rfl,dY M,[],oc.same s2,δ,Z,ζ,λd F s3 nd' od=>?_⟩;have od:CW F d (iJ bf) 5000:=by
  obtain⟨D,k1,k2,k3⟩:=od;exact⟨D,k1,k2,λb=>by rw[k3 b,Js]⟩
 have W:=s2.trans s3;apply⟨aQ ζ,λa E=>?_⟩;generalize zz:upd F a _=H4;obtain⟨s4,S⟩:=nwO E zz;have S:H4 a=some (.lst (((M.names.map (ZR bf)).take 0).map oV)):=S;have O:=W.trans s4;apply aJ (O _ _ ow) U.cW U.nWn dX ?_;apply Zis (O _ _ om) λlk N=>?_;generalize zz:upd H4 lk _=H5;obtain⟨s5,g5⟩:=nwO N zz;have g45:=s5 _ _ S;have Ztj:lk≠a:=(aF S N).symm;refine⟨lk,rfl,⟨_,bN.of g5⟩,forL ck (λi u e=>∃g h,u=[↑A.wo,↑lc,↑d,↑a,g,h]/\aX F e/\e lk=some (.lst ck)/\e a=some (.lst (((M.names.map (ZR bf)).take i).map oV))) ⟨_,_,rfl,s4.trans s5,g5,g45⟩ (by rintro _ _ _ _ ⟨_,_,_,_,z,_⟩;exact bN.of z) ?_ ?_⟩
 ·rintro i y u e hi ⟨g,h,rfl,J,g6,C⟩;rw[bL]at hi;obtain⟨kv,hkv,rfl⟩:=Option.map_eq_some_iff.mp hi;obtain⟨m,t,hm,rfl⟩:=Zn8 j.jn.nms hkv;have f:=W.trans J;have jx:=j.same f;have hmm:=List.mem_of_getElem? hm;have gn:=Zob nd hmm;obtain⟨p,b,B,g8,g9,g10⟩:∃p b B,qU M.names m.1=some (p,b)/\jN eJ (Sum.inr m.1)=↑B/\e B=some (.tup [.int p,.int b]):=by
   rcases Zg5 (z:=m.1) jx.jn.nms with ⟨z,_⟩ | ⟨p,b,B,z1,z2,z3⟩
   ·rw[gn]at z;cases z
   ·exact⟨p,b,B,z1,z2,z3.1⟩
  rw[gn]at g8;have em:m.2=(p,b):=Option.some.inj g8;have dg:pK e A.nm (.str m.1) (↑B):=by
   have:=pK.k (k:=Sum.inr m.1) (f _ _ om);rw[g9]at this;exact this
  have L:=od.same J;have er:(M.names.map (ZR bf)).take cy=(M.names.map (ZR bf)).take i++[ZR bf m]:=by
   rw[List.take_add_one,bL,hm];rfl
  have hil:i<M.names.length:=(cI hm).1;have ll:(((M.names.map (ZR bf)).take i).map oV).length<=4000:=by rw[aR,List.length_take];omega
  rw[show kV (Sum.inr m.1:Int ⊕ Str)=V.str m.1 from rfl];apply aJ (f _ _ ow) U.cW U.nWn dX ?_;exists A.nm,_,rfl,dg;exists B,_,1,.int b,rfl,rfl,dR.of g10,rfl;ext;have isd:IsD e d:=by
   obtain⟨D,k1,_⟩:=L;exact .inl ⟨D,.inl k1⟩
  refine Zap ?_;exists d,rfl,isd;exists _,L.ask b;have R:ZR bf m=if (iJ bf b).getD (.str "pale")=.str "pale" then none else some b:=by unfold ZR;rw[em]
  have fin:∀(x:AA),ZR bf m=x->∀g h,∃u4 u5,[↑A.wo,↑lc,↑d,↑a,g,h]=[some (V.ref A.wo),↑lc,↑d,↑a,u4,u5]/\aX F (upd e a (.lst (((M.names.map (ZR bf)).take i).map oV++[oV x])))/\upd e a (.lst (((M.names.map (ZR bf)).take i).map oV++[oV x])) lk=some (.lst ck)/\upd e a (.lst (((M.names.map (ZR bf)).take i).map oV++[oV x])) a=some (.lst (((M.names.map (ZR bf)).take cy).map oV)):=λx ex g h=>by
   refine⟨_,_,rfl,λc o hc=>by rw[aD (aF hc E)];exact J _ _ hc,(aD Ztj).trans g6,?_⟩;rw[aq,er,ex,List.map_append];rfl
  have l:∀z:Str,(iJ bf b).getD (.str "pale")=.str z->(bC (bh (qI) (tC (.str z)) (tC (.str "pale")))) [↑A.wo,↑lc,↑d,↑a,some (.str m.1),some (.int b)] e (λk H1=>if k=true then bx (tC V.non) (aL 5) ⟨lB (tBM K "list" lH Θ (aj dA aC)) ⟨λu e=>∃g h,u=[↑A.wo,↑lc,↑d,↑a,g,h]/\aX F e/\e lk=some (.lst ck)/\e a=some (.lst (((M.names.map (ZR bf)).take cy).map oV)),Q,bk,ct⟩,Q,bk,ct⟩ [↑A.wo,↑lc,↑d,↑a,some (.str m.1),some (.int b)] H1 else lB (tBM K "list" lH Θ (aj dA aC)) ⟨λu e=>∃g h,u=[↑A.wo,↑lc,↑d,↑a,g,h]/\aX F e/\e lk=some (.lst ck)/\e a=some (.lst (((M.names.map (ZR bf)).take cy).map oV)),Q,bk,ct⟩ [↑A.wo,↑lc,↑d,↑a,some (.str m.1),some (.int b)] H1):=λz ez=>by
   ext;rw[ez]at R;refine mG (λy=>?_) λy=>?_
   ·rw[if_pos (by rw[y])]at R;exists .inl ⟨rfl,_,bN.of C⟩;exists a,_,_,rfl,rfl,C,Nat.lt_of_le_of_lt ll ε;apply fin none R _ _
   ·rw[if_neg (λw=>y (by injection w))]at R;exists .inl ⟨rfl,_,bN.of C⟩;exists a,_,_,rfl,rfl,C,Nat.lt_of_le_of_lt ll ε;apply fin (some b) R _ _
  cases hz:iJ bf b with
  | none=>
   rw[hz]at l;exact l "pale" rfl
  | some v=>
   obtain⟨z,rfl⟩:=Wg hz;rw[hz]at l;exact l z rfl
 ·rintro u e ⟨g,h,rfl,J,g6,C⟩;rw[aR,lnm,List.take_of_length_le (by rw[aR];exact Nat.le_refl _)]at C;have f:=W.trans J;apply⟨_,rfl,T,s,A,M,j.same f,rfl,δ,λm hm=>by have:=ok.hl m hm;omega,λl2 ls2 H7 s7 ol2 I hr2 nn=>?_⟩;apply⟨aQ ζ,λl4 nl4=>?_⟩;generalize zz:upd H7 l4 _=H9;obtain⟨s9,g9⟩:=nwO nl4 zz;have lrw:(rowsOf M).length=M.hands.length:=by unfold rowsOf;rw[aR]
  have l5:=j.jd.l5;have lh:=j.jd.lh;refine⟨l2,l4,_,_,rfl,rfl,s9 _ _ ol2,g9,aQ (by rw[aR,I,lrw];show M.hands.length+1<=1000000;omega),λl6 P=>?_⟩;have s10:=aH P (.lst (ls2.map V.ref++[.ref a]));have Y:=s9.trans s10;refine q l6 _ (f.trans (s7.trans Y)) (Zce (by rw[aq,List.map_append];rfl) I (λj r x e1 e2=>Y _ _ (hr2 j r x e1 e2)) ((s7.trans Y) _ _ C) ((f.trans (s7.trans s9)).free P) (λr hr=>f.free (nn.2.1 r hr)) (W.free E))
end
inductive Ud(X:Cs)(wo:AI)(lc:AI)(H:Hp)(Q:VK):Prop
 | mk (T s A M) (rows:List Tc) (_:s≠0) (_:WJ X H T s A M) (_:A.wo=wo) (_:J3 M) (_:(M.names.map (·.1)).Nodup) (_:rows.length<=1000) (_:CtO H lc rows) (_:(∀m∈M.names,jq M m.2.1 m.2.2=decide (iJ rows m.2.2=none))) (_:(∀m∈M.names,nG M m.2.1 m.2.2=if (iJ rows m.2.2).getD (.str "pale")=.str "pale" then none else some m.2.1)) (_:∀H',aX H H'->Q (.bl true) H'):Ud X wo lc H Q
def Zey(X:Cs):Sp:=λvs H Q E=>∃wo lc,vs=[.ref wo,.ref lc]/\Ud X wo lc H Q
section
theorem Ds{wo lc:AI}(Tx:lq K X)(q:Ud X wo lc H Q):
  qH K (Pu K) (Zbv X) (Zhs X) (Px X) ξ [↑wo,↑lc,none,none,none,none,none,none] H:=by
 obtain⟨T,s,A,M,f,hs0,j,rfl,ok,nd,ZBe,oc,L,a,q⟩:=q;obtain⟨dw,ow⟩:=j.jb.ow;have om:=j.jn.om;have hnl:=ok.nl;have l5:=j.jd.l5;have lh:=j.jd.lh;have lnm:(m5 M.names A.ns).length=M.names.length:=ZQ j.jn.nms;unfold qH;apply⟨aQ ζ,λe0 ne0=>?_⟩;generalize zz:upd H e0 _=H2;obtain⟨s2,g2⟩:=nwO ne0 zz;have g2:H2 e0=some (.lst (([]:AE).map V.int)):=g2;apply⟨_,_,_,rfl,f,[],oc.same s2,δ,g2,ζ,λd H3 s3 nd' od=>?_⟩;have od:CW H3 d (iJ f) 5000:=by
  obtain⟨I,k1,k2,k3⟩:=od;exact⟨I,k1,k2,λb=>by rw[k3 b,Js]⟩
 have Je:=s2.trans s3;apply⟨aQ ζ,λe nlr=>?_⟩;generalize zz:upd H3 e _=H4;obtain⟨s4,g4⟩:=nwO nlr zz;have g4:H4 e=some (.lst (((dU M).take 0).map oV)):=g4;have s14:=Je.trans s4;apply aJ (s14 _ _ ow) Tx.cW Tx.nWn dX ?_;apply Zis (s14 _ _ om) λlk nlk=>?_;generalize zz:upd H4 lk _=H5;obtain⟨s5,g5⟩:=nwO nlk zz;have g45:=s5 _ _ g4;have Ztj:lk≠e:=(aF g4 nlk).symm;refine⟨lk,rfl,⟨_,bN.of g5⟩,forL ck (λi σ h=>∃O P R N,σ=[↑A.wo,↑lc,↑d,↑e,O,P,R,N]/\aX H3 h/\h lk=some (.lst ck)/\h e=some (.lst (((dU M).take i).map oV))) ⟨_,_,_,_,rfl,s4.trans s5,g5,g45⟩ (by rintro _ _ _ _ ⟨_,_,_,_,_,_,z,_⟩;exact bN.of z) ?_ ?_⟩
 ·rintro i y σ h hi ⟨O,P,R,N,rfl,S,g6,B⟩;rw[bL]at hi;obtain⟨kv,hkv,rfl⟩:=Option.map_eq_some_iff.mp hi;obtain⟨m,t,hm,rfl⟩:=Zn8 j.jn.nms hkv;have g:=Je.trans S;have jx:=j.same g;have F:=List.mem_of_getElem? hm;have gn:=Zob nd F;obtain⟨p,b,E,g8,g9,l⟩:∃p b E,qU M.names m.1=some (p,b)/\jN eJ (Sum.inr m.1)=↑E/\h E=some (.tup [.int p,.int b]):=by
   rcases Zg5 (z:=m.1) jx.jn.nms with ⟨z,_⟩ | ⟨p,b,E,z1,z2,z3⟩
   ·rw[gn]at z;cases z
   ·exact⟨p,b,E,z1,z2,z3.1⟩
  rw[gn]at g8;have em:m.2=(p,b):=Option.some.inj g8;have dg:pK h A.nm (.str m.1) (↑E):=by
   have:=pK.k (k:=Sum.inr m.1) (g _ _ om);rw[g9]at this;exact this
  have U:=od.same S;have L:=L m F;have a:=a m F;rw[em]at L a;have L:jq M p b=decide (iJ f b=none):=L;have a:nG M p b=if (iJ f b).getD (.str "pale")=.str "pale" then none else some p:=a
  have er:(dU M).take cy=(dU M).take i++[nG M p b]:=by
   have Z:(dU M)[i]? =some (nG M p b):=by
    unfold dU;rw[bL,hm];show some (nG M m.2.1 m.2.2)=_;rw[em]
   rw[List.take_add_one,Z];rfl
  have hil:i<M.names.length:=(cI hm).1;have ll:(((dU M).take i).map oV).length<=4000:=by rw[aR,List.length_take];omega
  have isd:IsD h d:=by
   obtain⟨I,k1,_⟩:=U;exact .inl ⟨I,.inl k1⟩
  have fin:∀(x:AA),nG M p b=x->∀O P R N,∃u4 u5 u6 u7,[↑A.wo,↑lc,↑d,↑e,O,P,R,N]=[some (V.ref A.wo),↑lc,↑d,↑e,u4,u5,u6,u7]/\aX H3 (upd h e (.lst (((dU M).take i).map oV++[oV x])))/\upd h e (.lst (((dU M).take i).map oV++[oV x])) lk=some (.lst ck)/\upd h e (.lst (((dU M).take i).map oV++[oV x])) e=some (.lst (((dU M).take cy).map oV)):=λx ex O P R N=>by
   refine⟨_,_,_,_,rfl,λc o hc=>by rw[aD (aF hc nlr)];exact S _ _ hc,(aD Ztj).trans g6,?_⟩;rw[aq,er,ex,List.map_append];rfl
  rw[show kV (Sum.inr m.1:Int ⊕ Str)=V.str m.1 from rfl];apply aJ (g _ _ ow) Tx.cW Tx.nWn dX ?_;exists A.nm,_,rfl,dg;refine⟨E,_,rfl,dR.of l,rfl,_,_,rfl,?_⟩;exists _,_,rfl;exists rfl;exists _,_,_,rfl,T,s,A,M,jx.w0,rfl;rw[L];have ask:=U.ask b;have t1:(!decide (V.bl true=V.bl true))=false:=by rw[decide_eq_true rfl];rfl
  have t3:(!decide (V.bl false=V.bl true))=true:=by rw[decide_eq_false ai];rfl
  have t4:(!decide (V.bl false=V.bl false))=false:=by rw[decide_eq_true rfl];rfl
  cases hz:iJ f b with
  | none=>
   rw[hz]at a ask;rw[show(none:Option V).getD (.str "pale")=.str "pale" from rfl,if_pos rfl]at a;rw[show decide ((none:Option V)=none)=true from decide_eq_true rfl];ext;rw[t1];exists d,_,rfl,ask;rw[show(!(none:Option V).isSome)=true from rfl];ext;rw[show(!decide (true=true))=false from rfl];apply Zap ?_;exists d,rfl,isd;exists _,ask;rw[show(none:Option V).getD (.str "pale")=.str "pale" from rfl];apply mG aT λy=>absurd rfl y;exists .inl ⟨rfl,_,bN.of B⟩;exists e,_,_,rfl,rfl,B,Nat.lt_of_le_of_lt ll ε;apply fin none a _ _ _ _
  | some v=>
   obtain⟨z,rfl⟩:=Wg hz;rw[hz]at a ask;rw[show decide (some (V.str z)=none)=false from decide_eq_false (λy=>nomatch y)];ext;rw[t3];ext;rw[t4];exists d,_,rfl,ask;rw[show(!(some (V.str z)).isSome)=false from rfl];ext;rw[show(!decide (false=false))=false from rfl];apply Zap ?_;exists d,rfl,isd;exists _,ask;rw[show(some (V.str z)).getD (.str "pale")=.str z from rfl]at a ⊢;apply mG (λy=>?_) λy=>?_
   ·rw[if_pos (by rw[y])]at a;exists .inl ⟨rfl,_,bN.of B⟩;exists e,_,_,rfl,rfl,B,Nat.lt_of_le_of_lt ll ε;apply fin none a _ _ _ _
   ·rw[if_neg (λw=>y (by injection w))]at a;exists .inl ⟨rfl,_,bN.of B⟩;exists e,_,_,rfl,rfl,B,Nat.lt_of_le_of_lt ll ε;apply fin (some p) a _ _ _ _
 ·rintro σ h ⟨O,P,R,N,rfl,S,g6,B⟩;rw[aR,lnm,List.take_of_length_le (by unfold dU;rw[aR];exact Nat.le_refl _)]at B;have g:=Je.trans S;have lhe:(heldOf M).length=M.hands.length:=by unfold heldOf;rw[aR]
  apply⟨_,rfl,T,s,A,M,hs0,j.same g,rfl,δ,δ,λl2 ls2 H7 s7 Vi ol2 hl2 nn2 ZBm hr2=>?_⟩;have s17:=g.trans s7;apply⟨_,rfl,T,s,A,M,j.same s17,rfl,δ,λl3 u H8 s8 nl3 ol3 W nd3 nn3 ZBl hr3=>?_⟩;apply⟨aQ ζ,λl4 nl4=>?_⟩;generalize zz:upd H8 l4 _=H9;obtain⟨s9,g9⟩:=nwO nl4 zz;apply⟨l3,l4,_,_,rfl,rfl,s9 _ _ ol3,g9,aQ (by rw[aR,W,lhe];show M.hands.length+1<=1000000;omega),λC nl5=>?_⟩;have D:=aH nl5 (.lst (u.map V.ref++[.ref e]));have l:upd H9 C (.lst (u.map V.ref++[.ref e])) C=some (.lst ((u++[e]).map V.ref)):=by rw[List.map_append];exact aq
  generalize upd H9 C (.lst (u.map V.ref++[.ref e]))=H10 at D l ⊢;have J:=s8.trans (s9.trans D);have Y:=s7.trans J;have r1:RwO H10 l2 (cP M):=⟨ls2,J _ _ ol2,hl2,λj r x Z e2=>J _ _ (hr2 j r x Z e2)⟩;have r2:RwO H10 C (cP M):=(Zce (H0:=λ_=>none) l W (λj r x Z e2=>(s9.trans D) _ _ (hr3 j r x Z e2)) (Y _ _ B) rfl (λ_ _=>rfl) rfl).o;obtain⟨xs,ys,a1,a2,al⟩:=Zi4 (K:=K) r1 r2;apply Zit (.inl ⟨a1,a2⟩) al ?_;exact q _ (g.trans Y)
end
section
theorem Zig{F:KB.Fd}{w:AE}{ps:Au}{q:Int}(n:Nat)(h:some q∈ps)(a:(KB.DQ F q).isSome=true):∃v,(q,v)∈KB.onw F w n ps:=by
 obtain⟨k,hk,e⟩:=List.getElem_of_mem h;refine⟨w++[((n+k:Nat):Int)],List.mem_filterMap.mpr ⟨(some q,n+k),?_,?_⟩⟩
 ·refine List.mem_zipIdx_iff_le_and_getElem?_sub.mpr ⟨ζ,?_⟩;show ps[n+k - n]? =_;rw[Nat.add_sub_cancel_left,bG hk,e]
 ·unfold KB.Zt;dsimp only;rw[if_pos a]
theorem Zhg{F:KB.Fd}{R:KB.Rw}{q l:List cb}{k:Nat}(b:KB.wR F R q k l):
  (∀i x,i<k->q[i]? =some x->x.1∈l.map (·.1))/\(∀row∈R,∀y,some y∈row->(KB.DQ F y).isSome=true->∃v,(y,v)∈q)/\(∀x∈l,∀fl,KB.DQ F x.1=some fl->∀y,some y∈fl->(KB.DQ F y).isSome=true->∃v,(y,v)∈q):=by
 induction b with
 | start=>
  refine⟨λi x h=>absurd h (Nat.not_lt_zero _),λrow hr y hy g=>?_,λx hx=>(nomatch hx)⟩;obtain⟨n,hn,e⟩:=List.getElem_of_mem hr;obtain⟨v,hv⟩:=Zig (F:=F) (w:=[((n:Nat):Int)]) 0 hy g;exact⟨v,List.mem_flatMap.mpr ⟨(row,n),List.mem_zipIdx_iff_getElem?.mpr (by rw[bG hn,e]),hv⟩⟩
 | @old q k l p w b hq hp c=>
  refine⟨λi x m hx=>?_,c.2.1,c.2.2⟩
  by_cases e:i=k
  ·rw[e,hq]at hx;cases hx;exact hp
  ·exact c.1 i x δ hx
 | @new q k l p w fl b hq hp g c=>
  have hk:k<q.length:=(cI hq).1;have j:∀{y:Int},(∃v,(y,v)∈q)->∃v,(y,v)∈q++KB.onw F w 0 fl:=λ⟨v,h⟩=>⟨v,List.mem_append.mpr (.inl h)⟩;refine⟨λi x m hx=>?_,λrow hr y hy g=>j (c.2.1 row hr y hy g),λx hx f a y hy d=>?_⟩
  ·rw[List.getElem?_append_left δ]at hx;rw[List.map_append]
   by_cases e:i=k
   ·rw[e,hq]at hx;cases hx;exact List.mem_append.mpr (.inr (List.mem_singleton.mpr rfl))
   ·exact List.mem_append.mpr (.inl (c.1 i x δ hx))
  ·rcases List.mem_append.mp hx with hx | hx
   ·exact j (c.2.2 x hx f a y hy d)
   ·rw[List.mem_singleton.mp hx]at a;have a:KB.DQ F p=some f:=a;rw[g]at a;cases a;obtain⟨v,hv⟩:=Zig (F:=F) (w:=w) 0 hy d;exact⟨v,List.mem_append.mpr (.inr hv)⟩
theorem Zr8{F:KB.Fd}{R:KB.Rw}{P:Int->Prop}(d:∀row∈R,∀y,some y∈row->P y)(h1:∀y fl,P y->KB.DQ F y=some fl->∀z,some z∈fl->P z){q l:List cb}{k:Nat}(b:KB.wR F R q k l):(∀x∈q,P x.1)/\∀x∈l,P x.1:=by
 induction b with
 | start=>
  refine⟨λx hx=>?_,λx hx=>nomatch hx⟩;obtain⟨⟨row,n⟩,hm,h⟩:=List.mem_flatMap.mp hx;obtain⟨k,hk,_,_⟩:=KB.zZ (q:=x.1) (v:=x.2) h;exact d row (List.mem_of_getElem? (List.mem_zipIdx_iff_getElem?.mp hm)) x.1 (List.mem_of_getElem? hk)
 | old _ _ _ a=>exact a
 | @new q k l y w fl b hq hn e a=>
  have c:P y:=a.1 _ (List.mem_of_getElem? hq);refine⟨λx hx=>?_,λx hx=>?_⟩
  ·rcases List.mem_append.mp hx with hx | hx
   ·exact a.1 x hx
   ·obtain⟨k,hk,_,_⟩:=KB.zZ (q:=x.1) (v:=x.2) hx;exact h1 y fl c e x.1 (List.mem_of_getElem? hk)
  ·rcases List.mem_append.mp hx with hx | hx
   ·exact a.2 x hx
   ·rw[List.mem_singleton.mp hx];exact c
end
section
variable {M:Wm}{w0:Int}
theorem Pr{y:AA}{b:Int}(h:nD M y=some b):∃i c,y=some i/\cellAt M i=some c/\c.birth=b:=by
 cases y with
 | none=>cases h
 | some i=>
  have h:(cellAt M i).map (·.birth)=some b:=h;obtain⟨c,hc,e⟩:=Option.map_eq_some_iff.mp h;exact⟨i,c,rfl,hc,e⟩
theorem Pg{i:Int}{c:Ce}(h:cellAt M i=some c):UJ M (i,c)∈dY M:=List.mem_map.mpr ⟨_,pC h,rfl⟩
theorem O4{x:Tc}(h:x∈dY M):∃t:Int×Ce,x=UJ M t/\cellAt M t.1=some t.2:=by
 obtain⟨t,a,e⟩:=List.mem_map.mp h;exact⟨t,e.symm,lU a⟩
theorem TB.uq(b:TB w0 M):Uq bf:=by
 intro x hx y hy e;obtain⟨t,rfl,h1⟩:=O4 hx;obtain⟨u,rfl,h2⟩:=O4 hy;have a:=b.bu t.1 u.1 t.2 u.2 h1 h2 e;rw[a,h2]at h1;show t.2.fl.map (nD M)=u.2.fl.map (nD M);rw[Option.some.inj h1]
theorem Zsm:Cl bf:=by
 intro x hx b hb;obtain⟨t,rfl,h1⟩:=O4 hx;obtain⟨y,_,e⟩:=List.mem_map.mp (show some b∈t.2.fl.map (nD M)from hb);obtain⟨i,c,_,hc,a⟩:=Pr e;exact⟨_,Pg hc,a⟩
end
def NmP(M:Wm):Prop:=∀x∈M.names,∀i c,cellAt M i=some c->c.birth=x.2.2->i=x.2.1
section
variable {M:Wm}{w0:Int}
theorem Wf{b:Int}(h:∀i c,cellAt M i=some c->c.birth≠b):iJ bf b=none:=by
 unfold iJ;rw[Option.map_eq_none_iff,List.find?_eq_none];intro x hx;obtain⟨t,a,rfl⟩:=List.mem_map.mp (List.mem_reverse.mp hx);have:=h t.1 t.2 (lU a);exact λz=>this (of_decide_eq_true z)
theorem Zt0(p:TB w0 M)(pn:NmP M)(ph:M.sw.phase="walk"){m:Str×(Int×Int)}(hm:m∈M.names):ZR bf m=nD M (nG M m.2.1 m.2.2):=by
 have f:¬ M.sw.phase="give":=by rw[ph];decide
 by_cases h:∃i c,cellAt M i=some c/\c.birth=m.2.2
 ·obtain⟨i,c,hc,hb⟩:=h;have e:=pn m hm i c hc hb;subst e;have b:=p.Zsk (pC hc);have b:iJ bf m.2.2=some (.str (jP M m.2.1 c)):=by rw[<- hb];exact b
  have a:jq M m.2.1 m.2.2=false:=by
   unfold jq;rw[hc];show(if c.birth=m.2.2 then _ else _)=_;rw[if_pos hb,decide_eq_false (λz=>f z.1)]
  have d:Ai M=true:=decide_eq_true (.inl ph);unfold ZR nG;rw[b,a,hc];show(if V.str (jP M m.2.1 c)=.str "pale" then none else some m.2.2)=nD M (if false=true then none else if Ai M=true/\¬ c.tone=M.sw.sense then none else some m.2.1);rw[if_neg Bool.false_ne_true]
  by_cases z:c.tone=M.sw.sense
  ·rw[if_neg (show ¬ V.str (jP M m.2.1 c)=.str "pale" from λy=>(nT ph).mp (by injection y) z),if_neg (λy=>y.2 z)];show some m.2.2=(cellAt M m.2.1).map _;rw[hc,<- hb];rfl
  ·rw[if_pos (show V.str (jP M m.2.1 c)=.str "pale" by rw[(nT ph).mpr z]),if_pos ⟨d,z⟩];rfl
 ·have h:∀i c,cellAt M i=some c->c.birth≠m.2.2:=λi c hc hb=>h ⟨i,c,hc,hb⟩;have a:jq M m.2.1 m.2.2=true:=by
   unfold jq;cases hc:cellAt M m.2.1 with
   | none=>rfl
   | some c=>
    show(if c.birth=m.2.2 then _ else _)=_;rw[if_neg (h _ c hc)]
  unfold ZR nG;rw[Wf h,a];rfl
theorem Qn(p:TB w0 M)(pn:NmP M)(ph:M.sw.phase="walk"):lF M=(cP M).map λr=>r.map (nD M):=by
 unfold lF cP;rw[List.map_append];congr 1
 ·unfold rowsOf heldOf;rw[List.map_map];rfl
 ·show [_]=[_];congr 1;show _=(dU M).map (nD M);unfold dU;rw[List.map_map];exact List.map_congr_left λm hm=>Zt0 p pn ph hm
theorem vh{i:Int}{c:Ce}(h:cellAt M i=some c):KB.DQ eu i=some c.fl:=by rw[S8,h];rfl
theorem Zen{i:Int}(h:(KB.DQ eu i).isSome=true):∃c,cellAt M i=some c:=by
 obtain⟨fl,e⟩:=Option.isSome_iff_exists.mp h;rw[S8]at e;obtain⟨c,hc,_⟩:=Option.map_eq_some_iff.mp e;exact⟨c,hc⟩
theorem HY{i:Int}{c:Ce}(h:cellAt M i=some c):nD M (some i)=some c.birth:=by
 show(cellAt M i).map _=_;rw[h];rfl
theorem Zt1(p:TB w0 M)(o:lF M=(cP M).map λr=>r.map (nD M)){q h:List cb}(s:KB.wR eu (cP M) q q.length h)(b:Int):Rb (lF M) bf b↔∃x∈h,∃c,cellAt M x.1=some c/\c.birth=b:=by
 obtain⟨h1,h2,C⟩:=Zhg s;have f:∀y,(∃v,(y,v)∈q)->∃x∈h,x.1=y:=λy ⟨v,hv⟩=>by
  obtain⟨i,m,e⟩:=List.getElem_of_mem hv;have:=h1 i (y,v) m (by rw[bG m,e]);obtain⟨x,hx,ex⟩:=List.mem_map.mp this;exact⟨x,hx,ex⟩
 constructor
 ·intro r
  induction r with
  | row hr hb=>
   rw[o]at hr;obtain⟨row,g,rfl⟩:=List.mem_map.mp hr;obtain⟨y,hy,e⟩:=List.mem_map.mp hb;obtain⟨i,c,rfl,hc,k⟩:=Pr e;obtain⟨x,hx,rfl⟩:=f i (h2 row g i hy (by rw[vh hc];rfl));exact⟨x,hx,c,hc,k⟩
  | via _ hx hb A=>
   obtain⟨z,hz,c,hc,D⟩:=A;obtain⟨t,rfl,l⟩:=O4 hx;have u:t.1=z.1:=p.bu _ _ _ _ l hc D.symm;rw[u,hc]at l;obtain⟨y,hy,e⟩:=List.mem_map.mp hb;obtain⟨i,d,rfl,hd,k⟩:=Pr e;have w:t.2=c:=(Option.some.inj l).symm;obtain⟨x,hx,rfl⟩:=f i (C z hz c.fl (vh hc) i (by rw[<- w];exact hy) (by rw[vh hd];rfl));exact⟨x,hx,d,hd,k⟩
 ·rintro⟨x,hx,c,hc,rfl⟩;have:=(Zr8 (F:=fdOf M) (R:=cP M) (P:=λi=>∀c,cellAt M i=some c->Rb (lF M) bf c.birth) (λrow hr y hy c hc=>?_) (λi fl B j y hy c hc=>?_) s).2 x hx c hc
  ·exact this
  ·refine .row (r:=row.map (nD M)) (by rw[o];exact List.mem_map.mpr ⟨row,hr,rfl⟩) (List.mem_map.mpr ⟨some y,hy,HY hc⟩)
  ·obtain⟨n,a⟩:=Zen (M:=M) (i:=i) (by rw[j];rfl);rw[vh a]at j;cases j;exact .via (x:=UJ M (i,n)) (B n a) (Pg a) (List.mem_map.mpr ⟨some y,hy,HY hc⟩)
theorem Zj8{pl:Int}{c:Ce}(hc:cellAt M pl=some c):∀(fs:AE) (y:AA),fs.foldl (KB.nxt eu) y=some pl->(∀f∈fs,0<=f)->ChB bf c.birth (nD M y) fs
 | [],y,h,_=>by
  have h:y=some pl:=h;rw[h,HY hc];exact .nil
 | f::fs,y,h,k=>by
  have j:∀l:AE,l.foldl (KB.nxt eu) none=none:=λl=>by
   induction l with
   | nil=>rfl
   | cons a l o=>exact o
  have h:fs.foldl (KB.nxt eu) (KB.nxt eu y f)=some pl:=h;cases y with
  | none=>rw[show KB.nxt eu none f=none from rfl,j]at h;cases h
  | some i=>
   cases d:KB.DQ eu i with
   | none=>
    rw[show KB.nxt eu (some i) f=none by show(match KB.DQ eu i with | none=>none | some fl=>if 0<=f then(fl[f.toNat]?).join else none)=none;rw[d],j]at h;cases h
   | some fl=>
    obtain⟨e,b⟩:=Zen (M:=M) (i:=i) (by rw[d];rfl);rw[vh b]at d;cases d;have m:=k f ζ;have p:KB.nxt eu (some i) f=(e.fl[f.toNat]?).join:=by show(match KB.DQ eu i with | none=>none | some fl=>if 0<=f then(fl[f.toNat]?).join else none)=_;rw[vh b];exact if_pos m
    rw[p]at h;cases hy:e.fl[f.toNat]? with
    | none=>rw[hy,show(none:Option AA).join=none from rfl,j]at h;cases h
    | some n=>
     rw[hy]at h;rw[HY b];exact .cons (x:=UJ M (i,e)) (Pg b) m (by show(e.fl.map (nD M))[f.toNat]? =_;rw[bL,hy];rfl) (Zj8 hc fs n h λg q=>k g (by simp[q]))
theorem Zut(f:lF M=(cP M).map λr=>r.map (nD M)){pl:Int}{w:AE}{c:Ce}(g:KB.Good eu (cP M) pl w)(hc:cellAt M pl=some c):Zsf (lF M) bf w c.birth:=by
 obtain⟨⟨r,s,fs,row,rfl,e,d,hr,hs,h5,b⟩,_⟩:=g;have a:row[s.toNat]? =some row[s.toNat]:=bG hs;refine⟨r,s,fs,row.map (nD M),nD M row[s.toNat],rfl,e,d,by rw[f,bL,hr];rfl,by rw[bL,a];rfl,Zj8 hc fs _ ?_ h5⟩;have:KB.slt (cP M) r s=row[s.toNat]:=by
  unfold KB.slt;rw[hr];show(row[s.toNat]?).join=_;rw[a];rfl
 rw[this]at b;exact b
theorem Gg(p:TB w0 M)(ph:M.sw.phase="walk"){i:Int}{c:Ce}(h:cellAt M i=some c):c.birth∈cB bf↔c.tone≠M.sw.sense:=by
 have:=p.Zrv ph h;unfold inP jO at this;rw[h]at this;have this:decide (c.birth∈cB bf)=decide (c.tone≠M.sw.sense):=this;exact decide_eq_decide.mp this
end
def Af(M:Wm):Wm:={ fK M with sw:={ (fK M).sw with phase:="give" } }
def G7(a:List Tc)(b:Int):Option V:=if ∃x∈a,x.b=b then some (.str "kept")else none
theorem Zgg(a:List Tc)(x:Tc)(b:Int):G7 (a++[x]) b=if b=x.b then some (.str "kept")else G7 a b:=by
 unfold G7
 by_cases e:b=x.b
 ·rw[if_pos e,if_pos ⟨x,ζ,e.symm⟩]
 ·rw[if_neg e]
  by_cases h:∃y∈a,y.b=b
  ·obtain⟨y,hy,c⟩:=h;rw[if_pos ⟨y,by simp[hy],c⟩,if_pos ⟨y,hy,c⟩]
  ·rw[if_neg h,if_neg];rintro⟨y,hy,c⟩;rcases List.mem_append.mp hy with hy | hy
   ·exact h ⟨y,hy,c⟩
   ·rw[List.mem_singleton.mp hy]at c;exact e c.symm
section
variable {M:Wm}{w0:Int}
theorem Zmr(ph:M.sw.phase="walk"):jf M=cB bf:=by
 unfold jf cB dY iK;rw[List.filter_map,List.map_map,<- List.filterMap_eq_map,<- List.filterMap_eq_filter,List.filterMap_filterMap,List.filterMap_filterMap];congr 1
 funext i
 unfold qK;cases h:(M.cells[i]?).join with
 | none=>rfl
 | some c=>
  have e:=nT ph (i:=(i:Int)) (c:=c);show((if c.tone=M.sw.sense then none else some c):Option Ce).map (·.birth)=((if decide (jP M (i:Int) c=("pale":Str))=true then some ((i:Int),c)else none):Option (Int×Ce)).bind λt=>some t.2.birth
  by_cases z:c.tone=M.sw.sense
  ·rw[if_pos z,if_neg (λy=>e.mp (of_decide_eq_true y) z)];rfl
  ·rw[if_neg z,if_pos (decide_eq_true (e.mpr z))];rfl
theorem Zl9(p:TB w0 M)(ph:M.sw.phase="walk"){j:Nat}{x a:Tc}(h1:(dY M)[j]? =some x)(h2:(dY (Af M))[j]? =some a):a.p=x.p/\a.b=x.b/\a.bulk=x.bulk/\a.load=x.load/\a.fs=x.fs/\u9 "doomed" (G7 bf) (cB bf) x.b=some (.str a.tone):=by
 unfold dY at h1 h2;rw[bL]at h1 h2;obtain⟨t,c,rfl⟩:=Option.map_eq_some_iff.mp h1;rw[show iK (Af M)=iK M from rfl,c]at h2;obtain rfl:UJ (Af M) t=a:=Option.some.inj h2;have hm:=List.mem_of_getElem? c;have hc:=lU hm;refine⟨rfl,rfl,rfl,rfl,rfl,?_⟩;show u9 "doomed" (G7 bf) (cB bf) t.2.birth=some (.str (jP (Af M) t.1 t.2));have e:jP (Af M) t.1 t.2=if t.2.tone=M.sw.sense then("kept":Str)else "doomed":=by
  unfold jP;rw[if_neg (show ¬ (Af M).sw.phase="rest" by show ¬ ("give":Str)="rest";decide),if_pos (show(Af M).sw.phase="give" from rfl)];rfl
 unfold u9;rw[e]
 by_cases z:t.2.tone=M.sw.sense
 ·rw[if_pos z,if_neg (λy=>(Gg p ph hc).mp y z)];unfold G7;rw[if_pos ⟨UJ M t,List.mem_map.mpr ⟨t,hm,rfl⟩,rfl⟩]
 ·rw[if_neg z,if_pos ((Gg p ph hc).mpr z)]
end
inductive Ue(X:Cs)(wo:AI)(lc:AI)(lp:AI)(ev:AI)(H:Hp)(Q:VK):Prop
 | mk (T s A M w0 l) (_:WJ X H T s A (Af M)) (_:A.wo=wo) (_:J3 (Af M)) (_:TB w0 M) (_:M.sw.phase="walk") (_:M.sw.loss=.non) (_:CtO H lc (dY M)) (_:H lp=some (.lst ((cB (dY M)).map V.int))) (_:H ev=some (.tup [.str "cut",.int (jf M).length,.ref l])) (_:H l=some (.lst ((jf M).map V.int))) (_:∀H',aX H H'->Q (.bl true) H'):Ue X wo lc lp ev H Q
def vC(X:Cs):Sp:=λvs H Q E=>∃wo lc a b,vs=[.ref wo,.ref lc,.ref a,.ref b]/\Ue X wo lc a b H Q
section
theorem TY{wo lc w N:AI}(e:lq K X)(q:Ue X wo lc w N H Q):
  yu K (Zbw K) (J9 K) vB (Zbp X) ξ [↑wo,↑lc,↑w,↑N,none,none,none,none] H:=by
 obtain⟨T,s,A,M,w0,l,j,rfl,ok,tb,ph,hls,oc,g,E,ol,q⟩:=q;obtain⟨dw,ow⟩:=j.jb.ow;obtain⟨ds,os⟩:=j.js.os;obtain⟨dh,oh⟩:=j.jh.oh;have oca:=j.jh.oc;have lc':=j.jc.lc;have hcl:M.cells.length<=_:=ok.cl;have ltl:=um (M:=M);have ltc:=mJ (M:=M);obtain⟨u,c1,c2,c3⟩:=id oc;rw[Zmr ph]at E ol;unfold yu;apply aJ ow e.cW e.Io aV ?_;apply eU (bN.of g) ?_;rw[aR];apply⟨w,_,rfl,bN.of g,λla nla=>?_⟩;generalize zz:upd H la _=H1;obtain⟨s1,g1⟩:=nwO nla zz;apply⟨aQ ζ,λta nta=>?_⟩;generalize zz:upd H1 ta _=H2;obtain⟨s2,g2⟩:=nwO nta zz;have a:=s1.trans s2;exists N,ta,rfl,"cut",_,l,la,_,a _ _ E,g2,a _ _ ol,s2 _ _ g1,true,rfl;refine Za8 ?_;have k:=a _ _ os;apply aJ k e.cS e.n6 pU ?_;exists _,rfl,true,rfl;refine Za8 ?_;apply aJ k e.cS e.n6 pU ?_;apply qT dS λ_=>?_;apply aJ k e.cS e.n7 qp ?_;exists _,rfl,true,rfl;refine Za8 ?_;apply aJ k e.cS e.n7 qp ?_;apply aJ (a _ _ ow) e.cW e.Gy bz ?_;apply aJ (a _ _ oh) e.c.cT e.c.bR bM ?_;apply eU (bN.of (a _ _ oca)) ?_;rw[aR,lc'];apply qT dS λ_=>?_;ext;intro d nd;have s3:=aH nd (.dK []);have g3:CW (upd H2 d (.dK [])) d (G7 []) 0:=⟨[],aq,Nat.le_refl _,λb=>(if_neg (by rintro ⟨_,h,_⟩;exact nomatch h)).symm⟩;generalize upd H2 d (.dK [])=H3 at s3 g3 ⊢;have Je:=a.trans s3;apply⟨lc,rfl,⟨_,bN.of (Je _ _ c1)⟩,forL (u.map V.ref) (λi m S=>∃Y,m=[↑A.wo,↑lc,↑w,↑N,↑A.sw,↑d,Y,none]/\aX H S/\CW S d (G7 ((dY M).take i)) i) ⟨_,rfl,Je,g3⟩ (by rintro _ _ _ _ ⟨_,_,y,_⟩;exact bN.of (y _ _ c1)) ?_ ?_⟩
 ·rintro i y m S hy ⟨Y,rfl,F,R⟩;rw[bL]at hy;obtain⟨r,hr,rfl⟩:=Option.map_eq_some_iff.mp hy;have hi:i<u.length:=(cI hr).1;obtain⟨x,hx⟩:∃x,(dY M)[i]? =some x:=⟨_,bG δ⟩;have v:(dY M).take cy=(dY M).take i++[x]:=by rw[List.take_add_one,hx];rfl
  obtain⟨fa,p,_⟩:=c3 i r x hr hx;have p:=F _ _ p;exists r,_,1,_,rfl,rfl,dR.of p,rfl;obtain⟨Z,p1,⟨f,J,U,D⟩,o,p3⟩:=R.put δ x.b (.str "kept");refine⟨d,Z,rfl,p1,_,rfl,λc o' hc=>?_,f,J,U,λb=>?_⟩
  ·rw[p3,aD (aF (a _ _ hc) nd)];exact F _ _ hc
  ·rw[D b,v,Zgg]
 ·rintro m S ⟨Y,rfl,F,R⟩;rw[aR,List.take_of_length_le δ]at R;have lpl:=QM bf;apply⟨w,rfl,⟨_,bN.of (F _ _ g)⟩,forL ((cB bf).map V.int) (λi m W=>∃v7,m=[↑A.wo,↑lc,↑w,↑N,↑A.sw,↑d,Y,v7]/\aX H W/\CW W d (u9 "doomed" (G7 bf) ((cB bf).take i)) (u.length+i)) ⟨_,rfl,F,?_⟩ (by rintro _ _ _ _ ⟨_,_,y,_⟩;exact bN.of (y _ _ g)) ?_ ?_⟩
  ·obtain⟨f,J,U,D⟩:=R;exact⟨f,J,δ,λb=>by rw[D b];unfold u9;rw[if_neg ζ]⟩
  ·rintro i y m W hy ⟨v7,rfl,B,P⟩;rw[bL]at hy;obtain⟨b0,I,rfl⟩:=Option.map_eq_some_iff.mp hy;have hi:i<(cB bf).length:=(cI I).1;have v:(cB bf).take cy=(cB bf).take i++[b0]:=by rw[List.take_add_one,I];rfl
   ext;obtain⟨Z,p1,⟨f,J,U,D⟩,o,p3⟩:=P.put δ b0 (.str "doomed");refine⟨d,Z,rfl,p1,_,rfl,λc o' hc=>?_,f,J,U,λb=>?_⟩
   ·rw[p3,aD (aF (a _ _ hc) nd)];exact B _ _ hc
   ·rw[D b,v,RN]
  ·rintro m W ⟨v7,rfl,B,P⟩;rw[aR,List.take_length]at P;have O:=B _ _ os;apply aJ O e.cS e.n2 cY ?_;apply qT dS λ_=>?_;apply aJ O e.cS e.n11 qt ?_;rw[show(Af M).sw.loss=.non from hls];apply⟨_,rfl,T,s,A,Af M,j.same B,rfl,by show(Af M).cells.length<=_;have:=ok.cl;omega,λc hc=>by have:=ok.fl c hc;omega,λlc2 rs H6 s6 o1 hl hr _=>?_⟩;have oc2:CtO H6 lc2 (dY (Af M)):=⟨rs,o1,by rw[hl];exact mJ.symm,λi r x e1 C=>by
    unfold dY at C;rw[bL]at C;obtain⟨t,ht,rfl⟩:=Option.map_eq_some_iff.mp C;obtain⟨fa,z,_⟩:=hr i r t e1 ht;exact⟨fa,z⟩⟩
   have L:=B.trans s6;apply⟨_,_,_,rfl,dY M,dY (Af M),_,_,oc2,oc.same L,P.same s6,?_,δ,λj x x' e1 C=>Zl9 tb ph e1 C,λH' s'=>q H' (L.trans s')⟩;rw[mJ,mJ];rfl
end
def gW(M:Wm)(v:V):Wm:={ fK M with sw:={ (fK M).sw with phase:="lost",loss:=v } }
section
variable {M:Wm}{w0:Int}
theorem Znj(ph:M.sw.phase="walk")(v:V):dY (gW M v)=dY M:=by
 unfold dY;rw[show iK (gW M v)=iK M from rfl];refine List.map_congr_left λt _=>?_;unfold UJ;have e:jP (gW M v) t.1 t.2=jP M t.1 t.2:=by
  unfold jP;rw[if_neg (show ¬ (gW M v).sw.phase="rest" by show ¬ ("lost":Str)="rest";decide),if_neg (show ¬ (gW M v).sw.phase="give" by show ¬ ("lost":Str)="give";decide),if_neg (show ¬ M.sw.phase="rest" by rw[ph];decide),if_neg (show ¬ M.sw.phase="give" by rw[ph];decide)];rfl
 rw[e];rfl
theorem Zik(p:TB w0 M)(pn:NmP M)(ph:M.sw.phase="walk")(v:V){m:Str×(Int×Int)}(hm:m∈M.names):jq (gW M v) m.2.1 m.2.2=decide (iJ bf m.2.2=none)/\nG (gW M v) m.2.1 m.2.2=if (iJ bf m.2.2).getD (.str "pale")=.str "pale" then none else some m.2.1:=by
 have g:¬ (gW M v).sw.phase="give":=by show ¬ ("lost":Str)="give";decide
 have b:∀i,cellAt (gW M v) i=cellAt M i:=λi=>rfl
 by_cases h:∃i c,cellAt M i=some c/\c.birth=m.2.2
 ·obtain⟨i,c,hc,hb⟩:=h;have e:=pn m hm i c hc hb;subst e;have d:=p.Zsk (pC hc);have d:iJ bf m.2.2=some (.str (jP M m.2.1 c)):=by rw[<- hb];exact d
  have a:jq (gW M v) m.2.1 m.2.2=false:=by
   unfold jq;rw[b,hc];show(if c.birth=m.2.2 then _ else _)=_;rw[if_pos hb,decide_eq_false (λz=>g z.1)]
  have f:Ai (gW M v)=true:=decide_eq_true (.inr rfl);rw[d,a];refine⟨(decide_eq_false ai).symm,?_⟩;unfold nG;rw[a,b,hc];show(if false=true then none else if Ai (gW M v)=true/\¬ c.tone=M.sw.sense then none else some m.2.1)=if V.str (jP M m.2.1 c)=.str "pale" then none else some m.2.1
  rw[if_neg Bool.false_ne_true]
  by_cases z:c.tone=M.sw.sense
  ·rw[if_neg (show ¬ V.str (jP M m.2.1 c)=.str "pale" from λy=>(nT ph).mp (by injection y) z),if_neg (λy=>y.2 z)]
  ·rw[if_pos (show V.str (jP M m.2.1 c)=.str "pale" by rw[(nT ph).mpr z]),if_pos ⟨f,z⟩]
 ·have h:∀i c,cellAt M i=some c->c.birth≠m.2.2:=λi c hc hb=>h ⟨i,c,hc,hb⟩;have a:jq (gW M v) m.2.1 m.2.2=true:=by
   unfold jq;rw[b];cases hc:cellAt M m.2.1 with
   | none=>rfl
   | some c=>
    show(if c.birth=m.2.2 then _ else _)=_;rw[if_neg (h _ c hc)]
  rw[Wf h,a];refine⟨(decide_eq_true rfl).symm,?_⟩;unfold nG;rw[a];rfl
end
theorem Zp4{M a:Wm}{e:Ev}{lb:Int}{lw:AE}(r:nj lb lw M e a)(ph:M.sw.phase="lost"):e=⟨"lost",some lb,lw⟩/\a=M:=by
 cases r with
 | again=>exact⟨rfl,rfl⟩
 | begin h=>exact absurd (ph.symm.trans h) ε
 | walk _ _ _ h=>exact absurd (ph.symm.trans h) ε
 | look _ h=>exact absurd (ph.symm.trans h) ε
 | cut _ _ h=>exact absurd (ph.symm.trans h) ε
 | lost _ _ _ _ _ _ h=>exact absurd (ph.symm.trans h) ε
 | pass h=>exact absurd (ph.symm.trans h) ε
 | back _ h=>exact absurd (ph.symm.trans h) ε
 | fin h=>exact absurd (ph.symm.trans h) ε
inductive T9(X:Cs)(wo:AI)(H:Hp)(Q:VK):Prop
 | mk (T s A M) (_:WJ X H T s A M) (_:A.wo=wo) (_:M.sw.phase=("lost":Str)) (_:∀H',aX H H'->Q (.int 0) H'):T9 X wo H Q
def Zew(X:Cs):Sp:=λvs H Q E=>∃wo,vs=[.ref wo]/\T9 X wo H Q
inductive IlQ(X:Cs)(wo lc ev du:AI)(H:Hp)(Q:VK):Prop
 | mk (H0 T0 T A M w0 v b w le wd) (_:WT H T) (_:Kp H0 H T0 T) (_:H0 le=none) (_:WJ X H T 1 A (gW M v)) (_:A.wo=wo) (_:J3 (gW M v)) (_:TB w0 M) (_:NmP M) (_:(M.names.map (·.1)).Nodup) (_:M.sw.phase="walk") (_:w.length<=100000) (_:(∀H',(∀b o,H b=some o->T b=(0,0)->b≠le->H' b=some o)->CtO H' lc (dY M))) (_:H ev=some (.tup [.str "lost",.int b,.ref le])) (_:H le=some (.lst (w.map V.int))) (_:(T le).1≠1) (_:Ut H T (gW M v) b w) (_:LsN H (gW M v) ev) (_:H du=some (.tup [.str "lost",.int b,.ref wd])) (_:H wd=some (.lst (w.map V.int))) (_:wd≠le) (_:T wd=(0,0)) (_:T du=(0,0)) (_:∀H' T' A',Kp H0 H' T0 T'->WT H' T'->WJ X H' T' 1 A' (gW M v)->A'.wo=wo->Q (.bl true) H'):IlQ X wo lc ev du H Q
def qm(X:Cs):Sp:=λvs H Q E=>∃wo lc b a,vs=[.ref wo,.ref lc,.ref b,.ref a]/\IlQ X wo lc b a H Q
section
theorem Zf8{wo:AI}(a:lq K X)(q:T9 X wo H Q):Qq K (cM X Zcv) ξ [↑wo,none] H:=by
 obtain⟨T,s,A,M,j,rfl,ph,q⟩:=q;obtain⟨d1,ow⟩:=j.jb.ow;obtain⟨d2,os⟩:=j.js.os;rw[ph]at os;unfold Qq;exists λg d c=>d=[↑A.wo,some (.int 0)]/\aX H c,⟨0,rfl,aX.refl _⟩;rintro g d c ⟨rfl,b⟩;apply aJ (b _ _ ow) a.cW a.Io aV ?_;apply aJ (b _ _ os) a.cS a.n2 cY ?_;apply⟨aQ ζ,λtp f=>?_⟩;have e:=aH f (.tup [V.str "rest",.str "lost"]);refine⟨tp,_,rfl,.inr (dR.of aq),rfl,rfl,?_⟩;refine⟨false,rfl,?_⟩;apply q _ (b.trans e)
theorem WJ.Zxy{T:Tg}{s:Nat}{A:Wa}{M:Wm}{l:AI}(j:WJ X H T s A M){xs:List V}{v:Nat×Nat}(hl:H l=some (.lst xs))(J:(T l).1≠s):WJ X H (eZ T l v) s A M:=by
 have ts:∀{b:AI}{m:Nat},T b=(s,m)->eZ T l v b=(s,m):=λ{b m} h=>(eE λe=>J (by rw[<- e,h])).trans h;have r:∀{b:AI}{o:HO},H b=some o->(∀P,o≠.lst P)->T b=(0,0)->eZ T l v b=(0,0):=λ{b o} hb n h=>(eE λe=>by rw[e,hl]at hb;exact n _ (Option.some.inj hb).symm).trans h;obtain⟨⟨E,I,K,O,F,⟨_,w⟩,⟨_,a⟩,B⟩,⟨h1,h2,N,h4⟩,⟨n1,n2,n3⟩,⟨D,L,x,y⟩,⟨d1,d2,d3⟩,⟨c1,c2⟩⟩:=j;refine⟨⟨ts E,r w (λ_ z=>nomatch z) I,?_,ts O,F,⟨_,w⟩,⟨_,a⟩,B⟩,⟨ts h1,ts h2,N,h4⟩,⟨ts n1,n2,n3.mono (by rintro t m ⟨z1,z2⟩;exact⟨r z2 (λ_ z=>nomatch z) z1,z2⟩)⟩,⟨ts D,ts L,x,y⟩,⟨d1,d2,λj p m q g=>?_⟩,⟨c1,λi p c q g=>?_⟩⟩
 ·rcases a with ⟨_,a⟩ | ⟨_,a⟩ | ⟨_,a⟩<;>exact r a (λ_ z=>nomatch z) K
 ·obtain⟨u,f,k,d⟩:=d3 j p m q g;exact⟨ts u,ts f,k,d⟩
 ·have e:=c2 i p c q g;cases p with
  | none=>cases c with
   | none=>trivial
   | some c=>exact e.elim
  | some p=>cases c with
   | none=>exact e.elim
   | some c=>
    obtain⟨u,f,k,d⟩:=(show CeO X.C H T s i p c from e);exact(show CeO X.C H (eZ T l v) s i p c from⟨ts u,ts f,k,d⟩)
theorem O3{wo lc ev E:AI}(u:lq K X)(q:IlQ X wo lc ev E H Q):
  xm K (Zbw K) (Zey X) (J9 K) vB (Pu K) (cM X Zcv) (Zew X) (Zbp X) ξ [↑wo,↑lc,↑ev,↑E,none,none] H:=by
 obtain⟨H0,T0,T,A,M,w0,v,b,w,le,wd,wt,kp,nle,j,rfl,ok,tb,pn,nd,ph,wl,oc,B,f,tle,lo,ls,s,R,nwd,twd,tdu,q⟩:=q;obtain⟨x,U,ex,tx,ox,twl,owl⟩:=lo;have nl0:U≠le:=(ls _ _ _ _ _ _ _ ex ox B).symm;unfold xm;exists ev,E,rfl,"lost",b,le,wd,w,B,s,f,R;exists ev,_,2,_,rfl,rfl,dR.of B,rfl,.inl ⟨rfl,_,bN.of f⟩;apply⟨le,_,_,rfl,rfl,f,by rw[aR,sizeLine_eq];omega,?_⟩;have w1:WT H (eZ T le (2,9)):=λb hb=>by
  rw[eE (λe=>by rw[e,f]at hb;cases hb)];exact wt b hb
 have st:gD 2 H (upd H le (.lst en)) (eZ T le (2,9)) (eZ T le (2,9)):=gD.upd w1 f (by rw[fL]);have j1:WJ X (upd H le (.lst en)) (eZ T le (2,9)) 1 A (gW M v):=(j.Zxy f tle).other st ε ε;have ne:∀{b:AI}{o:HO},H0 b=some o->b≠le:=λh=>aF h nle;have F:Kp H0 (upd H le (.lst en)) T0 (eZ T le (2,9)):=⟨λb o h t0=>(aD (ne h)).trans (kp.k b o h t0),λb o h=>(eE (ne h)).trans (kp.tg b o h),λb o h=>by
  obtain⟨o2,h2⟩:=kp.al b o h;exact⟨o2,(aD (ne h)).trans h2⟩⟩
 have nt:∀{a:AI}{vs:List V},H a=some (.tup vs)->a≠le:=λh e=>by rw[e,f]at h;cases h
 have lo1:Ut (upd H le (.lst en)) (eZ T le (2,9)) (gW M v) b w:=⟨x,U,ex,(eE (nt ox)).trans tx,(aD (nt ox)).trans ox,(eE nl0).trans twl,(aD nl0).trans owl⟩;have Z:upd H le (.lst en) E=some (.tup [.str "lost",.int b,.ref wd]):=(aD (nt s)).trans s;have Y:upd H le (.lst en) wd=some (.lst (w.map V.int)):=(aD nwd).trans R;have S:eZ T le (2,9) E=(0,0):=(eE (nt s)).trans tdu;have N:eZ T le (2,9) wd=(0,0):=(eE nwd).trans twd;have D:∀b o,H b=some o->T b=(0,0)->b≠le->upd H le (.lst en) b=some o/\eZ T le (2,9) b=(0,0):=λb o h t e=>⟨(aD e).trans h,(eE e).trans t⟩;have C:=st.wt;generalize upd H le (.lst en)=H1 at C j1 F lo1 Z Y D ⊢;generalize eZ T le (2,9)=T1 at C j1 F lo1 S N D;apply⟨_,rfl,T1,1,A,gW M v,b,w,C,ε,j1,rfl,ok,trivial,λ_=>lo1,λe M' r H2 T2 A2 ev2 l L g evn lo2=>?_⟩;obtain⟨rfl,rfl⟩:e=⟨"lost",some b,w⟩/\M'=gW M v:=Zp4 r rfl;obtain⟨b',hb',⟨y,yl,ey,ty,oy,tyl,oyl⟩,_⟩:=lo2 rfl;cases (show some b=some b' from hb');obtain⟨le2,_,oe2,Zy1⟩:=evn;have W:=l.kp _ _ Z (by rw[S];decide);have O:=l.kp _ _ Y (by rw[N];decide);obtain⟨dw,ow⟩:=L.jb.ow;obtain⟨ds,os⟩:=L.js.os;rw[g.1]at ow;exists ev2,E,rfl,"lost",b,le2,wd,w,oe2,W,Zy1,O;apply aJ ow u.cW u.Io aV ?_;apply aJ os u.cS u.n11 qt ?_;rw[ey];exists y,E,rfl,"lost",b,yl,wd,w,oy,W,oyl,O;apply⟨_,rfl,T2,1,A2,gW M v,L,g.1,rfl,λH3 s3=>?_⟩;exists _,rfl,true,rfl;refine Za8 ?_;ext;have oc3:CtO H3 lc bf:=oc H3 λb o h t e=>by
  obtain⟨h1,t1⟩:=D b o h t e;exact s3 _ _ (l.kp _ _ h1 (by rw[t1];decide))
 have P:(gW M v).cells.length<=900:=ok.cl;have ltl:=um (M:=M);have ltc:=mJ (M:=M);have P:M.cells.length<=900:=P;refine qT dS λ_=>?_;apply⟨_,_,rfl,T2,1,A2,gW M v,dY M,ε,L.same s3,g.1,ok,nd,δ,oc3,λm hm=>(Zik tb pn ph v hm).1,λm hm=>(Zik tb pn ph v hm).2,λH4 s4=>?_⟩;have s34:=s3.trans s4;have oc4:=oc3.same s4;apply⟨aQ ζ,λe0 ne0=>?_⟩;generalize zz:upd H4 e0 _=H5;obtain⟨s5,g5⟩:=nwO ne0 zz;have g5:H5 e0=some (.lst (([]:AE).map V.int)):=g5;apply⟨_,_,_,rfl,dY M,[],oc4.same s5,δ,g5,ζ,λd H6 s6 _ od=>?_⟩;have p:=s34.trans (s5.trans s6);apply aJ (p _ _ ow) u.cW u.Io aV ?_;apply aJ (p _ _ os) u.cS u.n2 cY ?_;apply mG aT dS;apply⟨_,rfl,T2,1,A2,gW M v,L.same p,g.1,by show M.cells.length<=_;omega,λc hc=>by have:=ok.fl c hc;omega,λlc2 rs H7 s7 o1 hl hr _=>?_⟩;have oc2:CtO H7 lc2 (dY (gW M v)):=⟨rs,o1,by rw[hl];exact mJ.symm,λi r x e1 J=>by
  unfold dY at J;rw[bL]at J;obtain⟨t,ht,rfl⟩:=Option.map_eq_some_iff.mp J;obtain⟨fa,z,_⟩:=hr i r t e1 ht;exact⟨fa,z⟩⟩
 rw[Znj ph]at oc2;have s27:=p.trans s7;apply⟨_,_,_,rfl,dY M,dY M,_,_,oc2,oc4.same (s5.trans (s6.trans s7)),od.same s7,rfl,δ,λj x x' e1 J=>?_,λH' s'=>?_⟩
 ·rw[e1]at J;cases J;refine⟨rfl,rfl,rfl,rfl,rfl,?_⟩;rw[Js];obtain⟨t,ht,rfl⟩:=List.mem_map.mp (List.mem_of_getElem? e1);exact tb.Zsk ht
 ·have I:=s27.trans s';exact q H' T2 A2 (F.trans ((Kp.stp l ⟨ε,ε⟩).trans (Kp.same I))) (l.wt.same I) (L.same I) g.1
end
section
variable {F:KB.Fd}{R:KB.Rw}
theorem tH:∀(k:Nat) {q l j i:List cb},KB.wR F R q k l->KB.wR F R j k i->q=j/\l=i
 | 0,_,_,_,_,.start,.start=>⟨rfl,rfl⟩
 | k+1,_,_,_,_,.old b e m,h=>by
  cases h with
  | old c a d=>
   exact tH k b c
  | new c a d g=>
   obtain⟨rfl,rfl⟩:=tH k b c;rw[e]at a;cases a;exact absurd m d
 | k+1,_,_,_,_,.new b e m f,h=>by
  cases h with
  | old c a d=>
   obtain⟨rfl,rfl⟩:=tH k b c;rw[e]at a;cases a;exact absurd d m
  | new c a d g=>
   obtain⟨rfl,rfl⟩:=tH k b c;rw[e]at a;cases a;rw[f]at g;cases g;exact⟨rfl,rfl⟩
theorem Zr7{k:Nat}{q l:List cb}(b:KB.wR F R q k l):∀(j:Nat),j<=k->∃a c,KB.wR F R a j c/\(j<k->∃x,a[j]? =some x):=by
 induction b with
 | start=>
  intro j h;obtain rfl:j=0:=δ
  exact⟨_,_,.start,λz=>absurd z δ⟩
 | @old q k l p w b e m i=>
  intro j h
  by_cases n:j<=k
  ·obtain⟨a,c,d,g⟩:=i j n;refine⟨a,c,d,λ_=>?_⟩
   by_cases z:j<k
   ·exact g z
   ·obtain rfl:j=k:=δ
    obtain⟨rfl,rfl⟩:=tH _ b d;exact⟨_,e⟩
  ·obtain rfl:j=k+1:=δ
   exact⟨_,_,.old b e m,λz=>absurd z δ⟩
 | @new q k l p w fl b e m f i=>
  intro j h
  by_cases n:j<=k
  ·obtain⟨a,c,d,g⟩:=i j n;refine⟨a,c,d,λ_=>?_⟩
   by_cases z:j<k
   ·exact g z
   ·obtain rfl:j=k:=δ
    obtain⟨rfl,rfl⟩:=tH _ b d;exact⟨_,e⟩
  ·obtain rfl:j=k+1:=δ
   exact⟨_,_,.new b e m f,λz=>absurd z δ⟩
theorem Zaz{q l a c:List cb}(b:KB.wR F R q q.length l)(d:KB.wR F R a a.length c):l=c:=by
 have le:∀{q l a c:List cb},KB.wR F R q q.length l->KB.wR F R a a.length c->¬ q.length<a.length:=λ{q l a c} b d h=>by
  obtain⟨i,j,f,g⟩:=Zr7 d q.length δ;obtain⟨rfl,rfl⟩:=tH _ b f;obtain⟨x,hx⟩:=g h;rw[List.getElem?_eq_none Δ]at hx;cases hx
 have e:q.length=a.length:=by
  have h1:=le b d;have h2:=le d b;omega
 rw[e]at b;exact(tH _ b d).2
end
theorem Zrl{F:KB.Fd}{R:KB.Rw}{q l:List cb}{k:Nat}(b:KB.wR F R q k l):∀x∈l,x∈q:=by
 induction b with
 | start=>exact λx hx=>nomatch hx
 | old _ _ _ a=>exact a
 | new b hq hn c a=>
  intro x hx;rcases List.mem_append.mp hx with z | z
  ·exact List.mem_append.mpr (.inl (a x z))
  ·rw[List.mem_singleton.mp z];exact List.mem_append.mpr (.inl (List.mem_of_getElem? hq))
def Nl(M:Wm):Prop:=M.sw.phase≠("lost":Str)/\M.sw.loss=.non
theorem Zr5{M a:Wm}{d:lg}{e:Ev}(h:qj M d=.ok (e,a)):∃g,a.sw={ M.sw with grey:=g }:=by
 cases d<;>simp only[qj]at h<;>(repeat' split at h)<;>first | (cases h;done) | (cases h;exact⟨_,rfl⟩) | (cases h;exact(zY _ _).sw)
section
variable {M M':Wm}{e:Ev}{a:Int}{b:AE}
theorem Nl.keep(n:Nl M)(h:∃g,M'.sw={ M.sw with grey:=g }):Nl M':=by
 obtain⟨g,h⟩:=h;exact⟨by rw[h];exact n.1,by rw[h];exact n.2⟩
theorem Nl.step(n:Nl M)(h:nj a b M e M'):(e.word=("lost":Str)/\M'.sw.phase=("lost":Str))\/(e.word≠("lost":Str)/\Nl M'):=by
 cases h with
 | begin ph=>
  obtain⟨g,h⟩:=(Jo (kZ M.w M.hands.length) M.hands 0 (wA M)).sw;exact .inr ⟨by show ¬("begin":Str)="lost";decide,by rw[h];show ¬("walk":Str)="lost";decide,by rw[h];exact n.2⟩
 | walk x g c ph d hc=>
  obtain⟨l,h⟩:=(zY c.fl { M with sw:={ M.sw with grey:=g,walks:=M.sw.walks+1 } }).sw;exact .inr ⟨by show ¬("walk":Str)="lost";decide,by rw[h];exact n.1,by rw[h];exact n.2⟩
 | look N ph d p k=>
  obtain⟨l,h⟩:=(Jo bg M.hands 0 M).sw;subst k;exact .inr ⟨by show ¬("look":Str)="lost";decide,by show(fQ bg M.hands 0 M).2.sw.phase≠_;rw[h];exact n.1,by show(fQ bg M.hands 0 M).2.sw.loss=_;rw[h];exact n.2⟩
 | cut q f ph d j m hno=>exact .inr ⟨by show ¬("cut":Str)="lost";decide,by show ¬("give":Str)="lost";decide,n.2⟩
 | lost q f i x c v ph d j m hx hno hc o=>exact .inl ⟨rfl,rfl⟩
 | pass ph lt hp=>exact .inr ⟨by show ¬("pass":Str)="lost";decide,n⟩
 | back c ph lt hc o=>exact .inr ⟨by show ¬("back":Str)="lost";decide,n⟩
 | fin ph lt=>exact .inr ⟨by show ¬("end":Str)="lost";decide,by show ¬("rest":Str)="lost";decide,n.2⟩
 | again ph=>exact absurd ph n.1
end
structure Pm(M:Wm):Prop where
 nm:∀x∈M.names,x.2.2<=M.born/\∀i c,cellAt M i=some c->c.birth=x.2.2->i=x.2.1
 nd:(M.names.map (·.1)).Nodup
 gg:M.sw.phase="give"->M.sw.grey=[]
 le:M.sw.phase="give"->M.sw.at'<=M.sw.stop
structure Nn(M N:Wm):Prop where
 nm:N.names=M.names
 ph:N.sw.phase=M.sw.phase
 gr:M.sw.phase="give"->N.sw.grey=M.sw.grey
section
variable {M N:Wm}{w0:Int}
theorem Nn.refl(M:Wm):Nn M M:=⟨rfl,rfl,λ_=>rfl⟩
theorem Nn.trans{P:Wm}(a:Nn M N)(b:Nn N P):Nn M P:=⟨b.nm.trans a.nm,b.ph.trans a.ph,λz=>(b.gr (a.ph.trans z)).trans (a.gr z)⟩
theorem Nn.note(M:Wm)(x:AA):Nn M (bO M x).2:=by
 cases x with
 | none=>exact Nn.refl M
 | some i=>
  unfold bO;dsimp only;cases hc:cellAt M i with
  | none=>exact Nn.refl M
  | some c=>
   dsimp only;split
   ·rename_i z
    exact⟨rfl,rfl,λy=>absurd (z.1.symm.trans y) ε⟩
   ·exact Nn.refl M
theorem Nn.notes:∀(l:Au) (M:Wm),Nn M (aW M l).2
 | [],M=>Nn.refl M
 | x::l,M=>(Nn.note M x).trans (Nn.notes l _)
theorem Nn.slot(M:Wm)(h s:Nat)(x:AA)(l:Au):Nn M (aW (setSlot M h s x) l).2:=Nn.trans (N:=setSlot M h s x) ⟨rfl,rfl,λ_=>rfl⟩ (Nn.notes _ _)
theorem Nn.cell(M:Wm)(i:Int)(c:Ce)(l:Au):Nn M (aW (setCell M i c) l).2:=Nn.trans (N:=setCell M i c) ⟨rfl,rfl,λ_=>rfl⟩ (Nn.notes _ _)
theorem Pm.sb(p:Pm M)(h:Sb M N)(n:Nn M N):Pm N:=by
 refine⟨λx hx=>?_,by rw[n.nm];exact p.nd,λz=>?_,λz=>?_⟩
 ·rw[n.nm]at hx;obtain⟨h1,h2⟩:=p.nm x hx;refine⟨by rw[h.bn];exact h1,λi d hc e=>?_⟩;obtain⟨c,b,a,_⟩:=h.get hc;exact h2 i c b (by rw[<- a];exact e)
 ·rw[n.ph]at z;rw[n.gr z];exact p.gg z
 ·rw[n.ph]at z;rw[h.at_,h.st];exact p.le z
theorem Zk6{l:List b8}{k:Str}{v:Int×Int}{x:Str×(Int×Int)}(h:x∈nH l k v):x∈l\/x.2=v:=by
 unfold nH at h;split at h
 ·obtain⟨m,hm,e⟩:=List.mem_map.mp h;split at e
  ·rw[<- e];exact .inr rfl
  ·rw[<- e];exact .inl hm
 ·rcases List.mem_append.mp h with h | h
  ·exact .inl h
  ·rw[List.mem_singleton.mp h];exact .inr rfl
theorem Zmf{l:List b8}{k:Str}{v:Int×Int}(h:(l.map (·.1)).Nodup):((nH l k v).map (·.1)).Nodup:=by
 unfold nH;split
 ·rw[List.map_map];rw[show((λ(x:Str×(Int×Int))=>x.1) ∘ λm=>if m.1=k then(m.1,v)else m)=λx=>x.1 from funext λm=>by show(if m.1=k then(m.1,v)else m).1=m.1;split<;>rfl];exact h
 ·rename_i z
  rw[List.map_append];refine List.nodup_append.mpr ⟨h,ζ,λa c b hb e=>?_⟩;rw[List.map_singleton,List.mem_singleton]at hb;obtain⟨m,hm,rfl⟩:=List.mem_map.mp c;exact z (List.any_eq_true.mpr ⟨m,hm,decide_eq_true (e.trans hb)⟩)
theorem Pm.deed(p:Pm M)(k:TB w0 M){d:lg}{e:Ev}{m:Wm}(h:qj M d=.ok (e,m)):Pm m:=by
 cases d with
 | make a s b bulk=>
  simp only[qj]at h;split at h
  ·right;refine Pm.sb (M:={ M with used:=M.used+(1+b+bulk),born:=M.born+1,cells:=lO M.cells ⟨M.born+1,bulk,M.sw.sense,0,List.replicate b.toNat none⟩ }) ⟨λx hx=>?_,p.nd,p.gg,p.le⟩ eK ⟨rfl,rfl,λ_=>rfl⟩;obtain⟨o,n⟩:=p.nm x hx;refine⟨by show x.2.2<=M.born+1;omega,λi c hc j=>?_⟩;rcases gk hc with ⟨_,z⟩ | z
   ·rw[z]at j;have j:M.born+1=x.2.2:=j;omega
   ·exact n i c z j
  ·cases h
 | get a s t f=>
  simp only[qj]at h;split at h
  ·cases h
  ·split at h
   ·cases h
   ·split at h
    ·cases h
    ·right;exact p.sb eK ⟨rfl,rfl,λ_=>rfl⟩
 | put a t f s=>
  simp only[qj]at h;split at h
  ·cases h
  ·split at h
   ·cases h
   ·rename_i c hc
    split at h
    ·cases h
    ·right;exact p.sb ((Sb.cell (c':={ c with fl:=c.fl.set f (bw M a s) }) hc rfl (.inl rfl)).trans (Sb.notes _ _)) (Nn.cell _ _ _ _)
 | copy a s t=>
  right;exact p.sb eK ⟨rfl,rfl,λ_=>rfl⟩
 | drop a s=>
  right;exact p.sb eK ⟨rfl,rfl,λ_=>rfl⟩
 | give a s g t=>
  right;exact p.sb ((Sb.slot _ _ _ _).trans (Sb.notes _ _)) (Nn.slot _ _ _ _ _)
 | write a t l=>
  simp only[qj]at h;split at h
  ·cases h
  ·split at h
   ·cases h
   ·rename_i c hc
    right;exact p.sb (Sb.cell (c':={ c with load:=l }) hc rfl (.inl rfl)) ⟨rfl,rfl,λ_=>rfl⟩
 | read a t=>
  simp only[qj]at h;split at h
  ·cases h
  ·split at h
   ·cases h
   ·right;exact p
 | name a t z=>
  simp only[qj]at h;split at h
  ·cases h
  ·split at h
   ·cases h
   ·rename_i c hc
    right;refine⟨λx hx=>?_,Zmf p.nd,p.gg,p.le⟩;rcases Zk6 hx with hx | hx
    ·exact p.nm x hx
    ·rw[hx];exact⟨(k.bn _ c hc).2,λi d hd j=>k.bu i _ d c hd hc j⟩
 | seek a s z=>
  simp only[qj]at h;split at h
  ·cases h
  ·split at h
   ·right;exact p.sb eK ⟨rfl,rfl,λ_=>rfl⟩
   ·right;exact p.sb ((Sb.slot _ _ _ _).trans (Sb.notes _ _)) (Nn.slot _ _ _ _ _)
theorem Zr9{c:Ce}(hc:cellAt M M.sw.at'=some c){u:Int}{w:Sw}{i:Int}{d:Ce}(hd:cellAt { M with used:=u,cells:=M.cells.set M.sw.at'.toNat none,sw:=w } i=some d):i≠M.sw.at'/\cellAt M i=some d:=by
 obtain⟨b,h1⟩:=cC.mp hd;have h1:(M.cells.set M.sw.at'.toNat none)[i.toNat]? =some (some d):=h1;obtain⟨f,a⟩:=cC.mp hc
 by_cases z:M.sw.at'.toNat=i.toNat
 ·rw[z,List.getElem?_set_self (by rw[<- z];exact(cI a).1)]at h1;cases h1
 ·rw[List.getElem?_set_ne z]at h1;exact⟨λe=>z (by rw[e]),cC.mpr ⟨b,h1⟩⟩
theorem Pm.step(p:Pm M)(s:TB w0 M){j:Wm}{lb:Int}{lw:AE}{e:Ev}(h:nj lb lw M e j):Pm j:=by
 have b:¬ ("walk":Str)="give":=ε
 have f:¬ ("rest":Str)="give":=ε
 cases h with
 | begin ph=>
  rw[Zdf];exact Pm.sb (M:=wA M) ⟨p.nm,p.nd,λz=>absurd z b,λz=>absurd z b⟩ (Sb.notes _ _) (Nn.notes _ _)
 | walk x g c ph a hc=>exact Pm.sb (M:={ M with sw:={ M.sw with grey:=g,walks:=M.sw.walks+1 } }) ⟨p.nm,p.nd,λz=>absurd (ph.symm.trans z) b,p.le⟩ (Sb.notes _ _) (Nn.notes _ _)
 | look N ph a t m=>
  subst m;rw[Zdf];have q:=p.sb (Sb.notes (nhL bg M.hands 0) M) (Nn.notes _ _);exact⟨q.nm,q.nd,q.gg,q.le⟩
 | cut q k ph a l n hno=>exact⟨p.nm,p.nd,λ_=>a,λ_=>by show(0:Int)<=M.cells.length;omega⟩
 | lost q k i x c v ph a l n hx hno hc r=>exact⟨p.nm,p.nd,λz=>absurd z (show ¬ ("lost":Str)="give" by decide),λz=>absurd z (show ¬ ("lost":Str)="give" by decide)⟩
 | pass ph lt hp=>exact⟨p.nm,p.nd,p.gg,λ_=>by show M.sw.at'+1<=M.sw.stop;omega⟩
 | back c ph lt hc r=>exact⟨λx hx=>⟨(p.nm x hx).1,λi d hd o=>(p.nm x hx).2 i d (Zr9 hc hd).2 o⟩,p.nd,p.gg,λ_=>by show M.sw.at'+1<=M.sw.stop;omega⟩
 | fin ph lt=>exact⟨p.nm,p.nd,λz=>absurd z f,λz=>absurd z f⟩
 | again ph=>exact p
theorem Pm.Zy8{room w t:Int}{hs:Kf}:Pm (RB room hs w t):=by
 have a:¬ ("rest":Str)="give":=ε
 exact⟨λx hx=>(nomatch hx),.nil,λz=>absurd z a,λz=>absurd z a⟩
end
section
variable {M M':Wm}{w0:Int}
theorem Zv6{e:Ev}{lb:Int}{lw:AE}(r:nj lb lw M e M')(ph:M.sw.phase="walk")(m:M.sw.grey=[])(h:nZ M):
  (∃q f,KB.wR eu (cP M) q q.length f/\(∀x∈f,∀c,cellAt M x.1=some c->c.tone=M.sw.sense)/\e=⟨"cut",some (jf M).length,jf M⟩/\M'=Af M)\/
  (∃q f,∃i:Nat,∃x c v,KB.wR eu (cP M) q q.length f/\f[i]? =some x/\(∀(k:Nat) y d,k<i->f[k]? =some y->cellAt M y.1=some d->d.tone=M.sw.sense)/\cellAt M x.1=some c/\c.tone≠M.sw.sense/\e=⟨"lost",some c.birth,x.2⟩/\M'=gW M v):=by
 cases r with
 | begin a=>exact absurd (ph.symm.trans a) ε
 | walk s t p a b l=>rw[m]at b;cases b
 | look N a b g o=>exact absurd h g
 | cut q f a b h j hno=>exact .inl ⟨q,f,j,hno,rfl,rfl⟩
 | lost q f i x c v a b h j hx hno hc n=>exact .inr ⟨q,f,i,x,c,v,j,hx,hno,hc,n,rfl,rfl⟩
 | pass a=>exact absurd (ph.symm.trans a) ε
 | back c a=>exact absurd (ph.symm.trans a) ε
 | fin a=>exact absurd (ph.symm.trans a) ε
 | again a=>exact absurd (ph.symm.trans a) ε
def OD(M:Wm)(f:Int->Option V):AE:=(cB bf).filter λb=>(f b).isSome
theorem Zii(p:TB w0 M)(pn:NmP M)(ph:M.sw.phase="walk"){f:Int->Option V}(d:∀b,f b≠none↔Rb (lF M) bf b){q a:List cb}(g:KB.wR eu (cP M) q q.length a):OD M f=[]↔∀x∈a,∀c,cellAt M x.1=some c->c.tone=M.sw.sense:=by
 have e:=Zt1 p (Qn p pn ph) g;unfold OD;rw[List.filter_eq_nil_iff];constructor
 ·intro h x hx c hc;refine Classical.byContradiction ?_;intro i;refine h c.birth ((Gg p ph hc).mpr i) ?_;exact Option.isSome_iff_ne_none.mpr ((d _).mpr ((e _).mpr ⟨x,hx,c,hc,rfl⟩))
 ·intro h b hb hs;obtain⟨x,hx,c,hc,rfl⟩:=(e b).mp ((d b).mp (Option.isSome_iff_ne_none.mp hs));exact(Gg p ph hc).mp hb (h x hx c hc)
theorem Zoi{g:List cb}{i j:Nat}{x l:Int×AE}{c c':Ce}(hx:g[i]? =some x)(hno:∀(k:Nat) y d,k<i->g[k]? =some y->cellAt M y.1=some d->d.tone=M.sw.sense)(hc:cellAt M x.1=some c)(n:c.tone≠M.sw.sense)(a:g[j]? =some l)(f:∀(k:Nat) y d,k<j->g[k]? =some y->cellAt M y.1=some d->d.tone=M.sw.sense)(b:cellAt M l.1=some c')(m:c'.tone≠M.sw.sense):x=l/\c=c':=by
 have e:i=j:=by
  rcases Nat.lt_trichotomy i j with h | h | h
  ·exact absurd (f _ _ _ h hx hc) n
  ·exact h
  ·exact absurd (hno _ _ _ h a b) m
 subst e;rw[hx]at a;cases a;rw[hc]at b;cases b;exact⟨rfl,rfl⟩
end
inductive Zvf(X:Cs)(wo:AI)(way:Int)(H:Hp)(Q:VK):Prop
 | mk (T A M hs k) (_:WT H T) (_:WJ X H T 1 A M) (_:A.wo=wo) (_:KW M hs k) (_:TB way M) (_:HsB hs) (_:k<=900) (_:Nl M) (_:Pm M) (_:∀H' T' A' M',Kp H H' T T'->WT H' T'->WJ X H' T' 1 A' M'->A'.wo=wo->KW M' hs k->TB way M'->(M'.sw.phase="lost"\/Nl M')->Pm M'->Q (.bl true) H'):Zvf X wo way H Q
def Zbq(X:Cs):Sp:=λvs H Q E=>∃wo a,vs=[.ref wo,.int a]/\Zvf X wo a H Q
def Zxt(H:Hp)(T:Tg)(M d:Wm)(f:Int->Option V)(b:AI)(e:V):Prop:=
 (OD M f=[]/\e=.non/\d=Af M/\∃l,H b=some (.tup [.str "cut",.int (jf M).length,.ref l])/\H l=some (.lst ((jf M).map V.int)))\/
 (OD M f≠[]/\∃(v:V) (x:Int×AE) (c:Ce) (le t a:AI),d=gW M v/\cellAt M x.1=some c/\KB.Good eu (cP M) x.1 x.2/\x.2.length<=100000/\H b=some (.tup [.str "lost",.int c.birth,.ref le])/\H le=some (.lst (x.2.map V.int))/\(T le).1≠1/\Ut H T (gW M v) c.birth x.2/\LsN H (gW M v) b/\e=.ref t/\H t=some (.tup [.int c.birth,.ref a])/\H a=some (.lst (x.2.map V.int))/\a≠le/\T a=(0,0))
section
theorem Zla(xs:List V)(h:xs≠[]):Ae xs none (some (-1))=xs.take (xs.length - 1):=by
 unfold Ae;have l:=List.length_pos_iff.mpr h;show(xs.drop 0).take (HT.lK xs.length xs.length (some (-1)) - 0)=_;rw[List.drop_zero];congr 1;unfold HT.lK;show _ - 0=_;simp;omega
theorem Zss{H0 Hb:Hp}{T0 T:Tg}{A:Wa}{M s:Wm}{w0:Int}{lc lp lr fd rc lm ls ev:AI}{li:V}{way:Int}{f:Int->Option V}(Tx:lq K X)(w:WT H T)(kp:Kp H0 H T0 T)(tz:∀b o,H0 b=none->Hb b=some o->H b=some o/\T b=(0,0))(nle:∀le wd,H ev=some (.tup [.str "lost",wd,.ref le])->Hb le=none)(s0:aX H0 Hb)
  (j:WJ X H T 1 A s) (ok:J3 s) (tb:TB w0 M) (pm:Pm M) (ph:M.sw.phase="walk") (hg:M.sw.grey=[]) (hls:M.sw.loss=.non) (du:Zxt H T M s f ev li)
  (oc:CtF H0 Hb lc bf) (or:RwF H0 Hb lr (lF M)) (U:H0 fd=none) (od:FdF H0 Hb fd bf 1000) (nlp:H0 lp=none) (olp:Hb lp=some (.lst ((cB bf).map V.int))) (nlm:H0 lm=none) (olm:Hb lm=some (.lst ((OD M f).map V.int))) (nls:H0 ls=none) (ols:Hb ls=some (.lst ((stL M.sw).map V.int)))
  (q:∀H' T' Z,Kp H0 H' T0 T'->WT H' T'->WJ X H' T' 1 Z s->Z.wo=A.wo->Q (.bl true) H'):
  jt K (vC X) (qm X) (rA X) (J4 K) (nA X) ξ [↑A.wo,some (.int way),↑A.sw,↑lc,↑lp,↑lr,↑fd,↑rc,↑lm,some li,↑ls,↑ev] H:=by
 have hcl:=ok.cl;have nw:Nw H0 Hb H:=λb o Y h=>(tz b o Y h).1;have er:rowsOf s=rowsOf M/\stL s.sw=stL M.sw/\s.sw.grey=[]/\s.cells=M.cells:=by
  rcases du with ⟨_,_,rfl,_⟩ | ⟨_,v,x,c,le,t,wl,rfl,_⟩
  ·exact⟨rfl,rfl,hg,rfl⟩
  ·exact⟨rfl,rfl,hg,rfl⟩
 obtain⟨er,es,eg,ec⟩:=er;obtain⟨i,or1,or2,J,nlr,P⟩:=or;have R:=nw _ _ nlr or1;unfold jt;apply⟨_,rfl,T,1,A,s,j,rfl,δ,λm hm=>by have:=ok.hl m hm;omega,λl2 rs2 H3 s3 o3 F S _=>?_⟩;rw[er]at F S;apply⟨lr,_,rfl,bN.of (s3 _ _ R),λp np=>?_⟩;have lre:(lF M).length=(rowsOf M).length+1:=by unfold lF;rw[List.length_append];rfl
 have lrn:i.map V.ref≠[]:=λz=>by have h:=congrArg List.length z;rw[aR]at h;have h:i.length=0:=h;omega
 have Zz9:Ae (i.map V.ref) none (some (-1))=(i.take (rowsOf M).length).map V.ref:=by
  rw[Zla _ lrn,aR,List.map_take];congr 1;omega
 rw[Zz9];generalize zz:upd H3 p _=H4;obtain⟨s4,g4⟩:=nwO np zz;have I:=s3.trans s4;have r4:RwO H4 p (rowsOf M):=⟨i.take (rowsOf M).length,g4,by rw[List.length_take];omega,λj r x u C=>by
  have hj:j<(rowsOf M).length:=(cI C).1;rw[List.getElem?_take_of_lt hj]at u;exact I _ _ (nw _ _ (P _ (List.mem_of_getElem? u)) (J j r x u (by unfold lF;rw[List.getElem?_append_left hj];exact C)))⟩
 obtain⟨xs,ys,a1,a2,al⟩:=Zi4 (K:=K) (show RwO H4 l2 (rowsOf M)from⟨rs2,s4 _ _ o3,F,λj r x u C=>s4 _ _ (S j r x u C)⟩) r4;show Zcm K true (.ref l2) (.ref p) H4 _;refine Zit (.inl ⟨a1,a2⟩) al ?_;apply⟨aQ ζ,λe0 ne0=>?_⟩;generalize zz:upd H4 e0 _=H5;obtain⟨s5,g5⟩:=nwO ne0 zz;have B:=I.trans s5;have N:=nw _ _ nls ols;refine Znz (bN.of (B _ _ N)) (bN.of g5) ?_;rw[decide_eq_false ai];apply⟨_,rfl,T,1,A,s,j.same B,rfl,by rw[eg];decide,λl6 H6 s6 nl6 L=>?_⟩;rw[es]at L;have E:=B.trans s6;apply Zgl (bN.of L) (bN.of (E _ _ N)) ?_;apply qT dS λ_=>?_;apply⟨aQ ζ,λu ne1=>?_⟩;generalize zz:upd H6 u _=H7;obtain⟨s7,g7⟩:=nwO ne1 zz;have a:=E.trans s7;have Zy0:=nw _ _ nlm olm;refine Znz (bN.of (a _ _ Zy0)) (bN.of g7) ?_;have ocH:=oc.nw nw;have Zxz:=nw _ _ nlp olp;rcases du with ⟨hm,rfl,rfl,l,g,ol⟩ | ⟨hm,v,x,c,le,t,wl,rfl,hc,gd,xl,g,ole,tle,lo,ln,rfl,W,O,nwl,twl⟩
 ·rw[decide_eq_true (show(OD M f).map V.int=[] by rw[hm];rfl)];apply⟨_,_,_,_,rfl,T,1,A,M,w0,l,j.same a,rfl,ok,tb,ph,hls,ocH.o.same a,a _ _ Zxz,a _ _ g,a _ _ ol,λH' s'=>?_⟩;have sf:=a.trans s';exact q H' T A (kp.trans (Kp.same sf)) (w.same sf) (j.same sf) rfl
 ·rw[decide_eq_false (λz=>hm (List.map_eq_nil_iff.mp z))];exists t,_,1,_,rfl,rfl,dR.of (a _ _ W),rfl;ext;have eR:=Qn tb (λm hm=>(pm.nm m hm).2) ph;refine⟨_,_,_,rfl,lF M,dY M,x.2,c.birth,⟨i,a _ _ R,or2,λj r y u C=>a _ _ (nw _ _ (P _ (List.mem_of_getElem? u)) (J j r y u C))⟩,((od.nw nw U).nw (Nw.same a) U).o,a _ _ O,Zut eR gd hc,λH8 s8=>?_⟩;have k:=a.trans s8;exists t,_,0,_,rfl,rfl,dR.of (k _ _ W),rfl;apply qT dS λ_=>?_;exists t,_,0,_,rfl,rfl,dR.of (k _ _ W),rfl;exists t,_,1,_,rfl,rfl,dR.of (k _ _ W),rfl;apply⟨aQ ζ,λd nd=>?_⟩;generalize zz:upd H8 d _=H9;obtain⟨s9,g9⟩:=nwO nd zz;have e:=k.trans s9;have D:Hb le=none:=nle _ _ g;obtain⟨y,yl,ey,ty,oy,tyl,oyl⟩:=lo;apply⟨_,_,_,_,rfl,H0,T0,T,A,M,w0,v,c.birth,x.2,le,wl,w.same e,kp.trans (Kp.same e),s0.free D,j.same e,rfl,ok,tb,λm hm=>(pm.nm m hm).2,pm.nd,ph,xl,λH' hk=>?_,e _ _ g,e _ _ ole,tle,⟨y,yl,ey,ty,e _ _ oy,tyl,e _ _ oyl⟩,?_,g9,e _ _ O,nwl,twl,w _ (k.free nd),λH' T' Z k' w' j' a'=>q H' T' Z k' w' j' a'⟩
  ·exact(oc.nw (λb o Y hb=>hk b o (e _ _ (tz b o Y hb).1) (tz b o Y hb).2 (aF hb D))).o
  ·exact lsn ey (e _ _ oy) (e _ _ g) (ln _ _ _ _ _ _ _ ey oy g)
end
section
theorem Zst{H0:Hp}{T:Tg}{A:Wa}{M:Wm}{hs:Kf}{k:Nat}{lc lp lr fd rc:AI}{J:Int}{f:Int->Option V}(Tx:lq K X)(s0:aX H0 H)(w:WT H0 T)(j:WJ X H0 T 1 A M)(kw:KW M hs k)(hb:HsB hs)(hk:k<=900)(p:TB J M)(pm:Pm M)(nl:Nl M)(ph:M.sw.phase="walk")(hg:M.sw.grey=[])(cd:nZ M)
  (oc:CtF H0 H lc bf) (or:RwF H0 H lr (lF M)) (nfd:H0 fd=none) (od:FdF H0 H fd bf 1000) (nlp:H0 lp=none) (E:H lp=some (.lst ((cB bf).map V.int))) (om:CW H rc f 100000) (hf:∀b,f b≠none↔Rb (lF M) bf b)
  (q:∀H' T' A' s,Kp H0 H' T T'->WT H' T'->WJ X H' T' 1 A' s->A'.wo=A.wo->KW s hs k->TB J s->(s.sw.phase="lost"\/Nl s)->Pm s->Q (.bl true) H'):
  mV K (vC X) (qm X) (Aa X) (rA X) (J4 K) (nA X) (cM X Zcv) ξ [↑A.wo,some (.int J),↑A.sw,↑lc,↑lp,↑lr,↑fd,↑rc,none,none,none,none] H:=by
 have ok:=kw.ok hb hk;have hcl:=ok.cl;have ltl:=um (M:=M);have ltc:=mJ (M:=M);have lpl:=QM bf;have fw:=Zgw j ok;unfold mV;apply Cp ?_;exists _,rfl,⟨_,bN.of E⟩;refine G4 (bN.of E) (λi=>(cB bf)[i]?.bind λb=>if (f b).isSome=true then some (V.int b)else none) (by rw[aR];omega) (λi y hy=>?_) ?_
 ·rw[bL]at hy;obtain⟨b,hb,rfl⟩:=Option.map_eq_some_iff.mp hy;refine⟨λq hq=>?_,λy q hy hq=>?_⟩
  ·walk_at"c";exists rc,_,rfl,om.ask b;rw[hb]at hq
   by_cases e:(f b).isSome=true
   ·rw[show((some b).bind λb=>if (f b).isSome=true then some (V.int b)else none)=some (V.int b)from if_pos e]at hq;rw[e];exact i_B hq
   ·rw[show((some b).bind λb=>if (f b).isSome=true then some (V.int b)else none)=none from if_neg e]at hq;rw[show(f b).isSome=false by simpa using e];exact i_B hq
  ·rw[hb]at hy;have hy:(if (f b).isSome=true then some (V.int b)else none)=some y:=hy;split at hy
   ·cases hy;walk_at"c";apply hq
   ·cases hy
 ·rw[aR,pI,Pj];intro lm nlm;have s1:=aH nlm (.lst ((OD M f).map V.int));have g1:upd H lm (.lst ((OD M f).map V.int)) lm=some (.lst ((OD M f).map V.int)):=aq;have e1:(cB bf).filter (λb=>(f b).isSome)=OD M f:=rfl;rw[e1];generalize upd H lm (.lst ((OD M f).map V.int))=H1 at s1 g1 ⊢;have L:=s0.trans s1;ext;have fin:∀li F,aX H1 F->((li=.non/\∃q S,KB.wR eu (cP M) q q.length S/\∀x∈S,∀c,cellAt M x.1=some c->c.tone=M.sw.sense)\/
    (∃(q S:List cb) (i:Nat) (x:Int×AE) (c:Ce) (a wl:AI),KB.wR eu (cP M) q q.length S/\S[i]? =some x/\(∀(k:Nat) y d,k<i->S[k]? =some y->cellAt M y.1=some d->d.tone=M.sw.sense)/\cellAt M x.1=some c/\c.tone≠M.sw.sense/\li=.ref a/\H1 a=none/\H1 wl=none/\F a=some (.tup [.int c.birth,.ref wl])/\F wl=some (.lst (x.2.map V.int))))->
    aN (bx (aP (rA X) [] E0 b7) (aL 10)) (aN (bx (aP (cM X Zcv) [] E0 a6) (aL 11)) (jt K (vC X) (qm X) (rA X) (J4 K) (nA X))) ξ [↑A.wo,some (.int J),↑A.sw,↑lc,↑lp,↑lr,↑fd,↑rc,↑lm,some li,none,none] F:=by
   intro li F U hl;have Uw:=L.trans U;apply⟨_,rfl,T,1,A,M,j.same Uw,rfl,by rw[hg];decide,λls H3 s3 nls ols=>?_⟩;have I:=Uw.trans s3;have Je:=U.trans s3;apply⟨_,rfl,T,1,A,M,0,[],w.same I,ε,j.same I,rfl,ok,trivial,λz=>absurd z nl.1,λe s r H4 T4 A4 ev st j4 aw evn lo=>?_⟩;obtain⟨aw1,aw2⟩:=aw;have kp:=(Kp.same (T:=T) I).trans (Kp.stp st ⟨ε,ε⟩);have tz:∀b o,H0 b=none->H3 b=some o->H4 b=some o/\T4 b=(0,0):=λb o h0 h=>⟨st.kp b o h (by rw[w b h0];decide),(st.tg b o h).trans (w b h0)⟩;have Y:=kw.step r;have pm':=pm.step p r;have p':=p.step r;have nq:s.sw.phase="lost"\/Nl s:=(nl.step r).elim (λz=>.inl z.2) λz=>.inr z.2;obtain⟨le,⟨nle,tle⟩,oe,ole⟩:=evn;have nev:∀N wd,H4 ev=some (.tup [.str "lost",wd,.ref N])->H3 N=none:=λN wd h=>by
    rw[oe]at h
    injection h with h
    injection h with h
    injection h with _ h
    injection h with _ h
    injection h with h
    injection h with h
    rw[<- h];exact nle
   have D:=s1.trans Je;ext;rw[<- aw1,<- aw2];have due:Zxt H4 T4 M s f ev li:=by
    rcases Zv6 r ph hg cd with ⟨q1,C,g,hno,rfl,rfl⟩ | ⟨q1,C,i1,W,c1,v,g,hx,hno,hc,Z,rfl,rfl⟩
    ·have hm:=(Zii p (λm hm=>(pm.nm m hm).2) ph hf g).mpr hno;refine .inl ⟨hm,?_,rfl,le,oe,ole⟩;rcases hl with ⟨z,_⟩ | ⟨q2,qs2,i2,x2,c2,a2,P,B,u,l,O,R,_⟩
     ·exact z
     ·rw[Zaz B g]at u;exact absurd (hno x2 (List.mem_of_getElem? u) c2 O) R
    ·have hm:OD M f≠[]:=λz=>Z ((Zii p (λm hm=>(pm.nm m hm).2) ph hf g).mp z W (List.mem_of_getElem? hx) c1 hc);rcases hl with ⟨_,q2,qs2,B,l⟩ | ⟨q2,qs2,i2,x2,c2,a2,P,B,u,l,O,R,rfl,na2,nw2,oa2,ow2⟩
     ·rw[Zaz B g]at l;exact absurd (l W (List.mem_of_getElem? hx) c1 hc) Z
     ·rw[Zaz B g]at u l;obtain⟨rfl,rfl⟩:=Zoi hx hno hc Z u l O R;have h1:=g.bound;have h2:=fw.t;have h3:=Zf1 g W (Zrl g W (List.mem_of_getElem? hx));obtain⟨b',hb',lo1,lo2⟩:=lo rfl;cases (show some c1.birth=some b' from hb');have ow3:=s3 _ _ ow2;have zw:=tz P _ (L.free nw2) ow3;have za:=tz a2 _ (L.free na2) (s3 _ _ oa2);exact .inr ⟨hm,v,W,c1,le,a2,P,rfl,hc,g.good.2 W (List.mem_of_getElem? hx),δ,oe,ole,tle,lo1,lo2,rfl,za.1,zw.1,aF ow3 nle,zw.2⟩
   refine Zss (H0:=H0) (Hb:=H3) (T0:=T) Tx st.wt kp tz nev I j4 (Y.ok hb hk) p pm ph hg nl.2 due (oc.nw (Nw.same D)) (or.nw (Nw.same D)) nfd (od.nw (Nw.same D) nfd) nlp (D _ _ E) (s0.free nlm) (Je _ _ g1) (Uw.free nls) ols λH' T' A' k' w' j' a'=>?_;exact q H' T' A' s k' w' j' (a'.trans aw1) Y p' nq pm'
  refine⟨_,_,rfl,T,1,A,M,cB bf,ε,j.same L,rfl,ok,s1 _ _ E,λi c h=>Gg p ph h,λq1 C F g hno U=>?_,λq1 C i x c a wl F g hx hno hc Z U na nwl oa owl=>?_⟩
  ·exact fin _ F U (.inl ⟨rfl,q1,C,g,hno⟩)
  ·exact fin _ F U (.inr ⟨q1,C,i,x,c,a,wl,g,hx,hno,hc,Z,rfl,na,nwl,oa,owl⟩)
end
section
variable {M M':Wm}{w0:Int}
theorem Zgb(p:TB w0 M)(ph:M.sw.phase="walk"):
  ∃acc,(fQ bg M.hands 0 M).2=fB M acc/\(fQ bg M.hands 0 M).1=acc.map (jC M)/\JM M=acc.map (jC M)/\
   NL M eH acc/\∀i∈acc,∃d,cellAt M i=some d/\d.tone≠M.sw.sense:=by
 obtain⟨c,b⟩:=ZP (M:=M) (nhL bg M.hands 0) [] List.nodup_nil λi a=>(nomatch a);obtain⟨f,g⟩:=zX (M:=M) ph (nhL bg M.hands 0) [] List.nodup_nil λi a=>(nomatch a);have e:=Zdf bg M.hands 0 M;have has:∀i∈ntP M (nhL bg M.hands 0) [],∃d,cellAt M i=some d/\d.tone≠M.sw.sense:=λi a=>by
  have h1:=b i a;unfold jO at h1;cases hc:cellAt M i with
  | none=>rw[hc]at h1;cases h1
  | some d=>
   rw[hc]at h1;exact⟨d,rfl,of_decide_eq_true h1⟩
 refine⟨ntP M (nhL bg M.hands 0) [],by rw[e];exact f,by rw[e];exact g,?_,Zd3 ph _ _ rfl c b,has⟩;unfold JM rowsOf;rw[Zn9];exact yC (M:=M) (P:=inP (cB bf)) p.bu (λi d h=>p.Zrv ph h) (nhL bg M.hands 0) [] λi a=>(nomatch a)
theorem Zlh{acc:AE}(b:M.w=0\/M.w=1\/M.w=2)(g:(fQ bg M.hands 0 M).1=acc.map (jC M))(h:JM M=acc.map (jC M)):DX M=false↔nZ M:=by
 unfold DX nZ;rw[g,<- h,decide_eq_false_iff_not];have f:M.w=0->bJ M=0:=λe=>by unfold bJ;rw[e];rfl
 constructor
 ·intro z
  by_cases a:bJ M=0
  ·exact .inl a
  ·rcases b with e | e | e
   ·exact absurd (f e) a
   ·exact absurd ⟨a,.inl e⟩ z
   ·refine .inr ⟨e,?_⟩
    by_cases d:JM M=[]
    ·exact d
    ·exact absurd ⟨a,.inr d⟩ z
 ·rintro(a | ⟨a,d⟩) ⟨z1,c⟩
  ·exact z1 a
  ·rcases c with z | z
   ·rw[a]at z;exact absurd z ε
   ·exact z d
end
section
theorem Zpl{M:Wm}{w0:Int}(p:TB w0 M)(pn:NmP M)(ph:M.sw.phase="walk"):∀r∈lF M,∀b,some b∈r->∃y∈dY M,y.b=b:=by
 rw[Qn p pn ph];intro r hr b hb;obtain⟨a,_,rfl⟩:=List.mem_map.mp hr;obtain⟨x,_,hx⟩:=List.mem_map.mp hb;obtain⟨i,c,rfl,hc,e⟩:=Pr hx;exact⟨_,Pg hc,e⟩
theorem Zsu{H0:Hp}{T:Tg}{A:Wa}{M:Wm}{hs:Kf}{k:Nat}{lc:AI}{c:Int}(F:lq K X)(v:aX H0 H)(w:WT H0 T)(j:WJ X H0 T 1 A M)(C:KW M hs k)(hb:HsB hs)(hk:k<=900)(p:TB c M)(s:Pm M)(nl:Nl M)(ph:M.sw.phase="walk")(Y:M.sw.grey=[])(R:nZ M)
  (oc:CtF H0 H lc bf)
  (q:∀H' T' B d,Kp H0 H' T T'->WT H' T'->WJ X H' T' 1 B d->B.wo=A.wo->KW d hs k->TB c d->(d.sw.phase="lost"\/Nl d)->Pm d->Q (.bl true) H'):
  mW K (Ka K) (vC X) (qm X) (Aa X) (Ie K) (Uk K) (J7 X) (rA X) (J4 K) (nA X) (cM X Zcv) ξ [↑A.wo,some (.int c),↑A.sw,↑lc,none,none,none,none,none,none,none,none] H:=by
 have ok:=C.ok hb hk;have J:=ok.cl;have V:=ok.nl;have l5:=j.jd.l5;have lh:=j.jd.lh;have E:=um (M:=M);have S:=mJ (M:=M);have pn:NmP M:=λm hm=>(s.nm m hm).2;unfold mW;apply⟨_,rfl,dY M,oc.o,δ,λU h=>?_⟩;generalize zz:upd H U _=H1;obtain⟨i,W⟩:=nwO h zz;have a:=v.trans i;apply⟨_,_,rfl,T,1,A,M,j.same a,rfl,ok,s.nd,oc.o.same i,λL N u or=>?_⟩;have or:RwF H0 N L (lF M):=by
  obtain⟨ls,z1,Z,D,I,O⟩:=or;exact⟨ls,z1,Z,D,a.free I,λr hr=>a.free (O r hr)⟩
 have g:=i.trans u;have l:=a.trans u;apply⟨_,rfl,H0,dY M,oc.nw (Nw.same g),δ,p.uq,λfd H3 y e od=>?_⟩;apply⟨_,_,rfl,lF M,dY M,(or.nw (Nw.same y)).o,?_,?_,δ,?_,p.uq,?_,Zpl p pn ph,od.o,λrc H4 f z nrc om P=>?_⟩
 ·unfold lF rowsOf;rw[List.length_append,aR];show M.hands.length+1<=40;omega
 ·intro r hr;unfold lF at hr;rcases List.mem_append.mp hr with hr | hr
  ·unfold rowsOf at hr;obtain⟨m,hm,rfl⟩:=List.mem_map.mp hr;have:=ok.hl m hm;simp;omega
  ·rw[List.mem_singleton.mp hr,aR];omega
 ·intro x hx;obtain⟨t,ht,rfl⟩:=List.mem_map.mp hx;show(t.2.fl.map (nD M)).length<=50;rw[aR];exact ok.fl _ (oA (lU ht))
 ·exact Zsm
 ext;have b:=y.trans z;exact Zst F (l.trans b) w j C hb hk p s nl ph Y R (oc.nw (Nw.same (g.trans b))) (or.nw (Nw.same b)) (l.free e) (od.nw (Nw.same z) (l.free e)) (v.free h) ((u.trans b) _ _ W) om P q
theorem Zb3{wo:AI}{h:Int}(d:lq K X)(q:Zvf X wo h H Q):
  Fw K (Zp9 X) (Ka K) (vC X) (qm X) (Aa X) (Ie K) (Uk K) (J7 X) (rA X) (J4 K) (nA X) (cM X Zcv) (Zbp X) ξ [↑wo,some (.int h),none,none,none,none,none,none,none,none,none,none] H:=by
 obtain⟨T,A,M,hs,k,w,j,rfl,s,p,hb,hk,nl,v,q⟩:=q;have I:=nl;have ph:=nl.1;have nq:∀{e a},nj 0 [] M e a->a.sw.phase="lost"\/Nl a:=λr=>(nl.step r).elim (λz=>.inl z.2) λz=>.inr z.2;have ok:=s.ok hb hk;have P:=ok.cl;have l5:=j.jd.l5;have lh:=j.jd.lh;obtain⟨dw,ow⟩:=j.jb.ow;obtain⟨ds,os⟩:=j.js.os;have og:=j.js.og;unfold Fw;apply aJ ow d.cW d.Io aV ?_;apply aJ os d.cS d.n2 cY ?_;apply qT aT (λL=>?_)
 ·apply⟨_,rfl,T,1,A,M,0,[],w,ε,j,rfl,ok,trivial,λz=>absurd z ph,λe a r u C E N st D f m lo=>?_⟩;apply q u C E a (Kp.stp st ⟨ε,ε⟩) st.wt D f.1 (s.step r) (p.step r) (nq r) (v.step p r)
 apply aJ os d.cS d.n3 iZ ?_;apply⟨aQ ζ,λV l=>?_⟩;refine Zgl (bN.of (aH l _ _ _ og)) (ms:=[]) (bN.of aq) ?_;have b:=aH l (.lst []);generalize upd H V (.lst [])=H1 at b ⊢;apply qT aT (λU=>?_)
 ·apply⟨_,rfl,T,1,A,M,0,[],w.same b,ε,j.same b,rfl,ok,trivial,λz=>absurd z ph,λe a r u C E N st D f m lo=>?_⟩;apply q u C E a ((Kp.same b).trans (Kp.stp st ⟨ε,ε⟩)) st.wt D f.1 (s.step r) (p.step r) (nq r) (v.step p r)
 apply⟨_,rfl,T,1,A,M,j.same b,rfl,δ,λc hc=>by have:=ok.fl c hc;omega,λlc rs S s2 o1 hl hr nl=>?_⟩;have oc:CtF H S lc bf:=⟨rs,o1,by rw[hl];exact mJ.symm,λi r x Y B=>by
  unfold dY at B;rw[bL]at B;obtain⟨t,ht,rfl⟩:=Option.map_eq_some_iff.mp B;obtain⟨R,z,z3,z4⟩:=hr i r t Y ht;exact⟨R,z,b.free z3,b.free z4⟩,b.free nl⟩
 have g:=b.trans s2;obtain⟨W,_,f2,f3,_,_⟩:=Zgb p L;have hw:M.w=0\/M.w=1\/M.w=2:=by
  obtain⟨dl,ol⟩:=j.jb.ol;rcases ol with ⟨e,_⟩ | ⟨e,_⟩ | ⟨e,_⟩
  ·exact .inl e
  ·exact .inr (.inl e)
  ·exact .inr (.inr e)
 have wc:=Zlh hw f2 f3;apply⟨_,_,_,rfl,T,1,A,M,j.same g,rfl,ok,p.ww,oc.o,λt ld u J nld ot old=>?_⟩;have y:=g.trans J;exists t,_,2,_,rfl,rfl,dR.of ot,rfl,DX M,rfl;cases F:DX M with
 | true=>
  refine Ze1 ?_;apply⟨_,rfl,T,1,A,M,0,[],w.same y,ε,j.same y,rfl,ok,trivial,λz=>absurd z ph,λe a r O T4 A4 N st Z f m lo=>?_⟩;apply q O T4 A4 a ((Kp.same y).trans (Kp.stp st ⟨ε,ε⟩)) st.wt Z f.1 (s.step r) (p.step r) (nq r) (v.step p r)
 | false=>
  refine Za8 ?_;apply Zsu d y w j s hb hk p v I L U (wc.mp F) (oc.nw (Nw.same J)) q
end
section
theorem Zts{a:AI}(Tx:lq K X)(q:Zp7 K a H Q):
  Zfs K X.W (wM X) (DN K) (Zbu X rf) (Zbt K) (Zbs X) (Zhr K) (Zbr K) (Zbq X) ξ [↑a,none,none,none,none] H:=by
 obtain⟨l,hS,R,h⟩:=q;unfold Zfs;apply⟨a,0,rfl,l,hS,ε,λz0=>?_⟩;ext;generalize z0 % 12=way;refine⟨a,rfl,l,hS,λlh hs H1 s1 nlh ho hb=>?_⟩;apply⟨a,rfl,l,s1.seq hS,λroom=>?_⟩;apply⟨_,rfl,λki lk w t H2 t0 t1 ew s2 nki nlk kd=>?_⟩;have Uw:=s1.trans s2;have U:=ho.same s2;obtain⟨ts,olh,al⟩:=id U;have lts:=al.length;have n5:=hb.n5;apply Zam (bN.of olh) λO Zy7=>?_;generalize zz:upd H2 O _=H3;obtain⟨s3,g3⟩:=nwO Zy7 zz;have g:=kd.same s3;have ho3:=U.same s3;have s03:=Uw.trans s3;ext;intro wo s c ndx ned;have D:aX H3 (upd (upd H3 s (.own wo)) wo (.ins X.W s [])):=λb o hb=>by rw[aD (aF hb c),aD (aF hb ndx)];exact hb
 have g7:upd (upd H3 s (.own wo)) wo (.ins X.W s []) wo=some (.ins X.W s []):=aq;generalize upd (upd H3 s (.own wo)) wo (.ins X.W s [])=H7 at D g7 ⊢;have kd7:=g.same D;have nkw:ki≠wo:=by
  obtain⟨⟨_,e⟩,_⟩:=g;exact aF e c
 have nlw:lk≠wo:=by
  obtain⟨_,⟨_,e⟩⟩:=g;rcases e with ⟨_,e⟩ | ⟨_,e⟩ | ⟨_,e⟩
  ·exact aF e c
  ·exact aF e c
  ·exact aF e c
 refine⟨wo,_,ki,O,rfl,s,λ_=>(0,0),1,lk,w,t,ts,hs,g7,λ_ _=>rfl,ε,kd7,rfl,rfl,nkw,nlw,D _ _ g3,Zjb lts λi x m e1 e2=>?_,δ,λH8 T8 A8 k8 t8 w8 aw8 j8=>⟨rfl,?_⟩⟩
 ·obtain⟨x',e3,z⟩:=al.get e2;rw[e1]at e3;cases e3;have:=hb.sb m (List.mem_of_getElem? e2);exact⟨D _ _ (s3 _ _ z),δ,δ⟩
 have s38:aX H3 H8:=λb o hb=>k8 b o (D _ _ hb) (aF hb c);have s08:aX H H8:=s03.trans s38;have ho8:=ho3.same s38;have p0:KW (RB room hs w t) hs 0:=KW.new t0 t1;have P:TB (way % 3) (RB room hs w t):=by rw[<- ew];exact TB.new
 have L:Pm (RB room hs w t):=Pm.Zy8;have nl0:(RB room hs w t).sw.phase="lost"\/Nl (RB room hs w t):=.inr ⟨by show ¬("rest":Str)="lost";decide,rfl⟩;generalize RB room hs w t=M at j8 p0 P L nl0;clear k8 t8 D g7 kd7 g;apply⟨a,lh,rfl,l,hs,s08.seq hS,R,ho8,hb,λI H9 s9 rl=>?_⟩;obtain⟨_,nlr,E,J,lvs,V⟩:=rl;have S:∀v∈E,v=.non\/∃t d,v=.ref t/\T8 t=(0,0)/\H9 t=some (.tup (dV d))/\okR hs d:=λv hv=>by
  rcases V v hv with z | ⟨t,d,e,f,o,k⟩
  ·exact .inl z
  ·exact .inr ⟨t,d,e,w8 _ f,o,k⟩
 refine⟨I,rfl,⟨_,bN.of J⟩,forL E (λi σ y=>∃T A M v4,σ=[↑a,some (.int way),↑lh,↑wo,v4]/\WT y T/\WJ X y T 1 A M/\A.wo=wo/\KW M hs i/\TB (way % 3) M/\(M.sw.phase="lost"\/Nl M)/\Pm M/\y I=some (.lst E)/\T I=(0,0)/\∀v∈E,v=.non\/∃t d,v=.ref t/\T t=(0,0)/\y t=some (.tup (dV d))/\okR hs d) ⟨T8,A8,M,_,rfl,w8.same s9,j8.same s9,aw8,p0,P,nl0,L,J,w8 _ nlr,S⟩ (by rintro _ _ _ _ ⟨_,_,_,_,_,_,_,_,_,_,_,_,z,_⟩;exact bN.of z) ?_ ?_⟩
 ·rintro i x σ y hi ⟨T,A,M,v4,rfl,w,j,N,p,tb,nq,pm,ol,tl,S⟩;have hil:=(cI hi).1;obtain⟨dw,ow⟩:=j.jb.ow;obtain⟨ds,os⟩:=j.js.os;rw[N]at ow;have kp:∀{B:Hp}{u:Tg},Kp y B T u->B I=some (.lst E)/\u I=(0,0)/\∀v∈E,v=.non\/∃t d,v=.ref t/\u t=(0,0)/\B t=some (.tup (dV d))/\okR hs d:=λ{B u} k=>by
   refine⟨k.k _ _ ol (.inl (by rw[tl])),(k.tg _ _ ol).trans tl,λv hv=>?_⟩;rcases S v hv with z | ⟨t,d,e,f,o,kk⟩
   ·exact .inl z
   ·exact .inr ⟨t,d,e,(k.tg _ _ o).trans f,k.k _ _ o (.inl (by rw[f])),kk⟩
  apply aJ ow Tx.cW Tx.Io aV ?_;apply aJ os Tx.cS Tx.n2 cY ?_;apply mG aT (λph=>?_)
  ·apply h _
  ·rcases S x (List.mem_of_getElem? hi)with rfl | ⟨t,d,rfl,tt,ot,od⟩
   ·apply⟨_,_,rfl,T,A,M,hs,i,w,j,N,p,tb,hb,δ,nq.resolve_left ph,pm,λB u A' M' k w' j' C p' tb' nq' pm'=>?_⟩;ext;obtain⟨Z,Y,F⟩:=kp k;exact⟨u,A',M',_,rfl,w',j',C,p'.mono δ,tb',nq',pm',Z,Y,F⟩
   ·have ok:=p.ok hb δ;have hcl:=ok.cl;have hnl:=ok.nl;apply⟨_,t,rfl,T,1,A,M,d,w,ε,j,N,ot,p.okD od,hcl,λz=>by have:=ok.gl z;omega,p.tl,δ,λr er B sm=>?_,λe M' he B u A' av st j' C ev=>?_⟩
    ·ext;obtain⟨Z,Y,F⟩:=kp (Kp.same sm);exact⟨T,A,M,_,rfl,w.same sm,j.same sm,N,p.mono δ,tb,nq,pm,Z,Y,F⟩
    ·ext;obtain⟨Z,Y,F⟩:=kp (Kp.stp st ⟨ε,ε⟩);exact⟨u,A',M',_,rfl,st.wt,j',C,p.deed od he,tb.deed he,.inr ((nq.resolve_left ph).keep (Zr5 he)),pm.deed tb he,Z,Y,F⟩
 ·rintro σ y ⟨T,A,M,v4,rfl,w,j,N,p,tb,nq,pm,ol,tl,S⟩;apply h _
end
def top(i:Nat):Stmt:=PySem.Challenge.pw_greywalk_k27_cut_or_loss.main.body.getD i (.Pass ⟨0,0,0,0⟩)
abbrev wZ:Stmt:=inClass (top 8) 0
abbrev Ff:Stmt:=inClass (top 8) 1
abbrev uA:Stmt:=inClass (top 8) 2
abbrev wX:Stmt:=inClass (top 9) 0
abbrev jW:Stmt:=inClass (top 9) 1
abbrev Qm:Stmt:=inClass (top 9) 2
abbrev K7:Stmt:=inClass (top 9) 3
abbrev K6:Stmt:=inClass (top 9) 4
abbrev Fe:Stmt:=inClass (top 9) 5
abbrev W6:Stmt:=top 10
abbrev Qj:Stmt:=top 11
abbrev WQ:Stmt:=top 13
abbrev Zca:Stmt:=top 14
abbrev wY:Stmt:=inClass (top 16) 0
abbrev qz:Stmt:=inClass (top 17) 0
abbrev uw:Stmt:=inClass (top 18) 0
abbrev Zm1:Stmt:=top 19
abbrev Aq:Stmt:=top 20
abbrev Ky:Stmt:=top 21
abbrev Ku:Stmt:=top 22
abbrev Kv:Stmt:=top 23
abbrev Ep:Stmt:=top 24
abbrev WR:Stmt:=top 25
abbrev El:Stmt:=top 26
abbrev Ks:Stmt:=top 27
abbrev Zi3:Stmt:=top 28
abbrev Zm0:Stmt:=top 29
abbrev Qf:Stmt:=top 30
abbrev Zm2:Stmt:=top 31
abbrev Zi2:Stmt:=top 32
abbrev WM:Stmt:=top 33
abbrev Eo:Stmt:=top 35
abbrev yg:Stmt:=top 36
abbrev ye:Stmt:=top 37
abbrev Zly:Stmt:=top 38
abbrev Ao:Stmt:=top 39
abbrev Zrp:Stmt:=top 40
abbrev Er:Stmt:=top 41
abbrev Qh:Stmt:=top 42
abbrev Em:Stmt:=top 43
abbrev yf:Stmt:=top 44
abbrev En:Stmt:=top 45
abbrev s_end:Stmt:=top 46
abbrev uv:Stmt:=top 47
abbrev Zlz:Stmt:=top 49
abbrev WL:Stmt:=top 50
abbrev Zcd:Stmt:=top 54
abbrev qC:Stmt:=inClass (top 55) 2
abbrev pM:Stmt:=inClass (top 55) 3
abbrev wV:Stmt:=inClass (top 55) 4
abbrev uy:Stmt:=inClass (top 56) 2
abbrev uz:Stmt:=inClass (top 57) 2
abbrev ux:Stmt:=inClass (top 58) 2
abbrev Fb:Stmt:=inClass (top 58) 3
abbrev wW:Stmt:=inClass (top 59) 0
abbrev Qe:Stmt:=top 61
abbrev W5:Stmt:=top 62
abbrev Kw:Stmt:=top 63
abbrev Ak:Stmt:=top 64
abbrev Am:Stmt:=top 65
abbrev W0:Stmt:=top 66
abbrev Zcc:Stmt:=top 67
abbrev Zcb:Stmt:=top 68
abbrev W4:Stmt:=top 69
abbrev W3:Stmt:=top 70
abbrev W2:Stmt:=top 71
abbrev Qi:Stmt:=top 72
abbrev WX:Stmt:=top 73
abbrev WY:Stmt:=top 74
abbrev WW:Stmt:=top 75
abbrev An:Stmt:=top 76
abbrev Zvu:Stmt:=top 78
abbrev K4:Stmt:=top 80
abbrev K1:Stmt:=top 81
abbrev Kz:Stmt:=top 82
abbrev Ew:Stmt:=top 83
abbrev KJ:Stmt:=top 84
abbrev KY:Stmt:=top 85
abbrev KQ:Stmt:=top 86
abbrev KR:Stmt:=top 87
abbrev K3:Stmt:=top 88
abbrev EY:Stmt:=top 89
abbrev Et:Stmt:=top 90
abbrev KH:Stmt:=top 91
abbrev Av:Stmt:=top 92
abbrev Ez:Stmt:=top 93
abbrev KZ:Stmt:=top 94
abbrev Ey:Stmt:=top 95
abbrev KC:Stmt:=top 96
abbrev Aw:Stmt:=top 97
abbrev Es:Stmt:=top 98
abbrev K5:Stmt:=top 99
abbrev KN:Stmt:=top 100
abbrev Ql:Stmt:=top 101
abbrev Ba:Stmt:=top 102
abbrev Eu:Stmt:=top 103
abbrev Ar:Stmt:=top 104
abbrev Qk:Stmt:=top 105
abbrev Ay:Stmt:=top 106
abbrev rG:Stmt:=top 107
abbrev yh:Stmt:=top 108
abbrev Az:Stmt:=top 109
abbrev KD:Stmt:=top 110
abbrev Qg:Stmt:=top 111
abbrev Fi(K:aB)(c:AI)(s:Str)(f:AI):Prop:=W.findIn K (.ref c) s=some (↑f)
abbrev Fo(K:aB)(c:AI)(s:Str):Prop:=W.findIn K (.ref c) s=some none
abbrev Ns(K:aB)(s:Str)(f:AI):Prop:=W.nsIn K mainGlobals s=some (↑f)
abbrev Ki(K:aB)(f:AI):Prop:=W.keepIn K (.ref f)=true
abbrev Ci(K:aB)(c:AJ)(s:Str):Prop:=W.codeIn K c s=true
abbrev Lk(K:aB)(f:AI)(a b:Str)(s:Stmt)(d:AJ)(oc:AJ)(od:Option AI)(kV dc pm:AJ)(an:Option AI)(cd ct:AJ)(sl:Array AB):Prop:=K.lookup f=some ⟨oc,od,.func (W.fnOf a b (jB s) (gG s) (aG s) d kV dc pm an cd ct),sl⟩
abbrev FnG(K:aB)(x q:Str)(s:Stmt)(f:AI):Prop:=∃fd,Fun K x q s f fd
section
variable {K:aB}{x q:Str}{s:Stmt}{f C:AI}{oc:AJ}{od:Option AI}{kV dc pm:AJ}{an:Option AI}{cd ct:AJ}{sl:Array AB}
theorem fgm(l:Lk K f x q s .none oc od kV dc pm an cd ct sl)(c:Ci K cd q)(k:Ki K f):FnG K x q s f:=⟨_,Zod l c k⟩
noncomputable def fZ (g:FnG K x q s f):AL:=g.choose
theorem Hr(g:FnG K x q s f):Fun K x q s f (fZ g):=g.choose_spec
structure FA(K:aB)(x:Str)(s:Stmt)(f:AI):Prop where
 a:Ns K x f
 g:FnG K x x s f
theorem fam(a:Ns K x f)(l:Lk K f x x s .none oc od kV dc pm an cd ct sl)(c:Ci K cd x)(k:Ki K f):FA K x s f:=⟨a,fgm l c k⟩
structure FT(K:aB)(mg:As)(x:Str)(s:Stmt)(f:AI):Prop where
 m:mg x=↑f
 g:FnG K x x s f
structure MT(K:aB)(C:AI)(x q:Str)(s:Stmt)(f:AI):Prop where
 m:Meth K C x f
 g:FnG K x q s f
theorem mtm(a:Fi K C x f)(i:W.isFn K (.ref f)=true)(l:Lk K f x q s .none oc od kV dc pm an cd ct sl)(c:Ci K cd q)(k:Ki K f):MT K C x q s f:=⟨⟨a,i,k⟩,fgm l c k⟩
structure CA(K:aB)(C:AI):Prop where
 c:Py K C
 mk':W.makesIn K C=true
 k:Ki K C
theorem cam(a:W.plainGet K C Str.empty=true)(b:W.hasDictIn K C=true)(c:W.plainOver K C=true)(d:W.findIn K (.ref C) "__setattr__"=some (some (.builtin "object.__setattr__")))(e:W.makesIn K C=true)(f:Ki K C):CA K C:=⟨⟨a,b,c,d⟩,e,f⟩
end
theorem cn1{a:Type}{us:List a}{n:Nat}(h:us.length=n+1):∃x t,us=x::t/\t.length=n:=by cases us with | nil=>cases h | cons x t=>exact⟨x,t,rfl,Nat.succ.inj h⟩
theorem bd1{K:aB}{x a:Str}{st:Stmt}{f:AI}{fd:AL}(F:Fun K x a st f fd)(a0:Str)(h:∀(kV c g:AJ) (e:Option AI) (b ct d:AJ),bindArgs (W.fnOf x a (jB st) (gG st) (aG st) .none kV c g e b ct) ⟨[d],[]⟩=pure (([a0]:AH).zip [d]):=by intros;rfl):Binds K fd [a0] []:=F.binds λkV c g e b ct us hl=>by obtain⟨d,_,rfl,l1⟩:=cn1 (n:=0) hl;cases List.eq_nil_of_length_eq_zero l1;exact h kV c g e b ct d
theorem bd2{K:aB}{x a:Str}{st:Stmt}{f:AI}{fd:AL}(F:Fun K x a st f fd)(a0 j:Str)(h:∀(kV c i:AJ) (g:Option AI) (b ct e d:AJ),bindArgs (W.fnOf x a (jB st) (gG st) (aG st) .none kV c i g b ct) ⟨[e,d],[]⟩=pure (([a0,j]:AH).zip [e,d]):=by intros;rfl):Binds K fd [a0,j] []:=F.binds λkV c i g b ct us hl=>by obtain⟨e,_,rfl,l1⟩:=cn1 (n:=1) hl;obtain⟨d,_,rfl,l2⟩:=cn1 (n:=0) l1;cases List.eq_nil_of_length_eq_zero l2;exact h kV c i g b ct e d
theorem bd3{K:aB}{x a:Str}{st:Stmt}{f:AI}{fd:AL}(F:Fun K x a st f fd)(a0 k l:Str)(h:∀(kV c j:AJ) (i:Option AI) (b ct e d g:AJ),bindArgs (W.fnOf x a (jB st) (gG st) (aG st) .none kV c j i b ct) ⟨[e,d,g],[]⟩=pure (([a0,k,l]:AH).zip [e,d,g]):=by intros;rfl):Binds K fd [a0,k,l] []:=F.binds λkV c j i b ct us hl=>by obtain⟨e,_,rfl,l1⟩:=cn1 (n:=2) hl;obtain⟨d,_,rfl,l2⟩:=cn1 (n:=1) l1;obtain⟨g,_,rfl,l3⟩:=cn1 (n:=0) l2;cases List.eq_nil_of_length_eq_zero l3;exact h kV c j i b ct e d g
theorem bd4{K:aB}{x a:Str}{st:Stmt}{f:AI}{fd:AL}(F:Fun K x a st f fd)(a0 l m n:Str)(h:∀(kV c k:AJ) (j:Option AI) (b ct g e i d:AJ),bindArgs (W.fnOf x a (jB st) (gG st) (aG st) .none kV c k j b ct) ⟨[g,e,i,d],[]⟩=pure (([a0,l,m,n]:AH).zip [g,e,i,d]):=by intros;rfl):Binds K fd [a0,l,m,n] []:=F.binds λkV c k j b ct us hl=>by obtain⟨g,_,rfl,l1⟩:=cn1 (n:=3) hl;obtain⟨e,_,rfl,l2⟩:=cn1 (n:=2) l1;obtain⟨i,_,rfl,l3⟩:=cn1 (n:=1) l2;obtain⟨d,_,rfl,l4⟩:=cn1 (n:=0) l3;cases List.eq_nil_of_length_eq_zero l4;exact h kV c k j b ct g e i d
theorem bd5{K:aB}{x a:Str}{st:Stmt}{f:AI}{fd:AL}(F:Fun K x a st f fd)(a0 m n o p:Str)(h:∀(kV c l:AJ) (k:Option AI) (b ct i g j e d:AJ),bindArgs (W.fnOf x a (jB st) (gG st) (aG st) .none kV c l k b ct) ⟨[i,g,j,e,d],[]⟩=pure (([a0,m,n,o,p]:AH).zip [i,g,j,e,d]):=by intros;rfl):Binds K fd [a0,m,n,o,p] []:=F.binds λkV c l k b ct us hl=>by obtain⟨i,_,rfl,l1⟩:=cn1 (n:=4) hl;obtain⟨g,_,rfl,l2⟩:=cn1 (n:=3) l1;obtain⟨j,_,rfl,l3⟩:=cn1 (n:=2) l2;obtain⟨e,_,rfl,l4⟩:=cn1 (n:=1) l3;obtain⟨d,_,rfl,l5⟩:=cn1 (n:=0) l4;cases List.eq_nil_of_length_eq_zero l5;exact h kV c l k b ct i g j e d
structure Hh(P:AM)(w:AO)(K:aB)(mg:As)(base:Heap)(n:Nat)(f:AI)(fd:AL)(ps:AH)(sp:Sp):Prop where
 g:rD P w K mg base (G.Uy P w) n f fd ps sp
 b:Binds K fd ps []
 k:W.keepIn K (.ref f)=true
abbrev Fn5(P:AM)(w:AO)(K:aB)(mg:As)(base:Heap)(n:Nat)(f:AI)(fd:AL)(ps:AH)(sp:Sp):Prop:=rD P w K mg base (G.Uy P w) n f fd ps sp
section
variable {X:Cx}{n k:Nat}{f:AI}{fd:AL}{ps:AH}{sp:Sp}{x:Str}{e:AN}{es:AG}{t:TA}{p pos:Pos}{s:Stmt}
theorem cV(h:Hh X.prog X.w X.K X.mg X.base n f fd ps sp)(hr:Room k X.A)(mo:∀{s:Str}{v:AJ},W.nsIn X.K mainGlobals s=some (some v)->X.mg s=some v)(hm:FA X.K x s f)(j:PA X (e::es) t)(hn:n<=k:=by decide)(i:X.env.kindOf x=some .globalImplicit:=by rfl)(c:(x == ("__debug__":Str))=false:=by decide)(l:starEach (e::es) X.env=(false,eval e X.env)::starEach es X.env:=by rfl)(d:(backTo pos dQ).any (·.1)=false:=by rfl):PE X (.Call (.Name x p) (e::es) [] pos) (aP sp [] E0 t):=rT h.g (hr.mono hn) i (mo hm.a) h.k h.b .nil G.eO j c l d
end
theorem cA{N P:AH}{h:Scope}(a:h.kind=.function:=by rfl)(b:h.isCoroutine=false:=by rfl)(c:h.isGenerator=false:=by rfl)(d:N.Nodup:=by decide +kernel)(e:N.take P.length=P:=by rfl)(f:∀x∈P,h.names.lookup x=some .local\/h.names.lookup x=some .cell:=by decide +kernel)(g:∀y∈h.names,y.2≠.free:=by decide +kernel):aO N P h:=⟨a,b,c,d,e,f,g⟩
abbrev xx:AH:=["self","birth","many","bulk","tone"]
abbrev uO:AH:=["self","field"]
abbrev xr:AH:=["self","room"]
abbrev yF:AH:=["self","many","bulk","tone"]
abbrev Q3:AH:=["self","cell"]
abbrev Mg:AH:=["self","place"]
abbrev Xn:AH:=["heap","place"]
abbrev QW:AH:=["heap","place"]
abbrev Xd:AH:=["heap","rows"]
abbrev Zcs:AH:=["heap","places","way"]
abbrev xu:AH:=["self","name","many"]
abbrev uK:AH:=["self","room","kind","hands"]
abbrev Ln:AH:=["heap","places"]
abbrev Lh:AH:=["world","hand"]
abbrev Li:AH:=["world","cell"]
abbrev Xe:AH:=["world","place"]
abbrev Lg:AH:=["world","place"]
abbrev Zms:AH:=["world","place"]
abbrev QT:AH:=["world","places"]
abbrev Zmt:AH:=["world","place","birth"]
abbrev Xc:AH:=["world","place","birth"]
abbrev Gh:AH:=["world","hands"]
abbrev qL:AH:=["self","hands"]
abbrev pP:AH:=["self","looked","hands"]
abbrev uM:AH:=["self","hands"]
abbrev uN:AH:=["self","looked","hands"]
abbrev uL:AH:=["self","looked","hands"]
abbrev xq:AH:=["self","looking","tells"]
abbrev QS:AH:=["world","hand"]
abbrev Xm:AH:=["world","hand","slot"]
abbrev Lj:AH:=["world","hand","slot","field"]
abbrev Bu:AH:=["world","place"]
abbrev Bv:AH:=["world","hand","place"]
abbrev Xi:AH:=["world","deed"]
abbrev Zcu:AH:=["world","deed"]
abbrev Zct:AH:=["world","deed"]
abbrev Xl:AH:=["world","deed"]
abbrev Xk:AH:=["world","deed"]
abbrev Xj:AH:=["world","deed"]
abbrev QV:AH:=["world","deed"]
abbrev Xg:AH:=["world","deed"]
abbrev Xh:AH:=["world","deed"]
abbrev Xf:AH:=["world","deed"]
abbrev Bw:AH:=["world","word"]
abbrev Zw0:AH:=["world","deed"]
abbrev Ma:AH:=["_law_script","_law_k"]
abbrev LQ:AH:=["_law_cell_here","_law_prime","_law_many"]
abbrev Lp:AH:=["_law_cell_here","_law_w"]
abbrev Gm:AH:=["_law_script"]
abbrev Lw:AH:=["_law_script"]
abbrev LC:AH:=["_law_number_here"]
abbrev Ly:AH:=["_law_n","_law_h","_law_s"]
abbrev Lz:AH:=["_law_n"]
abbrev LR:AH:=["_law_n","_law_hands_here","_law_seed"]
abbrev Gq:AH:=["_law_n","_law_hands_here","_law_seed"]
abbrev Gj:AH:=["_law_hands_here","_law_cell_here","_law_seed"]
abbrev Ls:AH:=["_law_script","_law_hands_here"]
abbrev By:AH:=["_law_found"]
abbrev Gp:AH:=["_law_found","_law_due_here"]
abbrev LK:AH:=["_law_world","_law_deed_here"]
abbrev Gn:AH:=["_law_rows_here","_law_bits_here"]
abbrev Lq:AH:=["_law_cells","_law_births","_law_mark"]
abbrev BJ:AH:=["_law_after","_law_before","_law_marks"]
abbrev Gi:AH:=["_law_sweeper"]
abbrev Mf:AH:=["_law_way_here","_law_looked","_law_hands_here"]
abbrev Lx:AH:=["_law_cells"]
abbrev QZ:AH:=["_law_world","_law_way_here","_law_cells"]
abbrev BP:AH:=["_law_cells"]
abbrev Gk:AH:=["_law_rows_here","_law_fields_here"]
abbrev Bx:AH:=["_law_world","_law_cells"]
abbrev QX:AH:=["_law_rows_here","_law_fields_here","_law_way_here"]
abbrev BK:AH:=["_law_world","_law_pale_here"]
abbrev rW:AH:=["_law_world","_law_cells"]
abbrev yE:AH:=["_law_world","_law_cells","_law_event_here","_law_due_here"]
abbrev BL:AH:=["_law_world","_law_cells","_law_pale_here","_law_event_here"]
abbrev Lr:AH:=["_law_world","_law_way_here"]
section
variable {X:Cx}
theorem fJ{a b:AN}{d e:TE}{c:Pos}{r:R2}(hr:IxR X r)(f:PE X a d)(hb:PE X b e)(hs:Zjh b:=by exact λ_ _=>rfl):PE X (.Subscript a b c) (bh r d e):=Zvz hr f hb hs
theorem pdg{o i:AN}{b ty:TE}{a:Pos}{k:Nat}(hr:Room k X.A)(d:PE X o b)(c:PE X i ty)(hs:Zrh i:=by exact λ_ _=>rfl):PE X (.Subscript o i a) (xZ b ty):=Zpx (jR hr) d c hs
theorem gZ{a b:AN}{e f:TE}{d:Pos}{c:CmpOp}{r:R2}(g:tK X (compareOp c) r)(h:PE X a e)(hb:PE X b f)(hm:behindInMarks c b=false:=by exact qN _):PT X (.Compare a [c] [b] d) (bC (bh r e f)):=Zps g h hb hm
theorem cZ(i:Nat){x:Str}{e:AN}{c:TE}{a b:Pos}(f:X.N.Nodup)(h:PE X e c)(g:X.N[i]? =some x:=by rfl)(hx:Loc X.env.scope x:=by exact Or.inl rfl)(hs:swapsWith e (some (.Name x a)) b.line X.env=pure false:=by rfl)(d:X.fn x=true\/X.env.scope.names.lookup x=some .local:=by first | exact .inl rfl | exact .inr rfl | assumption):PS X (.Assign [.Name x a] e b) (bx c (aL i)):=Zk f g hx h hs d
end
structure PAw(X:Cx)(es:AG)(t:TA):Prop where
 h:PA X es t
structure PSw(X:Cx)(st:List Stmt)(t:TS):Prop where
 h:PSs X st t
structure PPw(X:Cx)(pos:Pos)(keys:List (Option AN))(values:AG)(trs:List (TE×TE)):Prop where
 h:PPs X pos keys values trs
structure PEw(X:Cx)(e:AN)(t:TE):Prop where
 h:PE X e t
section
variable {X:Cx}
theorem iw{st rest t u}(h1:PS X st t)(h2:PSw X rest u):PSw X (st::rest) (aN t u):=⟨ao h1 h2.h⟩
theorem Zpt{st t}(h1:PS X st t):PSw X [st] t:=⟨aA h1⟩
end
open PySem.Spec PyProof.Rows in
theorem Zz7{P:AM}{w:AO}{K:aB}{mg:As}{base:Heap}{x a:Str}{st:Stmt}{f:AI}{fd:AL}{N ps:AH}{sp:Sp}{k:Nat}(F:Fun K x a st f fd)(S:aO N ps (aG st))(len:∀vs H Q E,sp vs H Q E->vs.length=ps.length)
  (c:∀(b:AJ) (A:Around) (outer:List Env) (s:AK) (H:Hp) (vs:List V) (Q:VK) (E:XK),Room k (A.deeper (envOfC a (aG st) s.heap.objs.size f b))->sp vs H Q E->
   ∃t,PSw (JN (Uy P w) P w K mg base N a (aG st) f b A outer s H E).nox (gG st) t/\t { nx:=λ_ H'=>Q .non H',rt:=Q } (start N vs) H):rD P w K mg base (Uy P w) db f fd ps sp:=
 G.fok F S len λb A outer s H vs Q E hr h=>let ⟨t,p,q⟩:=c b A outer s H vs Q E hr h;⟨t,p.h,q⟩
structure Ad where
 (pF bD bU di cF xP HW vz xN jr Tj NK NB HS Yr Tf Yo Zec xO qX vm Zon Cw Ng M9 Nb Hw Yp Hs M8 Ziz Zom Td Zoo Ziy Yn Hv gj gb Zok Cv Zs8 Hz Te Ht gh Hu Zs7 eY Zol Ym Zed fO iV ie vp vq vo HR xM S9 Yq Nf Cq Cr mj pB pA mC mz mq j6 lY lZ lX Cu Zxi Ny Nv Nh HH Nm Nt Nq Nr Nx HQ HD Nk Cz HN Nu HJ Ni CG HB Nz Np Ti CQ HF Cy Th CJ tE zj CP Nj:AI)
structure Bd where
 u:Unit
 (v9:AL)
structure Tx1(K:aB)(XQ:Cs)(AD:Ad):Prop where
 Zve:Ns K "Cell" XQ.C
 Zva:Ns K "Heap" XQ.H
 Zvb:Ns K "Hand" XQ.D
 Zlc:Ns K "Sweeper" XQ.S
 Zrd:Ns K "World" XQ.W
 Zre:Ns K "First" XQ.F
 Zvd:Ns K "Each" XQ.E
 Zv9:Ns K "Last" XQ.L
 Zhi:Ns K "Kind" XQ.K
 Zer:Ns K "GreyError" AD.pF
 Zes:Ns K "EmptySlot" AD.bD
 Zld:Ns K "NoField" AD.bU
 Zvc:Ns K "Full" AD.di
 Zp5:Ns K "NoName" AD.cF
 uZ:MT K XQ.C "__init__" "Cell.__init__" wZ AD.xP
 oO:MT K XQ.C "units" "Cell.units" Ff AD.HW
 sX:MT K XQ.C "has_field" "Cell.has_field" uA AD.vz
 uW:MT K XQ.H "__init__" "Heap.__init__" wX AD.xN
 Mm:MT K XQ.H "lay" "Heap.lay" Qm AD.Tj
 GF:MT K XQ.H "back" "Heap.back" K7 AD.NK
 GD:MT K XQ.H "free" "Heap.free" K6 AD.NB
 tY:MT K XQ.H "there" "Heap.there" Fe AD.HS
 nW:FA K "cell_at" W6 AD.Yr
 iD:FA K "birth_at" Qj AD.Tf
 Ju:FA K "reached" WQ AD.Yo
 RP:FA K "onward" Zca AD.Zec
 uX:MT K XQ.D "__init__" "Hand.__init__" wY AD.xO
 pR:MT K XQ.S "__init__" "Sweeper.__init__" qz AD.qX
 sS:MT K XQ.W "__init__" "World.__init__" uw AD.vm
 Zga:FA K "held" Zm1 AD.Zon
 oR:FA K "births_held" Aq AD.Cw
 sY:FA K "births_at" Ky AD.Ng
 Mq:FA K "looked_at" Ku AD.M9
 jl:FA K "has_sense" Kv AD.Nb
 GK:FA K "is_walking" Ep AD.Hw
 Xz:FA K "mark_of" WR AD.Yp
 pZ:FA K "told_cells" El AD.Hs
 Mp:FA K "told_cell" Ks AD.M8
 Zij:FA K "begin" Zi3 AD.Ziz
 Znh:FA K "note" Zm0 AD.Zom
 nU:FA K "note_all" Qf AD.Td
 Z3:FA K "gone" Zm2 AD.Zoo
 Ph:FA K "roots" Zi2 AD.Ziy
 Xy:FA K "root_of" WM AD.Yn
 vX:FA K "note_hands" Eo AD.Hv
 yP:FA K "step_at_rest" yg AD.gj
 yN:FA K "step_in_walk" ye AD.gb
 Zng:FA K "walk" Zly AD.Zok
 Ca:FA K "look_or_cut" Ao AD.Cv
 Zrz:FA K "cut" Zrp AD.Zs8
 GP:FA K "first_loss" Er AD.Hz
 RQ:FA K "given_up" Qh AD.Te
 vW:FA K "told_again" Em AD.Ht
 yO:FA K "step_in_give" yf AD.gh
 GJ:FA K "pass_place" En AD.Hu
 Zry:FA K "end" s_end AD.Zs7
 vd:FA K "step_when_lost" uv AD.eY
 Jt:FA K "step" Zlz AD.Zol
 Xx:FA K "to_rest" WL AD.Ym
 RV:FA K "all_of" Zcd AD.Zed
 gB:MT K XQ.E "at_begin" "Looking.at_begin" qC AD.fO
 jZ:MT K XQ.F "next_look" "Looking.next_look" pM AD.iV
 ji:MT K XQ.E "stays" "Looking.stays" wV AD.ie
 sV:MT K XQ.F "at_begin" "First.at_begin" uy AD.vp
 sW:MT K XQ.E "next_look" "Each.next_look" uz AD.vq
 sU:MT K XQ.L "next_look" "Last.next_look" ux AD.vo
 tX:MT K XQ.L "stays" "Last.stays" Fb AD.HR
 kO:MT K XQ.K "__init__" "Kind.__init__" wW AD.xM
 gU:FA K "slots_of" Qe AD.S9
 kW:FA K "cell_in" W5 AD.Yq
 o9:FA K "fields_in" Kw AD.Nf
 BZ:FA K "told_as_old" Ak AD.Cq
 t7:FA K "told_as_new" Am AD.Cr
 XH:FA K "do_make" W0 AD.mj
 Zdk:FA K "do_get" Zcc AD.pB
 Zdj:FA K "do_put" Zcb AD.pA
 XN:FA K "do_copy" W4 AD.mC
 XM:FA K "do_drop" W3 AD.mz
 XJ:FA K "do_give" W2 AD.mq
 RT:FA K "do_write" Qi AD.j6
 XD:FA K "do_read" WX AD.lY
 XF:FA K "do_name" WY AD.lZ
 XC:FA K "do_seek" WW AD.lX
 uc:FA K "place_named" An AD.Cu
 Ztq:FA K "do" Zvu AD.Zxi
 jm:FA K "_law_cell" K4 AD.Ny
 cH:FA K "_law_draw" K1 AD.Nv
 pq:FA K "_law_word" Kz AD.Nh
 GX:FA K "_law_hands" Ew AD.HH
 Mu:FA K "_law_room" KJ AD.Nm
 Mx:FA K "_law_kind" KY AD.Nt
 Mv:FA K "_law_made" KQ AD.Nq
 Mw:FA K "_law_load" KR AD.Nr
 Mz:FA K "_law_deed" K3 AD.Nx
 G3:FA K "_law_deeds" EY AD.HQ
 GQ:FA K "_law_start" Et AD.HD
 Ms:FA K "_law_rows" KH AD.Nk
 iG:FA K "_law_number" Av AD.Cz
 m6:FA K "_law_event" Ez AD.HN
 My:FA K "_law_hand" KZ AD.Nu
 GZ:FA K "_law_first" Ey AD.HJ
 sZ:FA K "_law_with" KC AD.Ni
 ud:FA K "_law_marked" Aw AD.CG
 vY:FA K "_law_state" Es AD.HB
 MF:FA K "_law_bits" K5 AD.Nz
 yQ:FA K "_law_pale" KN AD.Np
 RX:FA K "_law_due" Ql AD.Ti
 Ck:FA K "_law_fields" Ba AD.CQ
 GR:FA K "_law_reach" Eu AD.HF
 Cd:FA K "_law_rooted" Ar AD.Cy
 RW:FA K "_law_way" Qk AD.Th
 Cg:FA K "_law_listed" Ay AD.CJ
 tD:FA K "_law_lost_names" rG AD.tE
 yR:FA K "_law_is_lost" yh AD.zj
 Cj:FA K "_law_is_cut" Az AD.CP
 Mr:FA K "_law_step" KD AD.Nj
 z9:CA K XQ.C
 eF:Fo K XQ.C "birth"
 o8:Fo K XQ.C "bulk"
 o7:Fo K XQ.C "tone"
 jY:Fo K XQ.C "load"
 fW:Fo K XQ.C "fields"
 tG:CA K XQ.H
 sO:Fo K XQ.H "room"
 bR:Fo K XQ.H "cells"
 jk:Fo K XQ.H "used"
 o5:Fo K XQ.H "born"
 Zj9:CA K XQ.D
 Zdg:Fo K XQ.D "name"
 Z2:Fo K XQ.D "slots"
 Tz:CA K XQ.S
 Ow:Fo K XQ.S "sense"
 Ox:Fo K XQ.S "phase"
 RK:Fo K XQ.S "grey"
 Jq:Fo K XQ.S "looked"
 RD:Fo K XQ.S "turn"
 Z0:Fo K XQ.S "at"
 RG:Fo K XQ.S "stop"
 Ov:Fo K XQ.S "walks"
 Oz:Fo K XQ.S "looks"
 Jp:Fo K XQ.S "passes"
 RJ:Fo K XQ.S "loss"
 Zeo:CA K XQ.W
 ZZ:Fo K XQ.W "heap"
 ZX:Fo K XQ.W "kind"
 Vk:Fo K XQ.W "hands"
 Vj:Fo K XQ.W "names"
 Ou:Fo K XQ.W "sweeper"
 vA:CA K XQ.F
 Zn3:W.findIn K (.ref XQ.F) "__init__"=some eL
 z8:CA K XQ.E
 Zq6:W.findIn K (.ref XQ.E) "__init__"=some eL
 z7:CA K XQ.L
 Zq5:W.findIn K (.ref XQ.L) "__init__"=some eL
 Pq:CA K XQ.K
 RM:Fo K XQ.K "looking"
 Z1:Fo K XQ.K "tells"
 Zc2:W.excIn K AD.bD [.type "ValueError",.type "Exception",.type "BaseException",.type "object"] "ValueError.__new__"=true
 Zsg:W.excIn K AD.di [.type "ValueError",.type "Exception",.type "BaseException",.type "object"] "ValueError.__new__"=true
 Zjj:W.excIn K AD.bU [.type "ValueError",.type "Exception",.type "BaseException",.type "object"] "ValueError.__new__"=true
 Zlg:W.excIn K AD.cF [.type "ValueError",.type "Exception",.type "BaseException",.type "object"] "ValueError.__new__"=true
 xU:W.exmOne K (.ref AD.bD) (.ref AD.pF)=some true
 Ac:W.exmOne K (.ref AD.bU) (.ref AD.pF)=some true
 JL:W.exmOne K (.ref AD.di) (.ref AD.pF)=some true
 Dn:W.exmOne K (.ref AD.cF) (.ref AD.pF)=some true
structure Txt(w:AO)(K:aB)(mg:As)(XQ:Cs)(AD:Ad)(BD:Bd):Prop extends Tx1 K XQ AD where
 mo {s:Str}{v:AJ}:W.nsIn K mainGlobals s=some (some v)->mg s=some v
 Wx:G.Tab K w mg "STEPS" [("rest",AD.gj),("walk",AD.gb),("give",AD.gh),("lost",AD.eY)]
 Wy:G.Tab K w mg "DEEDS" [("make",AD.mj),("get",AD.pB),("put",AD.pA),("copy",AD.mC),("drop",AD.mz),("give",AD.mq),("write",AD.j6),("read",AD.lY),("name",AD.lZ),("seek",AD.lX)]
 Pn:G.EqD K XQ.C
 uY:Meth K XQ.E "at_begin" AD.fO
 tZ:Meth K XQ.E "stays" AD.ie
 qQ:Meth K XQ.F "next_look" AD.iV
 qP:Meth K XQ.F "stays" AD.ie
 uV:Meth K XQ.L "at_begin" AD.fO
 Gz:Meth K XQ.H "make" AD.jr
 YD:mg "bool"=none
 lR:mg "enumerate"=none
 Zhx:mg "int"=none
 fU:mg "isinstance"=none
 fP:mg "len"=none
 mH:mg "list"=none
 kh:mg "range"=none
 Zhw:mg "str"=none
 DW:mg "tuple"=none
 Zs5:G.GC mg "NEW" (.int 2)
 Zs4:G.GC mg "OLD" (.int 1)
 Ob:G.Zvh K "make" "Heap.make" jW AD.jr BD.v9
 zm:Binds K BD.v9 yF []
 MP:Ki K AD.jr
theorem mkT{K:aB}{C f:AI}{q:Str}{s:Stmt}(c:CA K C)(m:MT K C "__init__" q s f):Mk K C f:=⟨c.mk',m.m.at_,m.m.fn,c.k⟩
section
variable {P:AM}{w:AO}{K:aB}{mg:As}{base:Heap}{x qual:Str}{st:Stmt}{f:AI}{n:Nat}{ps:AH}{sp:Sp}{g:FnG K x qual st f}
theorem Zuw(b:Binds K (fZ g) ps [])(h:Fun K x qual st f (fZ g)->Fn5 P w K mg base n f (fZ g) ps sp):ι n f (fZ g) ps sp:=⟨h (Hr g),b,(Hr g).kp⟩
end
local macro_rules | `(tactic| walk_at "okb")=>`(tactic| first | exact bd1 (Hr _) _ | exact bd2 (Hr _) _ _ | exact bd3 (Hr _) _ _ _ | exact bd4 (Hr _) _ _ _ _ | exact bd5 (Hr _) _ _ _ _ _)
local macro_rules | `(tactic| walk_at"k")=>`(tactic| (first | (obtain ⟨_,rfl,_⟩:=h;rfl) | (obtain ⟨_,_,rfl,_⟩:=h;rfl) | (obtain ⟨_,_,_,rfl,_⟩:=h;rfl) | (obtain ⟨_,_,_,_,rfl,_⟩:=h;rfl) | (obtain ⟨_,_,_,_,_,rfl,_⟩:=h;rfl) | (obtain ⟨_,_,_,_,_,_,rfl,_⟩:=h;rfl) | (obtain ⟨_,_,_,_,_,_,_,rfl,_⟩:=h;rfl)))
local macro_rules | `(tactic| walk_at "ok")=>`(tactic| (refine Zuw ?b λF=>?_;(case b=>walk_at "okb");refine G.fok F sc (λvs H Q E h=>?_) (λcdv A outer s H vs Q E hr h=>?_);· (walk_at"k")))
local macro_rules | `(tactic| walk_at "okw")=>`(tactic| (refine Zuw ?b λF=>?_;(case b=>walk_at "okb");refine Zz7 F sc (λvs H Q E h=>?_) (λcdv A outer s H vs Q E hr h=>?_);· (walk_at"k")))
local macro_rules | `(tactic| walk_at "okDX")=>`(tactic| (refine G.Zxh F sc (λvs H Q E h=>?_) (λcdv A outer s H vs Q E hr h=>?_);· (walk_at"k")))
local macro_rules | `(tactic| walk_at "okL")=>`(tactic| (refine G.fok F sc (λvs H Q E h=>?_) (λcdv A outer s H vs Q E hr h=>?_);· (walk_at"k")))
local macro_rules | `(tactic| walk_at "okX")=>`(tactic| (refine Zuw ?b λF=>?_;(case b=>walk_at "okb");refine G.Zz8 F sc (λvs H Q E h=>?_) (λcdv A outer s H vs Q E hr h=>?_);· (walk_at"k")))
section
variable {P:AM}{w:AO}{K:aB}{mg:As}{base:Heap}{XQ:Cs}{AD:Ad}{BD:Bd}(T:Txt w K mg XQ AD BD)
include T
theorem jT:lq K XQ:=⟨⟨T.z9.c,T.eF,T.o8,T.o7,T.jY,T.fW,T.tG.c,T.sO,T.bR,T.jk,T.o5,T.Pn⟩,T.Zeo.c,T.ZZ,T.ZX,T.Vk,T.Vj,T.Ou,T.Zj9.c,T.Zdg,T.Z2,T.Pq.c,T.RM,T.Z1,T.Tz.c,T.Ow,T.Ox,T.RK,T.Jq,T.RD,T.Z0,T.RG,T.Ov,T.Oz,T.Jp,T.RJ⟩
theorem uR:ι 1 AD.xP (fZ T.uZ.g) xx (Oa XQ.C):=by
 have sc:aO ["self","birth","many","bulk","tone"] xx (aG wZ):=cA;walk_at "ok"
 ·refine⟨_,(ao (cu Ξ ψ rfl)
   (ao (cu Ξ Ω rfl)
   (ao (cu Ξ a8 rfl)
   (ao eC
   (aA (cu Ξ (aY Q5 (bV (aa (cR) au)) Ψ) rfl)))))),?_⟩
  obtain⟨z0,z1,z2,z3,z4,rfl,q⟩:=h;exact Kh (jT T).c q
theorem jL:ι 1 AD.HW (fZ T.oO.g) ["self"] (wN XQ.C):=by
 have sc:aO ["self"] ["self"] (aG Ff):=cA;walk_at "ok"
 ·refine⟨_,(aA (aM (aY gR (aY gR (az) ay) ο))),?_⟩;obtain⟨z0,rfl,q⟩:=h;exact Wc (jT T).c q
theorem sI:ι 1 AD.vz (fZ T.sX.g) uO (NZ XQ):=by
 have sc:aO ["self","field"] uO (aG uA):=cA;walk_at "ok"
 ·refine⟨_,(aA (aM (Zmp Zie rZ (az) ψ ay))),?_⟩;obtain⟨z0,z1,rfl,q⟩:=h;exact Il cq q
theorem uP:ι 1 AD.xN (fZ T.uW.g) xr (N6 XQ.H):=by
 have sc:aO ["self","room"] xr (aG wX):=cA;walk_at "ok"
 ·refine⟨_,(ao (cu Ξ ψ rfl)
   (ao (cu Ξ dP rfl)
   (ao eC
   (aA eC)))),?_⟩
  obtain⟨z0,z1,rfl,q⟩:=h;exact Ke (jT T).c q
theorem Mi:ι 1 AD.Tj (fZ T.Mm.g) Q3 (Us K XQ.H):=by
 have sc:aO ["self","cell","place"] Q3 (aG Qm):=cA;walk_at "ok"
 ·refine⟨_,(ao (bK (gZ (G.Zk1 (jR hr)) (cR) ο dr) (ao (iT (uJ PySem.F.plainAttrs_list PySem.F.slot_list_append PySem.F.type_list_append kJ ο c8))
   (aA (aM (aY vP ay (az))))) aU)
   (ao (cZ 2 sc.nd (uJ PySem.F.plainAttrs_list PySem.F.slot_list_index PySem.F.type_list_index (G.Zk5 (jR hr)) ο (aa (cR) au)))
   (ao (tV ψ (vM ο Ψ set_list))
   (aA (aM Ψ))))),?_⟩
  obtain⟨z0,z1,rfl,q⟩:=h;exact Zf0 (jT T).c q
theorem Gv:ι 1 AD.NB (fZ T.GD.g) ["self"] (N7 XQ.H):=by
 have sc:aO ["self"] ["self"] (aG K6):=cA;walk_at "ok"
 ·refine⟨_,(aA (aM (aY vP ο ο))),?_⟩;obtain⟨z0,rfl,q⟩:=h;exact Zc0 (jT T).c q
theorem oM:ι 1 AD.HS (fZ T.tY.g) ["self"] (qb XQ.H):=by
 have sc:aO ["self"] ["self"] (aG Fe):=cA;walk_at "ok"
 ·refine⟨tU K,(aA (aM (G.Lf (cns:=["self"]) [0] (jK rfl T.kh (aa ay au)) (λ_ _ _ _ _=>(G.Jh (gZ G.oW (fJ bY dZ Ξ) (cR)))) (λ_ _ _ _ _=>Ξ) rfl rfl ω (by repeat (first | exact trivial | refine⟨rfl,?_⟩)) rfl γ rfl γ γ rfl γ))),?_⟩;obtain⟨z0,rfl,q⟩:=h;exact V9 (jT T).c q
theorem nR:ι 1 AD.Yr (fZ T.nW.g) Xn (jM XQ.H):=by
 have sc:aO ["heap","place"] Xn (aG W6):=cA;walk_at "ok"
 ·refine⟨_,(ao (bK (PW.pt (iu (gZ G.pW ψ (cR)) (iu (gZ rZ ψ (az)) (gQ (gZ Zw4 ψ ay))))) (aA (aM (cR))) aU)
   (aA (aM (fJ bY ο ψ)))),?_⟩
  obtain⟨z0,z1,rfl,q⟩:=h;exact Zha cq q
theorem uQ:ι 1 AD.xO (fZ T.uX.g) xu (N8 XQ.D):=by
 have sc:aO ["self","name","many"] xu (aG wY):=cA;walk_at "ok"
 ·refine⟨_,(ao (cu Ξ ψ rfl)
   (aA (cu Ξ (aY Q5 (bV (aa (cR) au)) Ψ) rfl))),?_⟩
  obtain⟨z0,z1,z2,rfl,q⟩:=h;exact Kg cq q
theorem pQ:ι 1 AD.qX (fZ T.pR.g) ["self"] (zJ XQ.S):=by
 have sc:aO ["self"] ["self"] (aG qz):=cA;walk_at "ok"
 ·refine⟨_,(ao eC
   (ao (cu Ξ (bA) rfl)
   (ao (cu Ξ dP rfl)
   (ao eC
   (ao eC
   (ao eC
   (ao eC
   (ao eC
   (ao eC
   (ao eC
   (aA (cu Ξ (cR) rfl)))))))))))),?_⟩
  obtain⟨z0,rfl,q⟩:=h;exact Ag cq q
theorem Zih:ι 1 AD.Zon (fZ T.Zga.g) ["world"] (Zhs XQ):=by
 have sc:aO ["world"] ["world"] (aG Zm1):=cA;walk_at "ok"
 ·refine⟨Zh K,(aA (aM (G.Lf (cns:=[]) [] (dO ο) (λ_ _ _ _ _=>G.Di) (λ_ _ _ _ _=>(kE G.wz η T.mH G.boot_list (aa ο au))) rfl rfl ω (by repeat (first | exact trivial | refine⟨rfl,?_⟩)) rfl γ rfl γ γ rfl γ))),?_⟩;obtain⟨z0,rfl,q⟩:=h;exact Zqt (jT T) q
theorem Zv:ι 1 AD.M9 (fZ T.Mq.g) Lh (NT XQ):=by
 have sc:aO ["world","hand"] Lh (aG Ku):=cA;walk_at "ok"
 ·refine⟨_,(aA (aM (mY fu (aY Dj (aY Q4 bS ψ) (az)) (az) (qN _)))),?_⟩;obtain⟨z0,z1,rfl,q⟩:=h;exact Z4 cq q
theorem jw:ι 1 AD.Nb (fZ T.jl.g) Li (iB XQ):=by
 have sc:aO ["world","cell"] Li (aG Kv):=cA;walk_at "ok"
 ·refine⟨_,(aA (aM (mY fu dZ bS (qN _)))),?_⟩;obtain⟨z0,z1,rfl,q⟩:=h;exact Zas cq q
theorem Va:ι 1 AD.Hw (fZ T.GK.g) ["world"] (Ig XQ):=by
 have sc:aO ["world"] ["world"] (aG Ep):=cA;walk_at "ok"
 ·refine⟨_,(aA (aM (mY zV bS (bW (aa (bA) (aa (bA) au))) dr))),?_⟩;obtain⟨z0,rfl,q⟩:=h;exact Vr cq q
theorem BR:ι 1 AD.Ht (fZ T.vW.g) ["event"] (wJ K):=by
 have sc:aO ["event"] ["event"] (aG Em):=cA;walk_at "ok"
 ·refine⟨_,(aA (aM (bW (aa (fJ bH Ξ (az)) (aa (fJ bH Ξ (az)) (aa (kE G.wz η T.mH G.boot_list (aa (fJ bH Ξ (az)) au)) au)))))),?_⟩;obtain⟨z0,rfl,q⟩:=h;exact UG q
theorem Ztc:ι 1 AD.Zs7 (fZ T.Zry.g) ["world"] (cM XQ pEnd):=by
 have sc:aO ["world","sweeper"] ["world"] (aG s_end):=cA;walk_at "ok"
 ·refine⟨_,(ao (cZ 1 sc.nd ο)
   (ao (cu ψ (bA) rfl)
   (aA (aM (bW (aa (bA) (aa dZ (aa (bV (aa dZ (aa dZ (aa dZ au)))) au)))))))),?_⟩
  obtain⟨z0,rfl,q⟩:=h;exact Zv0 cq q
theorem Xu:ι 1 AD.Zed (fZ T.RV.g) ["hands"] (Ur):=by
 have sc:aO ["hands"] ["hands"] (aG Zcd):=cA;walk_at "ok"
 ·refine⟨_,(aA (aM (aY vP (aY Zo (az) Ξ) (az)))),?_⟩;obtain⟨z0,rfl,q⟩:=h;exact Zlb q
theorem iU:ι 1 AD.fO (fZ T.gB.g) qL (wL 1):=by
 have sc:aO ["self","hands"] qL (aG qC):=cA;walk_at "ok"
 ·refine⟨_,(aA (aM (az))),?_⟩;obtain⟨z0,z1,rfl,q⟩:=h;exact Ah q
theorem oY:ι 1 AD.iV (fZ T.jZ.g) pP (mF 0):=by
 have sc:aO ["self","looked","hands"] pP (aG pM):=cA;walk_at "ok"
 ·refine⟨_,(aA (aM (az))),?_⟩;obtain⟨z0,z1,z2,rfl,q⟩:=h;exact zM q
theorem eX:ι 1 AD.ie (fZ T.ji.g) ["self"] (wK (.bl true)):=by
 have sc:aO ["self"] ["self"] (aG wV):=cA;walk_at "ok"
 ·refine⟨_,b9,?_⟩;obtain⟨z0,rfl,q⟩:=h;exact Kc q
theorem sH:ι 1 AD.vq (fZ T.sW.g) uN (mF 1):=by
 have sc:aO ["self","looked","hands","hand"] uN (aG uz):=cA;walk_at "ok"
 ·refine⟨_,(ao (fM PassesOwn.never rfl (jK rfl T.kh ci) dn
   (aA (bK (gZ fu (aY Dj (aY Q4 ψ Ω) (az)) (az)) (aA (aM (aY Zo (az) Ω))) aU)))
   (aA (aM (az)))),?_⟩
  obtain⟨z0,z1,z2,rfl,q⟩:=h;exact Ik q
theorem oK:ι 1 AD.HR (fZ T.tX.g) ["self"] (wK (.bl false)):=by
 have sc:aO ["self"] ["self"] (aG Fb):=cA;walk_at "ok"
 ·refine⟨_,b9,?_⟩;obtain⟨z0,rfl,q⟩:=h;exact V8 q
theorem gM:ι 1 AD.xM (fZ T.kO.g) xq (zK XQ.K):=by
 have sc:aO ["self","looking","tells"] xq (aG wW):=cA;walk_at "ok"
 ·refine⟨_,(ao (cu Ξ ψ rfl)
   (aA (cu Ξ Ψ rfl))),?_⟩
  obtain⟨z0,z1,z2,rfl,q⟩:=h;exact Kd cq q
theorem gJ:ι 1 AD.S9 (fZ T.gU.g) QS (iH XQ):=by
 have sc:aO ["world","hand"] QS (aG Qe):=cA;walk_at "ok"
 ·refine⟨_,(aA (aM (aK (fJ bY ο ψ) rfl))),?_⟩;obtain⟨z0,z1,rfl,q⟩:=h;exact Zc9 cq q
theorem Q7:ι 1 AD.Cq (fZ T.BZ.g) Bu (Uj XQ):=by
 have sc:aO ["world","place"] Bu (aG Ak):=cA;walk_at "ok"
 ·refine⟨_,(ao (bK (gZ fu (aY Dj bS (T.Zs4.pe rfl)) (az)) (aA (aM dP)) aU)
   (aA (aM (bV c8)))),?_⟩
  obtain⟨z0,z1,rfl,q⟩:=h;exact Pz cq q
theorem jz:ι 1 AD.Ny (fZ T.jm.g) Ma (DN K):=by
 have sc:aO ["_law_script","_law_k"] Ma (aG K4):=cA;walk_at "ok"
 ·refine⟨_,(ao (bK (gZ rZ ψ cU) (aA (aM (fJ bY Ξ ψ))) aU)
   (aA (aM (az)))),?_⟩
  obtain⟨z0,z1,rfl,q⟩:=h;exact Zbd q
theorem cz:ι 1 AD.Nv (fZ T.cH.g) LQ (pJ):=by
 have sc:aO ["_law_cell_here","_law_prime","_law_many"] LQ (aG K1):=cA;walk_at "ok"
 ·refine⟨_,(aA (aM (aY fj (aY fj (aY Jl (aY fj Ξ ψ) (az)) ψ) Ψ))),?_⟩;obtain⟨z0,z1,z2,rfl,q⟩:=h;exact Zbb q
theorem pY:ι 1 AD.Nh (fZ T.pq.g) Lp (wI):=by
 have sc:aO ["_law_cell_here","_law_w","_law_letters","_law_size","_law_at","_law_rest","_law_sign"] Lp (aG Kz):=cA;walk_at "ok"
 ·refine⟨_,(ao (cZ 2 sc.nd (bA))
   (ao (cZ 3 sc.nd (aY gR (az) (aY fj Ξ (az))))
   (ao (cZ 4 sc.nd (aY fj (aY mZ Ξ (az)) Ω))
   (ao (cZ 5 sc.nd (fJ Znt Ψ dL))
   (ao (cZ 6 sc.nd (fJ Znt Ψ (aY fj (aY gR (aY mZ Ξ (az)) (aY Jl (az) ψ)) (az))))
   (aA (aM (aY Q6 (aY Q6 (aY G.Zic ee a8) (pv 6)) (aY G.Zic ee (aY vP (aY vP Ω (az)) a8)))))))))),?_⟩
  obtain⟨z0,z1,rfl,q⟩:=h;exact Zb1 q
theorem ZD:ι 1 AD.Nr (fZ T.Mw.g) Lz (Zjd):=by
 have sc:aO ["_law_n","_law_load_here"] Lz (aG KR):=cA;walk_at "ok"
 ·refine⟨_,(ao (cZ 1 sc.nd (aY fj Ξ (aY Zq (az) (az))))
   (ao (bK (gZ fu dL (az)) (aA (aM (Zru Zlk ψ))) aU)
   (aA (aM ψ)))),?_⟩
  obtain⟨z0,rfl,q⟩:=h;exact Zb8 q
theorem jg:ι 1 AD.Cz (fZ T.iG.g) By (vB):=by
 have sc:aO ["_law_found"] By (aG Av):=cA;walk_at "ok"
 ·refine⟨qF,(aA (aM ((QL (bQ G.q8 η T.fU G.boot_isinstance (aa Ξ (aa (vO rfl T.Zhx G.boot_int rfl) au))) (Ji (Zml (bQ G.q8 η T.fU G.boot_isinstance (aa Ξ (aa (vO rfl T.YD G.boot_bool rfl) au))))))))),?_⟩;obtain⟨z0,rfl,q⟩:=h;exact TQ q
theorem Vf:ι 1 AD.HJ (fZ T.GZ.g) Gn (Uo K):=by
 have sc:aO ["_law_rows_here","_law_bits_here","_law_births","_law_h","_law_birth"] Gn (aG Ey):=cA;walk_at "ok"
 ·refine⟨_,(ao (cZ 2 sc.nd dP)
   (ao (fM PassesOwn.never rfl (jK rfl T.kh (aa cU au)) dn
   (aA (fM PassesOwn.never rfl (dO (fJ bY Ξ Ω)) cx
   (aA (bK (PW.pt (yz (gZ fu (aY Dj (aY Q4 ψ Ω) (az)) (az)) (yz (gZ G.oW a8 (cR)) (vL (gZ Gr a8 Ψ dr))))) (aA (iT (uJ PySem.F.plainAttrs_list PySem.F.slot_list_append PySem.F.type_list_append kJ Ψ eI))) aU)))))
   (aA (aM Ψ)))),?_⟩
  obtain⟨z0,z1,rfl,q⟩:=h;exact V5 q
theorem vR:ι 1 AD.Ni (fZ T.sZ.g) Lq (Pu K):=by
 have sc:aO ["_law_cells","_law_births","_law_mark","_law_marks","_law_cell_here","_law_birth"] Lq (aG KC):=cA;walk_at "ok"
 ·refine⟨_,(ao (cZ 3 sc.nd (uI))
   (ao (fM PassesOwn.never rfl (dO Ξ) cx
   (aA (rP (jR hr) Ω (fJ bH a8 (az)) (fJ bH a8 (az)) rfl)))
   (ao (fM PassesOwn.never rfl (dO ψ) (cJ (i:=5) sc.nd rfl aS)
   (aA (rP (jR hr) Ω ee Ψ rfl)))
   (aA (aM Ω))))),?_⟩
  obtain⟨z0,z1,z2,rfl,q⟩:=h;exact Zb2 q
theorem yI:ι 1 AD.CG (fZ T.ud.g) BJ (J9 K):=by
 have sc:aO ["_law_after","_law_before","_law_marks","_law_k"] BJ (aG Aw):=cA;walk_at "ok"
 ·refine⟨qG K,(ao (bK (PW.pt (iu (fY (eG (bQ G.q8 η T.fU G.boot_isinstance (aa Ξ (aa (vO rfl T.mH G.boot_list rfl) au))))) (gQ (gZ rY cU (bQ G.bT η T.fP G.boot_len c8))))) b9 aU)
   (ao (fM PassesOwn.never rfl (jK rfl T.kh (aa (bQ G.bT η T.fP G.boot_len c8) au)) dn
   (ao (bK (PW.pt (iu (fY (eG (bQ G.q8 η T.fU G.boot_isinstance (aa (fJ bY Ξ Ω) (aa (vO rfl T.DW G.boot_tuple rfl) au))))) (gQ (gZ rY (bQ G.bT η T.fP G.boot_len (aa (fJ bY Ξ Ω) au)) (az))))) b9 aU)
   (aA (bK (PW.pt (iu (gZ (G.Zmz hr.units) (yD Zlx (fJ bY Ξ Ω) O8 (zR (az))) (yD Zlx (fJ bY ψ Ω) O8 (zR (az)))) (gQ (gZ rY (fJ bH (fJ bY Ξ Ω) (az)) (pdg hr Ψ (fJ bH (fJ bY ψ Ω) (az))))))) b9 aU))))
   (aA (aM (iQ))))),?_⟩
  obtain⟨z0,z1,z2,rfl,q⟩:=h;exact TV q
theorem ZK:ι 1 AD.Nz (fZ T.MF.g) Mf (Zbx):=by
 have sc:aO ["_law_way_here","_law_looked","_law_hands_here","_law_h"] Mf (aG K5):=cA;walk_at "ok"
 ·refine⟨_,(ao (bK (gZ fu Ξ (az)) (aA (aM (az))) aU)
   (ao (bK (gZ fu Ξ (az)) (aA (aM (aY vP (aY Zo (az) Ψ) (az)))) aU)
   (ao (fM PassesOwn.never rfl (jK rfl T.kh ci) dn
   (aA (bK (gZ fu (aY Dj (aY Q4 ψ Ω) (az)) (az)) (aA (aM (aY Zo (az) Ω))) aU)))
   (aA (aM (az)))))),?_⟩
  obtain⟨z0,z1,z2,rfl,q⟩:=h;exact Zbe q
theorem Gu:ι 1 AD.Np (fZ T.yQ.g) Lx (Ie K):=by
 have sc:aO ["_law_cells"] Lx (aG KN):=cA;walk_at "ok"
 ·refine⟨vJ K,(aA (aM (G.Lf (cns:=[]) [] (dO Ξ) (λ_ _ _ _ _=>(G.Jh (gZ fu (fJ bH Ξ (az)) (bA)))) (λ_ _ _ _ _=>(fJ bH Ξ (az))) rfl rfl ω (by repeat (first | exact trivial | refine⟨rfl,?_⟩)) rfl γ rfl γ γ rfl γ))),?_⟩;obtain⟨z0,rfl,q⟩:=h;exact Zb6 q
theorem Rq:ι 1 AD.CQ (fZ T.Ck.g) BP (Ka K):=by
 have sc:aO ["_law_cells","_law_fields_here","_law_cell_here"] BP (aG Ba):=cA;walk_at "ok"
 ·refine⟨_,(ao (cZ 1 sc.nd (uI))
   (ao (fM PassesOwn.never rfl (dO Ξ) (cJ (i:=2) sc.nd rfl aS)
   (aA (rP (jR hr) ψ (fJ bH Ψ (az)) (fJ bH Ψ (az)) rfl)))
   (aA (aM ψ)))),?_⟩
  obtain⟨z0,rfl,q⟩:=h;exact T7 q
theorem Vd:ι 1 AD.HF (fZ T.GR.g) Gk (Uk K):=by
 have sc:aO ["_law_rows_here","_law_fields_here","_law_seen","_law_todo","_law_row","_law_birth"] Gk (aG Eu):=cA;walk_at "ok"
 ·refine⟨_,(ao (cZ 2 sc.nd (uI))
   (ao (cZ 3 sc.nd dP)
   (ao (fM PassesOwn.never rfl (dO Ξ) cx
   (aA (cZ 3 sc.nd (aY ju Ω a8))))
   (ao (QJ PassesOwn.never (gZ (G.Zr (jR hr)) Ω dP) (ao (cZ 5 sc.nd (Zt8 PySem.F.plainAttrs_list PySem.F.slot_list_pop PySem.F.type_list_pop Ztn Ω))
   (aA (bK (PW.pt (yz (gZ G.oW ee (cR)) (vL (Zj (Jk (jR hr) ee Ψ))))) (ao (rP (jR hr) Ψ ee (iQ) rfl)
   (aA (cZ 3 sc.nd (aY ju Ω (pdg hr ψ ee))))) aU))))
   (aA (aM Ψ)))))),?_⟩
  obtain⟨z0,z1,rfl,q⟩:=h;exact V3 q
theorem Zcy:ι 1 AD.Th (fZ T.RW.g) QX (J4 K):=by
 have sc:aO ["_law_rows_here","_law_fields_here","_law_way_here","_law_birth","_law_f"] QX (aG Qk):=cA;walk_at "ok"
 ·refine⟨_,(ao (bK (PW.pt (iu (gZ rZ (bQ G.bT η T.fP G.boot_len ci) (az)) (iu (fY (QH Zie rZ (az) (fJ bY Ψ (az)) cU)) (gQ (fY (QH Zie rZ (az) (fJ bY Ψ (az)) (bQ G.bT η T.fP G.boot_len (aa (fJ bY Ξ (fJ bY Ψ (az))) au)))))))) (aA (aM (cR))) aU)
   (ao (cZ 3 sc.nd (fJ bY (fJ bY Ξ (fJ bY Ψ (az))) (fJ bY Ψ (az))))
   (ao (fM PassesOwn.never rfl (dO (yD Zd Ψ (zR (az)) O8)) cx
   (ao (bK (PW.pt (iu (gZ G.pW Ω (cR)) (gQ (fY (QH Zie rZ (az) a8 (bQ G.bT η T.fP G.boot_len (aa (pdg hr ψ Ω) au))))))) (aA (aM (cR))) aU)
   (aA (cZ 3 sc.nd (fJ bY (pdg hr ψ Ω) a8)))))
   (aA (aM Ω))))),?_⟩
  obtain⟨z0,z1,z2,rfl,q⟩:=h;exact Zet q
theorem Gw:ι 2 AD.NK (fZ T.GF.g) Mg (zL XQ.C XQ.H):=by
 have sc:aO ["self","place","cell"] Mg (aG K7):=cA;walk_at "ok"
 ·refine⟨_,(ao (cZ 2 sc.nd (fJ bY ο ψ))
   (ao (cu Ξ (aY vP ο (jH Ψ T.z9.c T.oO.m (jL T).g ax (jL (P:=P) (base:=base) T).b .nil G.eO)) rfl)
   (ao (tV (cR) (vM ο ψ set_list))
   (aA (aM dE))))),?_⟩
  obtain⟨z0,z1,rfl,q⟩:=h;exact Zc1 (jT T).c q
theorem iy:ι 2 AD.Tf (fZ T.iD.g) QW (iI XQ):=by
 have sc:aO ["heap","place","cell"] QW (aG Qj):=cA;walk_at "ok"
 ·refine⟨_,(ao (cZ 2 sc.nd (cV (nR T) hr T.mo T.nW (aa Ξ c8)))
   (ao (bK (gZ G.pW Ψ (cR)) (aA (aM (cR))) aU)
   (aA (aM dE)))),?_⟩
  obtain⟨z0,z1,rfl,q⟩:=h;exact Zep cq q
theorem Xp:ι 2 AD.Zec (fZ T.RP.g) Zcs (Ul K XQ.C XQ.H):=by
 have sc:aO ["heap","places","way"] Zcs (aG Zca):=cA;walk_at "ok"
 ·refine⟨zQ K (jM XQ.H),(aA (aM (G.Zfv (cns:=["heap","way"]) [0,2] (G.Zm rfl T.lR c8) (λ_ _ _ _ _=>(G.Jh (gZ G.oW (cV (nR T) hr T.mo T.nW (aa Ψ c8)) (cR)))) (λ_ _ _ _ _=>(bW (aa ψ (aa (aY Zq0 Ω (bW a7)) au)))) rfl rfl ω (by repeat (first | exact trivial | refine⟨rfl,?_⟩)) rfl γ rfl γ γ rfl rfl γ))),?_⟩;obtain⟨z0,z1,z2,z3,z4,z5,rfl,q⟩:=h;exact Zk2 q
theorem Zg1:ι 2 AD.Yp (fZ T.Xz.g) Xe (YB XQ):=by
 have sc:aO ["world","place","sweeper","toned"] Xe (aG WR):=cA;walk_at "ok"
 ·refine⟨_,(ao (cZ 2 sc.nd ο)
   (ao (cZ 3 sc.nd (cV (jw T) hr T.mo T.jl (aa Ξ (aa (fJ bY bS ψ) au))))
   (ao (bK (gZ fu dE (bA)) (aA (aM (bA))) aU)
   (ao (bK (gZ fu dE (bA)) (aA (aM (Zco (eG Ω) (bA) (bA)))) aU)
   (ao (bK (fY (eG Ω)) (aA (aM (bA))) aU)
   (aA (aM (Zco (gZ zV ψ dE dr) (bA) (bA))))))))),?_⟩
  obtain⟨z0,z1,rfl,q⟩:=h;exact Zg6 cq q
theorem Zq4:ι 2 AD.Zom (fZ T.Znh.g) Zms (Zp8 XQ):=by
 have sc:aO ["world","place","sweeper","cell"] Zms (aG Zm0):=cA;walk_at "ok"
 ·refine⟨_,(ao (cZ 2 sc.nd ο)
   (ao (cZ 3 sc.nd (cV (nR T) hr T.mo T.nW (aa ο c8)))
   (ao (bK (PW.pt (iu (gZ rY dE (bA)) (iu (gZ G.pW Ω (cR)) (gQ (eG (cV (jw T) hr T.mo T.jl (aa Ξ b6))))))) (aA (aM (cR))) aU)
   (ao (cu Ω dE rfl)
   (ao (iT (uJ PySem.F.plainAttrs_list PySem.F.slot_list_append PySem.F.type_list_append kJ dE c8))
   (aA (aM (aK Ω rfl)))))))),?_⟩
  obtain⟨z0,z1,rfl,q⟩:=h;exact Zq8 cq q
theorem Zw:ι 2 AD.Zoo (fZ T.Z3.g) Zmt (Zbv XQ):=by
 have sc:aO ["world","place","birth","cell"] Zmt (aG Zm2):=cA;walk_at "ok"
 ·refine⟨_,(ao (cZ 3 sc.nd (cV (nR T) hr T.mo T.nW (aa ο c8)))
   (ao (bK (PW.pt (iu (gZ G.pW Ω (cR)) (gQ (gZ rY (aK Ω rfl) Ψ)))) b9 aU)
   (aA (aM ((QL (mY fu bS (bA) (qN _)) (Ji (Zml (cV (jw T) hr T.mo T.jl (aa Ξ b6)))))))))),?_⟩
  obtain⟨z0,z1,z2,rfl,q⟩:=h;exact Zqw cq q
theorem Zcx:ι 2 AD.Te (fZ T.RQ.g) ["world"] (Um XQ):=by
 have sc:aO ["world","heap"] ["world"] (aG Qh):=cA;walk_at "ok"
 ·refine⟨yq K XQ.H (qb XQ.H) (iB XQ),(ao (Zk (i:=1) sc.nd rfl (Or.inr rfl) ο)
   (aA (aM (G.Lf (cns:=["world","heap"]) [0,1] (dO (jH ψ T.tG.c T.tY.m (oM T).g ax (oM (P:=P) (base:=base) T).b .nil G.eO)) (λ_ _ _ _ _=>(G.Jh (fY (eG (cV (jw T) hr T.mo T.jl (aa ψ (aa (fJ bY dE Ξ) au))))))) (λ_ _ _ _ _=>Ξ) rfl rfl ω (by repeat (first | exact trivial | refine⟨rfl,?_⟩)) rfl γ rfl γ γ rfl γ)))),?_⟩
  obtain⟨z0,rfl,q⟩:=h;exact Ze9 cq q
theorem sr:ι 2 AD.eY (fZ T.vd.g) ["world"] (cM XQ (Xo "lost")):=by
 have sc:aO ["world"] ["world"] (aG uv):=cA;walk_at "ok"
 ·refine⟨_,(aA (aM (cV (BR T) hr T.mo T.vW (aa bS au)))),?_⟩;obtain⟨z0,rfl,q⟩:=h;exact Ec cq q
theorem sG:ι 2 AD.vp (fZ T.sV.g) uM (wL 0):=by
 have sc:aO ["self","hands"] uM (aG uy):=cA;walk_at "ok"
 ·refine⟨_,(aA (aM (cV (Xu T) hr T.mo T.RV c8))),?_⟩;obtain⟨z0,z1,rfl,q⟩:=h;exact Ij q
theorem sE:ι 2 AD.vo (fZ T.sU.g) uL (mF 2):=by
 have sc:aO ["self","looked","hands"] uL (aG ux):=cA;walk_at "ok"
 ·refine⟨_,(aA (aM (cV (Xu T) hr T.mo T.RV ci))),?_⟩;obtain⟨z0,z1,z2,rfl,q⟩:=h;exact Ii q
theorem jX:ι 2 AD.Yq (fZ T.kW.g) Xm (vD XQ AD.bD):=by
 have sc:aO ["world","hand","slot","cell"] Xm (aG W5):=cA;walk_at "okX"
 ·refine⟨_,(ao (cZ 3 sc.nd (cV (nR T) hr T.mo T.nW (aa ο (aa (fJ bY (cV (gJ T) hr T.mo T.gU (aa Ξ c8)) Ψ) au))))
   (ao (bK (gZ G.pW Ω (cR)) (aA (G.Ge rfl rfl (T.mo T.Zes) T.Zc2 (aa (bA) au) (λ_ _ _ _ _ _ _ I hx hE=>G.Zi I hx hE))) aU)
   (aA (aM Ω)))),?_⟩
  obtain⟨z0,z1,z2,rfl,q⟩:=h;exact Zh9 cq q
theorem yG:ι 2 AD.Cr (fZ T.t7.g) Bv (DK XQ):=by
 have sc:aO ["world","hand","place"] Bv (aG Am):=cA;walk_at "ok"
 ·refine⟨_,(ao (bK (PW.pt (iu (gZ fu (aY Dj bS (T.Zs5.pe rfl)) (az)) (gQ (eG (cV (Zv T) hr T.mo T.Mq (aa Ξ c8)))))) (aA (aM dP)) aU)
   (aA (aM (bV ci)))),?_⟩
  obtain⟨z0,z1,z2,rfl,q⟩:=h;exact PB cq q
theorem Ve:ι 2 AD.HH (fZ T.GX.g) Gm (Zbt K):=by
 have sc:aO ["_law_script","_law_cell_here","_law_hands_here","_law_h","_law_many"] Gm (aG Ew):=cA;walk_at "ok"
 ·refine⟨_,(ao (cZ 1 sc.nd bt)
   (ao (cZ 2 sc.nd dP)
   (ao (fM PassesOwn.never rfl (jK rfl T.kh (aa (aY gR (az) (cV (cz T) hr T.mo T.cH (aa ψ ae))) au)) dn
   (ao (cZ 4 sc.nd (az))
   (ao (bK (gZ fu (aY fj ψ (az)) (az)) (aA (cZ 4 sc.nd (aY gR (az) (cV (cz T) hr T.mo T.cH (aa (aY gR ψ (aY Jl (aY Jl (az) Ω) Ω)) ae))))) aU)
   (aA (iT (uJ PySem.F.plainAttrs_list PySem.F.slot_list_append PySem.F.type_list_append kJ Ψ (aa (bW (aa (cV (pY T) hr T.mo T.pq (aa ψ b6)) eI)) au)))))))
   (aA (aM Ψ))))),?_⟩
  obtain⟨z0,rfl,q⟩:=h;exact V4 q
theorem Zz:ι 2 AD.Nm (fZ T.Mu.g) Lw (Zhr K):=by
 have sc:aO ["_law_script","_law_cell_here"] Lw (aG KJ):=cA;walk_at "ok"
 ·refine⟨_,(ao (cZ 1 sc.nd bt)
   (ao (bK (gZ fu (cV (cz T) hr T.mo T.cH (aa ψ ae)) (az)) (aA (aM (aY gR (az) (aY fj (aY mZ ψ (az)) (az))))) aU)
   (aA (aM (aY vP (aY Zq (az) (az)) (aY fj ψ (aY Zq (az) (az)))))))),?_⟩
  obtain⟨z0,rfl,q⟩:=h;exact Zb5 q
theorem ZC:ι 2 AD.Nq (fZ T.Mv.g) Ly (Zjc):=by
 have sc:aO ["_law_n","_law_h","_law_s","_law_many","_law_bulk"] Ly (aG KQ):=cA;walk_at "ok"
 ·refine⟨_,(ao (cZ 3 sc.nd (fJ bY (bV (aa (az) (aa (az) (aa (az) (aa (az) ae))))) (cV (cz T) hr T.mo T.cH (aa Ξ ae))))
   (ao (cZ 4 sc.nd (az))
   (ao (bK (gZ fu (aY fj Ξ (az)) (az)) (aA (cZ 4 sc.nd (aY fj Ξ (az)))) aU)
   (ao (bK (gZ fu (aY fj Ξ (az)) (az)) (aA (cZ 4 sc.nd (aY fj Ξ (aY gR (aY Zq (az) (az)) (az))))) aU)
   (aA (aM (bW (aa (bA) (aa ψ (aa Ψ (aa Ω eI))))))))))),?_⟩
  obtain⟨z0,z1,z2,rfl,q⟩:=h;exact Zb7 q
theorem Vc:ι 2 AD.HD (fZ T.GQ.g) Gj (Zex K):=by
 have sc:aO ["_law_hands_here","_law_cell_here","_law_seed","_law_rows_here","_law_h","_law_way_here","_law_w"] Gj (aG Et):=cA;walk_at "ok"
 ·refine⟨_,(ao (cZ 3 sc.nd dP)
   (ao (fM PassesOwn.never rfl (jK rfl T.kh (aa cU au)) cx
   (ao (cZ 3 sc.nd (aY ju Ω (bV (aa (bW (aa (bA) (aa a8 (aa (az) ae)))) (aa (bW (aa (bA) (aa a8 (aa (az) ae)))) au)))))
   (aA (cZ 3 sc.nd (aY ju Ω (bV (aa (bW (aa (bA) (aa a8 (aa (az) (aa (aY fj a8 (az)) (aa (az) au)))))) (aa (bW (aa (bA) (aa a8 (aa (az) au)))) au))))))))
   (ao (cZ 5 sc.nd (cV (cz T) hr T.mo T.cH (aa ψ ae)))
   (ao (bK (gZ Zif ee (az)) (aA (cZ 3 sc.nd (aY ju Ω (G.Lf (cns:=[]) [] (jK rfl T.kh (aa cU au)) (λ_ _ _ _ _=>G.Di) (λ_ _ _ _ _=>(bW (aa (bA) (aa Ξ (aa (az) ae))))) rfl rfl ω (by repeat (first | exact trivial | refine⟨rfl,?_⟩)) rfl γ rfl γ γ rfl γ)))) aU)
   (ao (cZ 3 sc.nd (aY ju Ω (aY Q5 (bV (aa (cR) au)) (aY gR (az) (cV (cz T) hr T.mo T.cH (aa ψ ae))))))
   (ao (bK (PW.pt (yz (gZ fu ee (az)) (vL (gZ fu (cV (cz T) hr T.mo T.cH (aa ψ ae)) (az))))) (aA (fM PassesOwn.never rfl (jK rfl T.kh (aa (az) au)) (cJ (i:=6) sc.nd rfl aS)
   (aA (cZ 3 sc.nd (aY ju Ω (bV (aa (bW (aa (bA) (aa (az) (aa (az) ae)))) (aa (bW (aa (bA) (aa (az) (aa (az) (aa (cV (pY T) hr T.mo T.pq (aa Ψ (aa (aY gR (az) (pv 6)) au))) au))))) (aa (bW (aa (bA) ae)) au))))))))) aU)
   (ao (fM PassesOwn.never rfl (jK rfl T.kh (aa cU au)) cx
   (ao (bK (gZ fu ee (az)) (aA (cZ 3 sc.nd (aY ju Ω (bV (aa (bW (aa (bA) (aa a8 (aa (az) (aa (az) (aa (aY fj a8 (az)) au)))))) (aa (bW (aa (bA) (aa a8 (aa (az) (aa (aY fj a8 (az)) (aa (az) au)))))) au)))))) aU)
   (ao (bK (gZ Zif ee (az)) (aA (cZ 3 sc.nd (aY ju Ω (bV (aa (bW (aa (bA) (aa a8 (aa (az) ae)))) (aa (bW (aa (bA) (aa a8 (aa (az) ae)))) (aa (bW (aa (bA) (aa a8 (aa (az) au)))) au))))))) aU)
   (aA (bK (gZ fu ee (az)) (aA (cZ 3 sc.nd (aY ju Ω (bV (aa (bW (aa (bA) (aa a8 (aa (az) (aa (cV (pY T) hr T.mo T.pq (aa Ψ eI)) au))))) (aa (bW (aa (bA) (aa a8 (aa (az) au)))) au)))))) aU)))))
   (aA (aM Ω))))))))),?_⟩
  obtain⟨z0,z1,z2,rfl,q⟩:=h;exact V2 q
theorem oJ:ι 2 AD.HN (fZ T.m6.g) Gp (Zbw K):=by
 have sc:aO ["_law_found","_law_due_here","_law_number_here"] Gp (aG Ez):=cA;walk_at "ok"
 ·refine⟨tR K (vB),(ao (bK (PW.pt (iu (fY (eG (bQ G.q8 η T.fU G.boot_isinstance (aa Ξ (aa (vO rfl T.DW G.boot_tuple rfl) au))))) (iu (gZ rY cU (az)) (gQ (fY (eG (bQ G.q8 η T.fU G.boot_isinstance (aa (fJ bH Ξ (az)) (aa (vO rfl T.Zhw G.boot_str rfl) au))))))))) b9 aU)
   (ao (bK (PW.pt (iu (fY (eG (cV (jg T) hr T.mo T.iG (aa (fJ bH Ξ (az)) au)))) (gQ (fY (eG (bQ G.q8 η T.fU G.boot_isinstance (aa (fJ bH Ξ (az)) (aa (vO rfl T.mH G.boot_list rfl) au)))))))) b9 aU)
   (ao (fM PassesOwn.never rfl (dO (fJ bH Ξ (az))) (cJ (i:=2) sc.nd rfl aS)
   (aA (bK (fY (eG (cV (jg T) hr T.mo T.iG ci))) b9 aU)))
   (aA (aM (mY (G.Zn0 hr.units) Ξ ψ (qN _))))))),?_⟩
  obtain⟨z0,z1,rfl,q⟩:=h;exact V6 q
theorem BW:ι 2 AD.HB (fZ T.vY.g) Gi (rA XQ):=by
 have sc:aO ["_law_sweeper","_law_told","_law_number_here"] Gi (aG Es):=cA;walk_at "ok"
 ·refine⟨_,(ao (cZ 1 sc.nd (bV (aa ο (aa ο (aa ο au)))))
   (ao (cZ 1 sc.nd (aY ju ψ (bV (aa ο (aa ο (aa ο au))))))
   (ao (fM PassesOwn.never rfl (dO (aY ju ψ ο)) (cJ (i:=2) sc.nd rfl aS)
   (aA (bK (fY (eG (cV (jg T) hr T.mo T.iG ci))) (aA (aM dP)) aU)))
   (aA (aM ψ))))),?_⟩
  obtain⟨z0,rfl,q⟩:=h;exact V1 cq q
theorem ZL:ι 3 AD.jr BD.v9 yF (N5 K XQ.C XQ.H AD.di):=by
 have sc:aO ["self","many","bulk","tone","cell"] yF (aG jW):=cA;refine⟨?_,T.zm,T.MP⟩;have F:=T.Ob;walk_at "okDX"
 ·refine⟨_,(ao (cZ 4 sc.nd (vN (mkT T.z9 T.uZ) (uR T).g ax rfl (T.mo T.Zve) (uR (P:=P) (base:=base) T).b .nil G.eO (aa (aY gR ο (az)) (aa ψ (aa Ψ b6)))))
   (ao (bK (gZ Zif (jH a8 T.z9.c T.oO.m (jL T).g ax (jL (P:=P) (base:=base) T).b .nil G.eO) (jH Ξ T.tG.c T.GD.m (Gv T).g ax (Gv (P:=P) (base:=base) T).b .nil G.eO)) (aA (G.Ge rfl rfl (T.mo T.Zvc) T.Zsg (aa (bA) au) (λ_ _ _ _ _ _ _ I hx hE=>G.Zi I hx hE))) aU)
   (ao (cu Ξ (aK a8 rfl) rfl)
   (ao (cu Ξ (aY gR ο (jH a8 T.z9.c T.oO.m (jL T).g ax (jL (P:=P) (base:=base) T).b .nil G.eO)) rfl)
   (aA (aM (oH Ξ T.tG.c T.Mm.m (Mi T).g ax (Mi (P:=P) (base:=base) T).b .nil G.eO eI))))))),?_⟩
  obtain⟨z0,z1,z2,z3,rfl,q⟩:=h;exact Zbz (jT T).c q
theorem Q9:ι 3 AD.Yo (fZ T.Ju.g) Xd (J8 K XQ.C XQ.H):=by
 have sc:aO ["heap","rows","queue","number","row","listed","taken","place","way"] Xd (aG WQ):=cA;walk_at "ok"
 ·refine⟨_,(ao (cZ 2 sc.nd dP)
   (ao (fM PassesOwn.never rfl (G.Zm rfl T.lR c8) (Jg rfl (jG dn (jG cx zU)))
   (aA (iT (uJ PySem.F.plainAttrs_list PySem.F.slot_list_extend PySem.F.type_list_extend Jr Ψ (aa (cV (Xp T) hr T.mo T.RP (aa Ξ (aa a8 (aa (bW b6) au)))) au)))))
   (ao (cZ 5 sc.nd (uI))
   (ao (cZ 6 sc.nd (az))
   (ao (QJ PassesOwn.never (gZ rZ (pv 6) (bQ G.bT η T.fP G.boot_len ci)) (ao (cZ 7 sc.nd (fJ bH (fJ bY Ψ (pv 6)) (az)))
   (ao (cZ 8 sc.nd (fJ bH (fJ bY Ψ (pv 6)) (az)))
   (ao (cZ 6 sc.nd (aY gR (pv 6) (az)))
   (aA (bK (Zj (G.Zfw (jR hr) (pv 7) ee)) (ao (rP (jR hr) ee (pv 7) (pv 8) rfl)
   (aA (iT (uJ PySem.F.plainAttrs_list PySem.F.slot_list_extend PySem.F.type_list_extend Jr Ψ (aa (cV (Xp T) hr T.mo T.RP (aa Ξ (aa (aK (fJ bY ο (pv 7)) rfl) (aa (pv 8) au)))) au))))) aU))))))
   (aA (aM (kE (G.Zhd rfl) η T.mH G.boot_list (aa (G.Zmo ee) au))))))))),?_⟩
  obtain⟨z0,z1,z2,z3,z4,rfl,q⟩:=h;exact Zfr cq q
theorem su:ι 3 AD.vm (fZ T.sS.g) uK (wM XQ):=by
 have sc:aO ["self","room","kind","hands"] uK (aG uw):=cA;walk_at "ok"
 ·refine⟨_,(ao (cu Ξ (vN (mkT T.tG T.uW) (uP T).g ax rfl (T.mo T.Zva) (uP (P:=P) (base:=base) T).b .nil G.eO c8) rfl)
   (ao (cu Ξ Ψ rfl)
   (ao (cu Ξ (G.Zfv (cns:=[]) [] (dO Ω) (λ_ _ _ _ _=>G.Di) (λ_ _ _ _ _=>(vN (mkT T.Zj9 T.uX) (uQ T).g ax rfl (T.mo T.Zvb) (uQ (P:=P) (base:=base) T).b .nil G.eO (aa Ξ c8))) rfl rfl ω (by repeat (first | exact trivial | refine⟨rfl,?_⟩)) rfl γ rfl γ γ rfl rfl γ) rfl)
   (ao (cu Ξ (uI) rfl)
   (aA (cu Ξ (Zmm (mkT T.Tz T.pR) (pQ T).g ax rfl (T.mo T.Zlc) (pQ (P:=P) (base:=base) T).b .nil G.eO) rfl)))))),?_⟩
  obtain⟨z0,z1,z2,z3,rfl,q⟩:=h;exact Ib cq q
theorem vQ:ι 3 AD.Ng (fZ T.sY.g) Ln (pD XQ):=by
 have sc:aO ["heap","places"] Ln (aG Ky):=cA;walk_at "ok"
 ·refine⟨_,(aA (aM (G.Lf (cns:=["heap"]) [0] (dO ψ) (λ_ _ _ _ _=>G.Di) (λ_ _ _ _ _=>(cV (iy T) hr T.mo T.iD (aa ψ a7))) rfl rfl ω (by repeat (first | exact trivial | refine⟨rfl,?_⟩)) rfl γ rfl γ γ rfl γ))),?_⟩;obtain⟨z0,z1,rfl,q⟩:=h;exact Zay (jT T) q
theorem Zn2:ι 3 AD.Ziz (fZ T.Zij.g) ["world"] (Zjg XQ):=by
 have sc:aO ["world","sweeper"] ["world"] (aG Zi3):=cA;walk_at "ok"
 ·refine⟨_,(ao (cZ 1 sc.nd ο)
   (ao (cu ψ (aY vP (az) dZ) rfl)
   (ao (cu ψ (aY gR dZ (az)) rfl)
   (ao (cu ψ (bA) rfl)
   (ao (cu ψ dP rfl)
   (ao (cu ψ (G.rR (oH bS T.vA.c T.sV.m (sG T).g ax (sG (P:=P) (base:=base) T).b .nil G.eO (aa ay au)) (G.rR (oH bS T.z8.c T.uY (iU T).g ax (iU (P:=P) (base:=base) T).b .nil G.eO (aa ay au)) (oH bS T.z7.c T.uV (iU T).g ax (iU (P:=P) (base:=base) T).b .nil G.eO (aa ay au)))) rfl)
   (ao (cu ψ (az) rfl)
   (ao (cu ψ (az) rfl)
   (aA (cu ψ (az) rfl)))))))))),?_⟩
  obtain⟨z0,rfl,q⟩:=h;exact Zp3 cq q
theorem oX:ι 3 AD.Td (fZ T.nU.g) QT (oE XQ):=by
 have sc:aO ["world","places","births","place","birth"] QT (aG Qf):=cA;walk_at "ok"
 ·refine⟨_,(ao (cZ 2 sc.nd dP)
   (ao (fM PassesOwn.never rfl (dO ψ) dn
   (ao (cZ 4 sc.nd (cV (Zq4 T) hr T.mo T.Znh (aa Ξ b6)))
   (aA (bK (gZ G.oW a8 (cR)) (aA (iT (uJ PySem.F.plainAttrs_list PySem.F.slot_list_append PySem.F.type_list_append kJ Ψ eI))) aU))))
   (aA (aM Ψ)))),?_⟩
  obtain⟨z0,z1,rfl,q⟩:=h;exact Zd1 cq q
theorem Zg0:ι 3 AD.Yn (fZ T.Xy.g) Xc (Yz XQ):=by
 have sc:aO ["world","place","birth"] Xc (aG WM):=cA;walk_at "ok"
 ·refine⟨_,(ao (bK (eG (cV (Zw T) hr T.mo T.Z3 (aa Ξ (aa ψ ci)))) (aA (aM (cR))) aU)
   (ao (bK (PW.pt (yz (eG (cV (Va T) hr T.mo T.GK a7)) (vL (fY (eG (cV (jw T) hr T.mo T.jl (aa Ξ (aa (fJ bY bS ψ) au)))))))) (aA (aM (cR))) aU)
   (aA (aM ψ)))),?_⟩
  obtain⟨z0,z1,z2,rfl,q⟩:=h;exact Zfq cq q
theorem U9:ι 3 AD.Hu (fZ T.GJ.g) ["world"] (cM XQ Zmw):=by
 have sc:aO ["world","sweeper","place","cell"] ["world"] (aG En):=cA;walk_at "ok"
 ·refine⟨_,(ao (cZ 1 sc.nd ο)
   (ao (cZ 2 sc.nd dZ)
   (ao (cu ψ (aY gR Ψ (az)) rfl)
   (ao (cu ψ (aY gR dZ (az)) rfl)
   (ao (cZ 3 sc.nd (cV (nR T) hr T.mo T.nW (aa ο ci)))
   (ao (bK (PW.pt (iu (gZ G.pW Ω (cR)) (gQ (eG (cV (jw T) hr T.mo T.jl (aa Ξ b6)))))) (aA (aM (bW (aa (bA) (aa Ψ (aa dP au)))))) aU)
   (aA (aM (bW (aa (bA) (aa (oH ο T.tG.c T.GF.m (Gw T).g ax (Gw (P:=P) (base:=base) T).b .nil G.eO ci) (aa (bV ci) au)))))))))))),?_⟩
  obtain⟨z0,rfl,q⟩:=h;exact U8 cq q
theorem pX:ι 3 AD.Nf (fZ T.o9.g) Lj (zH XQ AD.bD AD.bU):=by
 have sc:aO ["world","hand","slot","field","cell"] Lj (aG Kw):=cA;walk_at "okX"
 ·refine⟨_,(ao (cZ 4 sc.nd (rT (jX T).g ax rfl (T.mo T.kW.a) (Hr T.kW.g).kp (jX (P:=P) (base:=base) T).b .nil G.Gf (aa Ξ (aa ψ ci))))
   (ao (bK (fY (eG (oH a8 T.z9.c T.sX.m (sI T).g ax (sI (P:=P) (base:=base) T).b .nil G.eO b6))) (aA (G.Ge rfl rfl (T.mo T.Zld) T.Zjj (aa (bA) au) (λ_ _ _ _ _ _ _ I hx hE=>G.Zi I hx hE))) aU)
   (aA (aM (aK a8 rfl))))),?_⟩
  obtain⟨z0,z1,z2,z3,rfl,q⟩:=h;exact Zav cq q
theorem Rm:ι 3 AD.mC (fZ T.XN.g) Xl (cN XQ Γ SJ):=by
 have sc:aO ["world","deed","slots","place"] Xl (aG W4):=cA;walk_at "ok"
 ·refine⟨_,(ao (cZ 2 sc.nd (cV (gJ T) hr T.mo T.gU (aa Ξ (aa ag au))))
   (ao (cZ 3 sc.nd (fJ bY Ψ ag))
   (ao (tV Ω (vM Ψ ag set_list))
   (aA (aM (bW (aa (bA) (aa (cV (iy T) hr T.mo T.iD (aa ο b6)) (aa dP au))))))))),?_⟩
  obtain⟨z0,z1,rfl,q⟩:=h;exact Zh5 cq q
theorem Rk:ι 3 AD.mz (fZ T.XM.g) Xk (cN XQ Γ Sy):=by
 have sc:aO ["world","deed","slots","place"] Xk (aG W3):=cA;walk_at "ok"
 ·refine⟨_,(ao (cZ 2 sc.nd (cV (gJ T) hr T.mo T.gU (aa Ξ (aa ag au))))
   (ao (cZ 3 sc.nd (fJ bY Ψ ag))
   (ao (tV (cR) (vM Ψ ag set_list))
   (aA (aM (bW (aa (bA) (aa (cV (iy T) hr T.mo T.iD (aa ο b6)) (aa dP au))))))))),?_⟩
  obtain⟨z0,z1,rfl,q⟩:=h;exact Zh4 cq q
theorem Mh:ι 3 AD.j6 (fZ T.RT.g) QV (cN XQ Γ G8):=by
 have sc:aO ["world","deed","cell","before"] QV (aG Qi):=cA;walk_at "okX"
 ·refine⟨_,(ao (cZ 2 sc.nd (rT (jX T).g ax rfl (T.mo T.kW.a) (Hr T.kW.g).kp (jX (P:=P) (base:=base) T).b .nil G.Gf (aa Ξ (aa ag (aa ag au)))))
   (ao (cZ 3 sc.nd dE)
   (ao (cu Ψ ag rfl)
   (aA (aM (bW (aa (bA) (aa Ω (aa dP au))))))))),?_⟩
  obtain⟨z0,z1,rfl,q⟩:=h;exact Zeh cq rfl q
theorem Rg:ι 3 AD.lY (fZ T.XD.g) Xg (cN XQ Γ R8):=by
 have sc:aO ["world","deed","cell"] Xg (aG WX):=cA;walk_at "okX"
 ·refine⟨_,(ao (cZ 2 sc.nd (rT (jX T).g ax rfl (T.mo T.kW.a) (Hr T.kW.g).kp (jX (P:=P) (base:=base) T).b .nil G.Gf (aa Ξ (aa ag (aa ag au)))))
   (aA (aM (bW (aa (bA) (aa dE (aa dP au))))))),?_⟩
  obtain⟨z0,z1,rfl,q⟩:=h;exact Zh0 cq rfl q
theorem Rh:ι 3 AD.lZ (fZ T.XF.g) Xh (cN XQ Γ isName):=by
 have sc:aO ["world","deed","hand","slot","birth"] Xh (aG WY):=cA;walk_at "okX"
 ·refine⟨_,(ao (cZ 2 sc.nd ag)
   (ao (cZ 3 sc.nd ag)
   (ao (cZ 4 sc.nd (aK (rT (jX T).g ax rfl (T.mo T.kW.a) (Hr T.kW.g).kp (jX (P:=P) (base:=base) T).b .nil G.Gf (aa Ξ (aa Ψ b6))) rfl))
   (ao (rP (jR hr) ο ag (bW (aa (fJ bY (cV (gJ T) hr T.mo T.gU (aa Ξ ci)) Ω) eI)) rfl)
   (aA (aM (bW (aa (bA) (aa a8 (aa dP au)))))))))),?_⟩
  obtain⟨z0,z1,rfl,q⟩:=h;exact Zh1 cq rfl q
theorem yH:ι 3 AD.Cu (fZ T.uc.g) Bw (CV XQ AD.cF):=by
 have sc:aO ["world","word","place","birth"] Bw (aG An):=cA;walk_at "okX"
 ·refine⟨_,(ao (bK (Zj (Jk (jR hr) ψ ο)) (aA (G.Ge rfl rfl (T.mo T.Zp5) T.Zlg (aa (bA) au) (λ_ _ _ _ _ _ _ I hx hE=>G.Zi I hx hE))) aU)
   (ao (cZ 2 sc.nd (fJ bH (pdg hr ο ψ) (az)))
   (ao (cZ 3 sc.nd (fJ bH (pdg hr ο ψ) (az)))
   (ao (bK (eG (cV (Zw T) hr T.mo T.Z3 (aa Ξ (aa Ψ b6)))) (aA (aM (cR))) aU)
   (aA (aM Ψ)))))),?_⟩
  obtain⟨z0,z1,rfl,q⟩:=h;exact QK cq q
theorem ZF:ι 3 AD.Nt (fZ T.Mx.g) LC (Zbs XQ):=by
 have sc:aO ["_law_number_here"] LC (aG KY):=cA;walk_at "ok"
 ·refine⟨_,(ao (bK (gZ fu (aY fj Ξ (az)) (az)) (aA (aM (vN (mkT T.Pq T.kO) (gM T).g ax rfl (T.mo T.Zhi) (gM (P:=P) (base:=base) T).b .nil G.eO (aa (G.Jj ⟨T.vA.mk',T.Zn3,T.vA.k⟩ rfl (T.mo T.Zre)) (aa dL au))))) aU)
   (ao (bK (gZ fu (aY fj Ξ (az)) (az)) (aA (aM (vN (mkT T.Pq T.kO) (gM T).g ax rfl (T.mo T.Zhi) (gM (P:=P) (base:=base) T).b .nil G.eO (aa (G.Jj ⟨T.z8.mk',T.Zq6,T.z8.k⟩ rfl (T.mo T.Zvd)) (aa dL au))))) aU)
   (aA (aM (vN (mkT T.Pq T.kO) (gM T).g ax rfl (T.mo T.Zhi) (gM (P:=P) (base:=base) T).b .nil G.eO (aa (G.Jj ⟨T.z7.mk',T.Zq5,T.z7.k⟩ rfl (T.mo T.Zv9)) (aa dL au))))))),?_⟩
  obtain⟨z0,rfl,q⟩:=h;exact Zb9 q
theorem ZJ:ι 3 AD.Nx (fZ T.Mz.g) LR (Zjf K):=by
 have sc:aO ["_law_n","_law_hands_here","_law_seed","_law_h","_law_s","_law_t","_law_f","_law_what","_law_g","_law_word_here"] LR (aG K3):=cA;walk_at "okw"
 ·refine⟨_,(iw (cZ 3 sc.nd (cV (cz T) hr T.mo T.cH (aa Ξ (aa (az) (aa (bQ G.bT η T.fP G.boot_len c8) au)))))
   (iw (cZ 4 sc.nd (cV (cz T) hr T.mo T.cH (aa Ξ (aa (az) (aa (fJ bH (fJ bY ψ Ω) (az)) au)))))
   (iw (cZ 5 sc.nd (cV (cz T) hr T.mo T.cH (aa Ξ (aa (az) (aa (fJ bH (fJ bY ψ Ω) (az)) au)))))
   (iw (cZ 6 sc.nd (cV (cz T) hr T.mo T.cH (aa Ξ (aa (az) (aa (fJ bY (bV ae) (aY mZ (aY fj Ξ (az)) (az))) au)))))
   (iw (cZ 7 sc.nd (cV (cz T) hr T.mo T.cH (aa Ξ ae)))
   (iw (bK (gZ rZ (pv 7) (az)) (aA (aM (cV (ZC T) hr T.mo T.Mv (aa Ξ (aa Ω eI))))) aU)
   (iw (bK (gZ rZ (pv 7) (az)) (aA (aM (bW (aa (bA) (aa Ω (aa a8 (aa ee (aa (pv 6) au)))))))) aU)
   (iw (bK (gZ rZ (pv 7) (az)) (aA (aM (bW (aa (bA) (aa Ω (aa ee (aa (pv 6) eI))))))) aU)
   (iw (bK (gZ fu (pv 7) (az)) (aA (aM (bW (aa (bA) (aa Ω (aa a8 (aa ee au))))))) aU)
   (iw (bK (gZ fu (pv 7) (az)) (aA (aM (bW (aa (bA) (aa Ω eI))))) aU)
   (iw (bK (gZ rZ (pv 7) (az)) (ao (cZ 8 sc.nd (cV (cz T) hr T.mo T.cH (aa Ξ (aa (az) (aa (bQ G.bT η T.fP G.boot_len c8) au)))))
   (aA (aM (bW (aa (bA) (aa Ω (aa a8 (aa (pv 8) (aa (cV (cz T) hr T.mo T.cH (aa Ξ (aa (az) (aa (fJ bH (fJ bY ψ (pv 8)) (az)) au)))) au))))))))) aU)
   (iw (bK (gZ fu (pv 7) (az)) (aA (aM (bW (aa (bA) (aa Ω (aa ee (aa (cV (ZD T) hr T.mo T.Mw a7) au))))))) aU)
   (iw (cZ 9 sc.nd (cV (pY T) hr T.mo T.pq (aa Ψ (aa (cV (cz T) hr T.mo T.cH (aa Ξ ae)) au))))
   (iw (bK (gZ rZ (pv 7) (az)) (aA (aM (bW (aa (bA) (aa Ω (aa ee (aa (pv 9) au))))))) aU)
   (Zpt (aM (bW (aa (bA) (aa Ω (aa a8 (aa (pv 9) au))))))))))))))))))))),?_⟩
  obtain⟨z0,z1,z2,rfl,q⟩:=h;exact Zbc q
theorem qM:ι 4 AD.Cw (fZ T.oR.g) ["world"] (nA XQ):=by
 have sc:aO ["world"] ["world"] (aG Aq):=cA;walk_at "ok"
 ·refine⟨qD K (pD XQ),(aA (aM (G.Lf (cns:=["world"]) [0] (dO ο) (λ_ _ _ _ _=>G.Di) (λ_ _ _ _ _=>(cV (vQ T) hr T.mo T.sY (aa dZ (aa ο au)))) rfl rfl ω (by repeat (first | exact trivial | refine⟨rfl,?_⟩)) rfl γ rfl γ γ rfl γ))),?_⟩;obtain⟨z0,rfl,q⟩:=h;exact TF (jT T) q
theorem Zu:ι 4 AD.M8 (fZ T.Mp.g) Lg (NQ XQ):=by
 have sc:aO ["world","place","cell","fields"] Lg (aG Ks):=cA;walk_at "ok"
 ·refine⟨_,(ao (cZ 2 sc.nd (fJ bY bS ψ))
   (ao (cZ 3 sc.nd (cV (vQ T) hr T.mo T.sY (aa ο (aa dE au))))
   (aA (aM (bW (aa ψ (aa dE (aa dE (aa dE (aa Ω (aa (cV (Zg1 T) hr T.mo T.Xz (aa Ξ c8)) au))))))))))),?_⟩
  obtain⟨z0,z1,rfl,q⟩:=h;exact YH cq q
theorem Q8:ι 4 AD.Ziy (fZ T.Ph.g) ["world"] (Px XQ):=by
 have sc:aO ["world"] ["world"] (aG Zi2):=cA;walk_at "ok"
 ·refine⟨_,(aA (aM (aY ju (cV (Zih T) hr T.mo T.Zga a7) (bV (aa (G.Zpv (G.Zfv (cns:=["world"]) [0] (G.Zpu (G.Zk0 ο)) (λ_ _ _ _ _=>G.Di) (λ_ _ _ _ _=>(cV (Zg0 T) hr T.mo T.Xy (aa Ψ (aa Ξ c8)))) rfl rfl ω (by repeat (first | exact trivial | refine⟨rfl,?_⟩)) rfl γ rfl γ γ rfl rfl γ)) au))))),?_⟩;obtain⟨z0,rfl,q⟩:=h;exact Zm4 (jT T) q
theorem BV:ι 4 AD.Hv (fZ T.vX.g) Gh (p8 XQ):=by
 have sc:aO ["world","hands","noted","number","hand"] Gh (aG Eo):=cA;walk_at "ok"
 ·refine⟨_,(ao (cZ 2 sc.nd dP)
   (ao (fM PassesOwn.never rfl (G.Zm rfl T.lR (aa ο au)) (Jg rfl (jG dn (jG cx zU)))
   (aA (bK (gZ fu (aY Dj (aY Q4 ψ Ω) (az)) (az)) (aA (iT (uJ PySem.F.plainAttrs_list PySem.F.slot_list_extend PySem.F.type_list_extend Jr Ψ (aa (cV (oX T) hr T.mo T.nU (aa Ξ (aa (aK a8 rfl) au))) au)))) aU)))
   (aA (aM Ψ)))),?_⟩
  obtain⟨z0,z1,rfl,q⟩:=h;exact Vh cq q
theorem Zq3:ι 4 AD.Zok (fZ T.Zng.g) ["world"] (cM XQ Zmu):=by
 have sc:aO ["world","sweeper","cell"] ["world"] (aG Zly):=cA;walk_at "ok"
 ·refine⟨_,(ao (cZ 1 sc.nd ο)
   (ao (cZ 2 sc.nd (fJ bY bS (uJ PySem.F.plainAttrs_list PySem.F.slot_list_pop PySem.F.type_list_pop Znd dZ (aa (az) au))))
   (ao (cu ψ (aY gR dZ (az)) rfl)
   (aA (aM (bW (aa (bA) (aa dE (aa (cV (oX T) hr T.mo T.nU (aa Ξ (aa dE au))) au))))))))),?_⟩
  obtain⟨z0,rfl,q⟩:=h;exact Zpb cq q
theorem xG:ι 4 AD.gh (fZ T.yO.g) ["world"] (cM XQ (Xo "give")):=by
 have sc:aO ["world"] ["world"] (aG yf):=cA;walk_at "ok"
 ·refine⟨_,(ao (bK (gZ rZ bS bS) (aA (aM (cV (U9 T) hr T.mo T.GJ a7))) aU)
   (aA (aM (cV (Ztc T) hr T.mo T.Zry a7)))),?_⟩
  obtain⟨z0,rfl,q⟩:=h;exact Oj cq q
theorem Ri:ι 4 AD.mj (fZ T.XH.g) Xi (cN XQ Γ R9):=by
 have sc:aO ["world","deed","slots","many","bulk","place"] Xi (aG W0):=cA;walk_at "okX"
 ·refine⟨_,(ao (cZ 2 sc.nd (cV (gJ T) hr T.mo T.gU (aa Ξ (aa ag au))))
   (ao (cZ 3 sc.nd ag)
   (ao (cZ 4 sc.nd ag)
   (ao (cZ 5 sc.nd (oH ο T.tG.c T.Gz (ZL T).g ax T.zm .nil G.Gf (aa Ω (aa a8 (aa bS au)))))
   (ao (tV ee (vM Ψ ag set_list))
   (aA (aM (bW (aa (bA) (aa (cV (iy T) hr T.mo T.iD (aa ο (aa ee au))) (aa dP au))))))))))),?_⟩
  obtain⟨z0,z1,rfl,q⟩:=h;exact Zh2 cq rfl q
theorem Xr:ι 4 AD.pB (fZ T.Zdk.g) Zcu (cN XQ Γ Ze5):=by
 have sc:aO ["world","deed","hand","source","field","place"] Zcu (aG Zcc):=cA;walk_at "okX"
 ·refine⟨_,(ao (cZ 2 sc.nd ag)
   (ao (cZ 3 sc.nd ag)
   (ao (cZ 4 sc.nd ag)
   (ao (cZ 5 sc.nd (fJ bY (rT (pX T).g ax rfl (T.mo T.o9.a) (Hr T.o9.g).kp (pX (P:=P) (base:=base) T).b .nil G.Gf (aa Ξ (aa Ψ (aa Ω eI)))) a8))
   (ao (tV ee (vM (cV (gJ T) hr T.mo T.gU (aa Ξ ci)) ag set_list))
   (aA (aM (bW (aa (bA) (aa (cV (iy T) hr T.mo T.iD (aa ο (aa ee au))) (aa dP au))))))))))),?_⟩
  obtain⟨z0,z1,rfl,q⟩:=h;exact Zl2 cq rfl rfl q
theorem Xq:ι 4 AD.pA (fZ T.Zdj.g) Zct (cN XQ Γ Ze2):=by
 have sc:aO ["world","deed","hand","field","fields","old","new","noted"] Zct (aG Zcb):=cA;walk_at "okX"
 ·refine⟨_,(ao (cZ 2 sc.nd ag)
   (ao (cZ 3 sc.nd ag)
   (ao (cZ 4 sc.nd (rT (pX T).g ax rfl (T.mo T.o9.a) (Hr T.o9.g).kp (pX (P:=P) (base:=base) T).b .nil G.Gf (aa Ξ (aa Ψ (aa ag b6)))))
   (ao (cZ 5 sc.nd (fJ bY a8 Ω))
   (ao (cZ 6 sc.nd (fJ bY (cV (gJ T) hr T.mo T.gU (aa Ξ ci)) ag))
   (ao (tV (pv 6) (vM a8 Ω set_list))
   (ao (cZ 7 sc.nd (cV (oX T) hr T.mo T.nU (aa Ξ (aa (aY ju (cV (Q7 T) hr T.mo T.BZ (aa Ξ (aa ee au))) (cV (yG T) hr T.mo T.t7 (aa Ξ (aa Ψ (aa (pv 6) au))))) au))))
   (aA (aM (bW (aa (bA) (aa (cV (iy T) hr T.mo T.iD (aa ο (aa ee au))) (aa (pv 7) au))))))))))))),?_⟩
  obtain⟨z0,z1,rfl,q⟩:=h;exact Zl1 cq rfl rfl q
theorem Rj:ι 4 AD.mq (fZ T.XJ.g) Xj (cN XQ Γ Sv):=by
 have sc:aO ["world","deed","giver","taker","place","noted"] Xj (aG W2):=cA;walk_at "ok"
 ·refine⟨_,(ao (cZ 2 sc.nd ag)
   (ao (cZ 3 sc.nd ag)
   (ao (cZ 4 sc.nd (fJ bY (cV (gJ T) hr T.mo T.gU (aa Ξ ci)) ag))
   (ao (tV a8 (vM (cV (gJ T) hr T.mo T.gU (aa Ξ b6)) ag set_list))
   (ao (cZ 5 sc.nd (cV (oX T) hr T.mo T.nU (aa Ξ (aa (cV (yG T) hr T.mo T.t7 (aa Ξ (aa Ψ eI))) au))))
   (aA (aM (bW (aa (bA) (aa (cV (iy T) hr T.mo T.iD (aa ο eI)) (aa ee au))))))))))),?_⟩
  obtain⟨z0,z1,rfl,q⟩:=h;exact Zh3 cq q
theorem Rc:ι 4 AD.lX (fZ T.XC.g) Xf (cN XQ Γ R7):=by
 have sc:aO ["world","deed","place","noted"] Xf (aG WW):=cA;walk_at "okX"
 ·refine⟨_,(ao (cZ 2 sc.nd (rT (yH T).g ax rfl (T.mo T.uc.a) (Hr T.uc.g).kp (yH (P:=P) (base:=base) T).b .nil G.Gf (aa Ξ (aa ag au))))
   (ao (tV Ψ (vM (cV (gJ T) hr T.mo T.gU (aa Ξ (aa ag au))) ag set_list))
   (ao (cZ 3 sc.nd (cV (oX T) hr T.mo T.nU (aa Ξ (aa (bV ci) au))))
   (aA (aM (bW (aa (bA) (aa (cV (iy T) hr T.mo T.iD (aa ο ci)) b6)))))))),?_⟩
  obtain⟨z0,z1,rfl,q⟩:=h;exact Zgz cq rfl q
theorem Vg:ι 4 AD.HQ (fZ T.G3.g) Gq (Up K):=by
 have sc:aO ["_law_n","_law_hands_here","_law_seed","_law_deed_here"] Gq (aG EY):=cA;walk_at "ok"
 ·refine⟨_,(ao (cZ 3 sc.nd (cV (ZJ T) hr T.mo T.Mz (aa Ξ (aa ψ ci))))
   (ao (bK (PW.pt (yz (gZ fu (fJ bH Ω (az)) (bA)) (vL (gZ fu dL (az))))) (aA (aM (bV (aa Ω (aa (bW (aa (bA) (aa (fJ bH Ω (az)) (aa (fJ bH Ω (az)) au)))) au))))) aU)
   (ao (bK (PW.pt (yz (gZ fu (fJ bH Ω (az)) (bA)) (vL (gZ fu dL (az))))) (aA (aM (bV (aa Ω (aa (bW (aa (bA) (aa (fJ bH Ω (az)) (aa (fJ bH Ω (az)) (aa (fJ bH Ω (az)) (aa (cV (cz T) hr T.mo T.cH (aa Ξ ae)) au)))))) au))))) aU)
   (aA (aM (bV b6)))))),?_⟩
  obtain⟨z0,z1,z2,rfl,q⟩:=h;exact V7 q
theorem tW:ι 5 AD.Hs (fZ T.pZ.g) ["world"] (Zbp XQ):=by
 have sc:aO ["world"] ["world"] (aG El):=cA;walk_at "ok"
 ·refine⟨_,(aA (aM (G.Lf (cns:=["world"]) [0] (dO (jH ο T.tG.c T.tY.m (oM T).g ax (oM (P:=P) (base:=base) T).b .nil G.eO)) (λ_ _ _ _ _=>G.Di) (λ_ _ _ _ _=>(cV (Zu T) hr T.mo T.Mp (aa ψ a7))) rfl rfl ω (by repeat (first | exact trivial | refine⟨rfl,?_⟩)) rfl γ rfl γ γ rfl γ))),?_⟩;obtain⟨z0,rfl,q⟩:=h;exact Uz (jT T) q
theorem xH:ι 5 AD.gj (fZ T.yP.g) ["world"] (cM XQ (Xo "rest")):=by
 have sc:aO ["world","noted"] ["world"] (aG yg):=cA;walk_at "ok"
 ·refine⟨_,(ao (iT (cV (Zn2 T) hr T.mo T.Zij a7))
   (ao (cZ 1 sc.nd (cV (BV T) hr T.mo T.vX (aa Ξ (aa bS au))))
   (aA (aM (bW (aa (bA) (aa bS c8))))))),?_⟩
  obtain⟨z0,rfl,q⟩:=h;exact Ol cq q
theorem Vb:ι 5 AD.Hz (fZ T.GP.g) ["world"] (Ih XQ):=by
 have sc:aO ["world","place","way","cell"] ["world"] (aG Er):=cA;walk_at "ok"
 ·refine⟨_,(ao (fM PassesOwn.never rfl (dO (cV (Q9 T) hr T.mo T.Ju (aa ο (aa (cV (Q8 T) hr T.mo T.Ph a7) au)))) (Jg rfl (jG (cJ (i:=1) sc.nd rfl aS) (jG (cJ (i:=2) sc.nd rfl aS) zU)))
   (ao (cZ 3 sc.nd (fJ bY bS ψ))
   (aA (bK (fY (eG (cV (jw T) hr T.mo T.jl (aa Ξ b6)))) (aA (aM (bW (aa (bA) (aa (aK Ω rfl) (aa (kE wu η T.mH G.boot_list ci) au)))))) aU))))
   (aA (aM (cR)))),?_⟩
  obtain⟨z0,rfl,q⟩:=h;exact VR cq q
theorem Zrw:ι 5 AD.Zxi (fZ T.Ztq.g) Zw0 (cN XQ Γ (λ_=>True)):=by
 have sc:aO ["world","deed","act"] Zw0 (aG Zvu):=cA;walk_at "okX"
 ·refine⟨Zm7 K AD.mC AD.mz AD.pB AD.mq AD.mj AD.lZ AD.pA AD.lY AD.lX AD.j6 (cN XQ Γ SJ) (cN XQ Γ Sy) (cN XQ Γ Ze5) (cN XQ Γ Sv) (cN XQ Γ R9) (cN XQ Γ isName) (cN XQ Γ Ze2) (cN XQ Γ R8) (cN XQ Γ R7) (cN XQ Γ G8) E,(ao (cZ 2 sc.nd (G.Zmk T.Wy rfl ag (λ_ _=>rfl)))
   (aA (aM (G.Zcq (k:=4) (G.Ux.cons ε (Ri T).g (Ri (P:=P) (base:=base) T).b (Hr T.XH.g).kp (G.Ux.cons ε (Xr T).g (Xr (P:=P) (base:=base) T).b (Hr T.Zdk.g).kp (G.Ux.cons ε (Xq T).g (Xq (P:=P) (base:=base) T).b (Hr T.Zdj.g).kp (G.Ux.cons ε (Rm T).g (Rm (P:=P) (base:=base) T).b (Hr T.XN.g).kp (G.Ux.cons ε (Rk T).g (Rk (P:=P) (base:=base) T).b (Hr T.XM.g).kp (G.Ux.cons ε (Rj T).g (Rj (P:=P) (base:=base) T).b (Hr T.XJ.g).kp (G.Ux.cons ε (Mh T).g (Mh (P:=P) (base:=base) T).b (Hr T.RT.g).kp (G.Ux.cons ε (Rg T).g (Rg (P:=P) (base:=base) T).b (Hr T.XD.g).kp (G.Ux.cons ε (Rh T).g (Rh (P:=P) (base:=base) T).b (Hr T.XF.g).kp (G.Ux.cons ε (Rc T).g (Rc (P:=P) (base:=base) T).b (Hr T.XC.g).kp G.Ux.nil)))))))))) ax rfl aS G.Gf (aa Ξ c8))))),?_⟩
  obtain⟨z0,z1,rfl,q⟩:=h;exact Zxm cq q
theorem Zy:ι 5 AD.Nk (fZ T.Ms.g) Ls (Zbr K):=by
 have sc:aO ["_law_script","_law_hands_here","_law_rows_here","_law_seed","_law_k","_law_cell_here","_law_n"] Ls (aG KH):=cA;walk_at "ok"
 ·refine⟨_,(ao (cZ 2 sc.nd dP)
   (ao (bK (gZ Zif (cV (cz T) hr T.mo T.cH (aa bt ae)) (az)) (aA (cZ 2 sc.nd (cV (Vc T) hr T.mo T.GQ (aa ψ (aa bt (aa bt au)))))) aU)
   (ao (cZ 3 sc.nd bt)
   (ao (cZ 4 sc.nd (az))
   (ao (fM PassesOwn.never rfl (dO (yD Zd Ξ (zR (az)) (zR (az)))) (cJ (i:=5) sc.nd rfl aS)
   (ao (cZ 6 sc.nd (aY gR ee (aY Jl (aY Jl a8 a8) (az))))
   (ao (bK (gZ fu (cV (cz T) hr T.mo T.cH (aa (pv 6) ae)) (az)) (aA (cZ 2 sc.nd (aY ju Ψ (aY Q5 (bV (aa (cR) au)) (aY gR (az) (cV (cz T) hr T.mo T.cH (aa (pv 6) ae))))))) (aA (cZ 2 sc.nd (aY ju Ψ (cV (Vg T) hr T.mo T.G3 (aa (pv 6) (aa ψ b6)))))))
   (aA (Zt6 (i:=4) sc.nd rfl aS (az) Zu2)))))
   (aA (aM (aY ju Ψ (aY Q5 (bV (aa (cR) au)) (aY gR (az) (cV (cz T) hr T.mo T.cH (aa Ω ae)))))))))))),?_⟩
  obtain⟨z0,z1,rfl,q⟩:=h;exact Zb4 q
theorem Zcz:ι 5 AD.Ti (fZ T.RX.g) QZ (Zp9 XQ):=by
 have sc:aO ["_law_world","_law_way_here","_law_cells","_law_rows_here","_law_bits_here","_law_pale_here","_law_births"] QZ (aG Ql):=cA;walk_at "ok"
 ·refine⟨yx K (Zbx) (Uo K) (Ie K) (nA XQ),(ao (cZ 3 sc.nd (cV (qM T) hr T.mo T.oR a7))
   (ao (cZ 4 sc.nd (cV (ZK T) hr T.mo T.MF (aa ψ (aa bS (aa (bQ G.bT η T.fP G.boot_len b6) au)))))
   (ao (Zk (i:=5) sc.nd rfl (Or.inr rfl) (cV (Gu T) hr T.mo T.yQ ci))
   (ao (G.Zcn (iz:=6) (cns:=["_law_pale_here"]) [5] (dO (cV (Vf T) hr T.mo T.GZ (aa Ω eI))) (λ_ _ _ _ _=>(G.Jh (gZ zV Ξ ψ dr))) (λ_ _ _ _ _=>Ξ) rfl rfl ω (by repeat (first | exact trivial | refine⟨rfl,?_⟩)) rfl γ rfl γ γ rfl γ sc.nd rfl (Or.inl rfl) (Or.inr rfl) rfl)
   (aA (aM (bW (aa a8 (aa (pv 6) (aa ((QL (mY rY a8 (az) (qN _)) (Ji ((Zvy (mY fu ψ (az) (qN _)) (Ji (mY (G.Zr (jR hr)) (pv 6) dP (qN _)))))))) au)))))))))),?_⟩
  obtain⟨z0,z1,z2,rfl,q⟩:=h;exact Zeu cq q
theorem Rn:ι 5 AD.Cy (fZ T.Cd.g) Bx (J7 XQ):=by
 have sc:aO ["_law_world","_law_cells","_law_marks","_law_names","_law_word_here","_law_birth"] Bx (aG Ar):=cA;walk_at "ok"
 ·refine⟨_,(ao (cZ 2 sc.nd (cV (vR T) hr T.mo T.sZ (aa ψ (aa dP (aa (bA) au)))))
   (ao (cZ 3 sc.nd dP)
   (ao (fM PassesOwn.never rfl (dO (kE (G.Tw rfl) η T.mH G.boot_list (aa ο au))) cx
   (ao (cZ 5 sc.nd (fJ bH (pdg hr ο a8) (az)))
   (ao (bK (gZ fu (Zcp (jR hr) Ψ ee (bA) ⟨rfl,rfl,rfl,rfl⟩) (bA)) (aA (cZ 5 sc.nd (cR))) aU)
   (aA (iT (uJ PySem.F.plainAttrs_list PySem.F.slot_list_append PySem.F.type_list_append kJ Ω (aa ee au)))))))
   (aA (aM (aY ju (cV (qM T) hr T.mo T.oR a7) (bV b6))))))),?_⟩
  obtain⟨z0,z1,rfl,q⟩:=h;exact TJ cq q
theorem Ro:ι 5 AD.CJ (fZ T.Cg.g) BK (Aa XQ):=by
 have sc:aO ["_law_world","_law_pale_here","_law_place","_law_way_here","_law_birth"] BK (aG Ay):=cA;walk_at "ok"
 ·refine⟨_,(ao (fM PassesOwn.never rfl (dO (cV (Q9 T) hr T.mo T.Ju (aa ο (aa (cV (Q8 T) hr T.mo T.Ph a7) au)))) (Jg rfl (jG (cJ (i:=2) sc.nd rfl aS) (jG dn zU)))
   (ao (cZ 4 sc.nd (cV (iy T) hr T.mo T.iD (aa ο ci)))
   (aA (bK (gZ zV a8 ψ dr) (aA (aM (bW (aa a8 (aa (kE wu η T.mH G.boot_list b6) au))))) aU))))
   (aA (aM (cR)))),?_⟩
  obtain⟨z0,z1,rfl,q⟩:=h;exact TX cq q
theorem Dk:ι 5 AD.tE (fZ T.tD.g) rW (Zey XQ):=by
 have sc:aO ["_law_world","_law_cells","_law_marks","_law_row","_law_word_here","_law_place","_law_birth","_law_found"] rW (aG rG):=cA;walk_at "ok"
 ·refine⟨_,(ao (cZ 2 sc.nd (cV (vR T) hr T.mo T.sZ (aa ψ (aa dP (aa (bA) au)))))
   (ao (cZ 3 sc.nd dP)
   (ao (fM PassesOwn.never rfl (dO (kE (G.Tw rfl) η T.mH G.boot_list (aa ο au))) cx
   (ao (tV (pdg hr ο a8) (Jg rfl (jG (cJ (i:=5) sc.nd rfl aS) (jG (cJ (i:=6) sc.nd rfl aS) zU))))
   (ao (cZ 7 sc.nd (cV (Zw T) hr T.mo T.Z3 (aa Ξ (aa ee (aa (pv 6) au)))))
   (ao (bK (PW.pt (iu (PW.pt (yz (gZ G.Zid (pv 7) (iQ)) (vL (gZ G.Zid (pv 7) (iQ))))) (gQ (gZ rY (pv 7) (Zt7 (Jk (jR hr) (pv 6) Ψ)))))) b9 aU)
   (ao (bK (gZ fu (Zcp (jR hr) Ψ (pv 6) (bA) ⟨rfl,rfl,rfl,rfl⟩) (bA)) (aA (cZ 5 sc.nd (cR))) aU)
   (aA (iT (uJ PySem.F.plainAttrs_list PySem.F.slot_list_append PySem.F.type_list_append kJ Ω (aa ee au)))))))))
   (aA (aM (mY (G.Zn0 hr.units) (cV (Q8 T) hr T.mo T.Ph a7) (aY ju (cV (Zih T) hr T.mo T.Zga a7) (bV b6)) (qN _))))))),?_⟩
  obtain⟨z0,z1,rfl,q⟩:=h;exact Ds cq q
theorem Ztf:ι 6 AD.Zs8 (fZ T.Zrz.g) ["world"] (cM XQ Zmy):=by
 have sc:aO ["world","sweeper","loss","births"] ["world"] (aG Zrp):=cA;walk_at "ok"
 ·refine⟨_,(ao (cZ 1 sc.nd ο)
   (ao (cu ψ (bQ G.bT η T.fP G.boot_len (aa bS au)) rfl)
   (ao (cu ψ (az) rfl)
   (ao (cZ 2 sc.nd (cV (Vb T) hr T.mo T.GP a7))
   (ao (bK (gZ G.oW Ψ (cR)) (ao (cu ψ (bA) rfl)
   (ao (cu ψ Ψ rfl)
   (aA (aM (cV (BR T) hr T.mo T.vW ci))))) aU)
   (ao (cu ψ (bA) rfl)
   (ao (cZ 3 sc.nd (cV (vQ T) hr T.mo T.sY (aa ο (aa (cV (Zcx T) hr T.mo T.RQ a7) au))))
   (aA (aM (bW (aa (bA) (aa (bQ G.bT η T.fP G.boot_len b6) b6)))))))))))),?_⟩
  obtain⟨z0,rfl,q⟩:=h;exact Zv5 cq q
theorem ZG:ι 6 AD.Nu (fZ T.My.g) LK (Zbu XQ Γ):=by
 have sc:aO ["_law_world","_law_deed_here","_law_event_here"] LK (aG KZ):=cA;walk_at "ok"
 ·refine⟨vK AD.bD AD.di AD.bU AD.cF (cN XQ Γ (λ_=>True)),(ao (cZ 2 sc.nd (cR))
   (ao (G.Zt5 ⟨rfl,rfl⟩ rfl (T.mo T.Zer) (λcls h=>by rcases h with rfl | rfl | rfl | rfl<;>first | exact T.xU | exact T.Ac | exact T.JL | exact T.Dn) (λEx pn xe hx=>(aA (cZ 2 sc.nd (G.Zmq (Zrw T).g ax rfl (T.mo T.Ztq.a) (Hr T.Ztq.g).kp (Zrw (P:=P) (base:=base) T).b .nil hx (aa Ξ c8))))) (λea pn=>(aA (cZ 2 sc.nd (cR)))))
   (aA (aM Ψ)))),?_⟩
  obtain⟨z0,z1,rfl,q⟩:=h;exact Zba rfl rfl rfl rfl q
theorem Rp:ι 6 AD.CP (fZ T.Cj.g) BL (vC XQ):=by
 have sc:aO ["_law_world","_law_cells","_law_pale_here","_law_event_here","_law_sweeper","_law_marks","_law_cell_here","_law_birth"] BL (aG Az):=cA;walk_at "ok"
 ·refine⟨_,(ao (cZ 4 sc.nd ο)
   (ao (bK (fY (eG (cV (oJ T) hr T.mo T.m6 (aa Ω (aa (bW (aa (bA) (aa (bQ G.bT η T.fP G.boot_len ci) (aa (kE G.wz η T.mH G.boot_list ci) au)))) au))))) b9 aU)
   (ao (bK (PW.pt (iu (fY (eG (cV (jg T) hr T.mo T.iG (aa (aK a8 rfl) au)))) (gQ (gZ rY (aK a8 rfl) (az))))) b9 aU)
   (ao (bK (PW.pt (iu (fY (eG (cV (jg T) hr T.mo T.iG (aa (aK a8 rfl) au)))) (gQ (gZ rY (aK a8 rfl) (bQ G.bT η T.fP G.boot_len (aa bS au)))))) b9 aU)
   (ao (cZ 5 sc.nd (uI))
   (ao (fM PassesOwn.never rfl (dO ψ) (cJ (i:=6) sc.nd rfl aS)
   (aA (rP (jR hr) ee (fJ bH (pv 6) (az)) (bA) rfl)))
   (ao (fM PassesOwn.never rfl (dO Ψ) (cJ (i:=7) sc.nd rfl aS)
   (aA (rP (jR hr) ee (pv 7) (bA) rfl)))
   (ao (bK (PW.pt (iu (gZ rY (aK a8 rfl) (bA)) (gQ (gZ G.oW (aK a8 rfl) (cR))))) b9 aU)
   (aA (aM (cV (yI T) hr T.mo T.ud (aa (cV (tW T) hr T.mo T.pZ a7) (aa ψ (aa ee au)))))))))))))),?_⟩
  obtain⟨z0,z1,z2,z3,rfl,q⟩:=h;exact TY cq q
theorem Ra:ι 7 AD.Cv (fZ T.Ca.g) ["world"] (cM XQ Zmx):=by
 have sc:aO ["world","sweeper","looking","hands","noted"] ["world"] (aG Ao):=cA;walk_at "ok"
 ·refine⟨_,(ao (cZ 1 sc.nd ο)
   (ao (cZ 2 sc.nd bS)
   (ao (cZ 3 sc.nd (G.rR (oH Ψ T.vA.c T.qQ (oY T).g ax (oY (P:=P) (base:=base) T).b .nil G.eO (aa dZ (aa ay au))) (G.rR (oH Ψ T.z8.c T.sW.m (sH T).g ax (sH (P:=P) (base:=base) T).b .nil G.eO (aa dZ (aa ay au))) (oH Ψ T.z7.c T.sU.m (sE T).g ax (sE (P:=P) (base:=base) T).b .nil G.eO (aa dZ (aa ay au))))))
   (ao (cZ 4 sc.nd (cV (BV T) hr T.mo T.vX (aa Ξ b6)))
   (ao (bK (PW.pt (iu (gZ fu Ω (az)) (gQ (fY (PW.pt (iu cm (gQ (QG a8 (λ_=>rfl))))))))) (aA (aM (cV (Ztf T) hr T.mo T.Zrz a7))) aU)
   (ao (cu ψ (aY gR dZ (az)) rfl)
   (ao (bK cm (aA (cu ψ (aY Zw3 dZ Ω) rfl)) aU)
   (aA (aM (bW (aa (bA) (aa Ω eI)))))))))))),?_⟩
  obtain⟨z0,rfl,q⟩:=h;exact RZ cq q
theorem xF:ι 8 AD.gb (fZ T.yN.g) ["world"] (cM XQ (Xo "walk")):=by
 have sc:aO ["world"] ["world"] (aG ye):=cA;walk_at "ok"
 ·refine⟨_,(ao (bK (QG bS (λ_=>rfl)) (aA (aM (cV (Zq3 T) hr T.mo T.Zng a7))) aU)
   (aA (aM (cV (Ra T) hr T.mo T.Ca a7)))),?_⟩
  obtain⟨z0,rfl,q⟩:=h;exact Oi cq q
theorem Gs:ι 9 AD.Zol (fZ T.Jt.g) ["world"] (cM XQ Zcv):=by
 have sc:aO ["world","act"] ["world"] (aG Zlz):=cA;walk_at "ok"
 ·refine⟨Zg K AD.gj AD.gh AD.gb AD.eY (cM XQ (Xo "rest")) (cM XQ (Xo "give")) (cM XQ (Xo "walk")) (cM XQ (Xo "lost")),(ao (cZ 1 sc.nd (G.Zmk T.Wx rfl bS (λ_ _=>rfl)))
   (aA (aM (G.Zcq (k:=8) (G.Ux.cons ε (xH T).g (xH (P:=P) (base:=base) T).b (Hr T.yP.g).kp (G.Ux.cons ε (xF T).g (xF (P:=P) (base:=base) T).b (Hr T.yN.g).kp (G.Ux.cons ε (xG T).g (xG (P:=P) (base:=base) T).b (Hr T.yO.g).kp (G.Ux.cons ε (sr T).g (sr (P:=P) (base:=base) T).b (Hr T.vd.g).kp G.Ux.nil)))) ax rfl aS G.eO a7)))),?_⟩
  obtain⟨z0,rfl,q⟩:=h;exact Zpf cq q
theorem Zfz:ι 10 AD.Ym (fZ T.Xx.g) ["world"] (Zew XQ):=by
 have sc:aO ["world","steps"] ["world"] (aG WL):=cA;walk_at "ok"
 ·refine⟨_,(ao (cZ 1 sc.nd (az))
   (ao (QJ PassesOwn.never (gZ Gr bS (bW (aa (bA) (aa (bA) au))) dr) (ao (iT (cV (Gs T) hr T.mo T.Jt a7))
   (aA (cZ 1 sc.nd (aY gR ψ (az))))))
   (aA (aM ψ)))),?_⟩
  obtain⟨z0,rfl,q⟩:=h;exact Zf8 cq q
theorem Ot:ι 11 AD.zj (fZ T.yR.g) yE (qm XQ):=by
 have sc:aO ["_law_world","_law_cells","_law_event_here","_law_due_here","_law_left","_law_marks"] yE (aG yh):=cA;walk_at "ok"
 ·refine⟨_,(ao (bK (fY (eG (cV (oJ T) hr T.mo T.m6 (aa Ψ b6)))) b9 aU)
   (ao (iT (uJ PySem.F.plainAttrs_list PySem.F.slot_list_append PySem.F.type_list_append kJ (fJ bH Ψ (az)) (aa (az) au)))
   (ao (bK (PW.pt (iu (fY (eG (cV (oJ T) hr T.mo T.m6 (aa (cV (Gs T) hr T.mo T.Jt a7) b6)))) (gQ (fY (eG (cV (oJ T) hr T.mo T.m6 (aa bS b6))))))) b9 aU)
   (ao (cZ 4 sc.nd (cV (Zfz T) hr T.mo T.Xx a7))
   (ao (bK (PW.pt (iu (fY (eG (cV (jg T) hr T.mo T.iG eI))) (iu (gZ rY a8 (az)) (gQ (fY (eG (cV (Dk T) hr T.mo T.tD (aa Ξ c8)))))))) b9 aU)
   (ao (cZ 5 sc.nd (cV (vR T) hr T.mo T.sZ (aa ψ (aa dP (aa (bA) au)))))
   (aA (aM ((QL (mY fu bS (bA) (qN _)) (Ji (cV (yI T) hr T.mo T.ud (aa (cV (tW T) hr T.mo T.pZ a7) (aa ψ (aa ee au))))))))))))))),?_⟩
  obtain⟨z0,z1,z2,z3,rfl,q⟩:=h;exact O3 cq q
theorem Zx:ι 12 AD.Nj (fZ T.Mr.g) Lr (Zbq XQ):=by
 have sc:aO ["_law_world","_law_way_here","_law_sweeper","_law_cells","_law_pale_here","_law_rows_here","_law_fields_here","_law_reach_here","_law_met","_law_listed_here","_law_state_here","_law_event_here"] Lr (aG KD):=cA;walk_at "ok"
 ·refine⟨_,(ao (cZ 2 sc.nd ο)
   (ao (bK (PW.pt (iu (gZ rY dE (bA)) (gQ (gZ (G.Zr (jR hr)) dE dP)))) (ao (iT (cV (Gs T) hr T.mo T.Jt a7))
   (aA (aM (iQ)))) aU)
   (ao (cZ 3 sc.nd (cV (tW T) hr T.mo T.pZ a7))
   (ao (bK (QG (fJ bH (cV (Zcz T) hr T.mo T.RX (aa Ξ (aa ψ b6))) (az)) (λ_=>rfl)) (ao (iT (cV (Gs T) hr T.mo T.Jt a7))
   (aA (aM (iQ)))) aU)
   (ao (cZ 4 sc.nd (cV (Gu T) hr T.mo T.yQ b6))
   (ao (cZ 5 sc.nd (cV (Rn T) hr T.mo T.Cd (aa Ξ b6)))
   (ao (cZ 6 sc.nd (cV (Rq T) hr T.mo T.Ck b6))
   (ao (Zk (i:=7) sc.nd rfl (Or.inr rfl) (cV (Vd T) hr T.mo T.GR (aa ee (aa (pv 6) au))))
   (ao (G.Zcn (iz:=8) (cns:=["_law_reach_here"]) [7] (dO a8) (λ_ _ _ _ _=>(G.Jh (Zj (Zt9 (jR hr) Ξ ψ)))) (λ_ _ _ _ _=>Ξ) rfl rfl ω (by repeat (first | exact trivial | refine⟨rfl,?_⟩)) rfl γ rfl γ γ rfl γ sc.nd rfl (Or.inl rfl) (Or.inr rfl) rfl)
   (ao (cZ 9 sc.nd (cV (Ro T) hr T.mo T.Cg (aa Ξ eI)))
   (ao (cZ 10 sc.nd (cV (BW T) hr T.mo T.vY ci))
   (ao (cZ 11 sc.nd (cV (Gs T) hr T.mo T.Jt a7))
   (ao (bK (PW.pt (iu (gZ (G.Zmz hr.units) (cV (qM T) hr T.mo T.oR a7) (yD Zd ee O8 (zR (Zru Zlk (az))))) (iu (gZ (G.Zn1 (jR hr)) (pv 10) dP) (gQ (gZ (G.Zr (jR hr)) (cV (BW T) hr T.mo T.vY ci) (pv 10)))))) b9 aU)
   (ao (bK (gZ (G.Zn1 (jR hr)) (pv 8) dP) (aA (aM ((QL (mY G.pW (pv 9) (cR) (qN _)) (Ji (cV (Rp T) hr T.mo T.Cj (aa Ξ (aa Ω (aa a8 (aa (pv 11) au)))))))))) aU)
   (ao (bK (PW.pt (iu (gZ G.pW (pv 9) (cR)) (gQ (gZ rY (cV (Zcy T) hr T.mo T.RW (aa ee (aa (pv 6) (aa (fJ bH (pv 9) (az)) au)))) (fJ bH (pv 9) (az)))))) b9 aU)
   (aA (aM (cV (Ot T) hr T.mo T.yR (aa Ξ (aa Ω (aa (pv 11) (aa (bW (aa (bA) (aa (fJ bH (pv 9) (az)) (aa (fJ bH (pv 9) (az)) au)))) au)))))))))))))))))))))),?_⟩
  obtain⟨z0,z1,rfl,q⟩:=h;exact Zb3 cq q
theorem Ztb{fl:AI}{fd:AL}(F:Fun K "law" "law" Qg fl fd):Fn5 P w K mg base 13 fl fd ["_law_script"] (Zje K):=by
 have sc:aO ["_law_script","_law_way_here","_law_hands_here","_law_world","_law_row"] ["_law_script"] (aG Qg):=cA;walk_at "okL"
 ·refine⟨Zfs K XQ.W (wM XQ) (DN K) (Zbu XQ Γ) (Zbt K) (Zbs XQ) (Zhr K) (Zbr K) (Zbq XQ),(ao (cZ 1 sc.nd (aY fj bt (az)))
   (ao (cZ 2 sc.nd (cV (Ve T) hr T.mo T.GX a7))
   (ao (cZ 3 sc.nd (vN (mkT T.Zeo T.sS) (su T).g ax rfl (T.mo T.Zrd) (su (P:=P) (base:=base) T).b .nil G.eO (aa (cV (Zz T) hr T.mo T.Mu a7) (aa (cV (ZF T) hr T.mo T.Mx c8) (aa (kE G.wz η T.mH G.boot_list ci) au)))))
   (ao (fM PassesOwn.never rfl (dO (cV (Zy T) hr T.mo T.Ms (aa Ξ ci))) cx
   (ao (bK (gZ fu (aK (aK Ω rfl) rfl) (bA)) b9 aU)
   (aA (bK (gZ G.oW a8 (cR)) (aA (iT (cV (ZG T) hr T.mo T.My (aa Ω eI)))) (aA (bK (fY (eG (cV (Zx T) hr T.mo T.Mr (aa Ω (aa (aY fj ψ (az)) au))))) b9 aU))))))
   (aA (aM (iQ))))))),?_⟩
  obtain⟨z0,rfl,q⟩:=h;exact Zts cq q
end
theorem all_mk{l:W.OpenLaw}{w:AO}{K:aB}{h:Heap}{mg:As}{fa fl:AI}{XQ:Cs}{AD:Ad}(b:K.In h)(a:h.Ns mainGlobals mg)(hfa:mg "law"=↑fa)(t1:Tx1 K XQ AD)
  {V g to5 Zw8 z:Option AI}
  {sl5 D Zvs:Array AB}
  {oc5 y p j d i M k n Zw9 q x B c u A t:AJ}
  {f S Tq:AI}
  {tn5 r o:Nat}
  {X8 X7 X6 X5 Yl Yk Yj Yi Yh Yg Ye Yd Yc Yb:Int}
  {Wk Wj Wi Wh Ww Wv Wu Wt Ws Wr Wq Wo Wn Wl:Tok}
  (a5:Fi K XQ.H "make" AD.jr)
  (i5:W.isFn K (.ref AD.jr)=true)
  (l5:Lk K AD.jr "make" "Heap.make" jW (.ref f) oc5 V y p j g d i sl5)
  (t5:K.lookup f=some ⟨M,to5,.seq #[k,n] tn5,D⟩)
  (ZBh:RelV (.int 0) k)
  (ZBg:RelV (.int 0) n)
  (c5:Ci K d "Heap.make")
  (k5:Ki K AD.jr)
  (ZB8:Ns K "law" fl)
  (R:Lk K fl "law" "law" Qg .none Zw9 Zw8 q x B z c u Zvs)
  (ZB6:Ci K c "law")
  (I:Ki K fl)
  (Z:Ns K "STEPS" S)
  (O:K.lookup S=some ⟨.type "dict",none,.dict #[⟨X8,.str "rest" Wk,.ref AD.gj⟩,⟨X7,.str "walk" Wj,.ref AD.gb⟩,⟨X6,.str "give" Wi,.ref AD.gh⟩,⟨X5,.str "lost" Wh,.ref AD.eY⟩] r,#[]⟩)
  (Zkk:X8=hashStr w "rest")
  (J:X7=hashStr w "walk")
  (Zki:X6=hashStr w "give")
  (Zkh:X5=hashStr w "lost")
  (Znc:Ns K "DEEDS" Tq)
  (Znn:K.lookup Tq=some ⟨.type "dict",none,.dict #[⟨Yl,.str "make" Ww,.ref AD.mj⟩,⟨Yk,.str "get" Wv,.ref AD.pB⟩,⟨Yj,.str "put" Wu,.ref AD.pA⟩,⟨Yi,.str "copy" Wt,.ref AD.mC⟩,⟨Yh,.str "drop" Ws,.ref AD.mz⟩,⟨Yg,.str "give" Wr,.ref AD.mq⟩,⟨Ye,.str "write" Wq,.ref AD.j6⟩,⟨Yd,.str "read" Wo,.ref AD.lY⟩,⟨Yc,.str "name" Wn,.ref AD.lZ⟩,⟨Yb,.str "seek" Wl,.ref AD.lX⟩] o,#[]⟩)
  (Zku:Yl=hashStr w "make")
  (Zkt:Yk=hashStr w "get")
  (X:Yj=hashStr w "put")
  (Zkr:Yi=hashStr w "copy")
  (U:Yh=hashStr w "drop")
  (Zkp:Yg=hashStr w "give")
  (Zko:Ye=hashStr w "write")
  (Zkn:Yd=hashStr w "read")
  (Zkm:Yc=hashStr w "name")
  (Y:Yb=hashStr w "seek")
  (Zos:W.findIn K (.ref XQ.C) "__eq__"=some (some (.builtin "object.__eq__")))
  (P:W.mroIn K XQ.C (.type "object")=some true)
  (JH:Fi K XQ.E "at_begin" AD.fO)
  (VH:Fi K XQ.E "stays" AD.ie)
  (Dm:Fi K XQ.F "next_look" AD.iV)
  (SN:Fi K XQ.F "stays" AD.ie)
  (JG:Fi K XQ.L "at_begin" AD.fO)
  (YD:W.nsIn K mainGlobals "bool"=some none)
  (lR:W.nsIn K mainGlobals "enumerate"=some none)
  (Zhx:W.nsIn K mainGlobals "int"=some none)
  (fU:W.nsIn K mainGlobals "isinstance"=some none)
  (fP:W.nsIn K mainGlobals "len"=some none)
  (mH:W.nsIn K mainGlobals "list"=some none)
  (kh:W.nsIn K mainGlobals "range"=some none)
  (Zhw:W.nsIn K mainGlobals "str"=some none)
  (DW:W.nsIn K mainGlobals "tuple"=some none)
  (Q:W.nsIn K mainGlobals "NEW"=some (some A))
  (Zus:RelV (.int 2) A)
  (N:W.nsIn K mainGlobals "OLD"=some (some t))
  (Zur:RelV (.int 1) t)
  :∃fd:AL,(∀(s:AK) (v:AJ),BindsTo s fd ⟨[v],[]⟩ [("_law_script",v)])/\∀base:Heap,K.In base->base.Ns mainGlobals mg->rD l.prog w K mg base (G.Uy l.prog w) 13 fa fd ["_law_script"] (Zje K):=by
 have e:=hfa.symm.trans (W.mg_of b a ZB8);cases e;have mo:∀{s:Str}{v:AJ},W.nsIn K mainGlobals s=some (some v)->mg s=some v:=λh=>W.mg_of b a h;have F5:=G.Zqx (st:=jW) l5 c5 k5;have b5:=G.Zv7 (ps:=["self","many","bulk","tone"]) (ds:=[]) l5 t5 λus hl=>by obtain⟨_,_,rfl,l1⟩:=cn1 (n:=3) hl;obtain⟨_,_,rfl,l2⟩:=cn1 (n:=2) l1;obtain⟨_,_,rfl,l3⟩:=cn1 (n:=1) l2;obtain⟨_,_,rfl,l4⟩:=cn1 (n:=0) l3;cases List.eq_nil_of_length_eq_zero l4;exact ⟨_,rfl,rfl⟩
 let Q2:Bd:=⟨(),W.fnOf "make" "Heap.make" (jB jW) (gG jW) (aG jW) (.ref f) y p j g d i⟩
 have T:Txt w K mg XQ AD Q2:={ t1 with
  mo:=mo
  Wx:=⟨S,_,_,r,W.mg_of b a Z,O,⟨rfl,rfl,rfl⟩,rfl,Zkk,⟨Wk,rfl⟩,rfl,J,⟨Wj,rfl⟩,rfl,Zki,⟨Wi,rfl⟩,rfl,Zkh,⟨Wh,rfl⟩,rfl,trivial⟩
  Wy:=⟨Tq,_,_,o,W.mg_of b a Znc,Znn,⟨rfl,rfl,rfl⟩,rfl,Zku,⟨Ww,rfl⟩,rfl,Zkt,⟨Wv,rfl⟩,rfl,X,⟨Wu,rfl⟩,rfl,Zkr,⟨Wt,rfl⟩,rfl,U,⟨Ws,rfl⟩,rfl,Zkp,⟨Wr,rfl⟩,rfl,Zko,⟨Wq,rfl⟩,rfl,Zkn,⟨Wo,rfl⟩,rfl,Zkm,⟨Wn,rfl⟩,rfl,Y,⟨Wl,rfl⟩,rfl,trivial⟩
  Pn:=⟨Zos,P⟩
  uY:=⟨JH,t1.gB.m.fn,t1.gB.m.kp⟩
  tZ:=⟨VH,t1.ji.m.fn,t1.ji.m.kp⟩
  qQ:=⟨Dm,t1.jZ.m.fn,t1.jZ.m.kp⟩
  qP:=⟨SN,t1.ji.m.fn,t1.ji.m.kp⟩
  uV:=⟨JG,t1.gB.m.fn,t1.gB.m.kp⟩
  Gz:=⟨a5,i5,k5⟩
  YD:=W.mg_none_of b a YD
  lR:=W.mg_none_of b a lR
  Zhx:=W.mg_none_of b a Zhx
  fU:=W.mg_none_of b a fU
  fP:=W.mg_none_of b a fP
  mH:=W.mg_none_of b a mH
  kh:=W.mg_none_of b a kh
  Zhw:=W.mg_none_of b a Zhw
  DW:=W.mg_none_of b a DW
  Zs5:=⟨_,W.mg_of b a Q,Zus⟩
  Zs4:=⟨_,W.mg_of b a N,Zur⟩
  Ob:=F5
  zm:=b5
  MP:=k5
 }
 exact⟨W.fnOf "law" "law" (jB Qg) (gG Qg) (aG Qg) .none q x B z c u,λs v=>.of_eq rfl,λbase _ _=>Ztb T (Zod (st:=Qg) R ZB6 I)⟩
theorem walk{l:W.OpenLaw}{q:AM}{b:AH}{j:(As)->Heap->Prop}{e:AO->Heap->Prop}{d:DefRec}{K:Params->aB}(hn:l.most=some 63)(c:d.params.defaults=[])
  (g:∀(w:AO) (h:Heap),e w h->(K w.params).In h)
  (F:∀(w:AO) (mg:As) (fa:AI) (h:Heap),(K w.params).In h->h.Ns mainGlobals mg->mg d.name=↑fa->
   ∃fd:AL,(∀(s:AK) (u:AJ),BindsTo s fd ⟨[u],[]⟩ [("_law_script",u)])/\∀base:Heap,(K w.params).In base->base.Ns mainGlobals mg->rD l.prog w (K w.params) mg base (G.Uy l.prog w) 13 fa fd ["_law_script"] (Zje (K w.params))):
  W.WalkO q b j e l.row.toRowW d [] (λf vs=>PySem.call f vs):=
 L2.Zpc (n:=63) (k:=13) (x:="_law_script") (CX:=λw=>G.Uy l.prog w) (sp:=λw=>Zje (K w.params)) hn ε c ⟨rfl,ε,ε⟩ g F (λ_ _ a ns hl _ i=>⟨a,rfl,ns,i,hl,λ_=>rfl⟩) λ_ _ _ _ _ z=>by
  obtain⟨_,_,_,_,_,_,_,_,_,_,_,_,z⟩:=z;exact z
end K27
namespace PySem.W.Fast
def tw17320797116189516160:=0
def tw8445259296722004930:=0
def tw13769719716993031748:=0
def tw4693033055700463813:=0
def tw3705134122356259269:=0
def tw11937035794188524102:=0
def tw7809607017031291495:=0
def tw9228700045626560458:=0
def tw10103242313883348204:=0
def tw17639833756305586477:=0
def tw4266976883070326414:=0
def tw10770913546406659854:=0
def tw17200533630186685327:=0
def tw4862380087373164688:=0
def tw7417613854927222419:=0
def tw8586760612583096243:=0
def tw13182996191547271188:=0
def tw13625705345373985845:=0
def tw6944894528876916727:=0
def tw9201494764943919736:=0
def tw2697636919466765433:=0
def tw1304448426461619321:=0
def tw13961732675860852602:=0
def tw14976542537843192924:=0
def tw13618200833583314204:=0
def tw14516956633249421789:=0
def tw12723596913116108895:=0
def tw1873821587779221824:=0
def tw605297584115052624:=0
def tw2792400450716138335:=0
def tw17505707549818593018:=0
def tw2862498094437501888:=0
def tw8285436618031136301:=0
def tw5818658149410233667:=0
def tw15583067465508974584:=0
def tw6683640007387386695:=0
def tw18377804205239014949:=0
def tw12310350286881732504:=0
def tw2072690191828150313:=0
def tw17142410047442374557:=0
def tw4347343304792602716:=0
def tw3125211069022066517:=0
def tw1689807867287763198:=0
def tw2232529306766359099:=0
def tw12408950012589745871:=0
def tw14040331561613914809:=0
def tw1889033483491785264:=0
def tw4384486662050690521:=0
def tw6770532247396613173:=0
def tw3046331468157198006:=0
def tw3388493897776520024:=0
def tw5438614090122415143:=0
def tw15172715283761559298:=0
def tw18153637703065689893:=0
def tw4128554403184350179:=0
def tw16261960791933898992:=0
def tw7267058391597490115:=0
def tw15299276887594525528:=0
def tw1086231346980817138:=0
def tw6890404404364077587:=0
def tw11585797052403257114:=0
def tw6817130200448274663:=0
def tw2671545971504722364:=0
def tw9103507320392984729:=0
def tw633466321641794279:=0
def tw412835007539717937:=0
def tw2238121067102761126:=0
def tw7902481037467606533:=0
def tw10602803069366734940:=0
def tw14590397083781917765:=0
def tw5060689762837832963:=0
def tw11326473083501824200:=0
def tw1254706766579000738:=0
def tw5456592056314788247:=0
def tw17962059194943366718:=0
def tw12478958027255455725:=0
def tw14409005537868132128:=0
def tw7974994781314672882:=0
def tw15763754110463413687:=0
def tw15549781568404710693:=0
def tw14850821813699453135:=0
def tw8128500225012356174:=0
def tw15442218192323473646:=0
def tw11786776164833083993:=0
def tw13138200428794247706:=0
def tw5907688622256250515:=0
def tw16435178479356183088:=0
def tw9369013814057316294:=0
def tw77931315451637109:=0
def tw15273664460688082929:=0
def tw3369364676486729880:=0
def tw9799427566547914126:=0
def tw9237638654645282943:=0
def tw9987636876931712655:=0
def tw4343649003019168713:=0
def tw12183918149617816018:=0
def tw1254505845424434350:=0
def tw7286159424199532039:=0
def tw13697594013777689004:=0
def tw17364846757407899920:=0
def tw14213186599950791291:=0
def tw14098828499150129811:=0
def tw6982929630983320532:=0
def tw78551416581688785:=0
def tw12162869064398813285:=0
def tw8424758661969333093:=0
def tw5467054444305461280:=0
def tw10644174563925348025:=0
def tw10295844735274507862:=0
def tw11377035267574257028:=0
def tw14230471740772635346:=0
def tw17353796017882623641:=0
def tw16038195109561597784:=0
def tw14542338397998453740:=0
def tw14809833662661200676:=0
def tw6049109156826355164:=0
def tw2031942587590786400:=0
def tw2945456853649587973:=0
def tw14536556393532796283:=0
def tw11890227481396586721:=0
def tw9063227758138161233:=0
def tw7124679676880879637:=0
def tw5140056173387822629:=0
def tw17736798772424896802:=0
def tw3287004502494107366:=0
def tw17186791509425799438:=0
def tw10336196450680196090:=0
def tw4183052701797632887:=0
def tw18300118843376130384:=0
def tw1381465734033594638:=0
def tw8118843347947037029:=0
def tw17583713273950846619:=0
def tw2220066008981311802:=0
def tw9810153350919511312:=0
def tw11085890974176475781:=0
def tw16515388844362530209:=0
def tw8659448934893607065:=0
def tw16619360249885632082:=0
def tw2784638043795949029:=0
def tw7894730762110434406:=0
def tw16715473762709907195:=0
def tw3982353803155777798:=0
def tw14522166447171037360:=0
def tw3607957689967971898:=0
def tw17223096194427546733:=0
def tw14367359178256093310:=0
def tw14164246708921485448:=0
def tw11519695928106652643:=0
def tw10604274676271990693:=0
def tw16661932783943059584:=0
def tw11331640629677669230:=0
def tw3264176661278359723:=0
def tw15153969697894878426:=0
def tw10845561279195170822:=0
def tw3087248419879506549:=0
def tw15577912608965546092:=0
def tw6885900772510557244:=0
def tw7753613296240419696:=0
def tw14290187369861055850:=0
def tw960916122945794251:=0
def tw13581440322137299760:=0
def tw3709703458070059278:=0
def tw2088542297067312985:=0
def tw18362626228236901359:=0
def tw7709624890889580493:=0
def tw1569314248207529907:=0
def tw3681824128136148509:=0
def tw16379923772127180442:=0
def tw7755339284643966423:=0
def tw14452716760228309296:=0
def tw4880641049231148118:=0
def tw12182645747012729677:=0
def tw3291379063968984999:=0
def tw15793719414920611495:=0
def tw3178542832319324259:=0
def tw5638021427143493873:=0
def tw3644735819744137008:=0
def tw2622243905597391061:=0
def tw5322029869433707716:=0
def tw10945320029852013913:=0
def tw404526418623728850:=0
def tw1298764106152719164:=0
def tw939270442989237191:=0
def tw1270902797366315515:=0
def tw14893814103716470148:=0
def tw7144056924049094154:=0
def tw6775179011950762042:=0
def tw18252642755108822591:=0
def tw3836660096262492762:=0
def tw9670911750208315257:=0
def tw956521227881906810:=0
def tw10860975744659232775:=0
def tw16831597974521339977:=0
def tw844211562187391398:=0
def tw1385063443178247995:=0
def tw6770522833469719072:=0
def tw9091290285481104421:=0
def tw14465849819902070706:=0
def tw17380703926802706670:=0
def tw5182329782168996598:=0
def tw15571971864050703662:=0
def tw8898936769454791634:=0
def tw2098343382604478750:=0
def tw11932943534467224767:=0
def tw6886965099096878651:=0
def tw11090130586358692559:=0
def tw4251006824587114440:=0
def tw7464216987538866946:=0
def tw8824228723293024689:=0
def tw12334795680764027783:=0
def tw12085200169757836046:=0
def tw17458564930270126771:=0
def tw2794097244205902460:=0
def tw12628907011785432212:=0
def tw9575238816936658435:=0
def tw6245485401310555385:=0
def tw13709532026536953626:=0
def tw974140790073788139:=0
def tw10704094534421235546:=0
def tw7839707264809572767:=0
def tw15480228005181474357:=0
def tw8631967722000946940:=0
def tw5631613009397409354:=0
def tw17668814175443018842:=0
def tw3681672376748422543:=0
def tw8404067432249073234:=0
def tw1992885377141646632:=0
def tw1233627203363344083:=0
def tw10776897558632919207:=0
def tw4873884006164364715:=0
def tw15541464281131384201:=0
def tw16955788979058847147:=0
def tw8496689492114266189:=0
def tw13560251337831507038:=0
def tw2448246270299530851:=0
def tw12905146998366070948:=0
def tw14114011673829444606:=0
def tw11047916268509220632:=0
def tw14929088421580532202:=0
def tw888909023193777910:=0
def tw8510721085959596997:=0
def tw2088437085389875029:=0
def tw2628383092597700501:=0
def tw6289804585945241669:=0
def tw6968476704449559507:=0
def tw13604414155139929102:=0
def tw5371611951679129906:=0
def tw11570514009853914271:=0
def tw17150878003136347862:=0
def tw2625064433862428336:=0
def tw10715337699742246259:=0
def tw13578450838768108375:=0
def tw6944429058502871694:=0
def tw8965737298941319263:=0
def tw4141126806248236822:=0
def tw6982568923528921950:=0
def tw4411681278968356766:=0
def tw16559451629453374784:=0
def tw6640538564696385289:=0
def tw1832670369498214829:=0
def tw17672474049381343041:=0
def tw457446571976783168:=0
def tw6048480482749559356:=0
def tw17653412659114538788:=0
def tw1080673248159803135:=0
def tw14677717500025636226:=0
def tw10646778245964335317:=0
def tw10086970345182045874:=0
def tw9515524537214504968:=0
def tw5543444510934167644:=0
def tw7634168092336761180:=0
def tw11476898795541476435:=0
def tw1104118910018576916:=0
def tw3271521472613151138:=0
def tw7340470306874017679:=0
def tw13365084607090310814:=0
def tw5017063702128851559:=0
def tw6137558164641677090:=0
def tw14054674228983373203:=0
def tw13939564947893844858:=0
def tw1486243595771188255:=0
def tw6119035876687698314:=0
def tw15469021411076125468:=0
def tw11357169554836602310:=0
def tw8410085008257514170:=0
def tw13288018219332774263:=0
def tw10762823859311103420:=0
def tw7668385215833408256:=0
def tw17431826774616843912:=0
def tw6146708521860158591:=0
def tw1957085185898762508:=0
def tw3537204608882647288:=0
def tw8772846249111014978:=0
def tw10804150807618003127:=0
def tw672115128752935469:=0
def tw14760119715158694161:=0
def tw1117944900576677418:=0
def tw9929149009580733098:=0
def tw17373064946731013754:=0
def tw6352086913068913552:=0
def tw12909066997041708176:=0
def tw14021686206299453727:=0
def tw16419731771071226800:=0
def tw6480290434637327673:=0
def tw3556983021188919833:=0
def tw12125189107952832884:=0
def tw9440073481690069623:=0
def tw11071618090280864929:=0
def tw17374393056029098262:=0
def tw5720087448785042866:=0
def tw13893379004773062995:=0
def tw14939970748068665797:=0
def tw18074151306053841190:=0
def tw12635531938422903481:=0
def tw2319689448980175156:=0
def tw8430071197430319605:=0
def tw18078975689580290612:=0
def tw13853211382867068640:=0
def tw6273565535558335953:=0
def tw3220781018277773874:=0
def tw16693152128165431035:=0
def tw2999539721031114139:=0
def tw8891498305058329961:=0
def tw9374635825709075896:=0
def tw7550479321918286506:=0
def tw7397548901330977738:=0
def tw17816710307604673424:=0
def tw6576722245388242945:=0
def tw17218776289624636852:=0
def tw10189895684142031333:=0
def tw8524061436845140596:=0
def tw16278694474901387630:=0
def tw13285361985193334042:=0
def tw7199053278587273518:=0
def tw4636702649517321753:=0
def tw17126809730581539815:=0
def tw10991803768249158138:=0
def tw11960055059907101846:=0
def tw9017307013917437369:=0
def tw338092574634672696:=0
def tw167924949900076360:=0
def tw9831950349798745943:=0
def tw7700404812666462982:=0
def tw13945438833127419277:=0
def tw9915720577544065616:=0
def tw4858429578944001009:=0
def tw2713519372690327304:=0
def tw7692516967398560442:=0
def tw3021372010864599286:=0
def tw8812749313099570355:=0
def tw17027720949400812528:=0
def tw10458541304940439391:=0
def tw2044215842028899992:=0
def tw15075967740251697166:=0
def tw2381938574601151560:=0
def tw11794764919061199428:=0
def tw17977287332071644367:=0
def tw8662279462969525449:=0
def tw7604808923924983019:=0
def tw9582207959539742717:=0
def tw17781555880520951648:=0
def tw4553118319339411713:=0
def tw17332725913713234674:=0
def tw14412512923991394157:=0
def tw7008915664170760672:=0
def tw3700961953967157706:=0
def tw14760298619592101:=0
def tw14198663962122588114:=0
def tw15660527558767640893:=0
def tw14777270347133202732:=0
def tw5444539362911344581:=0
def tw16077182786430795141:=0
def tw5886225891533444787:=0
def tw10458362355082070487:=0
def tw14286385645892496156:=0
def tw5022387972078383823:=0
def tw5999815209919017505:=0
def tw6985610107490789606:=0
def tw1979486025436563984:=0
def tw11131625944201691264:=0
def tw4757124015342990650:=0
def tw10329852427199582186:=0
def tw8955759950221272709:=0
def tw64690667931558718:=0
def tw10670635221995125219:=0
def tw12291855598338087750:=0
def tw11380053666452323888:=0
def tw14681739620104232508:=0
def tw15442475809573261190:=0
def tw891840930339118124:=0
def tw4849554844627866548:=0
def tw15128931342361637552:=0
def tw4428884705126686920:=0
def tw10861891000589127421:=0
def tw5328131094836433726:=0
def tw15717541612476722756:=0
def tw5109321239418613168:=0
def tw4902343316922184013:=0
def tw6550010498824709981:=0
def tw3402618636359726777:=0
def tw2024902941376702515:=0
def tw16061597176233916294:=0
def tw16121947877293404274:=0
def tw3493688375782874224:=0
def tw7727629913247638449:=0
def tw15313379650782782854:=0
def tw11463821587950451854:=0
def tw16614922401699234524:=0
def tw11393853688298078662:=0
def tw17796204599994339997:=0
def tw10625552378954531865:=0
def tw12943868330601858311:=0
def tw9445700383781526970:=0
def tw13961923082590174519:=0
def tw5500495689034818820:=0
def tw9659901486843264358:=0
def tw11614783417323395370:=0
def tw10543061215909523380:=0
def tw16543508973942488671:=0
def tw5444493525995992409:=0
def tw12893962573716450505:=0
def tw2886029787882679077:=0
def tw4693926133492500719:=0
def tw12346172116736064155:=0
def tw16909703258190546946:=0
def tw13145172335251742610:=0
def tw17264567735480689968:=0
def tw11806775471545485064:=0
def tw13250783983689772213:=0
def tw11858677415800224037:=0
def tw2101802541442104405:=0
def tw14974995258439631919:=0
def tw11038100217523141466:=0
def tw10692386917895582579:=0
def tw8247687907223375144:=0
def tw1294783552068071655:=0
def tw4280942562876101198:=0
def tw16145685170411577659:=0
def tw11133087819938912979:=0
def tw5985273250116411736:=0
def tw17846483433332052703:=0
def tw11874028233043847826:=0
def tw16849857198108705631:=0
def tw2687143494484871879:=0
def tw1260219665690509925:=0
def tw18381418410278454439:=0
def tw280224086250431084:=0
def tw6002091934835088775:=0
def tw7878059632993488776:=0
def tw9438546451832436510:=0
def tw4910025646434358559:=0
def tw12882157092398788560:=0
def tw1041292614452670501:=0
def tw9493671163863214962:=0
def tw6996119039628449850:=0
def tw6861276608026096733:=0
def tw4249244587573298687:=0
def tw2691574759390306835:=0
def tw794812661393416819:=0
def tw4582482985436065687:=0
def tw1735523602666148163:=0
def tw4621901743054461883:=0
def tw13731944317076631628:=0
def tw11050994423081720350:=0
def tw15403135672215104510:=0
def tw7499111759457180599:=0
def tw17179442055945423134:=0
def tw11294320003548421877:=0
def tw13222591597764308156:=0
def tw10418728261998817415:=0
def tw12365397438728245246:=0
def tw6948071898290016439:=0
def tw4845584559265156656:=0
def tw364139662225439141:=0
def tw16583423569203516921:=0
def tw8477497726048066156:=0
def tw11298337074829909952:=0
def tw14464224611645011536:=0
def tw16115177845165252289:=0
def tw5466517078376947839:=0
def tw17864778908456725132:=0
def tw15446608530918115247:=0
def tw9214736025628931135:=0
def tw17017170045083594948:=0
def tw8238295655259349634:=0
def tw12477992981894297091:=0
def tw13103665809471890774:=0
def tw10172226308768766880:=0
def tw12635496824158889461:=0
def tw12714808052753313426:=0
def tw12323715561327026395:=0
def tw8157262382967426497:=0
def tw18155156960966214706:=0
def tw14104786372338440378:=0
def tw15840544343786216552:=0
def tw712472205291571797:=0
def tw16473341093891645156:=0
def tw14968907628797093835:=0
def tw7503254280455047706:=0
def tw2249615096709581746:=0
def tw4722714746891075480:=0
def tw15150444767524152831:=0
def tw3858264209928468625:=0
def tw13067737872948204530:=0
def tw18139683552187376292:=0
def tw17001153538880960337:=0
def tw4269964667791684846:=0
def tw9207903653303280281:=0
def tw4370528340613648496:=0
def tw6349789159812805579:=0
def tw15971307003673470239:=0
def tw11903379248686292022:=0
def tw4155911318899176124:=0
def tw18329657426014364077:=0
def tw16431889759401198051:=0
def tw5871361434974027462:=0
def tw4601062596769927865:=0
def tw9744689855197641705:=0
def tw8813352081429654520:=0
def tw2854104177710152661:=0
def tw16257740244487808311:=0
def tw1145507251880720635:=0
def tw8923681494218670189:=0
def tw2406466465014418010:=0
def tw9850901762777799241:=0
def tw8871672122195506756:=0
def tw15189480637921966162:=0
def tw8246569002389031333:=0
def tw13005777375148993966:=0
def tw10234247224116372679:=0
def tw7170949299788158561:=0
def tw1724718672380792968:=0
def tw17530881601721544854:=0
def tw7955522667747186626:=0
def tw12174182865328853449:=0
def tw7211725837294187009:=0
def tw15905074452439990999:=0
def tw9355228536271767004:=0
def tw18304008555521924993:=0
def tw3914090604483851357:=0
def tw1671472027319173801:=0
def tw12845575289361714776:=0
def tw15898634741453983443:=0
def tw9049599245794065609:=0
def tw5302595455130471266:=0
end PySem.W.Fast
open PySem PySem.W PyProof.Rows
set_option maxRecDepth 100000 in
set_option maxHeartbeats 0 in
theorem PySem.Challenge.cw_greywalk_k27_cut_or_loss_holds : PySem.Challenge.rw_greywalk_k27_cut_or_loss.Holds := by
 w_on;o_law;k_head;(case hw=>w_witness2)
 k_fill
 refine K27.walk (l:=PySem.Challenge.rw_greywalk_k27_cut_or_loss) rfl rfl (fun w h Y=>PySem.W.kIn_of Y) ?F
 case F=>
  intro w mg fa h KX G hmg;apply K27.all_mk (XQ:=⟨_,_,_,_,_,_,_,_,_⟩) (AD:=⟨_,_,_,_,_,_,_,_,_,_,_,_,_,_,_,_,_,_,_,_,_,_,_,_,_,_,_,_,_,_,_,_,_,_,_,_,_,_,_,_,_,_,_,_,_,_,_,_,_,_,_,_,_,_,_,_,_,_,_,_,_,_,_,_,_,_,_,_,_,_,_,_,_,_,_,_,_,_,_,_,_,_,_,_,_,_,_,_,_,_,_,_,_,_,_,_,_,_,_,_,_,_,_,_,_,_,_,_⟩) KX G hmg ⟨?d0,?d1,?d2,?d3,?d4,?d5,?d6,?d7,?d8,?d9,?d10,?d11,?d12,?d13,?d14,?d15,?d16,?d17,?d18,?d19,?d20,?d21,?d22,?d23,?d24,?d25,?d26,?d27,?d28,?d29,?d30,?d31,?d32,?d33,?d34,?d35,?d36,?d37,?d38,?d39,?d40,?d41,?d42,?d43,?d44,?d45,?d46,?d47,?d48,?d49,?d50,?d51,?d52,?d53,?d54,?d55,?d56,?d57,?d58,?d59,?d60,?d61,?d62,?d63,?d64,?d65,?d66,?d67,?d68,?d69,?d70,?d71,?d72,?d73,?d74,?d75,?d76,?d77,?d78,?d79,?d80,?d81,?d82,?d83,?d84,?d85,?d86,?d87,?d88,?d89,?d90,?d91,?d92,?d93,?d94,?d95,?d96,?d97,?d98,?d99,?ZB4,?ZB3,?ZB2,?ZB1,?ZB0,?ZAz,?ZAy,?ZAx,?ZAw,?ZAv,?ZAu,?ZAt,?ZAs,?ZAr,?ZAq,?ZAp,?ZAo,?ZAn,?ZAm,?ZAl,?ZAk,?ZAj,?ZAi,?ZAh,?ZAg,?ZAf,?ZAe,?ZAd,?ZAc,?ZAb,?ZAa,?ZA9,?ZA8,?ZA6,?ZA5,?ZA4,?ZA3,?ZA2,?ZA1,?ZA0,?Zzz,?Zzy,?Zzx,?Zzw,?Zzv,?Zzu,?Zzt,?Zzs,?Zzr,?Zzq,?Zzp,?Zzo,?Zzn,?Zzm,?Zzl,?Zzk,?Zzj,?Zzi,?Zzh,?Zzg,?Zzf,?Zze,?Zzd,?Zzc,?Zzb⟩ ?h0 ?h1 ?h2 ?h3 ?h4 ?h5 ?h6 ?h7 ?h8 ?h9 ?h10 ?h11 ?h12 ?h13 ?h14 ?h15 ?h16 ?h17 ?h18 ?h19 ?h20 ?h21 ?h22 ?h23 ?h24 ?h25 ?h26 ?h27 ?h28 ?h29 ?h30 ?h31 ?h32 ?h33 ?h34 ?h35 ?h36 ?h37 ?h38 ?h39 ?h40 ?h41 ?h42 ?h43 ?h44 ?h45 ?h46 ?h47 ?h48 ?h49
  case d0 | d1 | d2 | d3 | d4 | d5 | d6 | d7 | d8 | d9 | d10 | d11 | d12 | d13=>(show _=_;(try dsimp only)<;>k_is)
  case d14 | d15 | d16 | d17 | d18 | d19 | d20 | d21=>(refine' K27.mtm ?a ?i ?l ?c ?k;case a | i | l | c | k=>(show _=_;(try dsimp only)<;>k_is))
  case d22 | d23 | d24 | d25=>(refine' K27.fam ?a ?l ?c ?k;case a | l | c | k=>(show _=_;(try dsimp only)<;>k_is))
  case d26 | d27 | d28=>(refine' K27.mtm ?a ?i ?l ?c ?k;case a | i | l | c | k=>(show _=_;(try dsimp only)<;>k_is))
  case d29 | d30 | d31 | d32 | d33 | d34 | d35 | d36 | d37 | d38 | d39 | d40 | d41 | d42 | d43 | d44 | d45 | d46 | d47 | d48 | d49 | d50 | d51 | d52 | d53 | d54 | d55 | d56 | d57 | d58 | d59=>(refine' K27.fam ?a ?l ?c ?k;case a | l | c | k=>(show _=_;(try dsimp only)<;>k_is))
  case d60 | d61 | d62 | d63 | d64 | d65 | d66 | d67=>(refine' K27.mtm ?a ?i ?l ?c ?k;case a | i | l | c | k=>(show _=_;(try dsimp only)<;>k_is))
  case d68 | d69 | d70 | d71 | d72 | d73 | d74 | d75 | d76 | d77 | d78 | d79 | d80 | d81 | d82 | d83 | d84 | d85 | d86 | d87 | d88 | d89 | d90 | d91 | d92 | d93 | d94 | d95 | d96 | d97 | d98 | d99 | ZB4 | ZB3 | ZB2 | ZB1 | ZB0 | ZAz | ZAy | ZAx | ZAw | ZAv | ZAu | ZAt | ZAs | ZAr | ZAq | ZAp=>(refine' K27.fam ?a ?l ?c ?k;case a | l | c | k=>(show _=_;(try dsimp only)<;>k_is))
  case ZAo=>(refine' K27.cam ?a ?b ?c ?d ?e ?f;case a | b | c | d | e | f=>(show _=_;(try dsimp only)<;>k_is))
  case ZAn | ZAm | ZAl | ZAk | ZAj=>(show _=_;(try dsimp only)<;>k_is)
  case ZAi=>(refine' K27.cam ?a ?b ?c ?d ?e ?f;case a | b | c | d | e | f=>(show _=_;(try dsimp only)<;>k_is))
  case ZAh | ZAg | ZAf | ZAe=>(show _=_;(try dsimp only)<;>k_is)
  case ZAd=>(refine' K27.cam ?a ?b ?c ?d ?e ?f;case a | b | c | d | e | f=>(show _=_;(try dsimp only)<;>k_is))
  case ZAc | ZAb=>(show _=_;(try dsimp only)<;>k_is)
  case ZAa=>(refine' K27.cam ?a ?b ?c ?d ?e ?f;case a | b | c | d | e | f=>(show _=_;(try dsimp only)<;>k_is))
  case ZA9 | ZA8 | ZA6 | ZA5 | ZA4 | ZA3 | ZA2 | ZA1 | ZA0 | Zzz | Zzy=>(show _=_;(try dsimp only)<;>k_is)
  case Zzx=>(refine' K27.cam ?a ?b ?c ?d ?e ?f;case a | b | c | d | e | f=>(show _=_;(try dsimp only)<;>k_is))
  case Zzw | Zzv | Zzu | Zzt | Zzs=>(show _=_;(try dsimp only)<;>k_is)
  case Zzr=>(refine' K27.cam ?a ?b ?c ?d ?e ?f;case a | b | c | d | e | f=>(show _=_;(try dsimp only)<;>k_is))
  case Zzq=>(show _=_;(try dsimp only)<;>k_is)
  case Zzp=>(refine' K27.cam ?a ?b ?c ?d ?e ?f;case a | b | c | d | e | f=>(show _=_;(try dsimp only)<;>k_is))
  case Zzo=>(show _=_;(try dsimp only)<;>k_is)
  case Zzn=>(refine' K27.cam ?a ?b ?c ?d ?e ?f;case a | b | c | d | e | f=>(show _=_;(try dsimp only)<;>k_is))
  case Zzm=>(show _=_;(try dsimp only)<;>k_is)
  case Zzl=>(refine' K27.cam ?a ?b ?c ?d ?e ?f;case a | b | c | d | e | f=>(show _=_;(try dsimp only)<;>k_is))
  case Zzk | Zzj=>(show _=_;(try dsimp only)<;>k_is)
  case Zzi | Zzh | Zzg | Zzf=>((try dsimp only)<;>k_exc)
  case Zze | Zzd | Zzc | Zzb=>((try dsimp only)<;>kts_exm)
  case h0 | h1 | h2 | h3=>(show _=_;(try dsimp only)<;>k_is)
  case h4 | h5=>first | exact rfl | exact ⟨_,rfl⟩
  case h6 | h7 | h8 | h9 | h10 | h11 | h12 | h13=>(show _=_;(try dsimp only)<;>k_is)
  case h14 | h15 | h16 | h17=>exact rfl
  case h18 | h19=>(show _=_;(try dsimp only)<;>k_is)
  case h20 | h21 | h22 | h23 | h24 | h25 | h26 | h27 | h28 | h29=>exact rfl
  case h30 | h31 | h32 | h33 | h34 | h35 | h36 | h37 | h38 | h39 | h40 | h41 | h42 | h43 | h44 | h45 | h46=>(show _=_;(try dsimp only)<;>k_is)
  case h47=>first | exact rfl | exact ⟨_,rfl⟩
  case h48=>(show _=_;(try dsimp only)<;>k_is)
  case h49=>first | exact rfl | exact ⟨_,rfl⟩
#print axioms PySem.Challenge.cw_greywalk_k27_cut_or_loss_holds
