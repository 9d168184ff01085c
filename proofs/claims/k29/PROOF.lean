import PyProof.Rows.All
import Lean
import KE.KTryMore
import KE.KItemsList
import KE.KItem
import KE.RegKTryMore
import KE.KDictList
import KE.KEqDict
import KE.KIsBytes
import PySem.Challenge.RW_greywalk_k29_a_round_alone
set_option Elab.async false
set_option linter.all false
set_option compiler.extract_closed false
set_option genSizeOf false
set_option maxRecDepth 100000
set_option hygiene false
local macro_rules|`(γ)=>`(by decide +kernel)
local macro_rules|`(δ)=>`(by omega)
local macro_rules|`(ε)=>`(by decide)
local macro_rules|`(ζ)=>`(by simp)
local macro_rules|`(η)=>`(by rfl)
local macro_rules|`(↑$x)=>`(some (.ref $x))
local macro_rules|`(ι $x*)=>`(Hh P w K mg base $x*)
local macro_rules|`(ν)=>`(St->Hp->Prop)
local macro_rules|`(ξ)=>`(⟨n,Q,bk,ct⟩)
local macro_rules|`(ο)=>`(aJ (pv 0) rfl)
local macro_rules|`(π)=>`(ak 0)
local macro_rules|`(ρ)=>`(rI (λ_ j=>0<j) λi j=>.int (i % j))
local macro_rules|`(ς)=>`(model X.prog X.w)
local macro_rules|`(τ)=>`(tC (.int 1))
local macro_rules|`(υ)=>`(tC (.int 0))
local macro_rules|`(χ)=>`(by repeat (first | exact trivial | refine⟨rfl,?_⟩))
local macro_rules|`(ψ)=>`(ak 1)
local macro_rules|`(ω)=>`(pv 1)
local macro_rules|`(Γ)=>`(Mm AD.cT AD.bG AD.bR AD.cA)
local macro_rules|`(Δ)=>`(Nat.le_refl _)
local macro_rules|`(Θ)=>`(jC λi j=>.int (i+j))
local macro_rules|`(Ξ)=>`(pv 0)
local macro_rules|`(Φ)=>`(ak 3)
local macro_rules|`(Ψ)=>`(bY se ph gr lo c at_ st d ls a b)
local macro_rules|`(Ω)=>`(ak 2)
local macro_rules|`(ac)=>`(pv 2)
local macro_rules|`(ad)=>`(model prog w)
local macro_rules|`(ae)=>`(fB bI ω (az))
local macro_rules|`(af)=>`(pv 3)
local macro_rules|`(ag)=>`(hr.mono ε)
local macro_rules|`(ah)=>`(s.heap.objs.size+1)
local macro_rules|`(ai)=>`(λz=>nomatch z)
local macro_rules|`(am)=>`(tC (.int 2))
local macro_rules|`(ap)=>`(yN (bh M) M.hands 0)
local macro_rules|`(ar)=>`(aa (az) (aa (az) au))
local macro_rules|`(ax)=>`(bz K π "heap")
local macro_rules|`(ay)=>`(bM G.bQ η T.fu G.boot_len (aa ο au))
local macro_rules|`(aE)=>`(bz K π "sweeper")
local macro_rules|`(aI)=>`(ph.symm.trans h)
local macro_rules|`(aS)=>`(λz=>by cases z)
local macro_rules|`(aT)=>`(tC (.int 3))
local macro_rules|`(a3)=>`(pick σ)
local macro_rules|`(a4)=>`(λ_=>?_)
local macro_rules|`(a6)=>`(cR K)
local macro_rules|`(a7)=>`(rI Ir λi j=>.int (i / j))
local macro_rules|`(a8)=>`(bY (fJ M).sw.sense "lost" A.gr (fJ M).sw.looked (fJ M).sw.turn (fJ M).sw.at' (fJ M).sw.stop (fJ M).sw.walks (fJ M).sw.looks (fJ M).sw.passes (.ref a))
local macro_rules|`(ba)=>`(ak 4)
local macro_rules|`(bb)=>`(jC λi j=>.bl (decide (i<j)))
local macro_rules|`(bc)=>`(aj π aD)
local macro_rules|`(bd)=>`(bZ "heap" (.ref hq) [])
local macro_rules|`(be)=>`(bZ "names" (.ref nm) (bZ "hands" (.ref d) u))
local macro_rules|`(bf)=>`(bh M)
local macro_rules|`(bg)=>`(Or.inl rfl)
local macro_rules|`(bi)=>`(dJ (iT T) hr T.mo T.iI (aa Ξ (aa (az) au)))
local macro_rules|`(bj)=>`(aa Ξ au)
local macro_rules|`(bo)=>`(show false=true from hs)
local macro_rules|`(bp)=>`(bY S.sense S.phase A.gr S.looked S.turn S.at' S.stop S.walks S.looks S.passes S.loss)
local macro_rules|`(bq)=>`(cU (bL (bx (jC λi j=>.bl (decide (j<i))) (ak 5) τ)) (bC (bx (qw) Φ (fG (aj (dI (aj (tC (.str "make")) (aj ba (aj υ (aj τ (aj υ aD)))))) (aj (dI (aj (tC (.str "put")) (aj ba (aj υ (aj υ (aj τ aD)))))) (aj (dI (aj (tC (.str "drop")) (aj ba (aj τ aD)))) aD))))) (aL 3)) bW)
local macro_rules|`(br)=>`(upd (upd H l (.lst [])) A.sw (.ins X.S dx (bY S.sense S.phase l S.looked S.turn S.at' S.stop S.walks S.looks S.passes S.loss)))
local macro_rules|`(bt)=>`(dH M.w M.hands.length)
local macro_rules|`(bv)=>`(pv 4)
local macro_rules|`(bw)=>`(aJ ο rfl)
local macro_rules|`(bE)=>`(upd H A.nm (.dK (putK (qx M.names A.ns) (Sum.inr z) (.ref t))))
local macro_rules|`(bJ)=>`(bH (tC (.bl false)))
local macro_rules|`(bP)=>`(ts.map V.ref)
local macro_rules|`(bS)=>`(aj ψ aD)
local macro_rules|`(bX)=>`(Str×(Int×Int))
local macro_rules|`(b6)=>`(aa ω au)
local macro_rules|`(b7)=>`(bY (1 - M.sw.sense) "walk" gr M.sw.looked (M.sw.turn+1) M.sw.at' M.sw.stop M.sw.walks M.sw.looks M.sw.passes M.sw.loss)
local macro_rules|`(b8)=>`(jK birth bulk tone load fa)
local macro_rules|`(b9)=>`(fK (G.qO (iB ac T.ux.c T.p8 (dX T).g ag (dX (P:=P) (base:=base) T).b .nil G.dN) (G.qO (iB ac T.yJ.c T.rY (dX T).g ag (dX (P:=P) (base:=base) T).b .nil G.dN) (iB ac T.yI.c T.rT.m (m5 T).g ag (m5 (P:=P) (base:=base) T).b .nil G.dN))))
local macro_rules|`(ci)=>`(Nat.lt_of_lt_of_le (Heap.lt_size e) I.ok.above)
local macro_rules|`(ck)=>`(aj (oF (G.fU K) (aj (bz K π "hands") aD)) aD)
local macro_rules|`(cm)=>`(W.instObj C s.heap.objs.size)
local macro_rules|`(cn)=>`(aj Φ aD)
local macro_rules|`(cq)=>`(jC λi j=>.int (i - j))
local macro_rules|`(cr)=>`(iJ room ca used born)
local macro_rules|`(cv)=>`(jU T)
local macro_rules|`(cw)=>`(tC (.int 4))
local macro_rules|`(cx)=>`(λv t=>fX t v.1 v.2)
local macro_rules|`(cy)=>`(Int×AE)
local macro_rules|`(cE)=>`(qN (mkT T.Q5 T.lV) (jt T).g ag rfl (T.mo T.Zgn) (jt (P:=P) (base:=base) T).b .nil G.dN (aa (dJ (Ed T) hr T.mo T.xr bj) (aa (dJ (Ef T) hr T.mo T.xu b6) (aa (mF G.uW η T.oG G.boot_list (aa ac au)) au))))
local macro_rules|`(cN)=>`(by with_unfolding_all rfl)
local macro_rules|`(c6)=>`(aa af au)
local macro_rules|`(c7)=>`(fB bI Ξ (az))
local macro_rules|`(c8)=>`(tC .non)
local macro_rules|`(c9)=>`(cV I q ζ)
local macro_rules|`(da)=>`(λz=>?_)
local macro_rules|`(db)=>`(aL 3)
local macro_rules|`(de)=>`(i+1)
local macro_rules|`(df)=>`(ns.map V.int)
local macro_rules|`(dj)=>`(aA (aN (jT)))
local macro_rules|`(dn)=>`(List.mem_append_right _ (List.mem_append_right _ (p7 hb e)))
local macro_rules|`(dr)=>`(bC (bx (qw) Φ (fG (aj (dI (aj (tC (.str "name")) (aj ba (aj υ (aj (aQ yd [] E0 (aj Ω (aj (bx ρ ba am) aD))) aD))))) (aj (dI (aj (tC (.str "drop")) (aj ba (aj υ aD)))) aD)))) db)
local macro_rules|`(dt)=>`(A.cs.map pV)
local macro_rules|`(dv)=>`(rI Mi λi j=>.int (i * j))
local macro_rules|`(dy)=>`(jC λi j=>.int (Builtin.bitAnd i j))
local macro_rules|`(dA)=>`(aj Ω aD)
local macro_rules|`(dE)=>`(W7 λJ T h=>by apply⟨aR ζ,h⟩)
local macro_rules|`(dG)=>`(k+1)
local macro_rules|`(dL)=>`(G.fU K)
local macro_rules|`(dO)=>`(ls.map V.ref)
local macro_rules|`(dP)=>`(aX eE (aX lU Ξ (az)) (az))
local macro_rules|`(dQ)=>`(starEach es X.env)
local macro_rules|`(dS)=>`(aJ ω rfl)
local macro_rules|`(ec)=>`(aL 2)
local macro_rules|`(ed)=>`(aa ac au)
local macro_rules|`(ee)=>`(Key×V)
local macro_rules|`(eg)=>`(bz K π "cells")
local macro_rules|`(eh)=>`(bM G.bQ η T.fu G.boot_len bj)
local macro_rules|`(ei)=>`(upd H a o)
local macro_rules|`(el)=>`(aJ ac rfl)
local macro_rules|`(en)=>`(Nat.ne_of_lt (Nat.lt_of_lt_of_le (Heap.lt_size e) (I.ok.cab x c D hc)))
local macro_rules|`(eo)=>`(cg Ξ (az) rfl)
local macro_rules|`(ep)=>`(rI (λ_ j=>0<=j) λi j=>.int (i / 2 ^ j.toNat))
local macro_rules|`(eu)=>`(jg K)
local macro_rules|`(eA)=>`(ak 5)
local macro_rules|`(eB)=>`(upd H l (.lst []))
local macro_rules|`(eC)=>`(λz=>absurd rfl z)
local macro_rules|`(eD)=>`(λ_ _ _ _ _=>G.uG)
local macro_rules|`(eH)=>`(Sb.slot _ _ _ _)
local macro_rules|`(eI)=>`(some (.builtin "object.__init__"))
local macro_rules|`(eJ)=>`(tC (.int 5))
local macro_rules|`(eK)=>`(λcdv A outer s H vs Q E hr h=>?_)
local macro_rules|`(eL)=>`(cZ (i:=3) sc.nd rfl bg)
local macro_rules|`(eM)=>`(pv 5)
local macro_rules|`(eP)=>`(cZ (i:=4) sc.nd rfl bg)
local macro_rules|`(eQ)=>`(gw (d pos a s g H _ I h) λus j ⟨l,H1,I1,r,q⟩=>⟨I1.xH,?_⟩)
local macro_rules|`(eS)=>`(by simpa using e)
local macro_rules|`(eT)=>`(eV M acc)
local macro_rules|`(eW)=>`(some v)
local macro_rules|`(fb)=>`(dM 2 sc.nd (qP (jF T).g ag rfl (T.mo T.jP.a) (Fz T.jP.g).kp (jF (P:=P) (base:=base) T).b .nil G.DN (aa Ξ (aa ae (aa ae au)))))
local macro_rules|`(fe)=>`(show u=Value.ref a from d)
local macro_rules|`(fg)=>`(rI ZM λi j=>.int (i ^ j.toNat))
local macro_rules|`(fh)=>`(show 1000000<sizeLine by decide)
local macro_rules|`(fi)=>`(dJ (gq T) hr T.mo T.gG (aa Ξ (aa ae au)))
local macro_rules|`(fk)=>`((Iz ((Xb (bL (bx (G.Vp) (ak 8) (tC (.bl true)))) (bL (bx (G.Vp) (ak 8) (tC (.bl false)))))) (bL (bx (Xv) (ak 8) (ak 7)))))
local macro_rules|`(fo)=>`(upd (upd H dx (.own x)) x (.ins C dx []))
local macro_rules|`(fq)=>`(λy=>by cases y)
abbrev Ap:=PySem.Value->PySem.Shared->Prop
abbrev As:=PySem.Str->Option PySem.Value
abbrev At:=List (PySem.Addr×PySem.Obj)
abbrev Au:=List (Option Int)
abbrev AA:=Option Int
abbrev AB:=Option PySem.Value
abbrev AC:=List PySem.Value
abbrev AE:=List Int
abbrev AF:=List PySem.Addr
abbrev AG:=List PySem.Expr
abbrev AH:=List PySem.Str
abbrev AI:=PySem.Addr
abbrev AJ:=PySem.Value
abbrev AK:=PySem.Shared
abbrev AL:=PySem.FuncData
abbrev AM:=PySem.Program
abbrev AN:=PySem.Expr
abbrev AO:=PySem.World
abbrev aB:=PySem.W.Frag
theorem bK{a:Type}{l:List a}{i:Nat}(h:i<l.length):l[i]? =some l[i]:=List.getElem?_eq_getElem h
theorem cP{b:Type}{l:List b}{i:Nat}{a:b}(h:l[i]? =some a):∃h:i<l.length,l[i]=a:=List.getElem?_eq_some_iff.mp h
theorem cz{a b:Type}{f:a->b}{l:List a}{i:Nat}:(l.map f)[i]? =l[i]?.map f:=List.getElem?_map
theorem aU{a b:Type}{l:List a}(f:a->b):(l.map f).length=l.length:=List.length_map f
namespace L2
open PySem PySem.Spec PyProof.Rows
abbrev Key:=Sum Int Str
def Fg:Key->AJ->Bool
 | .inl k,v=>Value.isInt k v
 | .inr x,v=>Value.isStrOf x v
def Zun(w:AO):Key->Int
 | .inl k=>hashInt k
 | .inr x=>hashStr w x
theorem dm:∀{k:Key}{v:AJ},Fg k v=true->(∃i t,k=Sum.inl i/\v=Value.int i t)\/(∃x t,k=Sum.inr x/\v=Value.str x t)
 | .inl i,v,h=>by
  obtain⟨t,e⟩:=Value.isInt_shape (k:=i) (v:=v) h;exact .inl ⟨i,t,rfl,e⟩
 | .inr x,v,h=>by
  obtain⟨t,e⟩:=Value.isStrOf_shape (x:=x) (v:=v) h;exact .inr ⟨x,t,rfl,e⟩
theorem Zhx(i:Int)(t:Tok):Fg (.inl i) (.int i t)=true:=by simp[Fg,Value.isInt]
theorem Zhw(x:Str)(t:Tok):Fg (.inr x) (.str x t)=true:=by simp[Fg,Value.isStrOf]
theorem Zs1(a b:Int):decide ((Sum.inl a:Key)=Sum.inl b)=(a == b):=by
 by_cases e:a=b
 ·subst e;simp
 ·have h:¬ (Sum.inl a:Key)=Sum.inl b:=λq=>e (Sum.inl.inj q);rw[decide_eq_false h];exact(beq_eq_false_iff_ne.mpr e).symm
theorem Zry(a b:Str):decide ((Sum.inr a:Key)=Sum.inr b)=decide (a=b):=by
 by_cases e:a=b
 ·subst e;simp
 ·have h:¬ (Sum.inr a:Key)=Sum.inr b:=λq=>e (Sum.inr.inj q);rw[decide_eq_false h,decide_eq_false e]
theorem Zs0(a:Int)(b:Str):decide ((Sum.inl a:Key)=Sum.inr b)=false:=decide_eq_false (λq=>nomatch q)
theorem Zrz(a:Str)(b:Int):decide ((Sum.inr a:Key)=Sum.inl b)=false:=decide_eq_false (λq=>nomatch q)
def di(prog:AM)(w:AO):PySem.KeyKind prog w Key where
  is:=Fg
  hash:=Zun w
  inj:=λv a b d hb=>by
    rcases dm d with ⟨i,t,rfl,rfl⟩ | ⟨x,t,rfl,rfl⟩
    · rcases dm hb with ⟨j,u,rfl,e⟩ | ⟨y,u,rfl,e⟩
      · injection e with c _;rw[c]
      · exact nomatch e
    · rcases dm hb with ⟨j,u,rfl,e⟩ | ⟨y,u,rfl,e⟩
      · exact nomatch e
      · injection e with c _;rw[c]
  byValue:=λk v h=>by
    rcases dm h with ⟨i,t,rfl,rfl⟩ | ⟨x,t,rfl,rfl⟩<;>rfl
  pyHash:=λhv h=>by
    rcases dm hv with ⟨i,t,rfl,rfl⟩ | ⟨x,t,rfl,rfl⟩
    · exact wpAny_pyHash_int h
    · exact wpAny_pyHash_str h
  eqBool:=λhu hv h=>by
    rcases dm hu with ⟨i,t,rfl,rfl⟩ | ⟨x,t,rfl,rfl⟩
    · rcases dm hv with ⟨j,u,rfl,rfl⟩ | ⟨y,u,rfl,rfl⟩
      · rw[Zs1]at h;exact wpAny_eqBool_int h
      · rw[Zs0]at h;exact SeqAt.EqAt.int_str i t y u _ _ _ _ h
    · rcases dm hv with ⟨j,u,rfl,rfl⟩ | ⟨y,u,rfl,rfl⟩
      · rw[Zrz]at h;exact SeqAt.EqAt.str_int x t j u _ _ _ _ h
      · rw[Zry]at h;exact wpAny_eqBool_str h
  «strs»:=λk x t v h=>by
    rcases dm h with ⟨i,u,rfl,e⟩ | ⟨y,u,rfl,e⟩
    · exact nomatch e
    · injection e with c _
      subst c;cases v<;>rfl
theorem Zaz(prog:AM)(w:AO)(i:Int)(t:Tok):(di prog w).is (.inl i) (.int i t)=true:=Zhx i t
theorem Zay(prog:AM)(w:AO)(x:Str)(t:Tok):(di prog w).is (.inr x) (.str x t)=true:=Zhw x t
inductive V where
 | non | bl (b:Bool) | int (i:Int) | str (x:Str) | byt (b:Array UInt8) | flt (b:UInt64) | ref (a:AI) | ty (n:String)
 deriving DecidableEq
def RelV:V->AJ->Prop
 | .non,u=>u=Value.none
 | .bl b,u=>u=Value.bool b
 | .int i,u=>∃t,u=Value.int i t
 | .str x,u=>∃t,u=Value.str x t
 | .byt b,u=>∃t,u=Value.bytes b t
 | .flt b,u=>∃t,u=Value.float b t
 | .ref a,u=>u=Value.ref a
 | .ty n,u=>u=Value.type n
abbrev Vals:List V->AC->Prop:=Paired RelV
theorem Vals.length{xs:List V}{us:AC}(r:Vals xs us):xs.length=us.length:=Paired.length r
theorem Vals.get:∀{xs:List V}{us:AC}{i:Nat}{x:V},Vals xs us->xs[i]? =some x->∃u,us[i]? =some u/\RelV x u
 | _,_,_,_,.nil,e=>by simp at e
 | _,_,0,_,.cons r _,e=>by simp at e;subst e;exact⟨_,rfl,r⟩
 | _,_,i+1,x,.cons _ t,e=>by
  obtain⟨u,h1,h2⟩:=Vals.get (i:=i) (x:=x) t eS;exact⟨u,by simpa using h1,h2⟩
theorem Vals.set{x:V}{u:AJ}(r:RelV x u):∀{xs:List V}{us:AC} (i:Nat),Vals xs us->Vals (xs.set i x) (us.set i u)
 | _,_,_,.nil=>.nil
 | _,_,0,.cons _ t=>.cons r t
 | _,_,i+1,.cons q t=>.cons q (Vals.set r i t)
theorem Vals.append{xs a:List V}{us b:AC}(h:Vals xs us)(s:Vals a b):Vals (xs++a) (us++b):=by
 induction h with
 | nil=>exact s
 | cons r t c=>exact .cons r c
theorem Vals.take:∀{xs:List V}{us:AC} (n:Nat),Vals xs us->Vals (xs.take n) (us.take n)
 | _,_,0,_=>.nil
 | _,_,_+1,.nil=>.nil
 | _,_,n+1,.cons r t=>.cons r (Vals.take n t)
theorem Vals.drop:∀{xs:List V}{us:AC} (n:Nat),Vals xs us->Vals (xs.drop n) (us.drop n)
 | _,_,0,r=>r
 | _,_,_+1,.nil=>.nil
 | _,_,n+1,.cons _ t=>Vals.drop n t
def yQ:Option V->AB->Prop
 | some v,some u=>RelV v u
 | none,none=>True
 | _,_=>False
def KV{a:Type}:List (a×V)->List (a×AJ)->Prop:=Paired λ(p:a×V) (q:a×AJ)=>p.1=q.1/\RelV p.2 q.2
def kV:Key->V
 | .inl i=>.int i
 | .inr x=>.str x
inductive HO where
  | lst (xs:List V)
  | tup (xs:List V)
  | dK (kvs:List (Key×V)) | dT (kvs:List (List Key×V))
  | set (S:Int->Bool) (n:Nat)
  | ins (C dx:AI) (fs:List (Str×V))
  | own (x:AI)
  | xd (fs:List (Str×V))
  | met (f x:AI)
  | rng (lo hi:Int)
  | uB (o:Obj) (u:HO)
  | M7 (ps:Array AJ)
  | ext (φ:Heap->Prop)
abbrev Hp:=AI->Option HO
def upd(H:Hp)(a:AI)(o:HO):Hp:=λb=>if b=a then some o else H b
theorem aq{H:Hp}{a:AI}{o:HO}:upd H a o a=some o:=by unfold upd;rw[if_pos rfl]
theorem aC{H:Hp}{a b:AI}{o:HO}(h:b≠a):upd H a o b=H b:=by unfold upd;rw[if_neg h]
theorem dF{H:Hp}{a:AI}{o u:HO}:upd ei a u=upd H a u:=by
 funext b;unfold upd;split<;>rfl
theorem lg{H:Hp}{a b:AI}{o u:HO}(h:H a=some o)(h':H b=some u)(d:o≠u):a≠b:=by
 intro e;subst e;rw[h]at h';exact d (Option.some.inj h')
theorem aF{H:Hp}{a b:AI}{o:HO}(h:H a=some o)(h':H b=none):a≠b:=by
 intro e;subst e;rw[h]at h';cases h'
section
variable (P:AM)(w:AO)
def gH(H:Hp)(h:Heap)(a:AI):HO->Prop
 | .lst xs=>xs.length<=sizeLine/\∃(c:AC) (n:Nat),Vals xs c/\h.get? a=some { cls:=.type "list",data:=.seq c.toArray n }
 | .tup xs=>xs.length<=sizeLine/\∃c:AC,Vals xs c/\IsTup h a c.toArray
 | .dK b=>b.length<=sizeLine/\(a == sysModules)=false/\∃vs,KV b vs/\h.DictOf (di P w) a vs
 | .dT b=>b.length<=sizeLine/\(a == sysModules)=false/\∃xs:List (List Key×AI×AJ),
   Paired (λ(p:List Key×V) (q:List Key×AI×AJ)=>p.1=q.1/\H q.2.1=some (.tup (p.1.map kV))/\RelV p.2 q.2.2) b xs/\
   ∃o g i,h.get? a=some o/\o.ExactDict/\o.data=.dict g i/\g.toList=xs.map (entryOfKey (tupleKind (di P w)))/\(xs.map (·.1)).Nodup
 | .set S n=>h.SetOf (intKind P w) a S n
 | .ins C dx fs=>H dx=some (.own a)/\fs.length<=1000/\dx≠a/\h.get? a=some (W.instObj C dx)/\
   ∃d,h.Ns1 dx d/\(∀f,yQ (fs.lookup f) (d f))/\PySem.Within d (fs.map (·.1))
 | .own _=>∃o,h.get? a=some o
 | .xd fs=>∃d,h.Ns1 a d/\∀f,yQ (fs.lookup f) (d f)
 | .rng lo hi=>∃t u v,h.get? a=some { cls:=.type "range",data:=.fields #[.int lo t,.int hi u,.int 1 v] }
 | .uB o u=>h.get? a=some o/\gH H h a u
 | .M7 ps=>h.get? a=some { cls:=.none,data:=.fields ps }
 | .met f x=>h.get? a=some (W.methodObj (.ref f) (.ref x))
 | .ext e=>e h/\(∃o,h.get? a=some o)/\∀h1 h2:Heap,e h1->(∀o,h1.get? a=some o->h2.get? a=some o)->e h2
def ym(H:Hp)(h:Heap):Prop:=∀a o,H a=some o->gH P w H h a o
end
section
variable {P:AM}{w:AO}{H H':Hp}{h h':Heap}{a:AI}{o:HO}
theorem gH.lt(x:gH P w H h a o):a<h.objs.size:=by
 cases o with
 | lst c=>obtain⟨_,_,_,_,e⟩:=x;exact Heap.lt_size e
 | tup c=>obtain⟨_,_,_,p⟩:=x;exact p.lt
 | dK b=>obtain⟨_,_,_,_,o,_,_,e,_⟩:=x;exact Heap.lt_size e
 | dT b=>obtain⟨_,_,_,_,o,_,_,e,_⟩:=x;exact Heap.lt_size e
 | set S n=>obtain⟨o,_,_,_,e,_⟩:=x;exact Heap.lt_size e
 | ins C i fs=>obtain⟨_,_,_,e,_⟩:=x;exact Heap.lt_size e
 | own y=>obtain⟨_,e⟩:=x;exact Heap.lt_size e
 | xd fs=>obtain⟨_,⟨_,_,_,e,_⟩,_⟩:=x;exact Heap.lt_size e
 | rng lo hi=>obtain⟨_,_,_,e⟩:=x;exact Heap.lt_size e
 | uB ob u=>obtain⟨e,_⟩:=x;exact Heap.lt_size e
 | M7 g=>exact Heap.lt_size (show h.get? a=some _ from x)
 | met f y=>exact Heap.lt_size (show h.get? a=some _ from x)
 | ext d=>obtain⟨_,⟨_,e⟩,_⟩:=x;exact Heap.lt_size e
theorem Paired.Zui{e g:Type}{F G:e->g->Prop}{c:List e}{d:List g}(h:Paired F c d)(f:∀a b,F a b->G a b):Paired G c d:=by
 induction h with
 | nil=>exact .nil
 | cons r t i=>exact .cons (f _ _ r) i
theorem gH.stay(x:gH P w H h a o)(k:∀b u,(b=a\/H b=some (.own a))->h.get? b=some u->h'.get? b=some u)
  (A:∀b,H b=some (.own a)->H' b=some (.own a)) (B:∀b xs,H b=some (.tup xs)->H' b=some (.tup xs)):gH P w H' h' a o:=by
 induction o with
 | lst xs=>obtain⟨z,j,n,r,e⟩:=x;exact⟨z,j,n,r,k _ _ (.inl rfl) e⟩
 | tup xs=>obtain⟨z,j,r,ob,e,c⟩:=x;exact⟨z,j,r,ob,k _ _ (.inl rfl) e,c⟩
 | dK l=>obtain⟨z,y,F,r,ob,i,g,e,c⟩:=x;exact⟨z,y,F,r,ob,i,g,k _ _ (.inl rfl) e,c⟩
 | dT l=>
  obtain⟨z,y,xs,r,ob,i,g,e,c⟩:=x;exact⟨z,y,xs,Paired.Zui r λp q z=>⟨z.1,B _ _ z.2.1,z.2.2⟩,ob,i,g,k _ _ (.inl rfl) e,c⟩
 | set S n=>obtain⟨ob,i,g,t,e,c⟩:=x;exact⟨ob,i,g,t,k _ _ (.inl rfl) e,c⟩
 | ins C J fs=>
  obtain⟨d,z,ne,e,m,⟨od,i,g,D,c⟩,r⟩:=x;exact⟨A _ d,z,ne,k _ _ (.inl rfl) e,m,⟨od,i,g,k _ _ (.inr d) D,c⟩,r⟩
 | own y=>obtain⟨ob,e⟩:=x;exact⟨ob,k _ _ (.inl rfl) e⟩
 | xd fs=>obtain⟨m,⟨od,i,g,e,c⟩,r⟩:=x;exact⟨m,⟨od,i,g,k _ _ (.inl rfl) e,c⟩,r⟩
 | rng lo hi=>obtain⟨t,u,v,e⟩:=x;exact⟨t,u,v,k _ _ (.inl rfl) e⟩
 | uB ob u E=>obtain⟨e,q⟩:=x;exact⟨k _ _ (.inl rfl) e,E q⟩
 | M7 s=>
  have e:h.get? a=some { cls:=.none,data:=.fields s }:=x;show h'.get? a=some { cls:=.none,data:=.fields s };exact k a _ (.inl rfl) e
 | met f y=>
  have e:h.get? a=some (W.methodObj (.ref f) (.ref y)):=x;show h'.get? a=some (W.methodObj (.ref f) (.ref y));exact k a _ (.inl rfl) e
 | ext I=>obtain⟨p,⟨o,e⟩,st⟩:=x;exact⟨st _ _ p λo q=>k _ _ (.inl rfl) q,⟨o,k _ _ (.inl rfl) e⟩,st⟩
theorem ym.lt(x:ym P w H h)(e:H a=some o):a<h.objs.size:=(x a o e).lt
theorem ym.fresh(x:ym P w H h)(e:h.objs.size<=a):H a=none:=by
 cases q:H a with
 | none=>rfl
 | some u=>exact absurd (Nat.lt_of_lt_of_le (x.lt q) e) (Nat.lt_irrefl _)
theorem ym.kept(x:ym P w H h)(k:∀b u,h.get? b=some u->h'.get? b=some u):ym P w H h':=λa o e=>
 (x a o e).stay (λb u _ q=>k b u q) (λ_ q=>q) λ_ _ q=>q
theorem ym.laid(x:ym P w H h)(k:∀b u,h.get? b=some u->h'.get? b=some u)(hp:h.objs.size<=a)(new:gH P w ei h' a o):ym P w ei h':=λb u e=>by
 have hn:=x.fresh hp
 by_cases hb:b=a
 ·subst hb;rw[aq]at e;cases e;exact new
 ·rw[aC hb]at e;exact(x b u e).stay (λc v _ q=>k c v q) (λc q=>by rw[aC (aF q hn)];exact q) λc xs q=>by rw[aC (aF q hn)];exact q
end
def Rd(H:Hp)(a:AI)(u:HO):Prop:=H a=some u\/∃o,H a=some (.uB o u)
theorem Rd.ok{P:AM}{w:AO}{H:Hp}{h:Heap}{a:AI}{u:HO}(r:Rd H a u)(x:ym P w H h):gH P w H h a u:=by
 rcases r with r | ⟨o,r⟩
 ·exact x a u r
 ·obtain⟨_,q⟩:=x a _ r;exact q
def Mut:Option HO->Prop
 | some (.lst _)=>True
 | some (.dK _)=>True
 | some (.dT _)=>True
 | some (.set _ _)=>True
 | some (.ins _ _ _)=>True
 | some (.ext _)=>True
 | _=>False
section
variable {P:AM}{w:AO}{H:Hp}{h h':Heap}{x e:AI}{o':HO}
theorem ym.write(ok:ym P w H h)(f:Mut (H x))(m:e=x\/H e=some (.own x))(k:∀b u,b≠e->h.get? b=some u->h'.get? b=some u)(j:∃u,h'.get? e=some u)
  (new:gH P w (upd H x o') h' x o'):ym P w (upd H x o') h':=λb u q=>by
 have d:∀c y,H c=some (.own y)->c≠x:=λc y r z=>by subst z;rw[r]at f;exact f
 have i:∀c g,H c=some (.tup g)->c≠x:=λc g r z=>by subst z;rw[r]at f;exact f
 by_cases hb:b=x
 ·subst hb;rw[aq]at q;cases q;exact new
 ·rw[aC hb]at q
  by_cases a:b=e
  ·have l:H b=some (.own x):=by
    rcases m with z | z
    ·exact absurd (a.trans z) hb
    ·rw[a];exact z
   rw[q]at l;cases l;obtain⟨v,hv⟩:=j;exact⟨v,by rw[a];exact hv⟩
  ·refine(ok b u q).stay (λc v hc r=>k c v ?_ r) (λc r=>by rw[aC (d c b r)];exact r) λc g r=>by rw[aC (i c g r)];exact r
   rcases hc with rfl | hc
   ·exact a
   ·rintro rfl;rcases m with z | z
    ·exact d c b hc z
    ·rw[hc]at z;cases z;exact hb rfl
end
structure Un(fs ex:AF)(H H':Hp)(h h':Heap):Prop where
 keep:∀b o,h.get? b=some o->H b=none->b∉fs->b∉ex->h'.get? b=some o
 slot:∀b o,h.get? b=some o->H b=none->b∈fs->b∉ex->∃sl,h'.get? b=some { o with slots:=sl }
 free:∀b o,h.get? b=some o->H b=none->b∉ex->H' b=none
 there:∀b o,h.get? b=some o->b∉ex->∃o',h'.get? b=some o'
 tups:∀b xs,H b=some (.tup xs)->H' b=some (.tup xs)
 Hz:∀b o u,H b=some (.uB o u)->H' b=some (.uB o u)
 Lg:∀b ps,H b=some (.M7 ps)->∃more,H' b=some (.M7 (ps++more))
section
variable {fs fs' ex ex':AF}{H H1 H2:Hp}{h h1 h2 h':Heap}{a x e:AI}{o:HO}
theorem Un.any(u:Un fs ex H H1 h h1){b:AI}{ob:Obj}(q:h.get? b=some ob)(n:H b=none)(hx:b∉ex):∃sl,h1.get? b=some { ob with slots:=sl }:=by
 by_cases hb:b∈fs
 ·exact u.slot b ob q n hb hx
 ·exact⟨ob.slots,u.keep b ob q n hb hx⟩
theorem Un.kept(k:∀b u,h.get? b=some u->h'.get? b=some u):Un fs ex H H h h':=
 ⟨λb ob q _ _ _=>k b ob q,λb ob q _ _ _=>⟨ob.slots,k b ob q⟩,λ_ _ _ n _=>n,λb ob q _=>⟨ob,k b ob q⟩,λ_ _ q=>q,λ_ _ _ q=>q,λ_ ps q=>⟨#[],by rw[q];simp⟩⟩
theorem Un.refl:Un fs ex H H h h:=Un.kept λ_ _ q=>q
theorem Un.laid(k:∀b u,h.get? b=some u->h'.get? b=some u)(hp:h.objs.size<=a)(hn:H a=none):Un fs ex H ei h h' where
 keep:=λb u q _ _ _=>k b u q
 slot:=λb u q _ _ _=>⟨u.slots,k b u q⟩
 free:=λb u q n _=>by rw[aC (Nat.ne_of_lt (Nat.lt_of_lt_of_le (Heap.lt_size q) hp))];exact n
 there:=λb u q _=>⟨u,k b u q⟩
 tups:=λb xs q=>by rw[aC (aF q hn)];exact q
 Hz:=λb u xs q=>by rw[aC (aF q hn)];exact q
 Lg:=λb ps q=>⟨#[],by rw[aC (aF q hn),q];simp⟩
theorem Un.write(c:Mut (H x))(f:e=x\/H e=some (.own x))(k:∀b u,b≠e->h.get? b=some u->h'.get? b=some u)(d:∃u,h'.get? e=some u):Un fs ex H (upd H x o) h h':=by
 have hx:∀b,H b=none->b≠x:=λb n z=>by subst z;rw[n]at c;exact c
 have hb:∀b,H b=none->b≠e:=λb n z=>by
  subst z;rcases f with r | r
  ·exact hx b n r
  ·rw[n]at r;cases r
 have hm:∀b u,H b=some u->¬ Mut (some u)->b≠x:=λb u q nm z=>by subst z;rw[q]at c;exact nm c
 refine⟨λb u q n _ _=>k b u (hb b n) q,λb u q n _ _=>⟨u.slots,k b u (hb b n) q⟩,λb u q n _=>by rw[aC (hx b n)];exact n,λb u q _=>?_,
  λb g q=>by rw[aC (hm b _ q λz=>z)];exact q,λb u g q=>by rw[aC (hm b _ q λz=>z)];exact q,λb i q=>⟨#[],by rw[aC (hm b _ q λz=>z),q];simp⟩⟩
 by_cases a:b=e
 ·subst a;exact d
 ·exact⟨u,k b u a q⟩
end
def trk(h:Heap)(H:Hp):AF:=(List.range h.objs.size).filter λa=>(H a).isSome
def YW(h:Heap)(H:Hp):Heap:=W.hideAll h (trk h H)
theorem Zig(h:Heap)(H:Hp):(YW h H).objs.size=h.objs.size:=W.hideAll_size _ _
theorem Zm0{h:Heap}{H:Hp}{b:AI}{o:Obj}(e:h.get? b=some o)(n:H b=none):(YW h H).get? b=some o:=
 W.hideAll_get _ e λhm=>by
  have q:(H b).isSome=true:=(List.mem_filter.mp hm).2;rw[n]at q;simp at q
theorem Zoe{h:Heap}{H:Hp}{b:AI}{o:Obj}(e:(YW h H).get? b=some o):h.get? b=some o/\H b=none:=by
 have a:h.get? b=some o:=W.of_hideAll (trk h H) e;refine⟨a,?_⟩;cases q:H b with
 | none=>rfl
 | some x=>
  have hm:b∈trk h H:=List.mem_filter.mpr ⟨List.mem_range.mpr (Heap.lt_size a),by simp[q]⟩;have z:(YW h H).get? b=none:=W.hideAll_none (trk h H) hm;rw[z]at e;cases e
def Zpo(g h:Heap)(L:AI):At:=(List.range h.objs.size).filterMap λa=>if a=L\/(g.get? a).isSome=true then none else(h.get? a).map λo=>(a,o)
def rest(g h:Heap)(L d:AI):At:=(Zpo g h L).filter λp=>decide (p.1≠d)
structure Mod(K:aB)(mg:As)(base:Heap):Prop where
 kin:K.In base
 glob:base.Ns mainGlobals mg
 blt:∃mb,base.Ns builtinsNs mb/\∀x:Str,x≠"__name__"->mb x=bootBuiltins x
 nolimit:base.NoLimit
structure Cx where
 prog:AM
 w:AO
 K:aB
 mg:Str->AB
 base:Heap
 A:Around
 N:AH
 s₀:AK
 H₀:Hp
 env:Env
 outer:List Env
 stack:List Env
 ex:AF
 fn:Str->Bool
 calm:Bool
 pn:At
 xe:AJ->AK->Prop
def frs(l:List Env):AF:=l.filterMap (·.frame)
abbrev Cx.fs(X:Cx):AF:=frs X.outer
def Vis(a:Scope)(x:Str):Prop:=a.names.lookup x=some .local\/a.names.lookup x=some .cell\/a.names.lookup x=some .free
def Loc(a:Scope)(x:Str):Prop:=a.names.lookup x=some .local\/a.names.lookup x=some .cell
def Look(env:Env)(h:Heap)(m:As)(x:Str)(u:AJ):Prop:=
 (env.kindOf x=some .local/\m x=some u)\/((env.kindOf x=some .cell\/env.kindOf x=some .free)/\∃c,env.cells.lookup x=some c/\h.IsCell c (some u))
structure Cx.Ok(X:Cx):Prop where
 mod:Mod X.K X.mg X.base
 kind:X.env.scope.kind=.function
 glob:X.env.globals=mainGlobals
 blt:X.env.builtins=builtinsNs
 above:X.s₀.heap.objs.size<=X.env.locals
 inj:∀x y c,X.env.cells.lookup x=some c->X.env.cells.lookup y=some c->x=y
 has:∀x,(X.env.kindOf x=some .cell\/X.env.kindOf x=some .free)->∃c,X.env.cells.lookup x=some c
 cab:∀x c,X.fn x=true->X.env.cells.lookup x=some c->X.s₀.heap.objs.size<=c
 hd:X.calm=true->X.A.handled=none
 frames:X.A.frames=some X.stack
 stk:X.stack=X.outer\/(X.stack=X.env::X.outer/\X.env.frame=some X.env.locals)
 exf:∀b∈X.ex,b≠X.env.locals/\∀x c,X.env.cells.lookup x=some c->c≠b
 bs:∀b o,X.base.get? b=some o->X.s₀.heap.get? b=some o/\X.H₀ b=none
 bsz:X.base.objs.size<=X.s₀.heap.objs.size
 Zat:∀b o,X.base.get? b=some o->b∉X.ex
 Zed:∀b∈X.ex,b∉X.fs
 uR:X.s₀.heap.FunFrames X.base X.outer
 frf:∀b∈X.fs,X.H₀ b=none
structure Inv(X:Cx)(pins:At)(σ:List (Option V))(H:Hp)(s:AK):Prop where
 ok:X.Ok
 os:s.os=X.s₀.os
 bare:AllBare s.gens
 base:Un X.fs X.ex X.H₀ H X.s₀.heap s.heap
 loc:∃m,s.heap.Ns X.env.locals m/\∀(i:Nat) (x:Str) (v:V),X.N[i]? =some x->σ[i]? =some eW->Vis X.env.scope x->∃u,RelV v u/\Look X.env s.heap m x u
 cell:∀x c,X.env.cells.lookup x=some c->∃v,s.heap.IsCell c v
 free:H X.env.locals=none
 qg:∀x c,X.env.cells.lookup x=some c->H c=none
 pin:∀p∈X.pn++pins,s.heap.get? p.1=some p.2/\H p.1=none/\p.1≠X.env.locals/\p.1∉X.fs/\∀v,p.2.data≠.cell v
 hok:ym X.prog X.w H s.heap
 len:σ.length=X.N.length
section
variable {X:Cx}{pins:At}{σ:List (Option V)}{H H':Hp}{s:AK}{h':Heap}
theorem Cx.Ok.Zwj(ok:X.Ok){b:AI}{o:Obj}(e:X.base.get? b=some o):b∉X.fs:=λhb=>by
 have:=(ok.uR.mem hb).1;rw[e]at this;cases this
theorem Inv.bs(I:Inv X pins σ H s):∀b o,X.base.get? b=some o->s.heap.get? b=some o/\H b=none:=λb o e=>
 ⟨I.base.keep b o (I.ok.bs b o e).1 (I.ok.bs b o e).2 (I.ok.Zwj e) (I.ok.Zat b o e),I.base.free b o (I.ok.bs b o e).1 (I.ok.bs b o e).2 (I.ok.Zat b o e)⟩
theorem Inv.bk(I:Inv X pins σ H s):∀b o,X.base.get? b=some o->s.heap.get? b=some o:=λb o e=>(I.bs b o e).1
theorem Inv.mod(I:Inv X pins σ H s):Mod X.K X.mg X.base:=I.ok.mod
theorem Inv.xH(I:Inv X pins σ H s):X.K.In s.heap:=I.ok.mod.kin.keeps I.bk
theorem Inv.lt(I:Inv X pins σ H s):X.env.locals<s.heap.objs.size:=let ⟨_,hn,_⟩:=I.loc;hn.lt
theorem Inv.sz(I:Inv X pins σ H s):X.s₀.heap.objs.size<=s.heap.objs.size:=Nat.le_trans I.ok.above (Nat.le_of_lt I.lt)
theorem Inv.Zwi(I:Inv X pins σ H s){a:AI}(h:s.heap.objs.size<=a):a∉X.fs:=λhb=>by
 obtain⟨_,o,b,_⟩:=I.ok.uR.mem hb;exact absurd (Nat.lt_of_lt_of_le (Heap.lt_size b) (Nat.le_trans I.sz h)) (Nat.lt_irrefl _)
theorem Inv.cne(I:Inv X pins σ H s):∀x c,X.env.cells.lookup x=some c->c≠X.env.locals:=λx c e z=>by
 obtain⟨v,o,d,hd⟩:=I.cell x c e;obtain⟨m,⟨f,h,g,a,b,_⟩,_⟩:=I.loc;rw[z,a]at d;cases d;rw[b]at hd;cases hd
theorem Inv.uR(I:Inv X pins σ H s):s.heap.FunFrames X.base X.outer:=by
 have all:∀(l:List Env),(∀b∈frs l,b∈X.fs)->X.s₀.heap.FunFrames X.base l->s.heap.FunFrames X.base l:=by
  intro l
  induction l with
  | nil=>intro _ _;trivial
  | cons env r f=>
   intro hs hl;obtain⟨hk,⟨L,o,a,hn,d,hd⟩,hr⟩:=hl;have c:L∈X.fs:=hs L (by unfold frs;rw[List.filterMap_cons,a];exact List.mem_cons_self);obtain⟨sl,e⟩:=I.base.slot L o d (I.ok.frf L c) c λz=>I.ok.Zed L z c;exact⟨hk,⟨L,_,a,hn,e,hd⟩,f (λb hb=>hs b (by unfold frs;rw[List.filterMap_cons,a];exact List.mem_cons_of_mem _ hb)) hr⟩
 exact all X.outer (λ_ hb=>hb) I.ok.uR
theorem Inv.stack(I:Inv X pins σ H s):s.heap.FunFrames X.base X.stack:=by
 rcases I.ok.stk with e | ⟨e,a⟩
 ·rw[e];exact I.uR
 ·rw[e];obtain⟨m,hn,_⟩:=I.loc;refine .cons (by rw[I.ok.kind];decide) a hn ?_ I.uR;exact Heap.get?_none_of_le (Nat.le_trans I.ok.bsz I.ok.above)
theorem Inv.GK(I:Inv X pins σ H s):∀b∈frs X.stack,b∈X.env.locals::X.fs:=λb hb=>by
 rcases I.ok.stk with e | ⟨e,a⟩
 ·rw[e]at hb;exact List.mem_cons_of_mem _ hb
 ·rw[e]at hb;unfold frs at hb;rw[List.filterMap_cons,a]at hb;exact hb
theorem Inv.Xc(I:Inv X pins σ H s):∀b∈frs X.stack,H b=none:=λb hb=>by
 rcases List.mem_cons.mp (I.GK b hb)with e | hb
 ·rw[e];exact I.free
 ·obtain⟨_,o,a,_⟩:=I.ok.uR.mem hb;exact I.base.free b o a (I.ok.frf b hb) λz=>I.ok.Zed b z hb
theorem Inv.step{g':Array GenState}{t':Nat}{d':Drawn}{ch:AF}(I:Inv X pins σ H s)
  (g:∀b∈ch,(b∈X.ex\/X.s₀.heap.objs.size<=b)/\b≠X.env.locals/\(∀x c,X.env.cells.lookup x=some c->c≠b)/\∀p∈X.pn++pins,p.1≠b)
  (keep:∀b o,b≠X.env.locals->b∉X.fs->b∉ch->s.heap.get? b=some o->H b=none->h'.get? b=some o)
  (slot:∀b o,b≠X.env.locals->b∈X.fs->b∉ch->s.heap.get? b=some o->H b=none->∃sl,h'.get? b=some { o with slots:=sl }) (free:∀b o,b∉ch->s.heap.get? b=some o->H b=none->H' b=none)
  (there:∀b o,b∉ch->s.heap.get? b=some o->∃A,h'.get? b=some A)
  (tups:∀b xs,H b=some (.tup xs)->H' b=some (.tup xs)) (Hz:∀b o u,H b=some (.uB o u)->H' b=some (.uB o u)) (Lg:∀b ps,H b=some (.M7 ps)->∃B,H' b=some (.M7 (ps++B)))
  (ns:∀m,s.heap.Ns X.env.locals m->h'.Ns X.env.locals m) (hok:ym X.prog X.w H' h') (hg:AllBare g'):
  Inv X pins σ H' { s with heap:=h',gens:=g',drawn:=d',toks:=t' }:=by
 have C:∀b o,X.s₀.heap.get? b=some o->b≠X.env.locals:=λb o e=>Nat.ne_of_lt ci;have h:∀b o,X.s₀.heap.get? b=some o->b∉X.ex->b∉ch:=λb o e hx hb=>by
  rcases(g b hb).1 with z | z
  ·exact hx z
  ·exact absurd (Nat.lt_of_lt_of_le (Heap.lt_size e) z) (Nat.lt_irrefl _)
 have f:∀x c,X.env.cells.lookup x=some c->∀v,s.heap.IsCell c v->h'.IsCell c v:=λx c e v ⟨o,t,hd⟩=>by
  have a:c∉ch:=λz=>(g c z).2.2.1 x c e rfl
  by_cases hc:c∈X.fs
  ·obtain⟨sl,q⟩:=slot c o (I.cne x c e) hc a t (I.qg x c e);exact⟨_,q,hd⟩
  ·exact⟨o,keep c o (I.cne x c e) hc a t (I.qg x c e),hd⟩
 refine⟨I.ok,I.os,hg,⟨λb o e n hb hx=>?_,λb o e n hb hx=>?_,λb o e n hx=>?_,λb o e hx=>?_,λb xs e=>tups b xs (I.base.tups b xs e),λb o xs e=>Hz b o xs (I.base.Hz b o xs e),λb ps e=>?_⟩,?_,λx c e=>?_,?_,λx c e=>?_,λp hp=>?_,hok,I.len⟩
 ·exact keep b o (C b o e) hb (h b o e hx) (I.base.keep b o e n hb hx) (I.base.free b o e n hx)
 ·obtain⟨sl,j⟩:=I.base.slot b o e n hb hx;obtain⟨D,y⟩:=slot b _ (C b o e) hb (h b o e hx) j (I.base.free b o e n hx);exact⟨D,y⟩
 ·obtain⟨A,j⟩:=I.base.there b o e hx;exact free b A (h b o e hx) j (I.base.free b o e n hx)
 ·obtain⟨A,j⟩:=I.base.there b o e hx;exact there b A (h b o e hx) j
 ·obtain⟨F,j⟩:=I.base.Lg b ps e;obtain⟨J,y⟩:=Lg b _ j;exact⟨F++J,by rw[y,Array.append_assoc]⟩
 ·obtain⟨m,hn,hl⟩:=I.loc;refine⟨m,ns m hn,λi x v j y e3=>?_⟩;obtain⟨u,r,l⟩:=hl i x v j y e3;refine⟨u,r,?_⟩;rcases l with l | ⟨k,c,e,z⟩
  ·exact .inl l
  ·exact .inr ⟨k,c,e,f x c e _ z⟩
 ·obtain⟨v,z⟩:=I.cell x c e;exact⟨v,f x c e v z⟩
 ·obtain⟨m,⟨o,_,_,t,_⟩,_⟩:=I.loc;exact free _ o (λz=>(g _ z).2.1 rfl) t I.free
 ·obtain⟨v,o,t,hd⟩:=I.cell x c e;exact free c o (λz=>(g c z).2.2.1 x c e rfl) t (I.qg x c e)
 ·obtain⟨e,n,ne,E,d⟩:=I.pin p hp;have a:p.1∉ch:=λz=>(g p.1 z).2.2.2 p hp rfl;exact⟨keep p.1 p.2 ne E a e n,free p.1 p.2 a e n,ne,E,d⟩
theorem Inv.un{t':Nat}(I:Inv X pins σ H s)(u:Un X.fs [] H H' s.heap h')(hok:ym X.prog X.w H' h'):Inv X pins σ H' { s with heap:=h',toks:=t' }:=by
 obtain⟨m,⟨o,k,i,f,r⟩,_⟩:=id I.loc;obtain⟨sl,h⟩:=u.any f I.free ζ;exact I.step (g':=s.gens) (d':=s.drawn) (ch:=[]) (λ_ z=>nomatch z) (λb o _ hb _ e n=>u.keep b o e n hb ζ) (λb o _ hb _ e n=>u.slot b o e n hb ζ) (λb o _ e n=>u.free b o e n ζ) (λb o _ e=>u.there b o e ζ) u.tups u.Hz u.Lg (λl hm=>by
  obtain⟨j,d,c,a,g⟩:=hm;rw[f]at a;cases a;exact⟨_,d,c,h,g⟩) hok I.bare
theorem Inv.call{g':Array GenState}{t':Nat}{d':Drawn}{ch:AF}(I:Inv X pins σ H s)(u:Un (frs X.stack) ch H H' s.heap h')(hok:ym X.prog X.w H' h')(hg:AllBare g')
  (d:∀b∈ch,(b∈X.ex\/X.s₀.heap.objs.size<=b)/\b≠X.env.locals/\(∀x c,X.env.cells.lookup x=some c->c≠b)/\∀p∈X.pn++pins,p.1≠b):
  Inv X pins σ H' { s with heap:=h',gens:=g',drawn:=d',toks:=t' }:=by
 obtain⟨m,⟨o,q,k,i,r⟩,_⟩:=id I.loc;obtain⟨sl,h⟩:=u.any i I.free λz=>(d _ z).2.1 rfl;exact I.step (ch:=ch) d (λb o h hb hc e n=>u.keep b o e n (λz=>(List.mem_cons.mp (I.GK b z)).elim h hb) hc) (λb o _ _ hc e n=>u.any e n hc) (λb o hc e n=>u.free b o e n hc) (λb o hc e=>u.there b o e hc) u.tups u.Hz u.Lg (λt hm=>by
  obtain⟨l,g,f,a,j⟩:=hm;rw[i]at a;cases a;exact⟨_,g,f,h,j⟩) hok hg
theorem Inv.turned{t':Nat}{a:AI}(I:Inv X pins σ H s)(k:∀b o,b≠a->s.heap.get? b=some o->h'.get? b=some o)(hn:H a=none)(f:a≠X.env.locals)
  (h1:a∈X.ex\/X.s₀.heap.objs.size<=a) (h2:∀x c,X.env.cells.lookup x=some c->c≠a) (j:∀p∈X.pn++pins,p.1≠a):Inv X pins σ H { s with heap:=h',toks:=t' }:=by
 have d:∀b u,H b=some u->b≠a:=λb u e z=>by rw[z,hn]at e;cases e
 refine I.step (g':=s.gens) (d':=s.drawn) (ch:=[a]) (λb hb=>?_) (λb o _ _ hc e _=>k b o (λz=>hc (by simp[z])) e) (λb o _ _ hc e _=>⟨o.slots,k b o (λz=>hc (by simp[z])) e⟩) (λ_ _ _ _ n=>n)
  (λb o hc e=>⟨o,k b o (λz=>hc (by simp[z])) e⟩) (λ_ _ e=>e) (λ_ _ _ e=>e) (λb l e=>⟨#[],by rw[e];simp⟩) (λm hm=>?_) (λb u e=>?_) I.bare
 ·have e:b=a:=by simpa using hb
  subst e;exact⟨h1,f,h2,j⟩
 ·obtain⟨o,i,h,g,r⟩:=hm;exact⟨o,i,h,k _ o (Ne.symm f) g,r⟩
 ·refine(I.hok b u e).stay (λc v hc q=>k c v ?_ q) (λ_ q=>q) λ_ _ q=>q;rcases hc with z | z
  ·rw[z];exact d b u e
  ·exact d c _ z
theorem Inv.tok(I:Inv X pins σ H s)(t:Nat):Inv X pins σ H { s with toks:=t }:=I.un (h':=s.heap) (t':=t) Un.refl I.hok
theorem Inv.kept{t':Nat}(I:Inv X pins σ H s)(k:∀b u,s.heap.get? b=some u->h'.get? b=some u):Inv X pins σ H { s with heap:=h',toks:=t' }:=I.un (Un.kept k) (I.hok.kept k)
theorem Inv.laid{a:AI}{o:HO}{t':Nat}(I:Inv X pins σ H s)(k:∀b u,s.heap.get? b=some u->h'.get? b=some u)(hp:s.heap.objs.size<=a)(new:gH X.prog X.w ei h' a o):
  Inv X pins σ ei { s with heap:=h',toks:=t' }:=I.un (Un.laid k hp (I.hok.fresh hp)) (I.hok.laid k hp new)
theorem Inv.write{x e:AI}{o:HO}{t':Nat}(I:Inv X pins σ H s)(c:Mut (H x))(d:e=x\/H e=some (.own x))(k:∀b u,b≠e->s.heap.get? b=some u->h'.get? b=some u)(a:∃u,h'.get? e=some u)
  (new:gH X.prog X.w (upd H x o) h' x o):Inv X pins σ (upd H x o) { s with heap:=h',toks:=t' }:=I.un (Un.write c d k a) (I.hok.write c d k a new)
theorem Inv.yz{a:At}(I:Inv X pins σ H s)(h:∀p∈a,s.heap.get? p.1=some p.2/\H p.1=none/\p.1≠X.env.locals/\p.1∉X.fs/\∀v,p.2.data≠.cell v):Inv X a σ H s:=
 ⟨I.ok,I.os,I.bare,I.base,I.loc,I.cell,I.free,I.qg,λp hp=>(List.mem_append.mp hp).elim (λz=>I.pin p (List.mem_append_left _ z)) (h p),I.hok,I.len⟩
theorem Zav{N:AH}(e:N.Nodup){i j:Nat}{x:Str}(a:N[i]? =some x)(b:N[j]? =some x):i=j:=by
 obtain⟨h1,c⟩:=cP a;obtain⟨h2,d⟩:=cP b;exact(List.getElem_inj e).mp (c.trans d.symm)
theorem Zh5{M:Model}{A:Around}{E:Ap}{i:Nat}{x:Str}{v:V}{u:AJ}{Q:Unit->AK->Prop}(I:Inv X pins σ H s)(hN:X.N.Nodup)(hi:X.N[i]? =some x)(hx:Loc X.env.scope x)(r:RelV v u)
  (h:∀s',Inv X pins (σ.set i eW) H s'->(∃a,Heap.SameBut a s.heap s'.heap/\(a=X.env.locals\/X.env.cells.lookup x=some a))->Q () s') (hf:X.fn x=true\/X.env.scope.names.lookup x=some .local:=by first | exact .inl rfl | exact .inr rfl | assumption):wpAny M A (storeName X.env x u) Q E s:=by
 obtain⟨m,hn,hl⟩:=id I.loc;have F:(X.env.scope.kind == .class || (X.env.scope.kind == .module && X.env.locals != X.env.globals))=false:=by rw[I.ok.kind];rfl
 have B:i < σ.length:=by rw[I.len];exact(cP hi).1
 have cne:=I.cne;have f:∀{a:AI}{h':Heap},(∃o,s.heap.get? a=some o/\H a=none)->Heap.SameBut a s.heap h'->ym X.prog X.w H h':=λ{a h'} ha hs b ob e=>by
  obtain⟨_,_,l⟩:=ha;refine(I.hok b ob e).stay (λc O hc q=>(hs.2 c ?_).trans q) (λ_ q=>q) λ_ _ q=>q;rintro rfl;rcases hc with rfl | hc
  ·rw[l]at e;cases e
  ·rw[l]at hc;cases hc
 rcases hx with hk | hk
 ·refine wpAny_storeName_local hk hn (λh' S hs=>?_) F;obtain⟨oL,_,_,R,_⟩:=id hn;refine h _ ⟨I.ok,I.os,I.bare,⟨λb o e n hb hx=>?_,λb o e n hb hx=>?_,I.base.free,λb o e hx=>?_,I.base.tups,I.base.Hz,I.base.Lg⟩,⟨_,S,λj y U g t e3=>?_⟩,λy c e=>?_,I.free,I.qg,λp hp=>?_,f ⟨oL,R,I.free⟩ hs,by simpa using I.len⟩ ⟨_,hs,.inl rfl⟩
  ·exact(hs.2 b (Nat.ne_of_lt ci)).trans (I.base.keep b o e n hb hx)
  ·obtain⟨sl,g⟩:=I.base.slot b o e n hb hx;exact⟨sl,(hs.2 b (Nat.ne_of_lt ci)).trans g⟩
  ·obtain⟨T,g⟩:=I.base.there b o e hx;exact⟨T,(hs.2 b (Nat.ne_of_lt ci)).trans g⟩
  ·by_cases C:j=i
   ·subst C;rw[hi]at g;cases g;rw[List.getElem?_set_self B]at t;cases t;exact⟨u,r,.inl ⟨hk,ζ⟩⟩
   ·rw[List.getElem?_set_ne (Ne.symm C)]at t;obtain⟨Y,W,q⟩:=hl j y U g t e3;refine⟨Y,W,?_⟩;rcases q with ⟨k,e⟩ | ⟨k,c,e,z⟩
    ·refine .inl ⟨k,?_⟩;have:y≠x:=λe=>C (Zav hN g (e ▸ hi));simp[this,e]
    ·exact .inr ⟨k,c,e,z.sameBut hs (cne y c e)⟩
  ·obtain⟨O,z⟩:=I.cell y c e;exact⟨O,z.sameBut hs (cne y c e)⟩
  ·obtain⟨e,n,ne,nf,d⟩:=I.pin p hp;exact⟨(hs.2 p.1 ne).trans e,n,ne,nf,d⟩
 ·have D:X.fn x=true:=by
   rcases hf with z | z
   ·exact z
   ·rw[z]at hk;cases hk
  obtain⟨c,hc⟩:=I.ok.has x (.inl hk);obtain⟨O,z⟩:=I.cell x c hc;refine wpAny_storeName_cell I.ok.kind hk hc z (λh' L hs=>?_);obtain⟨oc,J,Z⟩:=id z;refine h { s with heap:=h' } ⟨I.ok,I.os,I.bare,⟨λb o e n hb hx=>?_,λb o e n hb hx=>?_,I.base.free,λb o e hx=>?_,I.base.tups,I.base.Hz,I.base.Lg⟩,⟨m,hn.sameBut hs (Ne.symm (cne x c hc)),λj y U g t e3=>?_⟩,λy P e=>?_,I.free,I.qg,λp hp=>?_,f ⟨oc,J,I.qg x c hc⟩ hs,by simpa using I.len⟩ ⟨c,hs,.inr hc⟩
  ·exact(hs.2 b en).trans (I.base.keep b o e n hb hx)
  ·obtain⟨sl,g⟩:=I.base.slot b o e n hb hx;exact⟨sl,(hs.2 b en).trans g⟩
  ·obtain⟨T,g⟩:=I.base.there b o e hx;exact⟨T,(hs.2 b en).trans g⟩
  ·by_cases C:j=i
   ·subst C;rw[hi]at g;cases g;rw[List.getElem?_set_self B]at t;cases t;exact⟨u,r,.inr ⟨.inl hk,c,hc,L⟩⟩
   ·rw[List.getElem?_set_ne (Ne.symm C)]at t;obtain⟨Y,W,q⟩:=hl j y U g t e3;refine⟨Y,W,?_⟩;rcases q with q | ⟨k,P,e,z'⟩
    ·exact .inl q
    ·refine .inr ⟨k,P,e,z'.sameBut hs ?_⟩;rintro rfl;exact C (Zav hN g (I.ok.inj _ _ _ e hc ▸ hi))
  ·by_cases K:P=c
   ·subst K;exact⟨_,L⟩
   ·obtain⟨w2,z2⟩:=I.cell y P e;exact⟨w2,z2.sameBut hs K⟩
  ·obtain⟨e,n,ne,nf,d⟩:=I.pin p hp;refine⟨(hs.2 p.1 ?_).trans e,n,ne,nf,d⟩;intro q;rw[q,J]at e;have q':oc=p.2:=Option.some.inj e;exact d O (by rw[<- q'];exact Z)
theorem BV{M:Model}{A:Around}{E:Ap}{i:Nat}{x:Str}{v:V}{u:AJ}{Q:Unit->AK->Prop}(I:Inv X pins σ H s)(b:X.N.Nodup)(hi:X.N[i]? =some x)(hx:Loc X.env.scope x)(r:RelV v u)
  (h:∀s',Inv X pins (σ.set i eW) H s'->Q () s') (a:X.fn x=true\/X.env.scope.names.lookup x=some .local:=by first | exact .inl rfl | exact .inr rfl | assumption):wpAny M A (storeName X.env x u) Q E s:=
 Zh5 I b hi hx r (λs' c _=>h s' c) a
theorem Inv.call'{s':AK}{ch:AF}(I:Inv X pins σ H s)(d:s'.os=s.os)(u:Un (frs X.stack) ch H H' s.heap s'.heap)(hok:ym X.prog X.w H' s'.heap)(hg:AllBare s'.gens)
  (a:∀b∈ch,(b∈X.ex\/X.s₀.heap.objs.size<=b)/\b≠X.env.locals/\(∀x c,X.env.cells.lookup x=some c->c≠b)/\∀p∈X.pn++pins,p.1≠b):Inv X pins σ H' s':=by
 obtain⟨h',g',d',t',f⟩:=s';have e:f=s.os:=d;subst e;exact I.call (g':=g') (t':=t') (d':=d') u hok hg a
end
abbrev XK:=AJ->Option AI->Hp->Prop
abbrev St:=List (Option V)
abbrev VK:=V->Hp->Prop
abbrev TE:=St->Hp->VK->Prop
abbrev TT:=St->Hp->(Bool->Hp->Prop)->Prop
abbrev TA:=St->Hp->(List V->Hp->Prop)->Prop
structure Ends where
 nx:ν
 rt:VK
 bk:ν:=λ_ _=>False
 ct:ν:=λ_ _=>False
abbrev TS:=Ends->ν
def EP(X:Cx)(a:At)(σ:St)(Q:VK)(u:AJ)(s':AK):Prop:=∃v H',Inv X a σ H' s'/\RelV v u/\Q v H'
def TP(X:Cx)(a:At)(σ:St)(Q:Bool->Hp->Prop)(b:Bool)(s':AK):Prop:=∃H',Inv X a σ H' s'/\Q b H'
def AP(X:Cx)(a:At)(σ:St)(Q:List V->Hp->Prop)(us:AC)(s':AK):Prop:=∃vs H',Inv X a σ H' s'/\Vals vs us/\Q vs H'
def SP(X:Cx)(b:At)(D:Ends)(f:Flow)(s':AK):Prop:=
 match f with
 | .next=>∃ a H',Inv X b a H' s'/\D.nx a H'
 | .brk=>∃ a H',Inv X b a H' s'/\D.bk a H'
 | .cont=>∃ a H',Inv X b a H' s'/\D.ct a H'
 | .ret u=>∃v a H',Inv X b a H' s'/\RelV v u/\D.rt v H'
def PE(X:Cx)(e:AN)(t:TE):Prop:=
 ∀(a:At) (s:AK) (σ:St) (H:Hp) (Q:VK),Inv X a σ H s->t σ H Q->wpAny ς X.A (eval e X.env) (EP X a σ Q) X.xe s
def PT(X:Cx)(e:AN)(t:TT):Prop:=
 ∀(a:At) (s:AK) (σ:St) (H:Hp) (Q:Bool->Hp->Prop),Inv X a σ H s->t σ H Q->wpAny ς X.A (isTrue e X.env (eval e X.env)) (TP X a σ Q) X.xe s
def PW(X:Cx)(e:AN)(t:TT):Prop:=
 ∀(b:Sem AJ) (a:At) (s:AK) (σ:St) (H:Hp) (Q:Bool->Hp->Prop),Inv X a σ H s->t σ H Q->wpAny ς X.A (isTrue e X.env b) (TP X a σ Q) X.xe s
theorem PW.pt{X:Cx}{e:AN}{t:TT}(h:PW X e t):PT X e t:=h _
def PA(X:Cx)(c:AG)(t:TA):Prop:=
 ∀(b:Pos) (a:At) (s:AK) (σ:St) (H:Hp) (Q:List V->Hp->Prop),Inv X a σ H s->t σ H Q->wpAny ς X.A (spliced (backTo b (starEach c X.env))) (AP X a σ Q) X.xe s
def PS(X:Cx)(st:Stmt)(t:TS):Prop:=
 ∀(a:At) (s:AK) (σ:St) (H:Hp) (D:Ends),Inv X a σ H s->t D σ H->wpAny ς X.A (exec st X.env) (SP X a D) X.xe s
def ZP(X:Cx)(st:List Stmt)(t:TS):Prop:=
 ∀(a:At) (s:AK) (σ:St) (H:Hp) (D:Ends),Inv X a σ H s->t D σ H->wpAny ς X.A (execs st X.env) (SP X a D) X.xe s
theorem gw{b:Type}{t:Sem b}{Q c:b->AK->Prop}{M:Model}{A:Around}{E:Ap}{s:AK}(h:wpAny M A t Q E s)(d:∀a s,Q a s->c a s):wpAny M A t c E s:=wpAny_mono h d λ_ _ x=>x
section
variable {X:Cx}
def ak(i:Nat):TE:=λσ H Q=>∃v,σ[i]? =some eW/\Q v H
def tC(v:V):TE:=λ_ H Q=>Q v H
theorem Zk9{i:Nat}{x:Str}{d:Pos}(g:X.N[i]? =some x)(hv:Vis X.env.scope x)(hd:(x == ("__debug__":Str))=false:=by decide)(f:(x == ("__classdict__":Str))=false:=by decide):PE X (.Name x d) (ak i):=by
 intro b s j H Q I h;obtain⟨v,e,h⟩:=h;obtain⟨m,hn,hl⟩:=I.loc;obtain⟨u,r,l⟩:=hl i x v g e hv;have fin:EP X b j Q u s:=⟨v,H,I,r,h⟩;rcases l with ⟨hk,hm⟩ | ⟨hk,c,hc,a⟩
 ·exact wpAny_Name (wpAny_loadName_local I.ok.kind hk hn hm fin) hd
 ·rcases hk with hk | hk
  ·exact wpAny_Name (wpAny_loadName_cell I.ok.kind hk hc a fin) hd
  ·exact wpAny_Name (wpAny_loadName_free I.ok.kind hk hc a fin f) hd
theorem az{i j pos}:PE X (.Constant (.int i) j pos) (tC (.int i)):=λ_ _ _ H _ I h=>wpAny_Constant_int ⟨.int i,H,I.tok _,⟨_,rfl⟩,h⟩
theorem jT{b j pos}:PE X (.Constant (.bool b) j pos) (tC (.bl b)):=λ_ _ _ H _ I h=>Constant_bool ⟨.bl b,H,I,rfl,h⟩
theorem eY{j pos}:PE X (.Constant .none j pos) c8:=λ_ _ _ H _ I h=>Constant_none ⟨.non,H,I,rfl,h⟩
theorem bD{x j pos}:PE X (.Constant (.str x) j pos) (tC (.str x)):=λ_ _ _ H _ I h=>Calls.Constant_str ⟨.str x,H,I.tok _,⟨_,rfl⟩,h⟩
def Gl(X:Cx)(x:Str):Prop:=X.env.kindOf x=some .globalImplicit
theorem o9{E:Ap}{a:At}{s:AK}{σ:St}{H:Hp}{x:Str}{u:AJ}{b:Pos}{Q:Ap}(I:Inv X a σ H s)(hg:Gl X x)(hm:X.mg x=some u)(h:Q u s)
  (hd:(x == ("__debug__":Str))=false:=by decide):wpAny ς X.A (eval (.Name x b) X.env) Q E s:=
 Calls.Name_function_global I.ok.kind hg (Calls.loadGlobal_global (by rw[I.ok.glob];exact I.mod.glob.keeps I.bk) hm h) hd
theorem Qi{E:Ap}{a:At}{s:AK}{σ:St}{H:Hp}{x:Str}{u:AJ}{b:Pos}{Q:Ap}(I:Inv X a σ H s)(hg:Gl X x)(hm:X.mg x=none)(hv:bootBuiltins x=some u)(h:Q u s)
  (hn:x≠"__name__":=by decide) (hd:(x == ("__debug__":Str))=false:=by decide):wpAny ς X.A (eval (.Name x b) X.env) Q E s:=by
 obtain⟨c,h1,h2⟩:=I.mod.blt;exact Calls.Name_function_global I.ok.kind hg (Calls.loadGlobal_builtin (by rw[I.ok.glob];exact I.mod.glob.keeps I.bk) hm (by rw[I.ok.blt];exact h1.keeps I.bk) ((h2 x hn).trans hv) h) hd
theorem Zo1{x:Str}{v:V}{u:AJ}{a:Pos}(hg:Gl X x)(hm:X.mg x=some u)(r:RelV v u)(hd:(x == ("__debug__":Str))=false:=by decide):PE X (.Name x a) (tC v):=
 λ_ _ _ H _ I h=>o9 I hg hm ⟨v,H,I,r,h⟩ hd
theorem uH{x:Str}{v:V}{u:AJ}{a:Pos}(hg:Gl X x)(hm:X.mg x=none)(hv:bootBuiltins x=some u)(r:RelV v u)(hn:x≠"__name__":=by decide)(hd:(x == ("__debug__":Str))=false:=by decide):PE X (.Name x a) (tC v):=
 λ_ _ _ H _ I h=>Qi I hg hm hv ⟨v,H,I,r,h⟩ hn hd
variable {a b:AN}{ta tb:TE}{pos:Pos}
def PC(X:Cx)(f:CmpOp)(a b:AN)(t:TE):Prop:=
 ∀(c:At) (s:AK) (σ:St) (H:Hp) (Q:VK),Inv X c σ H s->t σ H Q->
  wpAny ς X.A (eval a X.env) (λv e=>wpAny ς X.A (eval b X.env) (λu d=>wpAny ς X.A (compareOp f v u) (EP X c σ Q) X.xe d) X.xe e) X.xe s
theorem Zl2(b:AN){a:CmpOp}(h:a≠.In)(h2:a≠.NotIn):behindInMarks a b=false:=by
 have c:(a == CmpOp.In)=false:=by cases a<;>first | rfl | exact absurd rfl h
 have d:(a == CmpOp.NotIn)=false:=by cases a<;>first | rfl | exact absurd rfl h2
 cases b<;>simp[behindInMarks,c,d]
def tB(t:TE):TT:=λσ H Q=>t σ H λx a=>∃c,x=.bl c/\Q c a
theorem Xw{f:CmpOp}{t:TE}(h:PC X f a b t)(h1:behindInMarks f b=false:=by first | exact Zl2 _ ε ε | rfl):PT X (.Compare a [f] [b] pos) (tB t):=by
 intro e s i H Q I g;refine wpAny_isTrue_Compare1 (gw (h e s i H _ I g) λv l h1=>gw h1 λu j h2=>gw h2 λc k qc=>?_) h1;obtain⟨x,H1,I1,r1,q1⟩:=qc;obtain⟨d,rfl,q⟩:=q1;cases r1;exact wpAny_truthy_bool ⟨H1,I1,q⟩
theorem fK{e:AN}{t:TE}(h:PE X e t)(g:∀a,isTrue e X.env a=(do let v <- a;standAt e.pos;holding [v] (truthy v)):=by intro _;rfl):PT X e (tB t):=by
 intro b s f H Q I c;refine isTrue_plain (gw (h b s f H _ I c) λv i qc=>?_) (g _);obtain⟨x,H1,I1,r1,q1⟩:=qc;obtain⟨d,rfl,q⟩:=q1;cases r1;exact wpAny_truthy_bool ⟨H1,I1,q⟩
variable {tA tB':TT}{rest:AG}
def Xb(t u:TT):TT:=λσ H Q=>t σ H λc a=>if c=true then u σ a Q else Q false a
def Iz(t u:TT):TT:=λσ H Q=>t σ H λc a=>if c=true then Q true a else u σ a Q
def sJ(t:TT):TT:=λσ H Q=>t σ H λc a=>Q (!c) a
theorem Dz(d:PT X a tA):PW X (.BoolOp .And [a] pos) tA:=by
 intro wh b s f H Q I h;refine isTrue_and (gw (d b s f H Q I h) λc g e=>?_);cases c with
 | true=>exact isTrue_and_nil e
 | false=>exact e
theorem jm(d:PT X a tA):PW X (.BoolOp .Or [a] pos) tA:=by
 intro wh b s f H Q I h;refine isTrue_or (gw (d b s f H Q I h) λc g e=>?_);cases c with
 | false=>exact isTrue_or_nil e
 | true=>exact e
theorem Oi(g:PT X a tA)(hb:PW X (.BoolOp .And (b::rest) pos) tB'):PW X (.BoolOp .And (a::b::rest) pos) (Xb tA tB'):=by
 intro wh d s e H Q I h;refine isTrue_and (gw (g d s e H _ I h) λc i qc=>?_);obtain⟨f,I1,q1⟩:=qc;cases c with
 | true=>exact hb wh d i e f Q I1 q1
 | false=>exact⟨f,I1,q1⟩
theorem jE(g:PT X a tA)(hb:PW X (.BoolOp .Or (b::rest) pos) tB'):PW X (.BoolOp .Or (a::b::rest) pos) (Iz tA tB'):=by
 intro wh d s e H Q I h;refine isTrue_or (gw (g d s e H _ I h) λc i qc=>?_);obtain⟨f,I1,q1⟩:=qc;cases c with
 | true=>exact⟨f,I1,q1⟩
 | false=>exact hb wh d i e f Q I1 q1
theorem jq(d:PT X a tA):PT X (.UnaryOp .Not a pos) (sJ tA):=by
 intro b s e H Q I h;exact isTrue_not (d b s e H (λc f=>Q (!c) f) I h)
def Z0(ta tb:TE):TE:=λσ H Q=>ta σ H λx a=>∃c,x=.bl c/\if c=true then tb σ a Q else Q (.bl false) a
def Zqy(ta tb:TE):TE:=λσ H Q=>ta σ H λx a=>∃c,x=.bl c/\if c=true then Q (.bl true) a else tb σ a Q
def Zff(ta:TE):TE:=λσ H Q=>ta σ H λx a=>∃c,x=.bl c/\Q (.bl (!c)) a
theorem Xy{op}{t:TE}(h:PE X a t):PE X (.BoolOp op [a] pos) t:=λb s σ H Q I c=>BoolOp_one (h b s σ H Q I c)
theorem Zdb(g:PE X a ta)(hb:PE X (.BoolOp .And (b::rest) pos) tb):PE X (.BoolOp .And (a::b::rest) pos) (Z0 ta tb):=by
 intro d s f H Q I h;refine BoolOp_and (gw (g d s f H _ I h) λv i qc=>?_);obtain⟨x,H1,I1,r1,e⟩:=qc;obtain⟨c,rfl,e⟩:=e;cases r1;refine wpAny_truthy_bool ?_;cases c with
 | true=>exact hb d i f H1 Q I1 e
 | false=>exact⟨.bl false,H1,I1,rfl,e⟩
theorem Zua(g:PE X a ta)(hb:PE X (.BoolOp .Or (b::rest) pos) tb):PE X (.BoolOp .Or (a::b::rest) pos) (Zqy ta tb):=by
 intro d s f H Q I h;refine BoolOp_or (gw (g d s f H _ I h) λv i qc=>?_);obtain⟨x,H1,I1,r1,e⟩:=qc;obtain⟨c,rfl,e⟩:=e;cases r1;refine wpAny_truthy_bool ?_;cases c with
 | false=>exact hb d i f H1 Q I1 e
 | true=>exact⟨.bl true,H1,I1,rfl,e⟩
theorem Zkb(e:PE X a ta):PE X (.UnaryOp .Not a pos) (Zff ta):=by
 intro b s f H Q I h;refine UnaryOp_ (gw (e b s f H _ I h) λv g qc=>?_);obtain⟨x,H1,I1,r1,d⟩:=qc;obtain⟨c,rfl,d⟩:=d;cases r1;exact not_of (wpAny_truthy_bool ⟨.bl (!c),H1,I1,rfl,d⟩)
def tIf(t:TT)(ta tb:TE):TE:=λσ H Q=>t σ H λc a=>if c=true then ta σ a Q else tb σ a Q
theorem Zaa{c:AN}(hc:PT X c tA)(j:PE X a ta)(hb:PE X b tb):PE X (.IfExp c a b pos) (tIf tA ta tb):=by
 intro e s f H Q I h;refine wpAny_IfExp (gw (hc e s f H _ I h) λd i qc=>?_);obtain⟨g,I1,q1⟩:=qc;cases d with
 | true=>exact j e i f g Q I1 q1
 | false=>exact hb e i f g Q I1 q1
end
def bU(K:aB)(H:Hp)(a:AI)(xs:List V):Prop:=
 Rd H a (.lst xs)\/
  ∃(o:Obj) (b:Array AJ) (n:Nat),K.lookup a=some o/\o.cls=.type "list"/\o.dict=none/\o.data=.seq b n/\b.size<=sizeLine/\Vals xs b.toList
def dB(K:aB)(H:Hp)(a:AI)(xs:List V):Prop:=
 Rd H a (.tup xs)\/
  ∃(o:Obj) (b:Array AJ) (n:Nat),K.lookup a=some o/\o.cls=.type "tuple"/\o.data=.seq b n/\b.size<=sizeLine/\Vals xs b.toList
def Zzb:AJ->Option V
 | .none=>some .non
 | .bool b=>some (.bl b)
 | .int i _=>some (.int i)
 | .str x _=>some (.str x)
 | .bytes b _=>some (.byt b)
 | .float b _=>some (.flt b)
 | .ref a=>↑a
 | .type n=>some (.ty n)
 | _=>none
theorem RelV.abs{x:V}{u:AJ}(r:RelV x u):Zzb u=some x:=by
 cases x with
 | non=>cases r;rfl
 | bl _=>cases r;rfl
 | int _=>obtain⟨t,rfl⟩:=r;rfl
 | str _=>obtain⟨t,rfl⟩:=r;rfl
 | byt _=>obtain⟨t,rfl⟩:=r;rfl
 | flt _=>obtain⟨t,rfl⟩:=r;rfl
 | ref _=>cases r;rfl
 | ty _=>cases r;rfl
theorem RelV.inj{x y:V}{u:AJ}(r:RelV x u)(q:RelV y u):x=y:=Option.some.inj (r.abs.symm.trans q.abs)
theorem Vals.inj{xs a:List V}{us:AC}(h:Vals xs us):Vals a us->xs=a:=by
 induction h generalizing a with
 | nil=>
  intro g;cases g;rfl
 | cons r t b=>
  intro g;cases g with
  | cons c d=>rw[r.inj c,b d]
section
variable {X:Cx}{pins:At}{σ:St}{H:Hp}{s:AK}{a:AI}{xs ys:List V}
theorem bU.of{K:aB}(h:H a=some (.lst xs)):bU K H a xs:=.inl (.inl h)
theorem dB.of{K:aB}(h:H a=some (.tup xs)):dB K H a xs:=.inl (.inl h)
theorem Inv.list(I:Inv X pins σ H s)(h:bU X.K H a xs):∃b:AC,Vals xs b/\PlainL s.heap a b.toArray/\xs.length<=sizeLine:=by
 rcases h with h | ⟨o,b,n,hk,hc,hd,hs,hz,r⟩
 ·obtain⟨z,b,n,r,e⟩:=h.ok I.hok;exact⟨b,r,⟨_,n,e,rfl,rfl,rfl⟩,z⟩
 ·refine⟨b.toList,r,⟨o,n,I.xH a o hk,hc,hd,by simpa using hs⟩,?_⟩;have e:=r.length;simp only[Array.length_toList]at e;omega
theorem Inv.tuple(I:Inv X pins σ H s)(h:dB X.K H a xs):∃b:AC,Vals xs b/\IsTup s.heap a b.toArray/\xs.length<=sizeLine:=by
 rcases h with h | ⟨o,b,n,hk,hc,hs,hz,r⟩
 ·obtain⟨z,b,r,p⟩:=h.ok I.hok;exact⟨b,r,p,z⟩
 ·refine⟨b.toList,r,⟨o,I.xH a o hk,hc,n,by simpa using hs⟩,?_⟩;have e:=r.length;simp only[Array.length_toList]at e;omega
theorem Inv.Zb3(I:Inv X pins σ H s)(h:bU X.K H a xs)(h':bU X.K H a ys):xs=ys:=by
 obtain⟨c,r,⟨o,n,e,_,_,d⟩,_⟩:=I.list h;obtain⟨b,i,⟨k,j,g,_,_,f⟩,_⟩:=I.list h';rw[e]at g;cases g;rw[d]at f
 injection f with d1 _
 have:c=b:=by simpa using congrArg Array.toList d1
 subst this;exact r.inj i
end
abbrev Cx.wish(X:Cx)(E:Ap):Cx:={ X with xe:=E }
abbrev Cx.nox(X:Cx):Cx:=X.wish λ_ _=>False
theorem Cx.Ok.wish{X:Cx}(ok:X.Ok)(E:Ap):(X.wish E).Ok:=
 ⟨ok.mod,ok.kind,ok.glob,ok.blt,ok.above,ok.inj,ok.has,ok.cab,ok.hd,ok.frames,ok.stk,ok.exf,ok.bs,ok.bsz,ok.Zat,ok.Zed,ok.uR,ok.frf⟩
theorem Cx.Ok.wA{X:Cx}{E:Ap}(ok:(X.wish E).Ok):X.Ok:=
 ⟨ok.mod,ok.kind,ok.glob,ok.blt,ok.above,ok.inj,ok.has,ok.cab,ok.hd,ok.frames,ok.stk,ok.exf,ok.bs,ok.bsz,ok.Zat,ok.Zed,ok.uR,ok.frf⟩
section
variable {X:Cx}{pins:At}{σ:St}{H:Hp}{s:AK}{E:Ap}
theorem Inv.wish(I:Inv X pins σ H s)(E:Ap):Inv (X.wish E) pins σ H s:=⟨I.ok.wish E,I.os,I.bare,I.base,I.loc,I.cell,I.free,I.qg,I.pin,I.hok,I.len⟩
theorem Inv.wA(I:Inv (X.wish E) pins σ H s):Inv X pins σ H s:=⟨I.ok.wA,I.os,I.bare,I.base,I.loc,I.cell,I.free,I.qg,I.pin,I.hok,I.len⟩
theorem SP.wA{D:Ends}{f:Flow}{s':AK}(h:SP (X.wish E) pins D f s'):SP X pins D f s':=by
 cases f with
 | next=>obtain⟨a,b,I,q⟩:=h;exact⟨a,b,I.wA,q⟩
 | brk=>obtain⟨a,b,I,q⟩:=h;exact⟨a,b,I.wA,q⟩
 | cont=>obtain⟨a,b,I,q⟩:=h;exact⟨a,b,I.wA,q⟩
 | ret u=>obtain⟨v,a,b,I,r,q⟩:=h;exact⟨v,a,b,I.wA,r,q⟩
theorem ZP.nox{st:List Stmt}{t:TS}(h:ZP X.nox st t):ZP X st t:=λpins s σ H D I a=>
 wpAny_mono (h pins s σ H D (I.wish _) a) (λ_ _ q=>q.wA) λ_ _ z=>False.elim z
end
section
variable {X:Cx}{st:Stmt}{rest:List Stmt}{t u:TS}{e:AN}{te:TE}{pos:Pos}
def bW:TS:=λD σ H=>D.nx σ H
def aM(t u:TS):TS:=λD σ H=>t { D with nx:=u D } σ H
theorem bB:ZP X [] bW:=λ_ _ σ H _ I h=>wpAny_execs_nil ⟨σ,H,I,h⟩
theorem ao(h1:PS X st t)(h2:ZP X rest u):ZP X (st::rest) (aM t u):=by
 intro a s g H D I h;refine wpAny_execs_cons (gw (h1 a s g H { D with nx:=u D } I h) λf e q=>?_);cases f with
 | next=>
  obtain⟨b,c,d,q⟩:=q;exact h2 a e b c D d q
 | ret v=>exact q
 | brk=>exact q
 | cont=>exact q
theorem aA(h1:PS X st t):ZP X [st] t:=by
 intro a s b H D I h;refine wpAny_execs_cons (gw (h1 a s b H D I h) λf c q=>?_);cases f with
 | next=>exact wpAny_execs_nil q
 | ret v=>exact q
 | brk=>exact q
 | cont=>exact q
theorem Inv.quiet{a:At}{σ:St}{H:Hp}{s:AK}(I:Inv X a σ H s):interactive X.env=false:=by simp[interactive,I.ok.kind]
def mj(te:TE):TS:=λD σ H=>te σ H λ_ a=>D.nx σ a
theorem jr(c:PE X e te)(hs:swapsWith e none pos.line X.env=pure false:=by rfl):PS X (.Expr e pos) (mj te):=by
 intro a s b H D I h;exact wpAny_Expr_any (gw (c a s b H _ I h) (by rintro v d ⟨x,H1,I1,r1,q1⟩;exact⟨b,H1,I1,q1⟩)) I.quiet hs
def bH(te:TE):TS:=λD σ H=>te σ H D.rt
theorem aN(c:PE X e te):PS X (.Return (some e) pos) (bH te):=by
 intro a s b H D I h;exact wpAny_Return_some (gw (c a s b H _ I h) (by rintro v d ⟨x,H1,I1,r1,q1⟩;exact⟨x,b,H1,I1,r1,q1⟩))
def cU(c:TT)(t u:TS):TS:=λD σ H=>c σ H λb a=>if b=true then t D σ a else u D σ a
theorem cj{c:AN}{a b:List Stmt}{tc:TT}(hc:PT X c tc)(j:ZP X a t)(hb:ZP X b u):PS X (.If c a b pos) (cU tc t u):=by
 intro e s f H D I h;refine wpAny_If (gw (hc e s f H _ I h) λd i qc=>?_);obtain⟨g,I1,q1⟩:=qc;cases d with
 | true=>exact j e i f g D I1 q1
 | false=>exact hb e i f g D I1 q1
end
abbrev TG:=V->St->Hp->(ν)->Prop
abbrev TGs:=List V->St->Hp->(ν)->Prop
def PG(X:Cx)(a:AN)(t:TG):Prop:=
 ∀(b:At) (s:AK) (σ:St) (H:Hp) (v:V) (u:AJ) (Q:ν),Inv X b σ H s->RelV v u->t v σ H Q->
  wpAny ς X.A (assign a X.env u) (λ_ s'=>∃ c H',Inv X b c H' s'/\Q c H') X.xe s
def PGs(X:Cx)(ts:AG)(t:TGs):Prop:=
 ∀(a:At) (s:AK) (σ:St) (H:Hp) (vs:List V) (us:AC) (Q:ν),Inv X a σ H s->Vals vs us->t vs σ H Q->
  wpAny ς X.A (assignInOrder ((assignEach ts X.env).map (·.2)) us) (λ_ s'=>∃ b H',Inv X a b H' s'/\Q b H') X.xe s
abbrev Zpr:=V->V->V->Hp->(Hp->Prop)->Prop
def Zw5(X:Cx)(t:Zpr):Prop:=
 ∀(a:At) (s:AK) (σ:St) (H:Hp) (o i v:V) (b c u:AJ) (Q:Hp->Prop),Inv X a σ H s->RelV o b->RelV i c->RelV v u->t o i v H Q->
  wpAny ς X.A (setItem b c u) (λ_ s'=>∃H',Inv X a σ H' s'/\Q H') X.xe s
abbrev TIp:=V->V->Hp->VK->Prop
def PIp(X:Cx)(b:Operator)(t:TIp):Prop:=
 ∀(a:At) (s:AK) (σ:St) (H:Hp) (x y:V) (v u:AJ) (Q:VK),Inv X a σ H s->RelV x v->RelV y u->t x y H Q->
  wpAny ς X.A (inplaceOp b v u) (EP X a σ Q) X.xe s
section
variable {X:Cx}{pos:Pos}
def aL(i:Nat):TG:=λv σ H Q=>Q (σ.set i eW) H
theorem cZ{i:Nat}{x:Str}(c:X.N.Nodup)(hi:X.N[i]? =some x)(hx:Loc X.env.scope x)(b:X.fn x=true\/X.env.scope.names.lookup x=some .local:=by first | exact .inl rfl | exact .inr rfl | assumption):PG X (.Name x pos) (aL i):=by
 intro a s e H v u Q I r h;exact wpAny_assign_Name (BV I c hi hx r (λf d=>⟨_,H,d,h⟩) b)
def Zik:TGs:=λvs σ H Q=>vs=[]/\Q σ H
def xN(t:TG)(u:TGs):TGs:=λvs σ H Q=>∃v r,vs=v::r/\t v σ H λa H'=>u r a H' Q
theorem DK:PGs X [] Zik:=by
 intro a s b H c us Q I r h;obtain⟨e,h⟩:=h;subst e;cases r;exact assignInOrder_nil ⟨b,H,I,h⟩
theorem jZ{e:AN}{b:AG}{t:TG}{u:TGs}(h1:PG X e t)(h2:PGs X b u)
  (hs:(assignEach (e::b) X.env).map (·.2)=assign e X.env::(assignEach b X.env).map (·.2):=by rfl):PGs X (e::b) (xN t u):=by
 intro a s g H k us Q I r h;obtain⟨v,j,i,h⟩:=h;subst i;cases r with
 | cons r f=>
  rw[hs];refine assignInOrder_cons (gw (h1 a s g H _ _ _ I r h) λ_ d qc=>?_);obtain⟨c,H1,I1,q1⟩:=qc;exact h2 a d c H1 _ _ Q I1 f q1
def Zij(K:aB)(n:Nat)(t:TGs):TG:=λv σ H Q=>∃a xs,v=.ref a/\dB K H a xs/\xs.length=n/\t xs σ H Q
theorem Oo{d:AG}{k:Nat}{t:TGs}{n:Nat}(hc:X.calm=true)(h:PGs X d t)
  (hn:(assignEach d X.env).length=n:=by rfl) (g:(assignEach d X.env).findIdx? (·.1)=none:=by rfl):PG X (.Tuple d k pos) (Zij X.K n t):=by
 intro c s j H v u Q I r f;obtain⟨a,q,w,hq,hl,f⟩:=f;subst w;cases r;obtain⟨x,i,m,hz⟩:=I.tuple hq;refine assign_Tuple_tuple (I.ok.hd hc) m (by simp[hn,<- hl,i.length]) g λl hx=>?_;have p:Inv X c j H { s with heap:=l }:=I.kept (t':=s.toks) λb o e=>hx b o (Nat.ne_of_lt (Heap.lt_size e)) e;exact h c _ j H q _ Q p (by simpa using i) f
def QJ(to d:TE)(t:Zpr):TG:=λv σ H Q=>to σ H λo b=>d σ b λi a=>t o i v a λc=>Q σ c
theorem uF{o i:AN}{to e:TE}{t:Zpr}(f:PE X o to)(hi:PE X i e)(hs:Zw5 X t)
  (k:∀v,assign (.Subscript o i pos) X.env v=(do
   let b <- holding [v] (eval o X.env)
   let c <- holding [v,b] (eval i X.env)
   standAt pos
   holding [v,b,c] (setItem b c v)
   release [v,b,c] []):=by intro _;rfl):PG X (.Subscript o i pos) (QJ to e t):=by
 intro a s d H v u Q I r h;rw[k];refine wpAny_bind (wpAny_holding (gw (f a s d H _ I h) λb j qc=>?_));obtain⟨x,H1,I1,r1,q1⟩:=qc;refine wpAny_bind (wpAny_holding (gw (hi a j d H1 _ I1 q1) λc g qc=>?_));obtain⟨y,H2,I2,r2,q2⟩:=qc;refine wpAny_bind (wpAny_standAt (wpAny_bind (wpAny_holding (gw (hs a g d H2 x y v b c u _ I2 r1 r2 r q2) λ_ m qc=>?_))));obtain⟨l,I3,q3⟩:=qc;exact wpAny_release ⟨d,l,I3,q3⟩
def bC(a:TE)(g:TG):TS:=λD σ H=>a σ H λx b=>g x σ b D.nx
theorem rQ{tg e:AN}{b:TE}{g:TG}(i:PE X e b)(hg:PG X tg g)(hs:swapsWithSole [tg] e pos.line X.env=pure false:=by rfl)(d:swappedStores [tg] e X.env=pure none:=by rfl)
  (h1:(assignEach [tg] X.env).map (·.2)=[assign tg X.env]:=by rfl):PS X (.Assign [tg] e pos) (bC b g):=by
 intro a s c H D I h;refine wpAny_Assign_stores (gw (i a s c H _ I h) λv f qc=>?_) hs d;obtain⟨x,H1,I1,r1,q1⟩:=qc;rw[h1];exact gw (hg a f c H1 x v _ I1 r1 q1) λ_ j q=>q
theorem Zd8{i:Nat}{x:Str}{e:AN}{c:TE}{a:Pos}(d:X.N.Nodup)(hi:X.N[i]? =some x)(hx:Loc X.env.scope x)(k:PE X e c)(hs:swapsWith e (some (.Name x a)) pos.line X.env=pure false:=by rfl)(g:X.fn x=true\/X.env.scope.names.lookup x=some .local:=by first | exact .inl rfl | exact .inr rfl | assumption):
  PS X (.Assign [.Name x a] e pos) (bC c (aL i)):=by
 intro b s j H D I h;refine wpAny_Assign_Name (gw (k b s j H _ I h) λv m qc=>?_) hs;obtain⟨y,H1,I1,r1,q1⟩:=qc;exact BV I1 d hi hx r1 (λl f=>⟨_,H1,f,q1⟩) g
def Zr0(i:Nat)(b:TE)(d:TIp):TS:=λD σ H=>∃x,σ[i]? =some (some x)/\b σ H λy c=>d x y c λz a=>D.nx (σ.set i (some z)) a
theorem Zrd{i:Nat}{x:Str}{e:AN}{o:TE}{n:Operator}{p:TIp}{g:Pos}(B:X.N.Nodup)(hi:X.N[i]? =some x)(hx:Loc X.env.scope x)(K:PE X e o)(t:PIp X n p)(F:X.fn x=true\/X.env.scope.names.lookup x=some .local:=by first | exact .inl rfl | exact .inr rfl | assumption):
  PS X (.AugAssign (.Name x g) n e pos) (Zr0 i o p):=by
 intro a s q H D I h;obtain⟨v,J,h⟩:=h;obtain⟨m,hn,hl⟩:=I.loc;have j:Vis X.env.scope x:=by rcases hx with k | k;exact .inl k;exact .inr (.inl k)
 obtain⟨u,r,l⟩:=hl i x v hi J j;refine wpAny_AugAssign_Name ?_;have go:wpAny ς X.A (eval e X.env) (λw f=>wpAny ς X.A (inplaceOp n u w) (λr d=>wpAny ς X.A (storeName X.env x r) (λ_=>SP X a D .next) X.xe d) X.xe f) X.xe s:=by
  refine gw (K a s q H _ I h) λw E qc=>?_;obtain⟨y,H1,I1,r1,q1⟩:=qc;refine gw (t a E q H1 v y u w _ I1 r r1 q1) λz L qc=>?_;obtain⟨O,H2,I2,r2,q2⟩:=qc;exact BV I2 B hi hx r2 (λM C=>⟨_,H2,C,q2⟩) F
 rcases l with ⟨hk,hm⟩ | ⟨hk,c,hc,b⟩
 ·exact wpAny_loadName_local I.ok.kind hk hn hm go
 ·rcases hk with hk | hk
  ·exact wpAny_loadName_cell I.ok.kind hk hc b go
  ·rcases hx with k | k
   ·have:X.env.scope.names.lookup x=some .free:=hk;rw[k]at this;cases this
   ·have:X.env.scope.names.lookup x=some .free:=hk;rw[k]at this;cases this
def ipI(f:Int->Int->Int):TIp:=λx y H Q=>∃i j,x=.int i/\y=.int j/\Q (.int (f i j)) H
theorem Zs6:PIp X .Add (ipI λi j=>i+j):=by
 intro a s f H x y v u Q I e c h;obtain⟨i,j,d,b,q⟩:=h;subst d;subst b;obtain⟨t,rfl⟩:=e;obtain⟨g,rfl⟩:=c;exact iadd_int ⟨.int _,H,I.tok _,⟨_,rfl⟩,q⟩
end
section
variable {X:Cx}{pos:Pos}
def W9(c:TT)(tb:TS):TS:=λD σ H=>∃W:Nat->ν,(∃m,W m σ H)/\∀m σ H,W m σ H->
 c σ H λb d=>if b=true then ∃N:ν,(∀ a H',N a H'->∃e,e<m/\W e a H')/\tb { D with nx:=N,ct:=N,bk:=D.nx } σ d else D.nx σ d
theorem Oj{c:AN}{g:List Stmt}{tc:TT}{tb:TS}(hp:PassesOwn ς X.A X.env X.xe)(hc:PT X c tc)(hb:ZP X g tb):PS X (.While c g [] pos) (W9 tc tb):=by
 intro a s E H D I h;obtain⟨W,⟨y,w0⟩,turn⟩:=h;refine wpAny_While (codeAny_whileLoop (λn B=>∃ i p,Inv X a i p B/\W n i p) ?_ y ⟨E,H,I,w0⟩);rintro n z ⟨e,t,C,x⟩;refine wpAny_passesOwn hp (gw (hc a z e t _ C (turn n e t x)) λb u qc=>?_);obtain⟨r,I2,l⟩:=qc;cases b with
 | true=>
  obtain⟨N,q,l⟩:=l;rw[if_pos rfl];refine wpAny_passesOwn hp (gw (hb a u e r _ I2 l) λf F k=>?_);cases f with
  | next=>
   obtain⟨d,j,m,n3⟩:=k;obtain⟨o,hm,w3⟩:=q d j n3;exact⟨o,hm,d,j,m,w3⟩
  | cont=>
   obtain⟨d,j,m,n3⟩:=k;obtain⟨o,hm,w3⟩:=q d j n3;exact⟨o,hm,d,j,m,w3⟩
  | brk=>exact k
  | ret v=>exact k
 | false=>
  rw[if_neg Bool.false_ne_true];exact wpAny_execs_nil ⟨e,r,I2,l⟩
end
structure It where
 go:Nat->Hp->Prop
 yld:Nat->Hp->V->Hp->Prop
 stop:Nat->Hp->Prop
def pF(X:Cx)(a:At)(H:Hp)(b:AI):Prop:=
 H b=none/\b≠X.env.locals/\b∉X.fs/\(b∈X.ex\/X.s₀.heap.objs.size<=b)/\(∀x c,X.env.cells.lookup x=some c->c≠b)/\∀p∈X.pn++a,p.1≠b
theorem Inv.Zeb{X:Cx}{a:At}{σ:St}{H H':Hp}{s:AK}{b:AI}(I:Inv X a σ H s)(hb:s.heap.objs.size<=b)(hn:H' b=none):pF X a H' b:=by
 refine⟨hn,Nat.ne_of_gt (Nat.lt_of_lt_of_le I.lt hb),I.Zwi hb,.inr (Nat.le_trans I.sz hb),λx c e z=>?_,λp hp z=>?_⟩
 ·obtain⟨v,q⟩:=I.cell x c e;exact absurd (Nat.lt_of_lt_of_le q.lt (by rw[z];exact hb)) (Nat.lt_irrefl _)
 ·exact absurd (Nat.lt_of_lt_of_le (Heap.lt_size (I.pin p hp).1) (by rw[z];exact hb)) (Nat.lt_irrefl _)
structure Turn(P:AM)(w:AO)(K:aB)(tg:AN)(J:It)(fp:AF)(it:AI)(tn:Nat->Heap->Prop):Prop where
  mem:it∈fp
  obj:∀i h,tn i h->∀b∈fp,∃o,h.get? b=some o/\∀v,o.data≠.cell v
  keep:∀i h h',tn i h->(∀b∈fp,∀o,h.get? b=some o->h'.get? b=some o)->tn i h'
  item:∀(X:Cx),X.prog=P->X.w=w->X.K=K->X.calm=true->∀(i:Nat) (pins:At) (s:AK) (σ:St) (H:Hp) (E:Ap),Inv X pins σ H s->(∀b∈fp,pF X pins H b)->tn i s.heap->J.go i H->
    wpAny (model P w) X.A (pyNext (.ref it)) (λr s1=>∃u,r=some u/\
      wpAny (model P w) X.A (letOwnedTupleGo tg (.ref it) u) (λ_ s2=>∃x H',Inv X pins σ H' s2/\RelV x u/\J.yld i H x H'/\tn de s2.heap/\∀b∈fp,H' b=none) E s1) E s
  done:∀(X:Cx),X.prog=P->X.w=w->X.K=K->X.calm=true->∀(i:Nat) (pins:At) (s:AK) (σ:St) (H:Hp) (E:Ap),Inv X pins σ H s->(∀b∈fp,pF X pins H b)->tn i s.heap->J.stop i H->
    wpAny (model P w) X.A (pyNext (.ref it)) (λr s1=>r=none/\Inv X pins σ H s1) E s
  self:∀(A:Around) (i:Nat) (s:AK) (Q:Ap) (E:Ap),tn i s.heap->Q (.ref it) s->wpAny (model P w) A (pyIter (.ref it)) Q E s
abbrev TI:=St->Hp->(It->Hp->Prop)->Prop
def PIE(X:Cx)(a:At)(σ:St)(tg:AN)(R:It->Hp->Prop)(c:AJ)(e:AK):Prop:=
 ∃(d:AI) (f:AF) (tn:Nat->Heap->Prop) (J:It) (H':Hp),c=.ref d/\Inv X a σ H' e/\Turn X.prog X.w X.K tg J f d tn/\tn 0 e.heap/\(∀b∈f,pF X a H' b)/\R J H'
def PI(X:Cx)(tg iter:AN)(b:TI):Prop:=
 ∀(a:At) (s:AK) (σ:St) (H:Hp) (R:It->Hp->Prop),Inv X a σ H s->b σ H R->
  wpAny ς X.A (eval iter X.env) (λv c=>wpAny ς X.A (pyIter v) (PIE X a σ tg R) X.xe c) X.xe s
theorem Zm5{M:Model}{A:Around}{E:Ap}{s:AK}{tg:AN}{b:AI}{u:AJ}{o:Obj}{n:String}{vs:Array AJ}{Q:Unit->AK->Prop}(c:s.heap.get? b=some o)(hc:o.cls=.type n)(hd:o.data=.fields vs)
    (hn:["enumerate","zip","dict_itemiterator","dict_reverseitemiterator","odict_iterator","itertools.zip_longest","itertools.pairwise"].contains n=false) (a:Q () s):wpAny M A (letOwnedTupleGo tg (.ref b) u) Q E s:=by
  unfold letOwnedTupleGo;cases tg<;>first
    | exact wpAny_pure a
    | (cases u<;>first
        | exact wpAny_pure a
        | (refine wpAny_bind (wpAny_load c ?_)
           rw[hc,hd];show wpAny M A (if (["enumerate","zip","dict_itemiterator","dict_reverseitemiterator","odict_iterator","itertools.zip_longest","itertools.pairwise"].contains n && vs[0]? == some (rawInt _))=true then _ else _) Q E s;rw[if_neg (by intro h;rw[hn,Bool.false_and]at h;cases h)];exact wpAny_pure a))
def Itl(K:aB)(a:AI):It:=
 ⟨λi H=>∃xs x,bU K H a xs/\xs[i]? =some x,λi H x H'=>H'=H/\∀xs,bU K H a xs->xs[i]? =some x,λi H=>∃xs,bU K H a xs/\xs.length<=i⟩
def Itr(lo:Int)(n:Nat):It:=⟨λi _=>i<n,λi H x H'=>H'=H/\x=.int (lo+i),λi _=>n<=i⟩
theorem Zh0{P:AM}{w:AO}{K:aB}{tg:AN}(a g:AI):Turn P w K tg (Itl K a) [g] g (λi h=>h.IsListIter g a i) where
  mem:=ζ
  obj:=λi h st b hb=>by
    have e:b=g:=by simpa using hb
    subst e;obtain⟨o,e,c,d⟩:=st;exact⟨o,e,λv z=>by rw[d]at z;cases z⟩
  keep:=λi h l st k=>st.at λo e=>k g ζ o e
  item:=by
    intro X D r B hc i f s J H E I m st hg;subst D r B;obtain⟨O,x,hq,hx⟩:=hg;obtain⟨C,y,p,hz⟩:=I.list hq;obtain⟨u,hu,N⟩:=y.get hx;obtain⟨t,n,L,A,q,F⟩:=m g ζ;refine wpAny_pyNext_list_item st p.isList (x:=u) (by simpa using hu) λl j sb=>?_;have M:Inv X f J H { s with heap:=l }:=I.turned (t':=s.toks) (λb o hb e=>(sb.2 b hb).trans e) t n A q F;obtain⟨o,e,c,d⟩:=id j;exact⟨u,rfl,Zm5 (s:={ s with heap:=l }) e c d ε ⟨x,H,M,N,⟨rfl,λR hy=>by rw[I.Zb3 hy hq];exact hx⟩,j,λb hb=>(m b hb).1⟩⟩
  done:=by
    intro X D r B hc i f s J H E I m st hg;subst D r B;obtain⟨O,hq,hx⟩:=hg;obtain⟨C,y,p,hz⟩:=I.list hq;obtain⟨t,n,L,A,q,F⟩:=m g ζ;have hl:=y.length;exact wpAny_pyNext_list_end (I.ok.hd hc) st p.isList (by simp;omega) λl Q=>⟨rfl,I.turned (t':=s.toks) (λb o hb e=>Q b o hb e) t n A q F⟩
  self:=λ_ _ _ _ _ st h=>wpAny_pyIter_listiter st h
theorem Zcj{P:AM}{w:AO}{K:aB}{tg:AN}(a:AI)(lo:Int)(n:Nat):Turn P w K tg (Itr lo n) [a] a (λi h=>IsRangeIter h a (lo+(i:Nat) * 1) ((n:Int) - (i:Nat)) 1) where
  mem:=ζ
  obj:=λi h st b hb=>by
    have e:b=a:=by simpa using hb
    subst e;exact⟨_,st,λv z=>by
      have C:Data.fields _=Data.cell v:=z;cases C⟩
  keep:=λi h f st k=>k a ζ _ st
  item:=by
    intro X u m r hc i c s y H E I g st hg;subst u m r;obtain⟨p,j,A,q,l,x⟩:=g a ζ;have W:=Walks.range (prog:=X.prog) (w:=X.w) (I.ok.hd hc) a lo 1 n;refine W.item i s _ _ hg st λv f tk hv d kk=>?_;obtain⟨t,rfl⟩:=hv;have B:Inv X c y H { s with heap:=f,toks:=tk }:=I.turned (λb o hb e=>kk b o (by simpa using hb) e) p j q l x;refine⟨_,rfl,Zm5 (s:={ s with heap:=f,toks:=tk }) (n:="range_iterator") d rfl rfl ε ⟨.int (lo+i),H,B,⟨t,?_⟩,⟨rfl,rfl⟩,d,λb hb=>(g b hb).1⟩⟩;rw[Int.mul_one]
  done:=by
    intro X u m r hc i c s y H E I g st hg;subst u m r;obtain⟨p,j,A,q,l,x⟩:=g a ζ;exact wpAny_pyNext_range_end (I.ok.hd hc) st (by have:n<=i:=hg;omega) λf D=>⟨rfl,I.turned (t':=s.toks) (λb o hb e=>D b o hb e) p j q l x⟩
  self:=λ_ _ _ _ _ st h=>wpAny_pyIter_rangeiter st h
section
variable {X:Cx}{tg:AN}
def jz(K:aB)(tl:TE):TI:=λσ H R=>tl σ H λx b=>∃a,x=.ref a/\(∃xs,bU K b a xs)/\R (Itl K a) b
theorem eU{l:AN}{tl:TE}(hl:PE X l tl):PI X tg l (jz X.K tl):=by
 intro c s f H R I h;refine gw (hl c s f H _ I h) λv d qc=>?_;obtain⟨x,H1,I1,r1,q1⟩:=qc;obtain⟨a,e,⟨j,hq⟩,q⟩:=q1;subst e;cases r1;obtain⟨g,i,p,hz⟩:=I1.list hq;refine wpAny_pyIter_list p.isList ?_;refine⟨d.heap.objs.size,[d.heap.objs.size],_,_,H1,rfl,I1.kept (t':=d.toks) λb o e=>Heap.get?_push_of_some _ e,Zh0 a _,⟨_,Heap.get?_push_size _ rfl,rfl,rfl⟩,λb hb=>?_,q⟩;have e:b=d.heap.objs.size:=by simpa using hb
 subst e;exact I1.Zeb Δ (I1.hok.fresh Δ)
theorem Zjy{a:At}{σ:St}{H:Hp}{s:AK}{R:It->Hp->Prop}{E:Ap}{lo hi:Int}{t u v:Tok}{tk:Nat}(I:Inv X a σ H s)(h1:-(2 ^ 62)<=lo)(h2:lo<2 ^ 62)(g:-(2 ^ 62)<=hi)(h4:hi<2 ^ 62)
  (q:R (Itr lo (hi - lo).toNat) H):wpAny ς X.A (pyIter (.ref s.heap.objs.size)) (PIE X a σ tg R) E { s with heap:=s.heap.push { cls:=.type "range",data:=.fields #[.int lo t,.int hi u,.int 1 v] },toks:=tk }:=by
 refine wpAny_pyIter_range (IsRange.new ..) (small_one h1 h2 g h4) ?_;have c:Inv X a σ H { s with heap:=s.heap.push { cls:=.type "range",data:=.fields #[.int lo t,.int hi u,.int 1 v] },toks:=tk }:=I.kept λb o e=>Heap.get?_push_of_some _ e;refine⟨(s.heap.push { cls:=.type "range",data:=.fields #[.int lo t,.int hi u,.int 1 v] }).objs.size,[(s.heap.push { cls:=.type "range",data:=.fields #[.int lo t,.int hi u,.int 1 v] }).objs.size],_,_,H,rfl,
  c.kept (t':=tk) λb o e=>Heap.get?_push_of_some _ e,Zcj _ lo (hi - lo).toNat,?_,λb hb=>?_,q⟩
 ·have f:lo+((0:Nat):Int) * 1=lo:=ζ
  have d:(((hi - lo).toNat:Nat):Int) - ((0:Nat):Int)=Builtin.Range.rangeSize lo hi 1:=by rw[rangeSize_one];split<;>omega
  show IsRangeIter _ _ (lo+((0:Nat):Int) * 1) ((((hi - lo).toNat:Nat):Int) - ((0:Nat):Int)) 1;rw[f,d];exact Heap.get?_push_size _ rfl
 ·have e:b=(s.heap.push { cls:=.type "range",data:=.fields #[.int lo t,.int hi u,.int 1 v] }).objs.size:=by simpa using hb
  subst e;exact c.Zeb Δ (c.hok.fresh Δ)
def xJ(a:TA):TI:=λσ H R=>a σ H λvs b=>∃j:Int,vs=[.int j]/\-(2 ^ 62)<=j/\j<2 ^ 62/\R (Itr 0 j.toNat) b
theorem jM{a:AN}{f:TA}{p b:Pos}(hg:Gl X "range")(hm:X.mg "range"=none)(i:PA X [a] f)(hs:starEach [a] X.env=[(false,eval a X.env)]:=by rfl):PI X tg (.Call (.Name "range" p) [a] [] b) (xJ f):=by
 intro c s k H R I h;refine Call_ (Qi I hg hm boot_range (PyProof.Rows.callWith_type1 (gw (i b c s k H _ I h) λus m qc=>?_) hs rfl));obtain⟨n,H1,I1,r1,d⟩:=qc;obtain⟨j,e,d,l,q⟩:=d;subst e;cases r1 with
 | cons r g=>
  cases g;obtain⟨t,rfl⟩:=r;exact call_range_1 (Zjy I1 δ δ d l (by simpa using q))
def rG(d:TI)(g:TG)(tb:TS):TS:=λD σ H=>d σ H λJ f=>∃W:Nat->Nat->ν,(∃m,W 0 m σ f)/\∀i m σ H,W i m σ H->
 (J.stop i H/\D.nx σ H)\/(J.go i H/\∃N:ν,(∀ a H',N a H'->∃c,c<m/\W de c a H')/\∀x H',J.yld i H x H'->g x σ H' λb e=>tb { D with nx:=N,ct:=N,bk:=D.nx } b e)
def Ar(a:AF)(h:Heap):At:=a.filterMap λb=>(h.get? b).map λo=>(b,o)
theorem p7{a:AF}{h:Heap}{b:AI}{o:Obj}(hb:b∈a)(e:h.get? b=some o):(b,o)∈Ar a h:=List.mem_filterMap.mpr ⟨b,hb,by rw[e];rfl⟩
theorem VM{a:AF}{h:Heap}{p:AI×Obj}(hp:p∈Ar a h):p.1∈a/\h.get? p.1=some p.2:=by
 obtain⟨b,hb,e⟩:=List.mem_filterMap.mp hp;cases q:h.get? b with
 | none=>rw[q]at e;cases e
 | some o=>
  rw[q]at e;have c:(b,o)=p:=Option.some.inj e;subst c;exact⟨hb,q⟩
theorem Inv.pinned{a:At}{σ:St}{H:Hp}{s:AK}{c:AF}(I:Inv X a σ H s)(k:∀b∈c,pF X a H b)(g:∀b∈c,∃o,s.heap.get? b=some o/\∀v,o.data≠.cell v):Inv X (a++Ar c s.heap) σ H s:=
 I.yz λp hp=>(List.mem_append.mp hp).elim (λz=>I.pin p (List.mem_append_right _ z)) λz=>by
  obtain⟨hb,e⟩:=VM z;obtain⟨i,h,j,_⟩:=k p.1 hb;obtain⟨o,f,d⟩:=g p.1 hb;rw[e]at f;cases f;exact⟨e,i,h,j,d⟩
theorem Inv.BK{a pl:At}{σ:St}{H:Hp}{s:AK}(I:Inv X (a++pl) σ H s):Inv X a σ H s:=I.yz λp hp=>I.pin p (List.mem_append_right _ (List.mem_append_left _ hp))
theorem iQ{iter:AN}{z:List Stmt}{V:TI}{g:TG}{tb:TS}{L:Pos}(hp:PassesOwn ς X.A X.env X.xe)(hc:X.calm=true)(hi:PI X tg iter V)(hg:PG X tg g)(hb:ZP X z tb)
  (hs:∀x,foldedSetIterable iter X.env x=pure x:=by intro _;rfl):PS X (.For tg iter z [] L) (rG V g tb):=by
 intro c s Z H D I h;refine wpAny_For (gw (hi c s Z H _ I h) λv s1 h1=>gw h1 λitv s2 h2=>?_) hs;obtain⟨it,E,tn,J,H2,e,I2,T,P,Y,W,⟨m0,w0⟩,turn⟩:=h2;subst e;have p:∀{t:Hp},(∀b∈E,t b=none)->∀b∈E,pF X c t b:=λhn b hb=>⟨hn b hb,(Y b hb).2⟩;refine codeAny_forLoop_any (λn R=>∃i j t,Inv X c j t R/\tn i R.heap/\(∀b∈E,t b=none)/\W i n j t) ?_ m0 ⟨0,Z,H2,I2,P,λb hb=>(Y b hb).1,w0⟩;rintro n S ⟨i,q,F,Q,B,C,w3⟩;rcases turn i n q F w3 with ⟨stop,qn⟩ | ⟨go,N,hN,step⟩
 ·refine wpAny_passesOwn hp (gw (T.done X rfl rfl rfl hc i c S q F X.xe Q (p C) B stop) λr s4 qc=>?_);obtain⟨hr,I4⟩:=qc;subst hr;exact wpAny_execs_nil ⟨q,F,I4,qn⟩
 ·refine wpAny_passesOwn hp (gw (T.item X rfl rfl rfl hc i c S q F X.xe Q (p C) B go) λr s4 qc=>?_);obtain⟨u,hr,h4⟩:=qc;subst hr;refine wpAny_passesOwn hp (gw h4 λ_ U qc=>?_);obtain⟨x,H5,I5,r5,y5,st5,fr5⟩:=qc;have K:=I5.pinned (p fr5) (T.obj _ _ st5);refine wpAny_passesOwn hp (gw (hg _ U q H5 x u _ K r5 (step x H5 y5)) λ_ s6 qc=>?_);obtain⟨O,H6,I6,q6⟩:=qc;refine wpAny_passesOwn hp (gw (hb _ s6 O H6 _ I6 q6) λf M y=>?_);have again:∀{a:St}{l:Hp},Inv X (c++Ar E U.heap) a l M->N a l->∃m,m<n/\∃i j t,Inv X c j t M/\tn i M.heap/\(∀b∈E,t b=none)/\W i m j t:=λ{a l} k n7=>by
   obtain⟨m',hm,w7⟩:=hN a l n7;refine⟨m',hm,i+1,a,l,k.BK,T.keep _ _ _ st5 λb hb o e=>(k.pin (b,o) dn).1,λb hb=>?_,w7⟩;obtain⟨o,e,d⟩:=T.obj _ _ st5 b hb;exact(k.pin (b,o) dn).2.1
  cases f with
  | next=>obtain⟨a,l,k,n7⟩:=y;exact again k n7
  | cont=>obtain⟨a,l,k,n7⟩:=y;exact again k n7
  | brk=>obtain⟨a,l,k,y⟩:=y;exact⟨a,l,k.BK,y⟩
  | ret v=>obtain⟨x7,a,l,k,r7,y⟩:=y;exact⟨x7,a,l,k.BK,r7,y⟩
end
theorem Zm9{K:aB}{a:AI}{xs:List V}{g:TG}{tb:TS}{D:Ends}{σ:St}{H:Hp}(Pv:Nat->ν)(k:Pv 0 σ H)(hl:∀i σ H,i<=xs.length->Pv i σ H->bU K H a xs)
  (hs:∀i x σ H,xs[i]? =some x->Pv i σ H->g x σ H λc f=>tb { D with nx:=Pv de,ct:=Pv de,bk:=D.nx } c f) (hd:∀ σ H,Pv xs.length σ H->D.nx σ H):
  ∃W:Nat->Nat->ν,(∃m,W 0 m σ H)/\∀i m σ H,W i m σ H->
   ((Itl K a).stop i H/\D.nx σ H)\/((Itl K a).go i H/\∃N:ν,(∀ b H',N b H'->∃h,h<m/\W de h b H')/\∀x H',(Itl K a).yld i H x H'->g x σ H' λc f=>tb { D with nx:=N,ct:=N,bk:=D.nx } c f):=by
 refine⟨λi m σ H=>m=xs.length - i/\i<=xs.length/\Pv i σ H,⟨xs.length,ζ,Nat.zero_le _,k⟩,?_⟩;rintro i m σ H ⟨rfl,hi,p⟩;have q:=hl i σ H hi p
 by_cases d:i<xs.length
 ·refine .inr ⟨⟨xs,xs[i],q,by simp[d]⟩,Pv de,λb H' j=>⟨xs.length - de,δ,rfl,d,j⟩,λx H' y=>?_⟩;obtain⟨e,y⟩:=y;subst e;exact hs i x σ _ (y xs q) p
 ·have e:i=xs.length:=δ
  subst e;exact .inl ⟨⟨xs,q,Nat.le_refl _⟩,hd σ H p⟩
theorem Zil{lo:Int}{n:Nat}{g:TG}{tb:TS}{D:Ends}{σ:St}{H:Hp}(Pv:Nat->ν)(j:Pv 0 σ H)
  (hs:∀i σ H,i<n->Pv i σ H->g (.int (lo+i)) σ H λc d=>tb { D with nx:=Pv de,ct:=Pv de,bk:=D.nx } c d) (hd:∀ σ H,Pv n σ H->D.nx σ H):
  ∃W:Nat->Nat->ν,(∃m,W 0 m σ H)/\∀i m σ H,W i m σ H->
   ((Itr lo n).stop i H/\D.nx σ H)\/((Itr lo n).go i H/\∃N:ν,(∀ b H',N b H'->∃f,f<m/\W de f b H')/\∀x H',(Itr lo n).yld i H x H'->g x σ H' λc d=>tb { D with nx:=N,ct:=N,bk:=D.nx } c d):=by
 refine⟨λi m σ H=>m=n - i/\i<=n/\Pv i σ H,⟨n,ζ,Nat.zero_le _,j⟩,?_⟩;rintro i m σ H ⟨rfl,hi,p⟩
 by_cases a:i<n
 ·refine .inr ⟨a,Pv de,λb H' h=>⟨n - de,δ,rfl,a,h⟩,λx H' y=>?_⟩;obtain⟨e,y⟩:=y;subst e y;exact hs i σ _ a p
 ·have e:i=n:=δ
  subst e;exact .inl ⟨Nat.le_refl _,hd σ H p⟩
abbrev R2:=V->V->Hp->VK->Prop
def uz(X:Cx)(f:AJ->AJ->Sem AJ)(r:R2):Prop:=
 ∀(a:At) (s:AK) (σ:St) (H:Hp) (x y:V) (v u:AJ) (Q:VK),Inv X a σ H s->RelV x v->RelV y u->r x y H Q->
  wpAny ς X.A (f v u) (EP X a σ Q) X.xe s
def UnR(X:Cx)(f:AJ->Sem AJ)(r:V->Hp->VK->Prop):Prop:=
 ∀(a:At) (s:AK) (σ:St) (H:Hp) (x:V) (v:AJ) (Q:VK),Inv X a σ H s->RelV x v->r x H Q->
  wpAny ς X.A (f v) (EP X a σ Q) X.xe s
def yq(X:Cx)(f:AJ)(r:List V->Hp->VK->Prop):Prop:=
 ∀(a:At) (s:AK) (σ:St) (H:Hp) (xs:List V) (us:AC) (Q:VK),Inv X a σ H s->Vals xs us->r xs H Q->
  wpAny ς X.A (call f us) (EP X a σ Q) X.xe s
def Zzc(X:Cx)(r:V->Hp->(Bool->Hp->Prop)->Prop):Prop:=
 ∀(a:At) (s:AK) (σ:St) (H:Hp) (x:V) (v:AJ) (Q:Bool->Hp->Prop),Inv X a σ H s->RelV x v->r x H Q->
  wpAny ς X.A (truthy v) (TP X a σ Q) X.xe s
def bx(r:R2)(c tb:TE):TE:=λσ H Q=>c σ H λx b=>tb σ b λy a=>r x y a Q
def tUn(r:V->Hp->VK->Prop)(b:TE):TE:=λσ H Q=>b σ H λx a=>r x a Q
def rI(C:Int->Int->Prop)(g:Int->Int->V):R2:=λx y H Q=>∃i j,x=.int i/\y=.int j/\C i j/\Q (g i j) H
def jC(g:Int->Int->V):R2:=λx y H Q=>∃i j,x=.int i/\y=.int j/\Q (g i j) H
def rU(g:Int->V):V->Hp->VK->Prop:=λx H Q=>∃i,x=.int i/\Q (g i) H
section
variable {X:Cx}{a b c:AN}{ta tb tc:TE}{pos:Pos}
theorem Ztg(l:PE X a ta)(hb:PE X b tb){c:At}{s:AK}{σ:St}{H:Hp}{R:V->V->Hp->Prop}(I:Inv X c σ H s)
  (h:ta σ H λx j=>tb σ j λy d=>R x y d) {Q:Ap}{f:AJ->AJ->Sem AJ}
  (m:∀v u i x y d,Inv X c σ d i->RelV x v->RelV y u->R x y d->wpAny ς X.A (f v u) Q X.xe i):
  wpAny ς X.A (eval a X.env) (λv g=>wpAny ς X.A (eval b X.env) (λu e=>wpAny ς X.A (f v u) Q X.xe e) X.xe g) X.xe s:=by
 refine gw (l c s σ H _ I h) λv k qc=>?_;obtain⟨x,j,I1,r1,q1⟩:=qc;refine gw (hb c k σ j _ I1 q1) λu i qc=>?_;obtain⟨y,d,I2,r2,q2⟩:=qc;exact m v u i x y d I2 r1 r2 q2
theorem aX{d:Operator}{r:R2}(e:uz X (binaryOp d) r)(k:PE X a ta)(hb:PE X b tb):PE X (.BinOp a d b pos) (bx r ta tb):=by
 intro c s l H Q I h;exact wpAny_BinOp (Ztg k hb I h λv u f x y g j m i q=>e c f l g x y v u Q j m i q)
theorem Zq4{d:UnaryOp}{r:V->Hp->VK->Prop}(e:UnR X (unaryOp d) r)(f:PE X a ta):PE X (.UnaryOp d a pos) (tUn r ta):=by
 intro b s c H Q I h;exact UnaryOp_ (gw (f b s c H _ I h) (by rintro v g ⟨x,H1,I1,r1,q1⟩;exact e b g c H1 x v Q I1 r1 q1))
theorem opI{f:AJ->AJ->Sem AJ}{C:Int->Int->Prop}{g:Int->Int->Int}
  (rule:∀(i j:Int) (t u:Tok) (s:AK) (Q:Ap) (E:Ap),C i j->Q (.int (g i j) s.toks) { s with toks:=s.toks+1 }->wpAny ς X.A (f (.int i t) (.int j u)) Q E s):
  uz X f (rI C λi j=>.int (g i j)):=by
 intro a s e H x y v u Q I d b h;obtain⟨i,j,rfl,rfl,hc,q⟩:=h;obtain⟨t,rfl⟩:=d;obtain⟨c,rfl⟩:=b;exact rule i j t c s _ _ hc ⟨.int (g i j),H,I.tok _,⟨_,rfl⟩,q⟩
theorem Zo7{f:AJ->AJ->Sem AJ}{g:Int->Int->Int}
  (rule:∀(i j:Int) (t u:Tok) (s:AK) (Q:Ap) (E:Ap),Q (.int (g i j) s.toks) { s with toks:=s.toks+1 }->wpAny ς X.A (f (.int i t) (.int j u)) Q E s):
  uz X f (jC λi j=>.int (g i j)):=by
 intro a s e H x y v u Q I d b h;obtain⟨i,j,rfl,rfl,q⟩:=h;obtain⟨t,rfl⟩:=d;obtain⟨c,rfl⟩:=b;exact rule i j t c s _ _ ⟨.int (g i j),H,I.tok _,⟨_,rfl⟩,q⟩
theorem Zo8{f:AJ->AJ->Sem AJ}{g:Int->Int->Bool}
  (rule:∀(i j:Int) (t u:Tok) (s:AK) (Q:Ap) (E:Ap),Q (.bool (g i j)) s->wpAny ς X.A (f (.int i t) (.int j u)) Q E s):
  uz X f (jC λi j=>.bl (g i j)):=by
 intro a s e H x y v u Q I d b h;obtain⟨i,j,rfl,rfl,q⟩:=h;obtain⟨t,rfl⟩:=d;obtain⟨c,rfl⟩:=b;exact rule i j t c s _ _ ⟨.bl (g i j),H,I,rfl,q⟩
def Ir(i j:Int):Prop:=0<j/\j<1073741824
def ZM(i j:Int):Prop:=0<=j/\j<=1000000/\i.natAbs<2 ^ 64
def Mi(i j:Int):Prop:=(-(2 ^ 64)<i/\i<2 ^ 64)\/(-(2 ^ 64)<j/\j<2 ^ 64)
theorem Mi.ok{i j:Int}(h:Mi i j):IntMulOk i j:=by
 rcases h with ⟨h1,h2⟩ | ⟨h1,h2⟩
 ·exact .of_left (intBits_le_64 h1 h2)
 ·exact .of_right (intBits_le_64 h1 h2)
theorem Zci(k:Nat):(0:Int)<=2 ^ k:=by
 rw[two_pow_cast];exact Int.natCast_nonneg _
theorem eZ:uz X (binaryOp .Add) Θ:=Zo7 λ_ _ _ _ _ _ _ q=>add_int q
theorem rR:uz X (binaryOp .Sub) cq:=Zo7 λ_ _ _ _ _ _ _ q=>sub_int q
theorem Aw:uz X (binaryOp .Mult) dv:=opI λ_ _ _ _ _ _ _ hc q=>mul_int q hc.ok
theorem lU:uz X (binaryOp .FloorDiv) a7:=opI λi j _ _ _ _ _ hc q=>by
 have h1:(0:Int)<j:=hc.1;have h2:j<1073741824:=hc.2;exact floordiv_int δ (by rw[Int.fdiv_eq_ediv_of_nonneg i δ];exact q) (.inl (PyProof.noPylong_small δ))
theorem eE:uz X (binaryOp .Mod) ρ:=opI λi j _ _ _ _ _ hc q=>by
 have h1:(0:Int)<j:=hc;exact mod_int' δ (by rw[Int.fmod_eq_emod_of_nonneg i δ];exact q)
theorem XC:uz X (binaryOp .Pow) fg:=opI λ_ _ _ _ _ _ _ hc q=>pow_int_small hc.1 hc.2.1 hc.2.2 q
theorem Zko:uz X (binaryOp .LShift) (rI ZM λi j=>.int (i * 2 ^ j.toNat)):=opI λ_ _ _ _ _ _ _ hc q=>lshift_int_small hc.1 hc.2.1 hc.2.2 q
theorem Zdf:uz X (binaryOp .RShift) ep:=opI λi j _ _ _ _ _ hc q=>
 rshift_int hc (by rw[Int.fdiv_eq_ediv_of_nonneg i (Zci _)];exact q)
theorem OD:uz X (binaryOp .BitAnd) dy:=Zo7 λ_ _ _ _ _ _ _ q=>and_int q
theorem Zud:uz X (binaryOp .BitOr) (jC λi j=>.int (Builtin.bitOr i j)):=Zo7 λ_ _ _ _ _ _ _ q=>or_int q
theorem unI{f:AJ->Sem AJ}{g:Int->Int}
  (rule:∀(i:Int) (t:Tok) (s:AK) (Q:Ap) (E:Ap),Q (.int (g i) s.toks) { s with toks:=s.toks+1 }->wpAny ς X.A (f (.int i t)) Q E s):
  UnR X f (rU λi=>.int (g i)):=by
 intro a s c H x v Q I b h;obtain⟨i,rfl,q⟩:=h;obtain⟨t,rfl⟩:=b;exact rule i t s _ _ ⟨.int (g i),H,I.tok _,⟨_,rfl⟩,q⟩
theorem Zj8:UnR X (unaryOp .USub) (rU λi=>.int (-i)):=unI λ_ _ _ _ _ q=>neg_int q
end
def Zu0:V->V->Bool
 | .non,.non=>true | .non,.int _=>true | .int _,.non=>true | .non,.bl _=>true | .bl _,.non=>true | .non,.str _=>true | .str _,.non=>true
 | .int _,.int _=>true | .bl _,.bl _=>true | .str _,.str _=>true | .byt _,.byt _=>true
 | .int _,.str _=>true | .str _,.int _=>true | .bl _,.str _=>true | .str _,.bl _=>true
 | _,_=>false
def wk:R2:=λx y H Q=>Zu0 x y=true/\Q (.bl (decide (x=y))) H
def Xv:R2:=λx y H Q=>Zu0 x y=true/\Q (.bl (!decide (x=y))) H
theorem Zgd{i j:Int}:decide (V.int i=V.int j)=(i == j):=by
 rw[Bool.eq_iff_iff];simp
theorem Zmw{i j:Bool}:decide (V.bl i=V.bl j)=(i == j):=by
 rw[Bool.eq_iff_iff];simp
theorem Zgc{i j:Str}:decide (V.str i=V.str j)=(i == j):=by
 rw[Bool.eq_iff_iff];simp
theorem Zge{i j:Array UInt8}:decide (V.byt i=V.byt j)=(i.toList == j.toList):=by
 rw[Bool.eq_iff_iff];cases i;cases j;simp
section
variable {X:Cx}{a b c:AN}{ta tb tc:TE}{pos:Pos}
theorem cV{a:At}{σ:St}{H:Hp}{s:AK}{Q:VK}{k b:Bool}(I:Inv X a σ H s)(q:Q (.bl k) H)(e:k=b):EP X a σ Q (.bool b) s:=by
 subst e;exact⟨.bl k,H,I,rfl,q⟩
theorem gR:uz X (compareOp .Eq) wk:=by
 intro d s e H x y v u Q I c a h;obtain⟨hs,q⟩:=h;cases x with
 | non=>
  cases c;cases y with
  | non=>cases a;exact PySem.EqNone.eq_none_none c9
  | bl j=>cases a;exact PySem.EqNone.eq_none_bool c9
  | int j=>obtain⟨b,rfl⟩:=a;exact PySem.EqNone.eq_none_int c9
  | str j=>obtain⟨b,rfl⟩:=a;exact PySem.EqNone.eq_none_str c9
  | _=>exact absurd bo Bool.false_ne_true
 | bl i=>
  cases c;cases y with
  | non=>cases a;exact PySem.EqNone.eq_bool_none c9
  | bl j=>cases a;exact eq_bool (cV I q Zmw)
  | str j=>obtain⟨b,rfl⟩:=a;exact PySem.EqMixed.eq_bool_str c9
  | _=>exact absurd bo Bool.false_ne_true
 | int i=>
  obtain⟨t,rfl⟩:=c;cases y with
  | non=>cases a;exact PySem.EqNone.eq_int_none c9
  | int j=>obtain⟨b,rfl⟩:=a;exact eq_int (cV I q Zgd)
  | str j=>obtain⟨b,rfl⟩:=a;exact PySem.EqMixed.eq_int_str c9
  | _=>exact absurd bo Bool.false_ne_true
 | str i=>
  obtain⟨t,rfl⟩:=c;cases y with
  | non=>cases a;exact PySem.EqNone.eq_str_none c9
  | bl j=>cases a;exact PySem.EqMixed.eq_str_bool c9
  | int j=>obtain⟨b,rfl⟩:=a;exact PySem.EqMixed.eq_str_int c9
  | str j=>obtain⟨b,rfl⟩:=a;exact eq_str (cV I q Zgc)
  | _=>exact absurd bo Bool.false_ne_true
 | byt i=>
  obtain⟨t,rfl⟩:=c;cases y with
  | byt j=>obtain⟨b,rfl⟩:=a;exact W.eq_bytes (cV I q Zge)
  | _=>exact absurd bo Bool.false_ne_true
 | _=>cases y<;>exact absurd bo Bool.false_ne_true
theorem qQ:uz X (compareOp .NotEq) Xv:=by
 intro d s e H x y v u Q I c a h;obtain⟨hs,q⟩:=h;cases x with
 | non=>
  cases c;cases y with
  | non=>cases a;exact PySem.EqNone.ne_none_none c9
  | bl j=>cases a;exact PySem.EqNone.ne_none_bool c9
  | int j=>obtain⟨b,rfl⟩:=a;exact PySem.EqNone.ne_none_int c9
  | str j=>obtain⟨b,rfl⟩:=a;exact PySem.EqNone.ne_none_str c9
  | _=>exact absurd bo Bool.false_ne_true
 | bl i=>
  cases c;cases y with
  | non=>cases a;exact PySem.EqNone.ne_bool_none c9
  | bl j=>cases a;exact ne_bool (cV I q (congrArg not Zmw))
  | str j=>obtain⟨b,rfl⟩:=a;exact PySem.EqMixed.ne_bool_str c9
  | _=>exact absurd bo Bool.false_ne_true
 | int i=>
  obtain⟨t,rfl⟩:=c;cases y with
  | non=>cases a;exact PySem.EqNone.ne_int_none c9
  | int j=>obtain⟨b,rfl⟩:=a;exact ne_int (cV I q (congrArg not Zgd))
  | str j=>obtain⟨b,rfl⟩:=a;exact PySem.EqMixed.ne_int_str c9
  | _=>exact absurd bo Bool.false_ne_true
 | str i=>
  obtain⟨t,rfl⟩:=c;cases y with
  | non=>cases a;exact PySem.EqNone.ne_str_none c9
  | bl j=>cases a;exact PySem.EqMixed.ne_str_bool c9
  | int j=>obtain⟨b,rfl⟩:=a;exact PySem.EqMixed.ne_str_int c9
  | str j=>obtain⟨b,rfl⟩:=a;exact ne_str (cV I q (congrArg not Zgc))
  | _=>exact absurd bo Bool.false_ne_true
 | byt i=>
  obtain⟨t,rfl⟩:=c;cases y with
  | byt j=>obtain⟨b,rfl⟩:=a;exact W.ne_bytes (cV I q (congrArg not Zge))
  | _=>exact absurd bo Bool.false_ne_true
 | _=>cases y<;>exact absurd bo Bool.false_ne_true
theorem zV:uz X (compareOp .Lt) bb:=Zo8 λ_ _ _ _ _ _ _ q=>lt_int q
theorem Zue:uz X (compareOp .LtE) (jC λi j=>.bl (decide (i<=j))):=Zo8 λ_ _ _ _ _ _ _ q=>le_int q
theorem Zfv:uz X (compareOp .Gt) (jC λi j=>.bl (decide (j<i))):=Zo8 λ_ _ _ _ _ _ _ q=>gt_int q
theorem Zuf:uz X (compareOp .GtE) (jC λi j=>.bl (decide (j<=i))):=Zo8 λ_ _ _ _ _ _ _ q=>ge_int q
theorem Zrf:uz X (compareOp .Is) (λx y H Q=>y=.non/\Q (.bl (decide (x=.non))) H):=by
 intro a s d H x y v u Q I b c h;obtain⟨rfl,q⟩:=h;cases c;refine is_none_gen (cV I q ?_);cases x<;>first
  | (cases b;rfl)
  | (obtain⟨t,rfl⟩:=b;rfl)
theorem Zo5:uz X (compareOp .IsNot) (λx y H Q=>y=.non/\Q (.bl (!decide (x=.non))) H):=by
 intro a s d H x y v u Q I b c h;obtain⟨rfl,q⟩:=h;cases c;refine isnot_none_gen (cV I q ?_);cases x<;>first
  | (cases b;rfl)
  | (obtain⟨t,rfl⟩:=b;rfl)
def isObj:HO->Bool
 | .lst _=>true
 | .ins _ _ _=>true
 | _=>false
theorem G5{c:At}{s:AK}{σ:St}{H:Hp}{a:AI}{o:HO}(I:Inv X c σ H s)(h:H a=some o)(p:isObj o=true):∃ob,s.heap.get? a=some ob/\ob.cls≠.type "tuple":=by
 cases o with
 | lst d=>
  obtain⟨_,b,n,_,e⟩:d.length<=sizeLine/\∃(b:AC) (n:Nat),Vals d b/\s.heap.get? a=some { cls:=.type "list",data:=.seq b.toArray n }:=I.hok a _ h;exact⟨_,e,(by show Value.type "list"≠.type "tuple";decide +kernel)⟩
 | ins C f fs=>
  have x:=I.hok a _ h;obtain⟨_,_,_,e,_⟩:=x;exact⟨_,e,(by show Value.ref C≠.type "tuple";exact λz=>by cases z)⟩
 | _=>exact absurd (show false=true from p) Bool.false_ne_true
theorem Az(b:AN){a:CmpOp}(h:a≠.In:=by decide)(h2:a≠.NotIn:=by decide):behindInMarks a b=false:=by
 have c:(a == CmpOp.In)=false:=by cases a<;>first | rfl | exact absurd rfl h
 have d:(a == CmpOp.NotIn)=false:=by cases a<;>first | rfl | exact absurd rfl h2
 cases b<;>simp[behindInMarks,c,d]
theorem oY{d:CmpOp}{r:R2}(e:uz X (compareOp d) r)(k:PE X a ta)(hb:PE X b tb)(hm:behindInMarks d b=false):PE X (.Compare a [d] [b] pos) (bx r ta tb):=by
 intro c s l H Q I h;exact wpAny_Compare1 (Ztg k hb I h λv u f x y g j m i q=>e c f l g x y v u Q j m i q) hm
def bL(t:TE):TT:=λσ H Q=>t σ H λx H'=>∃k,x=.bl k/\Q k H'
theorem Znw{g:CmpOp}{r:R2}(i:uz X (compareOp g) r)(m:PE X a ta)(hb:PE X b tb)(hm:behindInMarks g b=false):PT X (.Compare a [g] [b] pos) (bL (bx r ta tb)):=by
 intro d s f H Q I h;refine wpAny_isTrue_Compare1 (gw (m d s f H _ I h) λv l ⟨x,H1,I1,r1,q1⟩=>gw (hb d l f H1 _ I1 q1) λu j ⟨y,H2,I2,r2,q2⟩=>
  gw (i d j f H2 x y v u _ I2 r1 r2 q2) λc n ⟨z,H3,I3,r3,k,e,q3⟩=>?_) hm
 subst e;cases r3;exact wpAny_truthy_bool ⟨H3,I3,q3⟩
def Zco(r e:R2)(ta tb tc:TE):TE:=λσ H Q=>ta σ H λx d=>tb σ d λy b=>r x y b λz a=>∃k,z=.bl k/\
 (if k=true then tc σ a λf c=>e y f c Q else Q (.bl false) a)
theorem Zkf{l g:CmpOp}{r m:R2}(n:uz X (compareOp l) r)(j:uz X (compareOp g) m)(A:PE X a ta)(hb:PE X b tb)(hc:PE X c tc)
  (hm:lastMarks [l,g] [b,c]=false:=by with_unfolding_all rfl):PE X (.Compare a [l,g] [b,c] pos) (Zco r m ta tb tc):=by
 intro f s i H Q I h;refine Compare_chain (gw (A f s i H _ I h) λv t ⟨x,H1,I1,r1,q1⟩=>chain_link (gw (hb f t i H1 _ I1 q1) λu o ⟨y,H2,I2,r2,q2⟩=>
  gw (n f o i H2 x y v u _ I2 r1 r2 q2) λd q ⟨z,H3,I3,r3,k,e,q3⟩=>?_)) hm
 subst e;cases r3;refine wpAny_truthy_bool ?_;cases k with
 | false=>exact ite_ff ⟨.bl false,H3,I3,rfl,q3⟩
 | true=>exact ite_tt (chain_last (gw (hc f q i H3 _ I3 q3) (by rintro w p ⟨B,H4,I4,r4,q4⟩;exact j f p i H4 y B u w Q I4 r2 r4 q4)))
def Zn5(K:aB)(x:V)(H:Hp)(k:Bool):Prop:=
 match x with
 | .non=>k=false
 | .bl b=>k=b
 | .int i=>k=(i != 0)
 | .str y=>y.length<=sizeLine/\k=((y.length:Int) != 0)
 | .byt y=>y.size<=sizeLine/\k=((y.size:Int) != 0)
 | .ref p=>(∃xs,bU K H p xs/\k=!xs.isEmpty)\/(∃xs,dB K H p xs/\k=!xs.isEmpty)\/∃a,H p=some (.dK a)/\k=!a.isEmpty
 | _=>False
theorem Zdy{b:Type}{a:List (b×V)}{vs:List (b×AJ)}(r:KV a vs):(!vs.isEmpty)=!a.isEmpty:=by
 cases r<;>rfl
theorem Qz{xs:List V}{a:AC}(r:Vals xs a):(!a.toArray.isEmpty)=!xs.isEmpty:=by
 cases r<;>simp
theorem Hi:(sizeLine:Nat)<2 ^ 63:=by rw[sizeLine_eq];decide
theorem Zqt:Zzc X (λx H Q=>∃k,Zn5 X.K x H k/\Q k H):=by
 intro o s z H x v Q I g h;obtain⟨k,e,q⟩:=h;have hl:=Hi;have hs:sizeLine=16777216:=sizeLine_eq;cases x with
 | non=>
  cases g;have a:k=false:=e;subst a;exact truthy_none ⟨H,I,q⟩
 | bl b=>
  cases g;have a:k=b:=e;subst a;exact wpAny_truthy_bool ⟨H,I,q⟩
 | int i=>
  obtain⟨t,rfl⟩:=g;have a:k=(i != 0):=e;subst a;exact PySem.P.truthy_int ⟨H,I,q⟩
 | str y=>
  obtain⟨t,rfl⟩:=g;obtain⟨hy,a⟩:y.length<=sizeLine/\k=((y.length:Int) != 0):=e;subst a;exact PySem.P.truthy_str δ ⟨H,I.tok _,q⟩
 | byt y=>
  obtain⟨t,rfl⟩:=g;obtain⟨hy,a⟩:y.size<=sizeLine/\k=((y.size:Int) != 0):=e;subst a;exact W.truthy_bytes δ ⟨H,I.tok _,q⟩
 | ref p=>
  cases g;have a:(∃f,bU X.K H p f/\k=!f.isEmpty)\/(∃f,dB X.K H p f/\k=!f.isEmpty)\/∃c,H p=some (.dK c)/\k=!c.isEmpty:=e;rcases a with ⟨f,hx,a⟩ | ⟨f,hx,a⟩ | ⟨c,hx,a⟩
  ·subst a;obtain⟨l,r,n,hz⟩:=I.list hx;have d:=r.length;exact wpAny_truthy_list n.isList (by simp only[List.size_toArray];omega) ⟨H,I.tok _,by rw[Qz r];exact q⟩
  ·subst a;obtain⟨l,r,n,hz⟩:=I.tuple hx;have d:=r.length;exact truthy_tuple n (by simp only[List.size_toArray];omega) ⟨H,I.tok _,by rw[Qz r];exact q⟩
  ·subst a;obtain⟨hz,u,j,r,m⟩:c.length<=sizeLine/\(p == sysModules)=false/\∃j,KV c j/\s.heap.DictOf (di X.prog X.w) p j:=I.hok p _ hx;have d:c.length=j.length:=Paired.length r;exact wpAny_truthy_dict u m δ ⟨H,I.tok _,by rw[Zdy r];exact q⟩
 | _=>exact(show False from e).elim
theorem Za9(d:PE X a ta)(e:∀b,isTrue a X.env b=(do let v <- b;standAt a.pos;holding [v] (truthy v))):
  PT X a (λσ H Q=>ta σ H λx H'=>∃k,Zn5 X.K x H' k/\Q k H'):=by
 intro c s σ H Q I h;exact isTrue_plain (gw (d c s σ H _ I h) (by rintro v f ⟨x,H1,I1,r1,q1⟩;exact Zqt c f σ H1 x v Q I1 r1 q1)) (e _)
theorem OJ:uz X (binaryOp .Add) (λx y H Q=>∃i j,x=.str i/\y=.str j/\i.length+j.length<=sizeLine/\Q (.str (i++j)) H):=by
 intro a s e H x y v u Q I d b h;obtain⟨i,j,rfl,rfl,hz,q⟩:=h;obtain⟨t,rfl⟩:=d;obtain⟨c,rfl⟩:=b;exact add_str (λc tk=>⟨.str (i++j),H,I.tok _,⟨_,rfl⟩,q⟩) hz
theorem vals1{x:V}{us:AC}(r:Vals [x] us):∃u,us=[u]/\RelV x u:=by
 cases r with
 | cons a b=>cases b;exact⟨_,rfl,a⟩
theorem vals2{x y:V}{us:AC}(r:Vals [x,y] us):∃u a,us=[u,a]/\RelV x u/\RelV y a:=by
 cases r with
 | cons b d=>
  cases d with
  | cons e c=>cases c;exact⟨_,_,rfl,b,e⟩
theorem Ziy(hc:X.calm=true):yq X (.builtin "min") (λxs H Q=>∃i j,xs=[.int i,.int j]/\Q (.int (if j<i then j else i)) H):=by
 intro b s e H xs us Q I r h;obtain⟨i,j,rfl,q⟩:=h;obtain⟨u,d,rfl,⟨t,rfl⟩,⟨f,rfl⟩⟩:=vals2 r;refine min_two_ints (I.ok.hd hc) λc tk k=>⟨_,H,I.kept k,?_,q⟩
 by_cases a:j<i
 ·rw[if_pos a,if_pos a];exact⟨_,rfl⟩
 ·rw[if_neg a,if_neg a];exact⟨_,rfl⟩
end
structure Zf7(h:Heap)(x dx C:AI)(mA:As):Prop where
 obj:h.get? x=some (W.instObj C dx)
 ns:h.Ns1 dx mA
 ne:dx≠x
theorem Zhu{h:Heap}{dx:AI}{d:As}(n:h.Ns1 dx d):∃od,h.get? dx=some od/\∀name,W.lookIn name od=some (d name):=by
 obtain⟨o,c,i,f,hd,hk,_,hm⟩:=n;refine⟨o,f,λname=>?_⟩;have e:=hm name;unfold nsFind findBy at e;rw[<- Array.find?_toList]at e;unfold W.lookIn;rw[hd];dsimp only;split
 ·rename_i y q
  rw[q]at e;exact congrArg some e
 ·rename_i q
  rw[q]at e;have a:c.toList.any (·.refKey)=false:=by
   rw[List.any_eq_false];intro y hy;obtain⟨z,t,b⟩:=hk y (Array.mem_toList_iff.mp hy);simp[DictEntry.refKey,b]
  have g:¬ c.toList.any (·.refKey)=true:=by rw[a];exact Bool.false_ne_true
  rw[if_neg g];exact congrArg some e
theorem Zf7.look{h:Heap}{x dx C:AI}{a:As}(I:Zf7 h x dx C a):∃od,W.InstAt h x (W.instObj C dx) C (some od)/\∀name,W.lookIn name od=some (a name):=
 let ⟨od,ho,hl⟩:=Zhu I.ns
 ⟨od,⟨I.obj,rfl,rfl,ho⟩,hl⟩
section
variable {prog:AM}{w:AO}{A:Around}{E:Ap}{s:AK}{K:aB}{x dx C f:AI}{mA:As}{name:Str}{v:AJ}
theorem get_map{a:Bool}{Q:Ap}(X:K.In s.heap)(I:Zf7 s.heap x dx C mA)(hg:W.plainGet K C name=true)(d:W.hasDictIn K C=true)
  (c:W.findIn K (.ref C) name=some none) (hv:mA name=some v) (b:W.handedIn v=true) (h:Q v { s with toks:=s.toks+1 }):
  wpAny ad A (getAttr (.ref x) name a) Q E s:=by
 obtain⟨od,J,hl⟩:=I.look;exact W.get_value X J (W.plainGet_of hg).1 (W.findObj_own d c rfl (by rw[hl,hv])) b h
theorem Zm6{pl:Sem Bool}{Q:AJ×AC->AK->Prop}(X:K.In s.heap)(I:Zf7 s.heap x dx C mA)(hg:W.plainGet K C name=true)
  (a:W.findIn K (.ref C) name=some (↑f)) (b:W.isFn K (.ref f)=true) (hv:mA name=none) (h:Q (.ref f,[.ref x]) s):
  wpAny ad A (getMethod (.ref x) name pl) Q E s:=by
 obtain⟨od,J,hl⟩:=I.look;exact W.method_fn X J (W.plainGet_of hg).1 (W.plainGet_of hg).2 a (beq_iff_eq.mp b) (by show(W.lookIn name od).map (·.isSome)=some false;rw[hl,hv];rfl) h
theorem Znp{ns:AH}{Q:Unit->AK->Prop}(X:K.In s.heap)(I:Zf7 s.heap x dx C mA)
  (hs:W.findIn K (.ref C) "__setattr__"=some (some (.builtin "object.__setattr__"))) (hp:W.plainOver K C=true) (k:W.takerIn K C name=some none) (j:W.hasDictIn K C=true)
  (l:PySem.Within mA ns) (hsz:ns.length<=sizeLine)
  (h:∀h',Zf7 h' x dx C (λy=>if y=name then some v else mA y)->Heap.SameBut dx s.heap h'->Q () { s with heap:=h',toks:=s.toks+2 }):
  wpAny ad A (setAttr (.ref x) name v) Q E s:=by
 obtain⟨od,J,hl⟩:=I.look;refine W.set_plain X J hs (W.osa_open (s:={ s with toks:=s.toks+1 }) (r:=none) X J hp k λb=>?_);obtain⟨cd,hc,i⟩:=W.any_some j;have hx:s.heap.get? x=some ⟨.ref C,some dx,.plain,#[]⟩:=I.obj;refine wpAny_bind (wpAny_pure (wpAny_bind (wpAny_bind (wpAny_loadPart hx (wpAny_bind (W.Looks.here (s:={ s with toks:=s.toks+1 }) (W.looks_clsIn X hc) ?_))))));rw[i];refine wpAny_pure (a:=some dx) (wpAny_bind (wpAny_pure (wpAny_bind ?_)));refine wpAny_nsSet1 (s:={ s with toks:=s.toks+1 }) I.ns λh' c d=>?_;obtain⟨o,m,n,e,f,g⟩:=c.count (PySem.Within.cons name v l);refine wpAny_bind (wpAny_lookBehind e (by rw[f];exact pastItsLine_dict (Nat.le_trans g (by rw[List.length_cons];omega))) ?_);exact wpAny_pure (h _ ⟨(d.2 _ (Ne.symm I.ne)).trans I.obj,c,I.ne⟩ d)
theorem Zla{R:Result->AK->Prop}{vs:AC}{kw:List (Str×AJ)}(X:K.In s.heap)(hm:W.makesIn K C=true)
  (hi:W.findIn K (.ref C) "__init__"=some (↑f)) (a:W.typeIn K (.ref f)=some (.type "function"))
  (h:codeAny ad (A.under (.builtin "type.__call__" ⟨.ref C::vs,kw⟩)) (.call (.ref f) ⟨.ref ah::vs,kw⟩) (W.InitBack ah R)
   { s with heap:=(s.heap.push W.emptyDict).push cm }):
  codeAny ad A (.call (.ref C) ⟨vs,kw⟩) R s:=by
 obtain⟨b,g,d,t,os⟩:=s;exact W.make_core (W.makes_of X hm) (W.looks_findIn X hi) (λself=>W.bind_fn X self a) (.inl rfl) h
theorem Zhs{R:Result->AK->Prop}(X:K.In s.heap)(hm:W.makesIn K C=true)
  (hi:W.findIn K (.ref C) "__init__"=some eI)
  (hb:∀self,W.Looks ad s.heap (bindSpecial (.builtin "object.__init__") self) (.builtin "object.__init__",[self]))
  (h:codeAny ad (A.under (.builtin "type.__call__" ⟨[.ref C],[]⟩)) (.call (.builtin "object.__init__") ⟨[.ref ah],[]⟩) (W.InitBack ah R)
   { s with heap:=(s.heap.push W.emptyDict).push cm }):
  codeAny ad A (.call (.ref C) ⟨[],[]⟩) R s:=by
 obtain⟨a,g,d,t,os⟩:=s;exact W.make_core (W.makes_of X hm) (W.looks_findIn X hi) hb (.inr ⟨rfl,rfl⟩) h
end
def bZ(f:Str)(v:V):List (Str×V)->List (Str×V)
 | []=>[(f,v)]
 | (g,x)::r=>if g=f then(g,v)::r else(g,x)::bZ f v r
theorem Kg(f g:Str)(v:V):∀fs:List (Str×V),(bZ f v fs).lookup g=if g=f then some v else fs.lookup g
 | []=>by
  show List.lookup g [(f,v)]=_
  by_cases h:g=f
  ·have hb:(g == f)=true:=beq_iff_eq.mpr h;simp only[List.lookup,hb,if_pos h]
  ·have hb:(g == f)=false:=beq_eq_false_iff_ne.mpr h;simp only[List.lookup,hb,if_neg h]
 | (k,x)::r=>by
  have a:=Kg f g v r;rw[show bZ f v ((k,x)::r)=(if k=f then(k,v)::r else(k,x)::bZ f v r)from rfl]
  by_cases hk:k=f
  ·rw[if_pos hk]
   by_cases h:g=k
   ·have hb:(g == k)=true:=beq_iff_eq.mpr h;simp only[List.lookup,hb,if_pos (h.trans hk)]
   ·have hb:(g == k)=false:=beq_eq_false_iff_ne.mpr h;simp only[List.lookup,hb,if_neg (λe:g=f=>h (e.trans hk.symm))]
  ·rw[if_neg hk]
   by_cases h:g=k
   ·have hb:(g == k)=true:=beq_iff_eq.mpr h;simp only[List.lookup,hb,if_neg (λe:g=f=>hk (h.symm.trans e))]
   ·have hb:(g == k)=false:=beq_eq_false_iff_ne.mpr h;simp only[List.lookup,hb];exact a
theorem Hq(f:Str)(v:V):∀fs:List (Str×V),f∈(bZ f v fs).map (·.1)/\∀g,g∈fs.map (·.1)->g∈(bZ f v fs).map (·.1)
 | []=>⟨by simp[bZ],λg h=>by simp at h⟩
 | (k,x)::r=>by
  obtain⟨b,a⟩:=Hq f v r;rw[show bZ f v ((k,x)::r)=(if k=f then(k,v)::r else(k,x)::bZ f v r)from rfl]
  by_cases hk:k=f
  ·rw[if_pos hk];subst hk;exact⟨ζ,λg h=>by simpa using h⟩
  ·rw[if_neg hk];refine⟨?_,λg h=>?_⟩
   ·rw[List.map_cons];exact List.mem_cons_of_mem _ b
   ·rw[List.map_cons]at h ⊢;rcases List.mem_cons.mp h with e | e
    ·exact List.mem_cons.mpr (.inl e)
    ·exact List.mem_cons_of_mem _ (a g e)
theorem Kl(f:Str)(v:V):∀fs:List (Str×V),(bZ f v fs).length<=fs.length+1
 | []=>by simp[bZ]
 | (k,x)::r=>by
  have a:=Kl f v r;rw[show bZ f v ((k,x)::r)=(if k=f then(k,v)::r else(k,x)::bZ f v r)from rfl]
  by_cases hk:k=f
  ·rw[if_pos hk,List.length_cons,List.length_cons];omega
  ·rw[if_neg hk,List.length_cons,List.length_cons];omega
theorem yQ.some_of{v:V}{o:AB}(r:yQ eW o):∃u,o=some u/\RelV v u:=by
 cases o with
 | none=>exact(show False from r).elim
 | some u=>exact⟨u,rfl,r⟩
theorem yQ.none_of{o:AB}(r:yQ none o):o=none:=by
 cases o with
 | none=>rfl
 | some u=>exact(show False from r).elim
theorem Zii{v:V}{u:AJ}(r:RelV v u):W.handedIn u=true:=by
 cases v with
 | non=>cases (show u=Value.none from r);rfl
 | bl b=>cases (show u=Value.bool b from r);rfl
 | int i=>obtain⟨t,e⟩:=(show ∃t,u=Value.int i t from r);cases e;rfl
 | str x=>obtain⟨t,e⟩:=(show ∃t,u=Value.str x t from r);cases e;rfl
 | byt b=>obtain⟨t,e⟩:=(show ∃t,u=Value.bytes b t from r);cases e;rfl
 | flt b=>obtain⟨t,e⟩:=(show ∃t,u=Value.float b t from r);cases e;rfl
 | ref a=>cases (show u=Value.ref a from r);rfl
 | ty n=>cases (show u=Value.type n from r);rfl
section
variable {P:AM}{w:AO}{H H':Hp}{h h':Heap}{a C dx:AI}{fs fs':List (Str×V)}
theorem Mw(hok:ym P w H h)(e:H a=some (.ins C dx fs)):∃b,Zf7 h a dx C b/\(∀f,yQ (fs.lookup f) (b f))/\PySem.Within b (fs.map (·.1))/\fs.length<=1000/\H dx=some (.own a):=by
 obtain⟨d,z,ne,ob,b,n,r,q⟩:=(show gH P w H h a (.ins C dx fs)from hok a _ e);exact⟨b,⟨ob,n,ne⟩,r,q,z,d⟩
end
structure MP(K:aB)(C:AI):Prop where
 pg:W.plainGet K C Str.empty=true
 hd:W.hasDictIn K C=true
 po:W.plainOver K C=true
 sa:W.findIn K (.ref C) "__setattr__"=some (some (.builtin "object.__setattr__"))
theorem MP.get{K:aB}{C:AI}(c:MP K C)(f:Str):W.plainGet K C f=true:=c.pg
def cQ(K:aB)(C:AI)(f:Str):Prop:=W.findIn K (.ref C) f=some none
theorem cQ.taker{K:aB}{C:AI}{f:Str}(n:cQ K C f):W.takerIn K C f=some none:=by
 unfold W.takerIn;rw[show W.findIn K (.ref C) f=some none from n];rfl
structure Con(K:aB)(C:AI)(f:Str)(v:V)(u:AJ):Prop where
 at_:W.findIn K (.ref C) f=some (some u)
 rel:RelV v u
 get:W.specialIn K u "__get__"=some none
 cp:W.copiedNames.contains f=false
structure Meth(K:aB)(C:AI)(m:Str)(f:AI):Prop where
 at_:W.findIn K (.ref C) m=some (↑f)
 fn:W.isFn K (.ref f)=true
 kp:W.keepIn K (.ref f)=true
section
variable {X:Cx}{pins:At}{σ:St}{H:Hp}{s:AK}{a C dx:AI}{fs:List (Str×V)}{f:Str}{v:V}{A:Around}{E:Ap}
theorem Ze9{b:Bool}{Q:Ap}(I:Inv X pins σ H s)(e:H a=some (.ins C dx fs))(c:MP X.K C)(n:cQ X.K C f)(l:fs.lookup f=some v)
  (h:∀u s',Inv X pins σ H s'->RelV v u->Q u s'):wpAny ς A (getAttr (.ref a) f b) Q E s:=by
 obtain⟨g,O,r,_,_,_⟩:=Mw I.hok e;obtain⟨u,hu,d⟩:=yQ.some_of (v:=v) (o:=g f) (by rw[<- l];exact r f);exact get_map I.xH O (c.get f) c.hd n hu (Zii d) (h u _ (I.tok _) d)
theorem QH{m:Str}{g:AI}{pl:Sem Bool}{Q:AJ×AC->AK->Prop}(I:Inv X pins σ H s)(e:H a=some (.ins C dx fs))(c:MP X.K C)(k:Meth X.K C m g)(l:fs.lookup m=none)
  (h:Q (.ref g,[.ref a]) s):wpAny ς A (getMethod (.ref a) m pl) Q E s:=by
 obtain⟨b,O,r,_,_,_⟩:=Mw I.hok e;have hn:b m=none:=yQ.none_of (by rw[<- l];exact r m);exact Zm6 I.xH O (c.get m) k.at_ k.fn hn h
theorem Zd2{y:V}{u:AJ}{Q:Unit->AK->Prop}(I:Inv X pins σ H s)(e:H a=some (.ins C dx fs))(c:MP X.K C)(n:cQ X.K C f)(hl:fs.length<1000)(m:RelV y u)
  (h:∀s',Inv X pins σ (upd H a (.ins C dx (bZ f y fs))) s'->Q () s'):wpAny ς A (setAttr (.ref a) f u) Q E s:=by
 obtain⟨k,O,r,j,_,i⟩:=Mw I.hok e;have hz:(fs.map (·.1)).length<=sizeLine:=by rw[aU,sizeLine_eq];omega
 refine Znp I.xH O c.sa c.po n.taker c.hd j hz λl d sb=>h _ ?_;have hd:∃o,l.get? dx=some o:=let ⟨o,_,_,e',_⟩:=d.ns;⟨o,e'⟩
 refine I.write (x:=a) (e:=dx) (by rw[e];exact True.intro) (.inr i) (λb q hb z=>(sb.2 b hb).trans z) hd ?_;refine⟨by rw[aC O.ne];exact i,?_,O.ne,d.obj,_,d.ns,λg=>?_,λg hg=>?_⟩
 ·have:=Kl f y fs;omega
 ·show yQ ((bZ f y fs).lookup g) (if g=f then some u else k g);rw[Kg]
  by_cases q:g=f
  ·rw[if_pos q,if_pos q];exact m
  ·rw[if_neg q,if_neg q];exact r g
 ·by_cases q:g=f
  ·rw[q];exact(Hq f y fs).1
  ·refine(Hq f y fs).2 g (j g λz=>hg ?_);show(if g=f then some u else k g)=none;rw[if_neg q];exact z
theorem Inv.made(I:Inv X pins σ H s):Inv X pins σ (upd (upd H s.heap.objs.size (.own ah)) ah (.ins C s.heap.objs.size []))
  { s with heap:=(s.heap.push W.emptyDict).push cm }:=by
 have c:(s.heap.push W.emptyDict).get? s.heap.objs.size=some W.emptyDict:=Heap.get?_push_size s.heap rfl;have d:((s.heap.push W.emptyDict).push cm).get? (s.heap.objs.size+1)=some cm:=by
  have:=Heap.get?_push_size (s.heap.push W.emptyDict) (o:=W.instObj C s.heap.objs.size) rfl
  rwa [Heap.size_push]at this
 have e3:(s.heap.push W.emptyDict).Ns s.heap.objs.size (λ_=>none):=⟨W.emptyDict,#[],_,c,rfl,(λe f=>absurd f ζ),λ_=>rfl⟩;have g:=I.laid (a:=s.heap.objs.size) (o:=.own ah) (h':=s.heap.push W.emptyDict) (t':=s.toks) (λb u q=>Heap.get?_push_of_some _ q) Δ ⟨_,c⟩;refine g.laid (a:=s.heap.objs.size+1) (o:=.ins C s.heap.objs.size []) (t':=s.toks) (λb u q=>Heap.get?_push_of_some _ q) (Nat.le_of_eq (Heap.size_push _ _)) ?_;have ne:s.heap.objs.size≠s.heap.objs.size+1:=Nat.ne_of_lt (Nat.lt_succ_self _);refine⟨by rw[aC ne,aq],Nat.zero_le _,ne,d,λ_=>none,(Heap.Ns1.of_empty e3).at λo q=>Heap.get?_push_of_some _ q,λ_=>True.intro,λy hy=>absurd rfl hy⟩
theorem Zpl{prog:AM}{w:AO}{env:Env}{e:AN}{f:Str}{b:Pos}{s:AK}{Q:Ap}(hb:attributeBase e f env (eval e env)=eval e env)
  (h:wpAny ad A (eval e env) (λo a=>wpAny ad A (getAttr o f true) Q E a) E s):wpAny ad A (eval (.Attribute e f b) env) Q E s:=
 Attribute_any_ h (by rw[arm_eval_Attribute,hb])
end
def bz(K:aB)(c:TE)(f:Str):TE:=λσ H Q=>c σ H λx b=>∃a C dx fs v,x=.ref a/\b a=some (.ins C dx fs)/\MP K C/\cQ K C f/\fs.lookup f=some v/\Q v b
def eG(K:aB)(d e:TE)(f:Str):TS:=λD σ H=>e σ H λy c=>d σ c λx b=>∃a C dx fs,x=.ref a/\b a=some (.ins C dx fs)/\MP K C/\cQ K C f/\fs.length<1000/\
 D.nx σ (upd b a (.ins C dx (bZ f y fs)))
section
variable {X:Cx}{o e value:AN}{f:Str}{pos pos' tpos:Pos}{ta tv:TE}
theorem aJ(i:PE X e ta)(hb:attributeBase e f X.env (eval e X.env)=eval e X.env):PE X (.Attribute e f pos) (bz X.K ta f):=by
 intro b s g H Q I h;refine Zpl hb (gw (i b s g H _ I h) λu o qc=>?_);obtain⟨x,H1,I1,rx,a,C,dx,fs,v,ex,ea,c,n,l,q⟩:=qc;subst ex;obtain rfl:u=Value.ref a:=rx;exact Ze9 I1 ea c n l λk m j d=>⟨v,H1,j,d,q⟩
theorem cg(j:PE X o ta)(hv:PE X value tv)(hs:swapsWith value (some (.Attribute o f pos')) pos.line X.env=pure false):PS X (.Assign [.Attribute o f pos'] value pos) (eG X.K ta tv f):=by
 intro b s d H D I h;refine plainObj_wpAny_Assign_Attribute (gw (hv b s d H _ I h) λu i ⟨y,H1,I1,ry,q⟩=>gw (j b i d H1 _ I1 q) λe k qc=>?_) hs;obtain⟨x,H2,I2,rx,a,C,dx,fs,ex,ea,c,n,l,q2⟩:=qc;subst ex;obtain rfl:e=Value.ref a:=rx;exact Zd2 I2 ea c n l ry λm g=>⟨d,_,g,q2⟩
end
section
variable {X:Cx}{pins:At}{σ:St}{H:Hp}{s:AK}{A:Around}{E:Ap}{Q:Ap}{c:AJ}{b:Bool}
inductive HQ(K:aB)(H:Hp):V->AJ->Prop where
 | non:HQ K H .non (.type "NoneType")
 | bl (x:Bool):HQ K H (.bl x) (.type "bool")
 | int (i:Int):HQ K H (.int i) (.type "int")
 | str (x:Str):HQ K H (.str x) (.type "str")
 | flt (x:UInt64):HQ K H (.flt x) (.type "float")
 | lst {a:AI}{xs:List V} (e:H a=some (.lst xs)):HQ K H (.ref a) (.type "list")
 | uB {a:AI}{o:Obj}{xs:List V} (e:H a=some (.uB o (.lst xs))):HQ K H (.ref a) (.type "list")
 | tup {a:AI}{xs:List V} (e:H a=some (.tup xs)):HQ K H (.ref a) (.type "tuple")
 | dK {a:AI}{kvs:List (Key×V)} (e:H a=some (.dK kvs)):HQ K H (.ref a) (.type "dict")
 | dT {a:AI}{kvs:List (List Key×V)} (e:H a=some (.dT kvs)):HQ K H (.ref a) (.type "dict")
 | ins {a C dx:AI}{fs:List (Str×V)} (e:H a=some (.ins C dx fs)) (cl:MP K C) (ha:W.findIn K (.ref C) "__class__"=some (some (.builtin "object.__class__")))
   (hn:W.specialIn K (.builtin "object.__class__") "__get__"=some (some (.builtin "getset_descriptor.__get__"))) (htk:W.takesIn K (.builtin "object.__class__")=some true)
   (hm:W.mroIn K C (.type "object")=some true):HQ K H (.ref a) (.ref C)
theorem Zhy{x:V}{u t:AJ}(I:Inv X pins σ H s)(d:RelV x u)(ty:HQ X.K H x t)(e:W.kitOne X.K t c=some b)(h:∀tk,Q (.bool b) { s with toks:=tk }):
  wpAny ς A (call (.builtin "isinstance") [u,c]) Q E s:=by
 cases ty with
 | non=>cases (show u=Value.none from d);exact W.kia_one W.kitx_none I.xH True.intro e ai h
 | bl y=>cases (show u=Value.bool y from d);exact W.kia_one W.kitx_bool I.xH True.intro e ai h
 | int i=>obtain⟨t,q⟩:=(show ∃t,u=Value.int i t from d);cases q;exact W.kia_one W.kitx_int I.xH True.intro e ai h
 | str y=>obtain⟨t,q⟩:=(show ∃t,u=Value.str y t from d);cases q;exact W.kia_one W.kitx_str I.xH True.intro e ai h
 | flt y=>obtain⟨t,q⟩:=(show ∃t,u=Value.float y t from d);cases q;exact W.kia_one W.kitx_float I.xH True.intro e ai h
 | @lst a j f=>
  cases fe;obtain⟨_,_,n,_,h1⟩:=(show gH X.prog X.w H s.heap a (.lst j)from I.hok a _ f);exact W.kia_one W.kitx_list I.xH ⟨_,h1,rfl⟩ e ai h
 | @uB a ob j f=>
  cases fe;obtain⟨_,_,_,n,_,h1⟩:=(show gH X.prog X.w H s.heap a (.uB ob (.lst j))from I.hok a _ f);exact W.kia_one W.kitx_list I.xH ⟨_,h1,rfl⟩ e ai h
 | @tup a j f=>
  cases fe;obtain⟨_,_,_,p⟩:=(show gH X.prog X.w H s.heap a (.tup j)from I.hok a _ f);obtain⟨o,h1,h2,_⟩:=p;exact W.kia_one W.kitx_tuple I.xH ⟨o,h1,h2⟩ e ai h
 | @dK a g f=>
  cases fe;obtain⟨_,_,B,_,p⟩:=(show gH X.prog X.w H s.heap a (.dK g)from I.hok a _ f);obtain⟨o,m,l,h1,h2,_⟩:=p;exact W.kia_one W.kitx_dict I.xH ⟨o,h1,h2.1⟩ e ai h
 | @dT a g f=>
  cases fe;obtain⟨_,_,j,_,o,m,l,h1,h2,_⟩:=(show gH X.prog X.w H s.heap a (.dT g)from I.hok a _ f);exact W.kia_one W.kitx_dict I.xH ⟨o,h1,h2.1⟩ e ai h
 | @ins a C v fs f cl r hn k hm=>
  cases fe;obtain⟨D,O,_⟩:=Mw I.hok f;obtain⟨od,J,_⟩:=O.look;exact W.kia_one (W.kitx_own (cl.get _) cl.hd r hn k hm) I.xH J e ai h
end
structure Room(k:Nat)(A:Around):Prop where
 hd:A.handled=none
 dp:A.depth+3 * k+5<recursionLimit
 un:A.units+16 * k+200<cLine
theorem Room.mono{j k:Nat}{A:Around}(r:Room k A)(h:j<=k):Room j A:=⟨r.hd,by have:=r.dp;omega,by have:=r.un;omega⟩
theorem Room.deeper{k:Nat}{A:Around}(r:Room dG A)(env:Env):Room k (A.deeper env):=
 ⟨r.hd,by have:=r.dp;show A.depth+1+3 * k+5<_;omega,by have:=r.un;show A.units+3+16 * k+200<_;omega⟩
theorem Zds{A:Around}{C:AI}{us:AC}{kw:List (Str×AJ)}:(A.under (.builtin "type.__call__" ⟨.ref C::us,kw⟩)).depth=A.depth+1:=by
 first | rfl | simp[Around.under,Code.weight,Code.isCreation,Code.isGuard,Code.isCaller,Code.frames,Code.isFrame,guardIds]
theorem Zdr{A:Around}{C:AI}{us:AC}{kw:List (Str×AJ)}:(A.under (.builtin "type.__call__" ⟨.ref C::us,kw⟩)).units=A.units+1:=by
 first | rfl | simp[Around.under,Code.cUnits,Code.frames,Code.isFrame]
theorem Room.make{k:Nat}{A:Around}(r:Room dG A)(C:AI)(us:AC)(kw:List (Str×AJ)):Room k (A.under (.builtin "type.__call__" ⟨.ref C::us,kw⟩)):=
 ⟨r.hd,by have:=r.dp;rw[Zds];omega,by have:=r.un;rw[Zdr];omega⟩
theorem Room.depth{k:Nat}{A:Around}(r:Room k A):A.depth<recursionLimit:=by have:=r.dp;omega
theorem Room.units{k:Nat}{A:Around}(r:Room k A):A.units+64<cLine:=by have:=r.un;omega
def aD:TA:=λ_ H Q=>Q [] H
def aj(d:TE)(b:TA):TA:=λσ H Q=>d σ H λx c=>b σ c λxs a=>Q (x::xs) a
section
variable {X:Cx}{e:AN}{es:AG}{te:TE}{t:TA}{pos:Pos}
theorem au:PA X [] aD:=λ_ _ _ _ H Q I h=>Calls.spliced_nil ⟨[],H,I,.nil,h⟩
theorem aa(c:PE X e te)(hr:PA X es t)(hs:starEach (e::es) X.env=(false,eval e X.env)::starEach es X.env:=by rfl):PA X (e::es) (aj te t):=by
 intro pos a s b H Q I h;rw[hs];show wpAny _ _ (spliced ((false,eval e X.env)::backTo pos dQ)) _ _ s;refine Calls.spliced_cons (gw (c a s b H _ I h) λu f qc=>?_);obtain⟨x,H1,I1,r1,q1⟩:=qc;exact gw (hr pos a f b H1 _ I1 q1) (by rintro us g ⟨d,H2,I2,r2,q2⟩;exact⟨x::d,H2,I2,.cons r1 r2,q2⟩)
def dI(t:TA):TE:=λσ H Q=>t σ H λxs a=>xs.length<=sizeLine/\∀p,a p=none->Q (.ref p) (upd a p (.tup xs))
def fG(t:TA):TE:=λσ H Q=>t σ H λxs a=>xs.length<=sizeLine/\∀p,a p=none->Q (.ref p) (upd a p (.lst xs))
theorem bV{x1}(h:PA X es t):PE X (.Tuple es x1 pos) (dI t):=by
 intro a s f H Q I hq;refine wpAny_Tuple_spliced (gw (h pos a s f H _ I hq) λus c ⟨g,H1,I1,r,z,q⟩=>⟨by rw[<- r.length];exact z,?_⟩);have d:H1 c.heap.objs.size=none:=I1.hok.fresh Δ;refine⟨.ref c.heap.objs.size,upd H1 c.heap.objs.size (.tup g),I1.laid (t':=c.toks) (λb u e=>Heap.get?_push_of_some _ e) Δ ?_,rfl,q _ d⟩;exact⟨z,us,r,⟨_,Heap.get?_push_size _ rfl,rfl,_,rfl⟩⟩
theorem cI(h:PA X es t):PE X (.List es pos) (fG t):=by
 intro a s f H Q I hq;refine wpAny_List_spliced (gw (h pos a s f H _ I hq) λus c ⟨g,H1,I1,r,z,q⟩=>⟨by rw[<- r.length];exact z,?_⟩);have d:H1 c.heap.objs.size=none:=I1.hok.fresh Δ;refine⟨.ref c.heap.objs.size,upd H1 c.heap.objs.size (.lst g),I1.laid (t':=c.toks) (λb u e=>Heap.get?_push_of_some _ e) Δ ?_,rfl,q _ d⟩;exact⟨z,us,0,r,Heap.get?_push_size _ rfl⟩
end
abbrev Sp:=List V->Hp->VK->XK->Prop
abbrev ZR:=List Env->Hp->AK->XK->AJ->AK->Prop
structure Zf8(P:AM)(w:AO)(K:aB)(mg:As)(base:Heap)(A:Around)(outer:List Env)(s:AK)(H:Hp):Prop where
 frames:A.frames=some outer
 mod:Mod K mg base
 bs:∀b o,base.get? b=some o->s.heap.get? b=some o/\H b=none
 bsz:base.objs.size<=s.heap.objs.size
 uR:s.heap.FunFrames base outer
 frf:∀b∈frs outer,H b=none
 hok:ym P w H s.heap
 bare:AllBare s.gens
def CE(outer:List Env)(P:AM)(w:AO)(H:Hp)(s:AK)(Q:VK)(u:AJ)(s':AK):Prop:=
 ∃v H',s'.os=s.os/\AllBare s'.gens/\Un (frs outer) [] H H' s.heap s'.heap/\ym P w H' s'.heap/\RelV v u/\Q v H'
def CR(CX:ZR)(outer:List Env)(P:AM)(w:AO)(H:Hp)(s:AK)(Q:VK)(E:XK)(r:Result)(s':AK):Prop:=
 match r with
 | .ok (.ret u)=>CE outer P w H s Q u s'
 | .ok _=>False
 | .error e=>CX outer H s E e s'
structure qy(P:AM)(w:AO)(K:aB)(mg:As)(base:Heap)(CX:ZR)(k:Nat)(f:AI)(fd:AL)(ps:AH)(sp:Sp):Prop where
 len:∀vs H Q E,sp vs H Q E->vs.length=ps.length
 run:∀(A:Around) (outer:List Env) (s:AK) (H:Hp) (args:Args) (us:AC) (vs:List V) (Q:VK) (E:XK),Room k A->Zf8 P w K mg base A outer s H->BindsTo s fd args (ps.zip us)->Vals vs us->sp vs H Q E->
  codeAny (model P w) A (.call (.ref f) args) (CR CX outer P w H s Q E) s
theorem Zf8.make{P:AM}{w:AO}{K:aB}{mg:As}{base:Heap}{A:Around}{outer:List Env}{s:AK}{H:Hp}(e:Zf8 P w K mg base A outer s H)(C:AI)(us:AC)(kw:List (Str×AJ)):
  Zf8 P w K mg base (A.under (.builtin "type.__call__" ⟨.ref C::us,kw⟩)) outer s H:=⟨by first | exact e.frames | (simpa[Around.under,Code.envs,Code.isFrame,pushEnvs]using e.frames),e.mod,e.bs,e.bsz,e.uR,e.frf,e.hok,e.bare⟩
section
variable {X:Cx}{pins:At}{σ:St}{H:Hp}{s s':AK}
theorem Inv.env0(I:Inv X pins σ H s):Zf8 X.prog X.w X.K X.mg X.base X.A X.stack s H:=
 ⟨I.ok.frames,I.ok.mod,I.bs,Nat.le_trans I.ok.bsz I.sz,I.stack,I.Xc,I.hok,I.bare⟩
theorem Inv.after{Q:VK}{u:AJ}(I:Inv X pins σ H s)(h:CE X.stack X.prog X.w H s Q u s'):EP X pins σ Q u s':=by
 obtain⟨v,e,os,bare,un,hok,r,q⟩:=h;obtain⟨c,g,d,t,a⟩:=s';obtain rfl:a=s.os:=os;exact⟨v,e,I.call (h':=c) (g':=g) (d':=d) (t':=t) (ch:=[]) un hok bare (λb z=>absurd z ζ),r,q⟩
end
def aQ(sp:Sp)(qu:List V)(E:XK)(t:TA):TE:=λσ H Q=>t σ H λvs a=>sp (vs++qu) a Q E
def gO(C:AI)(m:Str)(sp:Sp)(qu:List V)(E:XK)(d:TE)(t:TA):TE:=λσ H Q=>d σ H λx b=>∃a dx fs,x=.ref a/\b a=some (.ins C dx fs)/\fs.lookup m=none/\
 t σ b λvs c=>sp (x::(vs++qu)) c Q E
def qC(C:AI)(sp:Sp)(qu:List V)(E:XK)(t:TA):TE:=λσ H Q=>t σ H λvs a=>∀x dx,a x=none->a dx=none->dx≠x->
 sp (.ref x::(vs++qu)) (upd (upd a dx (.own x)) x (.ins C dx [])) (λv b=>v=.non/\Q (.ref x) b) E
def Binds(K:aB)(fd:AL)(ps:AH)(ds:AC):Prop:=
 ∀(s:AK) (us:AC),K.In s.heap->(us++ds).length=ps.length->BindsTo s fd ⟨us,[]⟩ (ps.zip (us++ds))
theorem Binds.all{K:aB}{fd:AL}{ps:AH}(h:∀us:AC,us.length=ps.length->bindArgs fd ⟨us,[]⟩=pure (ps.zip us)):Binds K fd ps []:=λs us _ hl=>by
 rw[List.append_nil]at hl ⊢;exact .of_eq (h us hl)
def Passes(CX:ZR)(X:Cx)(E:XK):Prop:=∀(a:At) (σ:St) (H:Hp) (s:AK) (e:AJ) (s':AK),Inv X a σ H s->CX X.stack H s E e s'->X.xe e s'
section
variable {X:Cx}{CX:ZR}{k:Nat}{f C:AI}{fd:AL}{ps:AH}{sp:Sp}{qu:List V}{ds:AC}{E:XK}{x m:Str}{p pos apos:Pos}{e o:AN}{es:AG}{ta:TE}{t:TA}
theorem Xo{a:At}{σ:St}{H:Hp}{s:AK}{Q:VK}{us:AC}{vs:List V}(F:qy X.prog X.w X.K X.mg X.base CX k f fd ps sp)(hr:Room k X.A)(hb:Binds X.K fd ps ds)(hd:Vals qu ds)(hx:Passes CX X E)
  (I:Inv X a σ H s) (r:Vals vs us) (h:sp (vs++qu) H Q E):wpAny ς X.A (call (.ref f) us) (EP X a σ Q) X.xe s:=by
 have b:Vals (vs++qu) (us++ds):=r.append hd;have hl:(us++ds).length=ps.length:=by rw[<- b.length];exact F.len _ _ _ _ h
 refine wpAny_call (codeAny_mono (F.run X.A X.stack s H ⟨us,[]⟩ (us++ds) (vs++qu) Q E hr I.env0 (hb s us I.xH hl) b h) λr c hq=>?_);cases r with
 | error e=>exact hx a σ H s e c I hq
 | ok fl=>
  cases fl with
  | ret u=>exact I.after hq
  | next=>exact False.elim hq
  | brk=>exact False.elim hq
  | cont=>exact False.elim hq
theorem qP(F:qy X.prog X.w X.K X.mg X.base CX k f fd ps sp)(hr:Room k X.A)(hg:Gl X x)(hm:X.mg x=↑f)(hk:W.keepIn X.K (.ref f)=true)(hb:Binds X.K fd ps ds)(hd:Vals qu ds)(hx:Passes CX X E)
  (d:PA X (e::es) t) (b:(x == ("__debug__":Str))=false:=by decide) (i:starEach (e::es) X.env=(false,eval e X.env)::starEach es X.env:=by rfl) (c:(backTo pos dQ).any (·.1)=false:=by rfl):
  PE X (.Call (.Name x p) (e::es) [] pos) (aQ sp qu E t):=by
 intro a s g H Q I h;refine wpAny_Call_Name_kw (o9 I hg hm ?_ b);refine W.callWith_K (h₀:=X.base) I.ok.mod.kin hk eQ i c;exact Xo F hr hb hd hx I1 r q
theorem mY{pl:Sem Bool}(v:PE X o ta)(c:MP X.K C)(hm:Meth X.K C m f)(F:qy X.prog X.w X.K X.mg X.base CX k f fd ps sp)(hr:Room k X.A)(hb:Binds X.K fd ps ds)(hd:Vals qu ds)(hx:Passes CX X E)(p:PA X (e::es) t)
  (g:starEach (e::es) X.env=(false,eval e X.env)::starEach es X.env:=by rfl) (d:(backTo pos dQ).any (·.1)=false:=by rfl)
  (j:eval (.Call (.Attribute o m apos) (e::es) [] pos) X.env=(do
   let ov <- eval o X.env
   standAt apos.atName
   let (f,first) <- holding [ov] (getMethod ov m pl)
   callWith pos f first (backTo pos (starEach (e::es) X.env)) (backToKw pos (keywordEach [] X.env))):=by rfl):
  PE X (.Call (.Attribute o m apos) (e::es) [] pos) (gO C m sp qu E ta t):=by
 intro b s i H Q I h;refine W.methodCall_KW (pl:=pl) (gw (v b s i H _ I h) λu n qc=>?_) j;obtain⟨x,H1,I1,rx,a,dx,fs,ex,ea,l,q⟩:=qc;subst ex;obtain rfl:u=Value.ref a:=rx;refine QH I1 ea c hm l ?_;refine W.callWith_K (first:=[.ref a]) (h₀:=X.base) I.ok.mod.kin hm.kp (gw (p pos b n i H1 _ I1 q) λus y ⟨vs,H2,I2,r,q2⟩=>⟨I2.xH,?_⟩) g d;exact Xo (us:=.ref a::us) (vs:=.ref a::vs) F hr hb hd hx I2 (.cons rfl r) q2
theorem iB{pl:Sem Bool}(g:PE X o ta)(c:MP X.K C)(hm:Meth X.K C m f)(F:qy X.prog X.w X.K X.mg X.base CX k f fd ps sp)(hr:Room k X.A)(hb:Binds X.K fd ps ds)(hd:Vals qu ds)(hx:Passes CX X E)
  (d:eval (.Call (.Attribute o m apos) [] [] pos) X.env=(do
   let ov <- eval o X.env
   standAt apos.atName
   let (f,first) <- holding [ov] (getMethod ov m pl)
   callWith pos f first (backTo pos (starEach [] X.env)) (backToKw pos (keywordEach [] X.env))):=by rfl):
  PE X (.Call (.Attribute o m apos) [] [] pos) (gO C m sp qu E ta aD):=by
 intro b s e H Q I h;refine W.methodCall_KW (pl:=pl) (gw (g b s e H _ I h) λu i qc=>?_) d;obtain⟨x,H1,I1,rx,a,dx,fs,ex,ea,l,q⟩:=qc;subst ex;obtain rfl:u=Value.ref a:=rx;refine QH I1 ea c hm l ?_;exact W.callWith_K0 (first:=[.ref a]) I1.xH hm.kp (Xo (us:=[.ref a]) (vs:=[.ref a]) F hr hb hd hx I1 (.cons rfl .nil) q)
structure Mk(K:aB)(C f:AI):Prop where
 makes:W.makesIn K C=true
 init:W.findIn K (.ref C) "__init__"=some (↑f)
 fn:W.isFn K (.ref f)=true
 kp:W.keepIn K (.ref C)=true
theorem Za2{b:At}{σ:St}{H:Hp}{s:AK}{Q:VK}{us:AC}{vs:List V}(M:Mk X.K C f)(F:qy X.prog X.w X.K X.mg X.base CX k f fd ps sp)(hr:Room dG X.A)(hb:Binds X.K fd ps ds)(hd:Vals qu ds)
  (hx:Passes CX X E) (I:Inv X b σ H s) (r:Vals vs us)
  (h:∀x dx,H x=none->H dx=none->dx≠x->sp (.ref x::(vs++qu)) fo (λv i=>v=.non/\Q (.ref x) i) E):
  wpAny ς X.A (call (.ref C) us) (EP X b σ Q) X.xe s:=by
 have hq:=h ah s.heap.objs.size (I.hok.fresh (Nat.le_succ _)) (I.hok.fresh Δ) (Nat.ne_of_lt (Nat.lt_succ_self _));have c:=Inv.made (C:=C) I;have d:Vals (V.ref ah::(vs++qu)) (Value.ref ah::(us++ds)):=.cons rfl (r.append hd);have hl:(Value.ref ah::us++ds).length=ps.length:=by
  have e:=d.length;rw[F.len _ _ _ _ hq]at e;exact e.symm
 refine wpAny_call (Zla (f:=f) I.xH M.makes M.init (beq_iff_eq.mp M.fn) (codeAny_mono (F.run _ X.stack _ _ ⟨Value.ref ah::us,[]⟩ (Value.ref ah::(us++ds)) _ _ E (hr.make C us [])
  (c.env0.make C us []) (hb _ (Value.ref ah::us) c.xH hl) d hq) λr n a=>?_))
 cases r with
 | error e=>exact hx b σ _ _ e n c a
 | ok fl=>
  cases fl with
  | ret u=>
   obtain⟨v,g,l,j,ev,m⟩:=c.after a;subst ev;exact⟨j,⟨V.ref ah,g,l,rfl,m⟩⟩
  | next=>exact False.elim a
  | brk=>exact False.elim a
  | cont=>exact False.elim a
theorem qN(M:Mk X.K C f)(F:qy X.prog X.w X.K X.mg X.base CX k f fd ps sp)(hr:Room dG X.A)(hg:Gl X x)(hm:X.mg x=↑C)(hb:Binds X.K fd ps ds)(hd:Vals qu ds)(hx:Passes CX X E)
  (d:PA X (e::es) t) (b:(x == ("__debug__":Str))=false:=by decide) (i:starEach (e::es) X.env=(false,eval e X.env)::starEach es X.env:=by rfl) (c:(backTo pos dQ).any (·.1)=false:=by rfl):
  PE X (.Call (.Name x p) (e::es) [] pos) (qC C sp qu E t):=by
 intro a s g H Q I h;refine wpAny_Call_Name_kw (o9 I hg hm ?_ b);refine W.callWith_K (h₀:=X.base) I.ok.mod.kin M.kp eQ i c;exact Za2 M F hr hb hd hx I1 r q
theorem Zkc(M:Mk X.K C f)(F:qy X.prog X.w X.K X.mg X.base CX k f fd ps sp)(hr:Room dG X.A)(hg:Gl X x)(hm:X.mg x=↑C)(hb:Binds X.K fd ps ds)(hd:Vals qu ds)(hx:Passes CX X E)
  (a:(x == ("__debug__":Str))=false:=by decide):PE X (.Call (.Name x p) [] [] pos) (qC C sp qu E aD):=by
 intro b s c H Q I h;refine wpAny_Call_Name_kw (o9 I hg hm ?_ a);exact W.callWith_K0 I.xH M.kp (Za2 (us:=[]) M F hr hb hd hx I .nil h)
end
section
variable {X:Cx}{CX:ZR}{k:Nat}{f C:AI}{fd:AL}{ps ks:AH}{sp:Sp}{E:XK}{x m:Str}{p pos apos kpos:Pos}{e o:AN}{es:AG}{kws:List Keyword}{te ta:TE}{t tk:TA}{nm:Option Str}
structure Zze(K:aB)(fd:AL)(ps ks:AH)(g:AC->AC->AC)(gV:List V->List V->List V):Prop where
 to:∀(s:AK) (us ws:AC),K.In s.heap->(g us ws).length=ps.length->BindsTo s fd ⟨us,ks.zip ws⟩ (ps.zip (g us ws))
 rel:∀{vs:List V}{us:AC}{zs:List V}{ws:AC},Vals vs us->Vals zs ws->Vals (gV vs zs) (g us ws)
variable {g:AC->AC->AC}{gV:List V->List V->List V}
end
structure aP(N P:AH)(sc:Scope):Prop where
 kind:sc.kind=.function
 co:sc.isCoroutine=false
 gen:sc.isGenerator=false
 nd:N.Nodup
 pre:N.take P.length=P
 par:∀x∈P,sc.names.lookup x=some .local\/sc.names.lookup x=some .cell
 Zrm:∀y∈sc.names,y.2≠.free
theorem WQ{kindOf:Str->Option NameKind}{x:Str}:∀{binds:List (Str×AJ)}{m:As},(∀v,(x,v)∉binds)->bindL kindOf binds m x=m x
 | [],_,_=>rfl
 | (n,v)::r,m,h=>by
  unfold bindL;rw[WQ λw a=>h w (List.mem_cons_of_mem _ a)];split
  ·have:x≠n:=by rintro rfl;exact h v List.mem_cons_self
   simp[this]
  ·rfl
theorem WW{kindOf:Str->Option NameKind}{x:Str}:∀{binds:List (Str×AJ)}{m:As},(∀v,(x,v)∉binds)->bindC kindOf binds m x=m x
 | [],_,_=>rfl
 | (n,v)::r,m,h=>by
  unfold bindC;rw[WW λw a=>h w (List.mem_cons_of_mem _ a)];split
  ·rfl
  ·have:x≠n:=by rintro rfl;exact h v List.mem_cons_self
   simp[this]
theorem WR{kindOf:Str->Option NameKind}{x:Str}{v:AJ}:∀{P:AH}{vs:AC}{i:Nat}{m:As},P.Nodup->P[i]? =some x->vs[i]? =some v->kindOf x=some .local->
  bindL kindOf (P.zip vs) m x=some v
 | [],_,_,_,_,h,_,_=>by simp at h
 | _::_,[],_,_,_,_,h,_=>by simp at h
 | p::P,w::vs,0,m,nd,h1,h2,hk=>by
  simp at h1 h2;subst h1;subst h2;show bindL kindOf ((p,w)::P.zip vs) m p=_;unfold bindL;rw[WQ λv hv=>(List.nodup_cons.mp nd).1 (List.of_mem_zip hv).1,if_pos hk];simp
 | p::P,w::vs,i+1,m,nd,h1,h2,hk=>by
  show bindL kindOf ((p,w)::P.zip vs) m x=_;unfold bindL;exact WR (i:=i) (List.nodup_cons.mp nd).2 (by simpa using h1) (by simpa using h2) hk
theorem WX{kindOf:Str->Option NameKind}{x:Str}{v:AJ}:∀{P:AH}{vs:AC}{i:Nat}{m:As},P.Nodup->P[i]? =some x->vs[i]? =some v->kindOf x≠some .local->
  bindC kindOf (P.zip vs) m x=some v
 | [],_,_,_,_,h,_,_=>by simp at h
 | _::_,[],_,_,_,_,h,_=>by simp at h
 | p::P,w::vs,0,m,nd,h1,h2,hk=>by
  simp at h1 h2;subst h1;subst h2;show bindC kindOf ((p,w)::P.zip vs) m p=_;unfold bindC;rw[WW λv hv=>(List.nodup_cons.mp nd).1 (List.of_mem_zip hv).1,if_neg hk];simp
 | p::P,w::vs,i+1,m,nd,h1,h2,hk=>by
  show bindC kindOf ((p,w)::P.zip vs) m x=_;unfold bindC;exact WX (i:=i) (List.nodup_cons.mp nd).2 (by simpa using h1) (by simpa using h2) hk
def start(N:AH)(vs:List V):St:=vs.map some++List.replicate (N.length - vs.length) none
def HD(CX:ZR)(P:AM)(w:AO)(K:aB)(mg:As)(base:Heap)(N:AH)(b:Str)(a:Scope)(f:AI)(cd:AJ)(A:Around)(outer:List Env)(s:AK)(H:Hp)(E:XK):Cx where
 prog:=P
 w:=w
 K:=K
 mg:=mg
 base:=base
 A:=A.deeper (envOfC b a s.heap.objs.size f cd)
 N:=N
 s₀:=s
 H₀:=H
 env:=envOfC b a s.heap.objs.size f cd
 outer:=outer
 stack:=envOfC b a s.heap.objs.size f cd::outer
 ex:=[]
 calm:=true
 fn:=λ_=>true
 pn:=[]
 xe:=λe s'=>wpAny (model P w) (A.deeper (envOfC b a s.heap.objs.size f cd)) (leaving (envOfC b a s.heap.objs.size f cd) e) (λ_ c=>CX outer H s E e c) (λd c=>CX outer H s E d c) s'
theorem Zc4{a:Scope}{n:Nat}{x:Str}(h:a.names.lookup x=some .cell):∃c,(cellsFrom n a.names []).lookup x=some c:=by
 have q:=W.cellsFrom_some a.names n [] (.inl h);exact Option.isSome_iff_exists.mp q
theorem Zi1{CX:ZR}{P:AM}{w:AO}{K:aB}{mg:As}{base:Heap}{N ps:AH}{g:Str}{d:Scope}{f:AI}{cd:AJ}{A:Around}{outer:List Env}{s o:AK}{H:Hp}{E:XK}{us:AC}{vs:List V}
  (S:aP N ps d) (hd:A.handled=none) (j:Zf8 P w K mg base A outer s H) (hl:vs.length=ps.length) (r:Vals vs us)
  (x:InCallC s s.heap.objs.size (bindL (envOfC g d s.heap.objs.size f cd).kindOf (ps.zip us) λ_=>none) (cellsFrom ah d.names []) (bindC (envOfC g d s.heap.objs.size f cd).kindOf (ps.zip us) λ_=>none) o):
  Inv (HD CX P w K mg base N g d f cd A outer s H E) [] (start N vs) H o:=by
 have C:ps.length<=N.length:=by have:=congrArg List.length S.pre;rw[List.length_take]at this;omega
 obtain⟨h1,tk,rfl,hk⟩:=x.done;have l:∀b:AI,b∉(HD CX P w K mg base N g d f cd A outer s H E).ex:=λb z=>absurd (show b∈([]:AF)from z) ζ;refine⟨⟨j.mod,S.kind,rfl,rfl,Nat.le_refl _,λy z c h1 h2=>?_,λy hy=>?_,λy c _ h=>?_,λ_=>hd,Around.frames_deeper j.frames,.inr ⟨rfl,rfl⟩,λb z=>absurd z (l b),j.bs,j.bsz,λb _ _=>l b,λb z=>absurd z (l b),j.uR,j.frf⟩,
  rfl,j.bare,Un.kept hk,⟨_,x.toInCall.ns,λi y v h1 h2 D=>?_⟩,λy c h=>⟨_,x.cell y c h⟩,j.hok.fresh Δ,λy c h=>?_,λp hp=>absurd (show p∈([]:At)from hp) ζ,j.hok.kept hk,?_⟩
 ·exact name_of_addr x.apart (PySem.mem_of_lookup h1) (PySem.mem_of_lookup h2)
 ·have hy:d.names.lookup y=some .cell\/d.names.lookup y=some .free:=hy;rcases hy with hy | hy
  ·exact Zc4 hy
  ·exact absurd rfl (S.Zrm _ (PySem.mem_of_lookup hy))
 ·exact Nat.le_of_lt (x.above y c (PySem.mem_of_lookup h))
 ·have hi:i<vs.length:=by
   unfold start at h2
   by_cases hi:i<vs.length
   ·exact hi
   ·rw[List.getElem?_append_right (by simpa using hi)]at h2;rw[List.getElem?_replicate]at h2;split at h2<;>cases h2
  have B:vs[i]? =some v:=by
   unfold start at h2;rw[List.getElem?_append_left (by simpa using hi),cz]at h2;cases e:vs[i]? with
   | none=>rw[e]at h2;cases h2
   | some a=>rw[e]at h2;cases h2;rfl
  obtain⟨u,hu,t⟩:=r.get B;have hp:ps[i]? =some y:=by
   rw[<- S.pre,List.getElem?_take_of_lt δ];exact h1
  have m:ps.Nodup:=by rw[<- S.pre];exact S.nd.sublist (List.take_sublist _ _)
  refine⟨u,t,?_⟩;rcases S.par y (List.mem_of_getElem? hp)with k | k
  ·exact .inl ⟨k,WR m hp hu k⟩
  ·obtain⟨c,e⟩:=Zc4 (n:=s.heap.objs.size+1) k;refine .inr ⟨.inl k,c,e,?_⟩;have q:=x.cell y c e;rw[WX m hp hu (by show d.names.lookup y≠_;rw[k];decide)]at q;exact q
 ·exact j.hok.fresh (Nat.le_of_lt (x.above y c (PySem.mem_of_lookup h)))
 ·unfold start;show _=N.length;rw[List.length_append,aU,List.length_replicate];omega
theorem Zma{CX:ZR}{P:AM}{w:AO}{K:aB}{mg:As}{base:Heap}{k:Nat}{f:AI}{name c:Str}{g:Arguments}{h:List Stmt}{a:Scope}{dV kV p pm d ct oc:AJ}{M od:Option AI}
  {F:Array AB}{N ps:AH}{sp:Sp} (lk:K.lookup f=some ⟨oc,od,.func (W.fnOf name c g h a dV kV p pm M d ct),F⟩) (L:W.codeIn K d c=true) (S:aP N ps a)
  (len:∀vs H Q E,sp vs H Q E->vs.length=ps.length)
  (l:∀(A:Around) (outer:List Env) (s:AK) (H:Hp) (vs:List V) (Q:VK) (E:XK),Room k (A.deeper (envOfC c a s.heap.objs.size f d))->sp vs H Q E->
   ∃t,ZP (HD CX P w K mg base N c a f d A outer s H E) h t/\t { nx:=λ_ H'=>Q .non H',rt:=Q } (start N vs) H):
  qy P w K mg base CX dG f (W.fnOf name c g h a dV kV p pm M d ct) ps sp:=by
 refine⟨len,λA outer s H T us vs Q E hr m hb r z=>?_⟩;have hl:=len _ _ _ _ z;have R:K.In s.heap:=m.mod.kin.keeps λb o e=>(m.bs b o e).1;have B:s.heap.NoLimit:=m.mod.nolimit.keeps λb o e=>(m.bs b o e).1;have j:∀y∈ps.zip us,a.names.lookup y.1=some .local\/(a.names.lookup y.1=some .cell/\((cellsFrom ah a.names []).lookup y.1).isSome=true):=λ⟨n,v⟩ hy=>by
  rcases S.par n (List.of_mem_zip hy).1 with q | q
  ·exact .inl q
  ·exact .inr ⟨q,W.cellsFrom_some _ _ _ (.inl q)⟩
 refine codeAny_call_function hr.depth (R _ _ lk) rfl S.co S.gen rfl (W.codeRec_of R L) (hb _ _ _ _ ?_);refine wpAny_newFunctionEnv_cells S.kind j λenv X O x=>?_;subst X;refine⟨B.keeps x.toInCall.keep,codeAny_func ?_⟩;obtain⟨t,U,hq⟩:=l A outer s H vs Q E (hr.deeper _) z;have I:Inv (HD CX P w K mg base N c a f d A outer s H E) [] (start N vs) H O:=Zi1 S hr.hd m hl r x;refine wpAny_mono (U [] O (start N vs) H _ I hq) (λfl D hs=>?_) λe D hs=>hs;have fin:∀{i:St}{H':Hp}{v:V}{u:AJ},Inv (HD CX P w K mg base N c a f d A outer s H E) [] i H' D->RelV v u->Q v H'->CE outer P w H s Q u D:=
  λ{i H' v u} J C q=>⟨v,H',J.os,J.bare,J.base,J.hok,C,q⟩
 cases fl with
 | ret u=>
  obtain⟨v,i,H',J,C,q⟩:=hs;exact fin J C q
 | next=>
  obtain⟨i,H',J,q⟩:=hs;exact fin (v:=V.non) (u:=Value.none) J rfl q
 | brk=>
  obtain⟨_,_,_,q⟩:=hs;exact False.elim q
 | cont=>
  obtain⟨_,_,_,q⟩:=hs;exact False.elim q
section
variable {X:Cx}{x:Str}{p pos:Pos}{e:AN}{es:AG}{t:TA}{id T:String}{r:List V->Hp->VK->Prop}
def oF(r:List V->Hp->VK->Prop)(t:TA):TE:=λσ H Q=>t σ H λvs a=>r vs a Q
theorem bM(hc:yq X (.builtin id) r)(hg:Gl X x)(hm:X.mg x=none)(hv:bootBuiltins x=some (.builtin id))(i:PA X (e::es) t)(hn:x≠"__name__":=by decide)(b:(x == ("__debug__":Str))=false:=by decide)
  (j:starEach (e::es) X.env=(false,eval e X.env)::starEach es X.env:=by rfl) (c:(backTo pos dQ).any (·.1)=false:=by rfl):PE X (.Call (.Name x p) (e::es) [] pos) (oF r t):=by
 intro a s d H Q I h;refine wpAny_Call_Name_kw (Qi I hg hm hv ?_ hn b);exact PyProof.Rows.callWith_builtin1 (gw (i pos a s d H _ I h) (by rintro us f ⟨g,H1,I1,r1,q1⟩;exact hc a f d H1 g us Q I1 r1 q1)) j c
theorem mF(hc:yq X (.type T) r)(hg:Gl X x)(hm:X.mg x=none)(hv:bootBuiltins x=some (.type T))(i:PA X (e::es) t)(hn:x≠"__name__":=by decide)(b:(x == ("__debug__":Str))=false:=by decide)
  (j:starEach (e::es) X.env=(false,eval e X.env)::starEach es X.env:=by rfl) (c:(backTo pos dQ).any (·.1)=false:=by rfl):PE X (.Call (.Name x p) (e::es) [] pos) (oF r t):=by
 intro a s d H Q I h;refine wpAny_Call_Name_kw (Qi I hg hm hv ?_ hn b);exact PyProof.Rows.callWith_type1 (gw (i pos a s d H _ I h) (by rintro us f ⟨g,H1,I1,r1,q1⟩;exact hc a f d H1 g us Q I1 r1 q1)) j c
end
end L2
namespace HT
open PySem PyProof.Rows
section
open PySem.SeqAt
open PySem.AutoSeq1 (wpAny_loadPart')
open PySem.MeetsSeq PySem.MeetsSeq2 PySem.MeetsSeq3
end
section
variable {prog:AM}{w:AO}{A:Around}{E:Ap}{s:AK}
theorem Zpi{t b:AI}{vs a:AC}{Q:Ap}(o:IsTup s.heap t vs.toArray)(hb:IsTup s.heap b a.toArray)(hv:vs≠[])
  (h1:a=[]->Q (.ref t) s) (h2:a≠[]->Q (.ref s.heap.objs.size) { s with heap:=s.heap.push { cls:=.type "tuple",data:=.seq (vs++a).toArray } })
  (hsz:vs.length+a.length<=sizeLine):wpAny ad A (binaryOp .Add (.ref t) (.ref b)) Q E s:=by
 obtain⟨⟨p,m,l,sl⟩,i,hc,n,hd⟩:=id o;obtain⟨⟨k,h,data2,d⟩,c,g,n2,f⟩:=id hb;simp only at hc hd g f;subst hc hd g f;have e:vs.toArray++a.toArray=(vs++a).toArray:=ζ
 by_cases j:a=[]
 ·exact concat_meets ⟨_,i,rfl⟩ ⟨_,c,rfl⟩ noFill_tuple_add seq_tuple_add PySem.F.slot_tuple_add PySem.F.entry_tuple_add (PySem.F.args_tuple_add_2 _ _)
   (tuple_addW1 t b vs.toArray a.toArray n n2 m h sl d (by simpa using hv) (by simp[j])) ⟨i,c,h1 j⟩
 ·refine concat_meets ⟨_,i,rfl⟩ ⟨_,c,rfl⟩ noFill_tuple_add seq_tuple_add PySem.F.slot_tuple_add PySem.F.entry_tuple_add (PySem.F.args_tuple_add_2 _ _)
   (tuple_addW2 t b vs.toArray a.toArray n n2 m h sl d (by simpa using hv) (by simpa using j) (by rw[List.size_toArray,List.size_toArray];exact hsz)) ⟨i,c,?_⟩
  rw[e];exact h2 j
def lZ(n d:Nat):AA->Nat
 | none=>d
 | some v=>if v<0 then(v+(n:Int)).toNat else min v.toNat n
theorem Zr6(n d:Nat)(hd:d<=n)(o:AA):lZ n d o<=n:=by
 cases o with
 | none=>exact hd
 | some v=>
  show(if v<0 then(v+(n:Int)).toNat else min v.toNat n)<=n
  by_cases hv:v<0
  ·rw[if_pos hv];omega
  ·rw[if_neg hv];exact Nat.min_le_right _ _
theorem Zgj(v:Int)(n d:Nat):(if v<0 then max (v+(n:Int)) 0 else min v (n:Int))=((lZ n d eW:Nat):Int):=by
 show(if v<0 then max (v+(n:Int)) 0 else min v (n:Int))=(((if v<0 then(v+(n:Int)).toNat else min v.toNat n):Nat):Int)
 by_cases hv:v<0
 ·simp only[if_pos hv];omega
 ·simp only[if_neg hv];omega
theorem Zey(lo hi:AA)(n:Nat):Builtin.Slice.sliceAdjust lo hi 1 (n:Int)=(((lZ n 0 lo:Nat):Int),((lZ n n hi:Nat):Int)):=by
 have h1:¬ ((1:Int)<0):=δ
 unfold Builtin.Slice.sliceAdjust;simp only[h1,if_false];refine Prod.ext ?_ ?_
 ·cases lo with
  | none=>rfl
  | some v=>exact Zgj v n 0
 ·cases hi with
  | none=>rfl
  | some v=>exact Zgj v n n
theorem Zd9(i j:Nat):Builtin.Slice.slicePlaces (i:Int) (j:Int) 1=j - i:=by
 unfold Builtin.Slice.slicePlaces;have h1:(1:Int) > 0:=δ
 simp only[h1,if_true,Int.ediv_one];split<;>omega
theorem Nr{v:AJ}{o:AA}{Q:AA->AK->Prop}(p:IsPart v o)(h:Q o s):wpAny ad A (Builtin.Slice.slicePartIndex v) Q E s:=by
 cases p with
 | none=>exact slicePart_none h
 | int i t=>exact slicePart_int h
theorem GZ{sl:AI}{c d:AJ}{lo hi:AA}{n:Nat}{Q:Int×Int×Nat->AK->Prop}(hs:s.heap.IsSliceOf sl c d .none)(pl:IsPart c lo)(e:IsPart d hi)
  (h:Q (((lZ n 0 lo:Nat):Int),1,lZ n n hi - lZ n 0 lo) s):wpAny ad A (Builtin.Slice.sliceApplied (.ref sl) (pure (n:Int))) Q E s:=by
 obtain⟨os,b,f,a⟩:=id hs;unfold Builtin.Slice.sliceApplied Builtin.Slice.sliceFields;refine wpAny_bind (wpAny_bind (wpAny_field b a (x:=c) rfl (wpAny_bind (wpAny_field b a (x:=d) rfl (wpAny_bind (wpAny_field b a (x:=.none) rfl (wpAny_pure ?_)))))));refine wpAny_bind (slicePart_none ?_);show wpAny _ _ (if ((1:Int) == 0)=true then _ else _) _ _ s;rw[if_neg ε];refine wpAny_bind (Nr pl (wpAny_bind (Nr e (wpAny_bind (wpAny_pure ?_)))));show wpAny _ _ (match Builtin.Slice.sliceAdjust lo hi 1 (n:Int)with | (lo,hi)=>pure (lo,(1:Int),Builtin.Slice.slicePlaces lo hi 1)) _ _ s;rw[Zey lo hi n];show wpAny _ _ (pure (((lZ n 0 lo:Nat):Int),(1:Int),Builtin.Slice.slicePlaces ((lZ n 0 lo:Nat):Int) ((lZ n n hi:Nat):Int) 1)) _ _ s;rw[Zd9];exact wpAny_pure h
theorem Zk8(xs:Array AJ)(i k:Nat):((List.range k).filterMap λ(m:Nat)=>xs[((i:Int)+(m:Int) * 1).toNat]?).toArray=((xs.toList.drop i).take k).toArray:=by
 have e:(λ(m:Nat)=>xs[((i:Int)+(m:Int) * 1).toNat]?)=λm=>xs[i+m]? :=by
  funext m
  have:((i:Int)+(m:Int) * 1).toNat=i+m:=δ
  rw[this]
 rw[e];have:=pick_run xs i k;rw[List.filterMap_map]at this;have a:((λx=>xs[x]?) ∘ λx=>i+x)=λm=>xs[i+m]? :=rfl;rw[a]at this;rw[this]
theorem Fy{t sl:AI}{a:Array AJ}{i j:AJ}{lo hi:AA}{Q:Ap}(c:IsTup s.heap t a)(hs:s.heap.IsSliceOf sl i j .none)(pl:IsPart i lo)(l:IsPart j hi)
  (k:¬ (lZ a.size 0 lo=0/\lZ a.size a.size hi=a.size))
  (h:Q (.ref s.heap.objs.size) { s with heap:=s.heap.push { cls:=.type "tuple",data:=.seq ((a.toList.drop (lZ a.size 0 lo)).take (lZ a.size a.size hi - lZ a.size 0 lo)).toArray } })
  (hsz:a.size<=sizeLine):wpAny ad A (getItem (.ref t) (.ref sl)) Q E s:=by
 have b:sizeOk (.seq ((a.toList.drop (lZ a.size 0 lo)).take (lZ a.size a.size hi - lZ a.size 0 lo)).toArray):=by
  show((a.toList.drop (lZ a.size 0 lo)).take (lZ a.size a.size hi - lZ a.size 0 lo)).toArray.size<=sizeLine;rw[List.size_toArray,List.length_take,List.length_drop,Array.length_toList];omega
 have o:lZ a.size a.size hi<=a.size:=Zr6 _ _ Δ hi;obtain⟨os,e,g,n⟩:=id hs;have f:s.TypeIs (.ref sl) "slice":=⟨os,e,g⟩;unfold getItem
 try with_reducible refine wpAny_holding ?_
 first | refine wpAny_bind (wpAny_pure ?_) | skip
 refine wpAny_bind (wpAny_sequenceKey c.typeIs ε ?_);refine wpAny_bind (wpAny_callSpecial?_slot (name:=Str.ofString "__getitem__") c.typeIs PyProof.Rows.slot_tuple_getitem
  (wpAny_call_entry PyProof.Rows.slot_tuple_getitem c.typeIs entry_tuple_getitem ?_ (args_tuple_getitem _ _)))
 show wpAny _ _ (Builtin.Tuple.tupleItemsOf (.ref t) >>= _) _ _ s;refine wpAny_bind (tupleItemsOf_ c ?_);refine wpAny_bind (wpAny_typeOf f ?_);rw[if_pos ε];refine wpAny_bind (GZ hs pl l ?_);have d:¬ ((((lZ a.size 0 lo:Nat):Int) == 0 && (1:Int) == 1 && (lZ a.size a.size hi - lZ a.size 0 lo) == a.size)=true):=by
  intro q;rw[Bool.and_eq_true,Bool.and_eq_true]at q;have p:((lZ a.size 0 lo:Nat):Int)=0:=eq_of_beq q.1.1;have r:lZ a.size a.size hi - lZ a.size 0 lo=a.size:=eq_of_beq q.2;exact k ⟨δ,δ⟩
 show wpAny _ _ (if (((lZ a.size 0 lo:Nat):Int) == 0 && (1:Int) == 1 && (lZ a.size a.size hi - lZ a.size 0 lo) == a.size)=true then _ else _) _ _ s;rw[if_neg d,Zk8]
 first
  | exact wpAny_bind (m:=Builtin.Tuple.tupleExact _) (wpAny_newObj_type (wpAny_pure ⟨_,rfl,wpAny_pure h⟩) b)
  | exact wpAny_bind (m:=Builtin.Tuple.tupleExact _) (wpAny_newObj_type (wpAny_bind (wpAny_pure (wpAny_pure ⟨_,rfl,wpAny_pure h⟩))) b)
  | exact wpAny_bind (wpAny_bind (m:=Builtin.Tuple.tupleExact _) (wpAny_newObj_type (wpAny_pure (wpAny_pure ⟨_,rfl,wpAny_pure h⟩)) b))
  | exact wpAny_bind (wpAny_bind (m:=Builtin.Tuple.tupleExact _) (wpAny_newObj_type (wpAny_pure ⟨_,rfl,wpAny_pure h⟩) b))
end
end HT
namespace L2
open PySem PySem.Spec PyProof.Rows
abbrev TO:=St->Hp->(AA->Hp->Prop)->Prop
def PO(X:Cx)(e:Option AN)(t:TO):Prop:=
 ∀(a:At) (s:AK) (σ:St) (H:Hp) (Q:AA->Hp->Prop),Inv X a σ H s->t σ H Q->
  wpAny ς X.A (evalPart e X.env) (λu s'=>∃o H',Inv X a σ H' s'/\IsPart u o/\Q o H') X.xe s
def Ml:TO:=λ_ H Q=>Q none H
def U5(t:TE):TO:=λσ H Q=>t σ H λx a=>∃i,x=.int i/\Q (some i) a
section
variable {X:Cx}{e:AN}{te:TE}{lo hi:Option AN}{tl th:TO}{pos p2:Pos}
theorem Zfs:PO X none Ml:=by
 intro a s b H Q I h;rw[evalPart_none];exact wpAny_pure ⟨none,H,I,.none,h⟩
theorem Mr(h:PE X e te):PO X (some e) (U5 te):=by
 intro a s b H Q I c;rw[evalPart_some];refine gw (h a s b H _ I c) λu d qc=>?_;obtain⟨x,H1,I1,r1,q1⟩:=qc;obtain⟨i,rfl,q⟩:=q1;obtain⟨t,rfl⟩:=r1;exact⟨some i,H1,I1,.int i t,q⟩
def SlR(X:Cx)(r:V->AA->AA->Hp->VK->Prop):Prop:=
 ∀(a:At) (s:AK) (σ:St) (H:Hp) (x:V) (v b c:AJ) (lo hi:AA) (sl:AI) (Q:VK),Inv X a σ H s->RelV x v->s.heap.IsSliceOf sl b c .none->IsPart b lo->IsPart c hi->r x lo hi H Q->
  ∃T id,typeLookup (.type T) "__getitem__"=pure (some (.builtin id))/\s.TypeIs v T/\wpAny ς X.A (getItem v (.ref sl)) (EP X a σ Q) X.xe s
def tSl(r:V->AA->AA->Hp->VK->Prop)(te:TE)(tl th:TO):TE:=λσ H Q=>te σ H λx b=>tl σ b λl a=>th σ a λu c=>r x l u c Q
theorem Oq{r:V->AA->AA->Hp->VK->Prop}(hr:SlR X r)(o:PE X e te)(hl:PO X lo tl)(hu:PO X hi th):PE X (.Subscript e (.Slice lo hi none p2) pos) (tSl r te tl th):=by
 intro a s d H Q I h;refine Subscript_ (gw (o a s d H _ I h) λv n qc=>?_);obtain⟨x,H1,I1,r1,q1⟩:=qc;refine wpAny_Slice (gw (hl a n d H1 _ I1 q1) λf j ⟨l,H2,I2,pl,q2⟩=>gw (hu a j d H2 _ I2 q2) λg c qc=>?_);obtain⟨u,H3,I3,pu,q3⟩:=qc;rw[evalPart_none];refine wpAny_pure ?_;have i:Inv X a d H3 { c with heap:=c.heap.push { cls:=.type "slice",data:=.fields #[f,g,.none] } }:=I3.kept (t':=c.toks) λb ob q=>Heap.get?_push_of_some _ q;obtain⟨T,id,m,k,hg⟩:=hr a { c with heap:=c.heap.push { cls:=.type "slice",data:=.fields #[f,g,.none] } } d H3 x v f g l u c.heap.objs.size Q i r1 (Heap.IsSliceOf.new ..) pl pu q3;show wpAny ς X.A (subscriptTail e (.Slice lo hi none p2) v (.ref c.heap.objs.size)) (EP X a d Q) X.xe { c with heap:=c.heap.push { cls:=.type "slice",data:=.fields #[f,g,.none] } };exact tail_any (ops:=[.ref c.heap.objs.size,v]) k m hg cN
def TV(xs:List V)(lo hi:AA):List V:=(xs.drop (HT.lZ xs.length 0 lo)).take (HT.lZ xs.length xs.length hi - HT.lZ xs.length 0 lo)
theorem K6(xs:List V)(lo hi:AA):(TV xs lo hi).length<=xs.length:=by
 unfold TV;rw[List.length_take,List.length_drop];omega
def Zr8(K:aB):V->AA->AA->Hp->VK->Prop:=λx lo hi H Q=>∃a xs,x=.ref a/\dB K H a xs/\
 ¬ (HT.lZ xs.length 0 lo=0/\HT.lZ xs.length xs.length hi=xs.length)/\∀p,H p=none->Q (.ref p) (upd H p (.tup (TV xs lo hi)))
theorem Zjm:SlR X (Zr8 X.K):=by
 intro g s p H x v m n lo hi sl Q I k hs l j h;obtain⟨a,d,rfl,hx,i,q⟩:=h;cases k;obtain⟨e,r,f,hz⟩:=I.tuple hx;have c:e.toArray.size=d.length:=by rw[List.size_toArray];exact r.length.symm
 refine⟨"tuple",_,PyProof.Rows.slot_tuple_getitem.lookup,f.typeIs,?_⟩;refine HT.Fy f hs l j (by rw[c];exact i) ?_ (by rw[c];exact hz);rw[c];refine⟨.ref s.heap.objs.size,_,I.laid (t':=s.toks) (o:=.tup (TV d lo hi)) (λb ob q=>Heap.get?_push_of_some _ q) Δ ?_,rfl,q _ (I.hok.fresh Δ)⟩;exact⟨Nat.le_trans (K6 d lo hi) hz,_,(r.drop (HT.lZ d.length 0 lo)).take (HT.lZ d.length d.length hi - HT.lZ d.length 0 lo),IsTup.new _ _⟩
def Zq2(K:aB):R2:=λx y H Q=>∃a b xs c,x=.ref a/\y=.ref b/\dB K H a xs/\dB K H b c/\xs≠[]/\xs.length+c.length<=sizeLine/\
 (c=[]->Q (.ref a) H)/\(c≠[]->∀p,H p=none->Q (.ref p) (upd H p (.tup (xs++c))))
theorem Vals.X6{xs:List V}{us:AC}(r:Vals xs us):us=[]↔xs=[]:=by
 cases r with
 | nil=>simp
 | cons _ _=>simp
theorem Zo6:uz X (binaryOp .Add) (Zq2 X.K):=by
 intro f s t H x y v u Q I m j h;obtain⟨a,b,l,g,rfl,rfl,k,hb,hx,hz,i,p⟩:=h;cases m;cases j;obtain⟨n,d,r,_⟩:=I.tuple k;obtain⟨e,c,p2,_⟩:=I.tuple hb;refine HT.Zpi r p2 (λz=>hx (d.X6.mp z)) (λz=>⟨.ref a,H,I,rfl,i (c.X6.mp z)⟩) da (by rw[<- d.length,<- c.length];exact hz);refine⟨.ref s.heap.objs.size,_,I.laid (t':=s.toks) (o:=.tup (l++g)) (λb ob q=>Heap.get?_push_of_some _ q) Δ ?_,rfl,p (λw=>z (c.X6.mpr w)) _ (I.hok.fresh Δ)⟩;exact⟨by rw[List.length_append];exact hz,_,d.append c,IsTup.new _ _⟩
end
def ixN(n:Nat)(i:Int):Option Nat:=if 0<=i then(if i<n then some i.toNat else none)else if -(n:Int)<=i then some (i+n).toNat else none
def TY{a:Type}(xs:List a)(i:Int):Option a:=(ixN xs.length i).bind λj=>xs[j]?
theorem Zg3{n:Nat}{i:Int}{j:Nat}(h:ixN n i=some j):seqIndex? i n=some j/\j<n/\-(n:Int)<=i/\i<n:=by
 unfold ixN at h
 by_cases a:0<=i
 ·rw[if_pos a]at h
  by_cases h1:i<n
  ·rw[if_pos h1]at h;have e:i.toNat=j:=Option.some.inj h;exact⟨by rw[seqIndex_of a h1,e],δ,δ,h1⟩
  ·rw[if_neg h1]at h;cases h
 ·rw[if_neg a]at h
  by_cases h1:-(n:Int)<=i
  ·rw[if_pos h1]at h;have e:(i+n).toNat=j:=Option.some.inj h;exact⟨by rw[seqIndex_neg δ h1,e],δ,h1,δ⟩
  ·rw[if_neg h1]at h;cases h
theorem Za{a:Type}{xs:List a}{i:Int}{v:a}(h:TY xs i=some v):∃j,seqIndex? i xs.length=some j/\xs[j]? =some v/\j<xs.length/\-(xs.length:Int)<=i/\i<xs.length:=by
 unfold TY at h;cases e:ixN xs.length i with
 | none=>rw[e]at h;cases h
 | some j=>
  rw[e]at h;obtain⟨h1,h2,b,h4⟩:=Zg3 e;exact⟨j,h1,h,h2,b,h4⟩
theorem gm{a:Type}{xs:List a}{j:Nat}{v:a}(h:xs[j]? =some v):TY xs (j:Int)=some v:=by
 have b:j<xs.length:=(cP h).1;have e:ixN xs.length (j:Int)=some j:=by
  unfold ixN;rw[if_pos δ,if_pos δ];simp
 unfold TY;rw[e];exact h
theorem Zn3{a:Type}(xs:List a)(v:a):TY (xs++[v]) (-1)=some v:=by
 have hl:(xs++[v]).length=xs.length+1:=ζ
 have e:ixN (xs++[v]).length (-1)=some xs.length:=by
  unfold ixN;rw[hl,if_neg ε,if_pos δ];congr 1;omega
 unfold TY;rw[e];show(xs++[v])[xs.length]? =some v;simp
def Zgu(b:AN):Prop:=∀o i,subscripted b false o i=operate [o,i] (getItem o i)
def IxR(X:Cx)(r:R2):Prop:=
 ∀(c a:AN) (b:At) (s:AK) (σ:St) (H:Hp) (x y:V) (v u:AJ) (Q:VK),Inv X b σ H s->RelV x v->RelV y u->r x y H Q->
  subscripted a false v u=operate [v,u] (getItem v u)->wpAny ς X.A (subscriptTail c a v u) (EP X b σ Q) X.xe s
def MtR(X:Cx)(id:String)(r:V->List V->Hp->VK->Prop):Prop:=
 ∀(a:At) (s:AK) (σ:St) (H:Hp) (x:V) (xs:List V) (v:AJ) (us:AC) (Q:VK),Inv X a σ H s->RelV x v->Vals xs us->r x xs H Q->
  wpAny ς X.A (call (.builtin id) (v::us)) (EP X a σ Q) X.xe s
section
variable {X:Cx}{a b:AN}{ta tb:TE}{pos:Pos}
theorem Zub{r:R2}(hr:IxR X r)(i:PE X a ta)(hb:PE X b tb)(hs:Zgu b):PE X (.Subscript a b pos) (bx r ta tb):=by
 intro c s j H Q I h;exact Subscript_ (Ztg i hb I h λv u d x y e g k f q=>hr a b c d j e x y v u Q g k f q (hs _ _))
def jg(K:aB):R2:=λx y H Q=>∃p xs i v,x=.ref p/\y=.int i/\bU K H p xs/\TY xs i=some v/\Q v H
def cR(K:aB):R2:=λx y H Q=>∃p xs i v,x=.ref p/\y=.int i/\dB K H p xs/\TY xs i=some v/\Q v H
def Zk0:R2:=λx y H Q=>∃z i c,x=.str z/\y=.int i/\z.length<=sizeLine/\TY z.cps.toList i=some c/\Q (.str ⟨#[c]⟩) H
theorem cH:IxR X (jg X.K):=by
 intro e b a s k H x y v u Q I A n h hs;obtain⟨p,C,i,z,rfl,rfl,hq,B,q⟩:=h;cases A;obtain⟨t,rfl⟩:=n;obtain⟨f,r,g,hz⟩:=I.list hq;obtain⟨j,h1,h2,D,h4,h5⟩:=Za B;obtain⟨w,m,d⟩:=r.get h2;have hl:=r.length;have hn:=Hi;have fin:EP X a k Q w s:=⟨z,H,I,d,q⟩
 by_cases l:0<=i
 ·have c:i.toNat=j:=by
   rw[seqIndex_of l h5]at h1;exact Option.some.inj h1
  exact item_listR g.isList l δ (by rw[c];simpa using m) fin hs
 ·have c:(i+(f.toArray.size:Int)).toNat=j:=by
   rw[seqIndex_neg δ h4]at h1;rw[List.size_toArray,<- hl];exact Option.some.inj h1
  exact subscriptTail_builtinR (x:=w) g.isList.typeIs slot_list_getitem.lookup
   (wpAny_getItem_list_neg (Q:=λr o=>r=w/\EP X a k Q r o) g.isList δ (by rw[List.size_toArray]<;>omega) δ (by rw[c];simpa using m) ⟨rfl,fin⟩) hs
theorem bI:IxR X (cR X.K):=by
 intro d b a s e H x y v u Q I l g h hs;obtain⟨p,A,i,z,rfl,rfl,hq,o,q⟩:=h;cases l;obtain⟨t,rfl⟩:=g;obtain⟨m,r,f,hz⟩:=I.tuple hq;obtain⟨j,h1,h2,B,h4,h5⟩:=Za o;obtain⟨w,n,c⟩:=r.get h2;have hl:=r.length;have hn:=Hi;have fin:EP X a e Q w s:=⟨z,H,I,c,q⟩;exact subscriptTail_builtinR (x:=w) f.typeIs slot_tuple_getitem.lookup
  (getItem_tuple (j:=j) (Q:=λr k=>r=w/\EP X a e Q r k) f δ δ (by rw[List.size_toArray,<- hl];exact h1) (by simpa using n) ⟨rfl,fin⟩) hs
theorem Zlp:IxR X Zk0:=by
 intro b a d s m H x y v u Q I g f h hs;obtain⟨z,i,c,rfl,rfl,hz,l,q⟩:=h;obtain⟨t,rfl⟩:=g;obtain⟨n,rfl⟩:=f;obtain⟨j,h1,h2,o,h4,h5⟩:=Za l;have hl:z.cps.toList.length=z.length:=by simp[Str.length]
 rw[hl]at h1 h4 h5;have hn:=Hi;exact tail_any (typeIs_str s z t) slot_str_getitem.lookup (getItem_str (c:=c) (by
  have k:decide (i < -(2 ^ 63:Int))=false:=decide_eq_false δ;have e:decide (i≥2 ^ 63)=false:=decide_eq_false δ;rw[k,e,Bool.or_false]) (by rw[h1];simpa using h2) ⟨.str ⟨#[c]⟩,H,I.tok _,⟨_,rfl⟩,q⟩) hs
theorem Zdq(a:AC)(n j:Nat)(u:AJ):Obj.mapSeq (·.setIfInBounds j u) { cls:=.type "list",data:=.seq a.toArray n }={ cls:=.type "list",data:=.seq (a.set j u).toArray n }:=by
 simp[Obj.mapSeq]
theorem Inv.lst{b:At}{σ:St}{H:Hp}{s:AK}{p:AI}{xs:List V}(I:Inv X b σ H s)(h:H p=some (.lst xs)):
  ∃(a:AC) (n:Nat),Vals xs a/\s.heap.get? p=some { cls:=.type "list",data:=.seq a.toArray n }/\xs.length<=sizeLine:=by
 obtain⟨z,a,n,r,e⟩:=I.hok p _ h;exact⟨a,n,r,e,z⟩
theorem Inv.Zrv{a:At}{σ:St}{H:Hp}{s:AK}{p:AI}{xs d:List V}{c its':AC}{n g:Nat}{f:Obj->Obj}(I:Inv X a σ H s)(h:H p=some (.lst xs))
  (j:s.heap.get? p=some { cls:=.type "list",data:=.seq c.toArray n }) (i:f { cls:=.type "list",data:=.seq c.toArray n }={ cls:=.type "list",data:=.seq its'.toArray g }) (r:Vals d its') (hz:d.length<=sizeLine) (t:Nat):
  Inv X a σ (upd H p (.lst d)) { s with heap:=s.heap.update p f,toks:=t }:=by
 have e:(s.heap.update p f).get? p=some { cls:=.type "list",data:=.seq its'.toArray g }:=by
  rw[Heap.get?_update_self f j (by rw[i]<;>rfl),i]
 refine I.write (x:=p) (e:=p) (by rw[h];trivial) (.inl rfl) (λb u hb q=>(Heap.get?_update_other _ _ (Ne.symm hb)).trans q) ⟨_,e⟩ ?_;exact⟨hz,its',g,r,e⟩
def zL:V->V->V->Hp->(Hp->Prop)->Prop:=λo i v H Q=>∃p xs k j,o=.ref p/\i=.int k/\H p=some (.lst xs)/\ixN xs.length k=some j/\Q (upd H p (.lst (xs.set j v)))
theorem set_list:Zw5 X zL:=by
 intro b s x H o i v z A u Q I l w m h;obtain⟨p,y,k,j,rfl,rfl,hp,g,q⟩:=h;cases l;obtain⟨t,rfl⟩:=w;obtain⟨a,n,r,c,hz⟩:=I.lst hp;obtain⟨h1,h2,f,h4⟩:=Zg3 g;have hl:=r.length;have hn:=Hi;have d:Inv X b x (upd H p (.lst (y.set j v))) { s with heap:=s.heap.update p (Obj.mapSeq (·.setIfInBounds j u)) }:=
  I.Zrv hp c (Zdq a n j u) (r.set m j) (by rw[List.length_set];exact hz) s.toks
 by_cases e:0<=k
 ·have hk:k.toNat=j:=by
   rw[seqIndex_of e h4]at h1;exact Option.some.inj h1
  exact W.ki_setAt c e δ (by rw[List.size_toArray,<- hl];exact h4) (by rw[hk];exact⟨_,d,q⟩)
 ·have hk:(k+(a.toArray.size:Int)).toNat=j:=by
   rw[seqIndex_neg δ f]at h1;rw[List.size_toArray,<- hl];exact Option.some.inj h1
  exact W.ki_setBack c δ (by rw[List.size_toArray,<- hl];exact f) δ (by rw[hk];exact⟨_,d,q⟩)
theorem Xm(lo hi:AA)(n:Nat):(sliceBounds lo hi none n).1=((HT.lZ n 0 lo:Nat):Int)/\(sliceBounds lo hi none n).2.1=((HT.lZ n n hi:Nat):Int)/\(sliceBounds lo hi none n).2.2=1:=by
 refine⟨?_,?_,rfl⟩
 ·cases lo with
  | none=>simp[sliceBounds,HT.lZ]
  | some i=>
   simp only[sliceBounds,HT.lZ,Option.getD_none,show(1:Int) > 0 by decide,if_true]
   by_cases h:i<0
   ·simp only[h,if_true]<;>omega
   ·simp only[h,if_false]<;>omega
 ·cases hi with
  | none=>simp[sliceBounds,HT.lZ]
  | some i=>
   simp only[sliceBounds,HT.lZ,Option.getD_none,show(1:Int) > 0 by decide,if_true]
   by_cases h:i<0
   ·simp only[h,if_true]<;>omega
   ·simp only[h,if_false]<;>omega
theorem R3(a:AC)(lo hi:AA):slicePick a.toArray lo hi none=((a.drop (HT.lZ a.length 0 lo)).take (HT.lZ a.length a.length hi - HT.lZ a.length 0 lo)).toArray:=by
 obtain⟨h1,h2,b⟩:=Xm lo hi a.toArray.size;unfold slicePick;rw[h1,h2,b];simp only[sliceRange_one,pick_run,List.size_toArray]<;>rfl
def Zu4(K:aB):V->AA->AA->Hp->VK->Prop:=λx lo hi H Q=>∃a xs,x=.ref a/\bU K H a xs/\∀p,H p=none->Q (.ref p) (upd H p (.lst (TV xs lo hi)))
theorem Zno:SlR X (Zu4 X.K):=by
 intro f s n H x v l m lo hi sl Q I i hs k g h;obtain⟨a,c,rfl,hx,q⟩:=h;cases i;obtain⟨j,r,e,hz⟩:=I.list hx;have d:=r.length;refine⟨"list",_,slot_list_getitem.lookup,e.isList.typeIs,?_⟩;refine wpAny_getItem_list_slice e.isList hs k g .none ζ ?_ (by rw[List.size_toArray]<;>omega);rw[R3,<- d];refine⟨.ref s.heap.objs.size,_,I.laid (t':=s.toks) (o:=.lst (TV c lo hi)) (λb ob q=>Heap.get?_push_of_some _ q) Δ ?_,rfl,q _ (I.hok.fresh Δ)⟩;exact⟨Nat.le_trans (K6 c lo hi) hz,_,0,(r.drop (HT.lZ c.length 0 lo)).take (HT.lZ c.length c.length hi - HT.lZ c.length 0 lo),Heap.get?_push_size _ rfl⟩
def lq:V->Bool
 | .non=>true
 | .bl _=>true
 | .int _=>true
 | .str _=>true
 | _=>false
def Wz:V->V->Bool
 | .non,.non=>true
 | .bl a,.bl b=>a == b
 | .bl a,.int b=>(if a then 1 else 0) == b
 | .int a,.bl b=>a == (if b then 1 else 0)
 | .int a,.int b=>a == b
 | .str a,.str b=>a == b
 | _,_=>false
theorem uU{A:Around}{s:AK}{y x:V}{u v:AJ}(f:RelV y u)(c:RelV x v)(g:lq y=true)(e:lq x=true):SeqAt.EqAt A s u v (Wz y x):=by
 cases y with
 | non=>
  cases f;cases x with
  | non=>cases c;exact SeqAt.EqAt.same _
  | bl b=>cases c;exact SeqAt.EqAt.none_bool b
  | int b=>obtain⟨t,rfl⟩:=c;exact SeqAt.EqAt.none_int b t
  | str b=>obtain⟨t,rfl⟩:=c;exact SeqAt.EqAt.none_str b t
  | _=>exact absurd (show false=true from e) Bool.false_ne_true
 | bl a=>
  cases f;cases x with
  | non=>cases c;exact SeqAt.EqAt.bool_none a
  | bl b=>cases c;exact SeqAt.EqAt.bool_bool a b
  | int b=>obtain⟨t,rfl⟩:=c;exact SeqAt.EqAt.bool_int a b t
  | str b=>obtain⟨t,rfl⟩:=c;exact SeqAt.EqAt.bool_str a b t
  | _=>exact absurd (show false=true from e) Bool.false_ne_true
 | int a=>
  obtain⟨d,rfl⟩:=f;cases x with
  | non=>cases c;exact SeqAt.EqAt.int_none a d
  | bl b=>cases c;exact SeqAt.EqAt.int_bool a d b
  | int b=>obtain⟨t,rfl⟩:=c;exact SeqAt.EqAt.int_int a d b t
  | str b=>obtain⟨t,rfl⟩:=c;exact SeqAt.EqAt.int_str a d b t
  | _=>exact absurd (show false=true from e) Bool.false_ne_true
 | str a=>
  obtain⟨d,rfl⟩:=f;cases x with
  | non=>cases c;exact SeqAt.EqAt.str_none a d
  | bl b=>cases c;exact SeqAt.EqAt.str_bool a d b
  | int b=>obtain⟨t,rfl⟩:=c;exact SeqAt.EqAt.str_int a d b t
  | str b=>obtain⟨t,rfl⟩:=c;exact SeqAt.EqAt.str_str a d b t
  | _=>exact absurd (show false=true from e) Bool.false_ne_true
 | _=>exact absurd (show false=true from g) Bool.false_ne_true
def eqU(x:V)(u:AJ):Bool:=match u with
 | .none=>Wz .non x
 | .bool b=>Wz (.bl b) x
 | .int i _=>Wz (.int i) x
 | .str z _=>Wz (.str z) x
 | _=>false
theorem Zml{x y:V}{u:AJ}(r:RelV y u)(f:lq y=true):eqU x u=Wz y x:=by
 cases y with
 | non=>cases r;rfl
 | bl b=>cases r;rfl
 | int i=>obtain⟨t,rfl⟩:=r;rfl
 | str z=>obtain⟨t,rfl⟩:=r;rfl
 | _=>exact absurd (show false=true from f) Bool.false_ne_true
theorem MN{x:V}{xs:List V}{us:AC}(h:Vals xs us):xs.all lq=true->us.any (eqU x)=xs.any λy=>Wz y x:=by
 induction h with
 | nil=>
  intro _;rfl
 | cons r t a=>
  intro f;rw[List.all_cons,Bool.and_eq_true]at f;rw[List.any_cons,List.any_cons,Zml r f.1,a f.2]
theorem El{A:Around}{s:AK}{x:V}{v:AJ}(c:RelV x v)(a:lq x=true){xs:List V}{us:AC}(h:Vals xs us):xs.all lq=true->∀u∈us,SeqAt.EqAt A s u v (eqU x u):=by
 induction h with
 | nil=>
  intro _ u hu;cases hu
 | cons r t b=>
  intro f d hu;rw[List.all_cons,Bool.and_eq_true]at f;rcases List.mem_cons.mp hu with rfl | hu
  ·rw[Zml r f.1];exact uU r c f.1 a
  ·exact b f.2 d hu
def inV(x:V)(xs:List V):Bool:=xs.any λy=>Wz y x
def rIn(K:aB)(a:Bool):R2:=λx y H Q=>∃p xs,y=.ref p/\(bU K H p xs\/dB K H p xs)/\lq x=true/\xs.all lq=true/\Q (.bl (if a then !inV x xs else inV x xs)) H
theorem yD:uz X (compareOp .In) (rIn X.K false):=by
 intro f s i H x y v u Q I e g h;obtain⟨p,j,rfl,hq,d,fs,q⟩:=h;cases g;rcases hq with hq | hq
 ·obtain⟨a,r,c,hz⟩:=I.list hq;refine SeqAt.in_listAt (eqU x) c.isList (λw b=>El e d r fs w (by simpa using b)) ⟨.bl _,H,I,rfl,?_⟩;rw[show a.toArray.any (eqU x)=a.any (eqU x) by simp,MN r fs];exact q
 ·obtain⟨a,r,c,hz⟩:=I.tuple hq;refine SeqAt.in_tupleAt (eqU x) c (λw b=>El e d r fs w (by simpa using b)) ⟨.bl _,H,I,rfl,?_⟩;rw[show a.toArray.any (eqU x)=a.any (eqU x) by simp,MN r fs];exact q
theorem uI:uz X (compareOp .NotIn) (rIn X.K true):=by
 intro f s i H x y v u Q I e g h;obtain⟨p,j,rfl,hq,d,fs,q⟩:=h;cases g;rcases hq with hq | hq
 ·obtain⟨a,r,c,hz⟩:=I.list hq;refine SeqAt.notIn_listAt (eqU x) c.isList (λw b=>El e d r fs w (by simpa using b)) ⟨.bl _,H,I,rfl,?_⟩;rw[show a.toArray.any (eqU x)=a.any (eqU x) by simp,MN r fs];exact q
 ·obtain⟨a,r,c,hz⟩:=I.tuple hq;refine SeqAt.notIn_tupleAt (eqU x) c (λw b=>El e d r fs w (by simpa using b)) ⟨.bl _,H,I,rfl,?_⟩;rw[show a.toArray.any (eqU x)=a.any (eqU x) by simp,MN r fs];exact q
theorem Y7:yq X (.builtin "len") (λxs H Q=>∃p b,xs=[.ref p]/\(bU X.K H p b\/dB X.K H p b)/\Q (.int b.length) H):=by
 intro f s i H xs us Q I r h;obtain⟨p,b,rfl,hq,q⟩:=h;obtain⟨u,rfl,g⟩:=vals1 r;cases g;have hn:=Hi;rcases hq with hq | hq
 ·obtain⟨d,c,e,hz⟩:=I.list hq;have a:=c.length;exact Calls.call_len_list e.isList (by simp only[List.size_toArray]<;>omega) ⟨.int b.length,H,I.tok _,⟨s.toks+1,by rw[List.size_toArray,a]⟩,q⟩
 ·obtain⟨d,c,e,hz⟩:=I.tuple hq;have a:=c.length;exact len_tuple e (by simp only[List.size_toArray]<;>omega) ⟨.int b.length,H,I.tok _,⟨s.toks+1,by rw[List.size_toArray,a]⟩,q⟩
theorem Gn:yq X (.type "list") (λxs H Q=>∃p d,xs=[.ref p]/\(bU X.K H p d\/dB X.K H p d)/\∀l,H l=none->Q (.ref l) (upd H l (.lst d))):=by
 intro j s v H xs us Q I r h;obtain⟨p,d,rfl,hq,q⟩:=h;obtain⟨u,rfl,x⟩:=vals1 r;cases x;have fin:∀(a:AC),Vals d a->d.length<=sizeLine->∀(c:Heap) (g:Nat),(∀b t,s.heap.get? b=some t->c.get? b=some t)->
   c.get? s.heap.objs.size=some { cls:=.type "list",dict:=none,data:=.seq a.toArray g,slots:=#[] }->EP X j v Q (.ref s.heap.objs.size) { s with heap:=c }:=λa f hz c g kp e=>
  ⟨.ref s.heap.objs.size,_,I.laid (t':=s.toks) kp Δ (show gH X.prog X.w _ c _ (.lst d)from⟨hz,a,g,f,e⟩),rfl,q _ (I.hok.fresh Δ)⟩
 rcases hq with hq | hq
 ·obtain⟨a,f,m,hz⟩:=I.list hq;have i:=f.length;obtain⟨o,k,hc,n,hd⟩:=m.isList;exact call_list_seq p (.inl rfl) k hc hd (λc g kp e=>fin a f hz c g kp e) (by simp only[List.size_toArray]<;>omega)
 ·obtain⟨a,f,m,hz⟩:=I.tuple hq;have i:=f.length;obtain⟨o,k,hc,n,hd⟩:=m;exact call_list_seq p (.inr rfl) k hc hd (λc g kp e=>fin a f hz c g kp e) (by simp only[List.size_toArray]<;>omega)
def tyV(K:aB)(T:String)(x:V)(H:Hp):Prop:=match x with
 | .str _=>T="str"
 | .int _=>T="int"
 | .ref p=>(T="list"/\∃xs,bU K H p xs)\/(T="tuple"/\∃o,K.lookup p=some o/\o.cls=.type "tuple"/\o.dict=none)\/
   (T="dict"/\((∃a,H p=some (.dK a))\/∃a,H p=some (.dT a)))\/(T="set"/\∃S n,H p=some (.set S n))
 | _=>False
theorem Zj9{b:At}{σ:St}{H:Hp}{s:AK}{T:String}{x:V}{v:AJ}(I:Inv X b σ H s)(r:RelV x v)(ty:tyV X.K T x H):
  s.TypeIs v T/\∀a,v=.ref a->∃ob,s.heap.get? a=some ob/\ob.dict=none:=by
 cases x with
 | str z=>
  obtain⟨t,rfl⟩:=r;cases (show T="str" from ty);exact⟨typeIs_str s z t,λ_ e=>nomatch e⟩
 | int i=>
  obtain⟨t,rfl⟩:=r;cases (show T="int" from ty);exact⟨typeIs_int s i t,λ_ e=>nomatch e⟩
 | ref p=>
  cases r;rcases ty with ⟨rfl,j,hq⟩ | ⟨rfl,o,hk,hc,hd⟩ | ⟨rfl,hk⟩ | ⟨rfl,S,n,hk⟩
  ·obtain⟨h,_,g,_⟩:=I.list hq;refine⟨g.isList.typeIs,λa e=>?_⟩;cases e;obtain⟨o,n,e,c,hd,_⟩:=g;exact⟨o,e,hd⟩
  ·refine⟨⟨o,I.xH p o hk,hc⟩,λa e=>?_⟩;cases e;exact⟨o,I.xH _ o hk,hd⟩
  ·have z:∃o,s.heap.get? p=some o/\o.ExactDict:=by
    rcases hk with ⟨f,hk⟩ | ⟨f,hk⟩
    ·obtain⟨_,_,_,_,o,_,_,e,ex,_⟩:=I.hok p _ hk;exact⟨o,e,ex⟩
    ·obtain⟨_,_,_,_,o,_,_,e,ex,_⟩:=I.hok p _ hk;exact⟨o,e,ex⟩
   obtain⟨o,e,ex⟩:=z;refine⟨⟨o,e,ex.1⟩,λa d=>?_⟩;cases d;exact⟨o,e,ex.2.1⟩
  ·obtain⟨o,_,_,_,e,ex,_⟩:=I.hok p _ hk;refine⟨⟨o,e,ex.1⟩,λa d=>?_⟩;cases d;exact⟨o,e,ex.2.1⟩
 | _=>exact False.elim ty
def Zqz(K:aB)(T:String)(r:V->List V->Hp->VK->Prop)(to:TE):TE:=λσ H Q=>to σ H λx a=>tyV K T x a/\r x [] a Q
def tBM(K:aB)(T:String)(r:V->List V->Hp->VK->Prop)(to:TE)(t:TA):TE:=λσ H Q=>to σ H λx a=>tyV K T x a/\t σ a λxs b=>r x xs b Q
variable {o e:AN}{es:AG}{to:TE}{t:TA}{name:Str}{apos cpos:Pos}{T id:String}{r:V->List V->Hp->VK->Prop}
theorem Zre(i:PlainAttrs T)(slot:Slot T name id)(d:typeOf (.builtin id)=pure (.type "method_descriptor"))(hm:MtR X id r)(f:PE X o to)
  (b:attributeBase o name X.env (eval o X.env)=eval o X.env:=by rfl) (c:(apos.endLine == cpos.line)=true:=by rfl):PE X (.Call (.Attribute o name apos) [] [] cpos) (Zqz X.K T r to):=by
 intro a s e H Q I h;refine wpAny_Call_method0_late b c (gw (f a s e H _ I h) λv g qc=>?_);obtain⟨x,H1,I1,r1,ty,q1⟩:=qc;obtain⟨h1,h2⟩:=Zj9 I1 r1 ty;exact⟨T,id,i,slot,d,h1,h2,Calls.callWith_builtin rfl (PySem.evalArgs_none (hm a g e H1 x [] v [] Q I1 r1 .nil q1))⟩
theorem wR(y:PlainAttrs T)(slot:Slot T name id)(g:typeOf (.builtin id)=pure (.type "method_descriptor"))(hm:MtR X id r)(k:PE X o to)(w:PA X (e::es) t)
  (c:attributeBase o name X.env (eval o X.env)=eval o X.env:=by rfl)
  (f:((backTo cpos (starEach (e::es) X.env)).all (λx=>!x.1) && (backToKw cpos (keywordEach [] X.env)).all (λx=>x.1.isSome)
   && decide ((e::es).length+([]:List Keyword).length+(if ([]:List Keyword).isEmpty then 0 else 1)<30))=true:=by rfl)
  (d:(apos.endLine == cpos.line)=true:=by rfl) (hs:starEach (e::es) X.env=(false,eval e X.env)::starEach es X.env:=by rfl) (b:(backTo cpos dQ).any (·.1)=false:=by rfl):
  PE X (.Call (.Attribute o name apos) (e::es) [] cpos) (tBM X.K T r to t):=by
 intro a s i H Q I h;refine wpAny_Call_method_late c f d rfl (gw (k a s i H _ I h) λv p qc=>?_);obtain⟨x,H1,I1,r1,ty,q1⟩:=qc;obtain⟨h1,h2⟩:=Zj9 I1 r1 ty;refine⟨T,id,y,slot,g,h1,h2,?_⟩;have j:=w cpos a p i H1 _ I1 q1;rw[hs]at j ⊢;refine Calls.callWith_builtin (by show(false || (backTo cpos (starEach es X.env)).any (·.1))=false;rw[b]<;>rfl) (Calls.evalArgs_plain ?_);exact gw j (by rintro us l ⟨u,n,q,m,z⟩;exact hm a l i n x u v us Q q r1 m z)
end
def MtM(X:Cx)(id:String)(r:V->List V->Hp->VK->Prop):Prop:=
 ∀(a:At) (s:AK) (σ:St) (H:Hp) (x:V) (xs:List V) (v:AJ) (us:AC) (Q:VK),Inv X a σ H s->RelV x v->Vals xs us->r x xs H Q->
  wpAny ς X.A (call (.builtin id) (v::us)) (EP X a σ Q) X.xe s
theorem Vals.one{x:V}{us:AC}(h:Vals [x] us):∃u,us=[u]/\RelV x u:=by
 cases h with
 | cons r t=>
  cases t;exact⟨_,rfl,r⟩
theorem Vals.zero:∀{us:AC},Vals [] us->us=[]
 | _,.nil=>rfl
theorem Vals.dropLast{xs:List V}{us:AC}(h:Vals xs us):Vals xs.dropLast us.dropLast:=by
 induction h with
 | nil=>exact .nil
 | cons r t a=>
  cases t with
  | nil=>exact .nil
  | cons q b=>exact .cons r a
theorem Vals.eraseIdx:∀{xs:List V}{us:AC} (i:Nat),Vals xs us->Vals (xs.eraseIdx i) (us.eraseIdx i)
 | _,_,_,.nil=>.nil
 | _,_,0,.cons _ t=>t
 | _,_,i+1,.cons r t=>.cons r (Vals.eraseIdx i t)
theorem Vals.rep{xs:List V}{us:AC}(h:Vals xs us):∀k:Nat,Vals (List.replicate k xs).flatten (List.replicate k us).flatten
 | 0=>.nil
 | k+1=>by
  rw[List.replicate_succ,List.replicate_succ,List.flatten_cons,List.flatten_cons];exact Vals.append h (Vals.rep h k)
theorem Zee{d:Type}(l:List d):l.eraseIdx (l.length - 1)=l.dropLast:=by
 induction l with
 | nil=>rfl
 | cons a r c=>
  cases r with
  | nil=>rfl
  | cons b r=>
   have e:(a::b::r).length - 1=((b::r).length - 1)+1:=by
    have h1:(a::b::r).length=r.length+2:=rfl;have h2:(b::r).length=r.length+1:=rfl;omega
   rw[e,List.eraseIdx_cons_succ,c]
   all_goals rfl
theorem V7{a:Type}:∀(l:List a) (i:Nat),(l.eraseIdx i).length<=l.length
 | [],_=>Nat.le_refl _
 | _::_,0=>Nat.le_succ _
 | _::r,i+1=>Nat.succ_le_succ (V7 r i)
theorem foldl_rep(a:AC):∀(k:Nat) (acc:AC),
  List.foldl (λd b=>d++b) acc.toArray (List.replicate k a.toArray)=(acc++(List.replicate k a).flatten).toArray
 | 0,acc=>ζ
 | k+1,acc=>by
  have e:acc.toArray++a.toArray=(acc++a).toArray:=ζ
  have c:(acc++a)++(List.replicate k a).flatten=acc++(List.replicate dG a).flatten:=by
   rw[List.replicate_succ,List.flatten_cons,List.append_assoc]
  rw[<- c,<- foldl_rep a k (acc++a),<- e,List.replicate_succ,List.foldl_cons]
section
variable {X:Cx}{pins:At}{σ:St}{H:Hp}{s:AK}{l b:AI}{xs ys zs:List V}
theorem Inv.Zoj{a its':AC}{n:Nat}{f:Array AJ->Array AJ}{t':Nat}(I:Inv X pins σ H s)(c:H l=some (.lst xs))
  (e:s.heap.get? l=some { cls:=.type "list",data:=.seq a.toArray n }) (b:f a.toArray=its'.toArray) (hv:Vals ys its') (hz:ys.length<=sizeLine):
  Inv X pins σ (upd H l (.lst ys)) { s with heap:=s.heap.update l (Obj.mapSeq f),toks:=t' }:=by
 have q:=PySem.IsL.update e f;rw[b]at q;refine I.write (x:=l) (e:=l) (by rw[c];exact trivial) (.inl rfl) (λd u hb hu=>(Heap.get?_update_other s.heap (Obj.mapSeq f) (Ne.symm hb)).trans hu) ⟨_,q⟩ ?_;exact⟨hz,its',_,hv,q⟩
theorem Inv.Zuk{a:AC}{t':Nat}(I:Inv X pins σ H s)(hv:Vals ys a)(hz:ys.length<=sizeLine):
  Inv X pins σ (upd H s.heap.objs.size (.lst ys)) { s with heap:=s.heap.push { cls:=.type "list",data:=.seq a.toArray },toks:=t' }:=
 I.laid (λ_ _ q=>Heap.get?_push_of_some _ q) Δ ⟨hz,a,0,hv,Heap.get?_push_size _ rfl⟩
theorem Inv.fresh(I:Inv X pins σ H s):H s.heap.objs.size=none:=I.hok.fresh Δ
theorem Inv.Zb2(I:Inv X pins σ H s)(b:H l=some (.lst xs)):xs.length<=sizeLine/\∃(a:AC) (n:Nat),Vals xs a/\xs.length=a.length/\s.heap.get? l=some { cls:=.type "list",data:=.seq a.toArray n }:=by
 obtain⟨z,a,n,r,e⟩:=I.hok l _ b;exact⟨z,a,n,r,r.length,e⟩
theorem Zap{n:Nat}(h:n<=sizeLine):Builtin.List.listTooLong n=false:=by
 unfold Builtin.List.listTooLong;exact decide_eq_false δ
end
section
variable {X:Cx}
def oX:V->List V->Hp->VK->Prop:=λx vs H Q=>∃l xs y,x=.ref l/\vs=[y]/\H l=some (.lst xs)/\xs.length<sizeLine/\Q .non (upd H l (.lst (xs++[y])))
theorem mK:MtM X "list.append" oX:=by
 intro c s j H x i v us Q I g d h;obtain⟨l,k,y,rfl,rfl,b,hz,q⟩:=h;cases g;obtain⟨u,rfl,f⟩:=d.one;obtain⟨z,a,n,r,hl,e⟩:=I.Zb2 b;refine call_meets F.slot_list_append ⟨_,e,rfl⟩ F.entry_list_append (F.args_list_append_2 _ _) (PySem.list_append l a.toArray n u (by rw[List.size_toArray];omega)) ⟨e,?_⟩;refine⟨.non,_,I.Zoj (its':=a++[u]) b e ζ (r.append (.cons f .nil)) ?_,rfl,q⟩;rw[List.length_append,List.length_singleton];omega
def Mp:V->List V->Hp->VK->Prop:=λx vs H Q=>∃l b xs a,x=.ref l/\vs=[.ref b]/\H l=some (.lst xs)/\H b=some (.lst a)/\xs.length+a.length<=sizeLine/\Q .non (upd H l (.lst (xs++a)))
theorem G9:MtM X "list.extend" Mp:=by
 intro i s B H x y v us Q I p m h;obtain⟨l,b,C,D,rfl,rfl,g,w,hz,q⟩:=h;cases p;obtain⟨u,rfl,o⟩:=m.one;cases o;obtain⟨z,c,n,r,hl,e⟩:=I.Zb2 g;obtain⟨A,a,n2,j,t,k⟩:=I.Zb2 w;have f:c.toArray.size+a.toArray.size<=sizeLine:=by rw[List.size_toArray,List.size_toArray];omega
 have d:¬ (!c.toArray.isEmpty && Builtin.List.listTooLong (c.toArray.size+a.toArray.size))=true:=by
  rw[Zap f,Bool.and_false];exact Bool.false_ne_true
 refine call_meets F.slot_list_extend ⟨_,e,rfl⟩ F.entry_list_extend (F.args_list_extend_2 _ _)
  (AutoSeq1.list_extend_list_list_0 l c.toArray n b a.toArray n2 d (by rw[List.size_toArray];omega) δ) ⟨e,k,?_⟩
 refine⟨.non,_,I.Zoj (its':=c++a) g e ζ (r.append j) ?_,rfl,q⟩;rw[List.length_append];omega
def Zu5:V->List V->Hp->VK->Prop:=λx vs H Q=>∃l xs y,x=.ref l/\vs=[]/\H l=some (.lst xs)/\xs[xs.length - 1]? =some y/\Q y (upd H l (.lst xs.dropLast))
theorem Zrs:MtM X "list.pop" Zu5:=by
 intro f s m H x k v us Q I j g h;obtain⟨l,o,y,rfl,rfl,d,hy,q⟩:=h;cases j;have b:=g.zero;subst b;obtain⟨z,a,n,r,hl,e⟩:=I.Zb2 d;obtain⟨u,hu,i⟩:=r.get hy;have c:a.toArray[a.toArray.size - 1]? =some u:=by
  show a.toArray[a.length - 1]? =some u;rw[<- Array.getElem?_toList,<- hl];exact hu
 refine call_meets F.slot_list_pop ⟨_,e,rfl⟩ F.entry_list_pop (F.args_list_pop_1 _) (MeetsSeq.list_pop_last l a.toArray n u c (by rw[List.size_toArray];omega)) ⟨e,?_⟩;refine⟨y,_,I.Zoj (its':=a.dropLast) d e ?_ r.dropLast ?_,i,q⟩
 ·show a.toArray.eraseIdxIfInBounds (a.toArray.size - 1)=a.dropLast.toArray;rw[List.size_toArray,List.eraseIdxIfInBounds_toArray,Zee]
 ·rw[List.length_dropLast];omega
def Zjz:V->List V->Hp->VK->Prop:=λx vs H Q=>∃l xs i k y,x=.ref l/\vs=[.int i]/\H l=some (.lst xs)/\-(2 ^ 63)<=i/\i<2 ^ 63/\seqIndex? i xs.length=some k/\xs[k]? =some y/\Q y (upd H l (.lst (xs.eraseIdx k)))
theorem Zl8:MtM X "list.pop" Zjz:=by
 intro d s A H x p v us Q I o g h;obtain⟨l,m,i,k,y,rfl,rfl,c,h1,h2,hk,hy,q⟩:=h;cases o;obtain⟨u,rfl,j⟩:=g.one;obtain⟨t,rfl⟩:=j;obtain⟨z,a,n,r,hl,e⟩:=I.Zb2 c;obtain⟨w,f,b⟩:=r.get hy;refine call_meets F.slot_list_pop ⟨_,e,rfl⟩ F.entry_list_pop (F.args_list_pop_2 _ _)
  (MeetsSeq.list_pop_at l a.toArray n i t k w (fitsIndex_both h1 h2) (by rw[List.size_toArray,<- hl];exact hk) (by rw[<- Array.getElem?_toList];exact f) (by rw[List.size_toArray];omega)) ⟨e,?_⟩
 refine⟨y,_,I.Zoj (its':=a.eraseIdx k) c e ?_ (r.eraseIdx k) ?_,b,q⟩
 ·show a.toArray.eraseIdxIfInBounds k=(a.eraseIdx k).toArray;rw[List.eraseIdxIfInBounds_toArray]
 ·have:=V7 m k;omega
def qw:R2:=λx y H Q=>∃l b xs a,x=.ref l/\y=.ref b/\H l=some (.lst xs)/\H b=some (.lst a)/\xs.length+a.length<=sizeLine/\∀p,H p=none->Q (.ref p) (upd H p (.lst (xs++a)))
theorem mG:uz X (binaryOp .Add) qw:=by
 intro d s w H x y v u Q I k j h;obtain⟨l,b,A,B,rfl,rfl,g,p,hz,q⟩:=h;cases k;cases j;obtain⟨z,c,n,r,hl,e⟩:=I.Zb2 g;obtain⟨t,a,n2,f,o,i⟩:=I.Zb2 p;refine PySem.P.add_list e i ?_ (by rw[List.size_toArray,List.size_toArray];omega);have m:c.toArray++a.toArray=(c++a).toArray:=ζ
 rw[m];exact⟨.ref _,_,I.Zuk (t':=s.toks) (r.append f) (by rw[List.length_append];omega),rfl,q _ I.fresh⟩
def Zr9:R2:=λx y H Q=>∃l k xs,x=.ref l/\y=.int k/\H l=some (.lst xs)/\-(2 ^ 63)<=k/\k<2 ^ 63/\xs.length * k.toNat<=sizeLine/\
 ∀p,H p=none->Q (.ref p) (upd H p (.lst (List.replicate k.toNat xs).flatten))
theorem len_rep{b:Type}(xs:List b)(k:Nat):(List.replicate k xs).flatten.length=k * xs.length:=by
 induction k with
 | zero=>simp
 | succ k a=>rw[List.replicate_succ,List.flatten_cons,List.length_append,a,Nat.succ_mul,Nat.add_comm]
theorem Zkp:uz X (binaryOp .Mult) Zr9:=by
 intro p s J H x y v u Q I D B h;obtain⟨l,k,K,rfl,rfl,w,h1,h2,hz,q⟩:=h;cases D;obtain⟨t,rfl⟩:=B;obtain⟨z,b,n,r,hl,e⟩:=I.Zb2 w;have d:b.toArray.size * k.toNat<=sizeLine:=by rw[List.size_toArray,<- hl];exact hz
 have g:¬ b.toArray.size * k.toNat > (2 ^ 63 - 1) / 8:=by
  have:(sizeLine:Nat)<=(2 ^ 63 - 1) / 8:=ε
  omega
 have c:¬ (!Builtin.List.listFitsIndex k)=true:=by
  rw[fitsIndex_both h1 h2];exact Bool.false_ne_true
 have j:¬ Builtin.List.listTooLong (b.toArray.size * k.toNat)=true:=by
  rw[Zap d];exact Bool.false_ne_true
 have f:List.foldl (λi o=>i++o) #[] (List.replicate (if b.toArray.isEmpty=true then 0 else k.toNat) b.toArray)=(List.replicate k.toNat b).flatten.toArray:=by
  have A:∀m:Nat,List.foldl (λi o=>i++o) #[] (List.replicate m b.toArray)=(List.replicate m b).flatten.toArray:=λm=>by
   have:=foldl_rep b m [];rw[List.nil_append]at this;exact this
  rw[A];cases b with
  | nil=>simp
  | cons a E=>rw[if_neg ζ]
 refine wpAny_binaryOp_repeat_ref (T:="list") (U:="int") ε ⟨_,e,rfl⟩ (λC=>typeIs_int C k t) noFill_list_mul F.fills_int_mul F.slot_int_rmul repeat_list F.slot_int_index.lookup
  (call_meets F.slot_int_rmul (typeIs_int s k t) F.entry_int_rmul (F.args_int_rmul_2 _ _) (int___rmul___int_list k t l b.toArray n)
   ⟨e,rfl,⟨_,e,rfl⟩,call_meets F.slot_list_mul ⟨_,e,rfl⟩ F.entry_list_mul (F.args_list_mul_2 _ _) (AutoListH.list___mul___list_int_3 l b.toArray n k t c g j) ⟨e,?_⟩⟩)
 rw[f];exact⟨.ref _,_,I.Zuk (t':=s.toks) (r.rep k.toNat) (by rw[len_rep,Nat.mul_comm];exact hz),rfl,q _ I.fresh⟩
end
section
variable {prog:AM}{w:AO}{A:Around}{E:Ap}{s:AK}
end
section
variable {X:Cx}
end
end L2
namespace Att
open PySem PySem.W PySem.Calls PyProof.Rows
theorem Mg{P:Params}{h:Heap}:∀(ns:AE) (vs:AC),WellAll P h vs (ns.map WData.int)->IntsAre vs ns:=by
 intro ns
 induction ns with
 | nil=>
  intro vs w;rw[List.map_nil]at w;cases w;exact .nil
 | cons n ns c=>
  intro vs w;rw[List.map_cons]at w;cases w with
  | cons a b=>
   cases a;exact .cons _ _ (c _ b)
theorem Zh9{l:OpenLaw}{n:Nat}(hn:l.most=some n){P:Params}{h:Heap}{b:List WData}{e:AC}
  (c:l.row.toRowW.claim.pre b=true) (j:WellAll P h e b):
  ∃a vs ns,e=[Value.ref a]/\b=[WData.list (ns.map WData.int)]/\h.get? a=some { cls:=.type "list",data:=.seq vs.toArray }/\IntsAre vs ns/\ns.length<=n:=by
 have i:WShape.hasAll [] b [.list .int]=true:=(pre_splitW c).1;have hc:l.pre.holds [] { args:=b }=true:=(pre_splitW c).2;obtain⟨d,r,rfl,h1,h2⟩:=hasAllW_cons i;obtain rfl:=hasAllW_nil h2;obtain⟨t,rfl,s⟩:=hasW_list h1;obtain⟨ns,rfl⟩:=items_int s;have f:ns.length<=n:=by
  unfold OpenLaw.pre at hc;have h4:(WTm.not (.lt (.lit (.int (n:Int))) (.len (.arg 0)))).holds [] { args:=[.list (ns.map .int)] }=true:=by
   have h4:=(holds_andW hc).1;rw[hn]at h4;exact h4
  have h5:=condW_of h4 (w_not (w_lt w_lit (w_len_list (w_arg rfl))));rw[aU]at h5;refine Nat.le_of_not_lt λq=>?_;have o:(n:Int)<((ns.length:Nat):Int):=δ
  first
   | (rw[decide_eq_true o]at h5;exact absurd h5 ε)
   | (simp at h5;omega)
 cases j with
 | cons m p=>
  cases p;cases m with
  | list k g=>exact⟨_,_,ns,rfl,rfl,k,Mg ns _ g,f⟩
theorem Zhe(l:OpenLaw)(a:List WData):l.row.toRowW.claim.post a (.bool true) a=true:=
 postW_of (r:=l.row.toRowW) (X:=(true == true))
  (show WShape.has [] (.bool true) .bool=true by first | rfl | decide | simp[WShape.has,WShape.arms,WShape.armsAll])
  (show(WTm.eq .res (.lit (.bool true))).value [] { args:=a,res:=some (.bool true),after:=a }=some (.bool (true == true))from w_eq_bool (w_res rfl) w_lit) rfl
theorem Zc8{l:OpenLaw}{n:Nat}{q:AM}{c:AH}{y:(As)->Heap->Prop}{x:AO->Heap->Prop}{d:DefRec}
  (hn:l.most=some n) (k:d.params.defaults=[])
  (call:∀(w:AO) (s₀ b:AK) (mg p:As) (fa:AI) (o:Obj) (pm cd g:AJ) (a:AI) (vs:AC) (ns:AE),
   Ground q c [] y w s₀ mg p b.heap->x w b.heap->
   b.heap.get? fa=some o->o.data=.func (docDef d.name d.params d.body d.scope pm cd g)->b.heap.CodeRec cd d.name->mg d.name=↑fa->
   b.heap.get? a=some { cls:=.type "list",data:=.seq vs.toArray }->IntsAre vs ns->ns.length<=n->b.gens=#[]->
   codeAny (model l.prog w) callerA (.call (.ref fa) ⟨[.ref a],[]⟩) (λr s'=>r=.ok (.ret (.bool true))/\OldK b.heap s'.heap/\s'.os=b.os/\AllBare s'.gens) b):
  WalkO q c y x l.row.toRowW d [] (λf vs=>PySem.call f vs):=by
 intro w s₀ b mg p G Y fa o pm cd g dV kV B hd t A m hg v z F h u C s D;obtain rfl:dV=.none:=Dflts.none A k;obtain rfl:kV=.none:=Dflts.noKw A;obtain⟨a,vs,ns,rfl,rfl,j,e,i⟩:=Zh9 hn h s;refine enter_call (codeAny_mono (call w s₀ b mg p fa o pm cd g a vs ns G Y B (fd_plain hd) t m j e i hg) λr s' hq=>?_);obtain⟨rfl,h2,E,h4⟩:=hq;exact⟨.inl ⟨.bool true,.bool true,[],rfl,λ_=>rfl,.bool true,Zhe l _,λ_=>⟨List.Pairwise.nil,λ_ hm=>(nomatch hm)⟩⟩,h2,E,h4⟩
section
variable {prog:AM}{w:AO}{A:Around}{E:Ap}{s:AK}{K:Frag}
end
end Att
namespace L2
open PySem PySem.Spec PyProof.Rows
theorem Uo:∀{vs:AC}{ns:AE},IntsAre vs ns->Vals df vs
 | _,_,.nil=>.nil
 | _,_,.cons n t h=>.cons ⟨t,rfl⟩ (Uo h)
def Only(H:Hp):Prop:=∀b,H b=none\/∃o xs,H b=some (.uB o (.lst xs))
theorem Zln{P:AM}{w:AO}{K:aB}{mg J:As}{CX:ZR}{k:Nat}{fa a:AI}{fd:AL}{x:Str}{sp:Sp}{c:AK}{vs:AC}{ns:AE}
  (U:K.In c.heap) (y:c.heap.Ns mainGlobals mg) (hb:c.heap.Ns builtinsNs J) (I:∀x:Str,x≠"__name__"->J x=bootBuiltins x) (D:c.heap.NoLimit) (hg:c.gens=#[])
  (E:c.heap.get? a=some { cls:=.type "list",data:=.seq vs.toArray }) (hi:IntsAre vs ns) (hl:ns.length<=sizeLine) (hr:Room k callerA)
  (F:∀base:Heap,K.In base->base.Ns mainGlobals mg->qy P w K mg base CX k fa fd [x] sp) (i:∀(s:AK) (u:AJ),BindsTo s fd ⟨[u],[]⟩ [(x,u)])
  (N:∀H:Hp,Only H->bU K H a df->sp [.ref a] H (λv _=>v=.bl true) λ_ _ _=>False)
  (O:∀H e s',CX [] H c (λ_ _ _=>False) e s'->False):
  codeAny (model P w) callerA (.call (.ref fa) ⟨[.ref a],[]⟩) (λr s'=>r=.ok (.ret (.bool true))/\OldK c.heap s'.heap/\s'.os=c.os/\AllBare s'.gens) c:=by
 have R:=Uo hi;have j:=hi.length;have g:∀H:Hp,Only H->bU K H a df->ym P w H c.heap->(∀b,H b≠none->b=a)->(H a≠none->K.lookup a=none)->
   codeAny (model P w) callerA (.call (.ref fa) ⟨[.ref a],[]⟩) (λr s'=>r=.ok (.ret (.bool true))/\OldK c.heap s'.heap/\s'.os=c.os/\AllBare s'.gens) c:=by
  intro H T hS hok Q Z;have p:∀{b:AI}{o:Obj},c.heap.get? b=some o->H b=none->(YW c.heap H).get? b=some o:=λe n=>Zm0 e n;have M:∀{b:AI}{o:Obj}{l:Array DictEntry}{B:Nat},c.heap.get? b=some o->o.data=.dict l B->H b=none:=λ{b o l B} e d=>by
   cases q:H b with
   | none=>rfl
   | some u=>
    have L:b=a:=Q b (by rw[q];simp);subst L;rw[E]at e;cases e;have Y:Data.seq vs.toArray _=Data.dict l B:=d;cases Y
  have f:∀{b:AI}{m:As},c.heap.Ns b m->(YW c.heap H).Ns b m:=λ{b m} ⟨o,l,B,e,d,r⟩=>⟨o,l,B,p e (M e d),d,r⟩;have t:K.In (YW c.heap H):=λb o e=>p (U b o e) (by
   cases q:H b with
   | none=>rfl
   | some u=>
    have L:b=a:=Q b (by rw[q];simp);subst L;rw[Z (by rw[q];simp)]at e;cases e)
  have hM:Mod K mg (YW c.heap H):=⟨t,f y,⟨J,f hb,I⟩,let ⟨mc,h1,h2⟩:=D;⟨mc,f h1,h2⟩⟩;have e0:Zf8 P w K mg (YW c.heap H) callerA [] c H:=⟨rfl,hM,λb o e=>Zoe e,Nat.le_of_eq (Zig _ _),trivial,λb hb=>absurd (show b∈([]:AF)from hb) ζ,hok,.of_eq hg⟩;refine codeAny_mono ((F _ t (f y)).run callerA [] c H ⟨[.ref a],[]⟩ [.ref a] [.ref a] _ _ hr e0 (i c (.ref a)) (.cons rfl .nil) (N H T hS)) λr s' h=>?_;cases r with
  | error e=>exact(O H e s' h).elim
  | ok fl=>
   cases fl with
   | next=>exact False.elim h
   | brk=>exact False.elim h
   | cont=>exact False.elim h
   | ret u=>
    obtain⟨v,H',os,bare,un,A,X,q⟩:=h;have W:v=.bl true:=q;subst W;obtain rfl:u=Value.bool true:=X;refine⟨rfl,OldK.of_keep λb o e=>?_,os,bare⟩;cases q:H b with
    | none=>exact un.keep b o e q (by intro z;exact absurd (show b∈([]:AF)from z) ζ) ζ
    | some u=>
     rcases T b with z | ⟨ob,xs,z⟩
     ·rw[q]at z;cases z
     ·have z2:=un.Hz b ob _ z;obtain⟨S,_⟩:=hok b _ z;obtain⟨e2,_⟩:=A b _ z2;rw[e]at S;cases S;exact e2
 cases hk:K.lookup a with
 | some o=>
  have e:=U a o hk;rw[E]at e;cases e;refine g (λ_=>none) (λ_=>.inl rfl) (.inr ⟨_,vs.toArray,_,hk,rfl,rfl,rfl,by rw[List.size_toArray,j];exact hl,by simpa using R⟩) (λb u z=>by have C:(none:Option HO)=some u:=z;cases C) (λb z=>absurd rfl z) λz=>absurd rfl z
 | none=>
  refine g (λb=>if b=a then some (.uB { cls:=.type "list",data:=.seq vs.toArray } (.lst df))else none) (λb=>?_) (.inl (.inr ⟨{ cls:=.type "list",data:=.seq vs.toArray },if_pos rfl⟩)) (λb u z=>?_) (λb z=>?_) λ_=>hk
  ·by_cases hb:b=a
   ·exact .inr ⟨_,_,if_pos hb⟩
   ·exact .inl (if_neg hb)
  ·by_cases hb:b=a
   ·have C:=(if_pos hb).symm.trans z;cases C;subst hb;exact⟨E,by rw[aU];exact hl,vs,_,R,E⟩
   ·have C:=(if_neg hb).symm.trans z;cases C
  ·by_cases hb:b=a
   ·exact hb
   ·exact absurd (if_neg hb) z
theorem Zne{l:W.OpenLaw}{n k:Nat}{q:AM}{j:AH}{L:(As)->Heap->Prop}{B:AO->Heap->Prop}{d:DefRec}{K:Params->aB}{CX:AO->ZR}{sp:AO->Sp}{x:Str}
  (hn:l.most=some n) (r:n<=sizeLine) (A:d.params.defaults=[]) (hr:Room k callerA)
  (D:∀(w:AO) (h:Heap),B w h->(K w.params).In h)
  (F:∀(w:AO) (mg:As) (fa:AI) (h:Heap),(K w.params).In h->h.Ns mainGlobals mg->mg d.name=↑fa->
   ∃fd:AL,(∀(s:AK) (u:AJ),BindsTo s fd ⟨[u],[]⟩ [(x,u)])/\
    ∀base:Heap,(K w.params).In base->base.Ns mainGlobals mg->qy l.prog w (K w.params) mg base (CX w) k fa fd [x] (sp w))
  (y:∀(w:AO) (H:Hp) (a:AI) (ns:AE),ns.length<=n->Only H->bU (K w.params) H a df->sp w [.ref a] H (λv _=>v=.bl true) λ_ _ _=>False)
  (z:∀(w:AO) (H:Hp) (s:AK) (e:AJ) (s':AK),CX w [] H s (λ_ _ _=>False) e s'->False):
  W.WalkO q j L B l.row.toRowW d [] (λf vs=>PySem.call f vs):=by
 refine Att.Zc8 hn A λw s₀ m mg P fa o pm cd I a vs ns G Y O hd N t p i c hg=>?_;have C:=D w _ Y;obtain⟨fd,hb,E⟩:=F w mg fa _ C G.T.g t;exact Zln C G.T.g G.T.b G.T.builtins G.T.nolimit hg p i (Nat.le_trans c r) hr E hb (λH J M=>y w H a ns c J M) λH e s'=>z w H m e s'
def inClass(s:Stmt)(j:Nat):Stmt:=match s with
 | .ClassDef _ _ _ a _ _ _ _ _ _ _=>a.getD j (.Pass ⟨0,0,0,0⟩)
 | _=>.Pass ⟨0,0,0,0⟩
def iW(s:Stmt):Arguments:=match s with
 | .FunctionDef _ a _ _ _ _ _ _ _ _=>a
 | _=>{ posonlyargs:=[],args:=[],vararg:=none,kwonlyargs:=[],kw_defaults:=[],kwarg:=none,defaults:=[] }
def gk(s:Stmt):List Stmt:=match s with
 | .FunctionDef _ _ b _ _ _ _ _ _ _=>b
 | _=>[]
def aG(s:Stmt):Scope:=match s with
 | .FunctionDef _ _ _ _ _ _ a _ _ _=>a
 | _=>{ kind:=.function,names:=[],isGenerator:=false,isCoroutine:=false }
abbrev E0:XK:=λ_ _ _=>False
structure Fun(K:aB)(x qual:Str)(st:Stmt)(f:AI)(fd:AL):Prop where
 ex:∃(oc:AJ) (od:Option AI) (kV doc pm:AJ) (an:Option AI) (cdv ct:AJ) (osl:Array AB),
  fd=W.fnOf x qual (iW st) (gk st) (aG st) .none kV doc pm an cdv ct/\K.lookup f=some ⟨oc,od,.func fd,osl⟩/\W.codeIn K cdv qual=true
 kp:W.keepIn K (.ref f)=true
section
variable {P:AM}{w:AO}{K:aB}{mg:As}{base:Heap}
theorem Fun.binds{x a:Str}{st:Stmt}{f:AI}{fd:AL}{ps:AH}(F:Fun K x a st f fd)
  (h:∀(kV c pm:AJ) (d:Option AI) (b ct:AJ) (us:AC),us.length=ps.length->bindArgs (W.fnOf x a (iW st) (gk st) (aG st) .none kV c pm d b ct) ⟨us,[]⟩=pure (ps.zip us)):Binds K fd ps []:=by
 obtain⟨oc,od,kV,c,pm,d,b,ct,e,rfl,lk,g⟩:=F.ex;exact .all (h kV c pm d b ct)
theorem Zm7{x a:Str}{st:Stmt}{f:AI}{oc:AJ}{od g:Option AI}{e:Array AB}{kV d pm b ct:AJ}(l:K.lookup f=some ⟨oc,od,.func (W.fnOf x a (iW st) (gk st) (aG st) .none kV d pm g b ct),e⟩)
  (c:W.codeIn K b a=true) (k:W.keepIn K (.ref f)=true):Fun K x a st f (W.fnOf x a (iW st) (gk st) (aG st) .none kV d pm g b ct):=⟨⟨oc,od,kV,d,pm,g,b,ct,e,rfl,l,c⟩,k⟩
end
theorem qe{A:Around}{k:Nat}(hr:Room k A):A.units+1<cLine:=Nat.lt_of_le_of_lt (Nat.add_le_add_left (by decide:1<=64) _) hr.units
section
variable {X:Cx}
theorem pv(i:Nat){x:Str}{a:Pos}(c:X.N[i]? =some x:=by rfl)(hv:Vis X.env.scope x:=by first | exact Or.inl rfl | exact Or.inr (Or.inl rfl) | exact Or.inr (Or.inr rfl))(hd:(x == ("__debug__":Str))=false:=by decide)
  (b:(x == ("__classdict__":Str))=false:=by decide):PE X (.Name x a) (ak i):=Zk9 c hv hd b
end
theorem Zop{A B:Prop}(h:B):if false=true then A else B:=by
 rw[if_neg Bool.false_ne_true];exact h
theorem Zdx{A B:Prop}(h:A):if true=true then A else B:=by
 rw[if_pos rfl];exact h
theorem Zs4{c A B:Prop} [Decidable c](h1:c->A)(h2:¬ c->B):if c then A else B:=by
 by_cases h:c
 ·rw[if_pos h];exact h1 h
 ·rw[if_neg h];exact h2 h
def aY(H H':Hp):Prop:=∀b o,H b=some o->H' b=some o
theorem aY.refl(H:Hp):aY H H:=λ_ _ h=>h
theorem aY.trans{H e d:Hp}(a:aY H e)(b:aY e d):aY H d:=λc o h=>b c o (a c o h)
theorem aY.free{H H':Hp}(e:aY H H'){l:AI}(h:H' l=Option.none):H l=Option.none:=by
 cases q:H l with
 | none=>rfl
 | some o=>
  rw[e l o q]at h;cases h
theorem aY.seq{K:aB}{H H':Hp}{a:AI}{xs:List V}(e:aY H H')(h:bU K H a xs):bU K H' a xs:=by
 rcases h with (h | ⟨o,h⟩) | h
 ·exact .inl (.inl (e _ _ h))
 ·exact .inl (.inr ⟨o,e _ _ h⟩)
 ·exact .inr h
section
variable {X:Cx}{pins:At}{σ:List (Option V)}{H H':Hp}{s:AK}{h':Heap}
end
section
variable {X:Cx}
variable {a b:AN}{ta tb:TE}{pos:Pos}
variable {tA tB':TT}{rest:AG}
end
section
variable {X:Cx}{a b c:AN}{ta tb tc:TE}{pos:Pos}
end
section
variable {prog:AM}{w:AO}{A:Around}{E:Ap}{s:AK}{K:aB}{x dx C f:AI}{mA:As}{name:Str}{v:AJ}
end
section
variable {X:Cx}{pins:At}{σ:St}{H:Hp}{s:AK}{a C dx:AI}{fs:List (Str×V)}{f:Str}{v:V}{A:Around}{E:Ap}
end
section
variable {X:Cx}{CX:ZR}{k:Nat}{f C:AI}{fd:AL}{ps:AH}{sp:Sp}{qu:List V}{ds:AC}{E:XK}{x m:Str}{p pos apos:Pos}{e o:AN}{es:AG}{ta:TE}{t:TA}
end
section
variable {X:Cx}{x:Str}{p pos:Pos}{e:AN}{es:AG}{t:TA}{id T:String}{r:List V->Hp->VK->Prop}
end
section
variable {κ:Type} [DecidableEq κ]
def jA(a:List (κ×V))(k:κ):Option V:=(a.find? λkv=>decide (kv.1=k)).map (·.2)
def putK(a:List (κ×V))(k:κ)(v:V):List (κ×V):=
 if (a.any λkv=>decide (kv.1=k))=true then a.map (λkv=>if kv.1=k then(kv.1,v)else kv)else a++[(k,v)]
theorem je{p:κ×V}{r:List (κ×V)}{k:κ}(e:p.1=k):jA (p::r) k=some p.2:=by simp[jA,List.find?_cons,e]
theorem jf{p:κ×V}{r:List (κ×V)}{k:κ}(e:¬ p.1=k):jA (p::r) k=jA r k:=by simp[jA,List.find?_cons,e]
theorem wz(k:κ):∀a:List (κ×V),(a.any λkv=>decide (kv.1=k))=(jA a k).isSome
 | []=>rfl
 | p::r=>by
  rw[List.any_cons]
  by_cases e:p.1=k
  ·simp only[je e,decide_eq_true e,Bool.true_or,Option.isSome_some]
  ·rw[jf e,decide_eq_false e,Bool.false_or];exact wz k r
theorem ZW(k j:κ)(y:V):∀a:List (κ×V),jA (a.map λkv=>if kv.1=k then(kv.1,y)else kv) j=(jA a j).map λx=>if j=k then y else x
 | []=>rfl
 | p::r=>by
  have b:=ZW k j y r;rw[List.map_cons]
  by_cases h:p.1=k
  ·rw[if_pos h]
   by_cases e:p.1=j
   ·rw[je (p:=(p.1,y)) e,je e,Option.map_some,if_pos (e.symm.trans h)]
   ·rw[jf (p:=(p.1,y)) e,jf e,b]
  ·rw[if_neg h]
   by_cases e:p.1=j
   ·rw[je (p:=p) e,je e,Option.map_some,if_neg (λz=>h (e.trans z))]
   ·rw[jf (p:=p) e,jf e,b]
theorem Up(k j:κ)(y:V):∀a:List (κ×V),jA a k=none->jA (a++[(k,y)]) j=if j=k then some y else jA a j
 | [],_=>by
  by_cases e:k=j
  ·rw[if_pos e.symm];exact je (p:=(k,y)) e
  ·rw[if_neg (λz=>e z.symm)];exact jf (p:=(k,y)) e
 | p::r,hn=>by
  rw[List.cons_append];have hk:¬ p.1=k:=λz=>by rw[je z]at hn;cases hn
  rw[jf hk]at hn;have b:=Up k j y r hn
  by_cases e:p.1=j
  ·rw[je e,je e,if_neg (λz=>hk (e.trans z))]
  ·rw[jf e,jf e,b]
theorem Zj5(b:List (κ×V))(k j:κ)(y:V):jA (putK b k y) j=if j=k then some y else jA b j:=by
 unfold putK
 by_cases a:(b.any λc=>decide (c.1=k))=true
 ·rw[if_pos a,ZW];rw[wz]at a
  by_cases e:j=k
  ·obtain⟨x,hx⟩:=Option.isSome_iff_exists.mp a;rw[if_pos e,e,hx,Option.map_some,if_pos rfl]
  ·rw[if_neg e];cases jA b j with
   | none=>rfl
   | some x=>rw[Option.map_some,if_neg e]
 ·rw[if_neg a];refine Up k j y b ?_;rw[wz]at a;cases q:jA b k with
  | none=>rfl
  | some x=>rw[q]at a;exact(a rfl).elim
theorem xF(a:List (κ×V))(k:κ)(v:V):(putK a k v).length<=a.length+1:=by
 unfold putK;split
 ·rw[aU];omega
 ·rw[List.length_append,List.length_cons,List.length_nil];omega
theorem Zk6{a:List (κ×V)}{k:κ}(v:V)(h:jA a k=none):putK a k v=a++[(k,v)]:=by
 unfold putK;rw[wz,h];exact if_neg ε
theorem yQ.Hs{o:Option V}{u:AB}(r:yQ o u):o.isSome=u.isSome:=by
 cases o with
 | none=>cases u with
  | none=>rfl
  | some _=>exact(show False from r).elim
 | some _=>cases u with
  | none=>exact(show False from r).elim
  | some _=>rfl
theorem KV.val{a:List (κ×V)}{vs:List (κ×AJ)}(r:KV a vs)(k:κ):yQ (jA a k) (valueAt vs k):=by
 unfold KV at r
 induction r with
 | nil=>exact True.intro
 | @cons p q g d h t f=>
  obtain⟨h1,h2⟩:=h
  by_cases e:p.1=k
  ·have c:q.1=k:=h1.symm.trans e;have b:valueAt (q::d) k=some q.2:=by simp[valueAt,List.find?_cons,c]
   rw[je e,b];exact h2
  ·have c:¬ q.1=k:=λz=>e (h1.trans z);have b:valueAt (q::d) k=valueAt d k:=by simp[valueAt,List.find?_cons,c]
   rw[jf e,b];exact f
theorem KV.any{a:List (κ×V)}{vs:List (κ×AJ)}(r:KV a vs)(k:κ):(a.any λkv=>decide (kv.1=k))=vs.any λkv=>decide (kv.1=k):=by
 unfold KV at r
 induction r with
 | nil=>rfl
 | cons h t b=>rw[List.any_cons,List.any_cons,b,h.1]
theorem KV.repl{a:List (κ×V)}{vs:List (κ×AJ)}(r:KV a vs)(k:κ){y:V}{u:AJ}(c:RelV y u):
  KV (a.map λkv=>if kv.1=k then(kv.1,y)else kv) (vs.map λkv=>if kv.1=k then(kv.1,u)else kv):=by
 unfold KV at r ⊢
 induction r with
 | nil=>exact .nil
 | @cons p q d f h t b=>
  rw[List.map_cons,List.map_cons];refine .cons ?_ b;obtain⟨h1,h2⟩:=h
  by_cases e:p.1=k
  ·rw[if_pos e,if_pos (h1.symm.trans e)];exact⟨h1,c⟩
  ·rw[if_neg e,if_neg (λz=>e (h1.trans z))];exact⟨h1,h2⟩
theorem KV.put{a:List (κ×V)}{vs:List (κ×AJ)}(r:KV a vs)(k:κ){y:V}{u:AJ}(b:RelV y u):KV (putK a k y) (stored vs k u):=by
 unfold putK stored;rw[r.any k]
 by_cases e:(vs.any λc=>decide (c.1=k))=true
 ·rw[if_pos e,if_pos e];exact r.repl k b
 ·rw[if_neg e,if_neg e];exact Paired.snoc r ⟨rfl,b⟩
theorem KV.length{a:List (κ×V)}{vs:List (κ×AJ)}(r:KV a vs):a.length=vs.length:=Paired.length r
end
theorem Zg2{P:AM}{w:AO}{k:Key}{u:AJ}(r:RelV (kV k) u):(di P w).is k u=true:=by
 cases k with
 | inl i=>obtain⟨t,e⟩:=(show ∃t,u=Value.int i t from r);subst e;exact Zaz P w i t
 | inr x=>obtain⟨t,e⟩:=(show ∃t,u=Value.str x t from r);subst e;exact Zay P w x t
theorem V8{P:AM}{w:AO}:∀{a:List Key}{us:AC},Vals (a.map kV) us->ItemsAre (di P w) a us
 | [],_,r=>by rw[List.map_nil]at r;cases r;exact .nil
 | k::a,_,r=>by
  rw[List.map_cons]at r;cases r with
  | cons h t=>exact .cons (Zg2 h) (V8 t)
abbrev KT(H:Hp):List (List Key×V)->List (List Key×AI×AJ)->Prop:=Paired λp q=>p.1=q.1/\H q.2.1=some (.tup (p.1.map kV))/\RelV p.2 q.2.2
theorem KT.val{H:Hp}{a:List (List Key×V)}{xs:List (List Key×AI×AJ)}(r:KT H a xs)(k:List Key):yQ (jA a k) ((atKey xs k).map (·.2)):=by
 induction r with
 | nil=>exact True.intro
 | @cons p q g d h t f=>
  obtain⟨h1,_,h2⟩:=h
  by_cases e:p.1=k
  ·have c:q.1=k:=h1.symm.trans e;have b:atKey (q::d) k=some q.2:=by simp[atKey,List.find?_cons,c]
   rw[je e,b];exact h2
  ·have c:¬ q.1=k:=λz=>e (h1.trans z);have b:atKey (q::d) k=atKey d k:=by simp[atKey,List.find?_cons,c]
   rw[jf e,b];exact f
theorem KT.repl{H:Hp}{a:List (List Key×V)}{xs:List (List Key×AI×AJ)}(r:KT H a xs)(k:List Key){y:V}{u:AJ}(c:RelV y u):
  KT H (a.map λkv=>if kv.1=k then(kv.1,y)else kv) (xs.map (putAt k u)):=by
 induction r with
 | nil=>exact .nil
 | @cons p q f g h t b=>
  rw[List.map_cons,List.map_cons];refine .cons ?_ b;obtain⟨h1,h2,d⟩:=h;unfold putAt
  by_cases e:p.1=k
  ·rw[if_pos e,if_pos (h1.symm.trans e)];exact⟨h1,h2,c⟩
  ·rw[if_neg e,if_neg (λz=>e (h1.trans z))];exact⟨h1,h2,d⟩
theorem KT.put{H:Hp}{a:List (List Key×V)}{xs:List (List Key×AI×AJ)}(r:KT H a xs)(k:List Key){b:AI}{y:V}{u:AJ}(hb:H b=some (.tup (k.map kV)))(c:RelV y u):
  KT H (putK a k y) (storedH xs k b u):=by
 have e:(a.any λd=>decide (d.1=k))=(atKey xs k).isSome:=by
  rw[wz,(r.val k).Hs,Option.isSome_map]
 unfold putK storedH;rw[e]
 by_cases q:(atKey xs k).isSome=true
 ·rw[if_pos q,if_pos q];exact r.repl k c
 ·rw[if_neg q,if_neg q];exact Paired.snoc r ⟨rfl,hb,c⟩
theorem KT.keeps{H H':Hp}{a:List (List Key×V)}{xs:List (List Key×AI×AJ)}(r:KT H a xs)(d:∀b c,H b=some (.tup c)->H' b=some (.tup c)):KT H' a xs:=
 Paired.Zui r λ_ _ z=>⟨z.1,d _ _ z.2.1,z.2.2⟩
section
variable {P:AM}{w:AO}{H:Hp}{h:Heap}{a:AI}
theorem Zq1{u:HO}(ok:ym P w H h)(e:Rd H a u):gH P w H h a u:=e.ok ok
theorem Am{b:List ee}(ok:ym P w H h)(e:Rd H a (.dK b)):b.length<=sizeLine/\(a == sysModules)=false/\∃vs,KV b vs/\h.DictOf (di P w) a vs:=
 show gH P w H h a (.dK b)from Zq1 ok e
theorem Zqn{b:List ee}(ok:ym P w H h)(e:H a=some (.dK b)):b.length<=sizeLine/\(a == sysModules)=false/\∃vs,KV b vs/\h.DictOf (di P w) a vs:=Am ok (.inl e)
theorem Yx{b:List Key}(ok:ym P w H h)(e:H a=some (.tup (b.map kV))):(tupleKind (di P w)).is h b a:=by
 obtain⟨_,c,r,o,h1,h2,n,d⟩:=(show gH P w H h a (.tup (b.map kV))from ok a _ e);exact⟨o,c.toArray,n,h1,h2,d,by simpa using V8 r⟩
theorem Zby{b:List (List Key×V)}(ok:ym P w H h)(e:Rd H a (.dT b)):b.length<=sizeLine/\(a == sysModules)=false/\
  ∃xs,KT H b xs/\h.DictOfH (tupleKind (di P w)) a xs:=by
 obtain⟨z,y,xs,r,o,f,c,h1,h2,g,h4,h5⟩:=(show gH P w H h a (.dT b)from Zq1 ok e);refine⟨z,y,xs,r,o,f,c,h1,h2,g,h4,λx hx=>?_,h5⟩;have all:∀{l:List (List Key×V)}{m:List (List Key×AI×AJ)},KT H l m->∀x∈m,(tupleKind (di P w)).is h x.1 x.2.1:=by
  intro l m q
  induction q with
  | nil=>intro x hx;exact nomatch hx
  | @cons p q i j hq t d=>
   intro x hx;rcases List.mem_cons.mp hx with e | hx
   ·subst e;exact Yx ok (by rw[<- hq.1];exact hq.2.1)
   ·exact d x hx
 exact all r x hx
theorem Zvr{b:List (List Key×V)}(ok:ym P w H h)(e:H a=some (.dT b)):b.length<=sizeLine/\(a == sysModules)=false/\
  ∃xs,KT H b xs/\h.DictOfH (tupleKind (di P w)) a xs:=Zby ok (.inl e)
end
def yo(H:Hp)(a:AI)(y:V)(r:Option V):Prop:=
 (∃c k,Rd H a (.dK c)/\y=kV k/\r=jA c k)\/∃c k b,Rd H a (.dT c)/\y=.ref b/\H b=some (.tup (k.map kV))/\r=jA c k
def Uk(H:Hp)(a:AI)(y v:V)(H':Hp):Prop:=
 (∃c k,H a=some (.dK c)/\y=kV k/\c.length<sizeLine/\H'=upd H a (.dK (putK c k v)))\/
 ∃c k b,H a=some (.dT c)/\y=.ref b/\H b=some (.tup (k.map kV))/\c.length<sizeLine/\H'=upd H a (.dT (putK c k v))
theorem yo.k{H:Hp}{a:AI}{b:List ee}{k:Key}(e:H a=some (.dK b)):yo H a (kV k) (jA b k):=.inl ⟨b,k,.inl e,rfl,rfl⟩
theorem Uk.k{H:Hp}{a:AI}{b:List ee}{k:Key}{v:V}(e:H a=some (.dK b))(hl:b.length<sizeLine):Uk H a (kV k) v (upd H a (.dK (putK b k v))):=.inl ⟨b,k,e,rfl,hl,rfl⟩
section
variable {X:Cx}{pins:At}{σ:St}{H:Hp}{s:AK}{a:AI}{y v:V}{u r:AJ}{o:Option V}{A:Around}{E:Ap}
theorem Inv.big(I:Inv X pins σ H s):sysModules<s.heap.objs.size:=by
 have h:mainGlobals<s.heap.objs.size:=(I.mod.glob.keeps I.bk).lt;exact Nat.lt_trans ε h
theorem Zix{Q:Ap}(hu:A.units+1<cLine)(I:Inv X pins σ H s)(g:yo H a y eW)(q:RelV y u)(h:∀d s',Inv X pins σ H s'->RelV v d->Q d s'):
  wpAny ς A (getItem (.ref a) u) Q E s:=by
 rcases g with ⟨j,k,e,i,l⟩ | ⟨j,k,b,e,i,x,l⟩
 ·subst i;obtain⟨z,hd,r,rel,n⟩:=Am I.hok e;obtain⟨d,f,c⟩:=yQ.some_of (v:=v) (o:=valueAt r k) (by rw[l];exact rel.val k);exact wpAny_getItem_of (Zg2 q) n.mapOf f (h d _ (I.tok _) c)
 ·subst i;cases (show u=Value.ref b from q);obtain⟨z,hd,t,rel,n⟩:=Zby I.hok e;obtain⟨d,f,c⟩:=yQ.some_of (v:=v) (o:=(atKey t k).map (·.2)) (by rw[l];exact rel.val k);obtain⟨p,hp,m⟩:=Option.map_eq_some_iff.mp f;refine wpAny_getItem_heap (tupleKind_room_in1 hu) (Yx I.hok x) n hp ?_;rw[m];exact h d _ (I.tok _) c
theorem Zgg{Q:Ap}(hu:A.units+1<cLine)(I:Inv X pins σ H s)(g:yo H a y o)(i:RelV y u)(h:∀s',Inv X pins σ H s'->Q (.bool (!o.isSome)) s'):
  wpAny ς A (compareOp .NotIn u (.ref a)) Q E s:=by
 rcases g with ⟨d,k,e,c,l⟩ | ⟨d,k,b,e,c,j,l⟩
 ·subst c;obtain⟨z,hd,m,rel,f⟩:=Am I.hok e;refine wpAny_notIn_of (Zg2 i) hd f.mapOf ?_;rw[<- (rel.val k).Hs,<- l];exact h _ (I.tok _)
 ·subst c;cases (show u=Value.ref b from i);obtain⟨z,hd,n,rel,f⟩:=Zby I.hok e;refine wpAny_notIn_heap (tupleKind_room_in1 hu) (Yx I.hok j) hd f ?_;have q:=(rel.val k).Hs;rw[Option.isSome_map]at q;rw[<- q,<- l];exact h _ (I.tok _)
theorem Zgf{h':Heap}{t':Nat}{ob:HO}(I:Inv X pins σ H s)(c:Mut (H a))(hs:Heap.SameBut a s.heap h')(d:∃q,h'.get? a=some q)(new:gH X.prog X.w (upd H a ob) h' a ob):
  Inv X pins σ (upd H a ob) { s with heap:=h',toks:=t' }:=
 I.write (x:=a) (e:=a) c (.inl rfl) (λb q hb z=>(hs.2 b hb).trans z) d new
theorem Zt7{P:AM}{w:AO}{H':Hp}{h':Heap}{b:List ee}{vs:List (Key×AJ)}(z:b.length<=sizeLine)(hd:(a == sysModules)=false)(rel:KV b vs)(dd:h'.DictOf (di P w) a vs):
  gH P w H' h' a (.dK b):=⟨z,hd,vs,rel,dd⟩
theorem Ziw{H':Hp}{Q:Unit->AK->Prop}(hu:A.units+1<cLine)(I:Inv X pins σ H s)(g:Uk H a y v H')(t:RelV y u)(p:RelV v r)(h:∀s',Inv X pins σ H' s'->Q () s'):
  wpAny ς A (setItem (.ref a) u r) Q E s:=by
 rcases g with ⟨d,k,e,j,l,i⟩ | ⟨d,k,b,e,j,x,l,i⟩
 ·subst j i;obtain⟨z,hd,C,rel,m⟩:=Zqn I.hok e;have hz:C.length<=sizeLine:=by rw[<- rel.length];exact z
  have hl:(putK d k v).length<=sizeLine:=by have:=xF d k v;omega
  refine wpAny_setItem_pairs (hsz:=hz) (Zg2 t) m λn f hs=>h _ ?_;have J:∃q,n.get? a=some q:=let ⟨q,_,_,hq,_⟩:=f;⟨q,hq⟩
  exact Zgf I (by rw[e];exact True.intro) hs J (Zt7 hl hd (rel.put k p) f)
 ·subst j i;cases (show u=Value.ref b from t);obtain⟨z,hd,F,rel,m⟩:=Zvr I.hok e;have hz:F.length<=sizeLine:=by rw[<- Paired.length rel];exact z
  have hl:(putK d k v).length<=sizeLine:=by have:=xF d k v;omega
  refine wpAny_setItem_heap (hsz:=hz) (tupleKind_room_in1 hu) (Yx I.hok x) m λn f hs=>h _ ?_;obtain⟨q,D,B,hq,h2,K,h4,_,h5⟩:=f;refine Zgf I (by rw[e];exact True.intro) hs ⟨q,hq⟩ ⟨hl,hd,_,(rel.put k x p).keeps λc L o=>?_,q,D,B,hq,h2,K,h4,h5⟩;rw[aC (lg o e ai)];exact o
end
section
variable {X:Cx}{pins:At}{σ:St}{H:Hp}{s:AK}{a:AI}{kvs:List ee}{k:Key}{u:AJ}{A:Around}{E:Ap}
end
def Zps(i:AN):Prop:=∀b a,subscripted i false b a=operate [b,a] (getItem b a)
theorem Zfg{prog:AM}{w:AO}{A:Around}{E:Ap}{s:AK}{env:Env}{b a:AN}{k:Pos}{T id:String}{Q:Ap}
  (hl:typeLookup (.type T) "__getitem__"=pure (some (.builtin id))) (hs:Zps a)
  (h:wpAny ad A (eval b env) (λo f=>wpAny ad A (eval a env) (λi c=>c.TypeIs o T/\wpAny ad A (getItem o i) Q E c) E f) E s):
  wpAny ad A (eval (.Subscript b a k) env) Q E s:=by
 refine Subscript_ (wpAny_mono h (λo f g=>wpAny_mono g (λi c d=>?_) λ_ _ x=>x) λ_ _ x=>x);obtain⟨l,d⟩:=d;unfold subscriptTail;refine wpAny_bind ?_;rw[getitemInPython_of_ne l.not_modules];refine wpAny_bind (wpAny_specialOf l hl ?_);have fin:wpAny ad A (subscripted a false o i) (λr e=>wpAny ad A (letTemporaryGo b o r >>= λ_=>pure r) Q E e) E c:=by
  rw[hs o i];exact wpAny_operating (wpAny_mono d (λr e j=>wpAny_bind (wpAny_letTemporaryGo (wpAny_pure j))) λ_ _ x=>x)
 first
  | exact wpAny_pure (wpAny_bind fin)
  | exact wpAny_bind (wpAny_pure (wpAny_bind fin))
  | exact wpAny_bind fin
theorem Zc2{X:Cx}{c:At}{σ:St}{H:Hp}{s:AK}{a:AI}{y:V}{o:Option V}(I:Inv X c σ H s)(g:yo H a y o):s.TypeIs (.ref a) "dict":=by
 rcases g with ⟨d,k,e,_,_⟩ | ⟨d,k,b,e,_,_,_⟩
 ·obtain⟨_,_,i,_,f⟩:=Am I.hok e;exact f.typeIs
 ·obtain⟨_,_,h,_,f⟩:=Zby I.hok e;exact f.typeIs
def IK(d ty:TE):TE:=λσ H Q=>d σ H λx c=>ty σ c λy b=>∃a v,x=.ref a/\yo b a y eW/\Q v b
def BP(ty d:TE):TE:=λσ H Q=>ty σ H λy c=>d σ c λx b=>∃a o,x=.ref a/\yo b a y o/\Q (.bl (!o.isSome)) b
def Ju(g ty e:TE):TS:=λD σ H=>e σ H λv d=>g σ d λx c=>ty σ c λy f=>∃a b,x=.ref a/\Uk f a y v b/\D.nx σ b
section
variable {X:Cx}{o i e value:AN}{pos pos' tpos:Pos}{td ty tv:TE}
theorem Zo2(hu:X.A.units+1<cLine)(e:PE X o td)(hi:PE X i ty)(hs:Zps i):PE X (.Subscript o i pos) (IK td ty):=by
 intro b s d H Q I h;refine Zfg PySem.F.slot_dict_getitem.lookup hs (gw (e b s d H _ I h) λu j ⟨x,H1,I1,rx,q1⟩=>gw (hi b j d H1 _ I1 q1) λm k qc=>?_);obtain⟨y,H2,I2,ry,a,v,ex,g,q2⟩:=qc;subst ex;obtain rfl:u=Value.ref a:=rx;exact⟨Zc2 I2 g,Zix hu I2 g ry λn l f c=>⟨v,H2,f,c,q2⟩⟩
theorem G4(hu:X.A.units+1<cLine)(hi:PE X i ty)(d:PE X o td):PC X .NotIn i o (BP ty td):=by
 intro b s c H Q I h;refine gw (hi b s c H _ I h) λl f ⟨y,H1,I1,ry,q1⟩=>gw (d b f c H1 _ I1 q1) λu j qc=>?_;obtain⟨x,H2,I2,rx,a,ov,ex,g,q2⟩:=qc;subst ex;obtain rfl:u=Value.ref a:=rx;exact Zgg hu I2 g ry λk e=>⟨.bl (!ov.isSome),H2,e,rfl,q2⟩
theorem yx(hu:X.A.units+1<cLine)(d:PE X o td)(hi:PE X i ty)(hv:PE X value tv)(hs:swapsWith value (some (.Subscript o i pos')) pos.line X.env=pure false):
  PS X (.Assign [.Subscript o i pos'] value pos) (Ju td ty tv):=by
 intro b s c H D I h;refine wpAny_Assign_Subscript (gw (hv b s c H _ I h) λr j ⟨v,H1,I1,rv,q1⟩=>gw (d b j c H1 _ I1 q1) λu f ⟨x,H2,I2,rx,q2⟩=>gw (hi b f c H2 _ I2 q2) λm l qc=>?_) hs;obtain⟨y,H3,I3,ry,a,H4,ex,g,q3⟩:=qc;subst ex;obtain rfl:u=Value.ref a:=rx;exact Ziw hu I3 g ry rv λk e=>⟨c,H4,e,q3⟩
end
theorem Zmt{P:AM}{w:AO}{H:Hp}(h:Heap)(hb:sysModules<h.objs.size):gH P w H (h.push { cls:=.type "dict",data:=.dict #[] }) h.objs.size (.dK []):=
 ⟨Nat.zero_le _,beq_eq_false_iff_ne.mpr (Ne.symm (Nat.ne_of_lt hb)),[],.nil,Heap.DictOf.new h⟩
def GF:TE:=λ_ H Q=>∀p,H p=none->Q (.ref p) (upd H p (.dK []))
section
variable {X:Cx}{pos:Pos}
theorem wQ:PE X (.Dict [] [] pos) GF:=λb s σ H Q I h=>
 wpAny_Dict_empty ⟨.ref s.heap.objs.size,_,I.laid (a:=s.heap.objs.size) (o:=.dK []) (t':=s.toks) (λ_ _ q=>Heap.get?_push_of_some _ q) Δ (Zmt s.heap I.big),rfl,h _ (I.hok.fresh Δ)⟩
end
def Zjf:List (TE×TE)->St->Hp->(List (V×V)->Hp->Prop)->Prop
 | [],_,H,Q=>Q [] H
 | (tk,c)::r,σ,H,Q=>tk σ H λx b=>c σ b λy a=>Zjf r σ a λps d=>Q ((x,y)::ps) d
abbrev VV:List (V×V)->List (AJ×AJ)->Prop:=Paired λp q=>RelV p.1 q.1/\RelV p.2 q.2
def PPs(X:Cx)(d:Pos)(keys:List (Option AN))(a:AG)(c:List (TE×TE)):Prop:=
 ∀(b:At) (s:AK) (σ:St) (H:Hp) (Q:List (V×V)->Hp->Prop),Inv X b σ H s->Zjf c σ H Q->
  wpAny ς X.A (evalPairs (pairTrees keys a X.env d)) (λvs s'=>∃ps H',Inv X b σ H' s'/\VV ps vs/\Q ps H') X.xe s
structure M1(X:Cx)(o:AN)(m:Str)(apos:Pos)(e:AN)(cpos:Pos):Prop where
 base:attributeBase o m X.env (eval o X.env)=eval o X.env
 few:((backTo cpos (starEach [e] X.env)).all (λx=>!x.1) && (backToKw cpos (keywordEach [] X.env)).all (λx=>x.1.isSome)
  && decide (([e]:AG).length+([]:List Keyword).length+(if ([]:List Keyword).isEmpty then 0 else 1)<30))=true
 line:(apos.endLine == cpos.line)=true
 trees:backTo cpos (starEach [e] X.env)=[(false,eval e X.env)]
structure M2(X:Cx)(o:AN)(m:Str)(apos:Pos)(e f:AN)(cpos:Pos):Prop where
 base:attributeBase o m X.env (eval o X.env)=eval o X.env
 few:((backTo cpos (starEach [e,f] X.env)).all (λx=>!x.1) && (backToKw cpos (keywordEach [] X.env)).all (λx=>x.1.isSome)
  && decide (([e,f]:AG).length+([]:List Keyword).length+(if ([]:List Keyword).isEmpty then 0 else 1)<30))=true
 line:(apos.endLine == cpos.line)=true
 trees:backTo cpos (starEach [e,f] X.env)=[(false,eval e X.env),(false,eval f X.env)]
def IsD(H:Hp)(a:AI):Prop:=(∃b,Rd H a (.dK b))\/∃b,Rd H a (.dT b)
theorem Zdz{X:Cx}{c:At}{σ:St}{H:Hp}{s:AK}{a:AI}(I:Inv X c σ H s)(d:IsD H a):
  s.TypeIs (.ref a) "dict"/\(∀b,Value.ref a=.ref b->∃ob,s.heap.get? b=some ob/\ob.dict=none)/\(a == sysModules)=false:=by
 rcases d with ⟨g,e⟩ | ⟨g,e⟩
 ·obtain⟨_,hd,h,_,f⟩:=Am I.hok e;refine⟨f.typeIs,λb q=>?_,hd⟩;cases q;obtain⟨ob,_,_,h1,h2,_⟩:=f;exact⟨ob,h1,h2.2.1⟩
 ·obtain⟨_,hd,i,_,f⟩:=Zby I.hok e;refine⟨f.typeIs,λb q=>?_,hd⟩;cases q;obtain⟨ob,_,_,h1,h2,_⟩:=f;exact⟨ob,h1,h2.2.1⟩
section
variable {X:Cx}{pins:At}{σ:St}{H:Hp}{s:AK}{a:AI}{y d:V}{u r:AJ}{o:Option V}{A:Around}{E:Ap}
end
section
variable {X:Cx}{o e f:AN}{apos cpos:Pos}{td ty tx:TE}
end
section
variable {X:Cx}{pins:At}{σ:St}{H:Hp}{s:AK}{a:AI}{kvs:List ee}{A:Around}{E:Ap}
end
section
variable {X:Cx}{pins:At}{σ:St}{H:Hp}{s:AK}{a:AI}{y:V}{u:AJ}{A:Around}{E:Ap}
end
end L2
namespace Att
open PySem PySem.W PySem.Calls PyProof.Rows
section
variable {prog:AM}{w:AO}{A:Around}{E:Ap}{s:AK}{K:Frag}
end
end Att
namespace L2
open PySem PySem.Spec PyProof.Rows
section
variable {X:Cx}
end
section
variable {κ:Type} [DecidableEq κ]
end
end L2
set_option maxHeartbeats 40000000
namespace G
open PySem L2
section
variable {D:Ends}{σ:St}{H H1:Hp}{Q:VK}{t u:TS}{ta tb tc te:TE}{n:ν}{r:VK}{b c:ν}
theorem vQ(h:t ⟨u ⟨n,r,b,c⟩,r,b,c⟩ σ H):aM t u ⟨n,r,b,c⟩ σ H:=h
theorem mQ(h:n σ H):bW ⟨n,r,b,c⟩ σ H:=h
theorem Zso(h:te σ H λ_ H1=>n σ H1):mj te ⟨n,r,b,c⟩ σ H:=h
theorem Zg4(h:te σ H r):bH te ⟨n,r,b,c⟩ σ H:=h
theorem Zsm{c':TT}(h:c' σ H λk H1=>if k=true then t ⟨n,r,b,c⟩ σ H1 else u ⟨n,r,b,c⟩ σ H1):cU c' t u ⟨n,r,b,c⟩ σ H:=h
theorem Fx{g:TG}(h:te σ H λx H1=>g x σ H1 n):bC te g ⟨n,r,b,c⟩ σ H:=h
theorem i_C{v:V}(h:Q v H):tC v σ H Q:=h
theorem Ze1{f:R2}(h:ta σ H λx H1=>tb σ H1 λy a=>f x y a Q):bx f ta tb σ H Q:=h
theorem Zwz{f:V->Hp->VK->Prop}(h:ta σ H λx H1=>f x H1 Q):tUn f ta σ H Q:=h
def kB(q:Bool->Hp->Prop):VK:=λx H'=>∃k,x=.bl k/\q k H'
theorem i_B{k:Bool}{q:Bool->Hp->Prop}(h:q k H):kB q (.bl k) H:=⟨k,rfl,h⟩
theorem Zs9{q:Bool->Hp->Prop}(h:te σ H (kB q)):bL te σ H q:=h
theorem Zuv{q:Bool->Hp->Prop}(h:te σ H (kB q)):tB te σ H q:=h
theorem Zve{t u:TT}{q:Bool->Hp->Prop}(h:t σ H λk H1=>if k=true then u σ H1 q else q false H1):Xb t u σ H q:=h
theorem Zuy{t u:TT}{q:Bool->Hp->Prop}(h:t σ H λk H1=>if k=true then q true H1 else u σ H1 q):Iz t u σ H q:=h
theorem Zqd{t:TT}{q:Bool->Hp->Prop}(h:t σ H λk H1=>q (!k) H1):sJ t σ H q:=h
theorem Zsu(h:ta σ H (kB λk H1=>if k=true then tb σ H1 Q else Q (.bl false) H1)):Z0 ta tb σ H Q:=h
theorem Zux(h:ta σ H (kB λk H1=>if k=true then Q (.bl true) H1 else tb σ H1 Q)):Zqy ta tb σ H Q:=h
theorem Zsc(h:ta σ H (kB λk H1=>Q (.bl (!k)) H1)):Zff ta σ H Q:=h
theorem Zv6{t:TT}(h:t σ H λk H1=>if k=true then ta σ H1 Q else tb σ H1 Q):tIf t ta tb σ H Q:=h
theorem Zvf{g:Int->Int->V}{i j:Int}(h:Q (g i j) H):jC g (.int i) (.int j) H Q:=⟨i,j,rfl,rfl,h⟩
theorem i_I{C:Int->Int->Prop}{g:Int->Int->V}{i j:Int}(hc:C i j)(h:Q (g i j) H):rI C g (.int i) (.int j) H Q:=⟨i,j,rfl,rfl,hc,h⟩
theorem i_U{g:Int->V}{i:Int}(h:Q (g i) H):rU g (.int i) H Q:=⟨i,rfl,h⟩
theorem Zvc{i j:Int}(h:Q (.bl (decide (i=j))) H):wk (.int i) (.int j) H Q:=⟨rfl,by rw[show decide (V.int i=V.int j)=decide (i=j)from decide_eq_decide.mpr ⟨λe=>V.int.inj e,λe=>by rw[e]⟩];exact h⟩
theorem Zvb{i j:Str}(h:Q (.bl (decide (i=j))) H):wk (.str i) (.str j) H Q:=⟨rfl,by rw[show decide (V.str i=V.str j)=decide (i=j)from decide_eq_decide.mpr ⟨λe=>V.str.inj e,λe=>by rw[e]⟩];exact h⟩
theorem Zv1{i j:Int}(h:Q (.bl (!decide (i=j))) H):Xv (.int i) (.int j) H Q:=⟨rfl,by rw[show decide (V.int i=V.int j)=decide (i=j)from decide_eq_decide.mpr ⟨λe=>V.int.inj e,λe=>by rw[e]⟩];exact h⟩
theorem Zv0{i j:Str}(h:Q (.bl (!decide (i=j))) H):Xv (.str i) (.str j) H Q:=⟨rfl,by rw[show decide (V.str i=V.str j)=decide (i=j)from decide_eq_decide.mpr ⟨λe=>V.str.inj e,λe=>by rw[e]⟩];exact h⟩
theorem Zv2{i j:Bool}(h:Q (.bl (!decide (i=j))) H):Xv (.bl i) (.bl j) H Q:=⟨rfl,by rw[show decide (V.bl i=V.bl j)=decide (i=j)from decide_eq_decide.mpr ⟨λe=>V.bl.inj e,λe=>by rw[e]⟩];exact h⟩
def R5:R2:=λx y H Q=>y=.non/\Q (.bl (decide (x=.non))) H
def zM:R2:=λx y H Q=>y=.non/\Q (.bl (!decide (x=.non))) H
theorem Zsl(h:Q (.bl true) H):R5 .non .non H Q:=⟨rfl,h⟩
theorem Zsk{i:Int}(h:Q (.bl false) H):R5 (.int i) .non H Q:=⟨rfl,h⟩
theorem Zsj{i:AI}(h:Q (.bl false) H):R5 (.ref i) .non H Q:=⟨rfl,h⟩
theorem Zot(h:Q (.bl false) H):zM .non .non H Q:=⟨rfl,h⟩
theorem Zos{i:Int}(h:Q (.bl true) H):zM (.int i) .non H Q:=⟨rfl,h⟩
theorem Zor{i:AI}(h:Q (.bl true) H):zM (.ref i) .non H Q:=⟨rfl,h⟩
theorem Ze3{A B:Prop}(h:A):if true=true then A else B:=Zdx h
theorem YS{A B:Prop}(h:B):if false=true then A else B:=Zop h
theorem Zoz{A B:Prop}(h:B):if (!true)=true then A else B:=Zop h
theorem Zp0{A B:Prop}(h:A):if (!false)=true then A else B:=Zdx h
theorem su{p A B:Prop} [Decidable p](h1:p->A)(h2:¬ p->B):if decide p=true then A else B:=Zs4 (λe=>h1 (of_decide_eq_true e)) (λe=>h2 (λq=>e (decide_eq_true q)))
theorem uQ{p A B:Prop} [Decidable p](h1:¬ p->A)(h2:p->B):if (!decide p)=true then A else B:=Zs4 (λe=>h1 eS) (λe=>h2 eS)
theorem Zuz{q:List V->Hp->Prop}(h:q [] H):aD σ H q:=h
theorem Zss{q:List V->Hp->Prop}{t:TA}(h:ta σ H λx H1=>t σ H1 λxs a=>q (x::xs) a):aj ta t σ H q:=h
theorem Zv4{t:TA}(h:t σ H λxs H1=>xs.length<=sizeLine/\∀p,H1 p=none->Q (.ref p) (upd H1 p (.lst xs))):fG t σ H Q:=h
theorem Zus{t:TA}(h:t σ H λxs H1=>xs.length<=sizeLine/\∀p,H1 p=none->Q (.ref p) (upd H1 p (.tup xs))):dI t σ H Q:=h
theorem Zst{t:TA}{sp:Sp}{qu:List V}{E:XK}(h:t σ H λvs H1=>sp (vs++qu) H1 Q E):aQ sp qu E t σ H Q:=h
theorem Zxc{t:TA}{f:List V->Hp->VK->Prop}(h:t σ H λvs H1=>f vs H1 Q):oF f t σ H Q:=h
theorem Zsh{t:TA}{sp:Sp}{qu:List V}{E:XK}{C:AI}(h:t σ H λvs H1=>∀x dx,H1 x=none->H1 dx=none->dx≠x->sp (.ref x::(vs++qu)) (upd (upd H1 dx (.own x)) x (.ins C dx [])) (λv a=>v=.non/\Q (.ref x) a) E):qC C sp qu E t σ H Q:=h
def Zuq(K:aB)(f:Str)(Q:VK):VK:=λx H1=>∃a C dx fs v,x=.ref a/\H1 a=some (.ins C dx fs)/\MP K C/\cQ K C f/\fs.lookup f=some v/\Q v H1
theorem Zva{K:aB}{f:Str}(h:ta σ H (Zuq K f Q)):bz K ta f σ H Q:=h
theorem aH{K:aB}{f:Str}{a C dx:AI}{fs:List (Str×V)}{v:V}(h:H a=some (.ins C dx fs))(hc:MP K C)(hn:cQ K C f)(hl:fs.lookup f=some v)(q:Q v H):Zuq K f Q (.ref a) H:=⟨a,C,dx,fs,v,rfl,h,hc,hn,hl,q⟩
theorem Zsa{K:aB}{f:Str}{e:TE}(h:e σ H λy H1=>ta σ H1 λx d=>∃a C dx fs,x=.ref a/\d a=some (.ins C dx fs)/\MP K C/\cQ K C f/\fs.length<1000/\n σ (upd d a (.ins C dx (bZ f y fs)))):eG K ta e f ⟨n,r,b,c⟩ σ H:=h
theorem Zsg{C:AI}{m:Str}{sp:Sp}{qu:List V}{E:XK}{t:TA}(h:ta σ H λx H1=>∃a dx fs,x=.ref a/\H1 a=some (.ins C dx fs)/\fs.lookup m=none/\t σ H1 λvs b=>sp (x::(vs++qu)) b Q E):gO C m sp qu E ta t σ H Q:=h
theorem Zlt{q:AA->Hp->Prop}(h:q none H):Ml σ H q:=h
def kI(q:Int->Hp->Prop):VK:=λx H1=>∃i,x=.int i/\q i H1
theorem Zsb{q:AA->Hp->Prop}(h:te σ H (kI λi=>q (some i))):U5 te σ H q:=h
theorem Zx1{i:Int}{q:Int->Hp->Prop}(h:q i H):kI q (.int i) H:=⟨i,rfl,h⟩
theorem Zx0{f:V->AA->AA->Hp->VK->Prop}{tl th:TO}(h:te σ H λx H1=>tl σ H1 λl a=>th σ a λu b=>f x l u b Q):tSl f te tl th σ H Q:=h
theorem Zxb{K:aB}{T:String}{f:V->List V->Hp->VK->Prop}{to:TE}{t:TA}(h:to σ H λx H1=>tyV K T x H1/\t σ H1 λxs a=>f x xs a Q):tBM K T f to t σ H Q:=h
theorem Zvd{K:aB}{T:String}{f:V->List V->Hp->VK->Prop}{to:TE}(h:to σ H λx H1=>tyV K T x H1/\f x [] H1 Q):Zqz K T f to σ H Q:=h
theorem Zv9{e:TI}{g:TG}{tb:TS}(h:e σ H λJ H1=>∃W:Nat->Nat->ν,(∃m,W 0 m σ H1)/\∀i m σ H,W i m σ H->
 (J.stop i H/\n σ H)\/(J.go i H/\∃N:ν,(∀ a H',N a H'->∃f,f<m/\W de f a H')/\∀x H',J.yld i H x H'->g x σ H' λd j=>tb ⟨N,r,n,N⟩ d j)):rG e g tb ⟨n,r,b,c⟩ σ H:=h
theorem Zx4{K:aB}{R:It->Hp->Prop}(h:te σ H λx H1=>∃a,x=.ref a/\(∃xs,bU K H1 a xs)/\R (Itl K a) H1):jz K te σ H R:=h
theorem Zx3{ta:TA}{R:It->Hp->Prop}(h:ta σ H λvs H1=>∃j:Int,vs=[.int j]/\-(2 ^ 62)<=j/\j<2 ^ 62/\R (Itr 0 j.toNat) H1):xJ ta σ H R:=h
end
theorem Zwy{v:V}{l:St}{H:Hp}{Q:VK}(h:Q v H):ak 0 (some v::l) H Q:=⟨v,rfl,h⟩
theorem Zwx{a:Option V}{v:V}{l:St}{H:Hp}{Q:VK}(h:Q v H):ak 1 (a::some v::l) H Q:=⟨v,rfl,h⟩
theorem Zxa{a:Option V}{y:Option V}{v:V}{l:St}{H:Hp}{Q:ν}(h:Q (a::some v::l) H):aL 1 v (a::y::l) H Q:=h
theorem Zww{a b:Option V}{v:V}{l:St}{H:Hp}{Q:VK}(h:Q v H):ak 2 (a::b::some v::l) H Q:=⟨v,rfl,h⟩
theorem Zp2{a b:Option V}{y:Option V}{v:V}{l:St}{H:Hp}{Q:ν}(h:Q (a::b::some v::l) H):aL 2 v (a::b::y::l) H Q:=h
theorem Ze0{a c b:Option V}{v:V}{l:St}{H:Hp}{Q:VK}(h:Q v H):ak 3 (a::c::b::some v::l) H Q:=⟨v,rfl,h⟩
theorem YT{a c b:Option V}{y:Option V}{v:V}{l:St}{H:Hp}{Q:ν}(h:Q (a::c::b::some v::l) H):aL 3 v (a::c::b::y::l) H Q:=h
theorem Zwv{a c b d:Option V}{v:V}{l:St}{H:Hp}{Q:VK}(h:Q v H):ak 4 (a::c::b::d::some v::l) H Q:=⟨v,rfl,h⟩
theorem Zp1{a c b d:Option V}{y:Option V}{v:V}{l:St}{H:Hp}{Q:ν}(h:Q (a::c::b::d::some v::l) H):aL 4 v (a::c::b::d::y::l) H Q:=h
theorem Zwu{b d c e a:Option V}{v:V}{l:St}{H:Hp}{Q:VK}(h:Q v H):ak 5 (b::d::c::e::a::some v::l) H Q:=⟨v,rfl,h⟩
theorem Zx9{b d c e a:Option V}{y:Option V}{v:V}{l:St}{H:Hp}{Q:ν}(h:Q (b::d::c::e::a::some v::l) H):aL 5 v (b::d::c::e::a::y::l) H Q:=h
theorem Zwt{b e c f a d:Option V}{v:V}{l:St}{H:Hp}{Q:VK}(h:Q v H):ak 6 (b::e::c::f::a::d::some v::l) H Q:=⟨v,rfl,h⟩
theorem Zx8{b e c f a d:Option V}{y:Option V}{v:V}{l:St}{H:Hp}{Q:ν}(h:Q (b::e::c::f::a::d::some v::l) H):aL 6 v (b::e::c::f::a::d::y::l) H Q:=h
theorem Zws{b e c f a d g:Option V}{v:V}{l:St}{H:Hp}{Q:VK}(h:Q v H):ak 7 (b::e::c::f::a::d::g::some v::l) H Q:=⟨v,rfl,h⟩
theorem Zv7{b e c f a d g:Option V}{y:Option V}{v:V}{l:St}{H:Hp}{Q:ν}(h:Q (b::e::c::f::a::d::g::some v::l) H):aL 7 v (b::e::c::f::a::d::g::y::l) H Q:=h
theorem Zwr{b e c g a d i f:Option V}{v:V}{l:St}{H:Hp}{Q:VK}(h:Q v H):ak 8 (b::e::c::g::a::d::i::f::some v::l) H Q:=⟨v,rfl,h⟩
theorem Zx7{b e c g a d i f:Option V}{y:Option V}{v:V}{l:St}{H:Hp}{Q:ν}(h:Q (b::e::c::g::a::d::i::f::some v::l) H):aL 8 v (b::e::c::g::a::d::i::f::y::l) H Q:=h
theorem Zwq{b e c i a d j g f:Option V}{v:V}{l:St}{H:Hp}{Q:VK}(h:Q v H):ak 9 (b::e::c::i::a::d::j::g::f::some v::l) H Q:=⟨v,rfl,h⟩
theorem Zx6{b e c i a d j g f:Option V}{y:Option V}{v:V}{l:St}{H:Hp}{Q:ν}(h:Q (b::e::c::i::a::d::j::g::f::some v::l) H):aL 9 v (b::e::c::i::a::d::j::g::f::y::l) H Q:=h
theorem Zur{c f d j b e k i g a:Option V}{v:V}{l:St}{H:Hp}{Q:VK}(h:Q v H):ak 10 (c::f::d::j::b::e::k::i::g::a::some v::l) H Q:=⟨v,rfl,h⟩
theorem Zv8{c f d j b e k i g a:Option V}{y:Option V}{v:V}{l:St}{H:Hp}{Q:ν}(h:Q (c::f::d::j::b::e::k::i::g::a::some v::l) H):aL 10 v (c::f::d::j::b::e::k::i::g::a::y::l) H Q:=h
theorem aK{H:Hp}{p:AI}(h:H p=none)(o:HO):aY H (upd H p o):=λb u q=>by rw[aC (aF q h)];exact q
theorem nwO{H b:Hp}{a:AI}{o:HO}(n:H a=none)(h:upd H a o=b):aY H b/\b a=some o:=by
 subst h;exact⟨aK n o,aq⟩
def tyN(H:Hp):V->Option String
 | .non=>some "NoneType"
 | .bl _=>some "bool"
 | .int _=>some "int"
 | .str _=>some "str"
 | .ref a=>match H a with
  | some (.lst _)=>some "list"
  | some (.uB _ (.lst _))=>some "list"
  | some (.tup _)=>some "tuple"
  | some (.dK _)=>some "dict"
  | some (.dT _)=>some "dict"
  | _=>none
 | _=>none
def qt(t n:String):Option Bool:=if ["int","bool","str","list","tuple","dict"].contains n then some (t == n || (t == "bool" && n == "int"))else none
def HN:List V->Hp->VK->Prop:=λxs H Q=>∃x n t k,xs=[x,.ty n]/\tyN H x=some t/\qt t n=some k/\Q (.bl k) H
theorem Kq:qt "int" "int"=some true:=γ
theorem Fl:qt "int" "bool"=some false:=γ
theorem Zbk:qt "int" "str"=some false:=γ
theorem YF:qt "int" "list"=some false:=γ
theorem Ti:qt "int" "tuple"=some false:=γ
theorem YG:qt "int" "dict"=some false:=γ
theorem YL:qt "bool" "int"=some true:=γ
theorem Tu:qt "bool" "bool"=some true:=γ
theorem YK:qt "bool" "str"=some false:=γ
theorem Tq:qt "bool" "list"=some false:=γ
theorem Qx:qt "bool" "tuple"=some false:=γ
theorem Tt:qt "bool" "dict"=some false:=γ
theorem Zbj:qt "str" "int"=some false:=γ
theorem YB:qt "str" "bool"=some false:=γ
theorem Ko:qt "str" "str"=some true:=γ
theorem Yy:qt "str" "list"=some false:=γ
theorem Te:qt "str" "tuple"=some false:=γ
theorem Yz:qt "str" "dict"=some false:=γ
theorem Hu:qt "NoneType" "int"=some false:=γ
theorem Ft:qt "NoneType" "bool"=some false:=γ
theorem Ht:qt "NoneType" "str"=some false:=γ
theorem Fp:qt "NoneType" "list"=some false:=γ
theorem Bc:qt "NoneType" "tuple"=some false:=γ
theorem Fq:qt "NoneType" "dict"=some false:=γ
theorem YD:qt "list" "int"=some false:=γ
theorem Th:qt "list" "bool"=some false:=γ
theorem YC:qt "list" "str"=some false:=γ
theorem z9:qt "list" "list"=some true:=γ
theorem Qv:qt "list" "tuple"=some false:=γ
theorem Tf:qt "list" "dict"=some false:=γ
theorem Td:qt "tuple" "int"=some false:=γ
theorem Qu:qt "tuple" "bool"=some false:=γ
theorem S9:qt "tuple" "str"=some false:=γ
theorem Qs:qt "tuple" "list"=some false:=γ
theorem vP:qt "tuple" "tuple"=some true:=γ
theorem Qt:qt "tuple" "dict"=some false:=γ
theorem YJ:qt "dict" "int"=some false:=γ
theorem Tp:qt "dict" "bool"=some false:=γ
theorem YH:qt "dict" "str"=some false:=γ
theorem Tj:qt "dict" "list"=some false:=γ
theorem Qw:qt "dict" "tuple"=some false:=γ
theorem Tn:qt "dict" "dict"=some true:=γ
theorem Ze5{i:Int}{H:Hp}{Q:VK}(h:Q (.bl true) H):HN [.int i,.ty "int"] H Q:=⟨_,_,_,_,rfl,rfl,Kq,h⟩
theorem Zbn{i:Int}{H:Hp}{Q:VK}(h:Q (.bl false) H):HN [.int i,.ty "bool"] H Q:=⟨_,_,_,_,rfl,rfl,Fl,h⟩
theorem Ze4{i:Str}{H:Hp}{Q:VK}(h:Q (.bl true) H):HN [.str i,.ty "str"] H Q:=⟨_,_,_,_,rfl,rfl,Ko,h⟩
theorem Kr{a:AI}{H:Hp}{Q:VK}{xs:List V}(hp:H a=some (.lst xs))(h:Q (.bl true) H):HN [.ref a,.ty "list"] H Q:=⟨_,_,_,_,rfl,(by show(match H a with | some (.lst _)=>some "list" | some (.uB _ (.lst _))=>some "list" | some (.tup _)=>some "tuple" | some (.dK _)=>some "dict" | some (.dT _)=>some "dict" | _=>none)=some "list";rw[hp]),z9,h⟩
theorem Fw{a:AI}{H:Hp}{Q:VK}{xs:List V}(hp:H a=some (.tup xs))(h:Q (.bl true) H):HN [.ref a,.ty "tuple"] H Q:=⟨_,_,_,_,rfl,(by show(match H a with | some (.lst _)=>some "list" | some (.uB _ (.lst _))=>some "list" | some (.tup _)=>some "tuple" | some (.dK _)=>some "dict" | some (.dT _)=>some "dict" | _=>none)=some "tuple";rw[hp]),vP,h⟩
def fU(K:aB):List V->Hp->VK->Prop:=λxs H Q=>∃p a,xs=[.ref p]/\(bU K H p a\/dB K H p a)/\Q (.int a.length) H
theorem dU{K:aB}{a:AI}{H:Hp}{Q:VK}{xs:List V}(hp:bU K H a xs)(h:Q (.int xs.length) H):fU K [.ref a] H Q:=⟨a,xs,rfl,.inl hp,h⟩
theorem fL{K:aB}{a:AI}{H:Hp}{Q:VK}{xs:List V}{i:Int}{v:V}(hp:bU K H a xs)(hi:TY xs i=some v)(h:Q v H):jg K (.ref a) (.int i) H Q:=⟨a,xs,i,v,rfl,rfl,hp,hi,h⟩
section
variable {K:aB}{a:AI}{xs:List V}{g:TG}{tb:TS}{σ:St}{H:Hp}{n:ν}{r:VK}
theorem forL(xs:List V)(Pv:Nat->ν)(f:Pv 0 σ H)(hl:∀i σ H,i<=xs.length->Pv i σ H->bU K H a xs)
  (hs:∀i x σ H,xs[i]? =some x->Pv i σ H->g x σ H λb d=>tb ⟨Pv de,r,n,Pv de⟩ b d) (hd:∀ σ H,Pv xs.length σ H->n σ H):
  ∃W:Nat->Nat->ν,(∃m,W 0 m σ H)/\∀i m σ H,W i m σ H->
   ((Itl K a).stop i H/\n σ H)\/((Itl K a).go i H/\∃N:ν,(∀ c H',N c H'->∃e,e<m/\W de e c H')/\∀x H',(Itl K a).yld i H x H'->g x σ H' λb d=>tb ⟨N,r,n,N⟩ b d):=
 Zm9 (D:=⟨n,r,λ_ _=>False,λ_ _=>False⟩) Pv f hl hs hd
theorem forR{lo:Int}{k:Nat}(Pv:Nat->ν)(e:Pv 0 σ H)
  (hs:∀i σ H,i<k->Pv i σ H->g (.int (lo+i)) σ H λa c=>tb ⟨Pv de,r,n,Pv de⟩ a c) (hd:∀ σ H,Pv k σ H->n σ H):
  ∃W:Nat->Nat->ν,(∃m,W 0 m σ H)/\∀i m σ H,W i m σ H->
   ((Itr lo k).stop i H/\n σ H)\/((Itr lo k).go i H/\∃N:ν,(∀ b H',N b H'->∃d,d<m/\W de d b H')/\∀x H',(Itr lo k).yld i H x H'->g x σ H' λa c=>tb ⟨N,r,n,N⟩ a c):=
 Zil (D:=⟨n,r,λ_ _=>False,λ_ _=>False⟩) Pv e hs hd
end
theorem aR{n:Nat}(h:n<=1000000):n<=sizeLine:=Nat.le_trans h ε
def Zk2:R2:=λx y H Q=>∃i j,x=.str i/\y=.str j/\i.length+j.length<=sizeLine/\Q (.str (i++j)) H
theorem Zlw{i j:Str}{H:Hp}{Q:VK}(hz:i.length+j.length<=sizeLine)(h:Q (.str (i++j)) H):Zk2 (.str i) (.str j) H Q:=⟨i,j,rfl,rfl,hz,h⟩
theorem Zv5{z:Str}{i:Int}{c:Nat}{H:Hp}{Q:VK}(hz:z.length<=sizeLine)(hi:TY z.cps.toList i=some c)(h:Q (.str ⟨#[c]⟩) H):Zk0 (.str z) (.int i) H Q:=⟨z,i,c,rfl,rfl,hz,hi,h⟩
theorem Zlu{z:Str}{i:Int}{H:Hp}{Q:VK}(hz:z.length<=sizeLine)(a:0<=i)(h1:i<z.length)(h:∀c:Nat,Q (.str ⟨#[c]⟩) H):Zk0 (.str z) (.int i) H Q:=by
 have hk:i.toNat<z.cps.toList.length:=by rw[Array.length_toList];exact(Int.toNat_lt a).mpr h1
 have b:i=((i.toNat:Nat):Int):=δ
 have q:TY z.cps.toList ((i.toNat:Nat):Int)=some z.cps.toList[i.toNat]:=gm (bK hk);rw[<- b]at q;exact Zv5 hz q (h _)
theorem str_len(z:Str):z.cps.toList.length=z.length:=Array.length_toList
def pick(σ:St)(j:Nat):Option V:=match σ[j]? with
 | some v=>v
 | none=>none
def ZZ(f:TI)(a:List Nat)(tc:TT)(e:TE):TE:=λσ H Q=>f σ H λJ g=>∃W:Nat->Nat->List V->Hp->Prop,(∃m,W 0 m [] g)/\∀i m b H,W i m b H->
 (J.stop i H/\∀p,H p=none->Q (.ref p) (upd H p (.lst b)))\/
 (J.go i H/\b.length<sizeLine/\∀x H',J.yld i H x H'->tc (some x::a.map a3) H' λk d=>if k=true then e (some x::a.map a3) d (λy h=>∃c,c<m/\W de c (b++[y]) h)else ∃c,c<m/\W de c b d)
def pI:TT:=λ_ H Q=>Q true H
theorem sE{σ:St}{H:Hp}{Q:Bool->Hp->Prop}(h:Q true H):pI σ H Q:=h
theorem Zp3{r c:R2}{a tb tc:TE}{σ:St}{H:Hp}{Q:VK}(h:a σ H λx f=>tb σ f λy d=>r x y d (kB λk b=>if k=true then tc σ b (λw e=>c y w e Q)else Q (.bl false) b)):Zco r c a tb tc σ H Q:=h
def Zhb(z:Str)(n:Int):Str:=⟨(List.replicate n.toNat z.cps.toList).flatten.toArray⟩
def Zfp:R2:=λx y H Q=>∃z k,x=.str z/\y=.int k/\0<=k/\k<=1000/\z.length<=1000/\∀t:Str,t.length<=1000000->t=Zhb z k->Q (.str t) H
theorem Zlr{z:Str}{k:Int}{H:Hp}{Q:VK}(a:0<=k)(h1:k<=1000)(h2:z.length<=1000)(h:∀t:Str,t.length<=1000000->t=Zhb z k->Q (.str t) H):Zfp (.str z) (.int k) H Q:=⟨z,k,rfl,rfl,a,h1,h2,h⟩
def Zw1:List V->Hp->VK->Prop:=λxs H Q=>∃i j,xs=[.int i,.int j]/\Q (.int (if j<i then j else i)) H
theorem Zv3{i j:Int}{H:Hp}{Q:VK}(h:Q (.int (if j<i then j else i)) H):Zw1 [.int i,.int j] H Q:=⟨i,j,rfl,h⟩
structure EqD(K:aB)(C:AI):Prop where
 eq:W.findIn K (.ref C) "__eq__"=some (some (.builtin "object.__eq__"))
 ob:W.mroIn K C (.type "object")=some true
def Gy(C:AI)(E:XK)(a:TA):TS:=λ_ σ H=>a σ H λvs b=>vs.length<=100/\E (.ref C) none b
def Zcp(sp:Sp)(qu:List V)(E:St->XK)(t:TA):TE:=λσ H Q=>t σ H λvs a=>sp (vs++qu) a Q (E σ)
def Zqw(c:AJ->Prop)(tb:(St->XK)->TS)(th:TS):TS:=λD σ H=>tb (λa b _ H'=>c b/\th D a H') D σ H
section
variable {σ:St}{H:Hp}{Q:VK}{n:ν}{r:VK}{b c:ν}{te:TE}{t:TA}
theorem Zoq{C:AI}{E:XK}(h:t σ H λvs a=>vs.length<=100/\E (.ref C) none a):Gy C E t ⟨n,r,b,c⟩ σ H:=h
theorem Zp4{sp:Sp}{qu:List V}{E:St->XK}(h:t σ H λvs a=>sp (vs++qu) a Q (E σ)):Zcp sp qu E t σ H Q:=h
theorem Zut{e:AJ->Prop}{tb:(St->XK)->TS}{th:TS}(h:tb (λa d _ H'=>e d/\th ⟨n,r,b,c⟩ a H') ⟨n,r,b,c⟩ σ H):Zqw e tb th ⟨n,r,b,c⟩ σ H:=h
end
theorem Zsn{to a:TE}{ts:Zpr}{x:V}{σ:St}{H:Hp}{Q:ν}(h:to σ H λo c=>a σ c λi b=>ts o i x b λd=>Q σ d):QJ to a ts x σ H Q:=h
def Ztd(K:aB):List V->Hp->VK->Prop:=λxs H Q=>∃(p:AI) (ns:AE),xs=[.ref p]/\bU K H p df/\Q (.int ns.sum) H
theorem Zuw{K:aB}{H:Hp}{Q:VK}{p:AI}{ns:AE}(h1:bU K H p df)(h:Q (.int ns.sum) H):Ztd K [.ref p] H Q:=⟨p,ns,rfl,h1,h⟩
def Bh(K:aB):List V->Hp->VK->Prop:=λxs H Q=>∃(p:AI) (a:List V),xs=[.ref p]/\bU K H p a/\∀l,H l=none->Q (.ref l) (upd H l (.lst a))
theorem YQ{K:aB}{H:Hp}{Q:VK}{p:AI}{a:List V}(h1:bU K H p a)(h:∀l,H l=none->Q (.ref l) (upd H l (.lst a))):Bh K [.ref p] H Q:=⟨p,a,rfl,h1,h⟩
def OkN(K:aB)(H:Hp)(xs:List V):Prop:=∀y∈xs,y=.non\/∃a C dx fs,y=.ref a/\H a=some (.ins C dx fs)/\MP K C/\EqD K C
def Zra(K:aB)(a:Bool):R2:=λx y H Q=>∃p xs,x=.non/\y=.ref p/\bU K H p xs/\OkN K H xs/\Q (.bl (if a then !decide (V.non∈xs)else decide (V.non∈xs))) H
theorem Zls{K:aB}{H:Hp}{Q:VK}{p:AI}{xs:List V}(h1:bU K H p xs)(h2:OkN K H xs)(h:Q (.bl (!decide (V.non∈xs))) H):Zra K true .non (.ref p) H Q:=⟨p,xs,rfl,rfl,h1,h2,h⟩
def Zfq(K:aB):V->List V->Hp->VK->Prop:=λx vs H Q=>∃p xs,x=.ref p/\vs=[.non]/\bU K H p xs/\OkN K H xs/\V.non∈xs/\Q (.int (xs.idxOf V.non)) H
def eqL(xs a:List V):Bool:=xs.length == a.length && (xs.zip a).all λp=>Wz p.1 p.2
def Zk1(K:aB)(b:Bool):R2:=λx y H Q=>∃p q xs a,x=.ref p/\y=.ref q/\bU K H p xs/\bU K H q a/\(xs.length=a.length->xs.all lq=true/\a.all lq=true)/\Q (.bl (if b then !eqL xs a else eqL xs a)) H
theorem pH(ns:AE):(ns.map V.int).all lq=true:=by
 rw[List.all_eq_true];intro x hx;obtain⟨i,_,rfl⟩:=List.mem_map.mp hx;rfl
theorem Zmm(ns:AE):∀d:AE,eqL df (d.map V.int)=decide (ns=d):=by
 induction ns with
 | nil=>
  intro d;cases d with
  | nil=>rfl
  | cons m d=>rfl
 | cons n ns h=>
  intro d;cases d with
  | nil=>rfl
  | cons m d=>
   have:=h d;unfold eqL at this ⊢;rw[List.map_cons,List.map_cons,List.zip_cons_cons,List.all_cons,List.length_cons,List.length_cons];have f:Wz (V.int n) (V.int m)=(n == m):=rfl;have g:((ns.map V.int).length+1 == (d.map V.int).length+1)=((ns.map V.int).length == (d.map V.int).length):=by
    rw[Bool.eq_iff_iff,beq_iff_eq,beq_iff_eq];omega
   dsimp only;rw[f,g];rw[Bool.eq_iff_iff]at this ⊢;simp only[Bool.and_eq_true,beq_iff_eq,decide_eq_true_eq]at this ⊢;constructor
   ·rintro⟨a,b,c⟩;rw[b,this.mp ⟨a,c⟩]
   ·intro e
    injection e with f g
    obtain⟨a,c⟩:=this.mpr g;exact⟨a,f,c⟩
theorem Zse{K:aB}{H:Hp}{Q:VK}{p q:AI}{ns a:AE}(h1:bU K H p df)(h2:bU K H q (a.map V.int))(h:Q (.bl (!decide (ns=a))) H):Zk1 K true (.ref p) (.ref q) H Q:=by
 refine⟨p,q,_,_,rfl,rfl,h1,h2,λ_=>⟨pH _,pH _⟩,?_⟩;rw[Zmm];exact h
def Fm(S:AF)(H H':Hp):Prop:=∀b o,H b=some o->b∉S->H' b=some o
theorem Fm.same{H H':Hp}(a:Fm [] H H'):aY H H':=λc o h=>a c o h ai
def fz(S:AF)(H:Hp):Hp:=λb=>if b∈S then none else H b
theorem Ze2{x:V}{H:Hp}{Q:VK}(h:Q (.bl (!decide (x=.non))) H):zM x .non H Q:=⟨rfl,h⟩
def LCg(J:It)(a:List Nat)(tc:TT)(e:TE)(σ:St)(H:Hp)(Q:VK):Prop:=∃W:Nat->Nat->List V->Hp->Prop,(∃m,W 0 m [] H)/\∀i m b H,W i m b H->
 (J.stop i H/\∀p,H p=none->Q (.ref p) (upd H p (.lst b)))\/
 (J.go i H/\b.length<sizeLine/\∀x H',J.yld i H x H'->tc (some x::a.map a3) H' λk d=>if k=true then e (some x::a.map a3) d (λy f=>∃c,c<m/\W de c (b++[y]) f)else ∃c,c<m/\W de c b d)
theorem uh{c:TI}{a:List Nat}{tc:TT}{b:TE}{σ:St}{H:Hp}{Q:VK}(h:c σ H λJ d=>LCg J a tc b σ d Q):ZZ c a tc b σ H Q:=h
theorem Zlj{J:It}{a:List Nat}{tc:TT}{j:TE}{σ:St}{H:Hp}{Q:VK}(k:Nat)(hz:k<=1000000)(g:Nat->Option V)
  (b:J.stop k H) (f:∀i,i<k->J.go i H) (hy:∀i x H',i<k->J.yld i H x H'->H'=H/\(∀q:Bool->Hp->Prop,q (g i).isSome H->tc (some x::a.map a3) H q)/\∀(y:V) (q:VK),g i=some y->q y H->j (some x::a.map a3) H q)
  (q:∀p,H p=none->Q (.ref p) (upd H p (.lst ((List.range k).filterMap g)))):
  LCg J a tc j σ H Q:=by
 refine⟨λi m h H'=>H'=H/\i<=k/\m=k - i/\h=(List.range i).filterMap g,⟨k,rfl,Nat.zero_le _,rfl,rfl⟩,?_⟩;rintro i m h _ ⟨rfl,hi,rfl,rfl⟩
 by_cases hk:i=k
 ·subst hk;exact .inl ⟨b,q⟩
 ·have c:i<k:=δ
  refine .inr ⟨f i c,?_,λx H' y=>?_⟩
  ·refine Nat.lt_of_le_of_lt (Nat.le_trans (List.length_filterMap_le _ _) ?_) fh;rw[List.length_range];omega
  ·obtain⟨rfl,h1,h2⟩:=hy i x H' c y;refine h1 _ ?_;have d:List.filterMap g (List.range de)=List.filterMap g (List.range i)++(match g i with | some y=>[y] | none=>[]):=by
    rw[List.range_succ,List.filterMap_append];cases e:g i with
    | none=>rw[List.filterMap_cons_none e];rfl
    | some y=>rw[List.filterMap_cons_some e];rfl
   cases e:g i with
   | none=>
    rw[e]at d;dsimp only[Option.isSome];refine Zop ⟨k - de,δ,rfl,δ,rfl,?_⟩;rw[d,List.append_nil]
   | some y=>
    rw[e]at d;dsimp only[Option.isSome];refine Zdx (h2 y _ e ⟨k - de,δ,rfl,δ,rfl,?_⟩);rw[d]
theorem Y5(l:List Nat)(p:Nat->Bool)(f:Nat->V):l.filterMap (λi=>if p i=true then some (f i)else none)=(l.filter p).map f:=by
 induction l with
 | nil=>rfl
 | cons a l b=>
  by_cases h:p a=true
  ·rw[List.filterMap_cons_some (by rw[if_pos h]),List.filter_cons_of_pos h,List.map_cons,b]
  ·rw[List.filterMap_cons_none (by rw[if_neg h]),List.filter_cons_of_neg h,b]
theorem Zll{a:List Nat}{tc:TT}{d:TE}{σ:St}{H:Hp}{Q:VK}{n:Nat}{z:Int}(g:z.toNat=n)(p:Nat->Bool)(f:Nat->V)(hz:n<=1000000)
  (b:∀i,i<n->∀q:Bool->Hp->Prop,q (p i) H->tc (some (.int i)::a.map a3) H q)
  (c:∀i,i<n->p i=true->∀q:VK,q (f i) H->d (some (.int i)::a.map a3) H q)
  (q:∀l,H l=none->Q (.ref l) (upd H l (.lst (((List.range n).filter p).map f)))):
  LCg (Itr 0 z.toNat) a tc d σ H Q:=by
 subst g;refine Zlj z.toNat hz (λi=>if p i=true then some (f i)else none) Δ (λi hi=>hi) (λi x m hi y=>?_) ?_
 ·obtain⟨k,h⟩:=y;have ex:x=.int i:=by rw[h];simp
  refine⟨k,λq hq=>?_,λy q hy hq=>?_⟩
  ·rw[ex];refine b i hi q ?_;cases e:p i with
   | true=>rw[e]at hq;exact hq
   | false=>rw[e]at hq;exact hq
  ·rw[ex];cases e:p i with
   | true=>
    rw[e]at hy;have j:f i=y:=by simpa using hy
    exact c i hi e q (by rw[j];exact hq)
   | false=>rw[e]at hy;simp at hy
 ·rw[Y5];exact q
theorem Yi{K:aB}{a:AI}{xs:List V}{b:List Nat}{tc:TT}{c:TE}{σ:St}{H:Hp}{Q:VK}(hs:bU K H a xs)(g:Nat->Option V)(hz:xs.length<=1000000)
  (hy:∀i x,xs[i]? =some x->(∀q:Bool->Hp->Prop,q (g i).isSome H->tc (some x::b.map a3) H q)/\∀(y:V) (q:VK),g i=some y->q y H->c (some x::b.map a3) H q)
  (q:∀p,H p=none->Q (.ref p) (upd H p (.lst ((List.range xs.length).filterMap g)))):
  LCg (Itl K a) b tc c σ H Q:=by
 refine Zlj xs.length hz g ⟨xs,hs,Nat.le_refl _⟩ (λi hi=>⟨xs,xs[i],hs,bK hi⟩) (λi x f hi y=>?_) q;obtain⟨e,d⟩:=y;exact⟨e,hy i x (d xs hs)⟩
theorem pq{n i:Nat}(h:i<n):ixN n (i:Int)=some i:=by
 unfold ixN;rw[if_pos δ,if_pos δ];simp
theorem Zoo{n:Nat}{i:Int}(a:0<=i)(h:i.toNat<n):ixN n i=some i.toNat:=by
 have e:i=((i.toNat:Nat):Int):=δ
 have:=pq h;rw[<- e]at this;exact this
theorem lY{a:Type}{xs:List a}{i:Int}{v:a}(b:0<=i)(h:xs[i.toNat]? =some v):TY xs i=some v:=by
 have e:i=((i.toNat:Nat):Int):=δ
 have:=gm h;rw[<- e]at this;exact this
inductive Al{α β:Type}(P:α->β->Prop):List α->List β->Prop
 | nil:Al P [] []
 | cons {x:α}{y:β}{xs:List α}{ys:List β}:P x y->Al P xs ys->Al P (x::xs) (y::ys)
section
variable {α β:Type}{P P':α->β->Prop}{xs:List α}{ys:List β}
theorem Al.length(h:Al P xs ys):xs.length=ys.length:=by
 induction h with
 | nil=>rfl
 | cons _ _ a=>rw[List.length_cons,List.length_cons,a]
theorem Al.mono(h:Al P xs ys)(f:∀x y,P x y->P' x y):Al P' xs ys:=by
 induction h with
 | nil=>exact .nil
 | cons p _ a=>exact .cons (f _ _ p) a
theorem Al.get(h:Al P xs ys):∀{i:Nat}{y:β},ys[i]? =some y->∃x,xs[i]? =some x/\P x y:=by
 induction h with
 | nil=>intro i y e;simp at e
 | cons p _ b=>
  intro i y e;cases i with
  | zero=>simp at e;subst e;exact⟨_,rfl,p⟩
  | succ i=>
   obtain⟨x,a,c⟩:=b (i:=i) (y:=y) eS;exact⟨x,by simpa using a,c⟩
theorem Al.getL(h:Al P xs ys):∀{i:Nat}{x:α},xs[i]? =some x->∃y,ys[i]? =some y/\P x y:=by
 induction h with
 | nil=>intro i y e;simp at e
 | cons p _ b=>
  intro i y e;cases i with
  | zero=>simp at e;subst e;exact⟨_,rfl,p⟩
  | succ i=>
   obtain⟨x,a,c⟩:=b (i:=i) eS;exact⟨x,by simpa using a,c⟩
theorem Al.app(h:Al P xs ys){x:α}{y:β}(p:P x y):Al P (xs++[x]) (ys++[y]):=by
 induction h with
 | nil=>exact .cons p .nil
 | cons q t a=>exact .cons q a
end
theorem Mh{c g:Type}(f:c->Option g):∀l:List c,(List.range l.length).filterMap (λi=>l[i]?.bind f)=l.filterMap f:=by
 intro l
 induction l with
 | nil=>rfl
 | cons a l d=>
  rw[List.length_cons,List.range_succ_eq_map];have e:List.filterMap (λi=>(a::l)[i]?.bind f) (List.map Nat.succ (List.range l.length))=l.filterMap f:=by
   rw[List.filterMap_map,<- d];congr 1
  cases h:f a with
  | none=>rw[List.filterMap_cons_none (by simpa using h),List.filterMap_cons_none h,e]
  | some b=>rw[List.filterMap_cons_some (b:=b) (by simpa using h),List.filterMap_cons_some h,e]
abbrev Tg:=AI->Nat×Nat
def WT(H:Hp)(T:Tg):Prop:=∀b,H b=none->T b=(0,0)
structure dZ(s:Nat)(H H':Hp)(T T':Tg):Prop where
 kp:∀b o,H b=some o->(T b).1≠s->H' b=some o
 al:∀b o,H b=some o->∃o',H' b=some o'
 tg:∀b o,H b=some o->T' b=T b
 wt:WT H' T'
def fX(T:Tg)(a:AI)(v:Nat×Nat):Tg:=λx=>if x=a then v else T x
theorem eX{T:Tg}{a:AI}{v:Nat×Nat}:fX T a v a=v:=by unfold fX;rw[if_pos rfl]
theorem ie{T:Tg}{a b:AI}{v:Nat×Nat}(h:b≠a):fX T a v b=T b:=by unfold fX;rw[if_neg h]
theorem WT.same{H H':Hp}{T:Tg}(w:WT H T)(s:aY H H'):WT H' T:=λb h=>w b (s.free h)
theorem dZ.refl{s:Nat}{H:Hp}{T:Tg}(w:WT H T):dZ s H H T T:=⟨λ_ _ h _=>h,λ_ o h=>⟨o,h⟩,λ_ _ _=>rfl,w⟩
theorem dZ.same{s:Nat}{H H':Hp}{T:Tg}(w:WT H T)(e:aY H H'):dZ s H H' T T:=⟨λb o h _=>e b o h,λb o h=>⟨o,e b o h⟩,λ_ _ _=>rfl,w.same e⟩
theorem dZ.trans{s:Nat}{H d c:Hp}{T f e:Tg}(a:dZ s H d T f)(b:dZ s d c f e):dZ s H c T e where
 kp:=λx o h n=>b.kp x o (a.kp x o h n) (by rw[a.tg x o h];exact n)
 al:=λx o h=>by
  obtain⟨o1,h1⟩:=a.al x o h;exact b.al x o1 h1
 tg:=λx o h=>by
  obtain⟨o1,h1⟩:=a.al x o h;rw[b.tg x o1 h1,a.tg x o h]
 wt:=b.wt
theorem dZ.upd{s:Nat}{H:Hp}{T:Tg}{a:AI}{o c:HO}(w:WT H T)(f:H a=some o)(d:(T a).1=s):dZ s H (L2.upd H a c) T T where
 kp:=λx u h n=>by
  have:x≠a:=λe=>n (by rw[e];exact d);rw[aC this];exact h
 al:=λx u h=>by
  by_cases e:x=a
  ·exact⟨c,by rw[e,aq]⟩
  ·exact⟨u,by rw[aC e];exact h⟩
 tg:=λ_ _ _=>rfl
 wt:=λb h=>w b (by
  by_cases e:b=a
  ·rw[e,aq]at h;cases h
  ·rw[aC e]at h;exact h)
theorem PB{T:Tg}{a b:AI}{x y:Nat×Nat}(c:T a=x)(hb:T b=y)(h:x≠y):a≠b:=λe=>h (by rw[<- c,<- hb,e])
theorem Zlm{J:It}{c:List Nat}{tc:TT}{o:TE}{σ:St}{H:Hp}{Q:VK}(k:Nat)(hz:k<=1000000)(R:Nat->V->Hp->Prop)(mono:∀i y a d,R i y a->aY a d->R i y d)
  (f:∀H',aY H H'->J.stop k H') (n:∀i H',i<k->aY H H'->J.go i H')
  (hy:∀i x a H',i<k->aY H a->J.yld i a x H'->H'=a/\(∀q:Bool->Hp->Prop,q true a->tc (some x::c.map a3) a q)/\∀q:VK,(∀y d,aY a d->R i y d->q y d)->o (some x::c.map a3) a q)
  (q:∀b H',aY H H'->b.length=k->(∀(i:Nat) y,b[i]? =some y->R i y H')->∀p,H' p=none->Q (.ref p) (upd H' p (.lst b))):
  LCg J c tc o σ H Q:=by
 refine⟨λi m b H'=>aY H H'/\i<=k/\m=k - i/\b.length=i/\∀(j:Nat) y,b[j]? =some y->R j y H',⟨k,aY.refl _,Nat.zero_le _,rfl,rfl,λj y e=>by simp at e⟩,?_⟩;rintro i m b a ⟨h,hi,rfl,hl,hr⟩
 by_cases hk:i=k
 ·subst hk;exact .inl ⟨f a h,q b a h hl hr⟩
 ·have g:i<k:=δ
  refine .inr ⟨n i a g h,Nat.lt_of_le_of_lt (show b.length<=1000000 by omega) fh,λx H' y=>?_⟩;obtain⟨rfl,h1,h2⟩:=hy i x a H' g h y;refine h1 _ (Zdx (h2 _ λy d s r=>⟨k - de,δ,h.trans s,δ,rfl,by rw[List.length_append,hl];rfl,λj z e=>?_⟩))
  by_cases t:j<b.length
  ·rw[List.getElem?_append_left t]at e;exact mono j z _ _ (hr j z e) s
  ·have l:=(cP e).1;rw[List.length_append,List.length_singleton]at l;have u:j=b.length:=δ
   subst u;rw[List.getElem?_append_right Δ,Nat.sub_self]at e;cases e;rw[hl];exact r
theorem Zol{b:List Nat}{tc:TT}{g:TE}{σ:St}{H:Hp}{Q:VK}{n:Nat}{z:Int}(h:z.toNat=n)(hz:n<=1000000)(R:Nat->V->Hp->Prop)(mono:∀i y a c,R i y a->aY a c->R i y c)
  (e:∀i a,∀q:Bool->Hp->Prop,q true a->tc (some (.int i)::b.map a3) a q)
  (f:∀(i:Nat) a,i<n->aY H a->∀q:VK,(∀y c,aY a c->R i y c->q y c)->g (some (.int i)::b.map a3) a q)
  (q:∀d H',aY H H'->d.length=n->(∀(i:Nat) y,d[i]? =some y->R i y H')->∀p,H' p=none->Q (.ref p) (upd H' p (.lst d))):LCg (Itr 0 z.toNat) b tc g σ H Q:=by
 subst h;refine Zlm z.toNat hz R mono (λ_ _=>Nat.le_refl _) (λi _ hi _=>hi) (λi x a H' hi k y=>?_) q;obtain⟨l,j⟩:=y;have ex:x=.int i:=by rw[j];simp
 subst ex;exact⟨l,e i a,λq hq=>f i a hi k q hq⟩
theorem Zom{J:It}{d:List Nat}{tc:TT}{w:TE}{σ:St}{H:Hp}{Q:VK}(k:Nat)(hz:k<=1000000)(R:Nat->AI->Hp->Prop)(mono:∀i y c f,R i y c->aY c f->R i y f)(al:∀i y c,R i y c->∃o,c y=some o)
  (g:∀H',aY H H'->J.stop k H') (t:∀i H',i<k->aY H H'->J.go i H')
  (hy:∀i x c H',i<k->aY H c->J.yld i c x H'->H'=c/\(∀q:Bool->Hp->Prop,q true c->tc (some x::d.map a3) c q)/\∀q:VK,(∀r f,aY c f->c r=none->R i r f->q (.ref r) f)->w (some x::d.map a3) c q)
  (q:∀(rs:AF) H',aY H H'->rs.length=k->rs.Nodup->(∀r∈rs,H r=none)->(∀(i:Nat) r,rs[i]? =some r->R i r H')->∀p,H' p=none->Q (.ref p) (upd H' p (.lst (rs.map V.ref)))):
  LCg J d tc w σ H Q:=by
 refine⟨λi m D H'=>∃rs:AF,D=rs.map V.ref/\aY H H'/\i<=k/\m=k - i/\rs.length=i/\rs.Nodup/\(∀r∈rs,H r=none)/\∀(j:Nat) r,rs[j]? =some r->R j r H',⟨k,[],rfl,aY.refl _,Nat.zero_le _,rfl,rfl,List.nodup_nil,λr hr=>(nomatch hr),λj y e=>by simp at e⟩,?_⟩;rintro i m _ c ⟨rs,rfl,h,hi,rfl,hl,nd,C,hr⟩
 by_cases hk:i=k
 ·subst hk;exact .inl ⟨g c h,q rs c h hl nd C hr⟩
 ·have l:i<k:=δ
  refine .inr ⟨t i c l h,Nat.lt_of_le_of_lt (show(rs.map V.ref).length<=1000000 by rw[aU];omega) fh,λx H' y=>?_⟩;obtain⟨rfl,h1,h2⟩:=hy i x c H' l h y;refine h1 _ (Zdx (h2 _ λr f A B E=>⟨k - de,δ,rs++[r],by rw[List.map_append];rfl,h.trans A,δ,rfl,by rw[List.length_append,hl];rfl,?_,λz hz=>?_,λj z e=>?_⟩))
  ·rw[List.nodup_append];refine⟨nd,ζ,λa F b hb e=>?_⟩;rw[List.mem_singleton.mp hb]at e;subst e;obtain⟨j,s,u⟩:=List.getElem_of_mem F;obtain⟨o,v⟩:=al j a _ (hr j a (by rw[bK s,u]));rw[B]at v;cases v
  ·rcases List.mem_append.mp hz with hz | hz
   ·exact C z hz
   ·rw[List.mem_singleton.mp hz];exact h.free B
  ·by_cases s:j<rs.length
   ·rw[List.getElem?_append_left s]at e;exact mono j z _ _ (hr j z e) A
   ·have n:=(cP e).1;rw[List.length_append,List.length_singleton]at n;have u:j=rs.length:=δ
    subst u;rw[List.getElem?_append_right Δ,Nat.sub_self]at e;cases e;rw[hl];exact E
theorem Qj{K:aB}{a:AI}{xs:List V}{c:List Nat}{tc:TT}{g:TE}{σ:St}{H:Hp}{Q:VK}(hs:bU K H a xs)(hz:xs.length<=1000000)(R:Nat->AI->Hp->Prop)(mono:∀i y b d,R i y b->aY b d->R i y d)(al:∀i y b,R i y b->∃o,b y=some o)
  (e:∀x b,∀q:Bool->Hp->Prop,q true b->tc (some x::c.map a3) b q)
  (f:∀(i:Nat) x b,xs[i]? =some x->aY H b->∀q:VK,(∀r d,aY b d->b r=none->R i r d->q (.ref r) d)->g (some x::c.map a3) b q)
  (q:∀(rs:AF) H',aY H H'->rs.length=xs.length->rs.Nodup->(∀r∈rs,H r=none)->(∀(i:Nat) r,rs[i]? =some r->R i r H')->∀p,H' p=none->Q (.ref p) (upd H' p (.lst (rs.map V.ref)))):LCg (Itl K a) c tc g σ H Q:=by
 refine Zom xs.length hz R mono al (λH' s=>⟨xs,s.seq hs,Nat.le_refl _⟩) (λi H' hi s=>⟨xs,xs[i],s.seq hs,bK hi⟩) (λi x b H' hi h y=>?_) q;obtain⟨k,j⟩:=y;exact⟨k,e x b,λq hq=>f i x b (j xs (h.seq hs)) h q hq⟩
end G
namespace G
open PySem L2 PySem.Spec PyProof.Rows
theorem boot_isinstance:bootBuiltins "isinstance"=some (.builtin "isinstance"):=γ
theorem boot_len:bootBuiltins "len"=some (.builtin "len"):=γ
theorem boot_min:bootBuiltins "min"=some (.builtin "min"):=γ
theorem boot_int:bootBuiltins "int"=some (.type "int"):=γ
theorem boot_str:bootBuiltins "str"=some (.type "str"):=γ
theorem boot_bool:bootBuiltins "bool"=some (.type "bool"):=γ
theorem boot_list:bootBuiltins "list"=some (.type "list"):=γ
theorem boot_tuple:bootBuiltins "tuple"=some (.type "tuple"):=γ
structure Zto(K:aB)(x qual:Str)(st:Stmt)(f:AI)(fd:AL):Prop where
 ex:∃(oc:AJ) (od:Option AI) (dV kV doc pm:AJ) (an:Option AI) (cdv ct:AJ) (osl:Array AB),
  fd=W.fnOf x qual (iW st) (gk st) (aG st) dV kV doc pm an cdv ct/\K.lookup f=some ⟨oc,od,.func fd,osl⟩/\W.codeIn K cdv qual=true
 kp:W.keepIn K (.ref f)=true
section
variable {P:AM}{w:AO}{K:aB}{mg:As}{base:Heap}
theorem Zpa{x a:Str}{st:Stmt}{f:AI}{oc dV:AJ}{od g:Option AI}{e:Array AB}{kV d pm b ct:AJ}(l:K.lookup f=some ⟨oc,od,.func (W.fnOf x a (iW st) (gk st) (aG st) dV kV d pm g b ct),e⟩)
  (c:W.codeIn K b a=true) (k:W.keepIn K (.ref f)=true):Zto K x a st f (W.fnOf x a (iW st) (gk st) (aG st) dV kV d pm g b ct):=⟨⟨oc,od,dV,kV,d,pm,g,b,ct,e,rfl,l,c⟩,k⟩
theorem Ztf{f b:AI}{oc tc:AJ}{od c:Option AI}{d ts:Array AB}{fd:AL}{a:Array AJ}{tn:Nat}{ps:AH}{ds:AC}(_:K.lookup f=some ⟨oc,od,.func fd,d⟩)(t:K.lookup b=some ⟨tc,c,.seq a tn,ts⟩)
  (h:∀us:AC,us.length+ds.length=ps.length->∃k,bindArgs fd ⟨us,[]⟩=seqItems? (.ref b) >>= k/\k (some a)=pure (ps.zip (us++ds))) (hd:fd.defaults=.ref b:=by rfl):Binds K fd ps ds:=by
 intro s us e hl;obtain⟨k,h1,h2⟩:=h us (by rw[List.length_append]at hl;exact hl);exact BindsTo.of_defaults hd (e _ _ t) rfl (by rw[h1,hd]) h2
end
section
variable {X:Cx}
theorem yC:uz X (compareOp .Is) R5:=Zrf
theorem wV:uz X (compareOp .IsNot) zM:=Zo5
theorem bQ:yq X (.builtin "len") (fU X.K):=Y7
def kk(t n:String):Option Bool:=if (Value.type t == Value.type n)=true then some true else if W.kitMeta n=true then(fastBuiltinMro t).map (·.contains (.type n))else none
theorem Zrx(K:aB)(t n:String):W.kitOne K (.type t) (.type n)=kk t n:=rfl
theorem Zdw:kk "int" "int"=some true:=γ
theorem Zbc:kk "int" "bool"=some false:=γ
theorem Zdv:kk "int" "str"=some false:=γ
theorem Zba:kk "int" "list"=some false:=γ
theorem Yq:kk "int" "tuple"=some false:=γ
theorem Zbb:kk "int" "dict"=some false:=γ
theorem Zbg:kk "bool" "int"=some true:=γ
theorem Yw:kk "bool" "bool"=some true:=γ
theorem Zbf:kk "bool" "str"=some false:=γ
theorem Yu:kk "bool" "list"=some false:=γ
theorem S7:kk "bool" "tuple"=some false:=γ
theorem Yv:kk "bool" "dict"=some false:=γ
theorem Zdu:kk "str" "int"=some false:=γ
theorem Zb7:kk "str" "bool"=some false:=γ
theorem Zdt:kk "str" "str"=some true:=γ
theorem Zb5:kk "str" "list"=some false:=γ
theorem Ym:kk "str" "tuple"=some false:=γ
theorem Zb6:kk "str" "dict"=some false:=γ
theorem Mf:kk "NoneType" "int"=some false:=γ
theorem Ho:kk "NoneType" "bool"=some false:=γ
theorem Ma:kk "NoneType" "str"=some false:=γ
theorem Hj:kk "NoneType" "list"=some false:=γ
theorem Ff:kk "NoneType" "tuple"=some false:=γ
theorem Hl:kk "NoneType" "dict"=some false:=γ
theorem Zb9:kk "list" "int"=some false:=γ
theorem Yp:kk "list" "bool"=some false:=γ
theorem Zb8:kk "list" "str"=some false:=γ
theorem Yn:kk "list" "list"=some true:=γ
theorem S5:kk "list" "tuple"=some false:=γ
theorem Yo:kk "list" "dict"=some false:=γ
theorem Yl:kk "tuple" "int"=some false:=γ
theorem SX:kk "tuple" "bool"=some false:=γ
theorem Yk:kk "tuple" "str"=some false:=γ
theorem SN:kk "tuple" "list"=some false:=γ
theorem Qk:kk "tuple" "tuple"=some true:=γ
theorem SQ:kk "tuple" "dict"=some false:=γ
theorem Zbe:kk "dict" "int"=some false:=γ
theorem Yt:kk "dict" "bool"=some false:=γ
theorem Zbd:kk "dict" "str"=some false:=γ
theorem Yr:kk "dict" "list"=some false:=γ
theorem S6:kk "dict" "tuple"=some false:=γ
theorem Ys:kk "dict" "dict"=some true:=γ
theorem Zqr{H:Hp}{x:V}{t:String}(e:tyN H x=some t):t="int"\/t="bool"\/t="str"\/t="NoneType"\/t="list"\/t="tuple"\/t="dict":=by
 unfold tyN at e;split at e<;>(first | (cases e;simp) | (split at e<;>(first | (cases e;simp) | cases e)) | cases e)
theorem Zs5{t n:String}{k:Bool}(e:qt t n=some k):n="int"\/n="bool"\/n="str"\/n="list"\/n="tuple"\/n="dict":=by
 unfold qt at e
 by_cases h:(["int","bool","str","list","tuple","dict"].contains n)=true
 ·simpa using h
 ·rw[if_neg h]at e;cases e
theorem Zum{H:Hp}{x:V}{t n:String}{k:Bool}(a:tyN H x=some t)(e:qt t n=some k):kk t n=some k:=by
 rcases Zqr a with rfl | rfl | rfl | rfl | rfl | rfl | rfl<;>rcases Zs5 e with rfl | rfl | rfl | rfl | rfl | rfl
 ·rw[Kq]at e;rw[Zdw];exact e
 ·rw[Fl]at e;rw[Zbc];exact e
 ·rw[Zbk]at e;rw[Zdv];exact e
 ·rw[YF]at e;rw[Zba];exact e
 ·rw[Ti]at e;rw[Yq];exact e
 ·rw[YG]at e;rw[Zbb];exact e
 ·rw[YL]at e;rw[Zbg];exact e
 ·rw[Tu]at e;rw[Yw];exact e
 ·rw[YK]at e;rw[Zbf];exact e
 ·rw[Tq]at e;rw[Yu];exact e
 ·rw[Qx]at e;rw[S7];exact e
 ·rw[Tt]at e;rw[Yv];exact e
 ·rw[Zbj]at e;rw[Zdu];exact e
 ·rw[YB]at e;rw[Zb7];exact e
 ·rw[Ko]at e;rw[Zdt];exact e
 ·rw[Yy]at e;rw[Zb5];exact e
 ·rw[Te]at e;rw[Ym];exact e
 ·rw[Yz]at e;rw[Zb6];exact e
 ·rw[Hu]at e;rw[Mf];exact e
 ·rw[Ft]at e;rw[Ho];exact e
 ·rw[Ht]at e;rw[Ma];exact e
 ·rw[Fp]at e;rw[Hj];exact e
 ·rw[Bc]at e;rw[Ff];exact e
 ·rw[Fq]at e;rw[Hl];exact e
 ·rw[YD]at e;rw[Zb9];exact e
 ·rw[Th]at e;rw[Yp];exact e
 ·rw[YC]at e;rw[Zb8];exact e
 ·rw[z9]at e;rw[Yn];exact e
 ·rw[Qv]at e;rw[S5];exact e
 ·rw[Tf]at e;rw[Yo];exact e
 ·rw[Td]at e;rw[Yl];exact e
 ·rw[Qu]at e;rw[SX];exact e
 ·rw[S9]at e;rw[Yk];exact e
 ·rw[Qs]at e;rw[SN];exact e
 ·rw[vP]at e;rw[Qk];exact e
 ·rw[Qt]at e;rw[SQ];exact e
 ·rw[YJ]at e;rw[Zbe];exact e
 ·rw[Tp]at e;rw[Yt];exact e
 ·rw[YH]at e;rw[Zbd];exact e
 ·rw[Tj]at e;rw[Yr];exact e
 ·rw[Qw]at e;rw[S6];exact e
 ·rw[Tn]at e;rw[Ys];exact e
theorem tyOf{K:aB}{H:Hp}{x:V}{t:String}(e:tyN H x=some t):HQ K H x (.type t):=by
 cases x with
 | non=>cases e;exact .non
 | bl y=>cases e;exact .bl y
 | int y=>cases e;exact .int y
 | str y=>cases e;exact .str y
 | byt y=>cases e
 | flt y=>cases e
 | ty y=>cases e
 | ref a=>
  have b:(match H a with | some (.lst _)=>some "list" | some (.uB _ (.lst _))=>some "list" | some (.tup _)=>some "tuple" | some (.dK _)=>some "dict" | some (.dT _)=>some "dict" | _=>none)=some t:=e;split at b
  ·rename_i h;cases b;exact .lst h
  ·rename_i h;cases b;exact .uB h
  ·rename_i h;cases b;exact .tup h
  ·rename_i h;cases b;exact .dK h
  ·rename_i h;cases b;exact .dT h
  ·cases b
theorem qm:yq X (.builtin "isinstance") HN:=by
 intro d s g H i us Q I r h;obtain⟨x,n,t,k,rfl,c,hk,q⟩:=h;obtain⟨u,e,rfl,f,rn⟩:=vals2 r;have a:e=Value.type n:=rn;subst a;exact Zhy (t:=.type t) (b:=k) I f (tyOf c) ((Zrx _ _ _).trans (Zum c hk)) λtk=>⟨.bl k,H,I.tok _,rfl,q⟩
end
section
variable {X:Cx}
def GC(mg:As)(x:Str)(v:V):Prop:=∃u,mg x=some u/\RelV v u
theorem GC.pe{x:Str}{v:V}{a:Pos}(h:GC X.mg x v)(hg:Gl X x)(hd:(x == ("__debug__":Str))=false:=by decide):PE X (.Name x a) (tC v):=by
 obtain⟨u,hm,r⟩:=h;exact Zo1 hg hm r hd
end
section
variable {X:Cx}
theorem Zoi(z:Str)(k:Int):Txt.mul z k=Zhb z k:=by
 unfold Txt.mul Zhb;have fl:∀(n:Nat) (a:List Nat),List.foldl (λd c=>d++c) a.toArray (List.replicate n z.cps)=(a++(List.replicate n z.cps.toList).flatten).toArray:=by
  intro n
  induction n with
  | zero=>intro a;simp
  | succ n b=>
   intro a;rw[List.replicate_succ,List.replicate_succ,List.foldl_cons,List.flatten_cons];have e:a.toArray++z.cps=(a++z.cps.toList).toArray:=ζ
   rw[e,b,List.append_assoc]
 split
 ·rename_i h
  have e:k.toNat=0:=δ
  rw[e];rfl
 ·rename_i h
  split
  ·rename_i h2
   rw[Bool.or_eq_true]at h2;rcases h2 with h2 | h2
   ·have e:k.toNat=1:=by have:=beq_iff_eq.mp h2;omega
    rw[e];simp
   ·have e:z.cps=#[]:=Array.eq_empty_of_size_eq_zero (beq_iff_eq.mp h2);obtain⟨f⟩:=z;dsimp only at e;subst e;have:∀n:Nat,(List.replicate n ([]:List Nat)).flatten=[]:=λn=>by
     induction n with
     | zero=>rfl
     | succ n b=>rw[List.replicate_succ,List.flatten_cons,b];rfl
    simp[this]
  ·have:=fl k.toNat [];simp only[List.nil_append]at this;show(⟨List.foldl (λd c=>d++c) #[] (List.replicate k.toNat z.cps)⟩:Str)=_;rw[this]
theorem NQ(z:Str)(k:Int):(Zhb z k).length=k.toNat * z.length:=by
 show(List.toArray _).size=_;rw[List.size_toArray];have:∀n:Nat,(List.replicate n z.cps.toList).flatten.length=n * z.length:=λn=>by
  induction n with
  | zero=>simp
  | succ n a=>rw[List.replicate_succ,List.flatten_cons,List.length_append,a,str_len,Nat.succ_mul,Nat.add_comm]
 exact this _
theorem Zft:uz X (binaryOp .Mult) Zfp:=by
 intro a s g H x y v u Q I d c h;obtain⟨z,k,rfl,rfl,j,h1,h2,q⟩:=h;obtain⟨t,rfl⟩:=d;obtain⟨i,rfl⟩:=c;have hb:k.toNat * z.length<=1000000:=Nat.le_trans (Nat.mul_le_mul (show k.toNat<=1000 by omega) h2) ε;refine SB.mul ⟨?_,λf _=>?_,λf _=>?_⟩ λb kk=>?_
 ·simp;omega
 ·intro z1;have:(z.length:Int)<=1000:=δ
  have e:(1000:Int)<(2 ^ 63 - 1) / k:=by
   have hk:0<k:=δ
   rw[Int.lt_iff_add_one_le,Int.le_ediv_iff_mul_le hk];omega
  omega
 ·unfold Builtin.Str.tooLong;have:z.length * k.toNat<=1000000:=by rw[Nat.mul_comm];exact hb
  simp;exact Nat.le_trans this ε
 ·rw[Zoi];exact⟨.str (Zhb z k),H,I.tok _,⟨_,rfl⟩,q _ (by rw[NQ];exact hb) rfl⟩
end
end G
namespace G
open PySem L2
end G
namespace G
open PySem L2 PySem.Spec PyProof.Rows
section
variable {X:Cx}{pins:At}{σ:L2.St}{H:Hp}{s:AK}{acc:AI}{ys:List V}{its:AC}{n:Nat}
theorem adopt(I:Inv X pins σ H s)(h:pF X pins H acc)(a:s.heap.get? acc=some { cls:=.type "list",data:=.seq its.toArray n })(hv:Vals ys its)(hz:ys.length<=sizeLine):Inv X pins σ (upd H acc (.lst ys)) s:=by
 obtain⟨g,d,r,j,f,l⟩:=h;have ne:∀b u,H b=some u->b≠acc:=λb u e=>aF e g;refine I.step (h':=s.heap) (g':=s.gens) (t':=s.toks) (d':=s.drawn) (ch:=[acc]) (λb hb=>?_) (λ_ _ _ _ _ e _=>e) (λb o _ _ _ e _=>⟨o.slots,e⟩) (λb o hb e k=>?_) (λb o _ e=>⟨o,e⟩)
  (λb i e=>by rw[aC (ne b _ e)];exact e) (λb o u e=>by rw[aC (ne b _ e)];exact e) (λb p e=>⟨#[],by rw[aC (ne b _ e),e];simp⟩) (λm hm=>hm) (λb u e=>?_) I.bare
 ·have e:b=acc:=by simpa using hb
  subst e;exact⟨j,d,f,l⟩
 ·have e:b≠acc:=by simpa using hb
  rw[aC e];exact k
 ·by_cases hb:b=acc
  ·subst hb;rw[aq]at e;cases e;exact⟨hz,its,n,hv,a⟩
  ·rw[aC hb]at e;exact(I.hok b u e).stay (λ_ _ _ q=>q) (λc q=>by rw[aC (ne c _ q)];exact q) λc i q=>by rw[aC (ne c _ q)];exact q
theorem disown(I:Inv X pins σ (upd H acc (.lst ys)) s)(j:pF X pins H acc):Inv X pins σ H s:=by
 obtain⟨h,f,r,l,g,n⟩:=j;have back:∀b u,upd H acc (.lst ys) b=some u->u≠.lst ys->H b=some u:=λb u e a=>by
  by_cases hb:b=acc
  ·subst hb;rw[aq]at e;cases e;exact absurd rfl a
  ·rw[aC hb]at e;exact e
 refine I.step (h':=s.heap) (g':=s.gens) (t':=s.toks) (d':=s.drawn) (ch:=[acc]) (λb hb=>?_) (λ_ _ _ _ _ e _=>e) (λb o _ _ _ e _=>⟨o.slots,e⟩) (λb o hb e d=>?_) (λb o _ e=>⟨o,e⟩)
  (λb k e=>back b _ e ai) (λb o u e=>back b _ e ai) (λb p e=>⟨#[],by rw[back b _ e ai];simp⟩) (λm hm=>hm) (λb u e=>?_) I.bare
 ·have e:b=acc:=by simpa using hb
  subst e;exact⟨l,f,g,n⟩
 ·have e:b≠acc:=by simpa using hb
  rw[aC e]at d;exact d
 ·have hb:b≠acc:=aF e h;have i:upd H acc (.lst ys) b=some u:=by rw[aC hb];exact e
  exact(I.hok b u i).stay (λ_ _ _ q=>q) (λc q=>back c _ q ai) λc k q=>back c _ q ai
end
def PF(X:Cx)(b:AG)(t:TT):Prop:=
 ∀(a:At) (s:AK) (σ:L2.St) (H:Hp) (Q:Bool->Hp->Prop),Inv X a σ H s->t σ H Q->
  wpAny ς X.A (forIn b true λc r=>if r=true then do let ok <- isTrue c X.env (eval c X.env);pure (ForInStep.yield ok)else pure (ForInStep.yield r)) (TP X a σ Q) X.xe s
theorem uG{X:Cx}:PF X [] pI:=λ_ _ _ H _ I h=>wpAny_tests_nil ⟨H,I,h⟩
theorem Av{X:Cx}{c:AN}{t:TT}(h:PT X c t):PF X [c] t:=λa s σ H Q I q=>wpAny_tests_one (h a s σ H Q I q)
def HF(X:Cx)(a:Scope)(cl:List (Str×AI))(N:AH)(C:AI)(s:AK)(H:Hp)(ex:AF)(pn:At):Cx:=
 { X with N:=N,s₀:=s,H₀:=H,env:=compEnvC a cl C X.env,outer:=X.stack,ex:=ex,fn:=λ_=>false,pn:=pn,xe:=λ_ _=>False }
def AllIn(cells:List (Str×AI)):List (Str×AI)->Prop
 | []=>True
 | p::r=>cells.lookup p.1=some p.2/\AllIn cells r
theorem AllIn.get{cells:List (Str×AI)}:∀{cl:List (Str×AI)},AllIn cells cl->∀{x:Str}{c:AI},cl.lookup x=some c->cells.lookup x=some c
 | [],_,x,c,h=>by cases h
 | (y,d)::r,a,x,c,h=>by
  cases e:(x == y)with
  | true=>
   rw[List.lookup_cons,e]at h;have b:x=y:=beq_iff_eq.mp e;subst b;cases h;exact a.1
  | false=>
   rw[List.lookup_cons,e]at h;exact AllIn.get a.2 h
def vY(X:Cx):AH->List Nat->Prop
 | [],[]=>True
 | y::r,j::js=>X.N[j]? =some y/\X.env.kindOf y=some .cell/\vY X r js
 | _,_=>False
theorem vY.len{X:Cx}:∀{ns:AH}{js:List Nat},vY X ns js->ns.length=js.length
 | [],[],_=>rfl
 | [],_::_,h=>h.elim
 | _::_,[],h=>h.elim
 | _::r,_::js,h=>by rw[List.length_cons,List.length_cons,vY.len h.2.2]
theorem vY.get{X:Cx}{σ:L2.St}:∀{ns:AH}{js:List Nat},vY X ns js->∀{i:Nat}{x:Str}{v:V},ns[i]? =some x->(js.map a3)[i]? =some eW->∃j:Nat,X.N[j]? =some x/\X.env.kindOf x=some .cell/\σ[j]? =some eW
 | [],_,_,i,x,v,h,_=>by simp at h
 | _::_,[],h,_,_,_,_,_=>h.elim
 | y::r,j::js,h,0,x,v,h1,h2=>by
  simp at h1 h2;subst h1;refine⟨j,h.1,h.2.1,?_⟩;unfold pick at h2;split at h2
  ·rename_i e;rw[e,h2]
  ·cases h2
 | y::r,j::js,h,i+1,x,v,h1,h2=>vY.get (i:=i) h.2.2 (by simpa using h1) (by simpa using h2)
theorem Zlf{x n:Str}{k:NameKind}{r:List (Str×NameKind)}(h:(x == n)=false):List.lookup x ((n,k)::r)=List.lookup x r:=by rw[List.lookup_cons,h]
theorem Zlg{x n:Str}{k:NameKind}{r:List (Str×NameKind)}(h:(x == n)=true):List.lookup x ((n,k)::r)=some k:=by rw[List.lookup_cons,h]
def NT(env:Env)(x:Str)(k:NameKind):NameKind:=if (k == NameKind.free && env.scope.kind == .function && env.kindOf x == some .cell)=true then .cell else k
theorem qd{env:Env}{x:Str}:∀{names:List (Str×NameKind)},
  (names.map λ(n,k)=>if (k == NameKind.free && env.scope.kind == .function && env.kindOf n == some .cell)then(n,NameKind.cell)else(n,k)).lookup x=(names.lookup x).map (NT env x)
 | []=>rfl
 | (n,a)::r=>by
  have b:=@qd env x r;show List.lookup x ((if (a == NameKind.free && env.scope.kind == .function && env.kindOf n == some .cell)=true then(n,NameKind.cell)else(n,a))::r.map λ(n,k)=>if (k == NameKind.free && env.scope.kind == .function && env.kindOf n == some .cell)then(n,NameKind.cell)else(n,k))=_;cases hx:x == n with
  | true=>
   have e:=beq_iff_eq.mp hx;subst e;rw[Zlg (k:=a) hx]
   by_cases hc:(a == NameKind.free && env.scope.kind == .function && env.kindOf x == some .cell)=true
   ·rw[if_pos hc,Zlg hx];show some NameKind.cell=some (NT env x a);unfold NT;rw[if_pos hc]
   ·rw[if_neg hc,Zlg hx];show some a=some (NT env x a);unfold NT;rw[if_neg hc]
  | false=>
   rw[Zlf (k:=a) (r:=r) hx]
   by_cases hc:(a == NameKind.free && env.scope.kind == .function && env.kindOf n == some .cell)=true
   ·rw[if_pos hc,Zlf hx];exact b
   ·rw[if_neg hc,Zlf hx];exact b
theorem lookup_all{names:List (Str×NameKind)}{p:Str×NameKind->Bool}:∀{x:Str}{k:NameKind},names.all p=true->names.lookup x=some k->p (x,k)=true:=by
 induction names with
 | nil=>intro x k _ h;simp at h
 | cons y r c=>
  intro x k a h;obtain⟨n,e⟩:=y;rw[List.all_cons,Bool.and_eq_true]at a;cases hx:x == n with
  | true=>
   rw[List.lookup_cons,hx]at h;have d:x=n:=beq_iff_eq.mp hx;have b:e=k:=Option.some.inj h;rw[d,<- b];exact a.1
  | false=>
   rw[List.lookup_cons,hx]at h;exact c a.2 h
theorem Zc3{prog:AM}{w:AO}{A:Around}{R:Result->AK->Prop}{s:AK}{t a iter:AN}{p:AG}{e:Scope}{u:Pos}{C acc:AJ}{env:Env}(I:Nat->AK->Prop)
  (turn:∀n s,I n s->wpAny ad A (pyNext C) (λr g=>match r with
   | none=>R (.ok .next) g
   | some v=>wpAny ad A (letOwnedTupleGo a C v) (λ_ f=>wpAny ad A (assign a env v) (λ_ j=>
     wpAny ad A (forIn p true λc r=>if r=true then do let ok <- isTrue c env (eval c env);pure (ForInStep.yield ok)else pure (ForInStep.yield r)) (λok d=>
      if ok=true then wpAny ad A (eval t env) (λx k=>
       wpAny ad A (call (.builtin "list.append") [acc,x]) (λ_ i=>∃m,m<n/\I m i) (λ_ _=>False) k) (λ_ _=>False) d
      else ∃m,m<n/\I m d) (λ_ _=>False) j) (λ_ _=>False) f) (λ_ _=>False) g) (λ_ _=>False) s)
  (n:Nat) (h:I n s):
  codeAny ad A (.compLoop (.ListComp t [⟨a,iter,p,0⟩] e u) 0 C acc env) R s:=by
 refine codeAny_loop rfl I (λn s D=>?_) n h;show wpAny _ A ((compTurn (.ListComp t [⟨a,iter,p,0⟩] e u) 0 C acc env).onRaise (λx=>do noteFrame x env;theTreesLotGoes x)) _ _ s;refine wpAny_noted ?_;rw[compTurn_list];refine wpAny_bind (wpAny_standAt (wpAny_bind (wpAny_mono (turn n s D) (λr g l=>?_) λ_ _ b=>b.elim)));cases r with
 | none=>exact wpAny_pure l
 | some v=>
  refine wpAny_bind (wpAny_mono l (λ_ f q=>?_) λ_ _ b=>b.elim);refine wpAny_bind (wpAny_mono q (λ_ j y=>wpAny_bind (wpAny_mono y (λok d o=>?_) λ_ _ b=>b.elim)) λ_ _ b=>b.elim);cases ok with
  | false=>exact wpAny_pure ⟨rfl,o⟩
  | true=>
   exact wpAny_bind (wpAny_bind (wpAny_mono o (λx k z=>wpAny_bind (wpAny_mono z (λ_ i B=>wpAny_pure (wpAny_pure ⟨rfl,B⟩)) λ_ _ b=>b.elim)) λ_ _ b=>b.elim))
theorem Zg0{X:Cx}{elt iter tg:AN}{pos:Pos}{ifs:AG}{f:Scope}{cl:List (Str×AI)}{wi:TI}{tc:TT}{te:TE}{cns:AH}{ns:AH}{gt:TG}{R:It->L2.St->Hp->VK->Prop}{use:Option (AJ->Sem Unit)}{Q0:Ap}{B:At}{s:AK}{σ:L2.St}{H:Hp}{Q:VK}(t:List Nat)
  (hR:∀J σ H Q,R J σ H Q->∃W:Nat->Nat->List V->Hp->Prop,(∃m,W 0 m [] H)/\∀i m L H,W i m L H->
   (J.stop i H/\∀p,H p=none->Q (.ref p) (upd H p (.lst L)))\/
   (J.go i H/\L.length<sizeLine/\∀x H',J.yld i H x H'->∀vs:L2.St,vs.length=ns.length->∃us:L2.St,us.length=ns.length/\gt x (vs++t.map a3) H' (λσ2 H2=>σ2=us++t.map a3/\H2=H')/\tc (us++t.map a3) H' λk H2=>if k=true then te (us++t.map a3) H2 (λy H3=>∃m',m'<m/\W de m' (L++[y]) H3)else ∃m',m'<m/\W de m' L H2))
  (hi:PI X tg iter wi) (hg:∀C s H ex pn,PG (HF X f cl (ns++cns) C s H ex pn) tg gt)
  (hf:∀C s H ex pn,PF (HF X f cl (ns++cns) C s H ex pn) ifs tc) (he:∀C s H ex pn,PE (HF X f cl (ns++cns) C s H ex pn) elt te) (hc:X.calm=true)
  (hclos:closureFor f X.env=pure cl) (hcl:AllIn X.env.cells cl) (hcap:vY X cns t)
  (hkind:f.kind=.function) (hcell:(f.names.all λp=>p.2 != .cell)=true) (hfree:(f.names.all λp=>p.2 != .free || (cl.lookup p.1).isSome)=true)
  (hcf:(cns.all λy=>f.names.lookup y == some .free)=true) (hnames:∀y∈f.names,y.2=.local->f.names.lookup y.1=some .local)
  (hs:∀v,foldedSetIterable iter X.env v=pure v)
  (I:Inv X B σ H s) (h:wi σ H λJ H1=>R J σ H1 Q)
  (hend:∀(acc C:AI) (s6:AK) (m:As) r0,s6.heap.Ns C m->(∀{Hf:Hp},Hf C=none->pF X B Hf C)->(∀h',Heap.SameBut C s6.heap h'->EP X B σ (λv Hf=>Q v Hf/\Hf C=none) (.ref acc) { s6 with heap:=h' })->compPost ς X.A X.xe use Q0 (.ref acc) C (.ok r0) s6):
  wpAny ς X.A (comprehension (.ListComp elt [⟨tg,iter,ifs,0⟩] f pos) f X.env (firstIterPos [⟨tg,iter,ifs,0⟩] pos) (newList []) (firstAsync [⟨tg,iter,ifs,0⟩]) (firstIter [⟨tg,iter,ifs,0⟩] X.env) use) Q0 X.xe s:=by
 refine wpAny_comprehension_free rfl hs hclos hkind hnames (gw (hi B s σ H _ I h) λxv s1 h1=>gw h1 λitv s2 h2=>?_);obtain⟨it,Z,tn,J,H2,rfl,K,T,st2,f2,hr⟩:=h2;obtain⟨W,⟨m0,w0⟩,turn⟩:=hR _ _ _ _ hr;have hne:∀y∈f.names,y.2≠.cell:=λy hy e=>by
  have:=List.all_eq_true.mp hcell y hy;rw[e]at this;simp at this
 refine wpAny_newObj_type (wpAny_newFunctionEnv hne (by intro y hy;simp at hy) (λh₁ O S=>?_) hkind);dsimp only at O S ⊢;generalize F:s2.heap.objs.size=acc;generalize hH3:s2.heap.push { cls:=.type "list",dict:=none,data:=.seq ([]:AC).toArray }=P at O S ⊢;have hC:P.objs.size=acc+1:=by rw[<- hH3,Heap.size_push,F]
 have E:∀b o,s2.heap.get? b=some o->P.get? b=some o:=λb o e=>hH3 ▸ Heap.get?_push_of_some _ e;have N:∀b o,P.get? b=some o->h₁.get? b=some o:=λb o e=>S.extBut b o (Nat.ne_of_lt (Heap.lt_size e)) (Heap.get?_push_of_some _ e);have Zwg:P.get? acc=some { cls:=.type "list",dict:=none,data:=.seq ([]:AC).toArray }:=by
  rw[<- hH3,<- F];exact Heap.get?_push_size _ rfl
 have I3:Inv X B σ H2 { s2 with heap:=P }:=K.kept (t':=s2.toks) E;have Zt3:pF X B H2 acc:=K.Zeb (Nat.le_of_eq F) (K.hok.fresh (Nat.le_of_eq F));have fpl:∀b∈Z,b<acc:=λb hb=>by
  obtain⟨o,e,_⟩:=T.obj _ _ st2 b hb;rw[<- F];exact Heap.lt_size e
 have Zin:∀b∈acc::Z,pF X B H2 b:=λb hb=>(List.mem_cons.mp hb).elim (λe=>e ▸ Zt3) (f2 b);have exC:∀b∈acc::Z,b≠P.objs.size:=λb hb=>by
  rcases List.mem_cons.mp hb with e | hb
  ·rw[hC,e];exact Nat.ne_of_lt (Nat.lt_succ_self _)
  ·rw[hC];exact Nat.ne_of_lt (Nat.lt_succ_of_lt (fpl b hb))
 have Zcq:∀b∈acc::Z,b∉frs X.stack:=λb hb hm=>by
  obtain⟨_,g1,g2,_⟩:=Zin b hb;exact(List.mem_cons.mp (K.GK b hm)).elim g1 g2
 let Y:Cx:=HF X f cl (ns++cns) P.objs.size { s2 with heap:=P } H2 (acc::Z) (X.pn++B)
 have g:∀y c,cl.lookup y=some c->X.env.cells.lookup y=some c:=λy c e=>hcl.get e;have Zg1:∀y k,Y.env.kindOf y=some k->(k=.cell\/k=.free)->∃c,cl.lookup y=some c:=λy k e hk=>by
  have e0:(f.names.lookup y).map (NT X.env y)=some k:=qd.symm.trans e;obtain⟨k0,e1,e2⟩:=Option.map_eq_some_iff.mp e0;have e3:=lookup_all hfree e1;have e4:=lookup_all hcell e1
  by_cases hf:k0=.free
  ·subst hf;rw[Bool.or_eq_true]at e3;rcases e3 with e3 | e3
   ·exact absurd rfl (bne_iff_ne.mp e3)
   ·exact Option.isSome_iff_exists.mp e3
  ·exfalso
   have e5:NT X.env y k0=k0:=by
    unfold NT;rw[if_neg];intro z;rw[Bool.and_eq_true,Bool.and_eq_true]at z;exact hf (beq_iff_eq.mp z.1.1)
   rw[e5]at e2;subst e2;rcases hk with rfl | rfl
   ·simp at e4
   ·exact hf rfl
 have okY:Y.Ok:={
  mod:=K.ok.mod
  kind:=hkind
  glob:=K.ok.glob
  blt:=K.ok.blt
  above:=Nat.le_refl _
  inj:=λa b c e1 e2=>K.ok.inj a b c (g _ _ e1) (g _ _ e2)
  has:=λy hy=>hy.elim (λe=>Zg1 y _ e (.inl rfl)) (λe=>Zg1 y _ e (.inr rfl))
  cab:=λy c e=>nomatch e
  hd:=K.ok.hd
  frames:=K.ok.frames
  stk:=.inl rfl
  exf:=λb hb=>⟨exC b hb,λy c e=>(Zin b hb).2.2.2.2.1 y c (g _ _ e)⟩
  bs:=λb o e=>⟨E b o (K.bs b o e).1,(K.bs b o e).2⟩
  bsz:=by
   show X.base.objs.size<=P.objs.size;rw[hC,<- F];exact Nat.le_succ_of_le (Nat.le_trans K.ok.bsz K.sz)
  Zat:=λb o e hb=>by
   rcases(Zin b hb).2.2.2.1 with z | z
   ·exact K.ok.Zat b o e z
   ·exact absurd (Nat.lt_of_lt_of_le (Heap.lt_size e) (Nat.le_trans K.ok.bsz z)) (Nat.lt_irrefl _)
  Zed:=Zcq
  uR:=I3.stack
  frf:=I3.Xc }
 have Zwp:(List.replicate ns.length none++t.map a3:L2.St).length=(ns++cns).length:=by rw[List.length_append,List.length_append,List.length_replicate,aU,hcap.len]
 have I4:Inv Y [] (List.replicate ns.length none++t.map a3) H2 { s2 with heap:=h₁,toks:=s2.toks+([]:List (Str×AJ)).length }:={
  ok:=okY
  os:=rfl
  bare:=K.bare
  base:=Un.kept N
  loc:=by
   refine⟨_,O,λi y v e1 e2 e3=>?_⟩
   by_cases hlt:i<ns.length
   ·have e2:(List.replicate ns.length none++t.map a3:L2.St)[i]? =some eW:=e2;rw[List.getElem?_append_left (by rw[List.length_replicate];exact hlt),List.getElem?_replicate,if_pos hlt]at e2;cases e2
   ·have e1':cns[i - ns.length]? =some y:=by
     have e1':(ns++cns)[i]? =some y:=e1;rw[List.getElem?_append_right δ]at e1';exact e1'
    have e2':(t.map a3:L2.St)[i - ns.length]? =some eW:=by
     have e2:(List.replicate ns.length none++t.map a3:L2.St)[i]? =some eW:=e2;rw[List.getElem?_append_right (by rw[List.length_replicate];omega),List.length_replicate]at e2;exact e2
    obtain⟨j,j1,j2,j3⟩:=hcap.get (σ:=σ) (i:=i - ns.length) (x:=y) (v:=v) e1' e2';obtain⟨m,hn,hl⟩:=K.loc;obtain⟨u,r,l⟩:=hl j y v j1 j3 (.inr (.inl j2));rcases l with ⟨l,_⟩ | ⟨_,c,l1,l2⟩
    ·rw[j2]at l;cases l
    ·refine⟨u,r,.inr ?_⟩;rcases e3 with e3 | e3 | e3
     ·exfalso
      have hm:y∈cns:=List.mem_of_getElem? e1';have hl:f.names.lookup y=some .free:=beq_iff_eq.mp (List.all_eq_true.mp hcf y hm);have e0:(f.names.lookup y).map (NT X.env y)=some .local:=qd.symm.trans e3;rw[hl]at e0;have e5:NT X.env y .free=.local:=Option.some.inj e0;unfold NT at e5;split at e5<;>cases e5
     ·obtain⟨c',hc'⟩:=Zg1 y _ e3 (.inl rfl);have:=g _ _ hc';rw[l1]at this;cases this;exact⟨.inl e3,c,hc',l2.keeps λb o e=>N _ _ (E _ _ e)⟩
     ·obtain⟨c',hc'⟩:=Zg1 y _ e3 (.inr rfl);have:=g _ _ hc';rw[l1]at this;cases this;exact⟨.inr e3,c,hc',l2.keeps λb o e=>N _ _ (E _ _ e)⟩
  cell:=λy c e=>by
   obtain⟨v,z⟩:=K.cell y c (g _ _ e);exact⟨v,z.keeps λb o e=>N _ _ (E _ _ e)⟩
  free:=K.hok.fresh (by rw[F];show acc<=P.objs.size;rw[hC];exact Nat.le_succ _)
  qg:=λy c e=>K.qg y c (g _ _ e)
  pin:=λp hp=>by
   have hp2:p∈(X.pn++B)++[]:=hp;have hp':p∈X.pn++B:=by rw[List.append_nil]at hp2;exact hp2
   obtain⟨p1,p2,p3,p4,p5⟩:=K.pin p hp';refine⟨N _ _ (E _ _ p1),p2,?_,λhm=>(List.mem_cons.mp (K.GK _ hm)).elim p3 p4,p5⟩;exact Nat.ne_of_lt (by show p.1<P.objs.size;exact Heap.lt_size (E _ _ p1))
  hok:=K.hok.kept λb u e=>N _ _ (E _ _ e)
  len:=Zwp }
 have fpY:∀{H':Hp}{pl:At}{b:AI},b∈acc::Z->H' b=none->(∀p∈pl,p.1≠b)->pF Y pl H' b:=λ{H' pl b} hb hn hp=>
  ⟨hn,exC b hb,Zcq b hb,.inl hb,λy c e=>(Zin b hb).2.2.2.2.1 y c (g _ _ e),λp hm=>(List.mem_append.mp hm).elim (λz=>(Zin b hb).2.2.2.2.2 p z) (hp p)⟩
 have fin:∀{U:L2.St}{H':Hp}{M:AK}{L:List V}{D:AC}{kk:Nat}{pl:At},Inv Y pl U H' M->H' acc=none->Vals L D->L.length<=sizeLine->
   M.heap.get? acc=some { cls:=.type "list",data:=.seq D.toArray kk }->(∀p,H' p=none->Q (.ref p) (upd H' p (.lst L)))->
   ∀h',Heap.SameBut P.objs.size M.heap h'->EP X B σ (λv Hf=>Q v Hf/\Hf P.objs.size=none) (.ref acc) { M with heap:=h' }:=λ{U H' M L D kk pl} J ha hv hz ho hq h' hs'=>by
  have Zvn:acc≠P.objs.size:=exC acc (List.mem_cons_self);have Zbh:∀b o,b≠P.objs.size->M.heap.get? b=some o->h'.get? b=some o:=λb o hb e=>hs'.extBut b o hb e;have ltC:∀b o,s2.heap.get? b=some o->b≠P.objs.size:=λb o e=>Nat.ne_of_lt (Heap.lt_size (E b o e));have Ze7:H' P.objs.size=none:=J.free;have un:Un (frs X.stack) (acc::Z) H2 H' s2.heap h':={
   keep:=λb o e n hb hx=>Zbh b o (ltC b o e) (J.base.keep b o (E b o e) n hb hx)
   slot:=λb o e n hb hx=>by
    obtain⟨sl,q⟩:=J.base.slot b o (E b o e) n hb hx;exact⟨sl,Zbh b _ (ltC b o e) q⟩
   free:=λb o e n hx=>J.base.free b o (E b o e) n hx
   there:=λb o e hx=>by
    obtain⟨o',q⟩:=J.base.there b o (E b o e) hx;exact⟨o',Zbh b o' (ltC b o e) q⟩
   tups:=J.base.tups
   Hz:=J.base.Hz
   Lg:=J.base.Lg }
  have hok:ym X.prog X.w H' h':=λb u e=>by
   refine(J.hok b u e).stay (λc v hc q=>Zbh c v ?_ q) (λ_ q=>q) λ_ _ q=>q;rintro rfl;rcases hc with rfl | hc
   ·rw[Ze7]at e;cases e
   ·rw[Ze7]at hc;cases hc
  have I5:Inv X B σ H' { M with heap:=h' }:=K.call' (ch:=acc::Z) J.os un hok J.bare λb hb=>by
   obtain⟨g0,g1,g2,g3,g4,g5⟩:=Zin b hb;exact⟨g3,g1,g4,g5⟩
  refine⟨.ref acc,_,adopt (acc:=acc) I5 ?_ (Zbh _ _ Zvn ho) hv hz,rfl,hq acc ha,by rw[aC Zvn.symm];exact Ze7⟩;obtain⟨g0,g1,g2,g3,g4,g5⟩:=Zt3;exact⟨ha,g1,g2,g3,g4,g5⟩
 have loop:codeAny ς X.A (.compLoop (.ListComp elt [⟨tg,iter,ifs,0⟩] f pos) 0 (.ref it) (.ref acc) Y.env) (compPost ς X.A X.xe use Q0 (.ref acc) P.objs.size)
   { s2 with heap:=h₁,toks:=s2.toks+([]:List (Str×AJ)).length }:=by
  refine Zc3 (λn M=>∃(i:Nat) (v:L2.St) (L:List V) (D:AC) (kk:Nat) (H':Hp),v.length=ns.length/\Inv Y [] (v++t.map a3) H' M/\tn i M.heap/\(∀b∈Z,H' b=none)/\H' acc=none/\Vals L D/\L.length<=sizeLine/\
   M.heap.get? acc=some { cls:=.type "list",data:=.seq D.toArray kk }/\W i n L H') ?_ m0 ⟨0,List.replicate ns.length none,[],[],0,H2,List.length_replicate,I4,T.keep _ _ _ st2 (λb _ o e=>N _ _ (E _ _ e)),λb hb=>(f2 b hb).1,Zt3.1,.nil,Nat.zero_le _,N _ _ Zwg,w0⟩
  rintro n s5 ⟨i,v,L,D,kk,H5,lv,I5,st5,fr5,ha5,hv5,hz5,ho5,w5⟩;have Zu9:Inv Y [(acc,{ cls:=.type "list",data:=.seq D.toArray kk })] (v++t.map a3) H5 s5:=I5.yz λp hp=>by
   have e:p=(acc,{ cls:=.type "list",data:=.seq D.toArray kk }):=by simpa using hp
   subst e;exact⟨ho5,ha5,exC acc List.mem_cons_self,Zcq acc List.mem_cons_self,λv=>by intro z;cases z⟩
  have fpA:∀{H':Hp},(∀b∈Z,H' b=none)->∀b∈Z,pF Y [(acc,{ cls:=.type "list",data:=.seq D.toArray kk })] H' b:=λhn b hb=>fpY (List.mem_cons_of_mem _ hb) (hn b hb) λp hp=>by
   have e:p=(acc,{ cls:=.type "list",data:=.seq D.toArray kk }):=by simpa using hp
   subst e;exact(Nat.ne_of_lt (fpl b hb)).symm
  rcases turn i n L H5 w5 with ⟨stop,qn⟩ | ⟨go,hlt,step⟩
  ·refine gw (T.done Y rfl rfl rfl hc i _ s5 _ H5 (λ_ _=>False) Zu9 (fpA fr5) st5 stop) λr s6 qc=>?_;obtain⟨hr,I6⟩:=qc;subst hr;obtain⟨m,hm,_⟩:=I6.loc;have ho6:=(I6.pin (acc,{ cls:=.type "list",data:=.seq D.toArray kk }) (List.mem_append_right _ List.mem_cons_self)).1;exact hend acc P.objs.size s6 m _ hm (λhf=>K.Zeb (by rw[hC,F];exact Nat.le_succ _) hf) (fin I6 ha5 hv5 hz5 ho6 qn)
  ·refine gw (T.item Y rfl rfl rfl hc i _ s5 _ H5 (λ_ _=>False) Zu9 (fpA fr5) st5 go) λr s6 qc=>?_;obtain⟨u,hr,h6⟩:=qc;subst hr;refine gw h6 λ_ s7 qc=>?_;obtain⟨z,H7,I7,r7,y7,st7,fr7⟩:=qc;have I7':=I7.pinned (fpA fr7) (T.obj _ _ st7);obtain⟨us,lu,hgt,step⟩:=step z H7 y7 v lv;have pg:PG Y tg gt:=hg _ _ _ _ _;refine gw (pg _ s7 _ H7 z u (λσ2 H2'=>σ2=us++t.map a3/\H2'=H7) I7' r7 hgt) λ_ s8 qc=>?_;obtain⟨σ8,H8,I8,e8,e8'⟩:=qc;subst e8 e8';refine gw (hf _ _ _ _ _ _ s8 _ H8 _ I8 step) λok s9 qc=>?_;obtain⟨H9,I9,q9⟩:=qc;have stat:∀{H':Hp}{M:AK}{U:L2.St},Inv Y ([(acc,{ cls:=.type "list",data:=.seq D.toArray kk })]++Ar Z s7.heap) U H' M->tn de M.heap/\(∀b∈Z,H' b=none)/\H' acc=none/\M.heap.get? acc=some { cls:=.type "list",data:=.seq D.toArray kk }:=λ{H' M U} J=>by
    have pa:=J.pin (acc,{ cls:=.type "list",data:=.seq D.toArray kk }) (List.mem_append_right _ (List.mem_append_left _ List.mem_cons_self));refine⟨T.keep _ _ _ st7 λb hb o e=>(J.pin (b,o) dn).1,λb hb=>?_,pa.2.1,pa.1⟩;obtain⟨o,e,d⟩:=T.obj _ _ st7 b hb;exact(J.pin (b,o) dn).2.1
   have Zq6:∀{H':Hp}{M:AK}{U:L2.St}{pl:At},Inv Y pl U H' M->Inv Y [] U H' M:=λJ=>J.yz λp hp=>nomatch hp;cases ok with
   | false=>
    obtain⟨m',hm,w9⟩:=q9;obtain⟨t1,t2,t3,t4⟩:=stat I9;exact⟨m',hm,i+1,us,L,D,kk,H9,lu,Zq6 I9,t1,t2,t3,hv5,hz5,t4,w9⟩
   | true=>
    show wpAny _ _ (eval elt Y.env) _ _ s9;refine gw (he _ _ _ _ _ _ s9 _ H9 _ I9 q9) λy s10 qc=>?_;obtain⟨yv,H10,I10,r10,m',hm,w10⟩:=qc;obtain⟨t1,t2,t3,t4⟩:=stat I10;have Zzf:Inv Y (Ar Z s7.heap) (us++t.map a3) H10 s10:=I10.yz λp hp=>I10.pin p (List.mem_append_right _ (List.mem_append_right _ hp));have fA:pF Y (Ar Z s7.heap) H10 acc:=fpY List.mem_cons_self t3 λp hp=>Nat.ne_of_lt (fpl _ (VM hp).1);have Ja:=adopt Zzf fA t4 hv5 hz5;refine gw (mK (X:=Y) _ s10 _ _ (.ref acc) [yv] (.ref acc) [y] (λ_ H'=>H'=upd (upd H10 acc (.lst L)) acc (.lst (L++[yv]))) Ja rfl (.cons r10 .nil) ⟨acc,L,yv,rfl,rfl,aq,hlt,rfl⟩) λ_ s11 qc=>?_;obtain⟨_,H11,I11,_,e11⟩:=qc;rw[dF]at e11;subst e11;obtain⟨Zxd,its',kk',Zxe,Zxh⟩:=I11.hok acc _ aq;have Jd:=disown I11 fA;have Zwb:tn de s11.heap:=T.keep _ _ _ st7 λb hb o e=>(Jd.pin (b,o) (List.mem_append_right _ (p7 hb e))).1;exact⟨m',hm,i+1,us,L++[yv],its',kk',H10,lu,Zq6 Jd,Zwb,t2,t3,Zxe,Zxd,Zxh,w10⟩
 exact codeAny_compStart_list loop (T.self X.A 0 _ _ _ (T.keep _ _ _ st2 (λb _ o e=>N _ _ (E _ _ e))) loop)
theorem Zkd{X:Cx}{j iter tg:AN}{t:Pos}{n:AG}{a:Scope}{cl:List (Str×AI)}{D:TI}{tc:TT}{B:TE}{cns:AH}{ns:AH}{gt:TG}{R:It->L2.St->Hp->VK->Prop}(b:List Nat)
  (P:∀J σ H Q,R J σ H Q->∃W:Nat->Nat->List V->Hp->Prop,(∃m,W 0 m [] H)/\∀i m q H,W i m q H->
   (J.stop i H/\∀p,H p=none->Q (.ref p) (upd H p (.lst q)))\/
   (J.go i H/\q.length<sizeLine/\∀x H',J.yld i H x H'->∀vs:L2.St,vs.length=ns.length->∃us:L2.St,us.length=ns.length/\gt x (vs++b.map a3) H' (λz r=>z=us++b.map a3/\r=H')/\tc (us++b.map a3) H' λk r=>if k=true then B (us++b.map a3) r (λy K=>∃l,l<m/\W de l (q++[y]) K)else ∃l,l<m/\W de l q r))
  (hi:PI X tg iter D) (hg:∀C s H ex pn,PG (HF X a cl (ns++cns) C s H ex pn) tg gt)
  (O:∀C s H ex pn,PF (HF X a cl (ns++cns) C s H ex pn) n tc) (Y:∀C s H ex pn,PE (HF X a cl (ns++cns) C s H ex pn) j B) (hc:X.calm=true)
  (d:closureFor a X.env=pure cl) (A:AllIn X.env.cells cl) (o:vY X cns b)
  (f:a.kind=.function) (g:(a.names.all λp=>p.2 != .cell)=true) (e:(a.names.all λp=>p.2 != .free || (cl.lookup p.1).isSome)=true)
  (w:(cns.all λy=>a.names.lookup y == some .free)=true) (c:∀y∈a.names,y.2=.local->a.names.lookup y.1=some .local)
  (hs:∀v,foldedSetIterable iter X.env v=pure v):
  PE X (.ListComp j [⟨tg,iter,n,0⟩] a t) (λσ H Q=>D σ H λJ M=>R J σ M Q):=by
 intro E s σ H Q I h;rw[eval_ListComp];refine Zg0 b P hi hg O Y hc d A o f g e w c hs I h λS C s6 m r0 hm Z fin=>⟨m,hm,λT u=>?_⟩;obtain⟨v,F,U,N,L,_⟩:=fin T u;exact⟨v,F,U,N,L⟩
theorem JB{X:Cx}{n iter:AN}{x:Str}{B r:Pos}{k:AG}{a:Scope}{cl:List (Str×AI)}{A:TI}{tc:TT}{w:TE}{cns:AH}(b:List Nat)
  (hi:PI X (.Name x B) iter A)
  (I:∀C s H ex pn,PF (HF X a cl (x::cns) C s H ex pn) k tc) (K:∀C s H ex pn,PE (HF X a cl (x::cns) C s H ex pn) n w) (hc:X.calm=true)
  (f:closureFor a X.env=pure cl) (u:AllIn X.env.cells cl) (o:vY X cns b)
  (e:a.kind=.function) (j:(a.names.all λp=>p.2 != .cell)=true) (d:(a.names.all λp=>p.2 != .free || (cl.lookup p.1).isSome)=true)
  (t:(cns.all λy=>a.names.lookup y == some .free)=true) (c:∀y∈a.names,y.2=.local->a.names.lookup y.1=some .local) (hx:a.names.lookup x=some .local) (q:(x::cns).Nodup)
  (hs:∀v,foldedSetIterable iter X.env v=pure v:=by intro _;rfl):
  PE X (.ListComp n [⟨.Name x B,iter,k,0⟩] a r) (ZZ A b tc w):=by
 refine Zkd (ns:=[x]) (gt:=aL 0) b (λJ M H Q h=>?_) hi (λC s H ex pn=>cZ q rfl (.inl (lookup_relabel_local hx)) (.inr (lookup_relabel_local hx))) I K hc f u o e j d t c hs;obtain⟨W,w0,turn⟩:=h;refine⟨W,w0,λi m D H E=>(turn i m D H E).imp id λ⟨g,l,st⟩=>⟨g,l,λz F y L hv=>?_⟩⟩;obtain⟨v,rfl⟩:=List.length_eq_one_iff.mp hv;exact⟨[some z],rfl,⟨rfl,rfl⟩,st z F y⟩
theorem G5{P:AM}{w:AO}{H:Hp}{h:Heap}{a:AI}{o:HO}(x:gH P w H h a o):∃ob,h.get? a=some ob:=by
 induction o with
 | lst c=>obtain⟨_,_,_,_,e⟩:=x;exact⟨_,e⟩
 | tup c=>obtain⟨_,_,_,ob,e,_⟩:=x;exact⟨ob,e⟩
 | dK b=>obtain⟨_,_,_,_,ob,_,_,e,_⟩:=x;exact⟨ob,e⟩
 | dT b=>obtain⟨_,_,_,_,ob,_,_,e,_⟩:=x;exact⟨ob,e⟩
 | set S n=>obtain⟨ob,_,_,_,e,_⟩:=x;exact⟨ob,e⟩
 | ins C j fs=>obtain⟨_,_,_,e,_⟩:=x;exact⟨_,e⟩
 | own y=>exact x
 | xd fs=>obtain⟨_,⟨ob,_,_,e,_⟩,_⟩:=x;exact⟨ob,e⟩
 | rng lo hi=>obtain⟨_,_,_,e⟩:=x;exact⟨_,e⟩
 | uB ob u g=>exact⟨_,x.1⟩
 | M7 i=>exact⟨_,x⟩
 | met f y=>exact⟨_,x⟩
 | ext d=>obtain⟨_,e,_⟩:=x;exact e
theorem W6{P:AM}{w:AO}{fs:AF}{H0 c:Hp}{g h1 h2:Heap}(u:Un fs [] H0 c g h1)(ok:ym P w c h1)(k:∀b∈fs,c b=none)
  (kp:∀b o,h1.get? b=some o->((∃v,g.get? b=some v)\/∃v,c b=some v)->b∉fs->h2.get? b=some o) (sl:∀b o,h1.get? b=some o->b∈fs->∃z,h2.get? b=some { o with slots:=z }):
  Un fs [] H0 c g h2/\ym P w c h2:=by
 refine⟨⟨λb o e n hb hx=>kp b o (u.keep b o e n hb hx) (.inl ⟨o,e⟩) hb,λb o e n hb hx=>?_,u.free,λb o e hx=>?_,u.tups,u.Hz,u.Lg⟩,λa o e=>?_⟩
 ·obtain⟨z,d⟩:=u.slot b o e n hb hx;obtain⟨j,f⟩:=sl b _ d hb;exact⟨j,f⟩
 ·obtain⟨h,d⟩:=u.there b o e hx
  by_cases hb:b∈fs
  ·obtain⟨z,f⟩:=sl b _ d hb;exact⟨_,f⟩
  ·exact⟨h,kp b h d (.inl ⟨o,e⟩) hb⟩
 ·refine(ok a o e).stay (λb v hb q=>?_) (λ_ q=>q) λ_ _ q=>q;have hs:∃v,c b=some v:=by
   rcases hb with z | z
   ·exact⟨o,by rw[z];exact e⟩
   ·exact⟨_,z⟩
  refine kp b v q (.inr hs) λz=>?_;obtain⟨l,i⟩:=hs;rw[k b z]at i;cases i
def RG(P:AM)(w:AO):ZR:=λouter H s E e s'=>
 ∃(c:AI) (a a0:AJ) (B:Heap) (H':Hp),e=.ref c/\s'.os=s.os/\AllBare s'.gens/\Un (frs outer) [] H H' s.heap s'.heap/\ym P w H' s'.heap/\Heap.FlyingW B outer c a a0 s'.heap/\
  (∀b o,s'.heap.get? b=some o->((∃v,s.heap.get? b=some v)\/∃v,H' b=some v)->b∉frs outer->B.get? b=some o)/\E a none H'
theorem dN{P:AM}{w:AO}{X:Cx}:Passes (RG P w) X E0:=λ_ _ _ _ _ _ _ h=>by
 obtain⟨_,_,_,_,_,_,_,_,_,_,_,_,z⟩:=h;exact z.elim
section
variable {P:AM}{w:AO}{K:aB}{mg:As}{base:Heap}{N:AH}{qual:Str}{scope:Scope}{f:AI}{cd:AJ}{A:Around}{outer:List Env}{s:AK}{H:Hp}{E:XK}
theorem DN:Passes (RG P w) (HD (RG P w) P w K mg base N qual scope f cd A outer s H E) E:=by
 intro i C M x e j I h;obtain⟨D,n,a0,B,c,rfl,os,bare,un,ok,fl,F,p⟩:=h;have J:Inv (HD (RG P w) P w K mg base N qual scope f cd A outer s H E) i C c j:=I.call' os un ok bare (λb z=>nomatch z);have u:∀b o,s.heap.get? b=some o->b≠(envOfC qual scope s.heap.objs.size f cd).locals:=λb o e=>Nat.ne_of_lt ci;have m:∀b,((∃v,s.heap.get? b=some v)\/∃v,c b=some v)->b∉frs outer->b∉frs (envOfC qual scope s.heap.objs.size f cd::outer):=λb hb hn hm=>by
  rcases List.mem_cons.mp (J.GK b hm)with z | z
  ·rcases hb with ⟨v,e⟩ | ⟨v,e⟩
   ·exact u b v e z
   ·rw[z]at e;have:=J.free;rw[e]at this;cases this
  ·exact hn z
 have l:∀b,((∃v,s.heap.get? b=some v)\/∃v,c b=some v)->(∃v,x.heap.get? b=some v)\/∃v,c b=some v:=λb hb=>by
  rcases hb with ⟨v,e⟩ | hb
  ·exact .inl (I.base.there b v e ai)
  ·exact .inr hb
 refine wpAny_leaves_onW I.ok.frames rfl fl λt a sm=>?_;have k:∀b o,j.heap.get? b=some o->b∈frs outer->∀y,o.data≠.fields y:=λb o e hb=>by
  obtain⟨_,L,g,hd⟩:=J.uR.mem hb;rw[e]at g;cases g;exact hd
 have d:∀b o,j.heap.get? b=some o->((∃v,s.heap.get? b=some v)\/∃v,c b=some v)->b∉frs outer->B.get? b=some o:=λb o e hb hn=>F b o e (l b hb) (m b hb hn);have U:=W6 (P:=P) (w:=w) (h2:=t) J.base J.hok (λb hb=>by
   obtain⟨_,o,r,_⟩:=J.ok.uR.mem hb;exact J.base.free b o r (J.ok.frf b hb) ai) (λb o e hb hn=>a.1 _ _ (d b o e hb hn)) λb o e hb=>sm b o e (k b o e hb)
 refine⟨D,n,a0,B,c,rfl,J.os,J.bare,U.1,U.2,a,λb o e hb hn=>?_,p⟩;have there:∃v,j.heap.get? b=some v:=by
  rcases hb with ⟨v,z⟩ | ⟨v,z⟩
  ·exact J.base.there b v z ai
  ·exact G5 (J.hok b v z)
 obtain⟨v,z⟩:=there;have q:=d b v z hb hn;have:=a.1 _ _ q;rw[e]at this;cases this;exact q
theorem Xu{h:At}{σ:L2.St}{d:Hp}{a:AK}{C e:AI}{vs:AC}{h1:Heap}(I:Inv (HD (RG P w) P w K mg base N qual scope f cd A outer s H E) h σ d a)
  (hx:Heap.MadeExcOf a.heap h1 e (.ref C) vs) (l:E (.ref C) none d):(HD (RG P w) P w K mg base N qual scope f cd A outer s H E).xe (.ref e) { a with heap:=h1 }:=by
 have p:∀b o,s.heap.get? b=some o->b≠(envOfC qual scope s.heap.objs.size f cd).locals:=λb o e=>Nat.ne_of_lt ci;have j:∀b,((∃v,s.heap.get? b=some v)\/∃v,d b=some v)->b∉frs outer->b∉frs (envOfC qual scope s.heap.objs.size f cd::outer):=λb hb hn hm=>by
  rcases List.mem_cons.mp (I.GK b hm)with z | z
  ·rcases hb with ⟨v,e⟩ | ⟨v,e⟩
   ·exact p b v e z
   ·rw[z]at e;have:=I.free;rw[e]at this;cases this
  ·exact hn z
 have r:a.heap.FunFrames (W.hideAll a.heap (frs (envOfC qual scope s.heap.objs.size f cd::outer))) (envOfC qual scope s.heap.objs.size f cd::outer):=
  W.funFrames_hide I.stack λenv u b hb=>List.mem_filterMap.mpr ⟨env,u,hb⟩
 refine wpAny_leaves_madeW (s:={ a with heap:=h1 }) I.ok.frames rfl (λb o q=>W.of_hideAll _ q) r hx λn t fl _ _ sm=>?_;have c:∀b o,a.heap.get? b=some o->((∃v,s.heap.get? b=some v)\/∃v,d b=some v)->b∉frs outer->(W.hideAll a.heap (frs (envOfC qual scope s.heap.objs.size f cd::outer))).get? b=some o:=
  λb o e hb hn=>W.hideAll_get _ e (j b hb hn)
 have i:∀b o,a.heap.get? b=some o->b∈frs outer->∀vs,o.data≠.fields vs:=λb o e hb=>by
  obtain⟨_,x,g,hd⟩:=I.uR.mem hb;rw[e]at g;cases g;exact hd
 have U:=W6 (P:=P) (w:=w) (h2:=n) I.base I.hok (λb hb=>by
   obtain⟨_,o,m,_⟩:=I.ok.uR.mem hb;exact I.base.free b o m (I.ok.frf b hb) ai) (λb o e hb hn=>fl.1 _ _ (c b o e hb hn)) λb o e hb=>sm b o (hx.keeps b o e) (i b o e hb)
 refine⟨e,.ref C,.ref t,_,d,rfl,I.os,I.bare,U.1,U.2,fl,λb o q hb hn=>?_,l⟩;have there:∃v,a.heap.get? b=some v:=by
  rcases hb with ⟨v,z⟩ | ⟨v,z⟩
  ·exact I.base.there b v z ai
  ·exact G5 (I.hok b v z)
 obtain⟨v,z⟩:=there;have k:=c b v z hb hn;have:=fl.1 _ _ k;rw[q]at this;cases this;exact k
end
abbrev Zzg(K:aB)(C:AI):Prop:=W.excIn K C [.type "ValueError",.type "Exception",.type "BaseException",.type "object"] "ValueError.__new__"=true
theorem Zpd{K:aB}{h:Heap}{C:AI}{n:AC}{r:String}(X:K.In h)(q:W.excIn K C n r=true):
  ∃tl N nm u bs hd sn sub ab col dd f d e c b mN,h.get? C=some (excClassObj nm u C N bs tl hd sn sub ab col dd f d e c b r)/\h.Ns N mN/\mN "__init__"=none/\OwnTail h n tl:=by
 unfold W.excIn at q;split at q
 ·rename_i dd k a l
  split at q
  ·rename_i D tl f d e c n2 b p o
   simp only[Bool.and_eq_true,beq_iff_eq,Bool.not_eq_true']at q;obtain⟨⟨⟨⟨⟨A,t⟩,e3⟩,y⟩,i⟩,m⟩:=q;subst A t;obtain⟨c1,c2,c3,c4,B,w,s,v,z,j,x⟩:=k;dsimp only at p e3 i m;subst p e3;have g:a=#[f,d,e,c,some (.builtin n2),b]:=by
    obtain⟨ls⟩:=a;simp only at o;rw[o]
   subst g;refine⟨tl,c4,c1,B,c2,w,s,v,z,j,dd,f,d,e,c,b,h.nsMap c4,X _ _ l,?_,W.nsMap_none_of_in X i m,W.tail_of_in X y⟩;exact .of_isNs (W.isNs_of_in X i)
  ·cases q
 ·cases q
section
variable {X:Cx}{x:Str}{C:AI}{np cpos pos:Pos}{e:AN}{es:AG}{ta:TA}{E:XK}
theorem DG(hc:X.calm=true)(hg:Gl X x)(hm:X.mg x=↑C)(hx:Zzg X.K C)(p:PA X (e::es) ta)
  (j:∀(a:At) (σ:L2.St) (H:Hp) (s:AK) (c:AI) (vs:AC) (h1:Heap),Inv X a σ H s->Heap.MadeExcOf s.heap h1 c (.ref C) vs->E (.ref C) none H->X.xe (.ref c) { s with heap:=h1 })
  (hs:starEach (e::es) X.env=(false,eval e X.env)::starEach es X.env:=by rfl) (f:(backTo cpos dQ).any (·.1)=false:=by rfl) (hd:(x == ("__debug__":Str))=false:=by decide):
  PS X (.Raise (some (.Call (.Name x np) (e::es) [] cpos)) none pos) (Gy C E ta):=by
 intro a s σ H D I h;obtain⟨tl,N,nm,m,bs,g,sn,sub,ab,col,dd,u,n,t,k,i,mN,v,l,d,T⟩:=Zpd I.ok.mod.kin hx;refine wpAny_Raise_call_subT (C:=C) (nm:=nm) (q:=m) (N:=N) (bs:=bs) (bm:=tl) (hdct:=g) (sn:=sn) (sub:=sub) (ab:=ab) (col:=col) (dd:=dd) (k0:=u) (k1:=n) (k2:=t) (k3:=k) (k5:=i) PySem.F.excBase_ValueError (mN:=mN)
  (T.hasType PySem.F.excBase_ValueError.hasBase) (I.ok.hd hc) ?_ d (o9 I hg hm ⟨rfl,?_⟩ hd)
 ·rw[hs];show(false || (backTo cpos (starEach es X.env)).any (·.1))=false;rw[f];rfl
 ·have q:=p cpos a s σ H _ I h;rw[hs]at q ⊢;refine Calls.evalArgs_plain (gw q λus o ⟨vs,H1,I1,r,l1,hE1⟩=>⟨rfl,?_,I1.bk _ _ v,l.keeps I1.bk,T.keeps I1.bk,λh1 c b=>j a σ H1 o c _ h1 I1 b hE1⟩);rw[<- r.length];exact Nat.le_trans l1 ε
end
def Zgv(CX:ZR)(X:Cx)(E:L2.St->XK):Prop:=∀(a:At) (σ:L2.St) (H:Hp) (s:AK) (e:AJ) (s':AK),Inv X a σ H s->CX X.stack H s (E σ) e s'->X.xe e s'
section
variable {X:Cx}{CX:ZR}{k:Nat}{f C:AI}{fd:AL}{ps:AH}{sp:Sp}{qu:List V}{ds:AC}{E:L2.St->XK}{x m:Str}{p pos apos:Pos}{e o:AN}{es:AG}{ta:TE}{t:TA}
theorem Znq{a:At}{σ:L2.St}{H:Hp}{s:AK}{Q:VK}{us:AC}{vs:List V}(F:qy X.prog X.w X.K X.mg X.base CX k f fd ps sp)(hr:Room k X.A)(hb:Binds X.K fd ps ds)(hd:Vals qu ds)(hx:Zgv CX X E)
  (I:Inv X a σ H s) (r:Vals vs us) (h:sp (vs++qu) H Q (E σ)):wpAny ς X.A (call (.ref f) us) (EP X a σ Q) X.xe s:=by
 have b:Vals (vs++qu) (us++ds):=r.append hd;have hl:(us++ds).length=ps.length:=by rw[<- b.length];exact F.len _ _ _ _ h
 refine wpAny_call (codeAny_mono (F.run X.A X.stack s H ⟨us,[]⟩ (us++ds) (vs++qu) Q (E σ) hr I.env0 (hb s us I.xH hl) b h) λr c hq=>?_);cases r with
 | error e=>exact hx a σ H s e c I hq
 | ok fl=>
  cases fl with
  | ret u=>exact I.after hq
  | next=>exact False.elim hq
  | brk=>exact False.elim hq
  | cont=>exact False.elim hq
theorem Zkg(F:qy X.prog X.w X.K X.mg X.base CX k f fd ps sp)(hr:Room k X.A)(hg:Gl X x)(hm:X.mg x=↑f)(hk:W.keepIn X.K (.ref f)=true)(hb:Binds X.K fd ps ds)(hd:Vals qu ds)(hx:Zgv CX X E)
  (d:PA X (e::es) t) (b:(x == ("__debug__":Str))=false:=by decide) (i:starEach (e::es) X.env=(false,eval e X.env)::starEach es X.env:=by rfl) (c:(backTo pos dQ).any (·.1)=false:=by rfl):
  PE X (.Call (.Name x p) (e::es) [] pos) (Zcp sp qu E t):=by
 intro a s g H Q I h;refine wpAny_Call_Name_kw (o9 I hg hm ?_ b);refine W.callWith_K (h₀:=X.base) I.ok.mod.kin hk eQ i c;exact Znq F hr hb hd hx I1 r q
end
abbrev cxB(X:Cx)(pn:At)(xe:Ap):Cx:={ X with pn:=pn,xe:=xe }
abbrev cxH(X:Cx)(ea:AJ)(pn:At):Cx:={ X with A:=X.A.mark (some ea),calm:=false,pn:=pn,xe:=λ_ _=>False }
section
variable {X:Cx}{pins:At}{σ:L2.St}{H:Hp}{s:AK}
theorem Zrj(ok:X.Ok)(pn:At)(xe:Ap):(cxB X pn xe).Ok:=
 ⟨ok.mod,ok.kind,ok.glob,ok.blt,ok.above,ok.inj,ok.has,ok.cab,ok.hd,ok.frames,ok.stk,ok.exf,ok.bs,ok.bsz,ok.Zat,ok.Zed,ok.uR,ok.frf⟩
theorem Zri(ok:X.Ok)(a:AJ)(pn:At):(cxH X a pn).Ok:=
 ⟨ok.mod,ok.kind,ok.glob,ok.blt,ok.above,ok.inj,ok.has,ok.cab,λz=>(nomatch z),ok.frames,ok.stk,ok.exf,ok.bs,ok.bsz,ok.Zat,ok.Zed,ok.uR,ok.frf⟩
theorem Zqu(I:Inv X pins σ H s)(xe:Ap):Inv (cxB X (X.pn++pins) xe) [] σ H s:=
 ⟨Zrj I.ok _ _,I.os,I.bare,I.base,I.loc,I.cell,I.free,I.qg,λp hp=>I.pin p (by simpa using hp),I.hok,I.len⟩
theorem Pn{xe:Ap}{pl:At}(ok:X.Ok)(I:Inv (cxB X (X.pn++pins) xe) pl σ H s):Inv X pins σ H s:=
 ⟨ok,I.os,I.bare,I.base,I.loc,I.cell,I.free,I.qg,λp hp=>I.pin p (List.mem_append_left _ hp),I.hok,I.len⟩
theorem Zjb(I:Inv X pins σ H s)(a:AJ):Inv (cxH X a (X.pn++pins)) [] σ H s:=
 ⟨Zri I.ok _ _,I.os,I.bare,I.base,I.loc,I.cell,I.free,I.qg,λp hp=>I.pin p (by simpa using hp),I.hok,I.len⟩
theorem X3{a:AJ}{pl:At}(ok:X.Ok)(I:Inv (cxH X a (X.pn++pins)) pl σ H s):Inv X pins σ H s:=
 ⟨ok,I.os,I.bare,I.base,I.loc,I.cell,I.free,I.qg,λp hp=>I.pin p (List.mem_append_left _ hp),I.hok,I.len⟩
theorem Zr4{xe:Ap}{D:Ends}{f:Flow}(ok:X.Ok)(h:SP (cxB X (X.pn++pins) xe) [] D f s):SP X pins D f s:=by
 cases f with
 | next=>obtain⟨a,b,I,q⟩:=h;exact⟨a,b,Pn ok I,q⟩
 | brk=>obtain⟨a,b,I,q⟩:=h;exact⟨a,b,Pn ok I,q⟩
 | cont=>obtain⟨a,b,I,q⟩:=h;exact⟨a,b,Pn ok I,q⟩
 | ret u=>obtain⟨v,a,b,I,r,q⟩:=h;exact⟨v,a,b,Pn ok I,r,q⟩
theorem Zr3{c:AJ}{D:Ends}{f:Flow}(ok:X.Ok)(h:SP (cxH X c (X.pn++pins)) [] D f s):SP X pins D f s:=by
 cases f with
 | next=>obtain⟨a,b,I,q⟩:=h;exact⟨a,b,X3 ok I,q⟩
 | brk=>obtain⟨a,b,I,q⟩:=h;exact⟨a,b,X3 ok I,q⟩
 | cont=>obtain⟨a,b,I,q⟩:=h;exact⟨a,b,X3 ok I,q⟩
 | ret u=>obtain⟨v,a,b,I,r,q⟩:=h;exact⟨v,a,b,X3 ok I,r,q⟩
theorem flown{j:AI}{g a0:AJ}{B:Heap}{c:Hp}{a:AK}{f:Heap}(I:Inv X pins σ H s)(os:a.os=s.os)(bare:AllBare a.gens)(un:Un (frs X.stack) [] H c s.heap a.heap)(ok:ym X.prog X.w c a.heap)
  (fl:Heap.FlyingW B X.stack j g a0 a.heap) (k:∀b o,a.heap.get? b=some o->((∃v,s.heap.get? b=some v)\/∃v,c b=some v)->b∉frs X.stack->B.get? b=some o)
  (st:B.StaysIn f) (sm:a.heap.UpToSlots f):Inv X pins σ c { a with heap:=f }:=by
 have i:∀b∈frs X.stack,c b=none:=λb hb=>by
  obtain⟨_,o,h,_⟩:=I.stack.mem hb;exact un.free b o h (I.Xc b hb) ai
 have U:=W6 (P:=X.prog) (w:=X.w) (h2:=f) un ok i (λb o e hb hn=>st _ _ (k b o e hb hn)) λb o e hb=>by
  obtain⟨_,l,d,hd⟩:=fl.2.2.1.mem hb;rw[e]at d;cases d;exact sm b o e hd
 exact I.call' (s':={ a with heap:=f }) (ch:=[]) os U.1 U.2 bare (λb z=>nomatch z)
end
section
variable {X:Cx}{x:Str}{C:AI}{np pos hpos:Pos}{body suite:List Stmt}{b₀:Stmt}{Mt:AJ->Prop}{tb:(L2.St->XK)->TS}{th:TS}
theorem Zrc(i:X.stack=X.env::X.outer/\X.env.frame=some X.env.locals)(hg:Gl X x)(hm:X.mg x=↑C)(r:∀c,Mt c->W.exmOne X.K c (.ref C)=some true)
  (hb:∀(E:L2.St->XK) (pn:At) (xe:Ap),Zgv (RG X.prog X.w) (cxB X pn xe) E->ZP (cxB X pn xe) body (tb E))
  (hs:∀(g:AJ) (pn:At),ZP (cxH X g pn) (b₀::suite) th) (hd:(x == ("__debug__":Str))=false:=by decide):
  PS X (.Try body [.ExceptHandler (some (.Name x np)) none (b₀::suite) hpos] [] [] pos) (Zqw Mt tb th):=by
 intro a s j H D I h;refine wpAny_Try_except ?_;have hx:Zgv (RG X.prog X.w) (cxB X (X.pn++a) λe O=>∃ j H s,Inv X a j H s/\RG X.prog X.w X.stack H s (λb _ p=>Mt b/\th D j p) e O) (λt b _ p=>Mt b/\th D t p):=
  λY j H s e O J z=>⟨j,H,s,Pn I.ok J,z⟩
 refine wpAny_mono (hb _ _ _ hx [] s j H D (Zqu I _) h) (λf N q=>?_) λe N q=>?_
 ·have q:=Zr4 I.ok q;cases f with
  | next=>exact wpAny_execs_nil q
  | ret v=>exact q
  | brk=>exact q
  | cont=>exact q
 ·obtain⟨m,V,Z,J,g,b,a0,B,T,rfl,os,bare,un,ok,fl,Q,S,n⟩:=q;have k:=fl;rw[i.1]at k;refine wpAny_looks_onW (i.1 ▸ J.ok.frames) i.2 k λh4 F M=>?_;refine wpAny_landsW F λh5 d L=>?_;have l:N.heap.UpToSlots h5:=M.trans L;have P:=flown J os bare un ok fl Q d.1 l;refine wpAny_handleBy_cons (codeAny_handlers_test (o9 (X:=cxH X (.ref g) (X.pn++a)) (Zjb P (.ref g)) hg hm ?_ hd)) (by intro z;cases z);obtain⟨ob,o,A⟩:=d.there;have LT:W.Looks ς h5 (typeOf (.ref g)) b:=A ▸ (W.Looks.ld o).andThen .now;refine(W.exm_one P.xH LT (r b S)).here ?_;refine codeAny_handlers_suite ?_;refine lands_againW d λh6 y u=>?_;have R:=flown J os bare un ok fl Q y.1 (l.trans u);refine wpAny_mono (hs (.ref g) (X.pn++a) [] _ m T D (Zjb R (.ref g)) n) (λf U q=>Zr3 I.ok q) λ_ _ z=>z.elim
end
section
variable {P:AM}{w:AO}{K:aB}{mg:As}{base:Heap}{x qual:Str}{st:Stmt}{f:AI}{fd:AL}{N ps:AH}{k:Nat}{sp:Sp}
theorem fok(F:Fun K x qual st f fd)(S:aP N ps (aG st))(len:∀vs H Q E,sp vs H Q E->vs.length=ps.length)
  (b:∀(a:AJ) (A:Around) (outer:List Env) (s:AK) (H:Hp) (vs:List V) (Q:VK) (E:XK),Room k (A.deeper (envOfC qual (aG st) s.heap.objs.size f a))->sp vs H Q E->
   ∃t,ZP (HD (RG P w) P w K mg base N qual (aG st) f a A outer s H E).nox (gk st) t/\t { nx:=λ_ H'=>Q .non H',rt:=Q } (start N vs) H):qy P w K mg base (RG P w) dG f fd ps sp:=by
 obtain⟨oc,od,kV,e,pm,i,a,ct,g,rfl,lk,d⟩:=F.ex;refine Zma lk d S len λA outer s H vs Q E hr c=>?_;obtain⟨t,h,q⟩:=b a A outer s H vs Q E hr c;exact⟨t,h.nox,q⟩
theorem Zxm(F:Fun K x qual st f fd)(S:aP N ps (aG st))(len:∀vs H Q E,sp vs H Q E->vs.length=ps.length)
  (b:∀(a:AJ) (A:Around) (outer:List Env) (s:AK) (H:Hp) (vs:List V) (Q:VK) (E:XK),Room k (A.deeper (envOfC qual (aG st) s.heap.objs.size f a))->sp vs H Q E->
   ∃t,ZP (HD (RG P w) P w K mg base N qual (aG st) f a A outer s H E) (gk st) t/\t { nx:=λ_ H'=>Q .non H',rt:=Q } (start N vs) H):qy P w K mg base (RG P w) dG f fd ps sp:=by
 obtain⟨oc,od,kV,e,pm,h,a,ct,g,rfl,lk,d⟩:=F.ex;exact Zma lk d S len λA outer s H vs Q E hr c=>b a A outer s H vs Q E hr c
theorem Zvp(F:Zto K x qual st f fd)(S:aP N ps (aG st))(len:∀vs H Q E,sp vs H Q E->vs.length=ps.length)
  (b:∀(a:AJ) (A:Around) (outer:List Env) (s:AK) (H:Hp) (vs:List V) (Q:VK) (E:XK),Room k (A.deeper (envOfC qual (aG st) s.heap.objs.size f a))->sp vs H Q E->
   ∃t,ZP (HD (RG P w) P w K mg base N qual (aG st) f a A outer s H E) (gk st) t/\t { nx:=λ_ H'=>Q .non H',rt:=Q } (start N vs) H):qy P w K mg base (RG P w) dG f fd ps sp:=by
 obtain⟨oc,od,dV,kV,e,pm,h,a,ct,g,rfl,lk,d⟩:=F.ex;exact Zma lk d S len λA outer s H vs Q E hr c=>b a A outer s H vs Q E hr c
end
structure Zzp(K:aB)(C:AI):Prop where
 ga:W.findIn K (.ref C) "__getattribute__"=some (some (.builtin "BaseException.__getattribute__"))
 no:W.findIn K (.ref C) "__getattr__"=some none
 cl:W.findIn K (.ref C) "__class__"=some (some (.builtin "object.__class__"))
 so:W.mroIn K C (.type "object")=some true
 sb:W.mroIn K C (.type "BaseException")=some true
 is:W.hasDictIn K C=true
section
variable {prog:AM}{w:AO}{A:Around}{E:Ap}{h:Heap}{g:Array GenState}{d:Drawn}{t:Nat}{os:OsState}{a:AI}{o:Obj}{C:AI}{K:aB}
end
section
variable {X:Cx}
theorem boot_sum:bootBuiltins "sum"=some (.builtin "sum"):=γ
theorem ints_of:∀{ns:AE}{us:AC},Vals df us->IntsAre us ns
 | [],_,.nil=>.nil
 | n::ns,_,.cons r t=>by
  obtain⟨tk,rfl⟩:=(show ∃t,_=Value.int n t from r);exact .cons n tk (ints_of (ns:=ns) t)
theorem Zmy(hc:X.calm=true):yq X (.builtin "sum") (Ztd X.K):=by
 intro c s k H m us Q I r h;obtain⟨p,ns,rfl,hs,q⟩:=h;obtain⟨u,rfl,f⟩:=Vals.one r;obtain rfl:u=Value.ref p:=f;obtain⟨a,e,i,hz⟩:=I.list hs;have hi:=ints_of e;obtain⟨g,b⟩:=hi.allInts.items;have d:ns=g.toList.map (·.1):=by
  rw[<- nums_intItems,<- b];exact(show numsOf a.toArray.toList=ns from hi.numsOf).symm
 refine sum_intListG (I.ok.hd hc) (b ▸ i.isList) λj tk l hk=>?_;rw[preSum_eq,List.take_of_length_le ζ,<- d];exact⟨.int ns.sum,H,I.kept hk,⟨_,rfl⟩,q⟩
theorem uW:yq X (.type "list") (Bh X.K):=by
 intro a s c H d us Q I r h;obtain⟨p,b,rfl,hs,q⟩:=h;exact Gn a s c H [.ref p] us Q I r ⟨p,b,rfl,.inl hs,q⟩
theorem Zio{xs c:List V}{us f:AC}(g:Vals xs us)(k:Vals c f)(q:xs.all lq=true)(r:c.all lq=true)(hl:xs.length=c.length):
  (∀(A:Around) (s:AK) (j:Nat) (h1:j<us.toArray.size) (h2:j<f.toArray.size),SeqAt.EqAt A s us.toArray[j] f.toArray[j] (match xs[j]?,c[j]? with | some a,some b=>Wz a b | _,_=>false))/\
  (List.range us.toArray.size).all (λj=>match xs[j]?,c[j]? with | some a,some b=>Wz a b | _,_=>false)=eqL xs c:=by
 refine⟨λA s j h1 h2=>?_,?_⟩
 ·rw[List.size_toArray]at h1 h2;have x:=g.length;have w:=k.length;have m:xs[j]? =some xs[j]:=bK δ;have l:c[j]? =some c[j]:=bK δ;obtain⟨u,n,t⟩:=g.get m;obtain⟨v,i,o⟩:=k.get l;rw[bK h1]at n;rw[bK h2]at i;cases n;cases i;rw[m,l];exact uU t o (List.all_eq_true.mp q _ (List.getElem_mem δ)) (List.all_eq_true.mp r _ (List.getElem_mem δ))
 ·rw[List.size_toArray,<- g.length];unfold eqL;rw[beq_iff_eq.mpr hl,Bool.true_and,Bool.eq_iff_iff,List.all_eq_true,List.all_eq_true];constructor
  ·intro h p hp;obtain⟨j,d,e⟩:=List.getElem_of_mem hp;rw[List.length_zip]at d;have:=h j (List.mem_range.mpr δ);rw[bK (show j<xs.length by omega),bK (show j<c.length by omega)]at this;rw[List.getElem_zip]at e;rw[<- e];exact this
  ·intro h j d;have d:=List.mem_range.mp d;rw[bK (show j<xs.length by omega),bK (show j<c.length by omega)];have hz:j<(xs.zip c).length:=by rw[List.length_zip];omega
   have:=h _ (List.getElem_mem hz);rw[List.getElem_zip]at this;exact this
theorem Zpg{xs a:List V}(h:xs.length≠a.length):eqL xs a=false:=by
 unfold eqL;rw[show(xs.length == a.length)=false by simpa using h,Bool.false_and]
end
theorem Zky:fastBuiltinMro "NoneType"=some [.type "NoneType",.type "object"]:=γ
section
variable {K:aB}{A:Around}{a C:AI}{o:Obj}
theorem Zt5{M:Model}{E:Ap}{s:AK}{Q:Unit->AK->Prop}(e:W.Looks M s.heap (isInstance (.ref a) (.type "object")) true)(hq:Q () s):wpAny M A (checkBuiltinCall "object.__eq__" ⟨[.ref a,.none],[]⟩) Q E s:=by
 have d:=PySem.F.cmpArgs_eq (.ref a) .none;simp only[checkBuiltinCall,PySem.F.cmpKind_eq,PySem.F.cmpSplit_eq];refine wpAny_bind (e.here ?_);simp only[Bool.not_true,Bool.false_eq_true,if_false];cases b:Manifest.signature? "object.__eq__" with
 | none=>exact wpAny_pure hq
 | some c=>
  simp only[argsOk,b]at d;have h2:Bind.checkArgs "object.__eq__" c ⟨[.ref a,.none],[]⟩=pure ():=d;show wpAny M A (Bind.checkArgs "object.__eq__" c ⟨[.ref a,.none],[]⟩) Q E _;rw[h2];exact wpAny_pure hq
theorem Zpf{prog:AM}{w:AO}{E:Ap}{s:AK}{Q:Ap}(b:W.Looks ad s.heap (isInstance (.ref a) (.type "object")) true)(hq:Q .notImplemented s):
  wpAny ad A (call (.builtin "object.__eq__") [.ref a,.none]) Q E s:=by
 refine wpAny_call (codeAny_call_builtin PySem.F.cmp_object.eq.plain PySem.F.cmpEntry_eq (Zt5 b ?_));obtain⟨h,g,d,t,os⟩:=s;unfold Builtin.«object.__eq__»
 repeat (first | with_reducible refine wpAny_bind (m:=isSame (.ref a) .none) (wpAny_pure ?_) | wp_step)
 exact hq
theorem Zqs{prog:AM}{w:AO}{E:Ap}{s:AK}{Q:AB->AK->Prop}(X:K.In s.heap)(hx:s.heap.get? a=some o)(hc:o.cls=.ref C)(b:EqD K C)(hq:Q none s):
  wpAny ad A (tryCompare (.ref a) "__eq__" .none) Q E s:=by
 have LT:W.Looks ad s.heap (typeOf (.ref a)) (.ref C):=hc ▸ (W.Looks.ld hx).andThen .now;have c:W.Looks ad s.heap (isInstance (.ref a) (.type "object")) true:=LT.andThen (W.looks_mroIn X b.ob);have e:W.Looks ad s.heap (specialOf (.ref a) "__eq__") (some (.builtin "object.__eq__")):=LT.andThen (W.looks_findIn X b.eq);simp only[tryCompare];refine wpAny_bind ?_;simp only[callSpecialIfBound?,bindSpecialIfBound?];refine wpAny_holding (wpAny_bind (wpAny_bind (e.here ?_)));simp only[PySem.F.cmp_object.eq.bind];have fin:wpAny ad A (call (.builtin "object.__eq__") ([.ref a]++[.none]) >>= λv=>pure eW) (λr d=>wpAny ad A (match r with | some .notImplemented | none=>pure none | some v=>pure eW) Q E d) E s:=
  wpAny_bind (Zpf c (wpAny_pure (wpAny_pure hq)))
 refine wpAny_bind (wpAny_askSetting (wpAny_ite ?_));split
 ·exact wpAny_bind (wpAny_pure (wpAny_pure fin))
 ·exact wpAny_tryCatch (wpAny_bind (wpAny_pure (wpAny_pure fin)))
theorem Znr{s:AK}(X:K.In s.heap)(hx:s.heap.get? a=some o)(hc:o.cls=.ref C)(c:EqD K C)(hu:A.units<cLine):SeqAt.RcAt A s (.ref a) .none false:=λprog w E Q h=>by
 have LT:W.Looks ad s.heap (typeOf (.ref a)) (.ref C):=hc ▸ (W.Looks.ld hx).andThen .now;have hi:cmpInfo CmpOp.Eq=("==",("__eq__":Str),("__eq__":Str)):=rfl;have d:oneThing? .Eq (.ref a) .none=none:=rfl;simp only[richCompare,hi,d]
 try with_reducible refine wpAny_holding ?_
 refine wpAny_bind (wpAny_cRoomFor_or (.inr hu) ?_);refine wpAny_bind (LT.here (wpAny_bind (m:=typeOf .none) (wpAny_pure ?_)));have b:(Value.ref C != Value.type "NoneType")=true:=ζ
 simp only[b,if_true];have hs:isSubtype (.type "NoneType") (.ref C)=pure false:=by
  rw[isSubtype_type,Zky];rfl
 refine wpAny_bind (wpAny_of_eq hs ?_);simp only[Bool.false_eq_true,if_false,Bool.not_false,if_true];refine wpAny_bind (m:=tryCompare (.ref a) _ .none) (Zqs X hx hc c ?_);refine wpAny_bind (m:=tryCompare .none _ (.ref a)) (wpAny_tryCompare_declines (T:="NoneType") rfl PySem.F.slot_NoneType_eq_refl (call_gives PySem.F.slot_NoneType_eq_refl rfl PySem.F.entry_NoneType_eq (PySem.F.args_NoneType_eq_2 _ _) (SeqAt.NoneType___eq___none_ref_0 a) ⟨rfl,?_⟩));exact wpAny_bind (wpAny_rule (wpAny_bind (wpAny_of_eq (rfl:isSame (.ref a) .none=pure false) (wpAny_pure h))))
theorem Zpe{s:AK}(X:K.In s.heap)(hx:s.heap.get? a=some o)(hc:o.cls=.ref C)(c:EqD K C)(hu:A.units<cLine):SeqAt.EqAt A s (.ref a) .none false:=λprog w E Q h=>by
 unfold eqBool;refine wpAny_holding ?_;refine wpAny_ite_split (λb=>absurd (eq_of_beq b) nofun) a4;exact wpAny_bind (Znr X hx hc c hu prog w E _ (wpAny_truthy_bool h))
end
section
variable {X:Cx}
def wZ(u:AJ):Bool:=match u with
 | .none=>true
 | _=>false
theorem Zas{H:Hp}{y:V}{u:AJ}(r:RelV y u)(h:y=.non\/∃a C dx fs,y=.ref a/\H a=some (.ins C dx fs)/\MP X.K C/\EqD X.K C):wZ u=decide (y=.non):=by
 rcases h with rfl | ⟨a,_,_,_,rfl,_⟩
 ·obtain rfl:u=Value.none:=r;rfl
 ·obtain rfl:u=Value.ref a:=r;rfl
theorem Zl1{b:At}{σ:L2.St}{H:Hp}{s:AK}{A:Around}{y:V}{u:AJ}(I:Inv X b σ H s)(hu:A.units<cLine)(r:RelV y u)(h:y=.non\/∃a C dx fs,y=.ref a/\H a=some (.ins C dx fs)/\MP X.K C/\EqD X.K C):SeqAt.EqAt A s u .none (wZ u):=by
 rcases h with rfl | ⟨a,C,dx,fs,rfl,c,hc,d⟩
 ·obtain rfl:u=Value.none:=r;exact SeqAt.EqAt.same .none
 ·obtain rfl:u=Value.ref a:=r;obtain⟨_,_,_,e,_⟩:=(show gH X.prog X.w H s.heap a (.ins C dx fs)from I.hok a _ c);exact Zpe I.xH e rfl d hu
theorem Zl0{H:Hp}{xs:List V}{us:AC}(v:Vals xs us):OkN X.K H xs->us.any wZ=decide (V.non∈xs):=by
 induction v with
 | nil=>
  intro _;rfl
 | cons r t a=>
  intro h;rw[List.any_cons,a λz hz=>h z (List.mem_cons_of_mem _ hz),Zas r (h _ List.mem_cons_self),Bool.eq_iff_iff];simp only[Bool.or_eq_true,decide_eq_true_eq,List.mem_cons];constructor
  ·rintro(z | z)
   ·exact .inl z.symm
   ·exact .inr z
  ·rintro(z | z)
   ·exact .inl z.symm
   ·exact .inr z
theorem Zaq{H:Hp}{a:At}{σ:L2.St}{s:AK}{A:Around}{xs:List V}{us:AC}(I:Inv X a σ H s)(hu:A.units<cLine)(r:Vals xs us)(h:OkN X.K H xs):∀u∈us,SeqAt.EqAt A s u .none (wZ u):=by
 intro u hm;obtain⟨i,hi,rfl⟩:=List.getElem_of_mem hm;have hl:=r.length;have hx:xs[i]? =some xs[i]:=bK δ;obtain⟨c,e,b⟩:=r.get hx;rw[bK hi]at e;cases e;exact Zl1 I hu b (h _ (List.getElem_mem δ))
theorem Zhj(hu:X.A.units+1<cLine):uz X (compareOp .NotIn) (Zra X.K true):=by
 intro a s f H x y v u Q I d c h;obtain⟨p,g,rfl,rfl,hs,hk,q⟩:=h;obtain rfl:v=Value.none:=d;cases c;obtain⟨us,r,e,_⟩:=I.list hs;refine SeqAt.notIn_listAt wZ e.isList (λw b=>Zaq I (by show X.A.units+1<cLine;exact hu) r hk w (by simpa using b)) ⟨.bl _,H,I,rfl,?_⟩;rw[show us.toArray.any wZ=us.any wZ by simp,Zl0 r hk];exact q
theorem Zar{H:Hp}{xs:List V}{us:AC}(r:Vals xs us)(h:OkN X.K H xs)(j:Nat)(c:j<us.length)(a:j<xs.length):wZ us[j]=decide (xs[j]=V.non):=by
 obtain⟨d,e,b⟩:=r.get (bK a);rw[bK c]at e;cases e;exact Zas b (h _ (List.getElem_mem a))
theorem Zhp(hu:X.A.units+1<cLine):MtR X "list.index" (Zfq X.K):=by
 intro k s B H x xs v us Q I t rs h;obtain⟨p,a,rfl,rfl,hs,hk,hn,q⟩:=h;obtain rfl:v=Value.ref p:=t;obtain⟨u,rfl,m⟩:=Vals.one rs;obtain rfl:u=Value.none:=m;obtain⟨c,r,w,hz⟩:=I.list hs;obtain⟨⟨o,z,i,sl⟩,g,hc,n,hd⟩:=w.isList;simp only at hc hd;subst hc hd;have hl:=r.length;have d:a.idxOf V.non<a.length:=List.idxOf_lt_length_iff.mpr hn;have l:a.length<2 ^ 62:=Nat.lt_of_le_of_lt hz ε;refine call_meets PySem.F.slot_list_index ⟨_,g,rfl⟩ PySem.F.entry_list_index (PySem.F.args_list_index_2 _ _)
  (SeqAt.list_indexAt p c.toArray n z sl .none wZ (a.idxOf V.non) (by simpa[hl]using d) δ ?_ ?_) ⟨g,λy hy=>Zaq I (by show X.A.units+1<cLine;exact hu) r hk y (by simpa using hy),⟨.int _,H,I.tok _,⟨_,rfl⟩,q⟩⟩
 ·show wZ c[a.idxOf V.non]=true;rw[Zar r hk _ δ d,decide_eq_true_eq];exact List.getElem_idxOf d
 ·intro j f b;show wZ c[j]=false;rw[Zar r hk j (by simpa using f) δ,decide_eq_false_iff_not];intro e;have:=List.not_of_lt_findIdx (p:=(· == V.non)) (xs:=a) b;simp[e]at this
theorem Zkr(hu:X.A.units+1<cLine):uz X (compareOp .NotEq) (Zk1 X.K true):=by
 intro g s z H x y v u Q I n l h;obtain⟨p,t,m,i,rfl,rfl,hx,hy,f,q⟩:=h;cases n;cases l;obtain⟨us,e,c,_⟩:=I.list hx;obtain⟨r,d,b,_⟩:=I.list hy;have a:X.A.units<cLine:=δ
 by_cases hl:m.length=i.length
 ·obtain⟨o,k⟩:=Zio e d (f hl).1 (f hl).2 hl;refine SeqAt.RcNeAt.lists c.isList b.isList (by rw[List.size_toArray,List.size_toArray,<- e.length,<- d.length];exact hl) a (λj h1 h2=>o _ _ j h1 h2) X.prog X.w X.xe _ ?_;rw[k];exact⟨.bl _,H,I,rfl,q⟩
 ·refine SeqAt.RcNeAt.lists_lengths c.isList b.isList ?_ a X.prog X.w X.xe _ ?_
  ·rw[List.size_toArray,List.size_toArray,<- e.length,<- d.length];simpa using hl
  ·refine⟨.bl _,H,I,rfl,?_⟩;have:=q;rw[Zpg hl]at this;exact this
end
end G
namespace G
open PySem L2
def Vp:R2:=λx y H Q=>∃b,y=.bl b/\Q (.bl (!decide (x=.bl b))) H
theorem Zsd{x:V}{b:Bool}{H:Hp}{Q:VK}(h:Q (.bl (!decide (x=.bl b))) H):Vp x (.bl b) H Q:=⟨b,rfl,h⟩
def GD(C:AI):TE:=λ_ H Q=>∀x dx,H x=none->H dx=none->dx≠x->Q (.ref x) fo
theorem Zou{C:AI}{σ:St}{H:Hp}{Q:VK}(h:∀x dx,H x=none->H dx=none->dx≠x->Q (.ref x) fo):GD C σ H Q:=h
def Gz(t u:TE):TE:=λσ H Q=>t σ H Q\/u σ H Q
theorem V9{t u:TE}{σ:St}{H:Hp}{Q:VK}(h:t σ H Q):Gz t u σ H Q:=.inl h
theorem Fv{t u:TE}{σ:St}{H:Hp}{Q:VK}(h:u σ H Q):Gz t u σ H Q:=.inr h
end G
namespace G
open PySem L2 PySem.Spec PyProof.Rows
section
variable {X:Cx}
theorem Zfu:uz X (compareOp .IsNot) Vp:=by
 intro e s g H x y v u Q I d f h;obtain⟨b,rfl,q⟩:=h;cases f;cases x with
 | bl c=>
  cases d;refine wpAny_isNot_plain rfl (cV I q ?_);cases b<;>cases c<;>rfl
 | non=>cases d;exact wpAny_isNot_plain rfl (cV I q rfl)
 | ref a=>cases d;exact wpAny_isNot_plain rfl (cV I q rfl)
 | ty a=>cases d;exact wpAny_isNot_plain rfl (cV I q rfl)
 | _=>obtain⟨t,rfl⟩:=d;exact wpAny_isNot_plain rfl (cV I q rfl)
theorem qO{e:AN}{t u:TE}(h1:PE X e t)(h2:PE X e u):PE X e (Gz t u):=by
 intro a s b H Q I h;rcases h with h | h
 ·exact h1 a s b H Q I h
 ·exact h2 a s b H Q I h
structure Mk0(K:aB)(C:AI):Prop where
 makes:W.makesIn K C=true
 init:W.findIn K (.ref C) "__init__"=some eI
 kp:W.keepIn K (.ref C)=true
theorem Zd3{C:AI}{a:At}{σ:L2.St}{H:Hp}{s:AK}{Q:VK}(M:Mk0 X.K C)(I:Inv X a σ H s)
  (h:∀x dx,H x=none->H dx=none->dx≠x->Q (.ref x) fo):wpAny ς X.A (call (.ref C) []) (EP X a σ Q) X.xe s:=by
 have hq:=h ah s.heap.objs.size (I.hok.fresh (Nat.le_succ _)) (I.hok.fresh Δ) (Nat.ne_of_lt (Nat.lt_succ_self _));have d:=Inv.made (C:=C) I;have Y:=W.makes_of (M:=model X.prog X.w) I.xH M.makes;refine wpAny_call (Zhs I.xH M.makes M.init (λself=>W.Looks.of_pure (W.oi_bind self)) ?_);have c:((s.heap.push W.emptyDict).push cm).get? (s.heap.objs.size+1)=some cm:=by
  have:=Heap.get?_push_size (s.heap.push W.emptyDict) (o:=W.instObj C s.heap.objs.size) rfl;rw[Heap.size_push]at this;exact this
 have t1:W.Looks ς ((s.heap.push W.emptyDict).push cm) (typeOf (.ref ah)) (.ref C):=(W.Looks.ld c).andThen .now;have t2:W.Looks ς ((s.heap.push W.emptyDict).push cm) (isInstance (.ref ah) (.type "object")) true:=t1.andThen (Y.top.keeps λb o e=>Heap.get?_push_of_some _ (Heap.get?_push_of_some _ e));refine codeAny_call_builtin W.oi_plain W.entry_oi (@W.check_slot ς _ _ _ "object.__init__" "object" "__init__" (.ref ah) [] [] _ W.oi_kind W.oi_split t2 (W.oi_args (.ref ah)) ?_);rw[W.oi_run];exact wpAny_pure (And.intro rfl ⟨V.ref ah,_,d,rfl,hq⟩)
theorem G3{C:AI}{x:Str}{p b:Pos}(M:Mk0 X.K C)(hg:Gl X x)(hm:X.mg x=↑C)(a:(x == ("__debug__":Str))=false:=by decide):PE X (.Call (.Name x p) [] [] b) (GD C):=by
 intro c s d H Q I h;refine wpAny_Call_Name_kw (o9 I hg hm ?_ a);exact W.callWith_K0 I.xH M.kp (Zd3 M I h)
structure Zzo(K:aB)(C:AI):Prop where
 pg:W.plainGet K C "__class__"=true
 hd:W.hasDictIn K C=true
 cl:W.findIn K (.ref C) "__class__"=some (some (.builtin "object.__class__"))
 sp:W.specialIn K (.builtin "object.__class__") "__get__"=some (some (.builtin "getset_descriptor.__get__"))
 tk:W.takesIn K (.builtin "object.__class__")=some true
 so:W.mroIn K C (.type "object")=some true
end
end G
namespace G
open PySem L2
end G
namespace G
open PySem L2 PySem.Spec PyProof.Rows
def Zcb(w:AO):List DictEntry->List (Str×AI)->Prop
 | [],[]=>True
 | e::a,p::t=>e.hash=hashStr w p.1/\(∃tk,e.key=.str p.1 tk)/\e.val=.ref p.2/\Zcb w a t
 | _,_=>False
def Tab(K:aB)(w:AO)(mg:As)(nm:Str)(M7:List (Str×AI)):Prop:=
 ∃dd o a b,mg nm=↑dd/\K.lookup dd=some o/\o.ExactDict/\o.data=.dict a b/\Zcb w a.toList M7
theorem Zcb.keys{prog:AM}{w:AO}:∀{a:List DictEntry}{M7:List (Str×AI)},Zcb w a M7->∀e∈a,∃k,(strKind prog w).is k e.key=true/\e.hash=(strKind prog w).hash k
 | [],_,_=>λe b=>absurd b List.not_mem_nil
 | e::a,[],h=>h.elim
 | e::a,p::t,h=>λx hx=>by
  obtain⟨h1,⟨tk,h2⟩,_,h4⟩:=h;rcases List.mem_cons.mp hx with rfl | hx
  ·refine⟨p.1,?_,h1⟩;rw[h2];show Value.isStrOf p.1 (.str p.1 tk)=true;simp[Value.isStrOf]
  ·exact Zcb.keys h4 x hx
theorem Zcb.find{w:AO}:∀{d:List DictEntry}{M7:List (Str×AI)}{k:Str}{f:AI},Zcb w d M7->M7.lookup k=some f->(d.find? λe=>Value.isStrOf k e.key).map (·.val)=↑f
 | [],[],_,_,_,h=>by cases h
 | [],_::_,_,_,h,_=>h.elim
 | _::_,[],_,_,h,_=>h.elim
 | e::d,p::t,k,f,h,hl=>by
  obtain⟨_,⟨tk,h2⟩,i,h4⟩:=h;rw[List.find?_cons,h2]
  by_cases hk:k=p.1
  ·subst hk;have g:Value.isStrOf p.1 (.str p.1 tk)=true:=by simp[Value.isStrOf]
   rw[g];have c:List.lookup p.1 (p::t)=some p.2:=by
    obtain⟨a,b⟩:=p;simp[List.lookup]
   rw[c]at hl;cases hl;show some e.val=_;rw[i]
  ·have g:Value.isStrOf k (.str p.1 tk)=false:=by
    simp only[Value.isStrOf,beq_eq_false_iff_ne,ne_eq];exact λz=>hk z.symm
   rw[g];have c:List.lookup k (p::t)=List.lookup k t:=by
    obtain⟨a,b⟩:=p;simp only[List.lookup];rw[beq_eq_false_iff_ne.mpr hk]
   rw[c]at hl;exact Zcb.find h4 hl
def Znj(M7:List (Str×AI))(b:TE):TE:=λσ H Q=>b σ H λy a=>∃k f,y=.str k/\M7.lookup k=some f/\Q (.ref f) a
theorem Zuu{M7:List (Str×AI)}{a:TE}{σ:L2.St}{H:Hp}{Q:VK}(h:a σ H λy b=>∃k f,y=.str k/\M7.lookup k=some f/\Q (.ref f) b):Znj M7 a σ H Q:=h
theorem Zka{X:Cx}{nm:Str}{M7:List (Str×AI)}{i:AN}{n:TE}{p b:Pos}(T:Tab X.K X.w X.mg nm M7)(hg:Gl X nm)(hi:PE X i n)(hs:Zps i)(hd:(nm == ("__debug__":Str))=false:=by decide):
  PE X (.Subscript (.Name nm p) i b) (Znj M7 n):=by
 intro a s t H Q I h;obtain⟨u,o,c,q,hm,hk,g,d,j⟩:=T;refine Zfg PySem.F.slot_dict_getitem.lookup hs (o9 I hg hm ?_ hd);refine gw (hi a s t H _ I h) λr A qc=>?_;obtain⟨y,H2,I2,ry,k,f,ey,l,q2⟩:=qc;subst ey;have m:=I2.xH u o hk;refine⟨⟨o,m,g.1⟩,?_⟩;obtain⟨tk,rfl⟩:∃tk,r=.str k tk:=ry;refine wpAny_getItem_of (knd:=strKind X.prog X.w) (k:=k) (f:=λk=>findBy Value.isStrOf c k) (by show Value.isStrOf k (.str k tk)=true;simp[Value.isStrOf]) ⟨o,c,q,m,g,d,λe z=>j.keys e (by simpa using z),λ_=>rfl⟩ (v:=.ref f) ?_ ⟨.ref f,H2,I2.tok _,rfl,q2⟩;show Option.map (λx=>x.val) (Array.find? (λe=>Value.isStrOf k e.key) c)=_;rw[<- Array.find?_toList];exact j.find l
def RD(P:AM)(w:AO)(K:aB)(mg:As)(base:Heap)(CX:ZR)(k:Nat)(ps:AH)(L:List (AI×Sp)):Prop:=
 ∀f sp,(f,sp)∈L->∃a fd,a<=k/\qy P w K mg base CX a f fd ps sp/\W.keepIn K (.ref f)=true/\L2.Binds K fd ps []
theorem RD.nil{P:AM}{w:AO}{K:aB}{mg:As}{base:Heap}{CX:ZR}{k:Nat}{ps:AH}:RD P w K mg base CX k ps []:=λ_ _ h=>absurd h List.not_mem_nil
theorem RD.cons{P:AM}{w:AO}{K:aB}{mg:As}{base:Heap}{CX:ZR}{k b:Nat}{ps:AH}{L:List (AI×Sp)}{f:AI}{fd:AL}{sp:Sp}(hk:b<=k)(F:qy P w K mg base CX b f fd ps sp)(hb:L2.Binds K fd ps [])(hp:W.keepIn K (.ref f)=true)(t:RD P w K mg base CX k ps L):RD P w K mg base CX k ps ((f,sp)::L):=λg a h=>by
 rcases List.mem_cons.mp h with e | h
 ·cases e;exact⟨b,fd,hk,F,hp,hb⟩
 ·exact t g a h
def Xa(i:Nat)(L:List (AI×Sp))(E:XK)(t:TA):TE:=λσ H Q=>∃f sp,σ[i]? =some (↑f)/\(f,sp)∈L/\t σ H λvs a=>sp vs a Q E
theorem ju{i:Nat}{L:List (AI×Sp)}{E:XK}{t:TA}{σ:L2.St}{H:Hp}{Q:VK}{f:AI}(sp:Sp)(a:σ[i]? =some (↑f))(hm:(f,sp)∈L)(h:t σ H λvs b=>sp vs b Q E):Xa i L E t σ H Q:=⟨f,sp,a,hm,h⟩
theorem Zab{X:Cx}{CX:ZR}{k i:Nat}{ps:AH}{L:List (AI×Sp)}{x:Str}{E:XK}{e:AN}{c:AG}{t:TA}{p b:Pos}(F:RD X.prog X.w X.K X.mg X.base CX k ps L)(hr:Room k X.A)(m:X.N[i]? =some x)(hv:Vis X.env.scope x)(hx:Passes CX X E)
  (o:PA X (e::c) t) (hd:(x == ("__debug__":Str))=false:=by decide) (g:(x == ("__classdict__":Str))=false:=by decide) (z:starEach (e::c) X.env=(false,eval e X.env)::starEach c X.env:=by rfl) (d:(backTo b (starEach c X.env)).any (·.1)=false:=by rfl):
  PE X (.Call (.Name x p) (e::c) [] b) (Xa i L E t):=by
 intro a s j H Q I h;obtain⟨f,sp,y,hm,h⟩:=h;obtain⟨D,fd,hk,q,hp,hb⟩:=F f sp hm;refine wpAny_Call_Name_kw (gw (Zk9 m hv hd g a s j H (λv l=>v=.ref f/\l=H) I ⟨_,y,rfl,rfl⟩) λu n qc=>?_);obtain⟨v,H1,I1,r,e1,e2⟩:=qc;subst e1 e2;obtain rfl:u=Value.ref f:=r;refine W.callWith_K (h₀:=X.base) I1.ok.mod.kin hp (gw (o b a n j H1 _ I1 h) λus B ⟨C,H2,I2,r2,q2⟩=>⟨I2.xH,?_⟩) z d;refine Xo (qu:=[]) q (hr.mono hk) hb .nil hx I2 r2 ?_;rw[List.append_nil];exact q2
section
variable {σ:L2.St}{H:Hp}{Q:VK}{td ty tv:TE}{n bk ct:L2.St->Hp->Prop}{r:VK}
theorem Zsr(h:td σ H λx c=>ty σ c λy b=>∃a v,x=.ref a/\yo b a y eW/\Q v b):IK td ty σ H Q:=h
theorem Zlv(h:ty σ H λy c=>td σ c λx b=>∃a o,x=.ref a/\yo b a y o/\Q (.bl (!o.isSome)) b):BP ty td σ H Q:=h
theorem Zsp(h:tv σ H λv d=>td σ d λx c=>ty σ c λy e=>∃a b,x=.ref a/\Uk e a y v b/\n σ b):Ju td ty tv ⟨n,r,bk,ct⟩ σ H:=h
theorem Zmu{a:AI}{b:List (L2.Key×V)}{z:Str}(e:H a=some (.dK b)):yo H a (.str z) (jA b (Sum.inr z)):=yo.k (k:=Sum.inr z) e
theorem Zvt{a:AI}{b:List (L2.Key×V)}{z:Str}{v:V}(e:H a=some (.dK b))(hl:b.length<sizeLine):Uk H a (.str z) v (upd H a (.dK (putK b (Sum.inr z) v))):=Uk.k (k:=Sum.inr z) e hl
end
def Zpt(K:aB)(J:It)(b:List Nat)(tc:TT)(f:TE)(σ:L2.St)(g:Hp)(Q:VK):Prop:=∃W:Nat->Nat->List V->Hp->Prop,(∃m,W 0 m [] g)/\∀i m c H,W i m c H->
 (J.stop i H/\∀p,H p=none->Q (.ref p) (upd H p (.lst c)))\/
 (J.go i H/\c.length<sizeLine/\∀x H',J.yld i H x H'->∃a u v,x=.ref a/\dB K H' a [u,v]/\tc (some u::some v::b.map a3) H' λk e=>if k=true then f (some u::some v::b.map a3) e (λy h=>∃d,d<m/\W de d (c++[y]) h)else ∃d,d<m/\W de d c e)
def Zjg(K:aB)(d:TI)(a:List Nat)(tc:TT)(b:TE):TE:=λσ H Q=>d σ H λJ c=>Zpt K J a tc b σ c Q
theorem Zsi{K:aB}{c:TI}{a:List Nat}{tc:TT}{b:TE}{σ:L2.St}{H:Hp}{Q:VK}(h:c σ H λJ d=>Zpt K J a tc b σ d Q):Zjg K c a tc b σ H Q:=h
def Zw9(K:aB)(b:TE):TE:=λσ H Q=>∃a u v r,σ=↑a::r/\dB K H a [u,v]/\b (some u::some v::r) H Q
theorem Zfz{K:aB}{J:It}{b:List Nat}{c:TE}{σ:L2.St}{H:Hp}{Q:VK}(h:LCg J b pI (Zw9 K c) σ H Q):Zpt K J b pI c σ H Q:=by
 obtain⟨W,w0,step⟩:=h;refine⟨W,w0,λi m d H f=>?_⟩;rcases step i m d H f with z | ⟨g,l,st⟩
 ·exact .inl z
 ·refine .inr ⟨g,l,λx j y=>?_⟩;have h1:=st x j y;simp only[pI,↓reduceIte]at h1;obtain⟨a,u,v,r,e,hs,q⟩:=h1;cases e;refine⟨a,u,v,rfl,hs,?_⟩;simp only[pI,↓reduceIte];exact q
theorem Zda{X:Cx}{o iter:AN}{x y:Str}{F D pt r:Pos}{I:Nat}{k:AG}{a:Scope}{cl:List (Str×AI)}{B:TI}{tc:TT}{A:TE}{cns:AH}(b:List Nat)
  (hi:PI X (.Tuple [.Name x F,.Name y D] I pt) iter B)
  (S:∀C s H ex pn,PF (HF X a cl (x::y::cns) C s H ex pn) k tc) (U:∀C s H ex pn,PE (HF X a cl (x::y::cns) C s H ex pn) o A) (hc:X.calm=true)
  (f:closureFor a X.env=pure cl) (w:AllIn X.env.cells cl) (q:vY X cns b)
  (e:a.kind=.function) (j:(a.names.all λp=>p.2 != .cell)=true) (d:(a.names.all λp=>p.2 != .free || (cl.lookup p.1).isSome)=true)
  (t:(cns.all λy=>a.names.lookup y == some .free)=true) (c:∀y∈a.names,y.2=.local->a.names.lookup y.1=some .local) (hx:a.names.lookup x=some .local) (hy:a.names.lookup y=some .local) (n:(x::y::cns).Nodup)
  (hs:∀v,foldedSetIterable iter X.env v=pure v:=by intro _;rfl):
  PE X (.ListComp o [⟨.Tuple [.Name x F,.Name y D] I pt,iter,k,0⟩] a r) (Zjg X.K B b tc A):=by
 refine Zkd (ns:=[x,y]) (gt:=Zij X.K 2 (xN (aL 0) (xN (aL 1) Zik))) b (λJ Y H Q h=>?_) hi (λC s H ex pn=>Oo hc (jZ (cZ n rfl (.inl (lookup_relabel_local hx)) (.inr (lookup_relabel_local hx))) (jZ (cZ n rfl (.inl (lookup_relabel_local hy)) (.inr (lookup_relabel_local hy))) DK))) S U hc f w q e j d t c hs;obtain⟨W,w0,turn⟩:=h;refine⟨W,w0,λi m M H O=>(turn i m M H O).imp id λ⟨g,l,st⟩=>⟨g,l,λz P y E hv=>?_⟩⟩;obtain⟨T,L,R,N,u,st⟩:=st z P y;cases E with
 | nil=>cases hv
 | cons v E=>
  obtain⟨V,rfl⟩:=List.length_eq_one_iff.mp (Nat.succ.inj hv);exact⟨[some L,some R],rfl,⟨T,_,N,u,rfl,_,_,rfl,_,_,rfl,rfl,rfl,rfl⟩,st⟩
theorem wO{X:Cx}{iz:Nat}{z:Str}{Z P:Pos}{n iter:AN}{x:Str}{K k:Pos}{f:AG}{a:Scope}{cl:List (Str×AI)}{wi:TI}{tc:TT}{Y:TE}{cns:AH}(d:List Nat)
  (hi:PI X (.Name x K) iter wi)
  (hf:∀C s H ex pn,PF (HF X a cl (x::cns) C s H ex pn) f tc) (he:∀C s H ex pn,PE (HF X a cl (x::cns) C s H ex pn) n Y) (hc:X.calm=true)
  (B:closureFor a X.env=pure cl) (hcl:AllIn X.env.cells cl) (S:vY X cns d)
  (F:a.kind=.function) (O:(a.names.all λp=>p.2 != .cell)=true) (E:(a.names.all λp=>p.2 != .free || (cl.lookup p.1).isSome)=true)
  (hcf:(cns.all λy=>a.names.lookup y == some .free)=true) (r:∀y∈a.names,y.2=.local->a.names.lookup y.1=some .local) (hx:a.names.lookup x=some .local) (hnd:(x::cns).Nodup)
  (hN:X.N.Nodup) (hiz:X.N[iz]? =some z) (hz:Loc X.env.scope z) (hfz:X.fn z=true\/X.env.scope.names.lookup z=some .local)
  (hsw:swapsWithSole [.Name z Z] (.ListComp n [⟨.Name x K,iter,f,0⟩] a k) P.line X.env=pure true) (hs:∀v,foldedSetIterable iter X.env v=pure v:=by intro _;rfl):
  PS X (.Assign [.Name z Z] (.ListComp n [⟨.Name x K,iter,f,0⟩] a k) P) (bC (ZZ wi d tc Y) (aL iz)):=by
 intro j s M H D I h;generalize hQ:(λv H1=>aL iz v M H1 D.nx)=Q;have h:ZZ wi d tc Y M H Q:=hQ ▸ h;rw[exec_Assign_arm];refine wpAny_bind (wpAny_standAt ?_);rw[hsw];refine wpAny_bind (wpAny_pure ?_);rw[if_pos rfl];refine wpAny_bind ?_;rw[evalThenUse]
 suffices key:wpAny ς X.A (comprehension (.ListComp n [⟨.Name x K,iter,f,0⟩] a k) a X.env (firstIterPos [⟨.Name x K,iter,f,0⟩] k) (newList []) (firstAsync [⟨.Name x K,iter,f,0⟩]) (firstIter [⟨.Name x K,iter,f,0⟩] X.env) (some λv=>assignAll v ((assignEach [.Name z Z] X.env).map (·.2)))) (λ_ s'=>SP X j D .next s') X.xe s from
  wpAny_bind (wpAny_mono key (λ_ s' h=>wpAny_pure (wpAny_pure h)) λ_ _ h=>h)
 refine Zg0 (ns:=[x]) (gt:=aL 0) (R:=λJ M H Q=>LCg J d tc Y M H Q) d (λJ M H Q h=>?_) hi (λC s H ex pn=>cZ hnd rfl (.inl (lookup_relabel_local hx)) (.inr (lookup_relabel_local hx))) hf he hc B hcl S F O E hcf r hs I h λacc C s6 m r0 hm fCC fin=>?_
 ·obtain⟨W,w0,turn⟩:=h;refine⟨W,w0,λi m ys H hw=>(turn i m ys H hw).imp id λ⟨g,l,st⟩=>⟨g,l,λz H' y vs hv=>?_⟩⟩
  match vs,hv with
  | [v],_=>exact⟨[some z],rfl,⟨rfl,rfl⟩,st z H' y⟩
 obtain⟨v,U,If,rf,V,L⟩:=fin s6.heap (Heap.SameBut.refl _ _);have t:pF X j U C:=fCC L;obtain⟨oC,esC,epC,gC,dC,kC,nC⟩:=hm;have Ip:Inv X (j++[(C,oC)]) M U s6:=Inv.yz If λp hp=>by
  rcases List.mem_append.mp hp with hp | hp
  ·exact If.pin p (List.mem_append_right _ hp)
  ·rw[List.mem_singleton.mp hp];exact⟨gC,t.1,t.2.1,t.2.2.1,λv z=>by rw[dC]at z;cases z⟩
 show wpAny _ _ (assign (.Name z Z) X.env (.ref acc)) _ _ _;refine wpAny_assign_Name (BV Ip hN hiz hz rf (λs7 I7=>?_) hfz);have g7:=(I7.pin (C,oC) (List.mem_append_right _ (List.mem_append_right _ List.mem_cons_self))).1;refine⟨m,⟨oC,esC,epC,g7,dC,kC,nC⟩,λh' hs'=>?_⟩;have I8:=I7.BK;have V:D.nx (M.set iz eW) U:=by rw[<- hQ]at V;exact V
 have T:∀b o,b≠C->s7.heap.get? b=some o->h'.get? b=some o:=λb o hb e=>hs'.extBut b o hb e;refine⟨_,U,I8.step (ch:=[C]) (λb hb=>?_) (λb o _ _ hb e _=>T b o (λz=>hb (by rw[z];exact List.mem_cons_self)) e) (λb o _ _ hb e _=>⟨o.slots,T b o (λz=>hb (by rw[z];exact List.mem_cons_self)) e⟩) (λ_ _ _ _ h=>h) (λb o hb e=>⟨o,T b o (λz=>hb (by rw[z];exact List.mem_cons_self)) e⟩) (λ_ _ h=>h) (λ_ _ _ h=>h) (λ_ ps h=>⟨#[],by simpa using h⟩) (λm' hm'=>?_) (λb u e=>?_) I8.bare,V⟩
 ·rw[List.mem_singleton.mp hb];exact⟨t.2.2.2.1,t.2.1,t.2.2.2.2.1,t.2.2.2.2.2⟩
 ·obtain⟨o',e1,e2,e3,e4,e5⟩:=hm';exact⟨o',e1,e2,T _ _ t.2.1.symm e3,e4,e5⟩
 ·refine(I8.hok b u e).stay (λc w' hc q=>T c w' ?_ q) (λ_ q=>q) λ_ _ q=>q;rintro rfl;rcases hc with rfl | hc
  ·rw[L]at e;cases e
  ·rw[L]at hc;cases hc
end G
namespace G
open PySem L2
def Ite(K:aB)(a:AI):It:=
 ⟨λi H=>∃xs x,bU K H a xs/\xs[i]? =some x,λi H x H'=>∃t v,x=.ref t/\H t=none/\H'=upd H t (.tup [.int i,v])/\∀xs,bU K H a xs->xs[i]? =some v,λi H=>∃xs,bU K H a xs/\xs.length<=i⟩
def Zbp(K:aB)(c:TA):TI:=λσ H R=>c σ H λvs b=>∃a,vs=[.ref a]/\(∃xs,bU K b a xs)/\R (Ite K a) b
theorem Zx5{K:aB}{b:TA}{σ:L2.St}{H:Hp}{R:It->Hp->Prop}(h:b σ H λvs c=>∃a,vs=[.ref a]/\(∃xs,bU K c a xs)/\R (Ite K a) c):Zbp K b σ H R:=h
def Hr(v d:AI):HO:=.ext λh=>h.IsItemsView v d
def Zcn(d:TE):TE:=λσ H Q=>d σ H λx c=>∃a b,x=.ref a/\Rd c a (.dK b)/\∀v,c v=none->Q (.ref v) (upd c v (Hr v a))
theorem Zoy{d:TE}{σ:L2.St}{H:Hp}{Q:VK}(h:d σ H λx c=>∃a b,x=.ref a/\Rd c a (.dK b)/\∀v,c v=none->Q (.ref v) (upd c v (Hr v a))):Zcn d σ H Q:=h
def Zce(H:Hp):AF->List ee->Prop
 | [],[]=>True
 | t::ts,kv::a=>H t=some (.tup [kV kv.1,kv.2])/\Zce H ts a
 | _,_=>False
def Zev:List V->Hp->VK->Prop:=λxs H Q=>∃v a b,xs=[.ref v]/\H v=some (Hr v a)/\Rd H a (.dK b)/\∀l ts H',H l=none->aY H H'->H' l=some (.lst bP)->Zce H' ts b->Q (.ref l) H'
theorem Zow{H:Hp}{Q:VK}{v a:AI}{b:List ee}(h1:H v=some (Hr v a))(h2:Rd H a (.dK b))(h:∀l ts H',H l=none->aY H H'->H' l=some (.lst bP)->Zce H' ts b->Q (.ref l) H'):Zev [.ref v] H Q:=⟨v,a,b,rfl,h1,h2,h⟩
def Zp6(a:List ee):V->Option Bool
 | .int i=>some (jA a (.inl i)).isSome
 | .str x=>some (jA a (.inr x)).isSome
 | .non=>some false
 | _=>none
def Zjh(d:Bool)(ty g:TE):TE:=λσ H Q=>ty σ H λy f=>g σ f λx e=>∃a c b,x=.ref a/\Rd e a (.dK c)/\Zp6 c y=some b/\Q (.bl (if d then !b else b)) e
theorem Zsq{d:Bool}{ty f:TE}{σ:L2.St}{H:Hp}{Q:VK}(h:ty σ H λy g=>f σ g λx e=>∃a c b,x=.ref a/\Rd e a (.dK c)/\Zp6 c y=some b/\Q (.bl (if d then !b else b)) e):Zjh d ty f σ H Q:=h
section
variable {K:aB}{a:AI}{g:TG}{tb:TS}{σ:L2.St}{H:Hp}{n:L2.St->Hp->Prop}{r:VK}
theorem Zvo(xs:List V)(Pv:Nat->L2.St->Hp->Prop)(k:Pv 0 σ H)(hl:∀i σ H,i<=xs.length->Pv i σ H->bU K H a xs)
  (hs:∀i x t σ H,xs[i]? =some x->Pv i σ H->H t=none->g (.ref t) σ (upd H t (.tup [.int i,x])) λc e=>tb ⟨Pv de,r,n,Pv de⟩ c e) (hd:∀ σ H,Pv xs.length σ H->n σ H):
  ∃W:Nat->Nat->L2.St->Hp->Prop,(∃m,W 0 m σ H)/\∀i m σ H,W i m σ H->
   ((Ite K a).stop i H/\n σ H)\/((Ite K a).go i H/\∃N:L2.St->Hp->Prop,(∀ b H',N b H'->∃f,f<m/\W de f b H')/\∀x H',(Ite K a).yld i H x H'->g x σ H' λc e=>tb ⟨N,r,n,N⟩ c e):=by
 refine⟨λi m σ H=>i<=xs.length/\m=xs.length - i/\Pv i σ H,⟨xs.length,Nat.zero_le _,rfl,k⟩,?_⟩;rintro i m σ H ⟨hi,rfl,p⟩;have hq:=hl i σ H hi p
 by_cases hk:i=xs.length
 ·subst hk;exact .inl ⟨⟨xs,hq,Nat.le_refl _⟩,hd σ H p⟩
 ·have d:i<xs.length:=δ
  have hx:xs[i]? =some xs[i]:=bK d;refine .inr ⟨⟨xs,_,hq,hx⟩,Pv de,λb H' j=>⟨xs.length - de,δ,δ,rfl,j⟩,?_⟩;rintro x H' ⟨t,v,rfl,h,rfl,hv⟩;exact hs i v t σ H (hv xs hq) p h
theorem Zon{d:List Nat}{tc:TT}{j:TE}{Q:VK}{xs:List V}(hs:bU K H a xs)(hz:xs.length<=1000000)(W:Nat->List V->Hp->Prop)(s:W 0 [] H)(h:∀i c b,W i c b->aY H b/\c.length<=i)
  (step:∀i x c b t (C:List V->Hp->Prop),(∀f e,W de f e->C f e)->xs[i]? =some x->W i c b->b t=none->tc (some (.int i)::some x::d.map a3) (upd b t (.tup [.int i,x])) λk l=>if k=true then j (some (.int i)::some x::d.map a3) l (λy e=>C (c++[y]) e)else C c l)
  (q:∀c b,W xs.length c b->∀p,b p=none->Q (.ref p) (upd b p (.lst c))):Zpt K (Ite K a) d tc j σ H Q:=by
 refine⟨λi m c b=>i<=xs.length/\m=xs.length - i/\W i c b,⟨xs.length,Nat.zero_le _,rfl,s⟩,?_⟩;rintro i m c b ⟨hi,rfl,w⟩;obtain⟨sm,hl⟩:=h i c b w;have hq:bU K b a xs:=sm.seq hs
 by_cases hk:i=xs.length
 ·subst hk;exact .inl ⟨⟨xs,hq,Nat.le_refl _⟩,q c b w⟩
 ·have g:i<xs.length:=δ
  refine .inr ⟨⟨xs,_,hq,bK g⟩,Nat.lt_of_le_of_lt (show c.length<=1000000 by omega) fh,?_⟩;rintro x u ⟨t,v,rfl,o,rfl,hv⟩;exact⟨t,_,_,rfl,dB.of aq,step i v c b t (λf e=>∃n,n<xs.length - i/\i+1<=xs.length/\n=xs.length - (i+1)/\W de f e) (λf e r=>⟨xs.length - de,δ,δ,rfl,r⟩) (hv xs hq) w o⟩
end
end G
namespace G
open PySem L2 PySem.Spec PyProof.Rows
theorem Zhz{X:Cx}{a:At}{σ:L2.St}{H:Hp}{s:AK}{h':Heap}{t':Nat}{e d:AI}(I:Inv X a σ H s)(k:∀b u,b≠e->b≠d->s.heap.get? b=some u->h'.get? b=some u)(f:pF X a H e)(g:pF X a H d):
  Inv X a σ H { s with heap:=h',toks:=t' }:=by
 have ne:∀b u,H b=some u->b≠e:=λb u q z=>by rw[z,f.1]at q;cases q
 have h:∀b u,H b=some u->b≠d:=λb u q z=>by rw[z,g.1]at q;cases q
 have nm:∀b,b∉[e,d]->b≠e/\b≠d:=λb hb=>⟨λz=>hb (by simp[z]),λz=>hb (by simp[z])⟩;refine I.step (g':=s.gens) (d':=s.drawn) (ch:=[e,d]) (λb hb=>?_) (λb o _ _ hc q _=>k b o (nm b hc).1 (nm b hc).2 q) (λb o _ _ hc q _=>⟨o.slots,k b o (nm b hc).1 (nm b hc).2 q⟩) (λ_ _ _ _ n=>n)
  (λb o hc q=>⟨o,k b o (nm b hc).1 (nm b hc).2 q⟩) (λ_ _ q=>q) (λ_ _ _ q=>q) (λb t q=>⟨#[],by rw[q];simp⟩) (λm hm=>?_) (λb u q=>?_) I.bare
 ·rcases List.mem_cons.mp hb with z | z
  ·rw[z];exact⟨f.2.2.2.1,f.2.1,f.2.2.2.2.1,f.2.2.2.2.2⟩
  ·have p:b=d:=by simpa using z
   rw[p];exact⟨g.2.2.2.1,g.2.1,g.2.2.2.2.1,g.2.2.2.2.2⟩
 ·obtain⟨o,l,j,i,r⟩:=hm;exact⟨o,l,j,k _ o (Ne.symm f.2.1) (Ne.symm g.2.1) i,r⟩
 ·refine(I.hok b u q).stay (λc v hc z=>?_) (λ_ z=>z) λ_ _ z=>z;rcases hc with y | y
  ·rw[y]at z ⊢;exact k b v (ne b u q) (h b u q) z
  ·exact k c v (ne c _ y) (h c _ y) z
theorem QD{X:Cx}{d:At}{σ:L2.St}{H:Hp}{s:AK}{h':Heap}{t':Nat}{e f a:AI}{o:HO}(I:Inv X d σ H s)(k:∀b u,b≠e->b≠f->s.heap.get? b=some u->h'.get? b=some u)(g:pF X d H e)(h:pF X d H f)
  (i:s.heap.objs.size<=a) (new:gH X.prog X.w ei h' a o):Inv X d σ ei { s with heap:=h',toks:=t' }:=by
 have hn:=I.hok.fresh i;have ne:∀b u,H b=some u->b≠e:=λb u q z=>by rw[z,g.1]at q;cases q
 have l:∀b u,H b=some u->b≠f:=λb u q z=>by rw[z,h.1]at q;cases q
 have nm:∀b,b∉[e,f]->b≠e/\b≠f:=λb hb=>⟨λz=>hb (by simp[z]),λz=>hb (by simp[z])⟩;have x:∀b u,s.heap.get? b=some u->b≠a:=λb u q=>Nat.ne_of_lt (Nat.lt_of_lt_of_le (Heap.lt_size q) i);refine I.step (g':=s.gens) (d':=s.drawn) (ch:=[e,f]) (λb hb=>?_) (λb o _ _ hc q _=>k b o (nm b hc).1 (nm b hc).2 q) (λb o _ _ hc q _=>⟨o.slots,k b o (nm b hc).1 (nm b hc).2 q⟩) (λb u _ q n=>(aC (x b u q)).trans n)
  (λb o hc q=>⟨o,k b o (nm b hc).1 (nm b hc).2 q⟩) (λb j q=>(aC (aF q hn)).trans q) (λb o j q=>(aC (aF q hn)).trans q) (λb C q=>⟨#[],by rw[aC (aF q hn),q];simp⟩) (λm hm=>?_) (λb u q=>?_) I.bare
 ·rcases List.mem_cons.mp hb with z | z
  ·rw[z];exact⟨g.2.2.2.1,g.2.1,g.2.2.2.2.1,g.2.2.2.2.2⟩
  ·have B:b=f:=by simpa using z
   rw[B];exact⟨h.2.2.2.1,h.2.1,h.2.2.2.2.1,h.2.2.2.2.2⟩
 ·obtain⟨o,A,t,p,r⟩:=hm;exact⟨o,A,t,k _ o (Ne.symm g.2.1) (Ne.symm h.2.1) p,r⟩
 ·by_cases hb:b=a
  ·subst hb;rw[aq]at q;cases q;exact new
  ·rw[aC hb]at q;refine(I.hok b u q).stay (λc v hc z=>?_) (λc z=>by rw[aC (aF z hn)];exact z) λc j z=>by rw[aC (aF z hn)];exact z
   rcases hc with y | y
   ·rw[y]at z ⊢;exact k b v (ne b u q) (l b u q) z
   ·exact k c v (ne c _ y) (l c _ y) z
theorem Zh1{P:AM}{w:AO}{K:aB}{y:AG}{x1:Nat}{pt:Pos}(a e f:AI)(B:e≠f):
    Turn P w K (.Tuple y x1 pt) (Ite K a) [e,f] e (λi h=>(∃old,IsEnum h e f ((i:Nat):Int) old)/\h.IsListIter f a i) where
  mem:=ζ
  obj:=λi h st b hb=>by
    obtain⟨⟨old,j⟩,o,ho,c,d⟩:=st;rcases List.mem_cons.mp hb with z | z
    · rw[z];exact⟨_,j,λv z=>by cases z⟩
    · have S:b=f:=by simpa using z
      rw[S];exact⟨o,ho,λv z=>by rw[d]at z;cases z⟩
  keep:=λi h h' st k=>⟨let ⟨old,j⟩:=st.1;⟨old,k e ζ _ j⟩,st.2.at λo q=>k f ζ o q⟩
  item:=by
    intro X V L T hc i m s W H E I C st hg;subst V L T;obtain⟨xs,x,hq,hx⟩:=hg;obtain⟨U,N,p,hz⟩:=I.list hq;obtain⟨u,hu,ru⟩:=N.get hx;obtain⟨⟨old,j⟩,l⟩:=st;have Y:=C e ζ;have Z:=C f ζ;have t:e<s.heap.objs.size:=Heap.lt_size j;have O:f<s.heap.objs.size:=by obtain⟨o,q,_⟩:=l;exact Heap.lt_size q
    refine wpAny_pyNext_enum_item j l p.isList (x:=u) (by simpa using hu) B λh1 R r F hz1 M=>?_;refine⟨_,rfl,wpAny_letOwnedTupleGo_enum (s:={ s with heap:=h1,toks:=s.toks+1 }) R λh2 D g=>?_⟩
    replace g:Heap.SameBut e h1 h2:=g
    have hn:H s.heap.objs.size=none:=I.hok.fresh Δ;have I2:Inv X m W (upd H s.heap.objs.size (.tup [.int ((i:Nat):Int),x])) { s with heap:=h2,toks:=s.toks+1 }:=by
      refine QD I (λb v hb n q=>g.extBut b v hb (M b v hb n q)) Y Z Δ ?_;refine⟨by show 2<=sizeLine;decide,[.int ((i:Nat):Int) s.toks,u],.cons ⟨_,rfl⟩ (.cons ru .nil),⟨_,g.extBut _ _ (Nat.ne_of_gt t) F,rfl,_,rfl⟩⟩
    refine⟨.ref s.heap.objs.size,_,I2,rfl,⟨_,x,rfl,hn,rfl,λys hy=>by rw[I.Zb3 hy hq];exact hx⟩,⟨⟨u,?_⟩,r.extBut g.extBut (Ne.symm B)⟩,λb hb=>?_⟩
    · have e1:(((i+1:Nat)):Int)=(i:Int)+1:=δ
      show IsEnum h2 e f (((i+1:Nat)):Int) u;rw[e1];exact D
    · rcases List.mem_cons.mp hb with z | z
      · rw[z,aC (Nat.ne_of_lt t)];exact Y.1
      · have S:b=f:=by simpa using z
        rw[S,aC (Nat.ne_of_lt O)];exact Z.1
  done:=by
    intro X V L T hc i m s W H E I C st hg;subst V L T;obtain⟨xs,hq,hx⟩:=hg;obtain⟨U,N,p,hz⟩:=I.list hq;obtain⟨⟨old,j⟩,l⟩:=st;have hl:=N.length;exact wpAny_pyNext_enum_end (I.ok.hd hc) j l p.isList (by simp;omega) λh' J=>⟨rfl,Zhz (t':=s.toks) I (λb o _ n q=>J b o n q) (C e ζ) (C f ζ)⟩
  self:=λA i s Q E st h=>let ⟨_,j⟩:=st.1;wpAny_pyIter_enum j h
theorem Xx{X:Cx}{f:AG}{t:Nat}{pt:Pos}{l:AN}{n:TA}{p g:Pos}(hg:Gl X "enumerate")(hm:X.mg "enumerate"=none)(w:PA X [l] n)(hs:starEach [l] X.env=[(false,eval l X.env)]:=by rfl):
  PI X (.Tuple f t pt) (.Call (.Name "enumerate" p) [l] [] g) (Zbp X.K n):=by
 intro c s m H R I h;refine Call_ (Qi I hg hm boot_enumerate (PyProof.Rows.callWith_type1 (gw (w g c s m H _ I h) λus d qc=>?_) hs rfl));obtain⟨D,H1,I1,r1,q1⟩:=qc;obtain⟨a,e,⟨E,hq⟩,q⟩:=q1;subst e;cases r1 with
 | cons r v=>
  cases v;obtain rfl:_=Value.ref a:=r;obtain⟨A,C,B,hz⟩:=I1.list hq;refine call_enumerate_list B.isList λj o i y hk=>?_;have u:Inv X c m H1 { d with heap:=j }:=I1.kept (t':=d.toks) hk
  refine wpAny_pyIter_enum (s:={ d with heap:=j }) o ?_;have k:∀b,d.heap.objs.size<=b->pF X c H1 b:=λb hb=>I1.Zeb hb (I1.hok.fresh hb);refine⟨_,[d.heap.objs.size+1,d.heap.objs.size],_,_,H1,rfl,u,Zh1 a _ _ (Nat.succ_ne_self _),⟨⟨_,o⟩,i⟩,λb hb=>?_,q⟩;rcases List.mem_cons.mp hb with z | z
  ·rw[z];exact k _ (Nat.le_succ _)
  ·have x:b=d.heap.objs.size:=by simpa using z
   rw[x];exact k _ Δ
theorem Zi0{X:Cx}{d:At}{σ:L2.St}{H:Hp}{s:AK}{a:AI}{o:HO}(I:Inv X d σ H s)(f:pF X d H a)(new:gH X.prog X.w ei s.heap a o):Inv X d σ ei s:=by
 have hn:=f.1;have r:Inv X d σ ei { s with heap:=s.heap,gens:=s.gens,drawn:=s.drawn,toks:=s.toks }:=by
  refine I.step (g':=s.gens) (t':=s.toks) (d':=s.drawn) (ch:=[a]) (λb hb=>?_) (λb u _ _ _ q _=>q) (λb u _ _ _ q _=>⟨u.slots,q⟩) (λb u hc q n=>(aC (λz=>hc (by simp[z]))).trans n) (λb u _ q=>⟨u,q⟩)
   (λb e q=>(aC (aF q hn)).trans q) (λb u e q=>(aC (aF q hn)).trans q) (λb g q=>⟨#[],by rw[aC (aF q hn),q];simp⟩) (λm hm=>hm) (λb u q=>?_) I.bare
  ·have z:b=a:=by simpa using hb
   rw[z];exact⟨f.2.2.2.1,f.2.1,f.2.2.2.2.1,f.2.2.2.2.2⟩
  ·by_cases hb:b=a
   ·subst hb;rw[aq]at q;cases q;exact new
   ·rw[aC hb]at q;exact(I.hok b u q).stay (λc v _ z=>z) (λc z=>by rw[aC (aF z hn)];exact z) λc e z=>by rw[aC (aF z hn)];exact z
 exact r
theorem Zea{X:Cx}{c:At}{H:Hp}{a b:AI}{o:HO}(f:pF X c H b)(h:b≠a):pF X c ei b:=⟨(aC h).trans f.1,f.2⟩
theorem Zuo{P:AM}{w:AO}{k:Key}{u:AJ}(h:(di P w).is k u=true):RelV (kV k) u:=by
 rcases dm h with ⟨i,t,rfl,rfl⟩ | ⟨x,t,rfl,rfl⟩
 ·exact⟨t,rfl⟩
 ·exact⟨t,rfl⟩
theorem Zke{X:Cx}{o:AN}{l:TE}{d c:Pos}(j:PE X o l)(f:attributeBase o "items" X.env (eval o X.env)=eval o X.env:=by rfl)(g:(d.endLine == c.line)=true:=by rfl):
  PE X (.Call (.Attribute o "items" d) [] [] c) (Zcn l):=by
 intro i s p H Q I h;refine wpAny_Call_method0_late f g (gw (j i s p H _ I h) λu m qc=>?_);obtain⟨x,H1,I1,rx,a,kvs,ex,rd,q⟩:=qc;subst ex;obtain rfl:u=Value.ref a:=rx;obtain⟨t1,t2,hd⟩:=Zdz I1 (.inl ⟨kvs,rd⟩);obtain⟨z,_,n,rel,t⟩:=Am I1.hok rd;refine⟨"dict","dict.items",PySem.F.plainAttrs_dict,PySem.F.slot_dict_items,PySem.F.type_dict_items,t1,t2,Calls.callWith_builtin rfl (PySem.evalArgs_none ?_)⟩;refine call_meetsIn PySem.F.slot_dict_items t1 PySem.F.entry_dict_items (PySem.F.args_dict_items_1 _) (meets_dict_items (di X.prog X.w) a hd) ⟨⟨n,t⟩,?_⟩;have hn:=I1.hok.fresh Δ;refine⟨.ref m.heap.objs.size,_,I1.laid (t':=m.toks) (λb u e=>Heap.get?_push_of_some _ e) Δ ?_,rfl,q _ hn⟩;exact⟨⟨_,Heap.get?_push_size _ rfl,rfl,rfl⟩,⟨_,Heap.get?_push_size _ rfl⟩,(by rintro h1 h2 ⟨o,j,r⟩ k;exact⟨o,k o j,r⟩)⟩
theorem Iw{X:Cx}{c:At}{σ:L2.St}{s:AK}:∀(g:AF) (d:List ee) (vs:List (Key×AJ)) (H:Hp),Inv X c σ H s->g.Nodup->(∀a∈g,pF X c H a)->g.length=d.length->KV d vs->
  (∀(j:Nat) (a:AI),g[j]? =some a->∃f k x,vs[j]? =some (k,x)/\(di X.prog X.w).is k f=true/\s.heap.get? a=some { cls:=.type "tuple",data:=.seq #[f,x] })->
  ∃H',Inv X c σ H' s/\aY H H'/\Zce H' g d
 | [],[],_,H,I,_,_,_,_,_=>⟨H,I,λ_ _ h=>h,trivial⟩
 | [],_::_,_,_,_,_,_,hl,_,_=>by simp at hl
 | _::_,[],_,_,_,_,_,hl,_,_=>by simp at hl
 | a::g,l::d,vs,H,I,nd,p,hl,r,m=>by
  cases r with
  | cons y rs=>
   rename_i q t
   obtain⟨f,k,x,e,hk,hg⟩:=m 0 a rfl;have C:q=(k,x):=by simpa using e
   subst C;obtain⟨u,E⟩:=y;have n:=p a ζ;have B:a∉g:=(List.nodup_cons.mp nd).1;have i:l.1=k:=u;have D:Inv X c σ (L2.upd H a (.tup [kV l.1,l.2])) s:=Zi0 I n ⟨by show 2<=sizeLine;decide,[f,x],.cons (by rw[i];exact Zuo hk) (.cons E .nil),⟨_,hg,rfl,_,rfl⟩⟩;obtain⟨H',v,sm,A⟩:=Iw g d t _ D (List.nodup_cons.mp nd).2 (λb hb=>Zea (p b (by simp[hb])) λz=>B (z ▸ hb)) (by simpa using hl) rs (λj b hb=>by simpa using m (j+1) b (by simpa using hb));refine⟨H',v,λb o hb=>sm b o ?_,sm _ _ aq,A⟩;rw[aC (aF hb n.1)];exact hb
theorem Vl:∀a:AF,Vals (a.map V.ref) (a.map Value.ref)
 | []=>.nil
 | _::a=>.cons rfl (Vl a)
theorem Zet{X:Cx}(hc:X.calm=true):yq X (.type "list") Zev:=by
 intro i s C H J us Q I r h;obtain⟨v,a,k,rfl,hv,rd,q⟩:=h;obtain⟨u,rfl,B⟩:=Vals.one r;obtain rfl:u=Value.ref v:=B;have m:s.heap.IsItemsView v a:=(show gH X.prog X.w H s.heap v (Hr v a)from I.hok v _ hv).1;obtain⟨z,hd,y,rel,D⟩:=Am I.hok rd;obtain⟨F,hm⟩:=D.dictAt;have hl:=rel.length;refine W.kdx_call (I.ok.hd hc) m hm (by rw[<- hl];exact z) λp tk l c e hk E d g f=>?_;have hn:=I.hok.fresh (Nat.le_refl s.heap.objs.size);have A:Inv X i C (upd H s.heap.objs.size (.lst (e.map V.ref))) { s with heap:=p,toks:=tk }:=by
  refine I.laid hk Δ ⟨by rw[aU,d,<- hl];exact z,l.toList,c,by rw[f];exact Vl e,by rw[Array.toArray_toList];exact E⟩
 have nd:e.Nodup:=g.rise.imp λh=>Nat.ne_of_lt h;obtain⟨n,t,sm,x⟩:=Iw e k y _ A nd (λb hb=>Zea (I.Zeb (Nat.le_of_lt (g.above b hb)) (I.hok.fresh (Nat.le_of_lt (g.above b hb)))) (Nat.ne_of_gt (g.above b hb))) (by rw[d,hl]) rel (λj b hb=>g.pairs j b hb);refine⟨.ref s.heap.objs.size,n,t,rfl,q _ e n hn (λb o hb=>sm b o ?_) (sm _ _ aq) x⟩;rw[aC (aF hb hn)];exact hb
theorem Zm8{X:Cx}{e:At}{σ:L2.St}{H:Hp}{s:AK}{a:AI}{o:Obj}{d:List ee}(I:Inv X e σ H s)(h:H a=some (.dK d))(g:s.heap.get? a=some o):Inv X e σ (upd H a (.uB o (.dK d))) s:=by
 have ne:∀b u,H b=some u->u≠.dK d->b≠a:=λb u q n z=>n (by rw[z,h]at q;exact(Option.some.inj q).symm);have r:Inv X e σ (upd H a (.uB o (.dK d))) { s with heap:=s.heap,gens:=s.gens,drawn:=s.drawn,toks:=s.toks }:=by
  refine I.step (g':=s.gens) (t':=s.toks) (d':=s.drawn) (ch:=[]) (λb hb=>nomatch hb) (λb u _ _ _ q _=>q) (λb u _ _ _ q _=>⟨u.slots,q⟩) (λb u hc q n=>(aC (λz=>by rw[z,h]at n;cases n)).trans n) (λb u _ q=>⟨u,q⟩)
   (λb f q=>(aC (ne b _ q aS)).trans q) (λb u f q=>(aC (ne b _ q aS)).trans q) (λb i q=>⟨#[],by rw[aC (ne b _ q aS),q];simp⟩) (λm hm=>hm) (λb u q=>?_) I.bare
  have hs:∀c u,H c=some u->u≠.dK d->upd H a (.uB o (.dK d)) c=some u:=λc u z n=>by rw[aC (ne c u z n)];exact z
  by_cases hb:b=a
  ·subst hb;rw[aq]at q;cases q;exact⟨g,(I.hok b _ h).stay (λc v _ z=>z) (λc z=>hs c _ z fq) λc f z=>hs c _ z fq⟩
  ·rw[aC hb]at q;exact(I.hok b u q).stay (λc v _ z=>z) (λc z=>hs c _ z fq) λc f z=>hs c _ z fq
 exact r
def Zs2:Option Key->AJ->Bool
 | none,.none=>true
 | none,_=>false
 | some k,v=>Fg k v
theorem iV{k:Option Key}{v:AJ}(h:Zs2 k v=true):(k=none/\v=.none)\/∃j,k=some j/\Fg j v=true:=by
 cases k with
 | none=>cases v<;>first | exact .inl ⟨rfl,rfl⟩ | cases h
 | some j=>exact .inr ⟨j,rfl,h⟩
theorem Qn{j:Key}(h:Fg j Value.none=true):False:=by
 rcases dm h with ⟨i,t,_,e⟩ | ⟨x,t,_,e⟩<;>cases e
def Zrt(P:AM)(w:AO):PySem.KeyKind P w (Option Key) where
  is:=Zs2
  hash:=λk=>match k with | none=>reduceHash 0xFCA86420 | some k=>Zun w k
  inj:=λv a b c hb=>by
    rcases iV c with ⟨rfl,rfl⟩ | ⟨i,rfl,h1⟩
    · rcases iV hb with ⟨rfl,_⟩ | ⟨j,rfl,h2⟩
      · rfl
      · exact(Qn h2).elim
    · rcases iV hb with ⟨rfl,rfl⟩ | ⟨j,rfl,h2⟩
      · exact(Qn h1).elim
      · rw[(di P w).inj v i j h1 h2]
  byValue:=λk v h=>by
    rcases iV h with ⟨rfl,rfl⟩ | ⟨i,rfl,h1⟩
    · rfl
    · exact(di P w).byValue i v h1
  pyHash:=λ{A E s k v Q} hv h=>by
    rcases iV hv with ⟨rfl,rfl⟩ | ⟨i,rfl,h1⟩
    · exact W.pyHash_slot (T:="NoneType") rfl F.slot_NoneType_hash F.entry_NoneType_hash (F.args_NoneType_hash_1 _) (beq_builtin_none _) (.inl rfl) (wpAny_bind (wpAny_pure (wpAny_bind (wpAny_mkInt (wpAny_pure ⟨_,_,rfl,h⟩)))))
    · exact(di P w).pyHash h1 h
  eqBool:=λ{A E s a b u v Q} hu hv h=>by
    rcases iV hu with ⟨rfl,rfl⟩ | ⟨i,rfl,h1⟩
    · rcases iV hv with ⟨rfl,rfl⟩ | ⟨j,rfl,h2⟩
      · exact uU (A:=A) (s:=s) (y:=.non) (x:=.non) rfl rfl rfl rfl P w E Q h
      · rcases dm h2 with ⟨n,t,rfl,rfl⟩ | ⟨x,t,rfl,rfl⟩
        · exact uU (A:=A) (s:=s) (y:=.non) (x:=.int n) rfl ⟨t,rfl⟩ rfl rfl P w E Q h
        · exact uU (A:=A) (s:=s) (y:=.non) (x:=.str x) rfl ⟨t,rfl⟩ rfl rfl P w E Q h
    · rcases iV hv with ⟨rfl,rfl⟩ | ⟨j,rfl,h2⟩
      · rcases dm h1 with ⟨n,t,rfl,rfl⟩ | ⟨x,t,rfl,rfl⟩
        · exact uU (A:=A) (s:=s) (y:=.int n) (x:=.non) ⟨t,rfl⟩ rfl rfl rfl P w E Q h
        · exact uU (A:=A) (s:=s) (y:=.str x) (x:=.non) ⟨t,rfl⟩ rfl rfl rfl P w E Q h
      · refine(di P w).eqBool h1 h2 ?_
        have e:decide (i=j)=decide (some i=some j):=by
          by_cases z:i=j
          · subst z;simp
          · rw[decide_eq_false z,decide_eq_false (λy=>z (Option.some.inj y))]
        rw[e];exact h
  «strs»:=λk x t v h=>by
    rcases iV h with ⟨_,e⟩ | ⟨i,rfl,h1⟩
    · cases e
    · exact(di P w).strs i x t v h1
theorem Zkz{P:AM}{w:AO}{h:Heap}{a:AI}{vs:List (Key×AJ)}(dd:h.DictOf (di P w) a vs):∃f,h.MapOf (Zrt P w) a f/\f none=none:=by
 obtain⟨o,b,g,d,hc,hd,hk,hp,hn⟩:=dd;refine⟨λk=>findBy (Zrt P w).is b k,⟨o,b,g,d,hc,hd,λe c=>?_,λ_=>rfl⟩,?_⟩
 ·obtain⟨k,h1,h2⟩:=hk e c;exact⟨some k,h1,h2⟩
 ·show Option.map (λx=>x.val) (Array.find? (λe=>Zs2 none e.key) b)=none;rw[Option.map_eq_none_iff,Array.find?_eq_none];intro e c;obtain⟨k,h1,_⟩:=hk e c;rcases dm h1 with ⟨n,t,_,z⟩ | ⟨x,t,_,z⟩<;>rw[z]<;>exact λy=>nomatch y
section
variable {X:Cx}{i o:AN}{ty td:TE}
theorem Ze6{a:List ee}{y:V}{b:Bool}(h:Zp6 a y=some b):(∃k,y=kV k/\b=(jA a k).isSome)\/(y=.non/\b=false):=by
 cases y<;>simp only[Zp6,Option.some.injEq]at h<;>first | cases h
 ·exact .inr ⟨rfl,rfl⟩
 ·exact .inl ⟨.inl _,rfl,rfl⟩
 ·exact .inl ⟨.inr _,rfl,rfl⟩
theorem Zdc(hu:X.A.units+1<cLine)(hi:PE X i ty)(g:PE X o td):PC X .NotIn i o (Zjh true ty td):=by
 intro c s d H Q I h;refine gw (hi c s d H _ I h) λm l qc=>?_;obtain⟨y,H1,I1,ry,h1⟩:=qc;refine gw (g c l d H1 _ I1 h1) λe r qc=>?_;obtain⟨x,H2,I2,rx,a,kvs,b,ex,rd,hb,q⟩:=qc;subst ex;obtain rfl:e=Value.ref a:=rx;rcases Ze6 hb with ⟨k,rfl,rfl⟩ | ⟨rfl,rfl⟩
 ·exact Zgg hu I2 (.inl ⟨kvs,k,rd,rfl,rfl⟩) ry λu j=>⟨.bl _,H2,j,rfl,q⟩
 ·obtain rfl:m=Value.none:=ry;obtain⟨z,hd,t,rel,p⟩:=Am I2.hok rd;obtain⟨f,hm,n⟩:=Zkz p;refine wpAny_notIn_of (knd:=Zrt X.prog X.w) (k:=none) rfl hd hm ?_;rw[n];exact⟨.bl _,H2,I2.tok _,rfl,q⟩
end
section
variable {X:Cx}
end
def Zew:List V->Hp->VK->Prop:=λxs H Q=>∃(a:AI) (b:List ee),xs=[.ref a]/\Rd H a (.dK b)/\∀l,H l=none->Q (.ref l) (upd H l (.lst (b.map λp=>kV p.1)))
theorem Zox{H:Hp}{Q:VK}{a:AI}{b:List ee}(h1:H a=some (.dK b))(h:∀l,H l=none->Q (.ref l) (upd H l (.lst (b.map λp=>kV p.1)))):Zew [.ref a] H Q:=⟨a,b,rfl,.inl h1,h⟩
theorem Zs3{P:AM}{w:AO}{k:Key}{u:AJ}(h:(di P w).is k u=true):RelV (kV k) u:=by
 rcases dm h with ⟨i,t,rfl,rfl⟩ | ⟨x,t,rfl,rfl⟩
 ·exact⟨t,rfl⟩
 ·exact⟨t,rfl⟩
theorem Zhv{P:AM}{w:AO}{a:List ee}{vs:List (Key×AJ)}{us:AC}(r:KV a vs):us.length=vs.length->(∀(j:Nat) u,us[j]? =some u->∃k x,vs[j]? =some (k,x)/\(di P w).is k u=true)->Vals (a.map λp=>kV p.1) us:=by
 induction r generalizing us with
 | nil=>
  intro hl h;cases us with
  | nil=>exact .nil
  | cons u us=>simp at hl
 | @cons b n a l g rs f=>
  intro hl h;cases us with
  | nil=>simp at hl
  | cons u us=>
   obtain⟨k,x,e,hk⟩:=h 0 u rfl;obtain⟨d,o⟩:=g;have i:=Option.some.inj (show some _=some _ from e);refine .cons ?_ (f (by simpa using hl) λj v c=>by simpa using h (j+1) v (by simpa using c));have m:b.1=k:=by rw[d,i]
   show RelV (kV b.1) u;rw[m];exact Zs3 hk
theorem Zeu{X:Cx}(hc:X.calm=true):yq X (.type "list") Zew:=by
 intro d s n H y us Q I r h;obtain⟨a,b,rfl,rd,q⟩:=h;obtain⟨u,rfl,m⟩:=Vals.one r;obtain rfl:u=Value.ref a:=m;obtain⟨_,_,f⟩:=Zdz I (.inl ⟨b,rd⟩);obtain⟨z,hd,x,rel,o⟩:=Am I.hok rd;obtain⟨v,hm⟩:=o.dictAt;have hl:=rel.length;refine W.kdl_call (W.kdl_dict f) (I.ok.hd hc) hm (by rw[<- hl];exact z) λk tk e c hk t g=>?_;have hn:=I.hok.fresh (Nat.le_refl s.heap.objs.size);have l:Inv X d n (upd H s.heap.objs.size (.lst (b.map λp=>kV p.1))) { s with heap:=k,toks:=tk }:=
  I.laid hk Δ ⟨by rw[aU];exact z,e.toList,c,Zhv (P:=X.prog) (w:=X.w) rel (by rw[Array.length_toList];exact g.1) (λj u i=>g.2 j u (by simpa using i)),by rw[Array.toArray_toList];exact t⟩
 exact⟨.ref s.heap.objs.size,_,l,rfl,q _ hn⟩
section
variable {X:Cx}{x1 x2 x3 x4:Str}{C1 C2 C3 C4:AI}{pos np1 np2 np3 np4 hp1 hp2 hp3 hp4:Pos}{body su1 su2 su3 su4:List Stmt}{b1 b2 b3 b4:Stmt}{M1 M2 M3 M4:AJ->Prop}{tb:(L2.St->XK)->TS}{t1 t2 t3 t4:TS}
end
end G
namespace G
open PySem L2
end G
namespace G
open PySem L2 PySem.Spec PyProof.Rows
def Iu(v d:AI):HO:=.ext λh=>h.IsValuesView v d
def Zjd(d:TE):TE:=λσ H Q=>d σ H λx c=>∃a b,x=.ref a/\Rd c a (.dK b)/\∀v,c v=none->Q (.ref v) (upd c v (Iu v a))
theorem Zs7{d:TE}{σ:L2.St}{H:Hp}{Q:VK}(h:d σ H λx c=>∃a b,x=.ref a/\Rd c a (.dK b)/\∀v,c v=none->Q (.ref v) (upd c v (Iu v a))):Zjd d σ H Q:=h
theorem Zhg{X:Cx}{o:AN}{l:TE}{d c:Pos}(j:PE X o l)(f:attributeBase o "values" X.env (eval o X.env)=eval o X.env:=by rfl)(g:(d.endLine == c.line)=true:=by rfl):
  PE X (.Call (.Attribute o "values" d) [] [] c) (Zjd l):=by
 intro i s p H Q I h;refine wpAny_Call_method0_late f g (gw (j i s p H _ I h) λu m qc=>?_);obtain⟨x,H1,I1,rx,a,kvs,ex,rd,q⟩:=qc;subst ex;obtain rfl:u=Value.ref a:=rx;obtain⟨t1,t2,hd⟩:=Zdz I1 (.inl ⟨kvs,rd⟩);obtain⟨z,_,n,rel,t⟩:=Am I1.hok rd;refine⟨"dict","dict.values",PySem.F.plainAttrs_dict,PySem.F.slot_dict_values,PySem.F.type_dict_values,t1,t2,Calls.callWith_builtin rfl (PySem.evalArgs_none ?_)⟩;refine call_meetsIn PySem.F.slot_dict_values t1 PySem.F.entry_dict_values (PySem.F.args_dict_values_1 _) (meets_dict_values (di X.prog X.w) a hd) ⟨⟨n,t⟩,?_⟩;have hn:=I1.hok.fresh Δ;refine⟨.ref m.heap.objs.size,_,I1.laid (t':=m.toks) (λb u e=>Heap.get?_push_of_some _ e) Δ ?_,rfl,q _ hn⟩;exact⟨⟨_,Heap.get?_push_size _ rfl,rfl,rfl⟩,⟨_,Heap.get?_push_size _ rfl⟩,(by rintro h1 h2 ⟨o,j,r⟩ k;exact⟨o,k o j,r⟩)⟩
def Itv(a:AI)(o:Obj)(b:List ee):It:=
 ⟨λi H=>H a=some (.uB o (.dK b))/\i<b.length,λi H x H'=>H'=H/\∃kv,b[i]? =some kv/\x=kv.2,λi H=>H a=some (.uB o (.dK b))/\b.length<=i⟩
def Zly(d:TE):TI:=λσ H R=>d σ H λx c=>∃v a b,x=.ref v/\c v=some (Iu v a)/\c a=some (.dK b)/\∀o,R (Itv a o b) (upd c a (.uB o (.dK b)))
theorem Zx2{d:TE}{σ:L2.St}{H:Hp}{R:It->Hp->Prop}(h:d σ H λx c=>∃v a b,x=.ref v/\c v=some (Iu v a)/\c a=some (.dK b)/\∀o,R (Itv a o b) (upd c a (.uB o (.dK b)))):Zly d σ H R:=h
theorem Zhi{c b:Type}{R:c->b->Prop}{xs:List c}{a:List b}(p:Paired R xs a):∀(i:Nat) x y,xs[i]? =some x->a[i]? =some y->R x y:=by
 induction p with
 | nil=>
  intro i x y h;simp at h
 | cons r rs d=>
  intro i x y h1 h2;cases i with
  | zero=>
   cases h1;cases h2;exact r
  | succ i=>exact d i _ _ (by simpa using h1) (by simpa using h2)
theorem Zgz{P:AM}{w:AO}{K:aB}{tg:AN}(a p:AI)(o:Obj)(f:List ee)(A:Nat)(x:∃N,o.data=.dict N A):Turn P w K tg (Itv a o f) [p] p (λi h=>h.IsValIter p a i f.length A) where
  mem:=ζ
  obj:=λi h st b hb=>by
    have e:b=p:=by simpa using hb
    subst e;obtain⟨o,e,c,d⟩:=st;exact⟨o,e,λv z=>by rw[d]at z;cases z⟩
  keep:=λi h y st k=>by
    obtain⟨o,e,r⟩:=st;exact⟨o,k p ζ o e,r⟩
  item:=by
    intro X T J Q hc i m s W H E I B st hg;subst T J Q;obtain⟨hz,hi⟩:=hg;obtain⟨C,z,hd,g,rel,R⟩:s.heap.get? a=some o/\f.length<=sizeLine/\(a == sysModules)=false/\∃g,KV f g/\s.heap.DictOf (di X.prog X.w) a g:=I.hok a _ hz;obtain⟨q,hm⟩:=R.dictAt;obtain⟨N,n⟩:=x;have S:q=A:=by
      obtain⟨Y,L,j,_,l,_⟩:=id hm;rw[C]at j;cases j;rw[n]at l;injection l with _ e;exact e.symm
    subst S;have hl:=rel.length;have hv:g[i]? =some g[i]:=bK δ;have u:f[i]? =some f[i]:=bK hi;have hk:RelV f[i].2 g[i].2:=(Zhi rel i _ _ u hv).2;obtain⟨M,D,Z,O,F,U⟩:=B p ζ;rw[hl]at st;refine wpAny_pyNext_values_item st hm (k:=g[i].1) (v:=g[i].2) (by rw[hv]) λy t sb=>?_;have I1:Inv X m W H { s with heap:=y }:=I.turned (t':=s.toks) (λb o hb e=>(sb.2 b hb).trans e) M D O F U;obtain⟨oi,e,c,d⟩:=id t;exact⟨_,rfl,Zm5 (s:={ s with heap:=y }) e c d ε ⟨f[i].2,H,I1,hk,⟨rfl,_,u,rfl⟩,by rw[hl];exact t,λb hb=>(B b hb).1⟩⟩
  done:=by
    intro X T J Q hc i m s W H E I B st hg;subst T J Q;obtain⟨hz,hi⟩:=hg;obtain⟨C,z,hd,g,rel,R⟩:s.heap.get? a=some o/\f.length<=sizeLine/\(a == sysModules)=false/\∃g,KV f g/\s.heap.DictOf (di X.prog X.w) a g:=I.hok a _ hz;obtain⟨q,hm⟩:=R.dictAt;obtain⟨N,n⟩:=x;have S:q=A:=by
      obtain⟨Y,L,j,_,l,_⟩:=id hm;rw[C]at j;cases j;rw[n]at l;injection l with _ e;exact e.symm
    subst S;have hl:=rel.length;obtain⟨M,D,Z,O,F,U⟩:=B p ζ;rw[hl]at st;exact wpAny_pyNext_values_end (I.ok.hd hc) st hm (by rw[List.getElem?_eq_none];omega) λy eb=>⟨rfl,I.turned (t':=s.toks) (λb o hb e=>eb b o hb e) M D O F U⟩
  self:=λ_ _ _ _ _ st h=>wpAny_pyIter_valiter st h
theorem Znz{X:Cx}{tg:AN}{e:AN}{l:TE}(w:PE X e l):PI X tg e (Zly l):=by
 intro d s r H R I h;refine gw (w d s r H _ I h) λu c qc=>?_;obtain⟨x,H1,I1,r1,q1⟩:=qc;obtain⟨v,a,j,e,hv,hq,q⟩:=q1;subst e;obtain rfl:u=Value.ref v:=r1;have g:c.heap.IsValuesView v a:=(I1.hok v _ hv).1;obtain⟨z,hs,y,rel,t⟩:=Zqn I1.hok hq;obtain⟨m,hm⟩:=t.dictAt;obtain⟨o,p,k,_,f,_⟩:=id hm;refine wpAny_pyIter_values g hm ?_;have n:=Zm8 I1 hq k;have i:c.heap.objs.size≠a:=Nat.ne_of_gt (Heap.lt_size k);refine⟨c.heap.objs.size,[c.heap.objs.size],_,_,_,rfl,n.kept (t':=c.toks) λb o e=>Heap.get?_push_of_some _ e,Zgz a _ o j m ⟨p,f⟩,?_,λb hb=>?_,q o⟩
 ·rw[rel.length];exact⟨_,Heap.get?_push_size _ rfl,rfl,rfl⟩
 ·have e:b=c.heap.objs.size:=by simpa using hb
  subst e;exact Zea (I1.Zeb Δ (I1.hok.fresh Δ)) i
theorem Zh2{X:Cx}{f:At}{σ:L2.St}{H:Hp}{s:AK}{a:AI}{o:Obj}{d:List ee}(I:Inv X f σ H s)(h:H a=some (.uB o (.dK d)))(hn:∀w u,X.H₀ a≠some (.uB w u)):Inv X f σ (upd H a (.dK d)) s:=by
 have ne:∀b u,H b=some u->u≠.uB o (.dK d)->b≠a:=λb u q n z=>n (by rw[z,h]at q;exact(Option.some.inj q).symm);have k:∀b,H b=none->upd H a (.dK d) b=none:=λb q=>(aC (λz=>by rw[z,h]at q;cases q)).trans q;have hs:∀c u,H c=some u->u≠.uB o (.dK d)->upd H a (.dK d) c=some u:=λc u z n=>by rw[aC (ne c u z n)];exact z
 obtain⟨D,C,M,g,B,t,E,K,F,i,l⟩:=I;refine⟨D,C,M,⟨g.keep,g.slot,λb ob e n hx=>k b (g.free b ob e n hx),g.there,λb m e=>hs b _ (g.tups b m e) aS,λb ob u e=>(aC (a:=a) (b:=b) (λz=>hn ob u (by rw[<- z];exact e))).trans (g.Hz b ob u e),λb A e=>?_⟩,B,t,k _ E,λx c e=>k _ (K x c e),λp hp=>?_,λb u q=>?_,l⟩
 ·obtain⟨j,q⟩:=g.Lg b A e;exact⟨j,hs b _ q aS⟩
 ·obtain⟨L,r,J⟩:=F p hp;exact⟨L,k _ r,J⟩
 ·by_cases hb:b=a
  ·subst hb;rw[aq]at q;cases q;exact(i b _ h).2.stay (λc v _ z=>z) (λc z=>hs c _ z fq) λc m z=>hs c _ z fq
  ·rw[aC hb]at q;exact(i b u q).stay (λc v _ z=>z) (λc z=>hs c _ z fq) λc m z=>hs c _ z fq
def Zje(H0:Hp)(e:TE):TE:=λσ H Q=>e σ H λx c=>∃a o b,c a=some (.uB o (.dK b))/\(∀d u,H0 a≠some (.uB d u))/\Q x (upd c a (.dK b))
theorem Zs8{H0:Hp}{c:TE}{σ:L2.St}{H:Hp}{Q:VK}(h:c σ H λx d=>∃a o b,d a=some (.uB o (.dK b))/\(∀e u,H0 a≠some (.uB e u))/\Q x (upd d a (.dK b))):Zje H0 c σ H Q:=h
theorem Zo0{X:Cx}{e:AN}{c:TE}(f:PE X e c):PE X e (Zje X.H₀ c):=by
 intro b s d H Q I h;refine gw (f b s d H _ I h) λu g qc=>?_;obtain⟨x,H1,I1,r1,a,o,kvs,ha,hn,q⟩:=qc;exact⟨x,_,Zh2 I1 ha hn,r1,q⟩
def Zqx(K:aB)(a:TE):TT:=λσ H Q=>a σ H λx H'=>∃k,Zn5 K x H' k/\Q k H'
theorem Zqc{K:aB}{a:TE}{σ:L2.St}{H:Hp}{Q:Bool->Hp->Prop}(h:a σ H λx H'=>∃k,Zn5 K x H' k/\Q k H'):Zqx K a σ H Q:=h
theorem Ztv{K:aB}{H:Hp}{a:AI}{xs:List V}{P:Bool->Prop}(h:bU K H a xs)(q:P (!xs.isEmpty)):∃k,Zn5 K (.ref a) H k/\P k:=⟨_,.inl ⟨xs,h,rfl⟩,q⟩
theorem Zlx{i:Nat}{c x:Int}{f:Int->Int->Int}{n:L2.St->Hp->Prop}{r:VK}{b ct:L2.St->Hp->Prop}{σ:L2.St}{H:Hp}(e:σ[i]? =some (some (.int x)))(h:n (σ.set i (some (.int (f x c)))) H):Zr0 i (tC (.int c)) (ipI f) ⟨n,r,b,ct⟩ σ H:=⟨_,e,x,c,rfl,rfl,h⟩
def Zmz(K:aB):List V->Hp->VK->Prop:=λxs H Q=>∃p a,xs=[.ref p]/\(bU K H p a\/dB K H p a)/\∀l,H l=none->Q (.ref l) (upd H l (.lst a))
theorem Zov{K:aB}{H:Hp}{Q:VK}{p:AI}{a:List V}(h1:dB K H p a)(h:∀l,H l=none->Q (.ref l) (upd H l (.lst a))):Zmz K [.ref p] H Q:=⟨p,a,rfl,.inr h1,h⟩
def Dq(K:aB)(H:Hp):Nat->V->V->Prop
 | 0,x,y=>x=y/\lq x=true
 | d+1,x,y=>(x=y/\lq x=true)\/∃a b,x=.ref a/\y=.ref b/\(a=b\/∃xs c,((bU K H a xs/\bU K H b c)\/(dB K H a xs/\dB K H b c))/\Al (Dq K H d) xs c)
theorem Zph{K:aB}{H:Hp}{d:Nat}{x:V}(h:lq x=true):Dq K H d x x:=by
 cases d with
 | zero=>exact⟨rfl,h⟩
 | succ d=>exact .inl ⟨rfl,h⟩
theorem xO{K:aB}{H:Hp}{d:Nat}:∀{xs:List V},xs.all lq=true->Al (Dq K H d) xs xs
 | [],_=>.nil
 | x::xs,h=>by
  rw[List.all_cons,Bool.and_eq_true]at h;exact .cons (Zph h.1) (xO h.2)
def Za8(K:aB)(d:Bool):R2:=λx y H Q=>∃a b xs c,x=.ref a/\y=.ref b/\((bU K H a xs/\bU K H b c)\/(dB K H a xs/\dB K H b c))/\Al (Dq K H 6) xs c/\Q (.bl (!d)) H
section
variable {X:Cx}
theorem Zbv:∀{x:V},lq x=true->Wz x x=true
 | .non,_=>rfl
 | .bl b,_=>by cases b<;>rfl
 | .int i,_=>by simp[Wz]
 | .str z,_=>by simp[Wz]
theorem Zvs{n:At}{σ:L2.St}{H:Hp}{s:AK}(I:Inv X n σ H s):∀(d:Nat) {A:Around}{x y:V}{u v:AJ},A.units+d<cLine->RelV x u->RelV y v->Dq X.K H d x y->SeqAt.EqAt A s u v true:=by
 intro d
 induction d with
 | zero=>
  intro A x y u v hu p o h;obtain⟨rfl,i⟩:=h;have:=uU (A:=A) (s:=s) p o i i;rw[Zbv i]at this;exact this
 | succ d D=>
  intro A x y u v hu p o h;rcases h with ⟨rfl,i⟩ | ⟨a,b,rfl,rfl,h⟩
  ·have:=uU (A:=A) (s:=s) p o i i;rw[Zbv i]at this;exact this
  ·obtain rfl:u=Value.ref a:=p;obtain rfl:v=Value.ref b:=o
   by_cases e:a=b
   ·subst e;exact SeqAt.EqAt.same _
   rcases h with rfl | ⟨t,q,hs,al⟩
   ·exact absurd rfl e
   ·refine SeqAt.EqAt.of_refs e ?_;have hl:=al.length;have m:A.units<cLine:=δ
    have item:∀{us c:AC},Vals t us->Vals q c->∀(j:Nat) (h1:j<us.toArray.size) (h2:j<c.toArray.size),SeqAt.EqAt A.in1 s us.toArray[j] c.toArray[j] true:=by
     intro us c g f j h1 h2;rw[List.size_toArray]at h1 h2;have Q:=g.length;have P:=f.length;have B:t[j]? =some t[j]:=bK δ;have z:q[j]? =some q[j]:=bK δ;obtain⟨O,C,E⟩:=g.get B;obtain⟨N,w,J⟩:=f.get z;rw[bK h1]at C;rw[bK h2]at w;cases C;cases w;obtain⟨M,e3,L⟩:=al.get z;rw[B]at e3;cases e3;exact D (A:=A.in1) (by show A.units+1+d<cLine;omega) E J L
    rcases hs with ⟨r,hb⟩ | ⟨r,hb⟩
    ·obtain⟨us,g,l,_⟩:=I.list r;obtain⟨c,f,k,_⟩:=I.list hb;have:=SeqAt.RcAt.lists (A:=A) (e:=λ_=>true) l.isList k.isList (by rw[List.size_toArray,List.size_toArray,<- g.length,<- f.length];exact hl) m (λj h1 h2=>item g f j h1 h2);rw[show(List.range us.toArray.size).all (λ_=>true)=true from by rw[List.all_eq_true];intros;rfl]at this;exact this
    ·obtain⟨us,g,l,_⟩:=I.tuple r;obtain⟨c,f,k,_⟩:=I.tuple hb;have F:us.toArray.size=c.toArray.size:=by rw[List.size_toArray,List.size_toArray,<- g.length,<- f.length];exact hl
     have:=SeqAt.RcAt.tuples (A:=A) (e:=λ_=>true) l k m (λj h1 h2=>item g f j h1 h2);rw[show(List.range (min us.toArray.size c.toArray.size)).all (λ_=>true)=true from by rw[List.all_eq_true];intros;rfl,F]at this;simpa using this
theorem yH{a:At}{σ:L2.St}{H:Hp}{s:AK}(I:Inv X a σ H s){A:Around}(hu:A.units+8<cLine){xs b:List V}{us c:AC}(al:Al (Dq X.K H 6) xs b)(i:Vals xs us)(e:Vals b c)(j:Nat)(h1:j<us.toArray.size)(h2:j<c.toArray.size):SeqAt.EqAt A.in1 s us.toArray[j] c.toArray[j] true:=by
 rw[List.size_toArray]at h1 h2;have r:=i.length;have q:=e.length;have g:xs[j]? =some xs[j]:=bK δ;have f:b[j]? =some b[j]:=bK δ;obtain⟨p,h,k⟩:=i.get g;obtain⟨o,d,l⟩:=e.get f;rw[bK h1]at h;rw[bK h2]at d;cases h;cases d;obtain⟨n,e3,m⟩:=al.get f;rw[g]at e3;cases e3;exact Zvs I 6 (A:=A.in1) (by show A.units+1+6<cLine;omega) k l m
theorem Zdg(hu:X.A.units+64<cLine):uz X (compareOp .Eq) (Za8 X.K false):=by
 intro i s o H x y v u Q I l k h;obtain⟨p,j,r,n,rfl,rfl,hs,al,q⟩:=h;obtain rfl:v=Value.ref p:=l;obtain rfl:u=Value.ref j:=k;have hl:=al.length;rcases hs with ⟨g,hb⟩ | ⟨g,hb⟩
 ·obtain⟨us,d,b,_⟩:=I.list g;obtain⟨f,c,a,_⟩:=I.list hb;refine SeqAt.eq_listAt (e:=λ_=>true) b.isList a.isList (by rw[List.size_toArray,List.size_toArray,<- d.length,<- c.length];exact hl) δ (yH I δ al d c) ?_;rw[show(List.range us.toArray.size).all (λ_=>true)=true from by rw[List.all_eq_true];intros;rfl];exact⟨.bl _,H,I,rfl,q⟩
 ·obtain⟨us,d,b,_⟩:=I.tuple g;obtain⟨f,c,a,_⟩:=I.tuple hb;have m:us.toArray.size=f.toArray.size:=by rw[List.size_toArray,List.size_toArray,<- d.length,<- c.length];exact hl
  refine SeqAt.eq_tupleAt (e:=λ_=>true) b a δ (yH I δ al d c) ?_;rw[show(List.range (min us.toArray.size f.toArray.size)).all (λ_=>true)=true from by rw[List.all_eq_true];intros;rfl,m];simp only[beq_self_eq_true,Bool.and_self];exact⟨.bl _,H,I,rfl,q⟩
theorem Zkq(hu:X.A.units+64<cLine):uz X (compareOp .NotEq) (Za8 X.K true):=by
 intro i s o H x y v u Q I l k h;obtain⟨p,j,r,n,rfl,rfl,hs,al,q⟩:=h;obtain rfl:v=Value.ref p:=l;obtain rfl:u=Value.ref j:=k;have hl:=al.length;rcases hs with ⟨g,hb⟩ | ⟨g,hb⟩
 ·obtain⟨us,d,b,_⟩:=I.list g;obtain⟨f,c,a,_⟩:=I.list hb;have:=SeqAt.RcNeAt.lists (A:=X.A) (s:=s) (e:=λ_=>true) b.isList a.isList (by rw[List.size_toArray,List.size_toArray,<- d.length,<- c.length];exact hl) δ (yH I δ al d c);rw[show(List.range us.toArray.size).all (λ_=>true)=true from by rw[List.all_eq_true];intros;rfl]at this;exact this _ _ _ _ ⟨.bl _,H,I,rfl,q⟩
 ·obtain⟨us,d,b,_⟩:=I.tuple g;obtain⟨f,c,a,_⟩:=I.tuple hb;have m:us.toArray.size=f.toArray.size:=by rw[List.size_toArray,List.size_toArray,<- d.length,<- c.length];exact hl
  have:=SeqAt.RcNeAt.tuples (A:=X.A) (s:=s) (e:=λ_=>true) b a δ (yH I δ al d c);rw[show(List.range (min us.toArray.size f.toArray.size)).all (λ_=>true)=true from by rw[List.all_eq_true];intros;rfl,m]at this;simp only[beq_self_eq_true,Bool.and_self]at this;exact this _ _ _ _ ⟨.bl _,H,I,rfl,q⟩
theorem Zbo{K:aB}{c:Bool}{H:Hp}{Q:VK}{a b:AI}{xs d:List V}(hs:(bU K H a xs/\bU K H b d)\/(dB K H a xs/\dB K H b d))(al:Al (Dq K H 6) xs d)(q:Q (.bl (!c)) H):Za8 K c (.ref a) (.ref b) H Q:=⟨a,b,xs,d,rfl,rfl,hs,al,q⟩
end
end G
namespace G
open PySem L2
end G
local macro_rules|`(tactic|walk_at"g2")=>`(tactic|with_reducible first|refine G.Zx5 ?_|refine G.Zoy ?_|refine G.Zsq ?_)
local macro_rules|`(tactic|walk_at"g2")=>`(tactic|with_reducible first|refine G.Zbn ?_|refine G.Ze4 ?_|refine G.Zs7 ?_|refine G.Zx2 ?_|refine G.Zs8 ?_|refine G.Zqc ?_)
local macro_rules|`(tactic|walk_at"g2")=>`(tactic|with_reducible first|refine G.Zuu ?_|refine G.Zsr ?_|refine G.Zlv ?_|refine G.Zsp ?_|refine G.Zsi ?_|refine G.Ze5 ?_)
local macro_rules|`(tactic|walk_at"g2")=>`(tactic|with_reducible first|refine G.Zoq ?_|refine G.Zp4 ?_|refine G.Zut ?_|refine G.Zsn ?_|refine G.Zsd ?_|refine G.Zou ?_)
local macro_rules|`(tactic|walk_at"g2")=>`(tactic|with_reducible first|refine G.Zx7 ?_|refine G.Zx6 ?_|refine G.Zv8 ?_|refine G.sE ?_|refine G.Zp3 ?_|refine G.Zv3 ?_)
local macro_rules|`(tactic|walk_at"g2")=>`(tactic|with_reducible first|refine G.Zp2 ?_|refine G.YT ?_|refine G.Zp1 ?_|refine G.Zx9 ?_|refine G.Zx8 ?_|refine G.Zv7 ?_)
local macro_rules|`(tactic|walk_at"g2")=>`(tactic|with_reducible first|refine G.Zwt ?_|refine G.Zws ?_|refine G.Zwr ?_|refine G.Zwq ?_|refine G.Zur ?_|refine G.Zxa ?_)
local macro_rules|`(tactic|walk_at"g2")=>`(tactic|with_reducible first|refine G.Zwy ?_|refine G.Zwx ?_|refine G.Zww ?_|refine G.Ze0 ?_|refine G.Zwv ?_|refine G.Zwu ?_)
local macro_rules|`(tactic|walk_at"g2")=>`(tactic|with_reducible first|refine G.Zx0 ?_|refine G.Zxb ?_|refine G.Zvd ?_|refine G.Zv9 ?_|refine G.Zx4 ?_|refine G.Zx3 ?_)
local macro_rules|`(tactic|walk_at"g2")=>`(tactic|with_reducible first|refine G.Zva ?_|refine G.Zsa ?_|refine G.Zsg ?_|refine G.Zlt ?_|refine G.Zsb ?_|refine G.Zx1 ?_)
local macro_rules|`(tactic|walk_at"g2")=>`(tactic|with_reducible first|refine G.Zss ?_|refine G.Zv4 ?_|refine G.Zus ?_|refine G.Zst ?_|refine G.Zxc ?_|refine G.Zsh ?_)
local macro_rules|`(tactic|walk_at"g2")=>`(tactic|with_reducible first|refine G.Zor ?_|refine G.Ze3 ?_|refine G.YS ?_|refine G.Zoz ?_|refine G.Zp0 ?_|refine G.Zuz ?_)
local macro_rules|`(tactic|walk_at"g2")=>`(tactic|with_reducible first|refine G.Zv2 ?_|refine G.Zsl ?_|refine G.Zsk ?_|refine G.Zsj ?_|refine G.Zot ?_|refine G.Zos ?_)
local macro_rules|`(tactic|walk_at"g2")=>`(tactic|with_reducible first|refine G.Zvf ?_|refine G.i_U ?_|refine G.Zvc ?_|refine G.Zvb ?_|refine G.Zv1 ?_|refine G.Zv0 ?_)
local macro_rules|`(tactic|walk_at"g2")=>`(tactic|with_reducible first|refine G.Zuy ?_|refine G.Zqd ?_|refine G.Zsu ?_|refine G.Zux ?_|refine G.Zsc ?_|refine G.Zv6 ?_)
local macro_rules|`(tactic|walk_at"g2")=>`(tactic|with_reducible first|refine G.Ze1 ?_|refine G.Zwz ?_|refine G.i_B ?_|refine G.Zs9 ?_|refine G.Zuv ?_|refine G.Zve ?_)
local macro_rules|`(tactic|walk_at"g2")=>`(tactic|with_reducible first|refine G.mQ ?_|refine G.Zso ?_|refine G.Zg4 ?_|refine G.Zsm ?_|refine G.Fx ?_|refine G.i_C ?_)
local macro_rules|`(tactic|walk_at"g1")=>`(tactic|walk_at"g2")
local macro_rules|`(tactic|walk_at"g1")=>`(tactic|with_reducible refine G.vQ ?_)
local macro_rules | `(tactic| walk_at "ne")=>`(tactic| first | assumption | (exact Ne.symm (by assumption)) | exact L2.aF (by assumption) (by assumption) | exact Ne.symm (L2.aF (by assumption) (by assumption)) | exact Nat.ne_of_lt (by assumption))
local macro_rules | `(tactic| walk_at "hp")=>`(tactic| first | assumption | exact L2.aq | (refine Eq.trans (L2.aC ?hne) ?_;(case hne=>walk_at "ne");walk_at "hp"))
local macro_rules | `(tactic| walk_at"d")=>`(tactic| first | omega | decide | (show (_:Int)<_;decide) | exact ⟨ε,ε⟩ | exact ⟨ε,ε,ε⟩ | (unfold L2.Mi;omega) | exact .inl (by unfold L2.Mi;omega))
local macro_rules | `(tactic| walk_at"e")=>`(tactic| repeat (first | walk_at "g1" | ((with_reducible refine G.i_I ?hc ?_);(case hc=>walk_at"d"))))
local macro_rules | `(tactic| walk_at"s")=>`(tactic| repeat (first | walk_at "g2" | ((with_reducible refine G.i_I ?hc ?_);(case hc=>walk_at"d"))))
local macro_rules | `(tactic| walk_at"c")=>`(tactic| simp only [List.map_cons,List.map_nil,G.pick,List.getElem?_cons_zero,List.getElem?_cons_succ])
local macro_rules | `(tactic| apply $e)=>`(tactic| (walk_at"e";refine $e))
local macro_rules | `(tactic| exists $e,*)=>`(tactic| (walk_at"e";refine⟨$e,*, ?_⟩))
local macro_rules | `(tactic| ext)=>`(tactic| walk_at"e")
local macro_rules | `(tactic| left)=>`(tactic| walk_at"s")
local macro_rules | `(tactic| right)=>`(tactic| (have h2:=(Except.ok.inj h);rw[<- (Prod.mk.inj h2).2]))
namespace ZQ
open PySem L2 G
def jK(birth:Int)(bulk:Int)(tone:Int)(load:Int)(fa:AI):List (Str×V):=[("birth",.int birth),("bulk",.int bulk),("tone",.int tone),("load",.int load),("fields",.ref fa)]
theorem eF{birth:Int}{bulk:Int}{tone:Int}{load:Int}{fa:AI}:List.lookup ("birth":Str) b8=some (.int birth:V):=rfl
theorem An{birth:Int}{bulk:Int}{tone:Int}{load:Int}{fa:AI}:List.lookup ("bulk":Str) b8=some (.int bulk:V):=rfl
theorem TX{birth:Int}{bulk:Int}{tone:Int}{load:Int}{fa:AI}:List.lookup ("tone":Str) b8=some (.int tone:V):=rfl
theorem sG{birth:Int}{bulk:Int}{tone:Int}{load:Int}{fa:AI}:List.lookup ("load":Str) b8=some (.int load:V):=rfl
theorem gK{birth:Int}{bulk:Int}{tone:Int}{load:Int}{fa:AI}:List.lookup ("fields":Str) b8=some (.ref fa:V):=rfl
theorem QZ{birth:Int}{bulk:Int}{tone:Int}{load:Int}{fa:AI}(y:Int):bZ "tone" (.int y) b8=jK birth bulk y load fa:=rfl
theorem Q3{birth:Int}{bulk:Int}{tone:Int}{load:Int}{fa:AI}(y:Int):bZ "load" (.int y) b8=jK birth bulk tone y fa:=rfl
theorem Zmx{birth:Int}{bulk:Int}{tone:Int}{load:Int}{fa:AI}:(bZ "fields" (.ref fa) (bZ "load" (.int load) (bZ "tone" (.int tone) (bZ "bulk" (.int bulk) (bZ "birth" (.int birth) [])))))=jK birth bulk tone load fa:=rfl
theorem qj{birth:Int}{bulk:Int}{tone:Int}{load:Int}{fa:AI}:List.lookup ("units":Str) b8=none:=rfl
theorem Bg{birth:Int}{bulk:Int}{tone:Int}{load:Int}{fa:AI}:List.lookup ("has_field":Str) b8=none:=rfl
def iJ(room:Int)(ca:AI)(used:Int)(born:Int):List (Str×V):=[("room",.int room),("cells",.ref ca),("used",.int used),("born",.int born)]
theorem Aa{room:Int}{ca:AI}{used:Int}{born:Int}:List.lookup ("room":Str) cr=some (.int room:V):=rfl
theorem bN{room:Int}{ca:AI}{used:Int}{born:Int}:List.lookup ("cells":Str) cr=some (.ref ca:V):=rfl
theorem nF{room:Int}{ca:AI}{used:Int}{born:Int}:List.lookup ("used":Str) cr=some (.int used:V):=rfl
theorem TJ{room:Int}{ca:AI}{used:Int}{born:Int}:List.lookup ("born":Str) cr=some (.int born:V):=rfl
theorem xK{room:Int}{ca:AI}{used:Int}{born:Int}(y:Int):bZ "used" (.int y) cr=iJ room ca y born:=rfl
theorem QG{room:Int}{ca:AI}{used:Int}{born:Int}(y:Int):bZ "born" (.int y) cr=iJ room ca used y:=rfl
theorem Zm2{room:Int}{ca:AI}{used:Int}{born:Int}:(bZ "born" (.int born) (bZ "used" (.int used) (bZ "cells" (.ref ca) (bZ "room" (.int room) []))))=iJ room ca used born:=rfl
theorem Tw{room:Int}{ca:AI}{used:Int}{born:Int}:List.lookup ("make":Str) cr=none:=rfl
theorem YX{room:Int}{ca:AI}{used:Int}{born:Int}:List.lookup ("lay":Str) cr=none:=rfl
theorem TF{room:Int}{ca:AI}{used:Int}{born:Int}:List.lookup ("back":Str) cr=none:=rfl
theorem Tz{room:Int}{ca:AI}{used:Int}{born:Int}:List.lookup ("free":Str) cr=none:=rfl
theorem xM{room:Int}{ca:AI}{used:Int}{born:Int}:List.lookup ("there":Str) cr=none:=rfl
def Qm(lk:AI)(tl:Int):List (Str×V):=[("looking",.ref lk),("tells",.int tl)]
theorem jQ{lk:AI}{tl:Int}:List.lookup ("looking":Str) (Qm lk tl)=some (.ref lk:V):=rfl
theorem xG{lk:AI}{tl:Int}:List.lookup ("tells":Str) (Qm lk tl)=some (.int tl:V):=rfl
theorem Zlo{lk:AI}{tl:Int}:(bZ "tells" (.int tl) (bZ "looking" (.ref lk) []))=Qm lk tl:=rfl
def Zg6(nm:Str)(sa:AI):List (Str×V):=[("name",.str nm),("slots",.ref sa)]
theorem lX{nm:Str}{sa:AI}:List.lookup ("slots":Str) (Zg6 nm sa)=some (.ref sa:V):=rfl
theorem Zm3{nm:Str}{sa:AI}:(bZ "slots" (.ref sa) (bZ "name" (.str nm) []))=Zg6 nm sa:=rfl
def wu(hp:AI)(ki:AI)(hl:AI)(nm:AI)(sw:AI):List (Str×V):=[("heap",.ref hp),("kind",.ref ki),("hands",.ref hl),("names",.ref nm),("sweeper",.ref sw)]
theorem aW{hp:AI}{ki:AI}{hl:AI}{nm:AI}{sw:AI}:List.lookup ("heap":Str) (wu hp ki hl nm sw)=some (.ref hp:V):=rfl
theorem iw{hp:AI}{ki:AI}{hl:AI}{nm:AI}{sw:AI}:List.lookup ("kind":Str) (wu hp ki hl nm sw)=some (.ref ki:V):=rfl
theorem dD{hp:AI}{ki:AI}{hl:AI}{nm:AI}{sw:AI}:List.lookup ("hands":Str) (wu hp ki hl nm sw)=some (.ref hl:V):=rfl
theorem fV{hp:AI}{ki:AI}{hl:AI}{nm:AI}{sw:AI}:List.lookup ("names":Str) (wu hp ki hl nm sw)=some (.ref nm:V):=rfl
theorem aZ{hp:AI}{ki:AI}{hl:AI}{nm:AI}{sw:AI}:List.lookup ("sweeper":Str) (wu hp ki hl nm sw)=some (.ref sw:V):=rfl
theorem Zgy{hp:AI}{ki:AI}{hl:AI}{nm:AI}{sw:AI}:(bZ "sweeper" (.ref sw) (bZ "names" (.ref nm) (bZ "hands" (.ref hl) (bZ "kind" (.ref ki) (bZ "heap" (.ref hp) [])))))=wu hp ki hl nm sw:=rfl
def bY(se:Int)(ph:Str)(gr:AI)(lo:Int)(c:Int)(at_:Int)(st:Int)(d:Int)(ls:Int)(a:Int)(b:V):List (Str×V):=[("sense",.int se),("phase",.str ph),("grey",.ref gr),("looked",.int lo),("turn",.int c),("at",.int at_),("stop",.int st),("walks",.int d),("looks",.int ls),("passes",.int a),("loss",b)]
theorem kE{se:Int}{ph:Str}{gr:AI}{lo:Int}{c:Int}{at_:Int}{st:Int}{d:Int}{ls:Int}{a:Int}{b:V}:List.lookup ("sense":Str) Ψ=some (.int se:V):=rfl
theorem eN{se:Int}{ph:Str}{gr:AI}{lo:Int}{c:Int}{at_:Int}{st:Int}{d:Int}{ls:Int}{a:Int}{b:V}:List.lookup ("phase":Str) Ψ=some (.str ph:V):=rfl
theorem lM{se:Int}{ph:Str}{gr:AI}{lo:Int}{c:Int}{at_:Int}{st:Int}{d:Int}{ls:Int}{a:Int}{b:V}:List.lookup ("grey":Str) Ψ=some (.ref gr:V):=rfl
theorem gA{se:Int}{ph:Str}{gr:AI}{lo:Int}{c:Int}{at_:Int}{st:Int}{d:Int}{ls:Int}{a:Int}{b:V}:List.lookup ("looked":Str) Ψ=some (.int lo:V):=rfl
theorem pJ{se:Int}{ph:Str}{gr:AI}{lo:Int}{a:Int}{at_:Int}{st:Int}{d:Int}{ls:Int}{b:Int}{c:V}:List.lookup ("turn":Str) (bY se ph gr lo a at_ st d ls b c)=some (.int a:V):=rfl
theorem BR{se:Int}{ph:Str}{gr:AI}{lo:Int}{c:Int}{at_:Int}{st:Int}{d:Int}{ls:Int}{a:Int}{b:V}:List.lookup ("at":Str) Ψ=some (.int at_:V):=rfl
theorem M8{se:Int}{ph:Str}{gr:AI}{lo:Int}{c:Int}{at_:Int}{st:Int}{d:Int}{ls:Int}{a:Int}{b:V}:List.lookup ("stop":Str) Ψ=some (.int st:V):=rfl
theorem vp{se:Int}{ph:Str}{gr:AI}{lo:Int}{d:Int}{at_:Int}{st:Int}{a:Int}{ls:Int}{b:Int}{c:V}:List.lookup ("walks":Str) (bY se ph gr lo d at_ st a ls b c)=some (.int a:V):=rfl
theorem oH{se:Int}{ph:Str}{gr:AI}{lo:Int}{c:Int}{at_:Int}{st:Int}{d:Int}{ls:Int}{a:Int}{b:V}:List.lookup ("looks":Str) Ψ=some (.int ls:V):=rfl
theorem sS{se:Int}{ph:Str}{gr:AI}{lo:Int}{c:Int}{at_:Int}{st:Int}{d:Int}{ls:Int}{a:Int}{b:V}:List.lookup ("passes":Str) Ψ=some (.int a:V):=rfl
theorem M9{se:Int}{ph:Str}{gr:AI}{lo:Int}{c:Int}{at_:Int}{st:Int}{d:Int}{ls:Int}{b:Int}{a:V}:List.lookup ("loss":Str) (bY se ph gr lo c at_ st d ls b a)=some (a:V):=rfl
theorem GJ{se:Int}{ph:Str}{gr:AI}{lo:Int}{c:Int}{at_:Int}{st:Int}{d:Int}{ls:Int}{a:Int}{b:V}(y:Int):bZ "sense" (.int y) Ψ=bY y ph gr lo c at_ st d ls a b:=rfl
theorem jL{se:Int}{ph:Str}{gr:AI}{lo:Int}{c:Int}{at_:Int}{st:Int}{d:Int}{ls:Int}{a:Int}{b:V}(y:Str):bZ "phase" (.str y) Ψ=bY se y gr lo c at_ st d ls a b:=rfl
theorem Ln{se:Int}{ph:Str}{gr:AI}{lo:Int}{c:Int}{at_:Int}{st:Int}{d:Int}{ls:Int}{a:Int}{b:V}(y:AI):bZ "grey" (.ref y) Ψ=bY se ph y lo c at_ st d ls a b:=rfl
theorem qF{se:Int}{ph:Str}{gr:AI}{lo:Int}{c:Int}{at_:Int}{st:Int}{d:Int}{ls:Int}{a:Int}{b:V}(y:Int):bZ "looked" (.int y) Ψ=bY se ph gr y c at_ st d ls a b:=rfl
theorem Lh{se:Int}{ph:Str}{gr:AI}{lo:Int}{d:Int}{at_:Int}{st:Int}{c:Int}{ls:Int}{a:Int}{b:V}(y:Int):bZ "turn" (.int y) (bY se ph gr lo d at_ st c ls a b)=bY se ph gr lo y at_ st c ls a b:=rfl
theorem yS{se:Int}{ph:Str}{gr:AI}{lo:Int}{c:Int}{at_:Int}{st:Int}{d:Int}{ls:Int}{a:Int}{b:V}(y:Int):bZ "at" (.int y) Ψ=bY se ph gr lo c y st d ls a b:=rfl
theorem Li{se:Int}{ph:Str}{gr:AI}{lo:Int}{c:Int}{at_:Int}{st:Int}{d:Int}{ls:Int}{a:Int}{b:V}(y:Int):bZ "stop" (.int y) Ψ=bY se ph gr lo c at_ y d ls a b:=rfl
theorem sO{se:Int}{ph:Str}{gr:AI}{lo:Int}{c:Int}{at_:Int}{st:Int}{d:Int}{ls:Int}{a:Int}{b:V}(y:Int):bZ "walks" (.int y) Ψ=bY se ph gr lo c at_ st y ls a b:=rfl
theorem mz{se:Int}{ph:Str}{gr:AI}{lo:Int}{c:Int}{at_:Int}{st:Int}{d:Int}{ls:Int}{a:Int}{b:V}(y:Int):bZ "looks" (.int y) Ψ=bY se ph gr lo c at_ st d y a b:=rfl
theorem qD{se:Int}{ph:Str}{gr:AI}{lo:Int}{b:Int}{at_:Int}{st:Int}{c:Int}{ls:Int}{d:Int}{a:V}(y:Int):bZ "passes" (.int y) (bY se ph gr lo b at_ st c ls d a)=bY se ph gr lo b at_ st c ls y a:=rfl
theorem Lj{se:Int}{ph:Str}{gr:AI}{lo:Int}{b:Int}{at_:Int}{st:Int}{c:Int}{ls:Int}{a:Int}{d:V}(y:V):bZ "loss" (y) (bY se ph gr lo b at_ st c ls a d)=bY se ph gr lo b at_ st c ls a y:=rfl
theorem Zh4{se:Int}{ph:Str}{gr:AI}{lo:Int}{c:Int}{at_:Int}{st:Int}{d:Int}{ls:Int}{a:Int}{b:V}:(bZ "loss" (b) (bZ "passes" (.int a) (bZ "looks" (.int ls) (bZ "walks" (.int d) (bZ "stop" (.int st) (bZ "at" (.int at_) (bZ "turn" (.int c) (bZ "looked" (.int lo) (bZ "grey" (.ref gr) (bZ "phase" (.str ph) (bZ "sense" (.int se) [])))))))))))=bY se ph gr lo c at_ st d ls a b:=rfl
def tK(K:aB):TS:=
 (aM (eG K π ψ "birth")
   (aM (eG K π Φ "bulk")
   (aM (eG K π ba "tone")
   (aM (eG K π υ "load")
   (eG K π (bx (Zr9) (fG (aj c8 aD)) Ω) "fields")))))
def zK(K:aB):TS:=
 (bH (bx Θ (bx Θ τ (oF dL (aj (bz K π "fields") aD))) (bz K π "bulk")))
def qM(K:aB):TS:=
 (bH (Zco (jC λi j=>.bl (decide (i<=j))) bb υ ψ (oF dL (aj (bz K π "fields") aD))))
def tG(K:aB):TS:=
 (aM (eG K π ψ "room")
   (aM (eG K π (fG aD) "cells")
   (aM (eG K π υ "used")
   (eG K π υ "born"))))
def Dv(K:aB)(a f b:AI)(e c g d:Sp)(E:XK):TS:=
 (aM (bC (qC a e [] E0 (aj (bx Θ (bz K π "born") τ) (aj ψ (aj Ω cn)))) (aL 4))
   (aM (cU (bL (bx (jC λi j=>.bl (decide (j<i))) (gO a "units" c [] E0 ba aD) (gO b "free" g [] E0 π aD))) (G.Gy f E (aj (tC (.str "the room does not suffice")) aD)) bW)
   (aM (eG K π (bz K ba "birth") "born")
   (aM (eG K π (bx Θ (bz K π "used") (gO a "units" c [] E0 ba aD)) "used")
   (bH (gO b "lay" d [] E0 π (aj ba aD)))))))
def Jz(K:aB):TS:=
 (aM (cU (bL (bx (G.Zra K true) c8 eg)) (aM (mj (tBM K "list" oX eg bS))
   (bH (bx cq (oF dL (aj eg aD)) τ))) bW)
   (aM (bC (tBM K "list" (G.Zfq K) eg (aj c8 aD)) ec)
   (aM (bC ψ (QJ eg Ω zL))
   (bH Ω))))
def Dy(K:aB)(a:AI)(b:Sp):TS:=
 (aM (bC (bx eu eg ψ) ec)
   (aM (eG K π (bx cq (bz K π "used") (gO a "units" b [] E0 Ω aD)) "used")
   (aM (bC c8 (QJ eg ψ zL))
   (bH (bz K Ω "birth")))))
def Dw(K:aB):TS:=
 (bH (bx cq (bz K π "room") (bz K π "used")))
def rP(K:aB):TS:=
 (bH (G.ZZ (xJ (aj (oF dL (aj eg aD)) aD)) [0] (bL (bx (G.zM) (bx eu (bz K ψ "cells") π) c8)) π))
def Oh(K:aB):TS:=
 (aM (cU ((Iz (bL (bx (G.R5) ψ c8)) (Iz (bL (bx bb ψ υ)) (bL (bx (jC λi j=>.bl (decide (j<=i))) ψ (oF dL (aj eg aD))))))) (bH c8) bW)
   (bH (bx eu eg ψ)))
def Jy(K:aB)(a:Sp):TS:=
 (aM (bC (aQ a [] E0 (aj π bS)) ec)
   (aM (cU (bL (bx (G.R5) Ω c8)) (bH c8) bW)
   (bH (bz K Ω "birth"))))
def Aq(K:aB)(a:Sp):TS:=
 (aM (bC (fG aD) ec)
   (aM (rG (G.Zbp K bS) (Zij K 2 (xN db (xN (aL 4) Zik)))
   (mj (tBM K "list" Mp Ω (aj (aQ a [] E0 (aj π (aj ba (aj (dI cn) aD)))) aD))))
   (aM (bC (GF) (aL 5))
   (aM (bC υ (aL 6))
   (aM (W9 (bL (bx bb (ak 6) (oF dL dA))) (aM (bC (bx a6 (bx eu Ω (ak 6)) υ) (aL 7))
   (aM (bC (bx a6 (bx eu Ω (ak 6)) τ) (aL 8))
   (aM (bC (bx Θ (ak 6) τ) (aL 6))
   (cU (tB (G.Zjh true (ak 7) eA)) (aM (Ju eA (ak 7) (ak 8))
   (mj (tBM K "list" Mp Ω (aj (aQ a [] E0 (aj π (aj (bz K (bx eu eg (ak 7)) "fields") (aj (ak 8) aD)))) aD)))) bW)))))
   (bH (oF (G.Zev) (aj (G.Zcn eA) aD))))))))
def yw(K:aB)(a:Sp):TS:=
 (bH (G.Zjg K (G.Zbp K bS) [0,2] (bL (bx (G.zM) (aQ a [] E0 (aj Ω bS)) c8)) (dI (aj ψ (aj (bx (Zq2 K) Φ (dI bc)) aD)))))
def tH(K:aB):TS:=
 (aM (eG K π ψ "name")
   (eG K π (bx (Zr9) (fG (aj c8 aD)) Ω) "slots"))
def oM(K:aB):TS:=
 (aM (eG K π υ "sense")
   (aM (eG K π (tC (.str "rest")) "phase")
   (aM (eG K π (fG aD) "grey")
   (aM (eG K π υ "looked")
   (aM (eG K π υ "turn")
   (aM (eG K π υ "at")
   (aM (eG K π υ "stop")
   (aM (eG K π υ "walks")
   (aM (eG K π υ "looks")
   (aM (eG K π υ "passes")
   (eG K π c8 "loss")))))))))))
def qI(K:aB)(a f b:AI)(c e d:Sp):TS:=
 (aM (eG K π (qC f e [] E0 bS) "heap")
   (aM (eG K π Ω "kind")
   (aM (eG K π (G.Zjg K (jz K Φ) [] G.pI (qC a c [] E0 (aj π bS))) "hands")
   (aM (eG K π (GF) "names")
   (eG K π (qC b d [] E0 aD) "sweeper")))))
def Xr(K:aB):TS:=
 (bH (G.ZZ (jz K (bz K π "hands")) [] G.pI (oF (G.Bh K) (aj (bz K π "slots") aD))))
def pP(K:aB)(a:Sp):TS:=
 (bH (G.ZZ (jz K (bz K π "hands")) [0] G.pI (aQ a [] E0 (aj (bz K ψ "heap") (aj (bz K π "slots") aD)))))
def Di(K:aB)(a:Sp):TS:=
 (bH (G.ZZ (jz K ψ) [0] G.pI (aQ a [] E0 (aj ψ bc))))
def Df(K:aB):TS:=
 (bH (bx (wk) (bx dy (bx ep (bz K aE "looked") ψ) τ) τ))
def Dg(K:aB):TS:=
 (bH (bx (wk) (bz K ψ "tone") (bz K aE "sense")))
def zz(K:aB):TS:=
 (bH (bx (rIn K false) (bz K aE "phase") (dI (aj (tC (.str "walk")) (aj (tC (.str "lost")) aD)))))
def N6(K:aB)(a:Sp):TS:=
 (aM (bC aE ec)
   (aM (bC (aQ a [] E0 (aj π (aj (bx eu (bz K ax "cells") ψ) aD))) db)
   (aM (cU (bL (bx (wk) (bz K Ω "phase") (tC (.str "rest")))) (bH (tC (.str "kept"))) bW)
   (aM (cU (bL (bx (wk) (bz K Ω "phase") (tC (.str "give")))) (bH (tIf (tB Φ) (tC (.str "kept")) (tC (.str "doomed")))) bW)
   (aM (cU (sJ (tB Φ)) (bH (tC (.str "pale"))) bW)
   (bH (tIf (bL (bx (rIn K false) ψ (bz K Ω "grey"))) (tC (.str "grey")) (tC (.str "dark")))))))))
def zp(K:aB)(b:AI)(a c:Sp):TS:=
 (bH (G.ZZ (jz K (gO b "there" a [] E0 ax aD)) [0] G.pI (aQ c [] E0 (aj ψ bc))))
def De(K:aB)(b a:Sp):TS:=
 (aM (bC (bx eu (bz K ax "cells") ψ) ec)
   (aM (bC (aQ b [] E0 (aj ax (aj (bz K Ω "fields") aD))) db)
   (bH (dI (aj ψ (aj (bz K Ω "birth") (aj (bz K Ω "bulk") (aj (bz K Ω "load") (aj Φ (aj (aQ a [] E0 (aj π bS)) aD))))))))))
def Za6(K:aB)(b c d:AI)(e a:Sp):TS:=
 (aM (bC aE (aL 1))
   (aM (eG K ψ (bx cq τ (bz K ψ "sense")) "sense")
   (aM (eG K ψ (bx Θ (bz K ψ "turn") τ) "turn")
   (aM (eG K ψ (tC (.str "walk")) "phase")
   (aM (eG K ψ (fG aD) "grey")
   (aM (eG K ψ (G.Gz (gO c "at_begin" e [] E0 (bz K (bz K π "kind") "looking") ck) (G.Gz (gO b "at_begin" a [] E0 (bz K (bz K π "kind") "looking") ck) (gO d "at_begin" a [] E0 (bz K (bz K π "kind") "looking") ck))) "looked")
   (aM (eG K ψ υ "walks")
   (aM (eG K ψ υ "looks")
   (eG K ψ υ "passes")))))))))
def Zfn(K:aB)(a b:Sp):TS:=
 (aM (bC aE ec)
   (aM (bC (aQ a [] E0 (aj ax bS)) db)
   (aM (cU ((Iz (bL (bx (Xv) (bz K Ω "phase") (tC (.str "walk")))) (Iz (bL (bx (G.R5) Φ c8)) (tB (aQ b [] E0 (aj π cn)))))) (bH c8) bW)
   (aM (eG K Φ (bz K Ω "sense") "tone")
   (aM (mj (tBM K "list" oX (bz K Ω "grey") bS))
   (bH (bz K Φ "birth")))))))
def Jw(K:aB)(a:Sp):TS:=
 (aM (bC (fG aD) ec)
   (aM (rG (jz K ψ) db
   (aM (bC (aQ a [] E0 (aj π cn)) (aL 4))
   (cU (bL (bx (G.zM) ba c8)) (mj (tBM K "list" oX Ω (aj ba aD))) bW)))
   (bH Ω)))
def Zfo(K:aB)(a b:Sp):TS:=
 (aM (bC (aQ a [] E0 (aj ax bS)) db)
   (aM (cU ((Iz (bL (bx (G.R5) Φ c8)) (bL (bx (Xv) (bz K Φ "birth") Ω)))) (bH (tC (.bl true))) bW)
   (bH ((Z0 (bx (wk) (bz K aE "phase") (tC (.str "give"))) (Zff (aQ b [] E0 (aj π cn))))))))
def Za5(K:aB)(b a:Sp)(H0:Hp):TS:=
 (bH (bx (qw) (aQ b [] E0 bc) (fG (aj (G.Zje H0 (G.Zjg K (G.Zly (G.Zjd (bz K π "names"))) [0] G.pI (aQ a [] E0 (aj Ω (aj π bS))))) aD))))
def N5(K:aB)(c b a:Sp):TS:=
 (aM (cU (tB (aQ c [] E0 (aj π (aj ψ dA)))) (bH c8) bW)
   (aM (cU ((Xb (tB (aQ a [] E0 bc)) (sJ (tB (aQ b [] E0 (aj π (aj (bx eu (bz K ax "cells") ψ) aD))))))) (bH c8) bW)
   (bH ψ)))
def zy(K:aB)(a:Sp):TS:=
 (aM (bC (fG aD) ec)
   (aM (rG (G.Zbp K (aj (bz K π "hands") aD)) (Zij K 2 (xN db (xN (aL 4) Zik)))
   (cU (bL (bx (wk) (bx dy (bx ep ψ Φ) τ) τ)) (mj (tBM K "list" Mp Ω (aj (aQ a [] E0 (aj π (aj (bz K ba "slots") aD))) aD))) bW))
   (bH Ω)))
def vH(K:aB)(a b:Sp):TS:=
 (aM (mj (aQ a [] E0 bc))
   (aM (bC (aQ b [] E0 (aj π (aj (bz K aE "looked") aD))) (aL 1))
   (bH (dI (aj (tC (.str "begin")) (aj (bz K aE "turn") bS))))))
def vD(K:aB)(b a:Sp):TS:=
 (aM (cU (G.Zqx K (bz K aE "grey")) (bH (aQ a [] E0 bc)) bW)
   (bH (aQ b [] E0 bc)))
def Zfm(K:aB)(a:Sp):TS:=
 (aM (bC aE (aL 1))
   (aM (bC (bx eu (bz K ax "cells") (tBM K "list" Zjz (bz K ψ "grey") (aj υ aD))) ec)
   (aM (eG K ψ (bx Θ (bz K ψ "walks") τ) "walks")
   (bH (dI (aj (tC (.str "walk")) (aj (bz K Ω "birth") (aj (aQ a [] E0 (aj π (aj (bz K Ω "fields") aD))) aD))))))))
def jV(K:aB)(c e f:AI)(d a b g:Sp):TS:=
 (aM (bC (aQ g [] E0 (aj π cn)) (aL 4))
   (aM (cU ((Iz (bL (bx (wk) Φ υ)) (sJ ((Iz (tB (G.Gz (gO e "stays" a [] E0 Ω aD) (G.Gz (gO c "stays" a [] E0 Ω aD) (gO f "stays" d [] E0 Ω aD)))) (G.Zqx K ba)))))) (bH (aQ b [] E0 bc)) bW)
   (aM (eG K ψ (bx Θ (bz K ψ "looks") τ) "looks")
   (aM (cU (tB (G.Gz (gO e "stays" a [] E0 Ω aD) (G.Gz (gO c "stays" a [] E0 Ω aD) (gO f "stays" d [] E0 Ω aD)))) (eG K ψ (bx (jC λi j=>.int (Builtin.bitOr i j)) (bz K ψ "looked") Φ) "looked") bW)
   (bH (dI (aj (tC (.str "look")) (aj Φ (aj ba aD)))))))))
def wL(K:aB)(b c d:AI)(e j f g i a h:Sp):TS:=
 (aM (bC aE (aL 1))
   (aM (bC (bz K (bz K π "kind") "looking") ec)
   (aM (bC (G.Gz (gO c "next_look" g [] E0 Ω (aj (bz K ψ "looked") ck)) (G.Gz (gO b "next_look" e [] E0 Ω (aj (bz K ψ "looked") ck)) (gO d "next_look" j [] E0 Ω (aj (bz K ψ "looked") ck)))) db)
   (jV K b c d f i a h))))
def Zjx(K:aB)(a c d b:Sp):TS:=
 (aM (bC aE (aL 1))
   (aM (eG K ψ (oF dL (aj (bz K ax "cells") aD)) "stop")
   (aM (eG K ψ υ "at")
   (aM (bC (aQ c [] E0 bc) ec)
   (aM (cU (bL (bx (G.zM) Ω c8)) (aM (eG K ψ (tC (.str "lost")) "phase")
   (aM (eG K ψ Ω "loss")
   (bH (aQ b [] E0 dA)))) bW)
   (aM (eG K ψ (tC (.str "give")) "phase")
   (aM (bC (aQ a [] E0 (aj ax (aj (aQ d [] E0 bc) aD))) db)
   (bH (dI (aj (tC (.str "cut")) (aj (oF dL cn) cn)))))))))))
def zA(K:aB)(c a b:Sp):TS:=
 (aM (rG (jz K (aQ a [] E0 (aj ax (aj (aQ b [] E0 bc) aD)))) (Zij K 2 (xN (aL 1) (xN ec Zik)))
   (aM (bC (bx eu (bz K ax "cells") ψ) db)
   (cU (sJ (tB (aQ c [] E0 (aj π cn)))) (bH (dI (aj (tC (.str "lost")) (aj (bz K Φ "birth") (aj (oF (G.Zmz K) dA) aD))))) bW)))
   (bH c8))
def wM(K:aB)(c:AI)(a b:Sp):TS:=
 (aM (bC ax (aL 1))
   (bH (G.ZZ (jz K (gO c "there" a [] E0 ψ aD)) [0,1] (sJ (tB (aQ b [] E0 (aj ψ (aj (bx eu (bz K Ω "cells") π) aD))))) π)))
def zq(K:aB):TS:=
 (bH (dI (aj (bx a6 π υ) (aj (bx a6 π τ) (aj (oF (G.Bh K) (aj (bx a6 π am) aD)) aD)))))
def vG(K:aB)(a b:Sp):TS:=
 (aM (cU (bL (bx bb (bz K aE "at") (bz K aE "stop"))) (bH (aQ b [] E0 bc)) bW)
   (bH (aQ a [] E0 bc)))
def zx(K:aB)(c:AI)(d a b:Sp):TS:=
 (aM (bC aE (aL 1))
   (aM (bC (bz K ψ "at") ec)
   (aM (eG K ψ (bx Θ Ω τ) "at")
   (aM (eG K ψ (bx Θ (bz K ψ "passes") τ) "passes")
   (aM (bC (aQ a [] E0 (aj ax dA)) db)
   (aM (cU ((Iz (bL (bx (G.R5) Φ c8)) (tB (aQ b [] E0 (aj π cn))))) (bH (dI (aj (tC (.str "pass")) (aj Ω (aj (fG aD) aD))))) bW)
   (bH (dI (aj (tC (.str "back")) (aj (gO c "back" d [] E0 ax dA) (aj (fG dA) aD)))))))))))
def Zjv(K:aB):TS:=
 (aM (bC aE (aL 1))
   (aM (eG K ψ (tC (.str "rest")) "phase")
   (bH (dI (aj (tC (.str "end")) (aj (bz K ψ "turn") (aj (fG (aj (bz K ψ "walks") (aj (bz K ψ "looks") (aj (bz K ψ "passes") aD)))) aD)))))))
def qH(K:aB)(a:Sp):TS:=
 (bH (aQ a [] E0 (aj (bz K aE "loss") aD)))
def Xq(K:aB)(d b c a:AI)(e f g h:Sp):TS:=
 (aM (bC (G.Znj [("rest",d),("walk",c),("give",b),("lost",a)] (bz K aE "phase")) (aL 1))
   (bH (G.Xa 1 [(d,e),(c,g),(b,f),(a,h)] E0 bc)))
def NZ(K:aB)(a:Sp):TS:=
 (aM (bC υ (aL 1))
   (aM (W9 (bL (bx (rIn K true) (bz K aE "phase") (dI (aj (tC (.str "rest")) (aj (tC (.str "lost")) aD))))) (aM (mj (aQ a [] E0 bc))
   (bC (bx Θ ψ τ) (aL 1))))
   (bH ψ)))
def Vo:TS:=
 (bH (bx cq (bx (rI ZM λi j=>.int (i * 2 ^ j.toNat)) τ π) τ))
def oO:TS:=
 (bH υ)
def nH:TS:=
 (bH υ)
def tD:TS:=
 (bH (tC (.bl true)))
def qK(a:Sp):TS:=
 (bH (aQ a [] E0 bS))
def qL:TS:=
 (aM (rG (xJ dA) db
   (cU (bL (bx (wk) (bx dy (bx ep ψ Φ) τ) υ)) (bH (bx (rI ZM λi j=>.int (i * 2 ^ j.toNat)) τ Φ)) bW))
   (bH υ))
def qJ(a:Sp):TS:=
 (bH (aQ a [] E0 dA))
def zJ:TS:=
 (bH (tC (.bl false)))
def tE(K:aB):TS:=
 (aM (eG K π ψ "looking")
   (eG K π Ω "tells"))
def Jv(K:aB):TS:=
 (bH (bz K (bx eu (bz K π "hands") ψ) "slots"))
def Og(K:aB)(c:AI)(a b:Sp)(E:XK):TS:=
 (aM (bC (aQ a [] E0 (aj ax (aj (bx eu (aQ b [] E0 (aj π bS)) Ω) aD))) db)
   (aM (cU (bL (bx (G.R5) Φ c8)) (G.Gy c E (aj (tC (.str "the slot holds no cell")) aD)) bW)
   (bH Φ)))
def Dh(K:aB)(a b:AI)(c d:Sp)(E:XK):TS:=
 (aM (bC (aQ d [] E (aj π (aj ψ dA))) (aL 4))
   (aM (cU (sJ (tB (gO a "has_field" c [] E0 ba cn))) (G.Gy b E (aj (tC (.str "the cell does not have the field")) aD)) bW)
   (bH (bz K ba "fields"))))
def wI(K:aB):TS:=
 (aM (cU (bL (bx (wk) (bx dy (bz K (bz K π "kind") "tells") τ) υ)) (bH (fG aD)) bW)
   (bH (fG bS)))
def wJ(K:aB)(a:Sp):TS:=
 (aM (cU ((Iz (bL (bx (wk) (bx dy (bz K (bz K π "kind") "tells") am) υ)) (tB (aQ a [] E0 (aj π bS))))) (bH (fG aD)) bW)
   (bH (fG dA)))
def Ob(K:aB)(c:AI)(a d b:Sp)(E:XK):TS:=
 (aM (bC (aQ b [] E0 (aj π (aj (bx a6 ψ τ) aD))) ec)
   (aM (bC (bx a6 ψ aT) db)
   (aM (bC (bx a6 ψ cw) (aL 4))
   (aM (bC (gO c "make" a [] E ax (aj Φ (aj ba (aj (bz K aE "sense") aD)))) (aL 5))
   (aM (bC eA (QJ Ω (bx a6 ψ am) zL))
   (bH (dI (aj (tC (.str "made")) (aj (aQ d [] E0 (aj ax (aj eA aD))) (aj (fG aD) aD))))))))))
def Vn(K:aB)(b c a:Sp)(E:XK):TS:=
 (aM (bC (bx a6 ψ τ) ec)
   (aM (bC (bx a6 ψ aT) db)
   (aM (bC (bx a6 ψ cw) (aL 4))
   (aM (bC (bx eu (aQ c [] E (aj π (aj Ω (aj Φ (aj ba aD))))) ba) (aL 5))
   (aM (bC eA (QJ (aQ a [] E0 (aj π dA)) (bx a6 ψ am) zL))
   (bH (dI (aj (tC (.str "got")) (aj (aQ b [] E0 (aj ax (aj eA aD))) (aj (fG aD) aD))))))))))
def Vm(K:aB)(a f d b e c:Sp)(E:XK):TS:=
 (aM (bC (bx a6 ψ τ) ec)
   (aM (bC (bx a6 ψ aT) db)
   (aM (bC (aQ f [] E (aj π (aj Ω (aj (bx a6 ψ am) cn)))) (aL 4))
   (aM (bC (bx eu ba Φ) (aL 5))
   (aM (bC (bx eu (aQ b [] E0 (aj π dA)) (bx a6 ψ cw)) (aL 6))
   (aM (bC (ak 6) (QJ ba Φ zL))
   (aM (bC (aQ d [] E0 (aj π (aj (bx (qw) (aQ c [] E0 (aj π (aj eA aD))) (aQ e [] E0 (aj π (aj Ω (aj (ak 6) aD))))) aD))) (aL 7))
   (bH (dI (aj (tC (.str "put")) (aj (aQ a [] E0 (aj ax (aj eA aD))) (aj (ak 7) aD))))))))))))
def Oe(K:aB)(b a:Sp):TS:=
 (aM (bC (aQ a [] E0 (aj π (aj (bx a6 ψ τ) aD))) ec)
   (aM (bC (bx eu Ω (bx a6 ψ aT)) db)
   (aM (bC Φ (QJ Ω (bx a6 ψ am) zL))
   (bH (dI (aj (tC (.str "copied")) (aj (aQ b [] E0 (aj ax cn)) (aj (fG aD) aD))))))))
def Od(K:aB)(b a:Sp):TS:=
 (aM (bC (aQ a [] E0 (aj π (aj (bx a6 ψ τ) aD))) ec)
   (aM (bC (bx eu Ω (bx a6 ψ am)) db)
   (aM (bC c8 (QJ Ω (bx a6 ψ am) zL))
   (bH (dI (aj (tC (.str "dropped")) (aj (aQ b [] E0 (aj ax cn)) (aj (fG aD) aD))))))))
def Oc(K:aB)(b c a d:Sp):TS:=
 (aM (bC (bx a6 ψ τ) ec)
   (aM (bC (bx a6 ψ aT) db)
   (aM (bC (bx eu (aQ a [] E0 (aj π dA)) (bx a6 ψ am)) (aL 4))
   (aM (bC ba (QJ (aQ a [] E0 (aj π cn)) (bx a6 ψ cw) zL))
   (aM (bC (aQ c [] E0 (aj π (aj (aQ d [] E0 (aj π (aj Ω (aj ba aD)))) aD))) (aL 5))
   (bH (dI (aj (tC (.str "given")) (aj (aQ b [] E0 (aj ax (aj ba aD))) (aj eA aD))))))))))
def Jx(K:aB)(a:Sp)(E:XK):TS:=
 (aM (bC (aQ a [] E (aj π (aj (bx a6 ψ τ) (aj (bx a6 ψ am) aD)))) ec)
   (aM (bC (bz K Ω "load") db)
   (aM (eG K Ω (bx a6 ψ aT) "load")
   (bH (dI (aj (tC (.str "wrote")) (aj Φ (aj (fG aD) aD))))))))
def N8(K:aB)(a:Sp)(E:XK):TS:=
 (aM (bC (aQ a [] E (aj π (aj (bx a6 ψ τ) (aj (bx a6 ψ am) aD)))) ec)
   (bH (dI (aj (tC (.str "read")) (aj (bz K Ω "load") (aj (fG aD) aD))))))
def Oa(K:aB)(b a:Sp)(E:XK):TS:=
 (aM (bC (bx a6 ψ τ) ec)
   (aM (bC (bx a6 ψ am) db)
   (aM (bC (bz K (aQ b [] E (aj π (aj Ω cn))) "birth") (aL 4))
   (aM (Ju (bz K π "names") (bx a6 ψ aT) (dI (aj (bx eu (aQ a [] E0 (aj π dA)) Φ) (aj ba aD))))
   (bH (dI (aj (tC (.str "named")) (aj ba (aj (fG aD) aD)))))))))
def N7(K:aB)(a d c b:Sp)(E:XK):TS:=
 (aM (bC (aQ c [] E (aj π (aj (bx a6 ψ aT) aD))) ec)
   (aM (bC Ω (QJ (aQ b [] E0 (aj π (aj (bx a6 ψ τ) aD))) (bx a6 ψ am) zL))
   (aM (bC (aQ d [] E0 (aj π (aj (fG dA) aD))) db)
   (bH (dI (aj (tC (.str "sought")) (aj (aQ a [] E0 (aj ax dA)) cn)))))))
def wK(K:aB)(a:AI)(b:Sp)(E:XK):TS:=
 (aM (cU (tB (BP ψ (bz K π "names"))) (G.Gy a E (aj (tC (.str "the weak name was never given")) aD)) bW)
   (aM (bC (bx a6 (IK (bz K π "names") ψ) υ) ec)
   (aM (bC (bx a6 (IK (bz K π "names") ψ) τ) db)
   (aM (cU (tB (aQ b [] E0 (aj π (aj Ω cn)))) (bH c8) bW)
   (bH Ω)))))
def Zjw(K:aB)(s j n p l r m o k q:AI)(i c h b a d e g f t:Sp)(E:XK):TS:=
 (aM (bC (G.Znj [("make",l),("get",n),("put",m),("copy",s),("drop",j),("give",p),("write",q),("read",o),("name",r),("seek",k)] (bx a6 ψ υ)) ec)
   (bH (G.Xa 2 [(l,a),(n,h),(m,e),(s,i),(j,c),(p,b),(q,t),(o,g),(r,d),(k,f)] E (aj π bS))))
def Du(K:aB):TS:=
 (aM (cU (bL (bx bb ψ (oF dL bc))) (bH (bx eu π ψ)) bW)
   (bH υ))
def Ds:TS:=
 (bH (bx ρ (bx ρ (bx dv (bx ρ π ψ) (tC (.int 48271))) ψ) Ω))
def Dj:TS:=
 (aM (bC (tC (.str "abcdefghijklmnopqrstuvwxyz")) ec)
   (aM (bC (bx Θ τ (bx ρ π (tC (.int 12)))) db)
   (aM (bC (bx ρ (bx a7 π (tC (.int 12))) Φ) (aL 4))
   (aM (bC (bx (Zk0) Ω (bx ρ (bx a7 π eJ) (tC (.int 26)))) (aL 5))
   (aM (bC (bx (Zk0) Ω (bx ρ (bx Θ (bx a7 π (tC (.int 7))) (bx dv eJ ψ)) (tC (.int 26)))) (aL 6))
   (bH (bx (G.Zk2) (bx (G.Zk2) (bx (G.Zfp) eA ba) (ak 6)) (bx (G.Zfp) eA (bx cq (bx cq Φ τ) ba)))))))))
def zG(K:aB)(b a c:Sp):TS:=
 (aM (bC (aQ b [] E0 (aj π (aj τ aD))) (aL 1))
   (aM (bC (fG aD) ec)
   (aM (rG (xJ (aj (bx Θ τ (aQ a [] E0 (aj ψ (aj (tC (.int 104729)) (aj eJ aD))))) aD)) db
   (aM (bC aT (aL 4))
   (aM (cU (bL (bx (wk) (bx ρ ψ aT) τ)) (bC (bx Θ aT (aQ a [] E0 (aj (bx Θ ψ (bx dv (bx dv (tC (.int 7)) Φ) Φ)) (aj (tC (.int 224737)) (aj (tC (.int 7)) aD))))) (aL 4)) bW)
   (mj (tBM K "list" oX Ω (aj (dI (aj (aQ c [] E0 (aj ψ cn)) (aj ba aD))) aD))))))
   (bH Ω))))
def Dm(a b:Sp):TS:=
 (aM (bC (aQ a [] E0 (aj π (aj am aD))) (aL 1))
   (aM (cU (bL (bx (wk) (aQ b [] E0 (aj ψ (aj (tC (.int 7919)) (aj cw aD)))) τ)) (bH (bx Θ cw (bx ρ (bx a7 ψ cw) (tC (.int 60))))) bW)
   (bH (bx cq (bx fg (tC (.int 10)) (tC (.int 15))) (bx ρ ψ (bx fg (tC (.int 10)) (tC (.int 12))))))))
def Dr(c d a e:AI)(b:Sp):TS:=
 (aM (cU (bL (bx (wk) (bx ρ π aT) υ)) (bH (qC a b [] E0 (aj (G.GD d) (aj (bx ρ (bx a7 π aT) cw) aD)))) bW)
   (aM (cU (bL (bx (wk) (bx ρ π aT) τ)) (bH (qC a b [] E0 (aj (G.GD c) (aj (bx ρ (bx a7 π aT) cw) aD)))) bW)
   (bH (qC a b [] E0 (aj (G.GD e) (aj (bx ρ (bx a7 π aT) cw) aD))))))
def Dn(K:aB)(a:Sp):TS:=
 (aM (bC (bx eu (fG (aj τ (aj am (aj am (aj aT (aj υ (aj (tC (.int 8)) aD))))))) (aQ a [] E0 (aj π (aj (tC (.int 611953)) (aj (tC (.int 6)) aD))))) db)
   (aM (bC υ (aL 4))
   (aM (cU (bL (bx (wk) (bx ρ π aT) τ)) (bC (bx ρ π (tC (.int 7))) (aL 4)) bW)
   (aM (cU (bL (bx (wk) (bx ρ π aT) am)) (bC (bx ρ π (bx Θ (bx fg (tC (.int 10)) (tC (.int 12))) τ)) (aL 4)) bW)
   (bH (dI (aj (tC (.str "make")) (aj ψ (aj Ω (aj Φ (aj ba aD)))))))))))
def Dp:TS:=
 (aM (bC (bx ρ π (bx fg (tC (.int 10)) (tC (.int 60)))) (aL 1))
   (aM (cU (bL (bx (wk) (bx ρ (bx a7 π (tC (.int 7))) am) τ)) (bH (tUn (rU λi=>.int (-i)) ψ)) bW)
   (bH ψ)))
def Dt(K:aB)(a b d c:Sp):TS:=
 (aM (bC (aQ a [] E0 (aj π (aj (tC (.int 104729)) (aj (oF dL bS) aD)))) db)
   (aM (bC (aQ a [] E0 (aj π (aj (tC (.int 224737)) (aj (bx a6 (bx eu ψ Φ) τ) aD)))) (aL 4))
   (aM (bC (aQ a [] E0 (aj π (aj (tC (.int 350377)) (aj (bx a6 (bx eu ψ Φ) τ) aD)))) (aL 5))
   (aM (bC (aQ a [] E0 (aj π (aj (tC (.int 479909)) (aj (bx eu (fG (aj aT (aj (tC (.int 8)) aD))) (bx a7 (bx ρ π eJ) cw)) aD)))) (aL 6))
   (aM (bC (aQ a [] E0 (aj π (aj (tC (.int 7919)) (aj (tC (.int 20)) aD)))) (aL 7))
   (aM (cU (bL (bx bb (ak 7) eJ)) (bH (aQ d [] E0 (aj π (aj Φ (aj ba aD))))) bW)
   (aM (cU (bL (bx bb (ak 7) (tC (.int 8)))) (bH (dI (aj (tC (.str "get")) (aj Φ (aj ba (aj eA (aj (ak 6) aD))))))) bW)
   (aM (cU (bL (bx bb (ak 7) (tC (.int 11)))) (bH (dI (aj (tC (.str "put")) (aj Φ (aj eA (aj (ak 6) (aj ba aD))))))) bW)
   (aM (cU (bL (bx (wk) (ak 7) (tC (.int 11)))) (bH (dI (aj (tC (.str "copy")) (aj Φ (aj ba (aj eA aD)))))) bW)
   (aM (cU (bL (bx (wk) (ak 7) (tC (.int 12)))) (bH (dI (aj (tC (.str "drop")) (aj Φ (aj ba aD))))) bW)
   (aM (cU (bL (bx bb (ak 7) (tC (.int 15)))) (aM (bC (aQ a [] E0 (aj π (aj (tC (.int 746773)) (aj (oF dL bS) aD)))) (aL 8))
   (bH (dI (aj (tC (.str "give")) (aj Φ (aj ba (aj (ak 8) (aj (aQ a [] E0 (aj π (aj (tC (.int 882377)) (aj (bx a6 (bx eu ψ (ak 8)) τ) aD)))) aD)))))))) bW)
   (aM (cU (bL (bx (wk) (ak 7) (tC (.int 15)))) (bH (dI (aj (tC (.str "write")) (aj Φ (aj eA (aj (aQ b [] E0 bc) aD)))))) bW)
   (aM (bC (aQ c [] E0 (aj Ω (aj (aQ a [] E0 (aj π (aj (tC (.int 1299709)) (aj am aD)))) aD))) (aL 9))
   (aM (cU (bL (bx bb (ak 7) (tC (.int 18)))) (bH (dI (aj (tC (.str "name")) (aj Φ (aj eA (aj (ak 9) aD)))))) bW)
   (bH (dI (aj (tC (.str "seek")) (aj Φ (aj ba (aj (ak 9) aD))))))))))))))))))))
def zH(K:aB)(a b:Sp):TS:=
 (aM (bC (aQ a [] E0 (aj π (aj ψ dA))) db)
   (aM (cU ((Xb (bL (bx (wk) (bx a6 Φ υ) (tC (.str "put")))) (bL (bx (wk) (bx ρ (bx a7 π eJ) am) υ)))) (bH (fG (aj Φ (aj (dI (aj (tC (.str "drop")) (aj (bx a6 Φ τ) (aj (bx a6 Φ cw) aD)))) aD)))) bW)
   (aM (cU ((Xb (bL (bx (wk) (bx a6 Φ υ) (tC (.str "get")))) (bL (bx (wk) (bx ρ (bx a7 π eJ) am) υ)))) (bH (fG (aj Φ (aj (dI (aj (tC (.str "put")) (aj (bx a6 Φ τ) (aj (bx a6 Φ aT) (aj (bx a6 Φ cw) (aj (aQ b [] E0 (aj π (aj (tC (.int 1159523)) (aj aT aD)))) aD)))))) aD)))) bW)
   (bH (fG cn)))))
def kW(K:aB)(a:Sp):TS:=
 (aM (rG (xJ (aj (oF dL bc) aD)) (aL 4)
   (aM (cU (bL (bx (wk) eA τ)) (bC (bx (qw) Φ (fG (aj (dI (aj (tC (.str "get")) (aj ba (aj τ (aj υ (aj (bx ρ ba am) aD)))))) (aj (dI (aj (tC (.str "put")) (aj ba (aj υ (aj (bx ρ ba am) (aj am aD)))))) aD)))) db) bW)
   (aM bq
   (cU (bL (bx (wk) eA aT)) (bC (bx (qw) Φ (fG (aj (dI (aj (tC (.str "name")) (aj ba (aj υ (aj (aQ a [] E0 (aj Ω (aj (bx ρ ba am) aD))) aD))))) (aj (dI (aj (tC (.str "drop")) (aj ba (aj υ aD)))) aD)))) db) bW))))
   (bH Φ))
def zB(K:aB)(a b:Sp):TS:=
 (aM (bC (fG aD) db)
   (aM (rG (xJ (aj (oF dL bc) aD)) (aL 4)
   (aM (bC (bx (qw) Φ (fG (aj (dI (aj (tC (.str "make")) (aj ba (aj υ (aj am (aj υ aD)))))) (aj (dI (aj (tC (.str "make")) (aj ba (aj τ (aj τ (aj υ aD)))))) aD)))) db)
   (bC (bx (qw) Φ (fG (aj (dI (aj (tC (.str "put")) (aj ba (aj υ (aj (bx ρ ba am) (aj τ aD)))))) (aj (dI (aj (tC (.str "drop")) (aj ba (aj τ aD)))) aD)))) db)))
   (aM (bC (aQ a [] E0 (aj ψ (aj (tC (.int 746773)) (aj cw aD)))) (aL 5))
   (aM (cU (bL (bx (jC λi j=>.bl (decide (j<i))) eA τ)) (bC (bx (qw) Φ (G.ZZ (xJ (aj (oF dL bc) aD)) [] G.pI (dI (aj (tC (.str "make")) (aj π (aj τ (aj υ (aj υ aD)))))))) db) bW)
   (aM (bC (bx (qw) Φ (fG (aj (dI (aj (tC (.str "sweep")) (aj (bx Θ τ (aQ a [] E0 (aj ψ (aj (tC (.int 882377)) (aj cw aD))))) aD))) aD))) db)
   (kW K b))))))
def lR(K:aB)(c b a:Sp):TS:=
 (aM (bC (aQ c [] E0 (aj π (aj am aD))) db)
   (aM (bC υ (aL 4))
   (aM (rG (jz K (tSl (Zu4 K) π (U5 aT) (U5 (tC (.int 63))))) (aL 5)
   (aM (bC (bx Θ eA (bx dv (bx dv ba ba) (tC (.int 1000003)))) (aL 6))
   (aM (cU (bL (bx (wk) (aQ a [] E0 (aj (ak 6) (aj (tC (.int 1020379)) (aj aT aD)))) υ)) (mj (tBM K "list" oX Ω (aj (dI (aj (tC (.str "sweep")) (aj (bx Θ τ (aQ a [] E0 (aj (ak 6) (aj (tC (.int 1159523)) (aj (tC (.int 6)) aD))))) aD))) aD))) (bC (bx (qw) Ω (aQ b [] E0 (aj (ak 6) (aj ψ cn)))) ec))
   (Zr0 4 τ (ipI λi j=>i+j)))))
   (bH (bx (qw) Ω (fG (aj (dI (aj (tC (.str "sweep")) (aj (bx Θ τ (aQ a [] E0 (aj Φ (aj (tC (.int 1020379)) (aj (tC (.int 23)) aD))))) aD))) aD)))))))
def Dl(K:aB)(a c b d:Sp):TS:=
 (aM (bC (fG aD) ec)
   (aM (cU (bL (bx (jC λi j=>.bl (decide (j<i))) (aQ b [] E0 (aj (aQ a [] E0 (aj π (aj υ aD))) (aj (tC (.int 611953)) (aj cw aD)))) υ)) (bC (aQ d [] E0 (aj ψ (aj (aQ a [] E0 (aj π (aj υ aD))) (aj (aQ a [] E0 (aj π (aj am aD))) aD)))) ec) bW)
   (lR K a c b)))
def pR:TS:=
 (bH ((Z0 (oF (G.HN) (aj π (aj (tC (.ty "int")) aD))) (Zff (oF (G.HN) (aj π (aj (tC (.ty "bool")) aD)))))))
def rN(K:aB)(a:Sp):TS:=
 (aM (cU ((Iz (sJ (tB (oF (G.HN) (aj π (aj (tC (.ty "tuple")) aD))))) (Iz (bL (bx (Xv) (oF dL bc) aT)) (sJ (tB (oF (G.HN) (aj (bx a6 π υ) (aj (tC (.ty "str")) aD)))))))) bJ bW)
   (aM (cU ((Iz (sJ (tB (aQ a [] E0 (aj (bx a6 π τ) aD)))) (sJ (tB (oF (G.HN) (aj (bx a6 π am) (aj (tC (.ty "list")) aD))))))) bJ bW)
   (aM (rG (jz K (bx a6 π am)) ec
   (cU (sJ (tB (aQ a [] E0 dA))) bJ bW))
   (bH (bx (G.Za8 K false) π ψ)))))
def uE(f c d e:AI)(b:Sp):TS:=
 (aM (bC c8 ec)
   (aM (G.Zqw (λa=>a=Value.ref f\/a=Value.ref d\/a=Value.ref c\/a=Value.ref e) (λEx=>(bC (G.Zcp b [] Ex (aj π bS)) ec)) (bC c8 ec))
   (bH Ω)))
def Dk(K:aB):TS:=
 (aM (bC (GF) db)
   (aM (rG (jz K π) (aL 4)
   (Ju Φ (bx a6 ba τ) (bx a6 ba eJ)))
   (aM (rG (jz K ψ) (aL 5)
   (Ju Φ eA Ω))
   (bH Φ))))
def pU(K:aB):TS:=
 (aM (cU ((Iz (sJ (tB (oF (G.HN) (aj π (aj (tC (.ty "list")) aD))))) (bL (bx (Xv) (oF dL bc) (oF dL bS))))) bJ bW)
   (aM (rG (xJ (aj (oF dL bS) aD)) db
   (aM (cU ((Iz (sJ (tB (oF (G.HN) (aj (bx eu π Φ) (aj (tC (.ty "tuple")) aD))))) (bL (bx (Xv) (oF dL (aj (bx eu π Φ) aD)) (tC (.int 6)))))) bJ bW)
   (cU ((Iz (bL (bx (G.Za8 K true) (tSl (Zr8 K) (bx eu π Φ) Ml (U5 eJ)) (tSl (Zr8 K) (bx eu ψ Φ) Ml (U5 eJ)))) (bL (bx (Xv) (bx a6 (bx eu π Φ) eJ) (IK Ω (bx a6 (bx eu ψ Φ) τ)))))) bJ bW)))
   (bH (tC (.bl true)))))
def wN(K:aB):TS:=
 (aM (bC (GF) (aL 1))
   (aM (rG (jz K π) ec
   (Ju ψ (bx a6 Ω τ) (bx a6 Ω cw)))
   (bH ψ)))
def zF(K:aB):TS:=
 (aM (bC (GF) ec)
   (aM (bC (fG aD) db)
   (aM (rG (jz K π) (aL 4)
   (bC (bx (qw) Φ ba) db))
   (aM (W9 (bL (bx (G.Zk1 K true) Φ (fG aD))) (aM (bC (Zqz K "list" Zu5 Φ) (aL 5))
   (cU ((Xb (bL (bx (G.zM) eA c8)) (tB (BP eA Ω)))) (aM (Ju Ω eA (tC (.bl true)))
   (bC (bx (qw) Φ (IK ψ eA)) db)) bW)))
   (bH Ω)))))
def zE(K:aB)(a:Sp):TS:=
 (aM (bC (fG (aj (aQ a [] E0 bc) aD)) ec)
   (aM (rG (xJ bS) db
   (aM (cU (bL (bx (rIn K false) (bz K aE "phase") (dI (aj (tC (.str "rest")) (aj (tC (.str "lost")) aD))))) (bH Ω) bW)
   (mj (tBM K "list" oX Ω (aj (aQ a [] E0 bc) aD)))))
   (bH Ω)))
def rM(K:aB)(a:Sp):TS:=
 (aM (bC (G.ZZ (jz K ψ) [] G.pI (bx a6 π τ)) db)
   (aM (rG (jz K (oF (G.Zew) (aj (bz K π "names") aD))) (aL 4)
   (aM (bC (IK (bz K π "names") ba) (Zij K 2 (xN (aL 5) (xN (aL 6) Zik))))
   (aM (bC ((Zqy (bx (rIn K false) (ak 6) Ω) (bx (rIn K true) (ak 6) Φ))) (aL 7))
   (aM (bC (aQ a [] E0 (aj π (aj eA (aj (ak 6) aD)))) (aL 8))
   (cU fk bJ bW)))))
   (bH (tC (.bl true)))))
def rO(K:aB)(f:AI)(e c b d a g:Sp):TS:=
 (aM (bC (G.ZZ (jz K ψ) [3] (bL (bx (rIn K true) (bx a6 π τ) ψ)) π) (aL 4))
   (aM (bC (G.ZZ (jz K Ω) [] (bL (bx (wk) (bx a6 π υ) (tC (.str "cut")))) π) (aL 5))
   (aM (bC (G.ZZ (jz K Ω) [] (bL (bx (wk) (bx a6 π υ) (tC (.str "back")))) (bx a6 π τ)) (aL 6))
   (aM (cU ((Iz (bL (bx (Xv) (oF dL (aj eA aD)) τ)) (sJ (tB (aQ c [] E0 (aj (bx eu eA υ) (aj (dI (aj (tC (.str "cut")) (aj (oF dL cn) cn))) aD))))))) bJ bW)
   (aM (bC (oF (G.Ztd K) (aj (G.ZZ (jz K ba) [] G.pI (bx Θ (bx Θ τ (oF dL (aj (bx a6 π cw) aD))) (bx a6 π am))) aD)) (aL 7))
   (aM (cU ((Iz (bL (bx (Xv) (bx a6 (bx eu Ω (tUn (rU λi=>.int (-i)) τ)) υ) (tC (.str "end")))) (Iz (bL (bx (G.Zk1 K true) (ak 6) Φ)) (bL (bx (Xv) (bz K ax "used") (ak 7)))))) bJ bW)
   (aM (cU ((Iz (bL (bx (Xv) (gO f "free" e [] E0 ax aD) (bx cq (bz K ax "room") (ak 7)))) (sJ (tB (aQ d [] E0 (aj π (aj ψ cn))))))) bJ bW)
   (bH (aQ b [] E0 (aj (aQ g [] E0 bc) (aj ba (aj (aQ a [] E0 (aj ba (aj (fG aD) (aj (tC (.str "")) aD)))) aD))))))))))))
def pQ(K:aB)(d e k g h a f c b:Sp):TS:=
 (aM (bC (aQ b [] E0 bc) db)
   (aM (bC (aQ a [] E0 bc) (aL 4))
   (aM (bC (aQ g [] E0 (aj ba (aj (aQ e [] E0 cn) aD))) (aL 5))
   (aM (bC (G.ZZ (jz K Φ) [5] (tB (BP (bx a6 π τ) ψ)) (bx a6 π τ)) (aL 6))
   (aM (bC (aQ h [] E0 (aj π (aj (bx Θ (bx Θ (bx Θ eJ (bx dv am (oF dL cn))) (oF dL (aj ba aD))) (oF dL (aj (bz K ax "cells") aD))) aD))) (aL 7))
   (aM (cU ((Iz (sJ (tB (aQ d [] E0 (aj π (aj Φ (aj (ak 7) (aj (ak 6) aD))))))) (bL (bx (G.Za8 K true) (aQ a [] E0 bc) ba)))) bJ bW)
   (aM (bC (oF (G.Zw1) (aj Ω (aj (oF dL (aj (ak 7) aD)) aD))) (aL 8))
   (aM (rG (xJ (aj (ak 8) aD)) (aL 9)
   (mj (aQ f [] E0 bS)))
   (aM (bC (aQ c [] E0 bS) (aL 10))
   (aM (cU ((Iz (sJ (tB (aQ k [] E0 (aj (ak 10) aD)))) (Iz (bL (bx (Xv) (ak 10) (bx cq (oF dL (aj (ak 7) aD)) (ak 8)))) (bL (bx (Xv) (aQ c [] E0 bS) υ))))) bJ bW)
   (bH ((Z0 (bx (G.Za8 K false) (aQ b [] E0 bS) (aQ b [] E0 bc)) (bx (G.Za8 K false) (aQ a [] E0 bS) ba))))))))))))))
def Zd7(K:aB)(a:AI)(b f c k e d g h:Sp):TS:=
 (aM (bC (bx ρ (aQ f [] E0 (aj π (aj υ aD))) (tC (.int 12))) (aL 1))
   (aM (bC (aQ k [] E0 bc) ec)
   (aM (bC (qC a b [] E0 (aj (aQ d [] E0 bc) (aj (aQ e [] E0 bS) (aj (oF (G.Bh K) dA) aD)))) db)
   (aM (bC (qC a b [] E0 (aj (aQ d [] E0 bc) (aj (aQ e [] E0 bS) (aj (oF (G.Bh K) dA) aD)))) (aL 4))
   (aM (rG (jz K (aQ h [] E0 (aj π dA))) (aL 5)
   (cU (bL (bx (Xv) (bx a6 eA υ) (tC (.str "sweep")))) (aM (mj (aQ c [] E0 (aj Φ (aj eA aD))))
   (mj (aQ c [] E0 (aj ba (aj eA aD))))) (cU (sJ (tB (aQ g [] E0 (aj Φ (aj ba (aj (bx a6 eA τ) aD)))))) bJ bW)))
   (bH (tC (.bl true))))))))
structure TxC(K:aB)(cB bT:AI):Prop where
 cY:MP K cB
 dR:cQ K cB "birth"
 nU:cQ K cB "bulk"
 nT:cQ K cB "tone"
 jG:cQ K cB "load"
 fH:cQ K cB "fields"
 cL:MP K bT
 nQ:cQ K bT "room"
 bO:cQ K bT "cells"
 gU:cQ K bT "used"
 nR:cQ K bT "born"
 Mx:EqD K cB
structure yp(CC:AI)(H:Hp)(p fa:AI)(birth bulk tone load:Int)(fl:List V):Prop where
 o:∃dx,H p=some (.ins CC dx b8)
 f:H fa=some (.lst fl)
theorem yp.same{a:AI}{H H':Hp}{p fa:AI}{birth bulk tone load:Int}{fl:List V}(h:yp a H p fa birth bulk tone load fl)(s:aY H H'):yp a H' p fa birth bulk tone load fl:=by
 obtain⟨⟨b,h1⟩,h2⟩:=h;exact⟨⟨b,s _ _ h1⟩,s _ _ h2⟩
structure HpO(CH:AI)(H:Hp)(hp ca:AI)(room used born:Int)(cs:List V):Prop where
 o:∃dx,H hp=some (.ins CH dx cr)
 c:H ca=some (.lst cs)
theorem Q4{a b c d e f g:Int}{x y:AI}:jK a b c d x≠iJ e y f g:=λz=>by
 have:=congrArg List.length z;cases this
inductive yc(CC:AI)(p:AI)(birth:Int)(many:Int)(bulk:Int)(tone:Int)(H:Hp)(Q:VK):Prop
 | mk (dx) (_:H p=some (.ins CC dx [])) (_:0<=many) (_:many<=1000) (_:∀fa H',H fa=none->H' p=some (.ins CC dx (jK birth bulk tone 0 fa))->H' fa=some (.lst (List.replicate many.toNat V.non))->(∀b o,H b=some o->b≠p->H' b=some o)->Q .non H'):yc CC p birth many bulk tone H Q
def Le(a:AI):Sp:=λvs H Q E=>∃p birth many bulk tone,vs=[.ref p,.int birth,.int many,.int bulk,.int tone]/\yc a p birth many bulk tone H Q
def vh(a:AI):Sp:=λvs H Q E=>∃p,vs=[.ref p]/\∃fa birth bulk tone load fl,yp a H p fa birth bulk tone load fl/\Q (.int (1+fl.length+bulk)) H
def Lb(a:AI):Sp:=λvs H Q E=>∃p room,vs=[.ref p,.int room]/\∃dx,H p=some (.ins a dx [])/\
 ∀ca H',H ca=none->H' p=some (.ins a dx (iJ room ca 0 0))->H' ca=some (.lst [])->(∀b o,H b=some o->b≠p->H' b=some o)->Q .non H'
def rE(a:AI):Sp:=λvs H Q E=>∃hp,vs=[.ref hp]/\∃ca room used born cs,HpO a H hp ca room used born cs/\Q (.int (room - used)) H
def plc(cs:List V):AE:=((List.range cs.length).filter λi=>!decide (cs[i]? =some V.non)).map λ(i:Nat)=>(i:Int)
inductive u9(CH:AI)(hp:AI)(H:Hp)(Q:VK):Prop
 | mk (ca room used born cs) (_:HpO CH H hp ca room used born cs) (_:cs.length<=1000) (_:∀l,H l=none->Q (.ref l) (upd H l (.lst ((plc cs).map V.int)))):u9 CH hp H Q
def pD(a:AI):Sp:=λvs H Q E=>∃hp,vs=[.ref hp]/\u9 a hp H Q
def putN(cs:List V)(v:V):List V:=if V.non∈cs then cs.set (cs.idxOf V.non) v else cs++[v]
inductive Bq(K:aB)(CH:AI)(hp:AI)(v:V)(H:Hp)(Q:VK):Prop
 | mk (ca room used born cs) (_:HpO CH H hp ca room used born cs) (_:OkN K H cs) (_:cs.length<=1000) (_:Q (.int (cs.idxOf V.non)) (upd H ca (.lst (putN cs v)))):Bq K CH hp v H Q
def RC(K:aB)(a:AI):Sp:=λvs H Q E=>∃hp v,vs=[.ref hp,v]/\Bq K a hp v H Q
inductive xY(CC:AI)(CH:AI)(hp:AI)(i:Int)(H:Hp)(Q:VK):Prop
 | mk (ca dx room used born cs p fa birth bulk tone load fl) (_:0<=i) (_:H hp=some (.ins CH dx (iJ room ca used born))) (_:H ca=some (.lst cs)) (_:cs[i.toNat]? =↑p) (_:yp CC H p fa birth bulk tone load fl) (_:Q (.int birth) (upd (upd H hp (.ins CH dx (iJ room ca (used - (1+fl.length+bulk)) born))) ca (.lst (cs.set i.toNat V.non)))):xY CC CH hp i H Q
def yj(b a:AI):Sp:=λvs H Q E=>∃hp i,vs=[.ref hp,.int i]/\xY b a hp i H Q
inductive xX(K:aB)(CC:AI)(CH:AI)(CF:AI)(hp:AI)(many:Int)(bulk:Int)(tone:Int)(H:Hp)(Q:VK)(E:XK):Prop
 | mk (ca dx room used born cs) (_:H hp=some (.ins CH dx (iJ room ca used born))) (_:H ca=some (.lst cs)) (_:OkN K H cs) (_:cs.length<=1000) (_:0<=many) (_:many<=1000) (_:(room - used<1+many+bulk->∀H',aY H H'->E (.ref CF) none H')) (_:(1+many+bulk<=room - used->∀p fa H',H p=none->H fa=none->Fm [hp,ca] H H'->H' hp=some (.ins CH dx (iJ room ca (used+(1+many+bulk)) (born+1)))->H' ca=some (.lst (putN cs (.ref p)))->
  yp CC H' p fa (born+1) bulk tone 0 (List.replicate many.toNat V.non)->Q (.int (cs.idxOf V.non)) H')):xX K CC CH CF hp many bulk tone H Q E
def La(K:aB)(b a c:AI):Sp:=λvs H Q E=>∃hp many bulk tone,vs=[.ref hp,.int many,.int bulk,.int tone]/\xX K b a c hp many bulk tone H Q E
section
variable {K:aB}{cB bT cT:AI}{H:Hp}{Q:VK}{E:XK}{n:ν}{bk ct:ν}
theorem Ul{p:AI}(T:TxC K cB bT)(q:∃fa birth bulk tone load fl,yp cB H p fa birth bulk tone load fl/\Q (.int (1+fl.length+bulk)) H):zK K ξ [↑p] H:=by
 obtain⟨fa,birth,bulk,tone,load,fl,⟨⟨a,h1⟩,h2⟩,h⟩:=q;unfold zK;apply aH h1 T.cY T.fH gK ?_;apply dU (bU.of h2) ?_;apply aH h1 T.cY T.nU An ?_;apply h
theorem Io{p:AI}{birth many bulk tone:Int}(T:TxC K cB bT)(q:yc cB p birth many bulk tone H Q):
  tK K ⟨λ_ H'=>Q .non H',Q,bk,ct⟩ [↑p,some (.int birth),some (.int many),some (.int bulk),some (.int tone)] H:=by
 obtain⟨c,hp,s,h1,h⟩:=q;unfold tK;exists p,cB,c,[],rfl,hp,T.cY,T.dR,ε;apply⟨p,cB,c,_,rfl,aq,T.cY,T.nU,by show 1<1000;decide,?_⟩;rw[dF];apply⟨p,cB,c,_,rfl,aq,T.cY,T.nT,by show 2<1000;decide,?_⟩;rw[dF];apply⟨p,cB,c,_,rfl,aq,T.cY,T.jG,by show 3<1000;decide,?_⟩;rw[dF];apply⟨ε,λl0 i=>?_⟩;apply⟨l0,many,_,rfl,rfl,aq,δ,δ,?_,λj a=>?_⟩
 ·show 1 * many.toNat<=sizeLine;exact aR δ
 have g:p≠l0:=aF aq i;have d:p≠j:=aF ((aC g).trans aq) a;apply⟨p,cB,c,_,rfl,(aC d).trans ((aC g).trans aq),T.cY,T.fH,by show 4<1000;decide,?_⟩;have n:H j=none:=by
  have e:=a;have n1:j≠l0:=λz=>by rw[z,aq]at e;cases e
  rw[aC n1,aC d.symm]at e;exact e
 refine h j _ n (aq.trans (congrArg (λl=>some (HO.ins cB c l)) Zmx)) ?_ λb o hb f=>?_
 ·rw[aC d.symm,aq];have e:(List.replicate many.toNat [V.non]).flatten=List.replicate many.toNat V.non:=by
   generalize many.toNat=k
   induction k with
   | zero=>rfl
   | succ k r=>rw[List.replicate_succ,List.replicate_succ,List.flatten_cons,r];rfl
  rw[e]
 ·have m:upd H p (HO.ins cB c (bZ "load" (V.int 0) (bZ "tone" (V.int tone) (bZ "bulk" (V.int bulk) (bZ "birth" (V.int birth) []))))) b=some o:=(aC f).trans hb;have n1:b≠l0:=aF m i;have n2:b≠j:=aF ((aC n1).trans m) a;rw[aC f,aC n2,aC n1];exact m
theorem Il{p:AI}{room:Int}(T:TxC K cB bT)(q:∃dx,H p=some (.ins bT dx [])/\
 ∀ca H',H ca=none->H' p=some (.ins bT dx (iJ room ca 0 0))->H' ca=some (.lst [])->(∀b o,H b=some o->b≠p->H' b=some o)->Q .non H'):
  tG K ⟨λ_ H'=>Q .non H',Q,bk,ct⟩ [↑p,some (.int room)] H:=by
 obtain⟨dx,hp,h⟩:=q;unfold tG;exists p,bT,dx,[],rfl,hp,T.cL,T.nQ,ε;apply⟨ε,λca a=>?_⟩;ext;have d:p≠ca:=aF aq a;refine⟨p,bT,dx,_,rfl,(aC d).trans aq,T.cL,T.bO,by show 1<1000;decide,?_⟩;apply⟨p,bT,dx,_,rfl,aq,T.cL,T.gU,by show 2<1000;decide,?_⟩;rw[dF];apply⟨p,bT,dx,_,rfl,aq,T.cL,T.nR,by show 3<1000;decide,?_⟩;rw[dF];have f:H ca=none:=by
  have e:=a;rw[aC d.symm]at e;exact e
 refine h ca _ f (aq.trans (congrArg (λl=>some (HO.ins bT dx l)) Zm2)) ?_ λb o hb c=>?_
 ·rw[aC d.symm,aq]
 ·rw[aC c,aC (aF ((aC c).trans hb) a),aC c];exact hb
theorem ZK{hp:AI}(T:TxC K cB bT)(q:∃ca room used born cs,HpO bT H hp ca room used born cs/\Q (.int (room - used)) H):Dw K ξ [↑hp] H:=by
 obtain⟨ca,room,used,born,cs,⟨⟨a,h1⟩,h2⟩,h⟩:=q;unfold Dw;apply aH h1 T.cL T.nQ Aa ?_;apply aH h1 T.cL T.gU nF ?_;apply h
theorem Uj{hp:AI}(T:TxC K cB bT)(q:u9 bT hp H Q):rP K ξ [↑hp] H:=by
 obtain⟨ca,room,used,born,cs,⟨⟨a,h1⟩,h2⟩,hl,h⟩:=q;unfold rP;apply uh ?_;apply aH h1 T.cL T.bO bN ?_;apply dU (bU.of h2) ?_;exists _,rfl,δ,δ;refine Zll (n:=cs.length) δ (p:=λi=>!decide (cs[i]? =some V.non)) (f:=λi=>.int i) δ ?_ ?_ ?_
 ·intro i hi k hk;walk_at"c";apply aH h1 T.cL T.bO bN ?_;apply fL (bU.of h2) (gm (bK hi)) ?_;apply Ze2 ?_;rw[bK hi]at hk;ext;simpa using hk
 ·intro i hi _ k hk;walk_at"c";apply hk
 ·have e:((plc cs).map V.int)=((List.range cs.length).filter λi=>!decide (cs[i]? =some V.non)).map λ(i:Nat)=>V.int i:=by
   unfold plc;rw[List.map_map];rfl
  rw[<- e];exact h
theorem Zcf{hp:AI}{v:V}(T:TxC K cB bT)(q:Bq K bT hp v H Q):Jz K ξ [↑hp,some v,none] H:=by
 obtain⟨ca,room,used,born,cs,⟨⟨e,h1⟩,h2⟩,c,hl,h⟩:=q;unfold Jz;apply aH h1 T.cL T.bO bN ?_;apply Zls (bU.of h2) c ?_;apply uQ (λhn=>?_) (λhn=>?_)
 ·apply aH h1 T.cL T.bO bN ?_;refine⟨.inl ⟨rfl,_,bU.of h2⟩,?_⟩;exists ca,cs,v,rfl,rfl,h2,Nat.lt_of_le_of_lt hl ε;ext;have b:hp≠ca:=lg h1 h2 aS;refine aH ((aC b).trans h1) T.cL T.bO bN ?_;apply dU (bU.of aq) ?_;ext;have d:(((cs++[v]).length:Int) - 1)=(cs.idxOf V.non:Nat):=by
   rw[List.length_append,List.idxOf_eq_length hn];simp
  have a:putN cs v=cs++[v]:=by unfold putN;rw[if_neg hn]
  rw[d,<- a];exact h
 ·apply aH h1 T.cL T.bO bN ?_;refine⟨.inl ⟨rfl,_,bU.of h2⟩,?_⟩;exists ca,cs,rfl,rfl,bU.of h2,c,hn;apply aH h1 T.cL T.bO bN ?_;ext;have hi:cs.idxOf V.non<cs.length:=List.idxOf_lt_length_iff.mpr hn;refine⟨ca,cs,_,_,rfl,rfl,h2,pq hi,?_⟩;have a:putN cs v=cs.set (cs.idxOf V.non) v:=by unfold putN;rw[if_pos hn]
  rw[<- a];apply h
theorem ZL{hp:AI}{i:Int}(T:TxC K cB bT)(q:xY cB bT hp i H Q):Dy K cB (vh cB) ξ [↑hp,some (.int i),none] H:=by
 obtain⟨ca,dx,room,used,born,cs,p,e,birth,bulk,tone,load,fl,d,h1,h2,hi,co,h⟩:=q;obtain⟨⟨dp,c1⟩,c2⟩:=id co;unfold Dy;apply aH h1 T.cL T.bO bN ?_;apply fL (bU.of h2) (lY d hi) ?_;apply aH h1 T.cL T.gU nF ?_;exists p,dp,_,rfl,c1,qj;exists p,rfl,e,birth,bulk,tone,load,fl,co;apply⟨hp,bT,dx,_,rfl,h1,T.cL,T.gU,by show 4<1000;decide,?_⟩;rw[xK];have c:hp≠ca:=lg h1 h2 aS;apply aH aq T.cL T.bO bN ?_;ext;have b:i.toNat<cs.length:=(cP hi).1;refine⟨ca,cs,_,_,rfl,rfl,(aC c.symm).trans h2,Zoo d b,?_⟩;apply aH (C:=cB) (a:=p) (dx:=dp) (fs:=jK birth bulk tone load e) ?_ T.cY T.dR eF ?_
 ·have n1:p≠ca:=lg c1 h2 aS;have n2:p≠hp:=lg c1 h1 (λz=>by injection z with _ _ z;exact Q4 z);rw[aC n1,aC n2];exact c1
 exact h
theorem ZJ{hp:AI}{many bulk tone:Int}(T:TxC K cB bT)(q:xX K cB bT cT hp many bulk tone H Q E):
  Dv K cB cT bT (Le cB) (vh cB) (rE bT) (RC K bT) E ξ [↑hp,some (.int many),some (.int bulk),some (.int tone),none] H:=by
 obtain⟨ca,g,room,used,born,cs,h1,h2,w,hl,x,B,v,I⟩:=q;have h:hp≠ca:=lg h1 h2 aS;unfold Dv;apply aH h1 T.cL T.nR TJ ?_;ext;intro p dp i k J;refine⟨p,_,many,_,_,rfl,dp,aq,x,B,λc l m c1 c2 F=>⟨rfl,?_⟩⟩;have f:H c=none:=by
  have e:=m
  by_cases z1:c=p
  ·rw[z1,aq]at e;cases e
  ·rw[aC z1]at e
   by_cases s:c=dp
   ·rw[s,aq]at e;cases e
   ·rw[aC s]at e;exact e
 have sm:aY H l:=λb o hb=>by
  refine F b o ?_ (aF hb i);rw[aC (aF hb i),aC (aF hb k)];exact hb
 have co:yp cB l p c (born+1) bulk tone 0 (List.replicate many.toNat V.non):=⟨⟨dp,c1⟩,c2⟩;have r:((List.replicate many.toNat V.non).length:Int)=many:=by rw[List.length_replicate];omega
 exists p,dp,_,rfl,c1,qj;exists p,rfl,c,_,_,_,_,_,co;exists hp,g,_,rfl,sm _ _ h1,Tz;exists hp,rfl,ca,room,used,born,cs,⟨⟨g,sm _ _ h1⟩,sm _ _ h2⟩;ext;rw[r];refine su (λt=>?_) (λt=>?_)
 ·apply⟨ε,v t l sm⟩
 ·apply aH c1 T.cY T.dR eF ?_;apply⟨hp,bT,g,_,rfl,sm _ _ h1,T.cL,T.nR,by show 4<1000;decide,?_⟩;rw[QG];apply aH aq T.cL T.gU nF ?_;ext;have n1:p≠hp:=(aF h1 i).symm;have n2:c≠hp:=(aF h1 f).symm;have n3:p≠ca:=(aF h2 i).symm;have n4:c≠ca:=(aF h2 f).symm;refine⟨p,dp,_,rfl,(aC n1).trans c1,qj,?_⟩;exists p,rfl,c,_,_,_,_,_,⟨⟨dp,(aC n1).trans c1⟩,(aC n2).trans c2⟩;ext;rw[r];refine⟨hp,bT,g,_,rfl,aq,T.cL,T.gU,by show 4<1000;decide,?_⟩;rw[xK,dF];exists hp,g,_,rfl,aq,YX;exists hp,.ref p,rfl,ca,room,_,_,cs,⟨⟨g,aq⟩,(aC h.symm).trans (sm _ _ h2)⟩,?_,hl
  ·intro y hy;rcases w y hy with e | ⟨a,C,d,fs,e,j,hc,u⟩
   ·exact .inl e
   ·refine .inr ?_
    by_cases z:a=hp
    ·rw[z]at j e;rw[h1]at j;cases j;exact⟨hp,_,_,_,e,aq,hc,u⟩
    ·exact⟨a,C,d,fs,e,(aC z).trans (sm _ _ j),hc,u⟩
  ·refine I δ p c _ i f ?_ ((aC h).trans aq) aq ⟨⟨dp,?_⟩,?_⟩
   ·intro b o hb hn;have D:b≠hp:=λz=>hn (by rw[z];exact List.mem_cons_self);have A:b≠ca:=λz=>hn (by rw[z];exact List.mem_cons_of_mem _ List.mem_cons_self);rw[aC A,aC D];exact sm _ _ hb
   ·rw[aC n3,aC n1];exact c1
   ·rw[aC n4,aC n2];exact c2
end
structure Ce where
 birth:Int
 bulk:Int
 tone:Int
 load:Int
 fl:Au
 deriving DecidableEq
structure Sw where
 sense:Int
 phase:Str
 grey:AE
 looked:Int
 turn:Int
 at':Int
 stop:Int
 walks:Int
 looks:Int
 passes:Int
 loss:V
structure Wm where
 room:Int
 used:Int
 born:Int
 cells:List (Option Ce)
 hands:List (Str×Au)
 names:List bX
 w:Int
 tells:Int
 sw:Sw
structure Wa where
 wo:AI
 hp:AI
 ca:AI
 ki:AI
 lk:AI
 hl:AI
 nm:AI
 sw:AI
 gr:AI
 hs:List (AI×AI)
 cs:List (Option (AI×AI))
 ns:AF
def oV:AA->V
 | none=>.non
 | some i=>.int i
def pV:Option (AI×AI)->V
 | none=>.non
 | some p=>.ref p.1
structure rF(s:Nat)(t0:Nat->Prop)(H H':Hp)(T T':Tg):Prop where
 kp:∀b o,H b=some o->(T b).1=s->¬ t0 (T b).2->H' b=some o
 tg:∀b o,H b=some o->T' b=T b
section
variable {CHd CC:AI}{H H':Hp}{T T':Tg}{s j i:Nat}{t0:Nat->Prop}
theorem rF.at{a:AI}{o:HO}{m:Nat}(f:rF s t0 H H' T T')(b:T a=(s,m))(n:¬ t0 m)(h:H a=some o):H' a=some o:=f.kp a o h (by rw[b]) (by rw[b];exact n)
theorem rF.tag{a:AI}{o:HO}{x:Nat×Nat}(f:rF s t0 H H' T T')(h:H a=some o)(b:T a=x):T' a=x:=(f.tg a o h).trans b
theorem rF.wY{a:AI}{o:HO}{m:Nat}(c:T a=(s,m)):rF s (·=m) H ei T T:=⟨λb u h e n=>by
  have:b≠a:=λz=>n (by rw[z,c]);rw[aC this];exact h,λ_ _ _=>rfl⟩
theorem rF.of_same(e:aY H H'):rF s (λ_=>False) H H' T T:=⟨λb o h _ _=>e b o h,λ_ _ _=>rfl⟩
theorem rF.Zak{s':Nat}(e:dZ s' H H' T T')(n:s≠s'):rF s (λ_=>False) H H' T T':=⟨λb o h z _=>e.kp b o h (by rw[z];exact n),e.tg⟩
structure HdO(CHd:AI)(H:Hp)(T:Tg)(s j:Nat)(p:AI×AI)(m:Str×Au):Prop where
 t1:T p.1=(s,20+2 * j)
 t2:T p.2=(s,21+2 * j)
 o1:∃dx,H p.1=some (.ins CHd dx (Zg6 m.1 p.2))
 o2:H p.2=some (.lst (m.2.map oV))
theorem HdO.mv{p:AI×AI}{m:Str×Au}(h:HdO CHd H T s j p m)(f:rF s t0 H H' T T')(n1:¬ t0 (20+2 * j))(n2:¬ t0 (21+2 * j)):HdO CHd H' T' s j p m:=by
 obtain⟨c,a,⟨e,d⟩,b⟩:=h;exact⟨f.tag d c,f.tag b a,⟨e,f.at c n1 d⟩,f.at a n2 b⟩
structure CeO(CC:AI)(H:Hp)(T:Tg)(s i:Nat)(p:AI×AI)(c:Ce):Prop where
 t1:T p.1=(s,100+2 * i)
 t2:T p.2=(s,101+2 * i)
 o1:∃dx,H p.1=some (.ins CC dx (jK c.birth c.bulk c.tone c.load p.2))
 o2:H p.2=some (.lst (c.fl.map oV))
theorem CeO.mv{p:AI×AI}{c:Ce}(h:CeO CC H T s i p c)(f:rF s t0 H H' T T')(n1:¬ t0 (100+2 * i))(n2:¬ t0 (101+2 * i)):CeO CC H' T' s i p c:=by
 obtain⟨d,a,⟨g,e⟩,b⟩:=h;exact⟨f.tag e d,f.tag b a,⟨g,f.at d n1 e⟩,f.at a n2 b⟩
def CeP(CC:AI)(H:Hp)(T:Tg)(s i:Nat):Option (AI×AI)->Option Ce->Prop
 | none,none=>True
 | some p,some c=>CeO CC H T s i p c
 | _,_=>False
theorem CeP.mv{p:Option (AI×AI)}{c:Option Ce}(h:CeP CC H T s i p c)(f:rF s t0 H H' T T')(n1:¬ t0 (100+2 * i))(n2:¬ t0 (101+2 * i)):CeP CC H' T' s i p c:=by
 cases p with
 | none=>cases c with
  | none=>trivial
  | some c=>exact h.elim
 | some p=>cases c with
  | none=>exact h.elim
  | some c=>exact CeO.mv h f n1 n2
end
def NmO(H:Hp)(T:Tg)(t:AI)(m:Str×(Int×Int)):Prop:=T t=(0,0)/\H t=some (.tup [.int m.2.1,.int m.2.2])
structure Cs where
 W:AI
 H:AI
 C:AI
 K:AI
 D:AI
 S:AI
 F:AI
 E:AI
 L:AI
structure WB(X:Cs)(H:Hp)(T:Tg)(s:Nat)(A:Wa)(w tells:Int):Prop where
 tw:T A.wo=(s,0)
 tk:T A.ki=(0,0)
 tl:T A.lk=(0,0)
 tn:T A.hl=(s,5)
 ow:∃dx,H A.wo=some (.ins X.W dx (wu A.hp A.ki A.hl A.nm A.sw))
 ok:∃dx,H A.ki=some (.ins X.K dx (Qm A.lk tells))
 ol:∃dx,(w=0/\H A.lk=some (.ins X.F dx []))\/(w=1/\H A.lk=some (.ins X.E dx []))\/(w=2/\H A.lk=some (.ins X.L dx []))
 on:H A.hl=some (.lst (A.hs.map λp=>V.ref p.1))
structure WH(X:Cs)(H:Hp)(T:Tg)(s:Nat)(A:Wa)(room used born:Int):Prop where
 th:T A.hp=(s,1)
 tc:T A.ca=(s,2)
 oh:∃dx,H A.hp=some (.ins X.H dx (iJ room A.ca used born))
 oc:H A.ca=some (.lst dt)
def qx(M:List bX)(ns:AF):List ((Int ⊕ Str)×V):=List.zipWith (λ(m:Str×(Int×Int)) (t:AI)=>(Sum.inr m.1,V.ref t)) M ns
structure WN(H:Hp)(T:Tg)(s:Nat)(A:Wa)(names:List bX):Prop where
 tm:T A.nm=(s,6)
 om:H A.nm=some (.dK (qx names A.ns))
 nms:Al (NmO H T) A.ns names
structure WS(X:Cs)(H:Hp)(T:Tg)(s:Nat)(A:Wa)(S:Sw):Prop where
 ts:T A.sw=(s,7)
 tg:T A.gr=(s,8)
 os:∃dx,H A.sw=some (.ins X.S dx bp)
 og:H A.gr=some (.lst (S.grey.map V.int))
structure WD(X:Cs)(H:Hp)(T:Tg)(s:Nat)(hs:List (AI×AI))(hands:List (Str×Au)):Prop where
 lh:hs.length=hands.length
 l5:hs.length<=30
 hd:∀(j:Nat) p m,hs[j]? =some p->hands[j]? =some m->HdO X.D H T s j p m
structure WC(X:Cs)(H:Hp)(T:Tg)(s:Nat)(cs:List (Option (AI×AI)))(cells:List (Option Ce)):Prop where
 lc:cs.length=cells.length
 ce:∀(i:Nat) p c,cs[i]? =some p->cells[i]? =some c->CeP X.C H T s i p c
structure WJ(X:Cs)(H:Hp)(T:Tg)(s:Nat)(A:Wa)(M:Wm):Prop where
 jb:WB X H T s A M.w M.tells
 jh:WH X H T s A M.room M.used M.born
 jn:WN H T s A M.names
 js:WS X H T s A M.sw
 jd:WD X H T s A.hs M.hands
 jc:WC X H T s A.cs M.cells
section
variable {X:Cs}{H H':Hp}{T T':Tg}{s:Nat}{t0:Nat->Prop}{A:Wa}{M:Wm}
theorem WB.mv{w tells:Int}(j:WB X H T s A w tells)(f:rF s t0 H H' T T')(a:∀b o,H b=some o->T b=(0,0)->H' b=some o)(g:¬ t0 0)(n5:¬ t0 5):WB X H' T' s A w tells:=by
 obtain⟨tw,tk,tl,tn,⟨d1,ow⟩,⟨d3,ok⟩,⟨d4,ol⟩,on⟩:=j;have d:∃o,H A.lk=some o:=by
  rcases ol with ⟨_,e⟩ | ⟨_,e⟩ | ⟨_,e⟩
  ·exact⟨_,e⟩
  ·exact⟨_,e⟩
  ·exact⟨_,e⟩
 obtain⟨h,c⟩:=d;refine⟨f.tag ow tw,f.tag ok tk,f.tag c tl,f.tag on tn,⟨d1,f.at tw g ow⟩,⟨d3,a _ _ ok tk⟩,⟨d4,?_⟩,f.at tn n5 on⟩;rcases ol with ⟨z,e⟩ | ⟨z,e⟩ | ⟨z,e⟩
 ·exact .inl ⟨z,a _ _ e tl⟩
 ·exact .inr (.inl ⟨z,a _ _ e tl⟩)
 ·exact .inr (.inr ⟨z,a _ _ e tl⟩)
theorem WH.mv{room used born:Int}(j:WH X H T s A room used born)(f:rF s t0 H H' T T')(n1:¬ t0 1)(n2:¬ t0 2):WH X H' T' s A room used born:=by
 obtain⟨th,tc,⟨d,oh⟩,oc⟩:=j;exact⟨f.tag oh th,f.tag oc tc,⟨d,f.at th n1 oh⟩,f.at tc n2 oc⟩
theorem WN.mv{names:List bX}(j:WN H T s A names)(f:rF s t0 H H' T T')(a:∀b o,H b=some o->T b=(0,0)->H' b=some o)(n6:¬ t0 6):WN H' T' s A names:=by
 obtain⟨tm,om,nms⟩:=j;exact⟨f.tag om tm,f.at tm n6 om,nms.mono (by rintro t m ⟨z1,z2⟩;exact⟨f.tag z2 z1,a _ _ z2 z1⟩)⟩
theorem WS.mv{S:Sw}(j:WS X H T s A S)(f:rF s t0 H H' T T')(n7:¬ t0 7)(n8:¬ t0 8):WS X H' T' s A S:=by
 obtain⟨ts,tg,⟨d,os⟩,og⟩:=j;exact⟨f.tag os ts,f.tag og tg,⟨d,f.at ts n7 os⟩,f.at tg n8 og⟩
theorem WD.mv{hs:List (AI×AI)}{hands:List (Str×Au)}(j:WD X H T s hs hands)(f:rF s t0 H H' T T')(n:∀k,20<=k->k<100->¬ t0 k):WD X H' T' s hs hands:=by
 obtain⟨lh,l5,hd⟩:=j;refine⟨lh,l5,λj p m a b=>?_⟩;have hl:j<hs.length:=(cP a).1;exact(hd j p m a b).mv f (n _ δ δ) (n _ δ δ)
theorem WC.mv{cs:List (Option (AI×AI))}{cells:List (Option Ce)}(j:WC X H T s cs cells)(f:rF s t0 H H' T T')(n:∀k,100<=k->¬ t0 k):WC X H' T' s cs cells:=by
 obtain⟨lc,ce⟩:=j;exact⟨lc,λi p c a b=>(ce i p c a b).mv f (n _ δ) (n _ δ)⟩
theorem WJ.mv(j:WJ X H T s A M)(f:rF s (λ_=>False) H H' T T')(a:∀b o,H b=some o->T b=(0,0)->H' b=some o):WJ X H' T' s A M:=
 ⟨j.jb.mv f a id id,j.jh.mv f id id,j.jn.mv f a id,j.js.mv f id id,j.jd.mv f λ_ _ _=>id,j.jc.mv f λ_ _=>id⟩
theorem WJ.same(j:WJ X H T s A M)(e:aY H H'):WJ X H' T s A M:=j.mv (rF.of_same e) λb o h _=>e b o h
theorem WJ.other{s':Nat}(j:WJ X H T s A M)(e:dZ s' H H' T T')(n:s≠s')(a:s'≠0):WJ X H' T' s A M:=j.mv (rF.Zak e n) λb o h t=>e.kp b o h (by rw[t];exact λz=>a z.symm)
theorem kY{a:AI}{d:HO}{m:Nat}(c:s≠0)(f:T a=(s,m)):∀b o,H b=some o->T b=(0,0)->upd H a d b=some o:=λb o e t=>by
 rw[aC (PB t f (λz=>c (congrArg Prod.fst z).symm))];exact e
theorem WJ.slot(j:WJ X H T s A M)(w:WT H T)(i:s≠0){h k:Nat}{p:AI×AI}{m:Str×Au}{x:AA}(hp:A.hs[h]? =some p)(hm:M.hands[h]? =some m):
  dZ s H (upd H p.2 (.lst ((m.2.map oV).set k (oV x)))) T T/\WJ X (upd H p.2 (.lst ((m.2.map oV).set k (oV x)))) T s A { M with hands:=M.hands.set h (m.1,m.2.set k x) }:=by
 have hl:=j.jd.l5;have r:h<A.hs.length:=(cP hp).1;have b:h<M.hands.length:=(cP hm).1;have d:=j.jd.hd h p m hp hm;refine⟨dZ.upd w d.o2 (by rw[d.t2]),?_⟩;have f:rF s (·=21+2 * h) H (upd H p.2 (.lst ((m.2.map oV).set k (oV x)))) T T:=rF.wY d.t2;have l:upd H p.2 (.lst ((m.2.map oV).set k (oV x))) p.2=some (.lst ((m.2.set k x).map oV)):=by rw[aq,List.map_set]
 refine⟨j.jb.mv f (kY i d.t2) δ δ,j.jh.mv f δ δ,j.jn.mv f (kY i d.t2) δ,j.js.mv f δ δ,⟨by rw[List.length_set];exact j.jd.lh,hl,λg n o c a=>?_⟩,j.jc.mv f λ_ _=>δ⟩
 by_cases e:g=h
 ·subst e;dsimp only at a;rw[List.getElem?_set_self b]at a;rw[hp]at c;cases c;cases a;obtain⟨q,o1⟩:=d.o1;exact⟨d.t1,d.t2,⟨q,f.at d.t1 δ o1⟩,l⟩
 ·dsimp only at a;rw[List.getElem?_set_ne (λz=>e z.symm)]at a;exact(j.jd.hd g n o c a).mv f δ δ
theorem WC.at(j:WC X H T s A.cs M.cells){i:Nat}{c:Ce}(h:M.cells[i]? =some (some c)):∃p,A.cs[i]? =some (some p)/\CeO X.C H T s i p c:=by
 have hl:i<A.cs.length:=by rw[j.lc];exact(cP h).1
 have e:=j.ce i _ _ (bK hl) h;cases hg:A.cs[i]with
 | none=>rw[hg]at e;exact e.elim
 | some g=>rw[hg]at e;exact⟨g,by rw[bK hl,hg],e⟩
theorem WC.at0(j:WC X H T s A.cs M.cells){i:Nat}(h:M.cells[i]? =some none):A.cs[i]? =some none:=by
 have hl:i<A.cs.length:=by rw[j.lc];exact(cP h).1
 have e:=j.ce i _ _ (bK hl) h;cases hg:A.cs[i]with
 | none=>rw[bK hl,hg]
 | some g=>rw[hg]at e;exact e.elim
theorem WC.chg(j:WC X H T s A.cs M.cells){i:Nat}{p:AI×AI}{c':Ce}(f:rF s t0 H H' T T')(hp:A.cs[i]? =some (some p))(n:∀k,100<=k->k≠100+2 * i->k≠101+2 * i->¬ t0 k)(e:CeO X.C H' T' s i p c'):
  WC X H' T' s A.cs (M.cells.set i (some c')):=by
 have hl:i<A.cs.length:=(cP hp).1;refine⟨by rw[List.length_set];exact j.lc,λk g c b a=>?_⟩
 by_cases hk:k=i
 ·subst hk;rw[List.getElem?_set_self (by rw[<- j.lc];exact hl)]at a;rw[hp]at b;cases b;cases a;exact e
 ·rw[List.getElem?_set_ne (λz=>hk z.symm)]at a;exact(j.ce k g c b a).mv f (n _ δ δ δ) (n _ δ δ δ)
theorem WJ.field(j:WJ X H T s A M)(w:WT H T)(a:s≠0){i k:Nat}{p:AI×AI}{c:Ce}{x:AA}(hp:A.cs[i]? =some (some p))(e:CeO X.C H T s i p c):
  dZ s H (upd H p.2 (.lst ((c.fl.map oV).set k (oV x)))) T T/\WJ X (upd H p.2 (.lst ((c.fl.map oV).set k (oV x)))) T s A { M with cells:=M.cells.set i (some { c with fl:=c.fl.set k x }) }:=by
 refine⟨dZ.upd w e.o2 (by rw[e.t2]),?_⟩;have f:rF s (·=101+2 * i) H (upd H p.2 (.lst ((c.fl.map oV).set k (oV x)))) T T:=rF.wY e.t2;have b:upd H p.2 (.lst ((c.fl.map oV).set k (oV x))) p.2=some (.lst ((c.fl.set k x).map oV)):=by rw[aq,List.map_set]
 obtain⟨d,o1⟩:=e.o1;exact⟨j.jb.mv f (kY a e.t2) δ δ,j.jh.mv f δ δ,j.jn.mv f (kY a e.t2) δ,j.js.mv f δ δ,j.jd.mv f λ_ _ _=>δ,
  j.jc.chg f hp (λk _ _ n2 z=>n2 z) ⟨e.t1,e.t2,⟨d,f.at e.t1 δ o1⟩,b⟩⟩
theorem WJ.cell(j:WJ X H T s A M)(w:WT H T)(a:s≠0){i:Nat}{p:AI×AI}{c:Ce}{dx:AI}{tone load:Int}(hp:A.cs[i]? =some (some p))(e:CeO X.C H T s i p c):
  dZ s H (upd H p.1 (.ins X.C dx (jK c.birth c.bulk tone load p.2))) T T/\WJ X (upd H p.1 (.ins X.C dx (jK c.birth c.bulk tone load p.2))) T s A { M with cells:=M.cells.set i (some { c with tone:=tone,load:=load }) }:=by
 obtain⟨b,o1⟩:=e.o1;refine⟨dZ.upd w o1 (by rw[e.t1]),?_⟩;have f:rF s (·=100+2 * i) H (upd H p.1 (.ins X.C dx (jK c.birth c.bulk tone load p.2))) T T:=rF.wY e.t1;exact⟨j.jb.mv f (kY a e.t1) δ δ,j.jh.mv f δ δ,j.jn.mv f (kY a e.t1) δ,j.js.mv f δ δ,j.jd.mv f λ_ _ _=>δ,
  j.jc.chg f hp (λk _ n1 _ z=>n1 z) ⟨e.t1,e.t2,⟨dx,aq⟩,f.at e.t2 δ e.o2⟩⟩
theorem WJ.sweep(j:WJ X H T s A M)(w:WT H T)(a:s≠0){dx:AI}(S:Sw)(b:S.grey=M.sw.grey):
  dZ s H (upd H A.sw (.ins X.S dx bp)) T T/\
  WJ X (upd H A.sw (.ins X.S dx bp)) T s A { M with sw:=S }:=by
 obtain⟨ts,tg,⟨c,os⟩,og⟩:=j.js;refine⟨dZ.upd w os (by rw[ts]),?_⟩;have f:rF s (·=7) H (upd H A.sw (.ins X.S dx bp)) T T:=rF.wY ts;exact⟨j.jb.mv f (kY a ts) δ δ,j.jh.mv f δ δ,j.jn.mv f (kY a ts) δ,⟨ts,tg,⟨dx,aq⟩,by rw[b];exact f.at tg δ og⟩,j.jd.mv f λ_ _ _=>δ,j.jc.mv f λ_ _=>δ⟩
theorem WJ.Zqe(j:WJ X H T s A M)(w:WT H T)(a:s≠0){g:AE}:dZ s H (upd H A.gr (.lst (g.map V.int))) T T/\WJ X (upd H A.gr (.lst (g.map V.int))) T s A { M with sw:={ M.sw with grey:=g } }:=by
 obtain⟨ts,tg,⟨b,os⟩,og⟩:=j.js;refine⟨dZ.upd w og (by rw[tg]),?_⟩;have f:rF s (·=8) H (upd H A.gr (.lst (g.map V.int))) T T:=rF.wY tg;exact⟨j.jb.mv f (kY a tg) δ δ,j.jh.mv f δ δ,j.jn.mv f (kY a tg) δ,⟨ts,tg,⟨b,f.at ts δ os⟩,aq⟩,j.jd.mv f λ_ _ _=>δ,j.jc.mv f λ_ _=>δ⟩
theorem WJ.back(j:WJ X H T s A M)(w:WT H T)(C:s≠0){i:Nat}{dx:AI}{used':Int}(hi:i<A.cs.length)(H':Hp)(kp:∀b o,H b=some o->b≠A.hp->b≠A.ca->H' b=some o)(y:H' A.hp=some (.ins X.H dx (iJ M.room A.ca used' M.born)))(x:H' A.ca=some (.lst ((A.cs.map pV).set i V.non))):
  dZ s H H' T T/\WJ X H' T s { A with cs:=A.cs.set i none } { M with used:=used',cells:=M.cells.set i none }:=by
 obtain⟨th,tc,⟨J,oh⟩,oc⟩:=j.jh;have al:∀b o,H b=some o->∃u,H' b=some u:=λb o h=>by
  by_cases z1:b=A.hp
  ·exact⟨_,by rw[z1];exact y⟩
  ·by_cases v:b=A.ca
   ·exact⟨_,by rw[v];exact x⟩
   ·exact⟨o,kp b o h z1 v⟩
 have f:rF s (λk=>k=1\/k=2) H H' T T:=⟨λb o h e n=>kp b o h (λz=>n (.inl (by rw[z,th]))) (λz=>n (.inr (by rw[z,tc]))),λ_ _ _=>rfl⟩;have r:∀b o,H b=some o->T b=(0,0)->H' b=some o:=λb o h t=>kp b o h (PB t th (λz=>C (congrArg Prod.fst z).symm)) (PB t tc (λz=>C (congrArg Prod.fst z).symm));refine⟨⟨λb o h n=>kp b o h (λz=>n (by rw[z,th])) (λz=>n (by rw[z,tc])),al,λ_ _ _=>rfl,λb h=>w b ?_⟩,?_⟩
 ·cases z:H b with
  | none=>rfl
  | some o=>obtain⟨u,B⟩:=al b o z;rw[h]at B;cases B
 ·refine⟨?_,⟨th,tc,⟨dx,y⟩,by rw[List.map_set];exact x⟩,?_,?_,j.jd.mv f λ_ _ _=>δ,⟨by rw[List.length_set,List.length_set];exact j.jc.lc,λk g c d a=>?_⟩⟩
  ·obtain⟨m,l,p,q,I,F,E,D⟩:=j.jb.mv f r δ δ;exact⟨m,l,p,q,I,F,E,D⟩
  ·obtain⟨m,l,p⟩:=j.jn.mv f r δ;exact⟨m,l,p⟩
  ·obtain⟨m,l,p,q⟩:=j.js.mv f δ δ;exact⟨m,l,p,q⟩
  ·by_cases hk:k=i
   ·subst hk;dsimp only at d a;rw[List.getElem?_set_self hi]at d;rw[List.getElem?_set_self (by rw[<- j.jc.lc];exact hi)]at a;cases d;cases a
    trivial
   ·dsimp only at d a;rw[List.getElem?_set_ne (λz=>hk z.symm)]at d a;exact(j.jc.ce k g c d a).mv f δ δ
end
def iD{a:Type}:List (Option a)->Nat
 | []=>0
 | none::_=>0
 | some _::l=>iD l+1
def jB{a:Type}(l:List (Option a))(x:a):List (Option a):=if iD l<l.length then l.set (iD l) (some x)else l++[some x]
theorem Y0{c:Type}(l:List (Option c)):iD l<=l.length:=by
 induction l with
 | nil=>exact Nat.le_refl _
 | cons a l b=>cases a with
  | none=>exact Nat.zero_le _
  | some a=>exact Nat.succ_le_succ b
theorem Zg7{c:Type}{l:List (Option c)}(h:iD l<l.length):l[iD l]? =some none:=by
 induction l with
 | nil=>exact absurd h (Nat.lt_irrefl _)
 | cons a l b=>cases a with
  | none=>rfl
  | some a=>exact b (Nat.lt_of_succ_lt_succ h)
theorem Zbr{g:Type}{f:Option g->V}(d:∀x,f x=V.non↔x=none)(l:List (Option g)):(l.map f).idxOf V.non=iD l/\(V.non∈l.map f↔iD l<l.length):=by
 induction l with
 | nil=>exact⟨rfl,⟨λz=>(nomatch z),λz=>absurd z (Nat.lt_irrefl _)⟩⟩
 | cons a l c=>
  rw[List.map_cons,List.idxOf_cons];cases a with
  | none=>
   have e:f none=V.non:=(d none).mpr rfl;rw[e];exact⟨rfl,⟨λ_=>Nat.zero_lt_succ _,λ_=>List.mem_cons_self⟩⟩
  | some a=>
   have e:f (some a)≠V.non:=λz=>by cases (d (some a)).mp z
   have b:(f (some a) == V.non)=false:=beq_eq_false_iff_ne.mpr e;rw[b];refine⟨congrArg (· + 1) c.1,?_⟩;show _↔iD l+1<l.length+1;rw[List.mem_cons,c.2];constructor
   ·rintro(z | z)
    ·exact absurd z.symm e
    ·omega
   ·intro z;exact .inr δ
theorem Zk3{a:Type}{f:Option a->V}(d:∀x,f x=V.non↔x=none)(l:List (Option a))(x:a):putN (l.map f) (f (some x))=(jB l x).map f:=by
 obtain⟨c,b⟩:=Zbr d l;unfold putN jB
 by_cases z:iD l<l.length
 ·rw[if_pos z,if_pos (b.mpr z),List.map_set];exact congrArg (λk=>(l.map f).set k (f (some x))) c
 ·rw[if_neg z,if_neg (λw=>z (b.mp w)),List.map_append];rfl
theorem Zkk(p:Option (AI×AI)):pV p=V.non↔p=none:=by cases p<;>simp[pV]
theorem Mq{a:Type}(l:List (Option a))(x:a):(jB l x)[iD l]? =some (some x):=by
 unfold jB
 by_cases z:iD l<l.length
 ·rw[if_pos z,List.getElem?_set_self z]
 ·have e:iD l=l.length:=Nat.le_antisymm (Y0 l) δ;rw[if_neg z,e,List.getElem?_append_right Δ,Nat.sub_self];rfl
theorem Zfr{a:Type}{l:List (Option a)}{x:a}{i:Nat}{y:Option a}(hi:i≠iD l)(h:(jB l x)[i]? =some y):l[i]? =some y:=by
 unfold jB at h
 by_cases z:iD l<l.length
 ·rw[if_pos z,List.getElem?_set_ne (λw=>hi w.symm)]at h;exact h
 ·rw[if_neg z]at h;have e:iD l=l.length:=Nat.le_antisymm (Y0 l) δ;have hl:=(cP h).1;rw[List.length_append,List.length_singleton]at hl;rw[List.getElem?_append_left δ]at h;exact h
theorem Zk4{a b:Type}{l:List (Option a)}{m:List (Option b)}{x:a}{y:b}(hl:l.length=m.length)(c:iD l=iD m):(jB l x).length=(jB m y).length:=by
 unfold jB
 by_cases z:iD l<l.length
 ·rw[if_pos z,if_pos δ,List.length_set,List.length_set];exact hl
 ·rw[if_neg z,if_neg δ,List.length_append,List.length_append,hl];rfl
theorem Znu{a:Type}(l:List (Option a))(x:a):(jB l x).length<=l.length+1:=by
 unfold jB
 by_cases z:iD l<l.length
 ·rw[if_pos z,List.length_set];omega
 ·rw[if_neg z,List.length_append];exact Nat.le_refl _
theorem Zpb{g d:Type}:∀(l:List (Option g)) (m:List (Option d)),l.length=m.length->(∀(i:Nat) x y,l[i]? =some x->m[i]? =some y->(x=none↔y=none))->iD l=iD m:=by
 intro l
 induction l with
 | nil=>
  intro m hl _;cases m with
  | nil=>rfl
  | cons b m=>simp at hl
 | cons a l f=>
  intro m hl h;cases m with
  | nil=>simp at hl
  | cons b m=>
   have c:=f m (by simpa using hl) λi x y h1 h2=>h de x y (by simpa using h1) (by simpa using h2);have e:=h 0 a b rfl rfl;cases a with
   | none=>rw[e.mp rfl];rfl
   | some a=>cases b with
    | none=>exact absurd (e.mpr rfl) aS
    | some b=>exact congrArg (· + 1) c
section
variable {X:Cs}{H H':Hp}{T T':Tg}{s:Nat}{A:Wa}{M:Wm}
theorem WC.fst(j:WC X H T s A.cs M.cells):iD A.cs=iD M.cells:=Zpb _ _ j.lc λi p c a b=>by
 have e:=j.ce i p c a b;cases p with
 | none=>cases c with
  | none=>exact⟨λ_=>rfl,λ_=>rfl⟩
  | some c=>exact e.elim
 | some p=>cases c with
  | none=>exact e.elim
  | some c=>exact⟨λz=>(by cases z),λz=>(by cases z)⟩
theorem WJ.put(j:WJ X H T s A M)(w:WT H T)(K:s≠0){dx:AI}{used':Int}{p fa:AI}{c:Ce}(kp:∀b o,H b=some o->b≠A.hp->b≠A.ca->H' b=some o)(I:H' A.hp=some (.ins X.H dx (iJ M.room A.ca used' (M.born+1))))(F:H' A.ca=some (.lst (putN dt (.ref p))))
  (n1:H p=none) (n2:H fa=none) (O:p≠fa) (o1:∃dx,H' p=some (.ins X.C dx (jK c.birth c.bulk c.tone c.load fa))) (o2:H' fa=some (.lst (c.fl.map oV))):
  ∃T',dZ s H H' T T'/\WJ X H' T' s { A with cs:=jB A.cs (p,fa) } { M with used:=used',born:=M.born+1,cells:=jB M.cells c }:=by
 obtain⟨th,tc,⟨S,oh⟩,oc⟩:=j.jh;have v:=j.jc.fst
 let k:=iD A.cs
 let T':Tg:=fX (fX T p (s,100+2 * k)) fa (s,101+2 * k)
 have a:∀b o,H b=some o->T' b=T b:=λb o h=>by
  show fX _ _ _ b=_;rw[ie (aF h n2),ie (aF h n1)]
 have t1:T' p=(s,100+2 * k):=by show fX _ _ _ p=_;rw[ie O,eX]
 have t2:T' fa=(s,101+2 * k):=by show fX _ _ _ fa=_;rw[eX]
 have al:∀b o,H b=some o->∃D,H' b=some D:=λb o h=>by
  by_cases z1:b=A.hp
  ·exact⟨_,by rw[z1];exact I⟩
  ·by_cases E:b=A.ca
   ·exact⟨_,by rw[E];exact F⟩
   ·exact⟨o,kp b o h z1 E⟩
 have f:rF s (λk=>k=1\/k=2) H H' T T':=⟨λb o h e n=>kp b o h (λz=>n (.inl (by rw[z,th]))) (λz=>n (.inr (by rw[z,tc]))),a⟩;have B:∀b o,H b=some o->T b=(0,0)->H' b=some o:=λb o h t=>kp b o h (PB t th (λz=>K (congrArg Prod.fst z).symm)) (PB t tc (λz=>K (congrArg Prod.fst z).symm));refine⟨T',⟨λb o h y=>kp b o h (λz=>y (by rw[z,th])) (λz=>y (by rw[z,tc])),al,a,λb h=>?_⟩,?_⟩
 ·have m:b≠p:=λe=>by obtain⟨d,z⟩:=o1;rw[e,z]at h;cases h
  have l:b≠fa:=λe=>by rw[e,o2]at h;cases h
  have hb:H b=none:=by
   cases z:H b with
   | none=>rfl
   | some o=>obtain⟨D,J⟩:=al b o z;rw[h]at J;cases J
  show fX _ _ _ b=_;rw[ie l,ie m];exact w b hb
 ·refine⟨?_,⟨f.tag oh th,f.tag oc tc,⟨dx,I⟩,?_⟩,?_,?_,j.jd.mv f λ_ _ _=>δ,⟨Zk4 j.jc.lc v,λi g P u r=>?_⟩⟩
  ·obtain⟨m,l,q,x,R,Q,N,L⟩:=j.jb.mv f B δ δ;exact⟨m,l,q,x,R,Q,N,L⟩
  ·show H' A.ca=some (.lst ((jB A.cs (p,fa)).map pV));rw[<- Zk3 Zkk];exact F
  ·obtain⟨m,l,q⟩:=j.jn.mv f B δ;exact⟨m,l,q⟩
  ·obtain⟨m,l,q,x⟩:=j.js.mv f δ δ;exact⟨m,l,q,x⟩
  ·dsimp only at u r
   by_cases hk:i=iD A.cs
   ·subst hk;rw[Mq]at u;rw[v,Mq]at r;cases u;cases r;exact⟨t1,t2,o1,o2⟩
   ·exact(j.jc.ce i g P (Zfr hk u) (Zfr (by rw[<- v];exact hk) r)).mv f δ δ
end
def cellAt(M:Wm)(x:Int):Option Ce:=if 0<=x then(M.cells[x.toNat]?).join else none
def mU(M:Wm):AA->AA
 | none=>none
 | some x=>(cellAt M x).map (·.birth)
def aV(M:Wm)(h k:Nat):AA:=((M.hands[h]?).bind λm=>m.2[k]?).join
def setSlot(M:Wm)(h k:Nat)(x:AA):Wm:={ M with hands:=M.hands.modify h λm=>(m.1,m.2.set k x) }
def setCell(M:Wm)(i:Int)(c:Ce):Wm:={ M with cells:=M.cells.set i.toNat (some c) }
def bA(M:Wm):AA->AA×Wm
 | none=>(none,M)
 | some i=>match cellAt M i with
  | none=>(none,M)
  | some c=>if M.sw.phase="walk"/\c.tone≠M.sw.sense then(some c.birth,{ setCell M i { c with tone:=M.sw.sense }with sw:={ M.sw with grey:=M.sw.grey++[i] } })else(none,M)
def cX(M:Wm)(h:Nat):Bool:=decide (M.sw.looked / 2 ^ h % 2=1)
def ji(M:Wm)(a birth:Int):Bool:=match cellAt M a with
 | none=>true
 | some c=>if c.birth=birth then decide (M.sw.phase="give"/\c.tone≠M.sw.sense)else true
def mq(l:List bX)(k:Str)(v:Int×Int):List bX:=if (l.any λm=>decide (m.1=k))=true then l.map (λm=>if m.1=k then(m.1,v)else m)else l++[(k,v)]
def rD(l:List bX)(k:Str):Option (Int×Int):=(l.find? λm=>decide (m.1=k)).map (·.2)
def TgO(s:Nat)(t:Nat×Nat):Prop:=t.1=0\/t.1=s+1
theorem TgO.ne{s:Nat}{t:Nat×Nat}(h:TgO s t)(a:s≠0):t.1≠s:=by unfold TgO at h;omega
inductive Rf where
 | full | empty | m7 | Px
 deriving DecidableEq
structure Ev where
 word:Str
 thing:AA
 notes:AE
inductive iZ where
 | make (h s:Nat) (many bulk:Int)
 | get (h s t f:Nat)
 | put (h t f s:Nat)
 | copy (h s t:Nat)
 | drop (h s:Nat)
 | give (h s g t:Nat)
 | write (h t:Nat) (load:Int)
 | read (h t:Nat)
 | name (h t:Nat) (word:Str)
 | seek (h s:Nat) (word:Str)
def old?(M:Wm):Bool:=decide (M.tells % 2=1)
def nP(M:Wm):Bool:=decide (M.tells / 2 % 2=1)
def X4:AA->AE
 | none=>[]
 | some b=>[b]
def aO(M:Wm):Au->AE×Wm
 | []=>([],M)
 | x::l=>(X4 (bA M x).1++(aO (bA M x).2 l).1,(aO (bA M x).2 l).2)
def kJ(M:Wm):iZ->Except Rf (Ev×Wm)
 | .make h s many bulk=>
  if M.used+(1+many+bulk)<=M.room then
   .ok (⟨"made",some (M.born+1),[]⟩,setSlot { M with used:=M.used+(1+many+bulk),born:=M.born+1,cells:=jB M.cells ⟨M.born+1,bulk,M.sw.sense,0,List.replicate many.toNat none⟩ } h s (some (iD M.cells)))
  else .error .full
 | .get h s t f=>match aV M h t with
  | none=>.error .empty
  | some x=>match cellAt M x with
   | none=>.error .empty
   | some c=>match c.fl[f]? with
    | none=>.error .m7
    | some v=>.ok (⟨"got",mU M v,[]⟩,setSlot M h s v)
 | .put h t f s=>match aV M h t with
  | none=>.error .empty
  | some x=>match cellAt M x with
   | none=>.error .empty
   | some c=>match c.fl[f]? with
    | none=>.error .m7
    | some v=>
     let M1:=setCell M x { c with fl:=c.fl.set f (aV M h s) }
     let r:=aO M1 ((if old? M=true then [v]else [])++if (nP M && !cX M h)=true then [aV M h s]else [])
     .ok (⟨"put",mU M v,r.1⟩,r.2)
 | .copy h s t=>.ok (⟨"copied",mU M (aV M h t),[]⟩,setSlot M h s (aV M h t))
 | .drop h s=>.ok (⟨"dropped",mU M (aV M h s),[]⟩,setSlot M h s none)
 | .give h s g t=>
  let r:=aO (setSlot M g t (aV M h s)) (if (nP M && !cX M h)=true then [aV M h s]else [])
  .ok (⟨"given",mU M (aV M h s),r.1⟩,r.2)
 | .write h t load=>match aV M h t with
  | none=>.error .empty
  | some x=>match cellAt M x with
   | none=>.error .empty
   | some c=>.ok (⟨"wrote",some c.load,[]⟩,setCell M x { c with load:=load })
 | .read h t=>match aV M h t with
  | none=>.error .empty
  | some x=>match cellAt M x with
   | none=>.error .empty
   | some c=>.ok (⟨"read",some c.load,[]⟩,M)
 | .name h t word=>match aV M h t with
  | none=>.error .empty
  | some x=>match cellAt M x with
   | none=>.error .empty
   | some c=>.ok (⟨"named",some c.birth,[]⟩,{ M with names:=mq M.names word (x,c.birth) })
 | .seek h s word=>match rD M.names word with
  | none=>.error .Px
  | some (p,b)=>
   if ji M p b=true then .ok (⟨"sought",none,[]⟩,setSlot M h s none)
   else
    let r:=aO (setSlot M h s (some p)) [some p]
    .ok (⟨"sought",some b,r.1⟩,r.2)
def dV:iZ->List V
 | .make h s many bulk=>[.str "make",.int h,.int s,.int many,.int bulk]
 | .get h s t f=>[.str "get",.int h,.int s,.int t,.int f]
 | .put h t f s=>[.str "put",.int h,.int t,.int f,.int s]
 | .copy h s t=>[.str "copy",.int h,.int s,.int t]
 | .drop h s=>[.str "drop",.int h,.int s]
 | .give h s g t=>[.str "give",.int h,.int s,.int g,.int t]
 | .write h t load=>[.str "write",.int h,.int t,.int load]
 | .read h t=>[.str "read",.int h,.int t]
 | .name h t word=>[.str "name",.int h,.int t,.str word]
 | .seek h s word=>[.str "seek",.int h,.int s,.str word]
def yE(M:Wm)(h s:Nat):Prop:=∃m,M.hands[h]? =some m/\s<m.2.length
def okD(M:Wm):iZ->Prop
 | .make h s many bulk=>yE M h s/\0<=many/\many<=1000/\0<=bulk
 | .get h s t _=>yE M h s/\yE M h t
 | .put h t _ s=>yE M h t/\yE M h s
 | .copy h s t=>yE M h s/\yE M h t
 | .drop h s=>yE M h s
 | .give h s g t=>yE M h s/\yE M g t
 | .write h t _=>yE M h t
 | .read h t=>yE M h t
 | .name h t _=>yE M h t
 | .seek h s _=>yE M h s
structure Ok(M:Wm):Prop where
 sl:∀m∈M.hands,∀x,some x∈m.2->∃c,cellAt M x=some c
 fl:∀c,some c∈M.cells->∀x,some x∈c.fl->∃d,cellAt M x=some d
 tn:∀c,some c∈M.cells->c.tone=0\/c.tone=1
def Mm(c d b a:AI):Rf->AI
 | .full=>c
 | .empty=>d
 | .m7=>b
 | .Px=>a
def EvN(H0 H:Hp)(T:Tg)(s:Nat)(a:AI)(e:Ev):Prop:=∃l,(H0 l=none/\TgO s (T l)/\TgO s (T a))/\H a=some (.tup [.str e.word,oV e.thing,.ref l])/\H l=some (.lst (e.notes.map V.int))
theorem vZ{H:Hp}{T:Tg}{s:Nat}{l:AI}(w:WT H T)(a:s≠0)(n:H l=none):H l=none/\TgO s (T l):=⟨n,by rw[w l n];exact .inl rfl⟩
inductive uA(X:Cs)(rf:Rf->AI)(P:iZ->Prop)(wo dd:AI)(H:Hp)(Q:VK)(E:XK):Prop
 | mk (T s A M d) (_:P d) (_:WT H T) (_:s≠0) (_:WJ X H T s A M) (_:A.wo=wo) (_:H dd=some (.tup (dV d))) (_:okD M d) (_:M.cells.length<=900) (_:(M.sw.phase="walk"->M.sw.grey.length<=10000)) (_:(0<=M.tells/\M.tells<4)) (_:M.names.length<=1000) (_:(∀r,kJ M d=.error r->∀H',aY H H'->E (.ref (rf r)) none H')) (_:(∀e M',kJ M d=.ok (e,M')->∀H' T' A' a,dZ s H H' T T'->WJ X H' T' s A' M'->A'.wo=wo->EvN H H' T' s a e->Q (.ref a) H')):uA X rf P wo dd H Q E
def cJ(X:Cs)(a:Rf->AI)(P:iZ->Prop):Sp:=λvs H Q E=>∃wo dd,vs=[.ref wo,.ref dd]/\uA X a P wo dd H Q E
abbrev Zzd(X:Cs)(rf:Rf->AI):Sp:=cJ X rf λ_=>True
theorem Zhc{b:Type}{l:List (Option b)}{x a:b}{i:Nat}(h:l[i]? =some (some a)):(jB l x)[i]? =some (some a):=by
 have hl:=(cP h).1;unfold jB
 by_cases z:iD l<l.length
 ·have hi:i≠iD l:=λe=>by rw[e,Zg7 z]at h;cases h
  rw[if_pos z,List.getElem?_set_ne (λw=>hi w.symm)];exact h
 ·rw[if_neg z,List.getElem?_append_left hl];exact h
theorem bF{M:Wm}{x:Int}{c:Ce}:cellAt M x=some c↔0<=x/\M.cells[x.toNat]? =some (some c):=by
 unfold cellAt
 by_cases z:0<=x
 ·rw[if_pos z];cases e:M.cells[x.toNat]? with
  | none=>simp
  | some y=>cases y with
   | none=>simp
   | some d=>simp[z]
 ·rw[if_neg z];simp[z]
theorem mR{M:Wm}{x:Int}{c:Ce}(h:cellAt M x=some c):some c∈M.cells:=List.mem_of_getElem? (bF.mp h).2
theorem Zer{M:Wm}{x u b:Int}{c d:Ce}(h:cellAt M x=some d):cellAt { M with used:=u,born:=b,cells:=jB M.cells c } x=some d:=by
 obtain⟨a,h1⟩:=bF.mp h;exact bF.mpr ⟨a,Zhc h1⟩
theorem Zes{M:Wm}{u b:Int}{c:Ce}:cellAt { M with used:=u,born:=b,cells:=jB M.cells c } (iD M.cells)=some c:=
 bF.mpr ⟨δ,by rw[Int.toNat_natCast];exact Mq _ _⟩
theorem Zl9{a:Type}{l:List (Option a)}{x:a}{y:Option a}(h:y∈jB l x):y∈l\/y=some x:=by
 unfold jB at h
 by_cases z:iD l<l.length
 ·rw[if_pos z]at h;rcases List.mem_or_eq_of_mem_set h with h | h
  ·exact .inl h
  ·exact .inr h
 ·rw[if_neg z]at h;rcases List.mem_append.mp h with h | h
  ·exact .inl h
  ·exact .inr (List.mem_singleton.mp h)
theorem Zh8{M:Wm}{h k:Nat}{m:Str×Au}{x:AA}(hm:M.hands[h]? =some m)(hk:m.2[k]? =some x):aV M h k=x:=by
 unfold aV;rw[hm];show(m.2[k]?).join=x;rw[hk];rfl
theorem Zaj{M:Wm}{h k:Nat}(o:yE M h k):∃m,M.hands[h]? =some m/\m.2[k]? =some (aV M h k)/\k<m.2.length:=by
 obtain⟨m,hm,hk⟩:=o;refine⟨m,hm,?_,hk⟩;rw[Zh8 hm (bK hk)];exact bK hk
theorem R4{M:Wm}{h k:Nat}{x:AA}{m:Str×Au}(hm:M.hands[h]? =some m):(setSlot M h k x).hands=M.hands.set h (m.1,m.2.set k x):=by
 show M.hands.modify h _=_;refine List.ext_getElem? ?_;intro i;rw[List.getElem?_modify]
 by_cases e:h=i
 ·subst e;rw[List.getElem?_set_self (cP hm).1,hm];simp
 ·rw[List.getElem?_set_ne e];simp[e]
theorem lH{M:Wm}{h k:Nat}{x:AA}{y:AA}:mU (setSlot M h k x) y=mU M y:=by cases y<;>rfl
def rowsOf(M:Wm):List Au:=M.hands.map λm=>m.2.map (mU M)
theorem Zdl{M:Wm}(h:M.sw.phase≠"walk")(x:AA):bA M x=(none,M):=by
 cases x with
 | none=>rfl
 | some x=>
  unfold bA;dsimp only;cases cellAt M x with
  | none=>rfl
  | some c=>
   dsimp only;rw[if_neg (λz=>h z.1)]
theorem Zc0{M:Wm}{h s:Nat}{many bulk:Int}(a:M.used+(1+many+bulk)<=M.room):kJ M (.make h s many bulk)=.ok (⟨"made",some (M.born+1),[]⟩,setSlot { M with used:=M.used+(1+many+bulk),born:=M.born+1,cells:=jB M.cells ⟨M.born+1,bulk,M.sw.sense,0,List.replicate many.toNat none⟩ } h s (some (iD M.cells))):=by
 show(if _ then _ else _)=_;rw[if_pos a]
structure lK(K:aB)(X:Cs):Prop where
 c:TxC K X.C X.H
 cW:MP K X.W
 Bv:cQ K X.W "heap"
 nWk:cQ K X.W "kind"
 nWd:cQ K X.W "hands"
 nWn:cQ K X.W "names"
 P0:cQ K X.W "sweeper"
 cD:MP K X.D
 nDn:cQ K X.D "name"
 nDs:cQ K X.D "slots"
 cK:MP K X.K
 nKl:cQ K X.K "looking"
 nKt:cQ K X.K "tells"
 cS:MP K X.S
 n1:cQ K X.S "sense"
 n2:cQ K X.S "phase"
 n3:cQ K X.S "grey"
 n4:cQ K X.S "looked"
 n5:cQ K X.S "turn"
 n6:cQ K X.S "at"
 n7:cQ K X.S "stop"
 n8:cQ K X.S "walks"
 n9:cQ K X.S "looks"
 n10:cQ K X.S "passes"
 n11:cQ K X.S "loss"
structure WJ0(X:Cs)(H:Hp)(T:Tg)(s:Nat)(A:Wa)(M:Wm):Prop where
 jb:WB X H T s A M.w M.tells
 jh:WH X H T s A M.room M.used M.born
 js:WS X H T s A M.sw
 jd:WD X H T s A.hs M.hands
 jc:WC X H T s A.cs M.cells
theorem WJ.w0{X:Cs}{H:Hp}{T:Tg}{s:Nat}{A:Wa}{M:Wm}(j:WJ X H T s A M):WJ0 X H T s A M:=⟨j.jb,j.jh,j.js,j.jd,j.jc⟩
theorem WJ.names{X:Cs}{H:Hp}{T:Tg}{s:Nat}{A:Wa}{M:Wm}{o:HO}(j:WJ X H T s A M)(a:s≠0):WJ0 X (upd H A.nm o) T s A M:=by
 have f:rF s (·=6) H (upd H A.nm o) T T:=rF.wY j.jn.tm;exact⟨j.jb.mv f (kY a j.jn.tm) δ δ,j.jh.mv f δ δ,j.js.mv f δ δ,j.jd.mv f λ_ _ _=>δ,j.jc.mv f λ_ _=>δ⟩
theorem WJ0.same{X:Cs}{H H':Hp}{T:Tg}{s:Nat}{A:Wa}{M:Wm}(j:WJ0 X H T s A M)(e:aY H H'):WJ0 X H' T s A M:=by
 have f:rF s (λ_=>False) H H' T T:=rF.of_same e;exact⟨j.jb.mv f (λb o h _=>e b o h) id id,j.jh.mv f id id,j.js.mv f id id,j.jd.mv f λ_ _ _=>id,j.jc.mv f λ_ _=>id⟩
def atO(cs:List V):V->V
 | .int i=>if 0<=i then(cs[i.toNat]?).getD .non else .non
 | _=>.non
inductive Ia(CH:AI)(hp:AI)(pl:V)(H:Hp)(Q:VK):Prop
 | mk (_:(pl=.non\/∃i,pl=.int i)) (ca room used born cs) (_:HpO CH H hp ca room used born cs) (_:Q (atO cs pl) H):Ia CH hp pl H Q
def jl(a:AI):Sp:=λvs H Q E=>∃hp pl,vs=[.ref hp,pl]/\Ia a hp pl H Q
def cO(M:Wm)(x:AA):Option Ce:=x.bind (cellAt M)
inductive Bp(X:Cs)(hp:AI)(pl:V)(H:Hp)(Q:VK):Prop
 | mk (x) (_:pl=oV x) (T s A M) (_:WJ X H T s A M) (_:A.hp=hp) (_:Q (oV (mU M x)) H):Bp X hp pl H Q
def iY(X:Cs):Sp:=λvs H Q E=>∃hp pl,vs=[.ref hp,pl]/\Bp X hp pl H Q
inductive xU(X:Cs)(p:AI)(f:Int)(H:Hp)(Q:VK):Prop
 | mk (T s i q c) (_:CeO X.C H T s i q c) (_:q.1=p) (_:Q (.bl (decide (0<=f) && decide (f<c.fl.length))) H):xU X p f H Q
def K9(X:Cs):Sp:=λvs H Q E=>∃p f,vs=[.ref p,.int f]/\xU X p f H Q
inductive Bl(X:Cs)(wo:AI)(h:Int)(H:Hp)(Q:VK):Prop
 | mk (T s A M k p) (_:WJ X H T s A M) (_:A.wo=wo) (_:h=((k:Nat):Int)) (_:A.hs[k]? =some p) (_:Q (.ref p.2) H):Bl X wo h H Q
def gZ(X:Cs):Sp:=λvs H Q E=>∃wo h,vs=[.ref wo,.int h]/\Bl X wo h H Q
inductive xT(X:Cs)(wo:AI)(p:AI)(H:Hp)(Q:VK):Prop
 | mk (T s A M i q c) (_:WJ0 X H T s A M) (_:A.wo=wo) (_:CeO X.C H T s i q c) (_:q.1=p) (_:Q (.bl (decide (c.tone=M.sw.sense))) H):xT X wo p H Q
def gW(X:Cs):Sp:=λvs H Q E=>∃wo p,vs=[.ref wo,.ref p]/\xT X wo p H Q
inductive xR(X:Cs)(wo:AI)(h:Int)(H:Hp)(Q:VK):Prop
 | mk (T s A M k) (_:WJ X H T s A M) (_:A.wo=wo) (_:h=((k:Nat):Int)) (_:Q (.bl (cX M k)) H):xR X wo h H Q
def K8(X:Cs):Sp:=λvs H Q E=>∃wo h,vs=[.ref wo,.int h]/\xR X wo h H Q
inductive Bj(X:Cs)(wo:AI)(v:V)(H:Hp)(Q:VK):Prop
 | mk (T s A M) (_:WJ X H T s A M) (_:A.wo=wo) (_:(0<=M.tells/\M.tells<4)) (_:∀l,H l=none->Q (.ref l) (upd H l (.lst (if old? M=true then [v]else [])))):Bj X wo v H Q
def Ro(X:Cs):Sp:=λvs H Q E=>∃wo v,vs=[.ref wo,v]/\Bj X wo v H Q
inductive Bk(X:Cs)(wo:AI)(h:Int)(v:V)(H:Hp)(Q:VK):Prop
 | mk (T s A M k) (_:WJ X H T s A M) (_:A.wo=wo) (_:(0<=M.tells/\M.tells<4)) (_:h=((k:Nat):Int)) (_:∀l,H l=none->Q (.ref l) (upd H l (.lst (if (nP M && !cX M k)=true then [v]else [])))):Bk X wo h v H Q
def Br(X:Cs):Sp:=λvs H Q E=>∃wo h v,vs=[.ref wo,.int h,v]/\Bk X wo h v H Q
inductive HY(X:Cs)(CE:AI)(wo:AI)(h:Int)(t:Int)(H:Hp)(Q:VK)(E:XK):Prop
 | mk (T s A M hn tn) (_:WJ X H T s A M) (_:A.wo=wo) (_:h=((hn:Nat):Int)) (_:t=((tn:Nat):Int)) (_:yE M hn tn) (_:(cO M (aV M hn tn)=none->E (.ref CE) none H)) (_:(∀i c p,aV M hn tn=some i->0<=i->cellAt M i=some c->A.cs[i.toNat]? =some (some p)->CeO X.C H T s i.toNat p c->Q (.ref p.1) H)):HY X CE wo h t H Q E
def uy(X:Cs)(CE:AI):Sp:=λvs H Q E=>∃wo h t,vs=[.ref wo,.int h,.int t]/\HY X CE wo h t H Q E
inductive xV(X:Cs)(CE:AI)(CF:AI)(wo:AI)(h:Int)(t:Int)(f:Int)(H:Hp)(Q:VK)(E:XK):Prop
 | mk (T s A M hn tn fn) (_:WJ X H T s A M) (_:A.wo=wo) (_:h=((hn:Nat):Int)) (_:t=((tn:Nat):Int)) (_:f=((fn:Nat):Int)) (_:yE M hn tn) (_:(cO M (aV M hn tn)=none->E (.ref CE) none H)) (_:(∀i c,aV M hn tn=some i->0<=i->cellAt M i=some c->c.fl[fn]? =none->E (.ref CF) none H)) (_:(∀i c p,aV M hn tn=some i->0<=i->cellAt M i=some c->A.cs[i.toNat]? =some (some p)->CeO X.C H T s i.toNat p c->fn<c.fl.length->Q (.ref p.2) H)):xV X CE CF wo h t f H Q E
def yf(X:Cs)(CE a:AI):Sp:=λvs H Q E=>∃wo h t f,vs=[.ref wo,.int h,.int t,.int f]/\xV X CE a wo h t f H Q E
inductive Zf1(X:Cs)(wo:AI)(pl:V)(H:Hp)(Q:VK):Prop
 | mk (x) (_:pl=oV x) (T s A M) (_:WT H T) (_:s≠0) (_:WJ X H T s A M) (_:A.wo=wo) (_:(M.sw.phase="walk"->M.sw.grey.length<=20000)) (_:∀H',dZ s H H' T T->WJ X H' T s A (bA M x).2->Q (oV (bA M x).1) H'):Zf1 X wo pl H Q
def Zn7(X:Cs):Sp:=λvs H Q E=>∃wo pl,vs=[.ref wo,pl]/\Zf1 X wo pl H Q
def PlO(H:Hp)(T:Tg)(A:Wa)(M:Wm)(pl:AI)(xs:Au):Prop:=(H pl=some (.lst (xs.map oV))/\T pl=(0,0))\/(∃(k:Nat) (p:AI×AI) (m:Str×Au),A.hs[k]? =some p/\M.hands[k]? =some m/\pl=p.2/\xs=m.2)\/(∃(k:Nat) (p:AI×AI) (c:Ce),A.cs[k]? =some (some p)/\M.cells[k]? =some (some c)/\pl=p.2/\xs=c.fl)
theorem PlO.get{X:Cs}{H:Hp}{T:Tg}{s:Nat}{A:Wa}{M:Wm}{pl:AI}{xs:Au}(h:PlO H T A M pl xs)(j:WJ X H T s A M):H pl=some (.lst (xs.map oV)):=by
 rcases h with ⟨h,_⟩ | ⟨k,p,m,h1,h2,rfl,rfl⟩ | ⟨k,p,c,h1,h2,rfl,rfl⟩
 ·exact h
 ·exact(j.jd.hd k p m h1 h2).o2
 ·have e:=j.jc.ce k _ _ h1 h2;exact(show CeO X.C H T s k p c from e).o2
inductive Bm(X:Cs)(wo:AI)(pl:AI)(H:Hp)(Q:VK):Prop
 | mk (xs T s A M) (_:WT H T) (_:s≠0) (_:WJ X H T s A M) (_:A.wo=wo) (_:PlO H T A M pl xs) (_:xs.length<=100) (_:(M.sw.phase="walk"->M.sw.grey.length<=10000)) (_:∀H' T' l,dZ s H H' T T'->WJ X H' T' s A (aO M xs).2->H' l=some (.lst ((aO M xs).1.map V.int))->(H l=none/\TgO s (T' l))->Q (.ref l) H'):Bm X wo pl H Q
def mV(X:Cs):Sp:=λvs H Q E=>∃wo pl,vs=[.ref wo,.ref pl]/\Bm X wo pl H Q
inductive Zf3(X:Cs)(wo:AI)(p:Int)(b:Int)(H:Hp)(Q:VK):Prop
 | mk (T s A M) (_:WJ0 X H T s A M) (_:A.wo=wo) (_:Q (.bl (ji M p b)) H):Zf3 X wo p b H Q
def Ig(X:Cs):Sp:=λvs H Q E=>∃wo p b,vs=[.ref wo,.int p,.int b]/\Zf3 X wo p b H Q
inductive sI(X:Cs)(CN:AI)(wo:AI)(z:Str)(H:Hp)(Q:VK)(E:XK):Prop
 | mk (T s A M) (_:WJ X H T s A M) (_:A.wo=wo) (_:(rD M.names z=none->E (.ref CN) none H)) (_:(∀p b,rD M.names z=some (p,b)->Q (if ji M p b=true then .non else .int p) H)):sI X CN wo z H Q E
def Ao(X:Cs)(a:AI):Sp:=λvs H Q E=>∃wo z,vs=[.ref wo,.str z]/\sI X a wo z H Q E
theorem tY(x:AA):oV x=.non\/∃i,oV x=.int i:=by cases x with
 | none=>exact .inl rfl
 | some i=>exact .inr ⟨i,rfl⟩
section
variable {X:Cs}{H H':Hp}{T T':Tg}{s:Nat}{A:Wa}{M:Wm}
theorem WJ0.hpO(j:WJ0 X H T s A M):HpO X.H H A.hp A.ca M.room M.used M.born dt:=⟨j.jh.oh,j.jh.oc⟩
theorem WJ0.look(j:WJ0 X H T s A M)(x:AA):(cO M x=none/\atO dt (oV x)=.non)\/∃i c p,x=some i/\0<=i/\cellAt M i=some c/\M.cells[i.toNat]? =some (some c)/\A.cs[i.toNat]? =some (some p)/\atO dt (oV x)=.ref p.1/\CeO X.C H T s i.toNat p c:=by
 cases x with
 | none=>exact .inl ⟨rfl,rfl⟩
 | some i=>
  show(cellAt M i=none/\atO _ (.int i)=_)\/_
  by_cases a:0<=i
  ·cases hc:M.cells[i.toNat]? with
   | none=>
    have hl:A.cs[i.toNat]? =none:=by
     rw[List.getElem?_eq_none_iff]at hc ⊢;rw[j.jc.lc];exact hc
    refine .inl ⟨by unfold cellAt;rw[if_pos a,hc];rfl,?_⟩;show(if 0<=i then _ else _)=_;rw[if_pos a,cz,hl];rfl
   | some y=>cases y with
    | none=>
     refine .inl ⟨by unfold cellAt;rw[if_pos a,hc];rfl,?_⟩;show(if 0<=i then _ else _)=_;rw[if_pos a,cz,j.jc.at0 hc];rfl
    | some c=>
     obtain⟨p,hp,e⟩:=j.jc.at hc;refine .inr ⟨i,c,p,rfl,a,by unfold cellAt;rw[if_pos a,hc];rfl,hc,hp,?_,e⟩;show(if 0<=i then _ else _)=_;rw[if_pos a,cz,hp];rfl
  ·refine .inl ⟨by unfold cellAt;rw[if_neg a],?_⟩;show(if 0<=i then _ else _)=_;rw[if_neg a]
theorem WJ.hpO(j:WJ X H T s A M):HpO X.H H A.hp A.ca M.room M.used M.born dt:=j.w0.hpO
theorem WJ.look(j:WJ X H T s A M)(x:AA):(cO M x=none/\atO dt (oV x)=.non)\/∃i c p,x=some i/\0<=i/\cellAt M i=some c/\M.cells[i.toNat]? =some (some c)/\A.cs[i.toNat]? =some (some p)/\atO dt (oV x)=.ref p.1/\CeO X.C H T s i.toNat p c:=j.w0.look x
theorem WJ.hand(j:WJ X H T s A M){k:Nat}{p:AI×AI}(hp:A.hs[k]? =some p):∃m,M.hands[k]? =some m/\HdO X.D H T s k p m:=by
 have hl:k<M.hands.length:=by rw[<- j.jd.lh];exact(cP hp).1
 exact⟨_,bK hl,j.jd.hd k p _ hp (bK hl)⟩
theorem WJ.handOf(j:WJ X H T s A M){h t:Nat}(o:yE M h t):∃p m,A.hs[h]? =some p/\M.hands[h]? =some m/\m.2[t]? =some (aV M h t)/\t<m.2.length/\HdO X.D H T s h p m:=by
 obtain⟨m,hm,hk,hl⟩:=Zaj o;have a:h<A.hs.length:=by rw[j.jd.lh];exact(cP hm).1
 exact⟨_,m,bK a,hm,hk,hl,j.jd.hd h _ m (bK a) hm⟩
theorem WJ.fresh(j:WJ X H T s A M){l:AI}{o:HO}{v:Nat×Nat}(h:H l=none):WJ X (upd H l o) (fX T l v) s A M:=
 j.mv (H':=upd H l o) (T':=fX T l v) ⟨λb u e _ _=>by rw[aC (aF e h)];exact e,λb u e=>ie (aF e h)⟩ λb u e _=>by rw[aC (aF e h)];exact e
end
theorem Zw2{t:Int}(h:0<=t/\t<4):Builtin.bitAnd t 1=t % 2/\(Builtin.bitAnd t 2=0↔¬ t / 2 % 2=1):=by
 have:t=0\/t=1\/t=2\/t=3:=δ
 rcases this with rfl | rfl | rfl | rfl<;>decide
section
variable {K:aB}{X:Cs}{H:Hp}{Q:VK}{E:XK}{n:ν}{bk ct:ν}
theorem Zeq{hp:AI}{pl:V}(T:lK K X)(q:Ia X.H hp pl H Q):Oh K ξ [↑hp,some pl] H:=by
 obtain⟨a,ca,room,used,born,cs,⟨⟨b,h1⟩,h2⟩,q⟩:=q;unfold Oh;rcases a with rfl | ⟨i,rfl⟩
 ·apply q
 ·apply su da da
  ·ext;rw[show atO cs (.int i)=.non from if_neg δ]at q;exact q
  ·rw[show atO cs (.int i)=(cs[i.toNat]?).getD .non from if_pos δ]at q;apply aH h1 T.c.cL T.c.bO bN ?_;apply dU (bU.of h2) ?_;apply su (λy=>?_) (λy=>?_)
   ·ext;rw[List.getElem?_eq_none_iff.mpr δ]at q;exact q
   ·apply aH h1 T.c.cL T.c.bO bN ?_;ext;have hl:i.toNat<cs.length:=δ
    refine fL (bU.of h2) (lY δ (bK hl)) ?_;rw[bK hl]at q;exact q
theorem Zc6{hp:AI}{pl:V}(T:lK K X)(q:Bp X hp pl H Q):Jy K (jl X.H) ξ [↑hp,some pl,none] H:=by
 obtain⟨x,rfl,Tg,s,A,M,j,rfl,q⟩:=q;unfold Jy;exists _,_,rfl,tY x,_,_,_,_,_,j.hpO;rcases j.look x with ⟨d,a⟩ | ⟨i,c,p,rfl,f,b,_,_,a,⟨t1,t2,⟨e,o1⟩,o2⟩⟩
 ·rw[a];have:mU M x=none:=by
   cases x with
   | none=>rfl
   | some i=>show(cellAt M i).map _=none;rw[show cellAt M i=none from d];rfl
  rw[this]at q;apply q
 ·rw[a];have:mU M (some i)=some c.birth:=by show(cellAt M i).map _=_;rw[b];rfl
  rw[this]at q;apply aH o1 T.c.cY T.c.dR eF ?_;exact q
theorem Gx{p:AI}{f:Int}(T:lK K X)(q:xU X p f H Q):qM K ξ [↑p,some (.int f)] H:=by
 obtain⟨Tg,s,i,r,c,⟨t1,t2,⟨a,o1⟩,o2⟩,rfl,q⟩:=q;unfold qM;apply su da da
 ·rw[decide_eq_true z,Bool.true_and]at q;apply aH o1 T.c.cY T.c.fH gK ?_;apply dU (bU.of o2) ?_;ext;rw[aU];exact q
 ·rw[decide_eq_false z,Bool.false_and]at q;apply q
theorem Z5{wo:AI}{h:Int}(T:lK K X)(q:Bl X wo h H Q):Jv K ξ [↑wo,some (.int h)] H:=by
 obtain⟨Tg,s,A,M,k,p,j,rfl,rfl,hp,q⟩:=q;obtain⟨d1,ow⟩:=j.jb.ow;obtain⟨m,hm,⟨t1,t2,⟨a,o1⟩,o2⟩⟩:=j.hand hp;unfold Jv;apply aH ow T.cW T.nWd dD ?_;apply fL (bU.of j.jb.on) (gm (v:=.ref p.1) (by rw[cz,hp];rfl)) ?_;refine aH o1 T.cD T.nDs lX ?_;exact q
theorem YZ{wo p:AI}(T:lK K X)(q:xT X wo p H Q):Dg K ξ [↑wo,↑p] H:=by
 obtain⟨Tg,s,A,M,i,r,c,j,rfl,⟨t1,t2,⟨a,o1⟩,o2⟩,rfl,q⟩:=q;obtain⟨d1,ow⟩:=j.jb.ow;obtain⟨d2,os⟩:=j.js.os;unfold Dg;apply aH o1 T.c.cY T.c.nT TX ?_;apply aH ow T.cW T.P0 aZ ?_;apply aH os T.cS T.n1 kE ?_;apply q
end
theorem Zte{y:Int}:Builtin.bitAnd y 1=y % 2:=by
 unfold Builtin.bitAnd
 by_cases h:0<=y
 ·rw[decide_eq_true h,decide_eq_true (show(0:Int)<=1 by decide)];show((y.toNat &&& 1:Nat):Int)=_;rw[Nat.and_one_is_mod];omega
 ·rw[decide_eq_false h,decide_eq_true (show(0:Int)<=1 by decide)];show(1:Int) - ((1 &&& (Builtin.bitNot y).toNat:Nat):Int)=_;rw[Nat.and_comm,Nat.and_one_is_mod];unfold Builtin.bitNot;omega
section
variable {K:aB}{X:Cs}{H:Hp}{Q:VK}{E:XK}{n:ν}{bk ct:ν}{CE CF CN:AI}
theorem Yh{wo:AI}{h:Int}(T:lK K X)(q:xR X wo h H Q):Df K ξ [↑wo,some (.int h)] H:=by
 obtain⟨Tg,s,A,M,k,j,rfl,rfl,q⟩:=q;obtain⟨d1,ow⟩:=j.jb.ow;obtain⟨d2,os⟩:=j.js.os;unfold Df;apply aH ow T.cW T.P0 aZ ?_;apply aH os T.cS T.n4 gA ?_;ext;rw[Zte,Int.toNat_natCast];exact q
theorem M5{wo:AI}{v:V}(T:lK K X)(q:Bj X wo v H Q):
  wI K ξ [↑wo,some v] H:=by
 obtain⟨Tg,s,A,M,j,rfl,a,q⟩:=q;obtain⟨d1,ow⟩:=j.jb.ow;obtain⟨d2,ok⟩:=j.jb.ok;obtain⟨b,_⟩:=Zw2 a;unfold wI;apply aH ow T.cW T.nWk iw ?_;apply aH ok T.cK T.nKt xG ?_;ext;rw[b];refine su da da
 ·apply⟨aR ζ,λl hl=>?_⟩;have:=q l hl;rw[if_neg (by unfold old?;rw[decide_eq_true_iff];omega)]at this;exact this
 ·apply⟨aR ζ,λl hl=>?_⟩;have:=q l hl;rw[if_pos (by unfold old?;rw[decide_eq_true_iff];omega)]at this;exact this
theorem M6{wo:AI}{h:Int}{v:V}(T:lK K X)(q:Bk X wo h v H Q):
  wJ K (K8 X) ξ [↑wo,some (.int h),some v] H:=by
 obtain⟨Tg,s,A,M,k,j,rfl,b,rfl,q⟩:=q;obtain⟨d1,ow⟩:=j.jb.ow;obtain⟨d2,ok⟩:=j.jb.ok;obtain⟨_,a⟩:=Zw2 b;unfold wJ;apply aH ow T.cW T.nWk iw ?_;apply aH ok T.cK T.nKt xG ?_;apply su da da
 ·apply⟨aR ζ,λl hl=>?_⟩;have:=q l hl;have e:nP M=false:=by unfold nP;exact decide_eq_false (a.mp z)
  rw[e,Bool.false_and,if_neg ε]at this;exact this
 ·have e:nP M=true:=by unfold nP;exact decide_eq_true (Decidable.not_not.mp λw=>z (a.mpr w))
  rw[e,Bool.true_and]at q;exists _,_,rfl,Tg,s,A,M,k,j,rfl,rfl;cases hl:cX M k with
  | true=>
   rw[hl]at q;apply⟨aR ζ,λl hl=>?_⟩;exact q l hl
  | false=>
   rw[hl]at q;apply⟨aR ζ,λl hl=>?_⟩;exact q l hl
theorem Zep{wo:AI}{h t:Int}(T:lK K X)(q:HY X CE wo h t H Q E):
  Og K CE (jl X.H) (gZ X) E ξ [↑wo,some (.int h),some (.int t),none] H:=by
 obtain⟨Tg,s,A,M,hn,tn,j,rfl,rfl,rfl,ok,d,g⟩:=q;obtain⟨d1,ow⟩:=j.jb.ow;obtain⟨p,m,hp,hm,hs,hl,⟨t1,t2,o1,o2⟩⟩:=j.handOf ok;unfold Og;apply aH ow T.cW T.Bv aW ?_;exists _,_,rfl,Tg,s,A,M,hn,p,j,rfl,rfl,hp;apply fL (bU.of o2) (gm (v:=oV (aV M hn tn)) (by rw[cz,hs];rfl)) ?_;exists _,_,rfl,tY _,_,_,_,_,_,j.hpO;rcases j.look (aV M hn tn)with ⟨l,a⟩ | ⟨i,c,f,k,o,e,_,b,a,ce⟩
 ·rw[a];apply⟨ε,d l⟩
 ·rw[a];apply g i c f k o e b ce
theorem Y6{wo:AI}{h t f:Int}(T:lK K X)(q:xV X CE CF wo h t f H Q E):
  Dh K X.C CF (K9 X) (uy X CE) E ξ [↑wo,some (.int h),some (.int t),some (.int f),none] H:=by
 obtain⟨Tg,s,A,M,hn,tn,fn,j,rfl,rfl,rfl,rfl,ok,e,g,l⟩:=q;unfold Dh;apply⟨_,_,_,rfl,Tg,s,A,M,hn,tn,j,rfl,rfl,rfl,ok,e,λi c p b d a hp ce=>?_⟩;obtain⟨t1,t2,⟨k,o1⟩,o2⟩:=id ce;exists p.1,k,_,rfl,o1,Bg;exists _,_,rfl,Tg,s,_,p,c,ce,rfl
 by_cases z:fn<c.fl.length
 ·rw[show(decide ((0:Int)<=(fn:Int)) && decide ((fn:Int)<c.fl.length))=true from by simp;omega];apply aH o1 T.c.cY T.c.fH gK ?_;exact l i c p b d a hp ce z
 ·rw[show(decide ((0:Int)<=(fn:Int)) && decide ((fn:Int)<c.fl.length))=false from by simp;omega];apply⟨ε,g i c b d a (List.getElem?_eq_none_iff.mpr δ)⟩
theorem Zp8{wo:AI}{pl b:Int}(T:lK K X)(q:Zf3 X wo pl b H Q):Zfo K (jl X.H) (gW X) ξ [↑wo,some (.int pl),some (.int b),none] H:=by
 obtain⟨Tg,s,A,M,j,rfl,q⟩:=q;obtain⟨d1,ow⟩:=j.jb.ow;obtain⟨d2,os⟩:=j.js.os;unfold Zfo;apply aH ow T.cW T.Bv aW ?_;exists _,_,rfl,tY (some pl),_,_,_,_,_,j.hpO;unfold ji at q;rcases j.look (some pl)with ⟨f,a⟩ | ⟨i,c,p,e,h,d,_,hp,a,ce⟩
 ·rw[show atO dt (.int pl)=.non from a];rw[show cellAt M pl=none from f]at q;apply q
 ·cases e;rw[show atO dt (.int pl)=.ref p.1 from a];rw[d]at q;dsimp only at q;obtain⟨t1,t2,⟨g,o1⟩,o2⟩:=id ce;apply aH o1 T.c.cY T.c.dR eF ?_;apply uQ da da
  ·rw[if_neg z]at q;apply q
  ·rw[if_pos z]at q;apply aH ow T.cW T.P0 aZ ?_;apply aH os T.cS T.n2 eN ?_;apply su (λy=>?_) (λy=>?_)
   ·exists _,_,rfl,Tg,s,A,M,_,p,c,j,rfl,ce,rfl;ext;have:decide (M.sw.phase="give"/\c.tone≠M.sw.sense)=!decide (c.tone=M.sw.sense):=by simp[y]
    rw[this]at q;exact q
   ·have:decide (M.sw.phase="give"/\c.tone≠M.sw.sense)=false:=decide_eq_false λw=>y w.1;rw[this]at q;exact q
theorem Zof{wo:AI}{pl:V}(T:lK K X)(q:Zf1 X wo pl H Q):Zfn K (jl X.H) (gW X) ξ [↑wo,some pl,none,none] H:=by
 obtain⟨x,rfl,Tg,s,A,M,w,v,j,rfl,hg,q⟩:=q;obtain⟨d1,ow⟩:=j.jb.ow;obtain⟨d2,os⟩:=j.js.os;unfold Zfn;apply aH ow T.cW T.P0 aZ ?_;apply aH ow T.cW T.Bv aW ?_;exists _,_,rfl,tY x,_,_,_,_,_,j.hpO;apply aH os T.cS T.n2 eN ?_;ext;have stay:bA M x=(none,M)->Q .non H:=λe=>by
  have:=q H (dZ.refl w);rw[e]at this;exact this j
 refine uQ da da
 ·apply stay (Zdl z x)
 ·rcases j.look x with ⟨L,l⟩ | ⟨i,c,p,rfl,O,t,hc,hp,l,ce⟩
  ·rw[l];apply stay ?_;cases x with
   | none=>rfl
   | some i=>unfold bA;dsimp only;rw[show cellAt M i=none from L]
  ·rw[l];obtain⟨t1,t2,⟨dx,o1⟩,o2⟩:=id ce;exists _,_,rfl,Tg,s,A,M,_,p,c,j.w0,rfl,ce,rfl
   by_cases y:c.tone=M.sw.sense
   ·rw[decide_eq_true y];apply stay ?_;unfold bA;dsimp only;rw[t];dsimp only;rw[if_neg λw=>w.2 y]
   ·rw[decide_eq_false y];have B:bA M (some i)=(some c.birth,{ setCell M i { c with tone:=M.sw.sense }with sw:={ M.sw with grey:=M.sw.grey++[i] } }):=by
     unfold bA;dsimp only;rw[t];dsimp only;rw[if_pos ⟨z,y⟩]
    rw[B]at q;apply aH os T.cS T.n1 kE ?_;apply⟨p.1,X.C,dx,_,rfl,o1,T.c.cY,T.c.nT,by show 5<1000;decide,?_⟩;rw[QZ];obtain⟨a,b⟩:=j.cell w v (dx:=dx) (tone:=M.sw.sense) (load:=c.load) hp ce;generalize upd H p.1 (.ins X.C dx (jK c.birth c.bulk M.sw.sense c.load p.2))=u at a b ⊢;obtain⟨d3,k⟩:=b.js.os;obtain⟨P,h,I⟩:=b.jc.at (i:=i.toNat) (c:={ c with tone:=M.sw.sense,load:=c.load }) (by rw[List.getElem?_set_self (cP hc).1]);rw[hp]at h;cases h;apply aH k T.cS T.n3 lM ?_;ext;have r:=hg z;refine⟨.inl ⟨rfl,_,bU.of b.js.og⟩,?_⟩;exists _,_,_,rfl,rfl,b.js.og,?_
    ·rw[aU];exact Nat.lt_of_le_of_lt r ε
    obtain⟨f,m⟩:=b.Zqe a.wt v (g:=M.sw.grey++[i]);have E:(M.sw.grey.map V.int++[V.int i])=(M.sw.grey++[i]).map V.int:=by rw[List.map_append];rfl
    show bH _ _ _ (upd u A.gr (.lst (M.sw.grey.map V.int++[oV (some i)])));rw[show(M.sw.grey.map V.int++[oV (some i)])=(M.sw.grey++[i]).map V.int from E];generalize upd u A.gr (.lst ((M.sw.grey++[i]).map V.int))=F at f m ⊢;obtain⟨N,d,o⟩:=m.jc.at (i:=i.toNat) (c:={ c with tone:=M.sw.sense,load:=c.load }) (by show(M.cells.set _ _)[_]? =_;rw[List.getElem?_set_self (cP hc).1]);rw[hp]at d;cases d;obtain⟨_,_,⟨D,J⟩,_⟩:=o;apply aH J T.c.cY T.c.dR eF ?_;exact q F (a.trans f) m
theorem Zl4{Tg:Tg}{z:Str}:∀{ns:AF}{names:List bX},Al (NmO H Tg) ns names->(rD names z=none/\jA (qx names ns) (Sum.inr z)=none)\/∃p b t,rD names z=some (p,b)/\jA (qx names ns) (Sum.inr z)=↑t/\H t=some (.tup [.int p,.int b])/\Tg t=(0,0):=by
 intro ns names h
 induction h with
 | nil=>exact .inl ⟨rfl,rfl⟩
 | @cons t m ns names h1 _ a=>
  by_cases e:m.1=z
  ·refine .inr ⟨m.2.1,m.2.2,t,?_,?_,h1.2,h1.1⟩
   ·unfold rD;rw[List.find?_cons_of_pos eS];rfl
   ·show(List.find? _ ((Sum.inr m.1,V.ref t)::qx names ns)).map _=_;rw[List.find?_cons_of_pos eS];rfl
  ·have g:rD (m::names) z=rD names z:=by unfold rD;rw[List.find?_cons_of_neg eS]
   have v:jA (qx (m::names) (t::ns)) (Sum.inr z)=jA (qx names ns) (Sum.inr z):=by
    show(List.find? _ ((Sum.inr m.1,V.ref t)::qx names ns)).map _=_;rw[List.find?_cons_of_neg eS];rfl
   rw[g,v];exact a
theorem Om{wo:AI}{z:Str}(T:lK K X)(q:sI X CN wo z H Q E):
  wK K CN (Ig X) E ξ [↑wo,some (.str z),none,none] H:=by
 obtain⟨Tg,s,A,M,j,rfl,e,f⟩:=q;obtain⟨d1,ow⟩:=j.jb.ow;obtain⟨tm,om,nms⟩:=j.jn;unfold wK;apply aH ow T.cW T.nWn fV ?_;refine⟨_,_,rfl,Zmu om,?_⟩;rcases Zl4 (z:=z) nms with ⟨c,a⟩ | ⟨p,b,t,c,a,d,_⟩
 ·rw[a];apply⟨ε,e c⟩
 ·rw[a,show(!(some (V.ref t)).isSome)=false from rfl];apply aH ow T.cW T.nWn fV ?_;apply⟨_,_,rfl,by have:=Zmu (z:=z) om;rw[a]at this;exact this,?_⟩;exists t,_,0,_,rfl,rfl,dB.of d,rfl;apply aH ow T.cW T.nWn fV ?_;apply⟨_,_,rfl,by have:=Zmu (z:=z) om;rw[a]at this;exact this,?_⟩;exists t,_,1,_,rfl,rfl,dB.of d,rfl;exists _,_,_,rfl,Tg,s,A,M,j.w0,rfl;have:=f p b c;cases hg:ji M p b with
  | true=>
   rw[hg]at this;apply this
  | false=>
   rw[hg]at this;apply this
theorem dZ.new{s:Nat}{H a:Hp}{T c:Tg}{l:AI}{o d:HO}(e:dZ s H a T c)(hl:H l=none)(hx:a l=some d):dZ s H (upd a l o) T c where
 kp:=λb u h z=>by rw[aC (aF h hl)];exact e.kp b u h z
 al:=λb u h=>by rw[aC (aF h hl)];exact e.al b u h
 tg:=e.tg
 wt:=λb h=>e.wt b (by
  by_cases z:b=l
  ·rw[z,aq]at h;cases h
  ·rw[aC z]at h;exact h)
theorem dZ.fresh{s:Nat}{H:Hp}{T:Tg}{l:AI}{o:HO}{v:Nat×Nat}(w:WT H T)(hl:H l=none):dZ s H (upd H l o) T (fX T l v) where
 kp:=λb u h z=>by rw[aC (aF h hl)];exact h
 al:=λb u h=>⟨u,by rw[aC (aF h hl)];exact h⟩
 tg:=λb u h=>ie (aF h hl)
 wt:=λb h=>by
  by_cases z:b=l
  ·rw[z,aq]at h;cases h
  ·rw[aC z]at h;rw[ie z];exact w b h
theorem Zdm{M:Wm}{x:AA}:(bA M x).2.sw.phase=M.sw.phase/\(bA M x).2.sw.grey.length<=M.sw.grey.length+1/\(bA M x).2.tells=M.tells/\(bA M x).2.names=M.names:=by
 cases x with
 | none=>exact⟨rfl,Nat.le_succ _,rfl,rfl⟩
 | some i=>
  unfold bA;dsimp only;cases cellAt M i with
  | none=>exact⟨rfl,Nat.le_succ _,rfl,rfl⟩
  | some c=>
   dsimp only
   by_cases z:M.sw.phase="walk"/\c.tone≠M.sw.sense
   ·rw[if_pos z];exact⟨rfl,by show(M.sw.grey++[i]).length<=_;rw[List.length_append];exact Nat.le_refl _,rfl,rfl⟩
   ·rw[if_neg z];exact⟨rfl,Nat.le_succ _,rfl,rfl⟩
theorem J2{M:Wm}{x:AA}:(bA M x).2.hands=M.hands:=by
 cases x with
 | none=>rfl
 | some i=>
  unfold bA;dsimp only;cases cellAt M i with
  | none=>rfl
  | some c=>
   dsimp only;split<;>rfl
theorem Zdn{M:Wm}{x:AA}{k:Nat}{c:Ce}(h:M.cells[k]? =some (some c)):∃c',(bA M x).2.cells[k]? =some (some c')/\c'.fl=c.fl/\c'.birth=c.birth/\c'.bulk=c.bulk/\c'.load=c.load:=by
 cases x with
 | none=>exact⟨c,h,rfl,rfl,rfl,rfl⟩
 | some i=>
  unfold bA;dsimp only;cases hc:cellAt M i with
  | none=>exact⟨c,h,rfl,rfl,rfl,rfl⟩
  | some d=>
   dsimp only;split
   ·show ∃c',(M.cells.set i.toNat _)[k]? =_/\_
    by_cases z:i.toNat=k
    ·subst z;obtain⟨_,hd⟩:=bF.mp hc;rw[h]at hd;cases hd;exact⟨_,List.getElem?_set_self (cP h).1,rfl,rfl,rfl,rfl⟩
    ·rw[List.getElem?_set_ne z];exact⟨c,h,rfl,rfl,rfl,rfl⟩
   ·exact⟨c,h,rfl,rfl,rfl,rfl⟩
theorem gY:∀{l:Au}{M:Wm}{x:AA},aO M (l++[x])=((aO M l).1++X4 (bA (aO M l).2 x).1,(bA (aO M l).2 x).2)
 | [],M,x=>by
  show(X4 (bA M x).1++[],(bA M x).2)=([]++X4 (bA M x).1,(bA M x).2);rw[List.append_nil,List.nil_append]
 | y::l,M,x=>by
  show(X4 (bA M y).1++(aO (bA M y).2 (l++[x])).1,(aO (bA M y).2 (l++[x])).2)=_;rw[gY];show _=((X4 (bA M y).1++(aO (bA M y).2 l).1)++_,_);rw[List.append_assoc];rfl
theorem qY:∀{l:Au}{M:Wm},(aO M l).2.sw.phase=M.sw.phase/\(aO M l).2.sw.grey.length<=M.sw.grey.length+l.length
 | [],M=>⟨rfl,Nat.le_refl _⟩
 | y::l,M=>by
  obtain⟨a,b,_⟩:=Zdm (M:=M) (x:=y);obtain⟨c,d⟩:=qY (l:=l) (M:=(bA M y).2);refine⟨c.trans a,?_⟩;show(aO (bA M y).2 l).2.sw.grey.length<=_;rw[List.length_cons];omega
theorem uL:∀{l:Au}{M:Wm},(aO M l).1.length<=l.length
 | [],M=>Nat.le_refl _
 | y::l,M=>by
  have:=uL (l:=l) (M:=(bA M y).2);show(X4 (bA M y).1++(aO (bA M y).2 l).1).length<=_;rw[List.length_append,List.length_cons];have:(X4 (bA M y).1).length<=1:=by cases (bA M y).1<;>simp[X4]
  omega
theorem Zam{wo pl:AI}(T:lK K X)(q:Bm X wo pl H Q):Jw K (Zn7 X) ξ [↑wo,↑pl,none,none,none] H:=by
 obtain⟨d,Tg,s,A,M,w,s0,j,rfl,C,hx,hg,q⟩:=q;have J:=C.get j;unfold Jw;apply⟨aR ζ,λl hl=>?_⟩;have o:pl≠l:=aF J hl;have r:dZ s H eB Tg (fX Tg l (s+1,0)):=dZ.fresh w hl;have P:WJ X eB (fX Tg l (s+1,0)) s A M:=j.fresh hl;have Y:upd H l (.lst []) l=some (.lst []):=aq;have tl:fX Tg l (s+1,0) l=(s+1,0):=eX;have t:PlO eB (fX Tg l (s+1,0)) A M pl d:=by
  rcases C with ⟨h1,h2⟩ | h
  ·exact .inl ⟨(aC o).trans h1,(ie o).trans h2⟩
  ·exact .inr h
 have E:upd H l (.lst []) pl=some (.lst (d.map oV)):=(aC o).trans J;generalize upd H l (.lst [])=H1 at r P Y E t ⊢;generalize fX Tg l (s+1,0)=B at r P tl t;apply⟨pl,rfl,⟨_,bU.of E⟩,forL (d.map oV) (λi R u=>∃S O,R=[↑A.wo,↑pl,↑l,S,O]/\dZ s H u Tg B/\WJ X u B s A (aO M (d.take i)).2/\u l=some (.lst ((aO M (d.take i)).1.map V.int))/\PlO u B A (aO M (d.take i)).2 pl d) ⟨_,_,rfl,r,P,Y,t⟩ (by rintro _ _ _ _ ⟨_,_,_,_,j,_,e⟩;exact bU.of (e.get j)) ?_ ?_⟩
 ·rintro i x R u hi ⟨S,O,rfl,g,L,N,F⟩;obtain⟨y,hy,rfl⟩:∃y,d[i]? =some y/\oV y=x:=by
   rw[cz]at hi;obtain⟨y,a,b⟩:=Option.map_eq_some_iff.mp hi;exact⟨y,a,b⟩
  have il:=(cP hy).1;have v:d.take de=d.take i++[y]:=by
   rw[List.take_add_one,hy];rfl
  obtain⟨gp,gl⟩:=qY (l:=d.take i) (M:=M);have nl:=uL (l:=d.take i) (M:=M);have tk:(d.take i).length<=100:=by rw[List.length_take];omega
  apply⟨_,_,rfl,y,rfl,B,s,A,_,g.wt,s0,L,rfl,λz=>?_,λHy f W=>?_⟩
  ·have:=hg (gp.symm.trans z);omega
  have I:Hy l=some (.lst ((aO M (d.take i)).1.map V.int)):=f.kp _ _ N (by rw[tl];show s+1≠s;omega);have Z:PlO Hy B A (bA (aO M (d.take i)).2 y).2 pl d:=by
   rcases F with ⟨h1,h2⟩ | ⟨k,p,m,h1,h2,U,h4⟩ | ⟨k,p,c,h1,h2,U,h4⟩
   ·exact .inl ⟨f.kp _ _ h1 (by rw[h2];exact λz=>s0 z.symm),h2⟩
   ·exact .inr (.inl ⟨k,p,m,h1,by rw[J2];exact h2,U,h4⟩)
   ·obtain⟨c',e1,e2,_⟩:=Zdn (x:=y) h2;exact .inr (.inr ⟨k,p,c',h1,e1,U,by rw[e2];exact h4⟩)
  have D:=g.trans f;ext;cases hn:(bA (aO M (d.take i)).2 y).1 with
  | none=>
   dsimp only[oV];apply⟨_,_,rfl,D,?_,?_,by rw[v,gY];exact Z⟩
   ·rw[v,gY];exact W
   ·rw[v,gY];show Hy l=some (.lst (((aO M (d.take i)).1++X4 (bA (aO M (d.take i)).2 y).1).map V.int));rw[hn];show Hy l=some (.lst (((aO M (d.take i)).1++[]).map V.int));rw[List.append_nil];exact I
  | some b=>
   dsimp only[oV];exists .inl ⟨rfl,_,bU.of I⟩;exists _,_,_,rfl,rfl,I,?_
   ·rw[aU];exact Nat.lt_of_le_of_lt (show _<=100 by omega) ε
   exists _,_,rfl,dZ.new D hl I,?_,?_
   ·rw[v,gY];exact W.other (s':=s+1) (dZ.upd f.wt I (by rw[tl])) δ δ
   ·rw[v,gY,aq];show some (HO.lst _)=some (HO.lst (((aO M (d.take i)).1++X4 (bA (aO M (d.take i)).2 y).1).map V.int));rw[hn,List.map_append];rfl
   ·rw[v,gY];rcases Z with ⟨h1,h2⟩ | h
    ·exact .inl ⟨by rw[aC o];exact h1,h2⟩
    ·exact .inr h
 ·rintro R u ⟨S,O,rfl,g,L,N,F⟩;ext;rw[show(d.map oV).length=d.length from aU _,List.take_length]at L N;exact q u B l g L N ⟨hl,by rw[tl];exact .inr rfl⟩
end
theorem mD{M:Wm}{h k:Nat}{x:AA}{m:Str×Au}(hm:M.hands[h]? =some m):{ M with hands:=M.hands.set h (m.1,m.2.set k x) }=setSlot M h k x:=by
 have e:=R4 (k:=k) (x:=x) hm;show _={ M with hands:=_ };rw[show(M.hands.modify h λm=>(m.1,m.2.set k x))=M.hands.set h (m.1,m.2.set k x)from e]
def Qq(d:iZ):Prop:=∃h s many bulk,d=.make h s many bulk
def Zbl(d:iZ):Prop:=∃h s t f,d=.get h s t f
def Zbi(d:iZ):Prop:=∃h t f s,d=.put h t f s
def QC(d:iZ):Prop:=∃h s t,d=.copy h s t
def QB(d:iZ):Prop:=∃h s,d=.drop h s
def Qy(d:iZ):Prop:=∃h s g t,d=.give h s g t
def Fj(d:iZ):Prop:=∃h t load,d=.write h t load
def Qp(d:iZ):Prop:=∃h t,d=.read h t
def isName(d:iZ):Prop:=∃h t word,d=.name h t word
def Qo(d:iZ):Prop:=∃h s word,d=.seek h s word
section
variable {X:Cs}{H Hx:Hp}{T Tx:Tg}{s:Nat}{A Ax:Wa}{M M':Wm}{d:iZ}{e:Ev}{wo:AI}{Q:VK}
theorem dZ.free{s:Nat}{H Hx:Hp}{T Tx:Tg}{l:AI}(e:dZ s H Hx T Tx)(h:Hx l=none):H l=none:=by
 cases z:H l with
 | none=>rfl
 | some o=>obtain⟨b,a⟩:=e.al l o z;rw[h]at a;cases a
theorem ev0(i:s≠0)(k:∀e M',kJ M d=.ok (e,M')->∀H' T' g a,dZ s H H' T T'->WJ X H' T' s g M'->g.wo=wo->EvN H H' T' s a e->Q (.ref a) H')(m:kJ M d=.ok (e,M'))(hn:e.notes=[])(st:dZ s H Hx T Tx)(j:WJ X Hx Tx s Ax M')(aw:Ax.wo=wo){l a:AI}(hl:Hx l=none)(h:upd Hx l (.lst []) a=none):
  Q (.ref a) (upd (upd Hx l (.lst [])) a (.tup [.str e.word,oV e.thing,.ref l])):=by
 have f:=aK hl (.lst []);have b:=aK h (.tup [.str e.word,oV e.thing,.ref l]);have c:=f.trans b;refine k e M' m _ Tx Ax a (st.trans (dZ.same st.wt c)) (j.same c) aw ⟨l,⟨dZ.free st hl,(vZ st.wt i hl).2,(vZ st.wt i (f.free h)).2⟩,aq,?_⟩;rw[hn];exact b _ _ aq
theorem ev1(h:s≠0){l a:AI}(b:H l=none/\TgO s (Tx l))(k:∀e M',kJ M d=.ok (e,M')->∀H' T' g a,dZ s H H' T T'->WJ X H' T' s g M'->g.wo=wo->EvN H H' T' s a e->Q (.ref a) H')(i:kJ M d=.ok (e,M'))(st:dZ s H Hx T Tx)(j:WJ X Hx Tx s Ax M')(aw:Ax.wo=wo)(hl:Hx l=some (.lst (e.notes.map V.int)))(f:Hx a=none):
  Q (.ref a) (upd Hx a (.tup [.str e.word,oV e.thing,.ref l])):=by
 have c:=aK f (.tup [.str e.word,oV e.thing,.ref l]);exact k e M' i _ Tx Ax a (st.trans (dZ.same st.wt c)) (j.same c) aw ⟨l,⟨b.1,b.2,(vZ st.wt h f).2⟩,aq,c _ _ hl⟩
end
theorem IV{M:Wm}{i:Int}{c c':Ce}(h:cellAt M i=some c)(hb:c'.birth=c.birth)(x:AA):mU (setCell M i c') x=mU M x:=by
 cases x with
 | none=>rfl
 | some y=>
  obtain⟨a,h1⟩:=bF.mp h;show(cellAt (setCell M i c') y).map _=(cellAt M y).map _
  by_cases e:y=i
  ·subst e;rw[h,show cellAt (setCell M y c') y=some c' from bF.mpr ⟨a,by show(M.cells.set _ _)[_]? =_;rw[List.getElem?_set_self (cP h1).1]⟩];show some c'.birth=some c.birth;rw[hb]
  ·have:cellAt (setCell M i c') y=cellAt M y:=by
    unfold cellAt setCell
    by_cases z:0<=y
    ·rw[if_pos z,if_pos z];show((M.cells.set _ _)[_]?).join=_;rw[List.getElem?_set_ne δ]
    ·rw[if_neg z,if_neg z]
   rw[this]
theorem Zho{M:Wm}{y:AA}(x:AA):mU (bA M y).2 x=mU M x:=by
 cases y with
 | none=>rfl
 | some i=>
  unfold bA;dsimp only;cases hc:cellAt M i with
  | none=>rfl
  | some c=>
   dsimp only
   by_cases z:M.sw.phase="walk"/\c.tone≠M.sw.sense
   ·rw[if_pos z];have e:=IV (M:=M) (i:=i) (c:=c) (c':={ c with tone:=M.sw.sense }) hc rfl x;cases x with
    | none=>rfl
    | some y=>exact e
   ·rw[if_neg z]
theorem uM:∀{l:Au}{M:Wm} (x:AA),mU (aO M l).2 x=mU M x
 | [],_,_=>rfl
 | y::l,M,x=>(uM (l:=l) (M:=(bA M y).2) x).trans (Zho x)
theorem Zlq{b:Bool}{x:AA}:(if b=true then [oV x]else [])=(if b=true then [x]else []).map oV:=by cases b<;>rfl
section
variable {K:aB}{X:Cs}{H:Hp}{Q:VK}{E:XK}{n:ν}{bk ct:ν}{rf:Rf->AI}
theorem Zel{wo dd:AI}(T:lK K X)(q:uA X rf QC wo dd H Q E):Oe K (iY X) (gZ X) ξ [↑wo,↑dd,none,none] H:=by
 obtain⟨Tg,s,A,M,_,⟨h,sl,t,rfl⟩,w,g,j,rfl,od,⟨o1,o2⟩,hc,hg,u,hn,r,o⟩:=q;obtain⟨p,m,hp,hm,hs,hl,hd⟩:=j.handOf o2;obtain⟨z,e,_,f⟩:=Zaj o1;rw[hm]at e;cases e;unfold Oe;exists dd,_,1,_,rfl,rfl,dB.of od,rfl;exists _,_,rfl,Tg,s,A,M,h,p,j,rfl,rfl,hp;exists dd,_,3,_,rfl,rfl,dB.of od,rfl;refine fL (bU.of hd.o2) (gm (v:=oV (aV M h t)) (by rw[cz,hs];rfl)) ?_;exists dd,_,2,_,rfl,rfl,dB.of od,rfl;refine⟨p.2,_,_,sl,rfl,rfl,hd.o2,pq (by rw[aU];exact f),?_⟩;obtain⟨b,c⟩:=j.slot w g (k:=sl) (x:=aV M h t) hp hm;rw[mD hm]at c;generalize upd H p.2 (.lst ((m.2.map oV).set sl (oV (aV M h t))))=y at b c ⊢;obtain⟨d1,ow⟩:=c.jb.ow;apply aH ow T.cW T.Bv aW ?_;exists _,_,rfl,aV M h t,rfl,Tg,s,A,_,c,rfl;rw[lH];apply⟨aR ζ,λl hl=>⟨aR ζ,λa i=>?_⟩⟩;exact ev0 g o (d:=.copy h sl t) rfl rfl b c rfl hl i
theorem Zek{wo dd:AI}(T:lK K X)(q:uA X rf QB wo dd H Q E):Od K (iY X) (gZ X) ξ [↑wo,↑dd,none,none] H:=by
 obtain⟨Tg,s,A,M,_,⟨h,sl,rfl⟩,w,e,j,rfl,od,o1,hc,hg,o,hn,i,g⟩:=q;obtain⟨p,m,hp,hm,hs,hl,hd⟩:=j.handOf o1;unfold Od;exists dd,_,1,_,rfl,rfl,dB.of od,rfl;exists _,_,rfl,Tg,s,A,M,h,p,j,rfl,rfl,hp;exists dd,_,2,_,rfl,rfl,dB.of od,rfl;refine fL (bU.of hd.o2) (gm (v:=oV (aV M h sl)) (by rw[cz,hs];rfl)) ?_;exists dd,_,2,_,rfl,rfl,dB.of od,rfl;refine⟨p.2,_,_,sl,rfl,rfl,hd.o2,pq (by rw[aU];exact hl),?_⟩;obtain⟨b,c⟩:=j.slot w e (k:=sl) (x:=none) hp hm;rw[mD hm]at c;show bH _ _ _ (upd H p.2 (.lst ((m.2.map oV).set sl (oV none))));generalize upd H p.2 (.lst ((m.2.map oV).set sl (oV none)))=r at b c ⊢;obtain⟨d1,ow⟩:=c.jb.ow;apply aH ow T.cW T.Bv aW ?_;exists _,_,rfl,aV M h sl,rfl,Tg,s,A,_,c,rfl;rw[lH];apply⟨aR ζ,λl hl=>⟨aR ζ,λa f=>?_⟩⟩;exact ev0 e g (d:=.drop h sl) rfl rfl b c rfl hl f
theorem Zej{wo dd:AI}(T:lK K X)(q:uA X rf Qy wo dd H Q E):Oc K (iY X) (mV X) (gZ X) (Br X) ξ [↑wo,↑dd,none,none,none,none] H:=by
 obtain⟨Tg,s,A,M,_,⟨h,sl,g,t,rfl⟩,w,B,j,rfl,od,⟨o1,o2⟩,hc,hg,I,hn,U,P⟩:=q;obtain⟨p,m,hp,hm,hs,hl,hd⟩:=j.handOf o1;obtain⟨y,O,e,f,R,z,C⟩:=j.handOf o2;unfold Oc;exists dd,_,1,_,rfl,rfl,dB.of od,rfl;exists dd,_,3,_,rfl,rfl,dB.of od,rfl;exists _,_,rfl,Tg,s,A,M,h,p,j,rfl,rfl,hp;exists dd,_,2,_,rfl,rfl,dB.of od,rfl;refine fL (bU.of hd.o2) (gm (v:=oV (aV M h sl)) (by rw[cz,hs];rfl)) ?_;exists _,_,rfl,Tg,s,A,M,g,y,j,rfl,rfl,e;exists dd,_,4,_,rfl,rfl,dB.of od,rfl;refine⟨y.2,_,_,t,rfl,rfl,C.o2,pq (by rw[aU];exact z),?_⟩;obtain⟨b,l⟩:=j.slot w B (k:=t) (x:=aV M h sl) e f;rw[mD f]at l;generalize upd H y.2 (.lst ((O.2.map oV).set t (oV (aV M h sl))))=J at b l ⊢;apply⟨_,_,_,rfl,Tg,s,A,_,h,l,rfl,I,rfl,λS i=>?_⟩;rw[show(nP (setSlot M g t (aV M h sl)) && !cX (setSlot M g t (aV M h sl)) h)=(nP M && !cX M h)from rfl,Zlq];generalize zz:upd J S _=H2;obtain⟨o,L⟩:=nwO i zz;apply⟨_,_,rfl,_,Tg,s,A,_,b.wt.same o,B,l.same o,rfl,.inl ⟨L,b.wt _ i⟩,by cases (nP M && !cX M h)<;>simp,hg,λW F V u r D c=>?_⟩;obtain⟨d1,ow⟩:=r.jb.ow;apply aH ow T.cW T.Bv aW ?_;exists _,_,rfl,aV M h sl,rfl,F,s,A,_,r,rfl;rw[uM,lH];apply⟨aR ζ,λa N=>?_⟩;exact ev1 B ⟨dZ.free b (o.free c.1),c.2⟩ P (d:=.give h sl g t) rfl (b.trans ((dZ.same b.wt o).trans u)) r rfl D N
theorem Zei{wo dd S:AI}(T:lK K X)(hF:rf .full=S)(q:uA X rf Qq wo dd H Q E):Ob K X.H (La K X.C X.H S) (iY X) (gZ X) E ξ [↑wo,↑dd,none,none,none,none] H:=by
 obtain⟨Tg,s,A,M,_,⟨h,sl,f,bulk,rfl⟩,w,I,j,rfl,od,⟨o1,m0,Z,b0⟩,hc,hg,ht,hn,W,hQ⟩:=q;obtain⟨p,m,hp,hm,hs,hl,hd⟩:=j.handOf o1;obtain⟨d1,ow⟩:=j.jb.ow;obtain⟨d2,os⟩:=j.js.os;obtain⟨th,tc,⟨d3,oh⟩,oc⟩:=j.jh;have hcs:A.cs.length<=900:=by rw[j.jc.lc];exact hc
 unfold Ob;exists dd,_,1,_,rfl,rfl,dB.of od,rfl;exists _,_,rfl,Tg,s,A,M,h,p,j,rfl,rfl,hp;exists dd,_,3,_,rfl,rfl,dB.of od,rfl;exists dd,_,4,_,rfl,rfl,dB.of od,rfl;apply aH ow T.cW T.Bv aW ?_;refine⟨A.hp,d3,_,rfl,oh,Tw,?_⟩;apply aH ow T.cW T.P0 aZ ?_;apply aH os T.cS T.n1 kE ?_;apply⟨_,_,_,_,rfl,A.ca,d3,_,_,_,_,oh,oc,?_,by rw[aU];omega,m0,Z,λhf H' sm=>?_,λhf R fa D N B U a1 a2 co=>?_⟩
 ·intro y hy;obtain⟨o,Y,rfl⟩:=List.mem_map.mp hy;cases o with
  | none=>exact .inl rfl
  | some g=>
   obtain⟨i,hi,J⟩:=List.getElem_of_mem Y;have e:=j.jc.ce i _ _ (bK hi) (bK (by rw[<- j.jc.lc];exact hi));rw[J]at e;cases v:M.cells[i]'(by rw[<- j.jc.lc];exact hi)with
   | none=>rw[v]at e;exact e.elim
   | some c=>
    rw[v]at e;obtain⟨_,_,⟨dx,o1⟩,_⟩:=(show CeO X.C H Tg s i g c from e);exact .inr ⟨g.1,X.C,dx,_,rfl,o1,T.c.cY,T.c.Mx⟩
 ·rw[<- hF];refine W .full ?_ H' sm;show(if _ then _ else _)=_;rw[if_neg δ]
 ·obtain⟨⟨dp,c1⟩,c2⟩:=co;have L:R≠fa:=lg c1 c2 aS;obtain⟨T1,r,P⟩:=j.put w I (H':=D) (dx:=d3) (used':=M.used+(1+f+bulk)) (p:=R) (fa:=fa) (c:=⟨M.born+1,bulk,M.sw.sense,0,List.replicate f.toNat none⟩)
   (λb o hb n1 n2=>U b o hb (by simp[n1,n2])) a1 a2 N B L ⟨dp,c1⟩ (by rw[c2,List.map_replicate];rfl)
  have J:((A.cs.map pV).idxOf V.non:Int)=(iD M.cells:Nat):=by rw[(Zbr Zkk A.cs).1,j.jc.fst]
  ext;rw[J];refine⟨dd,_,2,_,rfl,rfl,dB.of (U _ _ od ?_),rfl,?_⟩
  ·intro z;rcases List.mem_cons.mp z with z | z
   ·rw[z,oh]at od;cases od
   ·rw[List.mem_singleton.mp z,oc]at od;cases od
  have O:=P.jd.hd h p m hp hm;refine⟨p.2,_,_,sl,rfl,rfl,O.o2,pq (by rw[aU];exact hl),?_⟩;obtain⟨u,t⟩:=P.slot r.wt I (k:=sl) (x:=some (iD M.cells:Nat)) hp hm;rw[mD (M:={ M with used:=M.used+(1+f+bulk),born:=M.born+1,cells:=jB M.cells ⟨M.born+1,bulk,M.sw.sense,0,List.replicate f.toNat none⟩ }) hm]at t;show bH _ _ _ (upd D p.2 (.lst ((m.2.map oV).set sl (oV (some (iD M.cells:Nat))))));generalize upd D p.2 (.lst ((m.2.map oV).set sl (oV (some (iD M.cells:Nat)))))=H2 at u t ⊢;obtain⟨d5,F⟩:=t.jb.ow;apply aH F T.cW T.Bv aW ?_;exists _,_,rfl,some (iD M.cells:Nat),rfl,T1,s,_,_,t,rfl;rw[lH];rw[show mU { M with used:=M.used+(1+f+bulk),born:=M.born+1,cells:=jB M.cells ⟨M.born+1,bulk,M.sw.sense,0,List.replicate f.toNat none⟩ } (some (iD M.cells:Nat))=some (M.born+1)from by
   show(cellAt _ _).map _=_;rw[Zes];rfl]
  apply⟨aR ζ,λl hl=>⟨aR ζ,λa ha=>?_⟩⟩;exact ev0 I hQ (d:=.make h sl f bulk) (Zc0 δ) rfl (r.trans u) t rfl hl ha
end
theorem Ziv{M:Wm}{h s t f:Nat}(e:cO M (aV M h t)=none):kJ M (.get h s t f)=.error .empty:=by
 show(match aV M h t with | none=>_ | some x=>_)=_;cases hs:aV M h t with
 | none=>rfl
 | some x=>
  rw[hs]at e;show(match cellAt M x with | none=>_ | some c=>_)=_;rw[show cellAt M x=none from e]
theorem Zit{M:Wm}{h s t f:Nat}(e:cO M (aV M h t)=none):kJ M (.put h t f s)=.error .empty:=by
 show(match aV M h t with | none=>_ | some x=>_)=_;cases hs:aV M h t with
 | none=>rfl
 | some x=>
  rw[hs]at e;show(match cellAt M x with | none=>_ | some c=>_)=_;rw[show cellAt M x=none from e]
theorem Zc1{M:Wm}{h t:Nat}{l:Int}(e:cO M (aV M h t)=none):kJ M (.write h t l)=.error .empty:=by
 show(match aV M h t with | none=>_ | some x=>_)=_;cases hs:aV M h t with
 | none=>rfl
 | some x=>
  rw[hs]at e;show(match cellAt M x with | none=>_ | some c=>_)=_;rw[show cellAt M x=none from e]
theorem Zen{M:Wm}{h t:Nat}(e:cO M (aV M h t)=none):kJ M (.read h t)=.error .empty:=by
 show(match aV M h t with | none=>_ | some x=>_)=_;cases hs:aV M h t with
 | none=>rfl
 | some x=>
  rw[hs]at e;show(match cellAt M x with | none=>_ | some c=>_)=_;rw[show cellAt M x=none from e]
theorem Zeo{M:Wm}{h t:Nat}{z:Str}(e:cO M (aV M h t)=none):kJ M (.name h t z)=.error .empty:=by
 show(match aV M h t with | none=>_ | some x=>_)=_;cases hs:aV M h t with
 | none=>rfl
 | some x=>
  rw[hs]at e;show(match cellAt M x with | none=>_ | some c=>_)=_;rw[show cellAt M x=none from e]
theorem Zms{M:Wm}{h s t f:Nat}{i:Int}{c:Ce}(d:aV M h t=some i)(b:cellAt M i=some c)(a:c.fl[f]? =none):kJ M (.get h s t f)=.error .m7:=by
 show(match aV M h t with | none=>_ | some x=>_)=_;rw[d];show(match cellAt M i with | none=>_ | some c=>_)=_;rw[b];show(match c.fl[f]? with | none=>_ | some v=>_)=_;rw[a]
theorem Zmq{M:Wm}{h s t f:Nat}{i:Int}{c:Ce}(d:aV M h t=some i)(b:cellAt M i=some c)(a:c.fl[f]? =none):kJ M (.put h t f s)=.error .m7:=by
 show(match aV M h t with | none=>_ | some x=>_)=_;rw[d];show(match cellAt M i with | none=>_ | some c=>_)=_;rw[b];show(match c.fl[f]? with | none=>_ | some v=>_)=_;rw[a]
theorem Zmr{M:Wm}{h s t f:Nat}{i:Int}{c:Ce}{v:AA}(d:aV M h t=some i)(b:cellAt M i=some c)(a:c.fl[f]? =some v):kJ M (.get h s t f)=.ok (⟨"got",mU M v,[]⟩,setSlot M h s v):=by
 show(match aV M h t with | none=>_ | some x=>_)=_;rw[d];show(match cellAt M i with | none=>_ | some c=>_)=_;rw[b];show(match c.fl[f]? with | none=>_ | some v=>_)=_;rw[a]
def putL(M:Wm)(h s:Nat)(v:AA):Au:=(if old? M=true then [v]else [])++if (nP M && !cX M h)=true then [aV M h s]else []
theorem Zmp{M:Wm}{h s t f:Nat}{i:Int}{c:Ce}{v:AA}(d:aV M h t=some i)(b:cellAt M i=some c)(a:c.fl[f]? =some v):kJ M (.put h t f s)=.ok (⟨"put",mU M v,(aO (setCell M i { c with fl:=c.fl.set f (aV M h s) }) (putL M h s v)).1⟩,(aO (setCell M i { c with fl:=c.fl.set f (aV M h s) }) (putL M h s v)).2):=by
 show(match aV M h t with | none=>_ | some x=>_)=_;rw[d];show(match cellAt M i with | none=>_ | some c=>_)=_;rw[b];show(match c.fl[f]? with | none=>_ | some v=>_)=_;rw[a];rfl
theorem Zem{M:Wm}{h t:Nat}{l i:Int}{c:Ce}(b:aV M h t=some i)(a:cellAt M i=some c):kJ M (.write h t l)=.ok (⟨"wrote",some c.load,[]⟩,setCell M i { c with load:=l }):=by
 show(match aV M h t with | none=>_ | some x=>_)=_;rw[b];show(match cellAt M i with | none=>_ | some c=>_)=_;rw[a]
theorem Zis{M:Wm}{h t:Nat}{i:Int}{c:Ce}(b:aV M h t=some i)(a:cellAt M i=some c):kJ M (.read h t)=.ok (⟨"read",some c.load,[]⟩,M):=by
 show(match aV M h t with | none=>_ | some x=>_)=_;rw[b];show(match cellAt M i with | none=>_ | some c=>_)=_;rw[a]
theorem Ziu{M:Wm}{h t:Nat}{z:Str}{i:Int}{c:Ce}(b:aV M h t=some i)(a:cellAt M i=some c):kJ M (.name h t z)=.ok (⟨"named",some c.birth,[]⟩,{ M with names:=mq M.names z (i,c.birth) }):=by
 show(match aV M h t with | none=>_ | some x=>_)=_;rw[b];show(match cellAt M i with | none=>_ | some c=>_)=_;rw[a]
section
variable {X:Cs}{H H':Hp}{T T':Tg}{s:Nat}{A:Wa}{M:Wm}
theorem Zrn{z:Str}{v:Int×Int}{t:AI}(c:NmO H T t (z,v)):∀{ns:AF}{names:List bX},Al (NmO H T) ns names->(∃b,(qx names ns).map (λkv=>if kv.1=Sum.inr z then(kv.1,V.ref t)else kv)=qx (names.map λm=>if m.1=z then(m.1,v)else m) b/\Al (NmO H T) b (names.map λm=>if m.1=z then(m.1,v)else m))/\
  ((qx names ns).any λkv=>decide (kv.1=Sum.inr z))=(names.any λm=>decide (m.1=z))/\qx names ns++[(Sum.inr z,V.ref t)]=qx (names++[(z,v)]) (ns++[t])/\Al (NmO H T) (ns++[t]) (names++[(z,v)]):=by
 intro ns names h
 induction h with
 | nil=>exact⟨⟨[],rfl,.nil⟩,rfl,rfl,.cons c .nil⟩
 | @cons a m ns names h1 _ g=>
  obtain⟨⟨b,f,d⟩,e3,j,i⟩:=g;refine⟨?_,?_,?_,.cons h1 i⟩
  ·by_cases e:m.1=z
   ·refine⟨t::b,?_,?_⟩
    ·show(if (Sum.inr m.1:Int ⊕ Str)=Sum.inr z then _ else _)::_=_;rw[if_pos (by rw[e]),List.map_cons,if_pos e];show _::_=(Sum.inr m.1,V.ref t)::qx _ b;rw[<- f];rfl
    ·rw[List.map_cons,if_pos e];exact .cons (by rw[e];exact c) d
   ·refine⟨a::b,?_,?_⟩
    ·show(if (Sum.inr m.1:Int ⊕ Str)=Sum.inr z then _ else _)::_=_;rw[if_neg (λw=>e (Sum.inr.inj w)),List.map_cons,if_neg e];show _::_=(Sum.inr m.1,V.ref a)::qx _ b;rw[<- f];rfl
    ·rw[List.map_cons,if_neg e];exact .cons h1 d
  ·show(decide ((Sum.inr m.1:Int ⊕ Str)=Sum.inr z) || (qx names ns).any _)=(decide (m.1=z) || names.any _);rw[e3];congr 1
   by_cases e:m.1=z<;>simp[e]
  ·show(Sum.inr m.1,V.ref a)::(qx names ns++_)=(Sum.inr m.1,V.ref a)::qx (names++_) (ns++_);rw[j]
theorem Zl3{ns:AF}{names:List bX}(h:Al (NmO H T) ns names):(qx names ns).length=names.length:=by
 induction h with
 | nil=>rfl
 | @cons a m ns names h1 _ b=>show(_::qx names ns).length=_;rw[List.length_cons,List.length_cons,b]
theorem WJ.named(j:WJ X H T s A M)(w:WT H T)(k:s≠0){z:Str}{v:Int×Int}{t:AI}(l:NmO H T t (z,v)):∃a,dZ s H bE T T/\
  WJ X bE T s { A with ns:=a } { M with names:=mq M.names z v }:=by
 obtain⟨tm,om,nms⟩:=j.jn;obtain⟨⟨n1,x,n⟩,e3,u,q⟩:=Zrn l nms;have f:rF s (·=6) H bE T T:=rF.wY tm;have i:∀{ns:AF}{names:List bX},Al (NmO H T) ns names->Al (NmO bE T) ns names:=λh=>h.mono (by rintro t m ⟨z1,z2⟩;exact⟨z1,kY k tm _ _ z2 z1⟩);have go:∀a,putK (qx M.names A.ns) (Sum.inr z) (.ref t)=qx (mq M.names z v) a->Al (NmO H T) a (mq M.names z v)->WJ X bE T s { A with ns:=a } { M with names:=mq M.names z v }:=λa r C=>by
  refine⟨?_,?_,⟨tm,by show upd _ A.nm _ A.nm=_;rw[aq,r],i C⟩,?_,j.jd.mv f λ_ _ _=>δ,j.jc.mv f λ_ _=>δ⟩
  ·obtain⟨d,c,g,e,D,B,p,o⟩:=j.jb.mv f (kY k tm) δ δ;exact⟨d,c,g,e,D,B,p,o⟩
  ·obtain⟨d,c,g,e⟩:=j.jh.mv f δ δ;exact⟨d,c,g,e⟩
  ·obtain⟨d,c,g,e⟩:=j.js.mv f δ δ;exact⟨d,c,g,e⟩
 by_cases b:(M.names.any λm=>decide (m.1=z))=true
 ·refine⟨n1,dZ.upd w om (by rw[tm]),go n1 ?_ ?_⟩
  ·unfold putK mq;rw[if_pos (e3.trans b),if_pos b,x]
  ·unfold mq;rw[if_pos b];exact n
 ·refine⟨A.ns++[t],dZ.upd w om (by rw[tm]),go _ ?_ ?_⟩
  ·unfold putK mq;rw[if_neg (λy=>b (e3.symm.trans y)),if_neg b,u]
  ·unfold mq;rw[if_neg b];exact q
end
section
variable {K:aB}{X:Cs}{H:Hp}{Q:VK}{E:XK}{n:ν}{bk ct:ν}{rf:Rf->AI}{CE CF CN:AI}
theorem Zir{wo dd:AI}(T:lK K X)(o:rf .empty=CE)(y:rf .m7=CF)(q:uA X rf Zbl wo dd H Q E):Vn K (iY X) (yf X CE CF) (gZ X) E ξ [↑wo,↑dd,none,none,none,none] H:=by
 obtain⟨Tg,s,A,M,_,⟨h,sl,t,f,rfl⟩,w,C,j,rfl,od,⟨o1,o2⟩,hc,hg,L,hn,B,F⟩:=q;obtain⟨p,m,hp,hm,hs,hl,hd⟩:=j.handOf o1;unfold Vn;exists dd,_,1,_,rfl,rfl,dB.of od,rfl;exists dd,_,3,_,rfl,rfl,dB.of od,rfl;exists dd,_,4,_,rfl,rfl,dB.of od,rfl;apply⟨_,_,_,_,rfl,Tg,s,A,M,h,t,f,j,rfl,rfl,rfl,rfl,o2,λe=>?_,λi c z I r u=>?_,λi c N z I r J ce u=>?_⟩
 ·rw[<- o];exact B .empty (Ziv e) H (aY.refl _)
 ·rw[<- y];exact B .m7 (Zms z r u) H (aY.refl _)
 ·have hv:=bK u;apply fL (bU.of ce.o2) (gm (v:=oV (c.fl[f])) (by rw[cz,hv];rfl)) ?_;exists _,_,rfl,Tg,s,A,M,h,p,j,rfl,rfl,hp;exists dd,_,2,_,rfl,rfl,dB.of od,rfl;refine⟨p.2,_,_,sl,rfl,rfl,hd.o2,pq (by rw[aU];exact hl),?_⟩;obtain⟨b,g⟩:=j.slot w C (k:=sl) (x:=c.fl[f]) hp hm;rw[mD hm]at g;generalize upd H p.2 (.lst ((m.2.map oV).set sl (oV c.fl[f])))=O at b g ⊢;obtain⟨d1,ow⟩:=g.jb.ow;apply aH ow T.cW T.Bv aW ?_;exists _,_,rfl,c.fl[f],rfl,Tg,s,A,_,g,rfl;rw[lH];apply⟨aR ζ,λl hl=>⟨aR ζ,λa D=>?_⟩⟩;exact ev0 C F (d:=.get h sl t f) (Zmr z r hv) rfl b g rfl hl D
theorem Ziq{wo dd:AI}(T:lK K X)(O:rf .empty=CE)(J:rf .m7=CF)(q:uA X rf Zbi wo dd H Q E):Vm K (iY X) (yf X CE CF) (mV X) (gZ X) (Br X) (Ro X) E ξ [↑wo,↑dd,none,none,none,none,none,none] H:=by
 obtain⟨Tg,s,A,M,_,⟨h,t,f,sl,rfl⟩,w,R,j,rfl,od,⟨o2,o1⟩,hc,hg,U,hn,S,hQ⟩:=q;obtain⟨p,m,hp,hm,hs,hl,hd⟩:=j.handOf o1;unfold Vm;exists dd,_,1,_,rfl,rfl,dB.of od,rfl;exists dd,_,3,_,rfl,rfl,dB.of od,rfl;exists dd,_,2,_,rfl,rfl,dB.of od,rfl;apply⟨_,_,_,_,rfl,Tg,s,A,M,h,t,f,j,rfl,rfl,rfl,rfl,o2,λe=>?_,λi c L h0 u y=>?_,λi c V L h0 u F ce y=>?_⟩
 ·rw[<- O];exact S .empty (Zit e) H (aY.refl _)
 ·rw[<- J];exact S .m7 (Zmq L u y) H (aY.refl _)
 ·have hv:=bK y;apply fL (bU.of ce.o2) (gm (v:=oV (c.fl[f])) (by rw[cz,hv];rfl)) ?_;exists _,_,rfl,Tg,s,A,M,h,p,j,rfl,rfl,hp;exists dd,_,4,_,rfl,rfl,dB.of od,rfl;refine fL (bU.of hd.o2) (gm (v:=oV (aV M h sl)) (by rw[cz,hs];rfl)) ?_;exists V.2,_,_,f,rfl,rfl,ce.o2,pq (by rw[aU];exact y);obtain⟨b,l⟩:=j.field w R (k:=f) (x:=aV M h sl) F ce;have l:WJ X _ Tg s A (setCell M i { c with fl:=c.fl.set f (aV M h sl) }):=l;generalize upd H V.2 (.lst ((c.fl.map oV).set f (oV (aV M h sl))))=H1 at b l ⊢;apply⟨_,_,rfl,Tg,s,A,_,l,rfl,U,λZ P=>?_⟩;rw[show old? (setCell M i { c with fl:=c.fl.set f (aV M h sl) })=old? M from rfl,Zlq];generalize zz:upd H1 Z _=H2;obtain⟨I,g1⟩:=nwO P zz;apply⟨_,_,_,rfl,Tg,s,A,_,h,l.same I,rfl,U,rfl,λY N=>?_⟩;rw[show(nP (setCell M i { c with fl:=c.fl.set f (aV M h sl) }) && !cX (setCell M i { c with fl:=c.fl.set f (aV M h sl) }) h)=(nP M && !cX M h)from rfl,Zlq];generalize zz:upd H2 Y _=H3;obtain⟨C,g2⟩:=nwO N zz;apply⟨Z,Y,_,_,rfl,rfl,C _ _ g1,g2,?_,λW o=>?_⟩
  ·refine aR ?_;cases old? M<;>cases (nP M && !cX M h)<;>simp
  rw[<- List.map_append];generalize zz:upd H3 W _=H4;obtain⟨s3,B⟩:=nwO o zz;have B:H4 W=some (.lst ((putL M h sl c.fl[f]).map oV)):=B;have g:=I.trans (C.trans s3);apply⟨_,_,rfl,putL M h sl c.fl[f],Tg,s,A,_,b.wt.same g,R,l.same g,rfl,.inl ⟨B,(b.wt.same (I.trans C)) _ o⟩,?_,hg,λH5 T5 l5 D z g5 r=>?_⟩
  ·unfold putL;cases old? M<;>cases (nP M && !cX M h)<;>simp
  obtain⟨d1,ow⟩:=z.jb.ow;apply aH ow T.cW T.Bv aW ?_;exists _,_,rfl,c.fl[f],rfl,T5,s,A,_,z,rfl;rw[uM,IV (c':={ c with fl:=c.fl.set f (aV M h sl) }) u rfl];apply⟨aR ζ,λa ha=>?_⟩;exact ev1 R ⟨dZ.free b (g.free r.1),r.2⟩ hQ (d:=.put h t f sl) (Zmp L u hv) (b.trans ((dZ.same b.wt g).trans D)) z rfl g5 ha
theorem Zbz{wo dd:AI}(T:lK K X)(g:rf .empty=CE)(q:uA X rf Fj wo dd H Q E):Jx K (uy X CE) E ξ [↑wo,↑dd,none,none] H:=by
 obtain⟨Tg,s,A,M,_,⟨h,t,load,rfl⟩,w,p,j,rfl,od,o1,hc,hg,B,hn,r,y⟩:=q;unfold Jx;exists dd,_,1,_,rfl,rfl,dB.of od,rfl;exists dd,_,2,_,rfl,rfl,dB.of od,rfl;apply⟨_,_,_,rfl,Tg,s,A,M,h,t,j,rfl,rfl,rfl,o1,λe=>?_,λi c k z F v m ce=>?_⟩
 ·rw[<- g];exact r .empty (Zc1 e) H (aY.refl _)
 ·obtain⟨t1,t2,⟨dx,f⟩,u⟩:=id ce;apply aH f T.c.cY T.c.jG sG ?_;exists dd,_,3,_,rfl,rfl,dB.of od,rfl;apply⟨k.1,X.C,dx,_,rfl,f,T.c.cY,T.c.jG,by show 5<1000;decide,?_⟩;rw[Q3];obtain⟨b,o⟩:=j.cell w p (dx:=dx) (tone:=c.tone) (load:=load) m ce;generalize upd H k.1 (.ins X.C dx (jK c.birth c.bulk c.tone load k.2))=D at b o ⊢;apply⟨aR ζ,λl hl=>⟨aR ζ,λa x=>?_⟩⟩;exact ev0 p y (d:=.write h t load) (Zem z v) rfl b o rfl hl x
theorem Zeg{wo dd:AI}(T:lK K X)(b:rf .empty=CE)(q:uA X rf Qp wo dd H Q E):N8 K (uy X CE) E ξ [↑wo,↑dd,none] H:=by
 obtain⟨Tg,s,A,M,_,⟨h,t,rfl⟩,w,u,j,rfl,od,o1,hc,hg,x,hn,g,p⟩:=q;unfold N8;exists dd,_,1,_,rfl,rfl,dB.of od,rfl;exists dd,_,2,_,rfl,rfl,dB.of od,rfl;apply⟨_,_,_,rfl,Tg,s,A,M,h,t,j,rfl,rfl,rfl,o1,λe=>?_,λi c y r B m v ce=>?_⟩
 ·rw[<- b];exact g .empty (Zen e) H (aY.refl _)
 ·obtain⟨t1,t2,⟨z,f⟩,k⟩:=id ce;apply aH f T.c.cY T.c.jG sG ?_;apply⟨aR ζ,λl hl=>⟨aR ζ,λa o=>?_⟩⟩;exact ev0 u p (d:=.read h t) (Zis r m) rfl (dZ.refl w) j rfl hl o
theorem Zeh{wo dd:AI}(T:lK K X)(o:rf .empty=CE)(q:uA X rf isName wo dd H Q E):Oa K (uy X CE) (gZ X) E ξ [↑wo,↑dd,none,none,none] H:=by
 obtain⟨Tg,s,A,M,_,⟨h,t,z,rfl⟩,w,B,j,rfl,od,o1,hc,hg,P,hn,C,N⟩:=q;obtain⟨p,m,hp,hm,hs,hl,hd⟩:=j.handOf o1;unfold Oa;exists dd,_,1,_,rfl,rfl,dB.of od,rfl;exists dd,_,2,_,rfl,rfl,dB.of od,rfl;apply⟨_,_,_,rfl,Tg,s,A,M,h,t,j,rfl,rfl,rfl,o1,λe=>?_,λi c R y V F O ce=>?_⟩
 ·rw[<- o];exact C .empty (Zeo e) H (aY.refl _)
 ·obtain⟨t1,t2,⟨U,r⟩,D⟩:=id ce;apply aH r T.c.cY T.c.dR eF ?_;exists _,_,rfl,Tg,s,A,M,h,p,j,rfl,rfl,hp;apply fL (bU.of hd.o2) (gm (v:=oV (aV M h t)) (by rw[cz,hs];rfl)) ?_;rw[y];apply⟨aR ζ,λtp f=>?_⟩;generalize zz:upd H tp _=H1;obtain⟨k,u⟩:=nwO f zz;have u:H1 tp=some (.tup [.int i,.int c.birth]):=u;have g:=j.same k;have I:=w.same k;obtain⟨d1,ow⟩:=g.jb.ow;apply aH ow T.cW T.nWn fV ?_;exists dd,_,3,_,rfl,rfl,dB.of (k _ _ od),rfl;refine⟨_,_,rfl,Zvt g.jn.om (by rw[Zl3 g.jn.nms];exact Nat.lt_of_le_of_lt hn ε),?_⟩;obtain⟨J,b,x⟩:=g.named I B (z:=z) (v:=(i,c.birth)) (t:=tp) ⟨w _ f,u⟩;generalize upd H1 A.nm (.dK (putK (qx M.names A.ns) (Sum.inr z) (.ref tp)))=S at b x ⊢;apply⟨aR ζ,λl hl=>⟨aR ζ,λa L=>?_⟩⟩;exact ev0 B N (d:=.name h t z) (Ziu y F) rfl ((dZ.same w k).trans b) x rfl hl L
theorem Zef{wo dd:AI}(T:lK K X)(u:rf .Px=CN)(q:uA X rf Qo wo dd H Q E):N7 K (iY X) (mV X) (Ao X CN) (gZ X) E ξ [↑wo,↑dd,none,none] H:=by
 obtain⟨Tg,s,A,M,_,⟨h,sl,z,rfl⟩,w,F,j,rfl,od,o1,hc,hg,U,hn,L,R⟩:=q;obtain⟨p,m,hp,hm,hs,hl,hd⟩:=j.handOf o1;unfold N7;exists dd,_,3,_,rfl,rfl,dB.of od,rfl;apply⟨_,_,rfl,Tg,s,A,M,j,rfl,λe=>?_,λi b e=>?_⟩
 ·rw[<- u];refine L .Px ?_ H (aY.refl _);show(match rD M.names z with | none=>_ | some (p,b)=>_)=_;rw[e]
 ·let x:AA:=if ji M i b=true then none else some i
  have ex:(if ji M i b=true then V.non else .int i)=oV x:=by
   show _=oV (if _ then _ else _);cases ji M i b<;>rfl
  rw[ex];have S:kJ M (.seek h sl z)=.ok (⟨"sought",mU M x,(aO (setSlot M h sl x) [x]).1⟩,(aO (setSlot M h sl x) [x]).2):=by
   show(match rD M.names z with | none=>_ | some (p,b)=>_)=_;rw[e];dsimp only;cases f:ji M i b with
   | true=>
    have:x=none:=by show(if _ then _ else _)=_;rw[f];rfl
    rw[this];rfl
   | false=>
    have hx:x=some i:=by show(if _ then _ else _)=_;rw[f];rfl
    have:mU M (some i)=some b:=by
     unfold ji at f;show(cellAt M i).map _=_;cases o:cellAt M i with
     | none=>rw[o]at f;cases f
     | some c=>
      rw[o]at f;dsimp only at f
      by_cases y:c.birth=b
      ·rw[<- y];rfl
      ·rw[if_neg y]at f;cases f
    rw[hx,this];rfl
  clear_value x;exists dd,_,1,_,rfl,rfl,dB.of od,rfl;exists _,_,rfl,Tg,s,A,M,h,p,j,rfl,rfl,hp;exists dd,_,2,_,rfl,rfl,dB.of od,rfl;refine⟨p.2,_,_,sl,rfl,rfl,hd.o2,pq (by rw[aU];exact hl),?_⟩;obtain⟨g,B⟩:=j.slot w F (k:=sl) (x:=x) hp hm;rw[mD hm]at B;generalize upd H p.2 (.lst ((m.2.map oV).set sl (oV x)))=O at g B ⊢;apply⟨aR ζ,λI r=>?_⟩;generalize zz:upd O I _=H2;obtain⟨t,D⟩:=nwO r zz;have D:H2 I=some (.lst ([x].map oV)):=D;apply⟨_,_,rfl,[x],Tg,s,A,_,g.wt.same t,F,B.same t,rfl,.inl ⟨D,g.wt _ r⟩,ζ,hg,λY N W C v J l=>?_⟩;obtain⟨d1,ow⟩:=v.jb.ow;apply aH ow T.cW T.Bv aW ?_;exists _,_,rfl,x,rfl,N,s,A,_,v,rfl;rw[uM,lH];apply⟨aR ζ,λa P=>?_⟩;exact ev1 F ⟨dZ.free g (t.free l.1),l.2⟩ R (d:=.seek h sl z) S (g.trans ((dZ.same g.wt t).trans C)) v rfl J P
end
section
variable {K:aB}{X:Cs}{H:Hp}{Q:VK}{E:XK}{n:ν}{bk ct:ν}{rf:Rf->AI}{f1 f2 f3 f4 f5 f6 f7 f8 f9 f10:AI}
theorem Zvu{wo dd:AI}(T:lK K X)(q:uA X rf (λ_=>True) wo dd H Q E):
  Zjw K f1 f2 f3 f4 f5 f6 f7 f8 f9 f10 (cJ X rf QC) (cJ X rf QB) (cJ X rf Zbl) (cJ X rf Qy) (cJ X rf Qq) (cJ X rf isName) (cJ X rf Zbi) (cJ X rf Qp) (cJ X rf Qo) (cJ X rf Fj) E ξ [↑wo,↑dd,none] H:=by
 obtain⟨Tg,s,A,M,d,_,w,m,j,rfl,od,l,c,e,a,b,i,k⟩:=q;unfold Zjw;cases d with
 | make h o p bulk=>
  exists dd,_,0,_,rfl,rfl,dB.of od,rfl;refine⟨_,f5,rfl,rfl,?_⟩;apply ju (cJ X rf Qq) rfl ζ ?_;apply⟨_,_,rfl,Tg,s,A,M,_,⟨_,_,_,_,rfl⟩,w,m,j,rfl,od,l,c,e,a,b,i,k⟩
 | get h o t f=>
  exists dd,_,0,_,rfl,rfl,dB.of od,rfl;refine⟨_,f3,rfl,rfl,?_⟩;apply ju (cJ X rf Zbl) rfl ζ ?_;apply⟨_,_,rfl,Tg,s,A,M,_,⟨_,_,_,_,rfl⟩,w,m,j,rfl,od,l,c,e,a,b,i,k⟩
 | put h t f o=>
  exists dd,_,0,_,rfl,rfl,dB.of od,rfl;refine⟨_,f7,rfl,rfl,?_⟩;apply ju (cJ X rf Zbi) rfl ζ ?_;apply⟨_,_,rfl,Tg,s,A,M,_,⟨_,_,_,_,rfl⟩,w,m,j,rfl,od,l,c,e,a,b,i,k⟩
 | copy h o t=>
  exists dd,_,0,_,rfl,rfl,dB.of od,rfl;refine⟨_,f1,rfl,rfl,?_⟩;apply ju (cJ X rf QC) rfl ζ ?_;apply⟨_,_,rfl,Tg,s,A,M,_,⟨_,_,_,rfl⟩,w,m,j,rfl,od,l,c,e,a,b,i,k⟩
 | drop h o=>
  exists dd,_,0,_,rfl,rfl,dB.of od,rfl;refine⟨_,f2,rfl,rfl,?_⟩;apply ju (cJ X rf QB) rfl ζ ?_;apply⟨_,_,rfl,Tg,s,A,M,_,⟨_,_,rfl⟩,w,m,j,rfl,od,l,c,e,a,b,i,k⟩
 | give h o g t=>
  exists dd,_,0,_,rfl,rfl,dB.of od,rfl;refine⟨_,f4,rfl,rfl,?_⟩;apply ju (cJ X rf Qy) rfl ζ ?_;apply⟨_,_,rfl,Tg,s,A,M,_,⟨_,_,_,_,rfl⟩,w,m,j,rfl,od,l,c,e,a,b,i,k⟩
 | write h t load=>
  exists dd,_,0,_,rfl,rfl,dB.of od,rfl;refine⟨_,f10,rfl,rfl,?_⟩;apply ju (cJ X rf Fj) rfl ζ ?_;apply⟨_,_,rfl,Tg,s,A,M,_,⟨_,_,_,rfl⟩,w,m,j,rfl,od,l,c,e,a,b,i,k⟩
 | read h t=>
  exists dd,_,0,_,rfl,rfl,dB.of od,rfl;refine⟨_,f8,rfl,rfl,?_⟩;apply ju (cJ X rf Qp) rfl ζ ?_;apply⟨_,_,rfl,Tg,s,A,M,_,⟨_,_,rfl⟩,w,m,j,rfl,od,l,c,e,a,b,i,k⟩
 | name h t z=>
  exists dd,_,0,_,rfl,rfl,dB.of od,rfl;refine⟨_,f6,rfl,rfl,?_⟩;apply ju (cJ X rf isName) rfl ζ ?_;apply⟨_,_,rfl,Tg,s,A,M,_,⟨_,_,_,rfl⟩,w,m,j,rfl,od,l,c,e,a,b,i,k⟩
 | seek h o z=>
  exists dd,_,0,_,rfl,rfl,dB.of od,rfl;refine⟨_,f9,rfl,rfl,?_⟩;apply ju (cJ X rf Qo) rfl ζ ?_;apply⟨_,_,rfl,Tg,s,A,M,_,⟨_,_,_,rfl⟩,w,m,j,rfl,od,l,c,e,a,b,i,k⟩
end
inductive xW(X:Cs)(hp:AI)(sl:AI)(H:Hp)(Q:VK):Prop
 | mk (T s A M) (xs:Au) (_:WJ X H T s A M) (_:A.hp=hp) (_:H sl=some (.lst (xs.map oV))) (_:xs.length<=1000) (_:∀l,H l=none->Q (.ref l) (upd H l (.lst ((xs.map (mU M)).map oV)))):xW X hp sl H Q
def oA(X:Cs):Sp:=λvs H Q E=>∃hp sl,vs=[.ref hp,.ref sl]/\xW X hp sl H Q
inductive Rk(X:Cs)(wo:AI)(H:Hp)(Q:VK):Prop
 | mk (T s A M) (_:WJ X H T s A M) (_:A.wo=wo) (_:M.cells.length<=1000) (_:(∀m∈M.hands,m.2.length<=1000)) (_:∀(l:AI) (ls:AF) H',aY H H'->H' l=some (.lst (ls.map V.ref))->ls.length=(rowsOf M).length->(∀(j:Nat) r x,ls[j]? =some r->(rowsOf M)[j]? =some x->H' r=some (.lst (x.map oV)))->(H l=none/\(∀r∈ls,H r=none)/\l∉ls)->Q (.ref l) H'):Rk X wo H Q
def Ry(X:Cs):Sp:=λvs H Q E=>∃wo,vs=[.ref wo]/\Rk X wo H Q
section
variable {K:aB}{X:Cs}{H:Hp}{Q:VK}{E:XK}{n:ν}{bk ct:ν}
theorem Y8{hp sl:AI}(T:lK K X)(q:xW X hp sl H Q):
  Di K (iY X) ξ [↑hp,↑sl] H:=by
 obtain⟨Tg,s,A,M,b,j,rfl,o,hx,q⟩:=q;unfold Di;apply uh ?_;exists _,rfl,⟨_,bU.of o⟩;refine Yi (bU.of o) (λi=>(b[i]?).map λx=>oV (mU M x)) (by rw[aU];omega) (λi x hx=>?_) ?_
 ·rw[cz]at hx;obtain⟨y,hy,rfl⟩:=Option.map_eq_some_iff.mp hx;refine⟨λq hq=>?_,λz q hz hq=>?_⟩
  ·rw[hy]at hq;exact sE hq
  ·rw[hy]at hz;cases hz;walk_at"c";apply⟨_,_,rfl,y,rfl,Tg,s,A,M,j,rfl,hq⟩
 ·intro p hp;have:(List.range (b.map oV).length).filterMap (λi=>(b[i]?).map λx=>oV (mU M x))=(b.map (mU M)).map oV:=by
   rw[aU,List.map_map];clear q o hx
   induction b with
   | nil=>rfl
   | cons a l c=>
    rw[List.length_cons,List.range_succ_eq_map,List.filterMap_cons];simp only[List.getElem?_cons_zero,Option.map_some,List.map_cons,List.filterMap_map];congr 1
  rw[this];exact q p hp
theorem Q7{wo:AI}(T:lK K X)(q:Rk X wo H Q):
  pP K (oA X) ξ [↑wo] H:=by
 obtain⟨Tg,s,A,M,j,rfl,hc,g,q⟩:=q;obtain⟨d1,ow⟩:=j.jb.ow;have l5:=j.jd.l5;unfold pP;apply uh ?_;apply aH ow T.cW T.nWd dD ?_;refine⟨_,rfl,⟨_,bU.of j.jb.on⟩,?_⟩;refine Qj (bU.of j.jb.on) (by rw[aU];omega) (λi r w=>∃x,(rowsOf M)[i]? =some x/\w r=some (.lst (x.map oV))) (by rintro _ _ _ _ ⟨x,e,z⟩ s;exact⟨x,e,s _ _ z⟩) (by rintro _ _ _ ⟨_,_,z⟩;exact⟨_,z⟩) (λx t q hq=>sE hq) (λi x t hi a C hq=>?_) ?_
 ·rw[cz]at hi;obtain⟨p,hp,rfl⟩:=Option.map_eq_some_iff.mp hi;have c:=j.same a;obtain⟨m,hm,hd⟩:=c.hand hp;obtain⟨D,o1⟩:=hd.o1;obtain⟨d2,b⟩:=c.jb.ow;walk_at"c";apply aH b T.cW T.Bv aW ?_;apply aH o1 T.cD T.nDs lX ?_;apply⟨_,_,rfl,Tg,s,A,M,m.2,c,rfl,hd.o2,g m (List.mem_of_getElem? hm),λl hl=>?_⟩;exact hq l _ (aK hl _) hl ⟨_,by unfold rowsOf;rw[cz,hm];rfl,aq⟩
 ·intro rs B a hl _ o hr p hp;have d:=aK hp (.lst (rs.map V.ref));refine q p rs _ (a.trans d) aq ?_ (λu r x v h=>?_) ⟨a.free hp,o,λz=>?_⟩
  ·rw[hl,aU];unfold rowsOf;rw[aU,j.jd.lh]
  ·obtain⟨y,e3,z⟩:=hr u r v;rw[h]at e3;cases e3;exact d _ _ z
  ·obtain⟨k,hk,e⟩:=List.getElem_of_mem z;obtain⟨_,_,f⟩:=hr k p (by rw[bK hk,e]);rw[hp]at f;cases f
end
inductive xZ(CD:AI)(p:AI)(nm:Str)(many:Int)(H:Hp)(Q:VK):Prop
 | mk (dx) (_:H p=some (.ins CD dx [])) (_:0<=many) (_:many<=1000) (_:∀sa H',H sa=none->H' p=some (.ins CD dx (Zg6 nm sa))->H' sa=some (.lst (List.replicate many.toNat V.non))->(∀b o,H b=some o->b≠p->H' b=some o)->Q .non H'):xZ CD p nm many H Q
def Ld(a:AI):Sp:=λvs H Q E=>∃p nm many,vs=[.ref p,.str nm,.int many]/\xZ a p nm many H Q
def yg(a:AI):Sp:=λvs H Q E=>∃p,vs=[.ref p]/\∃dx,H p=some (.ins a dx [])/\
 ∀gr H',H gr=none->H' p=some (.ins a dx (bY 0 "rest" gr 0 0 0 0 0 0 0 .non))->H' gr=some (.lst [])->(∀b o,H b=some o->b≠p->H' b=some o)->Q .non H'
section
variable {K:aB}{X:Cs}{H:Hp}{Q:VK}{E:XK}{n:ν}{bk ct:ν}
theorem Im{p:AI}{nm:Str}{many:Int}(T:lK K X)(q:xZ X.D p nm many H Q):
  tH K ⟨λ_ H'=>Q .non H',Q,bk,ct⟩ [↑p,some (.str nm),some (.int many)] H:=by
 obtain⟨m,hp,r,h1,h⟩:=q;unfold tH;exists p,X.D,m,[],rfl,hp,T.cD,T.nDn,ε;apply⟨ε,λl0 d=>?_⟩;apply⟨l0,many,_,rfl,rfl,aq,δ,δ,?_,λi a=>?_⟩
 ·show 1 * many.toNat<=sizeLine;exact aR δ
 have c:p≠l0:=aF aq d;have f:p≠i:=aF (by rw[aC c];exact aq) a;have g:H i=none:=by
  by_cases z:i=l0
  ·rw[z,aq]at a;cases a
  ·rw[aC z,aC (λe=>f e.symm)]at a;exact a
 have j:H l0=none:=by rw[aC (λe=>c e.symm)]at d;exact d
 apply⟨p,X.D,m,_,rfl,by rw[aC f,aC c];exact aq,T.cD,T.nDs,by show 1<1000;decide,?_⟩;refine h i _ g ?_ ?_ λb o hb l=>?_
 ·rw[aq,Zm3]
 ·rw[aC f.symm,aq];congr 2;generalize many.toNat=k
  induction k with
  | zero=>rfl
  | succ k n=>rw[List.replicate_succ,List.replicate_succ,List.flatten_cons,n];rfl
 ·rw[aC l,aC (aF hb g),aC (aF hb j),aC l];exact hb
theorem yP{p:AI}(T:lK K X)(q:∃dx,H p=some (.ins X.S dx [])/\
 ∀gr H',H gr=none->H' p=some (.ins X.S dx (bY 0 "rest" gr 0 0 0 0 0 0 0 .non))->H' gr=some (.lst [])->(∀b o,H b=some o->b≠p->H' b=some o)->Q .non H'):
  oM K ⟨λ_ H'=>Q .non H',Q,bk,ct⟩ [↑p] H:=by
 obtain⟨dx,hp,h⟩:=q;unfold oM;exists p,X.S,dx,[],rfl,hp,T.cS,T.n1,ε;apply⟨p,X.S,dx,_,rfl,aq,T.cS,T.n2,by show 1<1000;decide,?_⟩;rw[dF];apply⟨ε,λgr a=>?_⟩;have c:p≠gr:=aF aq a;have d:H gr=none:=by rw[aC c.symm]at a;exact a
 apply⟨p,X.S,dx,_,rfl,by rw[aC c];exact aq,T.cS,T.n3,by show 2<1000;decide,?_⟩;apply⟨p,X.S,dx,_,rfl,aq,T.cS,T.n4,by show 3<1000;decide,?_⟩;rw[dF];apply⟨p,X.S,dx,_,rfl,aq,T.cS,T.n5,by show 4<1000;decide,?_⟩;rw[dF];apply⟨p,X.S,dx,_,rfl,aq,T.cS,T.n6,by show 5<1000;decide,?_⟩;rw[dF];apply⟨p,X.S,dx,_,rfl,aq,T.cS,T.n7,by show 6<1000;decide,?_⟩;rw[dF];apply⟨p,X.S,dx,_,rfl,aq,T.cS,T.n8,by show 7<1000;decide,?_⟩;rw[dF];apply⟨p,X.S,dx,_,rfl,aq,T.cS,T.n9,by show 8<1000;decide,?_⟩;rw[dF];apply⟨p,X.S,dx,_,rfl,aq,T.cS,T.n10,by show 9<1000;decide,?_⟩;rw[dF];apply⟨p,X.S,dx,_,rfl,aq,T.cS,T.n11,by show 10<1000;decide,?_⟩;rw[dF];refine h gr _ d ?_ ?_ λb o hb e=>?_
 ·rw[aq,Zh4]
 ·rw[aC c.symm,aq]
 ·rw[aC e,aC (aF hb d),aC e];exact hb
end
def wd(w:Int):Str:=if w=0 then "first" else if w=1 then "each" else "last"
def tlS(t:Int):Str:=if t=0 then "" else if t=1 then " old" else if t=2 then " new" else " old new"
def words(w t:Int):Str:=wd w++tlS t
structure KdO(X:Cs)(H:Hp)(ki lk:AI)(w t:Int):Prop where
 ok:∃dx,H ki=some (.ins X.K dx (Qm lk t))
 ol:∃dx,(w=0/\H lk=some (.ins X.F dx []))\/(w=1/\H lk=some (.ins X.E dx []))\/(w=2/\H lk=some (.ins X.L dx []))
theorem KdO.same{X:Cs}{H H':Hp}{ki lk:AI}{w t:Int}(k:KdO X H ki lk w t)(s:aY H H'):KdO X H' ki lk w t:=by
 obtain⟨⟨d1,a⟩,⟨d2,b⟩⟩:=k;refine⟨⟨d1,s _ _ a⟩,⟨d2,?_⟩⟩;rcases b with ⟨z,e⟩ | ⟨z,e⟩ | ⟨z,e⟩
 ·exact .inl ⟨z,s _ _ e⟩
 ·exact .inr (.inl ⟨z,s _ _ e⟩)
 ·exact .inr (.inr ⟨z,s _ _ e⟩)
def Pz(room:Int)(hands:List (Str×Int))(w t:Int):Wm:=⟨room,0,0,[],hands.map λm=>(m.1,List.replicate m.2.toNat none),[],w,t,⟨0,"rest",[],0,0,0,0,0,0,0,.non⟩⟩
inductive u6(X:Cs)(p:AI)(room:Int)(ki:AI)(hl0:AI)(H:Hp)(Q:VK):Prop
 | mk (dx T s lk w t) (ts:AF) (hands) (_:H p=some (.ins X.W dx [])) (_:WT H T) (_:s≠0) (_:KdO X H ki lk w t) (_:T ki=(0,0)) (_:T lk=(0,0)) (_:ki≠p) (_:lk≠p) (_:H hl0=some (.lst (ts.map V.ref))) (_:Al (λ(t:AI) (m:Str×Int)=>H t=some (.tup [.str m.1,.int m.2])/\0<=m.2/\m.2<=1000) ts hands) (_:hands.length<=30) (_:∀H' T' A,(∀b o,H b=some o->b≠p->H' b=some o)->(∀b o,H b=some o->b≠p->T' b=T b)->WT H' T'->A.wo=p->WJ X H' T' s A (Pz room hands w t)->Q .non H'):u6 X p room ki hl0 H Q
def pC(X:Cs):Sp:=λvs H Q E=>∃p room ki a,vs=[.ref p,.int room,.ref ki,.ref a]/\u6 X p room ki a H Q
def yh(a:AI):Sp:=λvs H Q E=>∃p l t,vs=[.ref p,.ref l,.int t]/\∃dx,H p=some (.ins a dx [])/\∀H',H' p=some (.ins a dx (Qm l t))->(∀b o,H b=some o->b≠p->H' b=some o)->Q .non H'
def vf(v:V):Sp:=λvs H Q E=>∃a,vs=[.ref a]/\Q v H
section
variable {K:aB}{X:Cs}{H:Hp}{Q:VK}{E:XK}{n:ν}{bk ct:ν}
theorem Ik{p l:AI}{t:Int}(T:lK K X)(q:∃dx,H p=some (.ins X.K dx [])/\∀H',H' p=some (.ins X.K dx (Qm l t))->(∀b o,H b=some o->b≠p->H' b=some o)->Q .non H'):
  tE K ⟨λ_ H'=>Q .non H',Q,bk,ct⟩ [↑p,↑l,some (.int t)] H:=by
 obtain⟨dx,hp,h⟩:=q;unfold tE;exists p,X.K,dx,[],rfl,hp,T.cK,T.nKl,ε;apply⟨p,X.K,dx,_,rfl,aq,T.cK,T.nKt,by show 1<1000;decide,?_⟩;rw[dF];refine h _ ?_ λb o hb a=>?_
 ·rw[aq,Zlo]
 ·rw[aC a];exact hb
theorem w0{w:Int}(a:w=0\/w=1\/w=2):words w 0=wd w:=by rcases a with rfl | rfl | rfl<;>decide +kernel
theorem w3{w:Int}(a:w=0\/w=1\/w=2):words w 3=(wd w++" old")++" new":=by rcases a with rfl | rfl | rfl<;>decide +kernel
end
structure Ex(p:AI)(H H':Hp)(T T':Tg):Prop where
 kp:∀b o,H b=some o->b≠p->H' b=some o
 al:∀b o,H b=some o->∃o',H' b=some o'
 tg:∀b o,H b=some o->T' b=T b
 wt:WT H' T'
section
variable {p:AI}{H H1 H2 H':Hp}{T T1 T2 T':Tg}
theorem Ex.trans(a:Ex p H H1 T T1)(b:Ex p H1 H2 T1 T2):Ex p H H2 T T2 where
 kp:=λx o h n=>b.kp x o (a.kp x o h n) n
 al:=λx o h=>by obtain⟨o1,h1⟩:=a.al x o h;exact b.al x o1 h1
 tg:=λx o h=>by obtain⟨o1,h1⟩:=a.al x o h;rw[b.tg x o1 h1,a.tg x o h]
 wt:=b.wt
theorem Ztt(w:WT H T)(al:∀b o,H b=some o->∃a,H' b=some a):WT H' T:=λb h=>w b (by
 cases z:H b with
 | none=>rfl
 | some o=>obtain⟨a,e⟩:=al b o z;rw[h]at e;cases e)
theorem Zcg{a:AI}{o:HO}{v:Nat×Nat}(w:WT H T)(h:H a=some o):WT H (fX T a v):=λb hb=>by
 rw[ie (λe=>by rw[e,h]at hb;cases hb)];exact w b hb
theorem Ex.Zj7{o a:HO}(w:WT H T)(h:H p=some a):Ex p H (upd H p o) T T where
 kp:=λx u hx n=>by rw[aC n];exact hx
 al:=λx u hx=>by
  by_cases e:x=p
  ·exact⟨o,by rw[e,aq]⟩
  ·exact⟨u,by rw[aC e];exact hx⟩
 tg:=λ_ _ _=>rfl
 wt:=Ztt w λx u hx=>by
  by_cases e:x=p
  ·exact⟨o,by rw[e,aq]⟩
  ·exact⟨u,by rw[aC e];exact hx⟩
theorem Ex.news{vs:List (AI×(Nat×Nat))}(w:WT H T)(s:aY H H')(hn:∀v∈vs,H v.1=none/\∃o,H' v.1=some o):Ex p H H' T (vs.foldr cx T):=by
 have tg:∀b o,H b=some o->(vs.foldr cx T) b=T b:=by
  intro b o hb
  induction vs with
  | nil=>rfl
  | cons v vs a=>
   show fX _ v.1 v.2 b=_;rw[ie (aF hb (hn v List.mem_cons_self).1)];exact a λu hu=>hn u (List.mem_cons_of_mem _ hu)
 refine⟨λb o hb _=>s _ _ hb,λb o hb=>⟨o,s _ _ hb⟩,tg,?_⟩;clear tg
 induction vs with
 | nil=>exact w.same s
 | cons v vs a=>
  obtain⟨o,c⟩:=(hn v List.mem_cons_self).2;exact Zcg (a λu hu=>hn u (List.mem_cons_of_mem _ hu)) c
end
section
variable {K:aB}{X:Cs}{H:Hp}{Q:VK}{E:XK}{n:ν}{bk ct:ν}
theorem Gp{p ki hl0:AI}{room:Int}(T:lK K X)(q:u6 X p room ki hl0 H Q):
  qI K X.D X.H X.S (Ld X.D) (Lb X.H) (yg X.S) ⟨λ_ H'=>Q .non H',Q,bk,ct⟩ [↑p,some (.int room),↑ki,↑hl0] H:=by
 obtain⟨f,T0,s,lk,w,t,ts,hands,hp,wt0,s0,kd,tki,tlk,nki,P,oh0,al,hn,hQ⟩:=q;have x0:WT H (fX T0 p (s,0)):=Zcg wt0 hp;have tp:fX T0 p (s,0) p=(s,0):=eX;have U:∀b o,H b=some o->b≠p->fX T0 p (s,0) b=T0 b:=λb _ _ hb=>ie hb;generalize hT:fX T0 p (s,0)=Ta at x0 tp U;unfold qI;ext;intro hq dh nh ndh neh;refine⟨hq,room,rfl,dh,aq,λca H1 l J L k1=>⟨rfl,?_⟩⟩;have Zrr:H ca=none:=by
  by_cases z:ca=hq
  ·rw[z,aq]at l;cases l
  ·rw[aC z]at l
   by_cases y:ca=dh
   ·rw[y,aq]at l;cases l
   ·rw[aC y]at l;exact l
 have sm1:aY H H1:=λb o hb=>k1 b o (by rw[aC (aF hb nh),aC (aF hb ndh)];exact hb) (aF hb nh);have e1:Ex p H H1 Ta _:=Ex.news (vs:=[(hq,(s,1)),(ca,(s,2))]) x0 sm1 (by
  intro v hv;simp only[List.mem_cons,List.not_mem_nil,or_false]at hv;rcases hv with rfl | rfl
  ·exact⟨nh,_,J⟩
  ·exact⟨Zrr,_,L⟩)
 have nhc:hq≠ca:=lg J L aS;have th1:([(hq,(s,1)),(ca,(s,2))].foldr cx Ta) hq=(s,1):=eX;have tc1:([(hq,(s,1)),(ca,(s,2))].foldr cx Ta) ca=(s,2):=(ie nhc.symm).trans eX;generalize ([(hq,(s,1)),(ca,(s,2))]:List (AI×(Nat×Nat))).foldr cx Ta=Tb at e1 th1 tc1;have hp1:=sm1 _ _ hp;have nph:hq≠p:=λz=>by rw[z,hp]at nh;cases nh
 have npc:ca≠p:=λz=>by rw[z,hp]at Zrr;cases Zrr
 clear k1 l;exists p,X.W,f,[],rfl,hp1,T.cW,T.Bv,ε;have e2:=e1.trans (Ex.Zj7 (o:=.ins X.W f bd) e1.wt hp1);have g2:upd H1 p (.ins X.W f bd) p=some (.ins X.W f bd):=aq;have J:=(aC (o:=.ins X.W f bd) nph).trans J;have L:=(aC (o:=.ins X.W f bd) npc).trans L;generalize upd H1 p (.ins X.W f bd)=H2 at e2 g2 J L ⊢;apply⟨p,X.W,f,_,rfl,g2,T.cW,T.nWk,by show 1<1000;decide,?_⟩;have e3:=e2.trans (Ex.Zj7 (o:=.ins X.W f (bZ "kind" (.ref ki) bd)) e2.wt g2);have g3:upd H2 p (.ins X.W f (bZ "kind" (.ref ki) bd)) p=some (.ins X.W f (bZ "kind" (.ref ki) bd)):=aq;have J:=(aC (o:=.ins X.W f (bZ "kind" (.ref ki) bd)) nph).trans J;have L:=(aC (o:=.ins X.W f (bZ "kind" (.ref ki) bd)) npc).trans L;generalize upd H2 p (.ins X.W f (bZ "kind" (.ref ki) bd))=H3 at e3 g3 J L ⊢;generalize M:(bZ "kind" (.ref ki) bd)=u at g3 ⊢;have lF3:u.length=2:=by rw[<- M];rfl
 have N:H3 hl0=some (.lst bP):=e3.kp _ _ oh0 (λz=>by rw[z,hp]at oh0;cases oh0);have ltl:ts.length=hands.length:=al.length;have Zw7:∀(i:Nat) a,ts[i]? =some a->∃m,hands[i]? =some m/\H3 a=some (.tup [.str m.1,.int m.2])/\0<=m.2/\m.2<=1000:=λi a ha=>by
  have hl:i<hands.length:=by rw[<- ltl];exact(cP ha).1
  obtain⟨a',ha',z1,F,z3⟩:=al.get (bK hl);rw[ha]at ha';cases ha';exact⟨_,bK hl,e3.kp _ _ z1 (λz=>by rw[z,hp]at z1;cases z1),F,z3⟩
 have lo:=e3.wt;apply⟨_,rfl,⟨_,bU.of N⟩,Zfz ?_⟩;refine⟨λi m ys Hx=>i<=ts.length/\m=ts.length - i/\∃(hs:List (AI×AI)) (Tx:Tg),ys=hs.map (λq=>V.ref q.1)/\hs.length=i/\aY H3 Hx/\Ex p H3 Hx Tb Tx/\∀(j:Nat) q m,hs[j]? =some q->hands[j]? =some m->HdO X.D Hx Tx s j q (m.1,List.replicate m.2.toNat none)/\q.1≠p/\q.2≠p,
  ⟨ts.length,Nat.zero_le _,rfl,[],Tb,rfl,rfl,aY.refl _,⟨λ_ _ h _=>h,λ_ o h=>⟨o,h⟩,λ_ _ _=>rfl,lo⟩,λj q m e=>by simp at e⟩,?_⟩
 rintro i m ys Hx ⟨hi,rfl,hs,Tx,rfl,hl,sx,ex,hds⟩
 by_cases hk:i=ts.length
 ·refine .inl ⟨⟨_,bU.of (sx _ _ N),by rw[aU];omega⟩,λd B=>?_⟩;have Zzn:H3 d=none:=sx.free B;have s4:=aK B (.lst (hs.map λq=>V.ref q.1));have e4:Ex p Hx _ Tx _:=Ex.news (p:=p) (vs:=[(d,(s,5))]) ex.wt s4 (by
   intro v hv;rw[List.mem_singleton.mp hv];exact⟨B,_,aq⟩)
  have t4:([(d,(s,5))].foldr cx Tx) d=(s,5):=eX;have o4:upd Hx d (.lst (hs.map λq=>V.ref q.1)) d=some (.lst (hs.map λq=>V.ref q.1)):=aq;have E:=sx _ _ g3;have nhp:d≠p:=λz=>by rw[z,E]at B;cases B
  have hp4:=s4 _ _ E;generalize upd Hx d (.lst (hs.map λq=>V.ref q.1))=H4 at s4 e4 o4 hp4 ⊢;generalize ([(d,(s,5))]:List (AI×(Nat×Nat))).foldr cx Tx=T4 at e4 t4;apply⟨p,X.W,f,_,rfl,hp4,T.cW,T.nWd,by rw[lF3];decide,?_⟩;have e5:=Ex.Zj7 (p:=p) (o:=.ins X.W f (bZ "hands" (.ref d) u)) e4.wt hp4;have hp5:upd H4 p (.ins X.W f (bZ "hands" (.ref d) u)) p=some (.ins X.W f (bZ "hands" (.ref d) u)):=aq;generalize upd H4 p (.ins X.W f (bZ "hands" (.ref d) u))=H5 at e5 hp5 ⊢;ext;intro nm Y;have nnp:nm≠p:=λz=>by rw[z,hp5]at Y;cases Y
  have s6:=aK Y (.dK []);have e6:Ex p H5 _ T4 _:=Ex.news (p:=p) (vs:=[(nm,(s,6))]) e5.wt s6 (by
   intro v hv;rw[List.mem_singleton.mp hv];exact⟨Y,_,aq⟩)
  have t6:([(nm,(s,6))].foldr cx T4) nm=(s,6):=eX;have o6:upd H5 nm (.dK []) nm=some (.dK []):=aq;have hp6:=s6 _ _ hp5;generalize upd H5 nm (.dK [])=H6 at s6 e6 o6 hp6 ⊢;generalize ([(nm,(s,6))]:List (AI×(Nat×Nat))).foldr cx T4=T6 at e6 t6;apply⟨p,X.W,f,_,rfl,hp6,T.cW,T.nWn,by rw[<- M];show 3<1000;decide,?_⟩;have e7:=Ex.Zj7 (p:=p) (o:=.ins X.W f be) e6.wt hp6;have O:upd H6 p (.ins X.W f be) p=some (.ins X.W f be):=aq;generalize upd H6 p (.ins X.W f be)=H7 at e7 O ⊢;ext;intro sw ds C nds nes;refine⟨sw,rfl,ds,aq,λgr H8 n b1 b2 k8=>⟨rfl,?_⟩⟩;have Zrp:H7 gr=none:=by
   by_cases z:gr=sw
   ·rw[z,aq]at n;cases n
   ·rw[aC z]at n
    by_cases y:gr=ds
    ·rw[y,aq]at n;cases n
    ·rw[aC y]at n;exact n
  have s8:aY H7 H8:=λb o hb=>k8 b o (by rw[aC (aF hb C),aC (aF hb nds)];exact hb) (aF hb C);have e8:Ex p H7 H8 T6 _:=Ex.news (p:=p) (vs:=[(sw,(s,7)),(gr,(s,8))]) e7.wt s8 (by
   intro v hv;simp only[List.mem_cons,List.not_mem_nil,or_false]at hv;rcases hv with rfl | rfl
   ·exact⟨C,_,b1⟩
   ·exact⟨Zrp,_,b2⟩)
  have nsg:sw≠gr:=lg b1 b2 aS;have ts8:([(sw,(s,7)),(gr,(s,8))].foldr cx T6) sw=(s,7):=eX;have tg8:([(sw,(s,7)),(gr,(s,8))].foldr cx T6) gr=(s,8):=(ie nsg.symm).trans eX;generalize ([(sw,(s,7)),(gr,(s,8))]:List (AI×(Nat×Nat))).foldr cx T6=T8 at e8 ts8 tg8;have hp8:=s8 _ _ O;have nsp:sw≠p:=λz=>by rw[z,O]at C;cases C
  have ngp:gr≠p:=λz=>by rw[z,O]at Zrp;cases Zrp
  clear k8 n;apply⟨p,X.W,f,_,rfl,hp8,T.cW,T.P0,by rw[<- M];show 4<1000;decide,?_⟩;have e9:=Ex.Zj7 (p:=p) (o:=.ins X.W f (bZ "sweeper" (.ref sw) be)) e8.wt hp8;have hp9:upd H8 p (.ins X.W f (bZ "sweeper" (.ref sw) be)) p=some (.ins X.W f (wu hq ki d nm sw)):=by
   rw[aq,<- M,Zgy]
  generalize upd H8 p (.ins X.W f (bZ "sweeper" (.ref sw) be))=H9 at e9 hp9 ⊢;have Z:=e9;have f69:=e7.trans (e8.trans e9);have f49:=e5.trans (e6.trans f69);have A:=e4.trans f49;have I:=ex.trans A;have g:=e3.trans I;obtain⟨⟨dk,ok⟩,⟨dl,ol⟩⟩:=kd;have hlk:∃o,H lk=some o:=by
   rcases ol with ⟨_,z⟩ | ⟨_,z⟩ | ⟨_,z⟩
   ·exact⟨_,z⟩
   ·exact⟨_,z⟩
   ·exact⟨_,z⟩
  obtain⟨olk,elk⟩:=hlk;refine hQ H9 T8 ⟨p,hq,ca,ki,lk,d,nm,sw,gr,hs,[],[]⟩ g.kp (λb o hb nb=>(g.tg b o hb).trans (U b o hb nb)) g.wt rfl ⟨⟨(g.tg _ _ hp).trans tp,(g.tg _ _ ok).trans ((U _ _ ok nki).trans tki),(g.tg _ _ elk).trans ((U _ _ elk P).trans tlk),(f49.tg _ _ o4).trans t4,⟨f,hp9⟩,⟨dk,g.kp _ _ ok nki⟩,⟨dl,?_⟩,f49.kp _ _ o4 nhp⟩,
   ⟨(I.tg _ _ J).trans th1,(I.tg _ _ L).trans tc1,⟨dh,I.kp _ _ J nph⟩,I.kp _ _ L npc⟩,⟨(f69.tg _ _ o6).trans t6,f69.kp _ _ o6 nnp,.nil⟩,
   ⟨(Z.tg _ _ b1).trans ts8,(Z.tg _ _ b2).trans tg8,⟨ds,Z.kp _ _ b1 nsp⟩,Z.kp _ _ b2 ngp⟩,⟨?_,by show hs.length<=30;rw[hl,hk,ltl];exact hn,?_⟩,⟨rfl,λi q c z=>by simp at z⟩⟩
  ·rcases ol with ⟨z,y⟩ | ⟨z,y⟩ | ⟨z,y⟩
   ·exact .inl ⟨z,g.kp _ _ y P⟩
   ·exact .inr (.inl ⟨z,g.kp _ _ y P⟩)
   ·exact .inr (.inr ⟨z,g.kp _ _ y P⟩)
  ·show hs.length=(hands.map _).length;rw[aU,hl,hk,ltl]
  ·intro j q m z1 F;have F:(hands.map λm=>(m.1,List.replicate m.2.toNat none))[j]? =some m:=F;rw[cz]at F;obtain⟨m0,y1,rfl⟩:=Option.map_eq_some_iff.mp F;obtain⟨⟨u1,u2,⟨du,u3⟩,u4⟩,v1,v2⟩:=hds j q m0 z1 y1;exact⟨(A.tg _ _ u3).trans u1,(A.tg _ _ u4).trans u2,⟨du,A.kp _ _ u3 v1⟩,A.kp _ _ u4 v2⟩
 ·have R:i<ts.length:=δ
  refine .inr ⟨⟨_,_,bU.of (sx _ _ N),by rw[cz,bK R];rfl⟩,?_,λx H' y=>?_⟩
  ·rw[aU,hl];exact Nat.lt_of_lt_of_le R (aR δ)
  obtain⟨y1,y2⟩:=y;subst y1;have ey:=y2 _ (bU.of (sx _ _ N));rw[cz,bK R]at ey;have ey:x=.ref ts[i]:=(Option.some.inj ey).symm;subst ey;obtain⟨m,hm,ot,m0,m1⟩:=Zw7 i _ (bK R);refine sE (Zdx ⟨ts[i],.str m.1,.int m.2,_,rfl,dB.of (sx _ _ ot),?_⟩);walk_at"c";ext;intro q1 dq nq ndq neq;refine⟨q1,m.1,m.2,rfl,dq,aq,m0,m1,λsa Hy r b1 b2 k=>⟨rfl,?_⟩⟩;have Zrl:H' sa=none:=by
   by_cases z:sa=q1
   ·rw[z,aq]at r;cases r
   ·rw[aC z]at r
    by_cases y:sa=dq
    ·rw[y,aq]at r;cases r
    ·rw[aC y]at r;exact r
  have sy:aY H' Hy:=λb o hb=>k b o (by rw[aC (aF hb nq),aC (aF hb ndq)];exact hb) (aF hb nq);have ey:Ex p H' Hy Tx _:=Ex.news (p:=p) (vs:=[(q1,(s,20+2 * i)),(sa,(s,21+2 * i))]) ex.wt sy (by
   intro v hv;simp only[List.mem_cons,List.not_mem_nil,or_false]at hv;rcases hv with rfl | rfl
   ·exact⟨nq,_,b1⟩
   ·exact⟨Zrl,_,b2⟩)
  have nqs:q1≠sa:=lg b1 b2 aS;have E:=sx _ _ g3;refine⟨ts.length - de,δ,δ,rfl,hs++[(q1,sa)],_,by rw[List.map_append];rfl,by rw[List.length_append,hl];rfl,sx.trans sy,ex.trans ey,λj q m' z1 F=>?_⟩
  by_cases hj:j<hs.length
  ·rw[List.getElem?_append_left hj]at z1;obtain⟨⟨u1,u2,⟨du,u3⟩,u4⟩,v1,v2⟩:=hds j q m' z1 F;exact⟨⟨(ey.tg _ _ u3).trans u1,(ey.tg _ _ u4).trans u2,⟨du,sy _ _ u3⟩,sy _ _ u4⟩,v1,v2⟩
  ·have hj':=(cP z1).1;rw[List.length_append,List.length_singleton]at hj';have ej:j=hs.length:=δ
   subst ej;rw[List.getElem?_append_right Δ,Nat.sub_self]at z1;cases z1;rw[hl]at F ⊢;rw[hm]at F;cases F;exact⟨⟨eX,(ie nqs.symm).trans eX,⟨dq,b1⟩,by rw[b2,List.map_replicate];rfl⟩,(λz=>by rw[show q1=p from z,E]at nq;cases nq),(λz=>by rw[show sa=p from z,E]at Zrl;cases Zrl)⟩
end
def xg(M:Wm)(i:Int)(c:Ce):Str:=if M.sw.phase="rest" then "kept" else if M.sw.phase="give" then(if c.tone=M.sw.sense then "kept" else "doomed")else if c.tone=M.sw.sense then(if i∈M.sw.grey then "grey" else "dark")else "pale"
def gM(M:Wm):List (Int×Ce):=(List.range M.cells.length).filterMap λ(i:Nat)=>((M.cells[i]?).join).map λc=>((i:Int),c)
inductive HW(X:Cs)(wo:AI)(i:Int)(H:Hp)(Q:VK):Prop
 | mk (T s A M c) (_:WJ X H T s A M) (_:A.wo=wo) (_:0<=i) (_:M.cells[i.toNat]? =some (some c)) (_:Q (.str (xg M i c)) H):HW X wo i H Q
def W3(X:Cs):Sp:=λvs H Q E=>∃wo i,vs=[.ref wo,.int i]/\HW X wo i H Q
def TcO(M:Wm)(H:Hp)(p:AI×AI)(t:Int×Ce):Prop:=H p.1=some (.tup [.int t.1,.int t.2.birth,.int t.2.bulk,.int t.2.load,.ref p.2,.str (xg M t.1 t.2)])/\H p.2=some (.lst ((t.2.fl.map (mU M)).map oV))
inductive xQ(X:Cs)(wo:AI)(i:Int)(H:Hp)(Q:VK):Prop
 | mk (T s A M c) (_:WJ X H T s A M) (_:A.wo=wo) (_:0<=i) (_:M.cells[i.toNat]? =some (some c)) (_:c.fl.length<=1000) (_:∀a l H',aY H H'->H a=none->H l=none->TcO M H' (a,l) (i,c)->Q (.ref a) H'):xQ X wo i H Q
def K7(X:Cs):Sp:=λvs H Q E=>∃wo i,vs=[.ref wo,.int i]/\xQ X wo i H Q
inductive Zf0(X:Cs)(wo:AI)(H:Hp)(Q:VK):Prop
 | mk (T s A M) (_:WJ X H T s A M) (_:A.wo=wo) (_:M.cells.length<=1000) (_:(∀c,some c∈M.cells->c.fl.length<=1000)) (_:∀(l:AI) (ls:AF) H',aY H H'->H' l=some (.lst (ls.map V.ref))->ls.length=(gM M).length->(∀(j:Nat) r t,ls[j]? =some r->(gM M)[j]? =some t->∃f,TcO M H' (r,f) t/\H f=none/\H r=none)->H l=none->Q (.ref l) H'):Zf0 X wo H Q
def Rp(X:Cs):Sp:=λvs H Q E=>∃wo,vs=[.ref wo]/\Zf0 X wo H Q
theorem Zk7{X:Cs}{H:Hp}{T:Tg}{s:Nat}{A:Wa}{M:Wm}(j:WJ X H T s A M):plc dt=(gM M).map (·.1):=by
 have a:∀i,i<M.cells.length->(decide ((A.cs.map pV)[i]? =some V.non)=true↔(M.cells[i]?).join=none):=λi hi=>by
  rw[decide_eq_true_iff,cz];cases hc:M.cells[i]? with
  | none=>rw[List.getElem?_eq_none_iff]at hc;omega
  | some y=>cases y with
   | none=>rw[j.jc.at0 hc];simp[pV]
   | some c=>
    obtain⟨p,hp,_⟩:=j.jc.at hc;rw[hp];simp[pV]
 unfold plc gM;rw[aU,j.jc.lc];generalize hn:M.cells.length=n at a;clear hn
 induction n with
 | zero=>rfl
 | succ n b=>
  rw[List.range_succ,List.filter_append,List.map_append,List.filterMap_append,List.map_append,b λi hi=>a i δ];congr 1;have k:=a n δ;cases hc:(M.cells[n]?).join with
  | none=>
   have:decide ((A.cs.map pV)[n]? =some V.non)=true:=k.mpr hc;simp only[List.filter_cons,this,Bool.not_true,List.filter_nil,List.filterMap_cons,hc,Option.map_none,List.filterMap_nil];rfl
  | some c=>
   have:decide ((A.cs.map pV)[n]? =some V.non)=false:=by
    cases hd:decide ((A.cs.map pV)[n]? =some V.non)with
    | false=>rfl
    | true=>rw[k.mp hd]at hc;cases hc
   simp only[List.filter_cons,this,Bool.not_false,List.filter_nil,List.filterMap_cons,hc,Option.map_some,List.filterMap_nil];rfl
theorem Zfe{M:Wm}{j:Nat}{t:Int×Ce}(h:(gM M)[j]? =some t):0<=t.1/\M.cells[t.1.toNat]? =some (some t.2):=by
 have hm:=List.mem_of_getElem? h;unfold gM at hm;obtain⟨i,hi,e⟩:=List.mem_filterMap.mp hm;obtain⟨c,hc,rfl⟩:=Option.map_eq_some_iff.mp e;refine⟨by show(0:Int)<=(i:Nat);omega,?_⟩;show M.cells[((i:Nat):Int).toNat]? =some (some c);rw[Int.toNat_natCast];cases hx:M.cells[i]? with
 | none=>rw[hx]at hc;cases hc
 | some y=>rw[hx]at hc;rw[show y=some c from hc]
section
variable {K:aB}{X:Cs}{H:Hp}{Q:VK}{E:XK}{n:ν}{bk ct:ν}
theorem Zbm{i:Int}{l:AE}:inV (.int i) (l.map V.int)=decide (i∈l):=by
 unfold inV
 induction l with
 | nil=>rfl
 | cons a l b=>
  rw[List.map_cons,List.any_cons,b]
  by_cases e:i=a
  ·subst e;simp[Wz]
  ·have c:¬ a=i:=λz=>e z.symm;simp[Wz,e,c]
theorem Zdo{wo:AI}{i:Int}(T:lK K X)(q:HW X wo i H Q):N6 K (gW X) ξ [↑wo,some (.int i),none,none] H:=by
 obtain⟨Tg,s,A,M,c,j,rfl,b,hc,q⟩:=q;obtain⟨d1,ow⟩:=j.jb.ow;obtain⟨d2,os⟩:=j.js.os;obtain⟨th,tc,⟨d3,oh⟩,oc⟩:=j.jh;obtain⟨p,hp,ce⟩:=j.jc.at hc;unfold N6;apply aH ow T.cW T.P0 aZ ?_;apply aH ow T.cW T.Bv aW ?_;refine aH oh T.c.cL T.c.bO bN ?_;apply fL (bU.of oc) (lY (v:=.ref p.1) b (by rw[cz,hp];rfl)) ?_;exists _,_,rfl,Tg,s,A,M,_,p,c,j.w0,rfl,ce,rfl;apply aH os T.cS T.n2 eN ?_;ext;unfold xg at q;refine su da da
 ·rw[if_pos z]at q;apply q
 ·rw[if_neg z]at q;apply aH os T.cS T.n2 eN ?_;apply su (λy=>?_) (λy=>?_)
  ·rw[if_pos y]at q;apply su (λx=>?_) (λx=>?_)
   ·rw[if_pos x]at q;apply q
   ·rw[if_neg x]at q;apply q
  ·rw[if_neg y]at q;apply uQ (λx=>?_) (λx=>?_)
   ·rw[if_neg x]at q;apply q
   ·rw[if_pos x]at q;apply aH os T.cS T.n3 lM ?_;refine⟨_,_,rfl,.inl (bU.of j.js.og),rfl,?_,?_⟩
    ·rw[List.all_map,List.all_eq_true];intro a _;rfl
    rw[if_neg ε,Zbm];apply su (λy=>?_) (λy=>?_)
    ·rw[if_pos y]at q;apply q
    ·rw[if_neg y]at q;apply q
theorem W8{wo:AI}{i:Int}(T:lK K X)(q:xQ X wo i H Q):
  De K (oA X) (W3 X) ξ [↑wo,some (.int i),none,none] H:=by
 obtain⟨Tg,s,A,M,c,j,rfl,f,hc,hl,q⟩:=q;obtain⟨d1,ow⟩:=j.jb.ow;obtain⟨th,tc,⟨d3,oh⟩,oc⟩:=j.jh;obtain⟨p,hp,ce⟩:=j.jc.at hc;obtain⟨t1,t2,⟨h,o1⟩,o2⟩:=id ce;unfold De;apply aH ow T.cW T.Bv aW ?_;refine aH oh T.c.cL T.c.bO bN ?_;apply fL (bU.of oc) (lY (v:=.ref p.1) f (by rw[cz,hp];rfl)) ?_;apply aH ow T.cW T.Bv aW ?_;apply aH o1 T.c.cY T.c.fH gK ?_;apply⟨_,_,rfl,Tg,s,A,M,c.fl,j,rfl,o2,hl,λl nl=>?_⟩;generalize zz:upd H l _=H1;obtain⟨b,g⟩:=nwO nl zz;apply aH (b _ _ o1) T.c.cY T.c.dR eF ?_;apply aH (b _ _ o1) T.c.cY T.c.nU An ?_;apply aH (b _ _ o1) T.c.cY T.c.jG sG ?_;exists _,_,rfl,Tg,s,A,M,c,j.same b,rfl,f,hc;apply⟨aR ζ,λa e=>?_⟩;have d:=aK e (.tup [.int i,.int c.birth,.int c.bulk,.int c.load,.ref l,.str (xg M i c)]);exact q a l _ (b.trans d) (b.free e) nl ⟨aq,d _ _ g⟩
theorem RJ{wo:AI}(T:lK K X)(q:Zf0 X wo H Q):
  zp K X.H (pD X.H) (K7 X) ξ [↑wo] H:=by
 obtain⟨Tg,s,A,M,j,rfl,hc,J,q⟩:=q;obtain⟨d1,ow⟩:=j.jb.ow;obtain⟨th,tc,⟨d3,oh⟩,oc⟩:=j.jh;have hl:(gM M).length<=1000:=by
  have:=List.length_filterMap_le (λ(i:Nat)=>((M.cells[i]?).join).map λc=>((i:Int),c)) (List.range M.cells.length);rw[List.length_range]at this;exact Nat.le_trans this hc
 unfold zp;apply uh ?_;apply aH ow T.cW T.Bv aW ?_;refine⟨A.hp,d3,_,rfl,oh,xM,?_⟩;apply⟨_,rfl,_,_,_,_,_,j.hpO,by rw[aU,j.jc.lc];exact hc,λl0 o=>?_⟩;rw[Zk7 j];generalize zz:upd H l0 _=I;obtain⟨g,B⟩:=nwO o zz;refine⟨_,rfl,⟨_,bU.of B⟩,?_⟩;refine Qj (bU.of B) (by rw[aU,aU];omega) (λi r O=>∃t f,(gM M)[i]? =some t/\TcO M O (r,f) t/\H f=none) (by rintro _ _ _ _ ⟨t,f,e,⟨z1,w⟩,v⟩ s;exact⟨t,f,e,⟨s _ _ z1,s _ _ w⟩,v⟩) (by rintro _ _ _ ⟨_,_,_,⟨z,_⟩,_⟩;exact⟨_,z⟩) (λx I q hq=>sE hq) (λi x R hi b S hq=>?_) ?_
 ·rw[cz,cz]at hi;cases m:(gM M)[i]? with
  | none=>rw[m]at hi;cases hi
  | some t=>
   rw[m]at hi;cases hi;obtain⟨N,h⟩:=Zfe m;walk_at"c";apply⟨_,_,rfl,Tg,s,A,M,t.2,j.same (g.trans b),rfl,N,h,J _ (List.mem_of_getElem? h),λa l L d F nl u=>?_⟩;exact hq a L d F ⟨t,l,m,u,(g.trans b).free nl⟩
 ·intro rs P b y _ E hr p hp;have d:=aK hp (.lst (rs.map V.ref));refine q p rs _ (g.trans (b.trans d)) aq (by rw[y,aU,aU]) (λk r t C D=>?_) (g.free (b.free hp));obtain⟨U,f,e3,⟨z1,w⟩,v⟩:=hr k r C;rw[D]at e3;cases e3;exact⟨f,⟨d _ _ z1,d _ _ w⟩,v,g.free (E r (List.mem_of_getElem? C))⟩
end
section
variable {K:aB}{X:Cs}{H:Hp}{Q:VK}{E:XK}{T:Tg}{s:Nat}{A:Wa}{M:Wm}
theorem Zih{i:Nat}{c:Ce}(j:WJ X H T s A M)(w:WT H T)(p:s≠0)(hc:M.cells[i]? =some (some c))
  (k:∀H' h,dZ s H H' T T->WJ X H' T s h { M with used:=M.used - (1+c.fl.length+c.bulk),cells:=M.cells.set i none }->h.wo=A.wo->Q (.int c.birth) H'):
  yj X.C X.H [.ref A.hp,.int i] H Q E:=by
 obtain⟨th,tc,⟨l,oh⟩,oc⟩:=j.jh;obtain⟨g,f,ce⟩:=j.jc.at hc;obtain⟨_,_,⟨n,o1⟩,d⟩:=id ce;have hl:=(cP hc).1;refine⟨A.hp,i,rfl,A.ca,l,M.room,M.used,M.born,A.cs.map pV,g.1,g.2,c.birth,c.bulk,c.tone,c.load,c.fl.map oV,δ,oh,oc,by rw[Int.toNat_natCast,cz,f];rfl,⟨⟨n,o1⟩,d⟩,?_⟩;rw[Int.toNat_natCast,aU];have e:A.hp≠A.ca:=lg oh oc aS;obtain⟨a,m⟩:=j.back w p (i:=i) (used':=M.used - (1+c.fl.length+c.bulk)) (by rw[j.jc.lc];exact hl) (upd (upd H A.hp (.ins X.H l (iJ M.room A.ca (M.used - (1+c.fl.length+c.bulk)) M.born))) A.ca (.lst ((A.cs.map pV).set i V.non)))
  (λb o hb n1 n2=>by rw[aC n2,aC n1];exact hb) (by rw[aC e];exact aq) aq
 exact k _ _ a m rfl
end
def heldOf(M:Wm):List Au:=M.hands.map (·.2)
inductive Zf2(X:Cs)(wo:AI)(H:Hp)(Q:VK):Prop
 | mk (T s A M) (_:WJ X H T s A M) (_:A.wo=wo) (_:M.hands.length<=1000) (_:∀(l:AI) (ls:AF) H',aY H H'->H l=none->H' l=some (.lst (ls.map V.ref))->ls.length=(heldOf M).length->ls.Nodup->(∀r∈ls,H r=none)->l∉ls->(∀(j:Nat) r x,ls[j]? =some r->(heldOf M)[j]? =some x->H' r=some (.lst (x.map oV)))->Q (.ref l) H'):Zf2 X wo H Q
def Zn8(X:Cs):Sp:=λvs H Q E=>∃wo,vs=[.ref wo]/\Zf2 X wo H Q
section
variable {K:aB}{X:Cs}{H:Hp}{Q:VK}{E:XK}{n:ν}{bk ct:ν}
theorem Zp5{wo:AI}(T:lK K X)(q:Zf2 X wo H Q):
  Xr K ξ [↑wo] H:=by
 obtain⟨Tg,s,A,M,j,rfl,hl,q⟩:=q;obtain⟨h,ow⟩:=j.jb.ow;unfold Xr;apply uh ?_;apply aH ow T.cW T.nWd dD ?_;have l5:=j.jd.l5;refine⟨_,rfl,⟨_,bU.of j.jb.on⟩,?_⟩;refine Qj (bU.of j.jb.on) (by rw[aU];omega) (λi r v=>∃x,(heldOf M)[i]? =some x/\v r=some (.lst (x.map oV))) (by rintro _ _ _ _ ⟨x,e,z⟩ s;exact⟨x,e,s _ _ z⟩) (by rintro _ _ _ ⟨_,_,z⟩;exact⟨_,z⟩) (λx o q hq=>sE hq) (λi x o hi a B hq=>?_) ?_
 ·rw[cz]at hi;obtain⟨p,hp,rfl⟩:=Option.map_eq_some_iff.mp hi;have g:=j.same a;obtain⟨m,hm,hd⟩:=g.hand hp;obtain⟨h,o1⟩:=hd.o1;walk_at"c";apply aH o1 T.cD T.nDs lX ?_;apply YQ (bU.of hd.o2) λl hl=>?_;exact hq l _ (aK hl _) hl ⟨_,by unfold heldOf;rw[cz,hm];rfl,aq⟩
 ·intro rs w a hl nd f hr p hp;have b:=aK hp (.lst (rs.map V.ref));refine q p rs _ (a.trans b) (a.free hp) aq ?_ nd f da λt r x u d=>?_
  ·rw[hl,aU];unfold heldOf;rw[aU,j.jd.lh]
  ·obtain⟨k,hk,e⟩:=List.getElem_of_mem z;obtain⟨_,_,c⟩:=hr k p (by rw[bK hk,e]);rw[hp]at c;cases c
  ·obtain⟨y,e3,z⟩:=hr t r u;rw[d]at e3;cases e3;exact b _ _ z
end
def dH(w:Int)(h:Nat):Int:=if w=0 then 2 ^ h - 1 else 0
def fj(M:Wm):Wm:={ M with sw:={ M.sw with sense:=1 - M.sw.sense,phase:="walk",grey:=[],looked:=dH M.w M.hands.length,turn:=M.sw.turn+1,walks:=0,looks:=0,passes:=0 } }
def RB:Sp:=λvs H Q E=>∃h,vs=[.int h]/\0<=h/\h<=30/\Q (.int (2 ^ h.toNat - 1)) H
def vg(k:Nat):Sp:=λvs H Q E=>∃a h,vs=[.ref a,.int h]/\0<=h/\h<=30/\Q (.int (if k=0 then 2 ^ h.toNat - 1 else 0)) H
inductive Zw(X:Cs)(wo:AI)(H:Hp)(Q:VK):Prop
 | mk (T s A M) (_:WT H T) (_:s≠0) (_:WJ X H T s A M) (_:A.wo=wo) (_:∀H' T' A',dZ s H H' T T'->WJ X H' T' s A' (fj M)->A'.wo=wo->Q .non H'):Zw X wo H Q
def Zgt(X:Cs):Sp:=λvs H Q E=>∃wo,vs=[.ref wo]/\Zw X wo H Q
section
variable {X:Cs}{H H':Hp}{T T':Tg}{s:Nat}{A:Wa}{M:Wm}
theorem WJ.Zoh(j:WJ X H T s A M)(w:WT H T)(k:s≠0){dx l:AI}(S:Sw)(hl:H l=none)(B:S.grey=[]):
  dZ s H br T (fX T l (s,8))/\
  WJ X br (fX T l (s,8)) s { A with gr:=l } { M with sw:=S }:=by
 obtain⟨ts,tg,⟨P,os⟩,og⟩:=id j.js;have g:l≠A.sw:=(aF os hl).symm;have i:WT eB (fX T l (s,8)):=Zcg (w.same (aK hl _)) aq;have e:dZ s H eB T (fX T l (s,8)):=⟨λb o h _=>(aK hl _) _ _ h,λb o h=>⟨o,(aK hl _) _ _ h⟩,λb o h=>ie (aF h hl),i⟩;have c:WJ X eB (fX T l (s,8)) s A M:=j.fresh hl;obtain⟨a,J,⟨p,d⟩,L⟩:=id c.js;refine⟨e.trans (dZ.upd i d (by rw[a])),?_⟩;have f:rF s (·=7) eB br (fX T l (s,8)) (fX T l (s,8)):=rF.wY a;have y:=c.jb.mv f (kY k a) δ δ;have v:=c.jh.mv f δ δ;have I:=c.jn.mv f (kY k a) δ;have N:=c.jd.mv f λ_ _ _=>δ
 have F:=c.jc.mv f λ_ _=>δ
 obtain⟨q,x,D,n,C,E,O,r⟩:=y;obtain⟨y1,t,m,K⟩:=v;obtain⟨z1,z,u⟩:=I;exact⟨⟨q,x,D,n,C,E,O,r⟩,⟨y1,t,m,K⟩,⟨z1,z,u⟩,⟨a,eX,⟨dx,aq⟩,by rw[aC g,aq,B];rfl⟩,N,F⟩
end
section
variable {K:aB}{X:Cs}{H:Hp}{Q:VK}{E:XK}{n:ν}{bk ct:ν}
theorem Zqo{j:Int}(a:0<=j)(h1:j<=1000):ZM 1 j:=⟨a,δ,ε⟩
theorem Ziz{h:Int}(q:0<=h/\h<=30/\Q (.int (2 ^ h.toNat - 1)) H):Vo ξ [some (.int h)] H:=by
 obtain⟨a,h1,q⟩:=q;unfold Vo;exists _,_,rfl,rfl,Zqo a δ;ext;rw[Int.one_mul];exact q
theorem yR{a:AI}{h:Int}(q:0<=h/\h<=30/\Q (.int (if (1:Nat)=0 then 2 ^ h.toNat - 1 else 0)) H):oO ξ [↑a,some (.int h)] H:=by
 unfold oO;apply q.2.2
theorem Gv{a:AI}{h:Int}(q:0<=h/\h<=30/\Q (.int (if (0:Nat)=0 then 2 ^ h.toNat - 1 else 0)) H):qK RB ξ [↑a,some (.int h)] H:=by
 obtain⟨b,h1,q⟩:=q;unfold qK;apply⟨h,rfl,b,h1,q⟩
theorem Zn1{wo:AI}(c:lK K X)(q:Zw X wo H Q):
  Za6 K X.E X.F X.L (vg 0) (vg 1) ⟨λ_ H'=>Q .non H',Q,bk,ct⟩ [↑wo,none] H:=by
 obtain⟨T,s,A,M,w,R,j,rfl,q⟩:=q;obtain⟨U,ow⟩:=j.jb.ow;obtain⟨g,os⟩:=j.js.os;obtain⟨dk,ok⟩:=j.jb.ok;obtain⟨dl,ol⟩:=j.jb.ol;have on:=j.jb.on;have lh:=j.jd.lh;have l5:=j.jd.l5;unfold Za6;apply aH ow c.cW c.P0 aZ ?_;apply aH os c.cS c.n1 kE ?_;apply⟨A.sw,X.S,g,_,rfl,os,c.cS,c.n1,by show 11<1000;decide,?_⟩;rw[GJ];apply aH aq c.cS c.n5 pJ ?_;apply⟨A.sw,X.S,g,_,rfl,aq,c.cS,c.n5,by show 11<1000;decide,?_⟩;rw[Lh,dF];apply⟨A.sw,X.S,g,_,rfl,aq,c.cS,c.n2,by show 11<1000;decide,?_⟩;rw[jL,dF];apply⟨ε,λgr n=>?_⟩;have u:A.sw≠gr:=aF aq n;have B:H gr=none:=by rw[aC u.symm]at n;exact n
 apply⟨A.sw,X.S,g,_,rfl,by rw[aC u];exact aq,c.cS,c.n3,by show 11<1000;decide,?_⟩;rw[Ln];have D:∀(a b:HO) (o:HO),upd (upd (upd H A.sw a) gr o) A.sw b=upd (upd H gr o) A.sw b:=λa b o=>by
  funext x
  by_cases z:x=A.sw
  ·rw[z,aq,aq]
  ·rw[aC z,aC z]
   by_cases y:x=gr
   ·rw[y,aq,aq]
   ·rw[aC y,aC y,aC z]
 rw[D];have fin:∀{lo:Int}{I:St},I=[↑A.wo,↑A.sw]->lo=dH M.w M.hands.length->∀(t:Hp),t=upd (upd H gr (.lst [])) A.sw (.ins X.S g b7)->
   (∃a C dx fs,V.ref A.sw=.ref a/\t a=some (.ins C dx fs)/\MP K C/\cQ K C "looked"/\fs.length<1000/\(aM (eG K ψ υ "walks") (aM (eG K ψ υ "looks") (eG K ψ υ "passes"))) ⟨λ_ H'=>Q .non H',Q,bk,ct⟩ I (upd t a (.ins C dx (bZ "looked" (.int lo) fs)))):=by
  rintro lo I rfl J t rfl;refine⟨A.sw,X.S,g,_,rfl,aq,c.cS,c.n4,by show 11<1000;decide,?_⟩;rw[qF,dF];apply⟨A.sw,X.S,g,_,rfl,aq,c.cS,c.n8,by show 11<1000;decide,?_⟩;rw[sO,dF];apply⟨A.sw,X.S,g,_,rfl,aq,c.cS,c.n9,by show 11<1000;decide,?_⟩;rw[mz,dF];apply⟨A.sw,X.S,g,_,rfl,aq,c.cS,c.n10,by show 11<1000;decide,?_⟩;rw[qD,dF];obtain⟨st,P⟩:=j.Zoh w R (dx:=g) (l:=gr) { M.sw with sense:=1 - M.sw.sense,phase:="walk",grey:=[],looked:=dH M.w M.hands.length,turn:=M.sw.turn+1,walks:=0,looks:=0,passes:=0 } B rfl;subst J;exact q _ _ _ st P rfl
 have kp:∀b o,H b=some o->b≠A.sw->upd (upd H gr (.lst [])) A.sw (.ins X.S g b7) b=some o:=λb o hb O=>by
  rw[aC O,aC (aF hb B)];exact hb
 have v:∀{a:AI}{C d:AI}{fs:List (Str×V)},H a=some (.ins C d fs)->fs.length<11->a≠A.sw:=λe hl z=>by
  rw[z,os]at e;have:=Option.some.inj e
  injection this with _ _ e3
  rw[<- e3]at hl;exact absurd hl (by show ¬ 11<11;decide)
 have f:=kp _ _ ow (v ow (by show 5<11;decide));have i:=kp _ _ ok (v ok (by show 2<11;decide));have h:=kp _ _ on (lg on os aS);generalize m:upd (upd H gr (.lst [])) A.sw (.ins X.S g b7)=t at kp f i h ⊢;have k:((A.hs.map λp=>V.ref p.1).length:Int)=(M.hands.length:Int):=by rw[aU,lh]
 refine vQ ?_;left;rcases ol with ⟨N,o⟩ | ⟨N,o⟩ | ⟨N,o⟩
 ·have r:=kp _ _ o (v o (by show 0<11;decide));refine V9 ?_;left;refine aH f c.cW c.nWk iw ?_;refine aH i c.cK c.nKl jQ ?_;left;refine⟨A.lk,dl,_,rfl,r,rfl,?_⟩;left;refine aH f c.cW c.nWd dD ?_;left;refine dU (bU.of h) ?_;rw[k];left;refine⟨A.lk,_,rfl,δ,δ,?_⟩;left;exact fin rfl (by unfold dH;rw[if_pos N,if_pos rfl,Int.toNat_natCast]) _ m.symm
 ·have r:=kp _ _ o (v o (by show 0<11;decide));refine Fv (V9 ?_);left;refine aH f c.cW c.nWk iw ?_;refine aH i c.cK c.nKl jQ ?_;left;refine⟨A.lk,dl,_,rfl,r,rfl,?_⟩;left;refine aH f c.cW c.nWd dD ?_;left;refine dU (bU.of h) ?_;rw[k];left;refine⟨A.lk,_,rfl,δ,δ,?_⟩;left;exact fin rfl (by unfold dH;rw[if_neg (show ¬ (1:Nat)=0 by decide),if_neg δ]) _ m.symm
 ·have r:=kp _ _ o (v o (by show 0<11;decide));refine Fv (Fv ?_);left;refine aH f c.cW c.nWk iw ?_;refine aH i c.cK c.nKl jQ ?_;left;refine⟨A.lk,dl,_,rfl,r,rfl,?_⟩;left;refine aH f c.cW c.nWd dD ?_;left;refine dU (bU.of h) ?_;rw[k];left;refine⟨A.lk,_,rfl,δ,δ,?_⟩;left;exact fin rfl (by unfold dH;rw[if_neg (show ¬ (1:Nat)=0 by decide),if_neg δ]) _ m.symm
end
def Um(M:Wm):Bool:=decide (M.sw.phase="walk"\/M.sw.phase="lost")
def NP(M:Wm)(p b:Int):AA:=if ji M p b=true then none else match cellAt M p with
 | none=>none
 | some c=>if Um M=true/\¬ c.tone=M.sw.sense then none else some p
inductive uZ(X:Cs)(wo:AI)(H:Hp)(Q:VK):Prop
 | mk (T s A M) (_:WJ0 X H T s A M) (_:A.wo=wo) (_:∀H',aY H H'->Q (.bl (Um M)) H'):uZ X wo H Q
def Gq(X:Cs):Sp:=λvs H Q E=>∃wo,vs=[.ref wo]/\uZ X wo H Q
inductive HR(X:Cs)(wo:AI)(p:Int)(b:Int)(H:Hp)(Q:VK):Prop
 | mk (T s A M) (_:WJ0 X H T s A M) (_:A.wo=wo) (_:∀H',aY H H'->Q (oV (NP M p b)) H'):HR X wo p b H Q
def W0(X:Cs):Sp:=λvs H Q E=>∃wo p b,vs=[.ref wo,.int p,.int b]/\HR X wo p b H Q
section
variable {K:aB}{X:Cs}{H:Hp}{Q:VK}{E:XK}{n:ν}{bk ct:ν}
theorem S8{wo:AI}(T:lK K X)(q:uZ X wo H Q):zz K ξ [↑wo] H:=by
 obtain⟨Tg,s,A,M,j,rfl,q⟩:=q;obtain⟨d1,ow⟩:=j.jb.ow;obtain⟨d2,os⟩:=j.js.os;unfold zz;apply aH ow T.cW T.P0 aZ ?_;apply aH os T.cS T.n2 eN ?_;apply⟨aR ζ,λtp a=>?_⟩;generalize zz:upd H tp _=H1;obtain⟨c,d⟩:=nwO a zz;refine⟨tp,_,rfl,.inr (dB.of d),rfl,rfl,?_⟩;have q:=q H1 c;rw[show Um M=(if false=true then !inV (V.str M.sw.phase) [V.str "walk",.str "lost"]else inV (V.str M.sw.phase) [V.str "walk",.str "lost"])from by
  rw[if_neg Bool.false_ne_true];unfold Um inV
  by_cases h1:M.sw.phase="walk"
  ·simp[h1,Wz]
  ·by_cases h2:M.sw.phase="lost"
   ·simp[h2,Wz]
   ·have e:¬ ("walk":Str)=M.sw.phase:=λz=>h1 z.symm;have b:¬ ("lost":Str)=M.sw.phase:=λz=>h2 z.symm;simp[h1,h2,e,b,Wz]]at q
 exact q
theorem Zd5{wo:AI}{p b:Int}(T:lK K X)(q:HR X wo p b H Q):N5 K (Ig X) (gW X) (Gq X) ξ [↑wo,some (.int p),some (.int b)] H:=by
 obtain⟨Tg,s,A,M,j,rfl,q⟩:=q;unfold N5;exists _,_,_,rfl,Tg,s,A,M,j,rfl;have g:∀c,cellAt M p=some c->ji M p b=false->NP M p b=if Um M=true/\¬ c.tone=M.sw.sense then none else some p:=λc hc hg=>by
  unfold NP;rw[hg,if_neg Bool.false_ne_true,hc]
 cases hg:ji M p b with
 | true=>
  ext;have:=q H (aY.refl _);rw[show NP M p b=none from if_pos hg]at this;exact this
 | false=>
  apply⟨_,rfl,Tg,s,A,M,j,rfl,λo m=>?_⟩;obtain⟨c,hc⟩:∃c,cellAt M p=some c:=by
   cases e:cellAt M p with
   | none=>
    have:ji M p b=true:=by unfold ji;rw[e]
    rw[this]at hg;cases hg
   | some c=>exact⟨c,rfl⟩
  have q:=q o m;rw[g c hc hg]at q;have a:=j.same m;cases h:Um M with
  | false=>
   ext;rw[if_neg (λz=>by rw[h]at z;cases z.1)]at q;exact q
  | true=>
   ext;obtain⟨d1,ow⟩:=a.jb.ow;obtain⟨w,oh⟩:=a.jh.oh;rcases a.look (some p)with ⟨f,_⟩ | ⟨i,x,l,r,t,k,u,hp,_,ce⟩
   ·have f:cellAt M p=none:=f;rw[hc]at f;cases f
   cases r;rw[hc]at k;cases k;refine aH ow T.cW T.Bv aW ?_;apply aH oh T.c.cL T.c.bO bN ?_;apply fL (bU.of a.jh.oc) (lY (v:=.ref l.1) t (by rw[cz,hp];rfl)) ?_;exists _,_,rfl,Tg,s,A,M,_,l,c,a,rfl,ce,rfl;ext
   by_cases d:c.tone=M.sw.sense
   ·rw[if_neg (λz=>z.2 d)]at q;refine uQ (λz=>absurd d z) a4;apply q
   ·rw[if_pos ⟨h,d⟩]at q;refine uQ a4 (λz=>absurd z d);apply q
end
def pO(M:Wm):Au:=M.names.map λm=>NP M m.2.1 m.2.2
def ig(M:Wm):List Au:=heldOf M++[pO M]
inductive Zq(X:Cs)(wo:AI)(H:Hp)(Q:VK):Prop
 | mk (T s A M) (_:s≠0) (_:WJ X H T s A M) (_:A.wo=wo) (_:M.hands.length<=1000) (_:M.names.length<=1000) (_:∀(l:AI) (ls:AF) H',aY H H'->H l=none->H' l=some (.lst (ls.map V.ref))->ls.length=(ig M).length->(∀r∈ls,H r=none)->l∉ls->(∀(j:Nat) r x,ls[j]? =some r->(ig M)[j]? =some x->H' r=some (.lst (x.map oV)))->Q (.ref l) H'):Zq X wo H Q
def Zgo(X:Cs):Sp:=λvs H Q E=>∃wo,vs=[.ref wo]/\Zq X wo H Q
section
variable {K:aB}{X:Cs}{H:Hp}{Q:VK}{E:XK}{n:ν}{bk ct:ν}
theorem Zuh{T:Tg}{ns:AF}{names:List bX}(h:Al (NmO H T) ns names):∀{i:Nat}{kv:L2.Key×V},(qx names ns)[i]? =some kv->∃t m,names[i]? =some m/\kv.2=.ref t/\H t=some (.tup [.int m.2.1,.int m.2.2])/\T t=(0,0):=by
 induction h with
 | nil=>intro i kv e;simp[qx]at e
 | cons a h b=>
  intro i kv e;cases i with
  | zero=>cases e;exact⟨_,_,rfl,rfl,a.2,a.1⟩
  | succ i=>exact b (i:=i) (kv:=kv) (by simpa[qx]using e)
theorem Zjt{wo:AI}(T:lK K X)(q:Zq X wo H Q):
  Za5 K (Zn8 X) (W0 X) H ξ [↑wo] H:=by
 obtain⟨Tg,s,A,M,h0,j,rfl,hh,hn,q⟩:=q;unfold Za5;apply⟨_,rfl,Tg,s,A,M,j,rfl,hh,λl1 c H1 s1 nl1 Z L nd1 Y Zzm g1=>?_⟩;have j1:=j.same s1;obtain⟨dw,ow⟩:=j1.jb.ow;have om:=j1.jn.om;apply aH ow T.cW T.nWn fV ?_;refine⟨_,_,rfl,.inl om,λvv nvv=>?_⟩;generalize zz:upd H1 vv _=H2;obtain⟨N,g2⟩:=nwO nvv zz;have P:=j1.same N;have C:=P.jn.om;refine⟨_,_,_,rfl,g2,C,λo=>?_⟩;have lnm:(qx M.names A.ns).length=M.names.length:=Zl3 P.jn.nms;have w3:=P.names (o:=.uB o (.dK (qx M.names A.ns))) h0;have d:∀b u,H2 b=some u->b≠A.nm->upd H2 A.nm (.uB o (.dK (qx M.names A.ns))) b=some u:=λb u hb nb=>by rw[aC nb];exact hb
 have R:upd H2 A.nm (.uB o (.dK (qx M.names A.ns))) A.nm=some (.uB o (.dK (qx M.names A.ns))):=aq;generalize upd H2 A.nm (.uB o (.dK (qx M.names A.ns)))=H3 at w3 d R ⊢;have nmn:∀t xs,H2 t=some (.tup xs)->t≠A.nm:=λt xs z=>lg z C fq;refine Zfz ?_;refine Zlm M.names.length δ (λi y _=>∃m,M.names[i]? =some m/\y=oV (NP M m.2.1 m.2.2)) (λ_ _ _ _ h _=>h) (λH' s=>⟨s _ _ R,δ⟩) (λi H' hi s=>⟨s _ _ R,δ⟩) (λi x H4 S hi w y=>?_) ?_
 ·obtain⟨rfl,kv,ekv,rfl⟩:=y;obtain⟨t,m,em,et,ot,tt⟩:=Zuh P.jn.nms ekv;refine⟨rfl,λq hq=>sE hq,λq hq=>?_⟩;have ot4:=w _ _ (d _ _ ot (nmn _ _ ot));refine⟨t,_,_,_,by rw[et],dB.of ot4,?_⟩;walk_at"c";apply⟨_,_,_,rfl,Tg,s,A,M,w3.same w,rfl,λH6 f=>hq _ _ f ⟨m,em,rfl⟩⟩
 ·intro ys H4 w ly hy p U;have ey:ys=(pO M).map oV:=by
   refine List.ext_getElem? λi=>?_
   by_cases hi:i<ys.length
   ·obtain⟨m,g,l⟩:=hy i ys[i] (bK hi);rw[bK hi,l];unfold pO;rw[cz,cz,g];rfl
   ·rw[List.getElem?_eq_none δ,List.getElem?_eq_none];unfold pO;rw[aU,aU];omega
  subst ey;have g5:=w _ _ R;have B:p≠A.nm:=λz=>by rw[z,g5]at U;cases U
  refine⟨A.nm,o,_,by rw[aC B.symm];exact g5,(λo' u z=>by rw[j.jn.om]at z;cases z),?_⟩;generalize v:upd (upd H4 p (.lst ((pO M).map oV))) A.nm (.dK (qx M.names A.ns))=S;have J:aY H2 S:=λb u hb=>by
   rw[<- v]
   by_cases z:b=A.nm
   ·subst z;rw[aq];rw[C]at hb;exact hb
   ·have h3:=d b u hb z;rw[aC z,aC (aF (w _ _ h3) U)];exact w _ _ h3
  have W:H2 p=none:=by
   cases z:H2 p with
   | none=>rfl
   | some u=>
    have:=w _ _ (d p u z B);rw[U]at this;cases this
  have F:S p=some (.lst ((pO M).map oV)):=by rw[<- v,aC B];exact aq
  clear v;have E:=s1.trans (N.trans J);have D:=N.trans J;apply⟨aR ζ,λl2 nl2=>?_⟩;generalize zz:upd S l2 _=H6;obtain⟨f,g6⟩:=nwO nl2 zz;refine⟨l1,l2,_,_,rfl,rfl,f _ _ (D _ _ Z),g6,?_,λl3 a=>?_⟩
  ·rw[aU];have:(heldOf M).length=M.hands.length:=by unfold heldOf;rw[aU]
   exact aR (by simp;omega)
  have O:=aK a (.lst (c.map V.ref++[.ref p]));have I:=E.trans (f.trans O);have e7:c.map V.ref++[V.ref p]=(c++[p]).map V.ref:=by rw[List.map_append];rfl
  rw[e7]at O I ⊢;have fp:H p=none:=s1.free (N.free W);refine q l3 (c++[p]) _ I (E.free (f.free a)) aq ?_ (λr hr=>?_) (λhr=>?_) λk r x g l=>?_
  ·unfold ig;rw[List.length_append,List.length_append,L];rfl
  ·rcases List.mem_append.mp hr with hr | hr
   ·exact Y r hr
   ·rw[List.mem_singleton.mp hr];exact fp
  ·rcases List.mem_append.mp hr with hr | hr
   ·obtain⟨k,hk,e⟩:=List.getElem_of_mem hr;have:=g1 k l3 (heldOf M)[k] (by rw[bK hk,e]) (bK δ);rw[f _ _ (D _ _ this)]at a;cases a
   ·rw[List.mem_singleton.mp hr,f _ _ F]at a;cases a
  ·unfold ig at l
   by_cases hk:k<c.length
   ·rw[List.getElem?_append_left hk]at g;rw[List.getElem?_append_left δ]at l;exact O _ _ (f _ _ (D _ _ (g1 k r x g l)))
   ·have hk2:=(cP g).1;rw[List.length_append,List.length_singleton]at hk2;have ek:k=c.length:=δ
    rw[List.getElem?_append_right δ]at g l;rw[ek,Nat.sub_self]at g;rw[ek,L,Nat.sub_self]at l;cases g;cases l;exact O _ _ (f _ _ F)
end
namespace KB
abbrev Fd:=List (Option Au)
def Wr(F:Fd)(p:Int):Option Au:=if 0<=p then(F[p.toNat]?).join else none
def nxt(F:Fd)(pl:AA)(f:Int):AA:=match pl with
 | none=>none
 | some p=>match Wr F p with
  | none=>none
  | some fl=>if 0<=f then(fl[f.toNat]?).join else none
abbrev Rw:=List Au
def slt(R:Rw)(r s:Int):AA:=((R[r.toNat]?).bind λx=>x[s.toNat]?).join
def Zah(F:Fd)(w:AE)(x:AA×Nat):Option cy:=match x.1 with
 | none=>none
 | some q=>if (Wr F q).isSome then some (q,w++[(x.2:Int)])else none
def onw(F:Fd)(w:AE)(n:Nat)(ps:Au):List cy:=(ps.zipIdx n).filterMap (Zah F w)
def q0(F:Fd)(n:Nat)(R:Rw):List cy:=(R.zipIdx n).flatMap λx=>onw F [(x.2:Int)] 0 x.1
structure Good(F:Fd)(R:Rw)(p:Int)(w:AE):Prop where
 ex:∃r s fs row,w=r::s::fs/\0<=r/\0<=s/\R[r.toNat]? =some row/\s.toNat<row.length/\(∀f∈fs,0<=f)/\fs.foldl (nxt F) (slt R r s)=some p
 there:(Wr F p).isSome=true
theorem yG{F:Fd}{w:AE}{n:Nat}{ps:Au}{q:Int}{v:AE}(h:(q,v)∈onw F w n ps):∃k,ps[k]? =some (some q)/\v=w++[((n+k:Nat):Int)]/\(Wr F q).isSome=true:=by
 obtain⟨⟨x,m⟩,hm,e⟩:=List.mem_filterMap.mp h;obtain⟨b,a⟩:=List.mem_zipIdx_iff_le_and_getElem?_sub.mp hm;unfold Zah at e;cases x with
 | none=>cases e
 | some c=>
  simp only at e;split at e
  ·rename_i hs
   cases e;refine⟨m - n,a,?_,hs⟩;have:n+(m - n)=m:=by have:=b;simp only at this;omega
   rw[this]
  ·cases e
theorem Zm4{F:Fd}{R:Rw}{p q:Int}{w v:AE}{fl:Au}(g:Good F R p w)(a:Wr F p=some fl)(h:(q,v)∈onw F w 0 fl):Good F R q v:=by
 obtain⟨k,hk,rfl,hs⟩:=yG h;obtain⟨⟨r,s,fs,row,rfl,h1,h2,c,h4,h5,b⟩,_⟩:=g;refine⟨⟨r,s,fs++[((0+k:Nat):Int)],row,rfl,h1,h2,c,h4,λf a=>?_,?_⟩,hs⟩
 ·rcases List.mem_append.mp a with z | z
  ·exact h5 f z
  ·have:f=((0+k:Nat):Int):=by simpa using z
   omega
 ·rw[List.foldl_append,b];show nxt F (some p) _=some q;unfold nxt;simp only[a];rw[if_pos δ];have:(((0+k:Nat):Int)).toNat=k:=δ
  rw[this,hk];rfl
theorem Zp7{F:Fd}{R:Rw}{q:Int}{v:AE}(h:(q,v)∈q0 F 0 R):Good F R q v:=by
 obtain⟨⟨row,n⟩,hm,h⟩:=List.mem_flatMap.mp h;have hr:R[n]? =some row:=List.mem_zipIdx_iff_getElem?.mp hm;obtain⟨k,hk,rfl,hs⟩:=yG h;refine⟨⟨(n:Int),((0+k:Nat):Int),[],row,rfl,δ,δ,by simpa using hr,?_,(λf b=>by cases b),?_⟩,hs⟩
 ·have:k<row.length:=(cP hk).1;omega
 ·show slt R _ _=some q;unfold slt;have a:((n:Int)).toNat=n:=δ
  have c:(((0+k:Nat):Int)).toNat=k:=δ
  rw[a,c,hr];simp only[Option.bind_some,hk,Option.join_some]
inductive Bx(F:Fd)(R:Rw):List cy->Nat->List cy->Prop
 | start:Bx F R (q0 F 0 R) 0 []
 | old {q k l p w}:Bx F R q k l->q[k]? =some (p,w)->p∈l.map (·.1)->Bx F R q (k+1) l
 | new {q k l p w fl}:Bx F R q k l->q[k]? =some (p,w)->p∉l.map (·.1)->Wr F p=some fl->Bx F R (q++onw F w 0 fl) (k+1) (l++[(p,w)])
theorem Bx.good{F:Fd}{R:Rw}{q l:List cy}{k:Nat}(b:Bx F R q k l):(∀x∈q,Good F R x.1 x.2)/\∀x∈l,Good F R x.1 x.2:=by
 induction b with
 | start=>exact⟨λx hx=>Zp7 hx,λx hx=>nomatch hx⟩
 | old _ _ _ a=>exact a
 | new b hq hn c a=>
  have g:=a.1 _ (List.mem_of_getElem? hq);refine⟨λx hx=>?_,λx hx=>?_⟩
  ·rcases List.mem_append.mp hx with z | z
   ·exact a.1 x z
   ·exact Zm4 g c z
  ·rcases List.mem_append.mp hx with z | z
   ·exact a.2 x z
   ·have d:=List.mem_singleton.mp z;rw[d];exact g
def wgt:Option Au->Nat
 | none=>0
 | some fl=>fl.length
def Zcl(F:Fd)(l:List cy):Nat:=((F.zipIdx).map λx=>if (x.2:Int)∈l.map (·.1)then 0 else wgt x.1).sum
theorem Zji{a:Type}(f g:a->Nat):∀(xs:List a),(∀x∈xs,g x<=f x)->(xs.map g).sum<=(xs.map f).sum
 | [],_=>Nat.le_refl _
 | x::xs,h=>by
  have h1:=h x ζ;have h2:=Zji f g xs λy hy=>h y (by simp[hy]);simp only[List.map_cons,List.sum_cons];omega
theorem Z1{b:Type}(f g:b->Nat)(d:Nat):∀(xs:List b) (a:b),a∈xs->(∀x∈xs,g x<=f x)->g a+d<=f a->(xs.map g).sum+d<=(xs.map f).sum
 | [],_,h,_,_=>nomatch h
 | x::xs,a,c,h,hd=>by
  have h1:=h x ζ;have h2:=Zji f g xs λy hy=>h y (by simp[hy]);simp only[List.map_cons,List.sum_cons];rcases List.mem_cons.mp c with z | z
  ·subst z;omega
  ·have e:=Z1 f g d xs a z (λy hy=>h y (by simp[hy])) hd;omega
theorem Ms{F:Fd}{w:AE}{n:Nat}{ps:Au}:(onw F w n ps).length<=ps.length:=by
 unfold onw;have:=List.length_filterMap_le (Zah F w) (ps.zipIdx n);rw[List.length_zipIdx]at this;exact this
theorem Zja{F:Fd}{l:List cy}{p:Int}{w:AE}{fl:Au}(hn:p∉l.map (·.1))(a:Wr F p=some fl):Zcl F (l++[(p,w)])+fl.length<=Zcl F l:=by
 unfold Wr at a;split at a
 ·rename_i b
  have hp:F[p.toNat]? =some (some fl):=by
   cases e:F[p.toNat]? with
   | none=>rw[e]at a;cases a
   | some x=>rw[e]at a;simp only[Option.join_some]at a;rw[a]
  unfold Zcl;refine Z1 _ _ fl.length _ (some fl,p.toNat) (List.mem_zipIdx_iff_getElem?.mpr hp) (λx _=>?_) ?_
  ·simp only[List.map_append,List.map_cons,List.map_nil,List.mem_append]
   by_cases h1:(x.2:Int)∈l.map (·.1)
   ·simp only[h1,true_or,↓reduceIte,Nat.le_refl]
   ·simp only[h1,false_or];split
    ·exact Nat.zero_le _
    ·exact Nat.le_refl _
  ·have e:((p.toNat:Nat):Int)=p:=δ
   simp only[List.map_append,List.map_cons,List.map_nil,List.mem_append,e];rw[if_pos (.inr ζ),if_neg hn];show 0+fl.length<=wgt (some fl);show 0+fl.length<=fl.length;omega
 ·cases a
def total(F:Fd)(R:Rw):Nat:=(q0 F 0 R).length+Zcl F []
theorem Bx.bound{F:Fd}{R:Rw}{q l:List cy}{k:Nat}(b:Bx F R q k l):q.length+Zcl F l<=total F R:=by
 induction b with
 | start=>exact Nat.le_refl _
 | old _ _ _ a=>exact a
 | new b hq hn c a=>
  have h2:=@Ms F;rw[List.length_append];refine Nat.le_trans ?_ a
  rename_i w fl
  have d:=h2 (w:=w) (n:=0) (ps:=fl);have h4:=Zja (w:=w) hn c;omega
end KB
def Zpn(cs:List V)(i:Int):V:=if 0<=i then(cs[i.toNat]?).getD .non else .non
def CO(a:AI)(H:Hp)(cs:List V)(i:Nat):Option Au->Prop
 | none=>cs[i]? =some .non
 | some fl=>∃p fa b u t l,cs[i]? =↑p/\yp a H p fa b u t l (fl.map oV)
structure HV(CC CH:AI)(H:Hp)(hp:AI)(F:KB.Fd):Prop where
 ex:∃ca room used born cs,HpO CH H hp ca room used born cs/\cs.length=F.length/\∀(i:Nat) x,F[i]? =some x->CO CC H cs i x
theorem HpO.same{a:AI}{H H':Hp}{hp ca:AI}{room used born:Int}{cs:List V}(h:HpO a H hp ca room used born cs)(s:aY H H'):HpO a H' hp ca room used born cs:=by
 obtain⟨⟨b,h1⟩,h2⟩:=h;exact⟨⟨b,s _ _ h1⟩,s _ _ h2⟩
theorem CO.same{a:AI}{H H':Hp}{cs:List V}{i:Nat}{x:Option Au}(h:CO a H cs i x)(s:aY H H'):CO a H' cs i x:=by
 cases x with
 | none=>exact h
 | some fl=>
  obtain⟨p,d,b,u,t,l,e,c⟩:=h;exact⟨p,d,b,u,t,l,e,c.same s⟩
theorem HV.same{b a:AI}{H H':Hp}{hp:AI}{F:KB.Fd}(h:HV b a H hp F)(s:aY H H'):HV b a H' hp F:=by
 obtain⟨ca,room,used,born,cs,o,l,e⟩:=h;exact⟨ca,room,used,born,cs,o.same s,l,λi x hx=>(e i x hx).same s⟩
theorem Zmf{a:AI}{H:Hp}{cs:List V}{F:KB.Fd}(hl:cs.length=F.length)(e:∀(i:Nat) x,F[i]? =some x->CO a H cs i x)(i:Int):
  (KB.Wr F i=none/\Zpn cs i=.non)\/∃fl p fa b u t l,KB.Wr F i=some fl/\Zpn cs i=.ref p/\cs[i.toNat]? =↑p/\0<=i/\yp a H p fa b u t l (fl.map oV):=by
 unfold KB.Wr Zpn
 by_cases g:0<=i
 ·simp only[g,↓reduceIte];cases d:F[i.toNat]? with
  | none=>
   have:cs[i.toNat]? =none:=by rw[List.getElem?_eq_none_iff]at d ⊢;omega
   exact .inl ⟨rfl,by rw[this];rfl⟩
  | some x=>
   have c:=e _ _ d;cases x with
   | none=>exact .inl ⟨rfl,by rw[show cs[i.toNat]? =some V.non from c];rfl⟩
   | some fl=>
    obtain⟨p,fa,b,u,t,l,f,c1⟩:=c;exact .inr ⟨fl,p,fa,b,u,t,l,rfl,by rw[f];rfl,f,trivial,c1⟩
 ·simp only[g,↓reduceIte];exact .inl ⟨trivial,trivial⟩
def Bw(H:Hp):AF->List cy->Prop
 | [],[]=>True
 | t::ts,x::b=>(∃a,H t=some (.tup [.int x.1,.ref a])/\H a=some (.tup (x.2.map V.int)))/\Bw H ts b
 | _,_=>False
theorem Bw.same{H H':Hp}(s:aY H H'):∀{ts:AF}{b:List cy},Bw H ts b->Bw H' ts b
 | [],[],_=>trivial
 | [],_::_,h=>h.elim
 | _::_,[],h=>h.elim
 | _::_,_::_,⟨⟨a,h1,h2⟩,c⟩=>⟨⟨a,s _ _ h1,s _ _ h2⟩,Bw.same s c⟩
theorem Bw.app{H:Hp}:∀{ts us:AF}{a rs:List cy},Bw H ts a->Bw H us rs->Bw H (ts++us) (a++rs)
 | [],_,[],_,_,h=>h
 | [],_,_::_,_,h,_=>h.elim
 | _::_,_,[],_,h,_=>h.elim
 | _::_,_,_::_,_,⟨h1,b⟩,h=>⟨h1,Bw.app b h⟩
theorem Bw.len{H:Hp}:∀{ts:AF}{a:List cy},Bw H ts a->ts.length=a.length
 | [],[],_=>rfl
 | [],_::_,h=>h.elim
 | _::_,[],h=>h.elim
 | _::_,_::_,⟨_,b⟩=>by rw[List.length_cons,List.length_cons,Bw.len b]
theorem Bw.at{H:Hp}:∀{ts:AF}{b:List cy}{i:Nat}{x:Int×AE},Bw H ts b->b[i]? =some x->∃t a,ts[i]? =some t/\H t=some (.tup [.int x.1,.ref a])/\H a=some (.tup (x.2.map V.int))
 | [],[],_,_,_,e=>by simp at e
 | [],_::_,_,_,h,_=>h.elim
 | _::_,[],_,_,h,_=>h.elim
 | t::_,_::_,0,_,⟨⟨a,h1,h2⟩,_⟩,e=>by cases e;exact⟨t,a,rfl,h1,h2⟩
 | _::_,_::_,i+1,_,⟨_,c⟩,e=>Bw.at (i:=i) c e
def Rt(K:aB)(c b:AI):Sp:=λvs H Q E=>∃hp a wt F ps w,vs=[.ref hp,.ref a,.ref wt]/\HV c b H hp F/\bU K H a (ps.map oV)/\dB K H wt (w.map V.int)/\w≠[]/\w.length<=100000/\ps.length<=1000/\
 ∀l ts H',H l=none->aY H H'->H' l=some (.lst bP)->Bw H' ts (KB.onw F w 0 ps)->Q (.ref l) H'
def Bt(K:aB)(H:Hp):AF->KB.Rw->Prop
 | [],[]=>True
 | a::b,r::R=>bU K H a (r.map oV)/\Bt K H b R
 | _,_=>False
theorem Bt.same{K:aB}{H H':Hp}(s:aY H H'):∀{a:AF}{R:KB.Rw},Bt K H a R->Bt K H' a R
 | [],[],_=>trivial
 | [],_::_,h=>h.elim
 | _::_,[],h=>h.elim
 | _::_,_::_,⟨h1,b⟩=>⟨s.seq h1,Bt.same s b⟩
theorem Bt.len{K:aB}{H:Hp}:∀{a:AF}{R:KB.Rw},Bt K H a R->a.length=R.length
 | [],[],_=>rfl
 | [],_::_,h=>h.elim
 | _::_,[],h=>h.elim
 | _::_,_::_,⟨_,b⟩=>by rw[List.length_cons,List.length_cons,Bt.len b]
theorem Bt.at{K:aB}{H:Hp}:∀{b:AF}{R:KB.Rw}{i:Nat}{a:AI},Bt K H b R->b[i]? =some a->∃r,R[i]? =some r/\bU K H a (r.map oV)
 | [],[],_,_,_,e=>by simp at e
 | [],_::_,_,_,h,_=>h.elim
 | _::_,[],_,_,h,_=>h.elim
 | _::_,r::_,0,_,⟨h1,_⟩,e=>by cases e;exact⟨r,rfl,h1⟩
 | _::_,_::_,i+1,_,⟨_,c⟩,e=>Bt.at (i:=i) c e
structure Few(F:KB.Fd)(R:KB.Rw):Prop where
 f:F.length<=1000
 g:∀p fl,KB.Wr F p=some fl->fl.length<=1000
 r:R.length<=1000
 s:∀x∈R,x.length<=1000
 t:KB.total F R<=90000
def W2(K:aB)(c b:AI):Sp:=λvs H Q E=>∃hp ra F rs R,vs=[.ref hp,.ref ra]/\HV c b H hp F/\bU K H ra (rs.map V.ref)/\Bt K H rs R/\Few F R/\
 ∀l ts q a H',KB.Bx F R q q.length a->H l=none->aY H H'->H' l=some (.lst bP)->Bw H' ts a->Q (.ref l) H'
theorem Zw0{g e hp:AI}{H:Hp}{Q:VK}{E:XK}{pl:AA}{F:KB.Fd}(v:HV g e H hp F)(f:pl.bind (KB.Wr F)=none->Q .non H)(h:∀fl p fa b u t l,pl.bind (KB.Wr F)=some fl->yp g H p fa b u t l (fl.map oV)->Q (.ref p) H):jl e [.ref hp,oV pl] H Q E:=by
 obtain⟨ca,room,used,born,cs,o,hl,j⟩:=v;refine⟨hp,oV pl,rfl,tY pl,ca,room,used,born,cs,o,?_⟩;cases pl with
 | none=>exact f rfl
 | some i=>
  show Q (Zpn cs i) H;rcases Zmf hl j i with ⟨d,a⟩ | ⟨fl,p,fa,b,u,t,l,d,a,_,_,c⟩
  ·rw[a];exact f d
  ·rw[a];exact h fl p fa b u t l d c
theorem Zag(F:KB.Fd)(w:AE)(n:Nat)(ps:Au)(x:AA):KB.onw F w n (ps++[x])=KB.onw F w n ps++(KB.Zah F w (x,n+ps.length)).toList:=by
 unfold KB.onw;rw[List.zipIdx_append,List.filterMap_append];congr 1
theorem take_snoc{a:Type}{xs:List a}{i:Nat}{x:a}(h:xs[i]? =some x):xs.take de=xs.take i++[x]:=by
 rw[List.take_add_one,h];rfl
theorem iy{H:Hp}{a:AI}{o:HO}(h:H a=none):aY H ei:=λb u q=>by rw[aC (aF q h)];exact q
section
variable {K:aB}{cB bT cT:AI}{H:Hp}{Q:VK}{E:XK}{n:ν}{bk ct:ν}
theorem Zdh{hp a wt:AI}{F:KB.Fd}{ps:Au}{w:AE}(v:HV cB bT H hp F)(O:bU K H a (ps.map oV))(Y:dB K H wt (w.map V.int))(B:w≠[])(W:w.length<=100000)(U:ps.length<=1000)
  (Zr5:∀{H':Hp},aY H H'->dB K H' wt (w.map V.int))
  (q:∀l ts H',H l=none->aY H H'->H' l=some (.lst bP)->Bw H' ts (KB.onw F w 0 ps)->Q (.ref l) H'):
  yw K (jl bT) ξ [↑hp,↑a,↑wt] H:=by
 unfold yw;apply⟨a,rfl,⟨_,O⟩,Zon O (by rw[aU];omega) (λi s f=>aY H f/\i<=ps.length/\∃ts,s=ts.map V.ref/\Bw f ts (KB.onw F w 0 (ps.take i))) ⟨aY.refl _,Nat.zero_le _,[],rfl,trivial⟩ ?_ ?_ ?_⟩
 ·rintro i s f ⟨sm,hi,ts,rfl,g⟩;refine⟨sm,?_⟩;rw[aU,g.len];refine Nat.le_trans KB.Ms ?_;rw[List.length_take];omega
 ·rintro i x s f t C P hx ⟨sm,hi,ts,rfl,g⟩ R;walk_at"c";rw[cz]at hx;obtain⟨y,hy,rfl⟩:=Option.map_eq_some_iff.mp hx;have k:i<ps.length:=(cP hy).1;have m:0+(ps.take i).length=i:=by rw[List.length_take];omega
  have E:aY f (upd f t (.tup [.int i,oV y])):=iy R;have r:=sm.trans E;apply Zw0 (v.same r) (λe=>?_) (λfl p fa b u Z l e c=>?_)
  ·refine Ze2 ?_;apply Zop (P _ _ ⟨r,k,ts,rfl,?_⟩);rw[take_snoc hy,Zag,m];have J:KB.Zah F w (y,i)=none:=by
    unfold KB.Zah;cases y with
    | none=>rfl
    | some d=>simp only;rw[show KB.Wr F d=none from e];rfl
   rw[J];simp only[Option.toList_none,List.append_nil];exact g.same E
  ·refine Ze2 ?_;apply Zdx ?_;obtain⟨d,rfl⟩:∃d,y=some d:=by
    cases y with
    | none=>cases e
    | some d=>exact⟨d,rfl⟩
   have T:KB.Wr F d=some fl:=e;apply⟨(by show 1<=sizeLine;decide),λt2 D=>?_⟩;have M:=E.trans (iy (o:=.tup [.int i]) D);refine⟨wt,t2,w.map V.int,[.int i],rfl,rfl,Zr5 (sm.trans M),dB.of aq,by simpa using B,by rw[aU];exact aR (by simp only[List.length_cons,List.length_nil];omega),ai,(λ_ h I=>?_)⟩;have S:=M.trans (iy (o:=.tup (w.map V.int++[.int i])) I);apply⟨(by show 2<=sizeLine;decide),λL j=>?_⟩;have N:=S.trans (iy (o:=.tup [oV (some d),.ref h]) j);have A:h≠L:=aF aq j;have X:upd (upd (upd (upd f t (.tup [.int i,oV (some d)])) t2 (.tup [.int i])) h (.tup (w.map V.int++[.int i]))) L (.tup [oV (some d),.ref h]) h=some (.tup (w.map V.int++[.int i])):=by
    rw[aC A,aq]
   apply P _ _ ⟨sm.trans N,k,ts++[L],ζ,?_⟩;rw[take_snoc hy,Zag,m];have J:KB.Zah F w (some d,i)=some (d,w++[(i:Int)]):=by
    unfold KB.Zah;simp only[T,Option.isSome_some,↓reduceIte]
   rw[J];refine(g.same N).app ⟨⟨h,aq,?_⟩,trivial⟩;rw[X,List.map_append];rfl
 ·rintro s f ⟨sm,_,ts,rfl,g⟩ l hl;ext;rw[aU,List.take_length]at g;exact q l ts _ (sm.free hl) (sm.trans (iy hl)) aq (g.same (iy hl))
end
theorem Zr5{K:aB}{H H':Hp}{a:AI}{xs:List V}(e:aY H H')(h:dB K H a xs):dB K H' a xs:=by
 rcases h with (h | ⟨o,h⟩) | h
 ·exact .inl (.inl (e _ _ h))
 ·exact .inl (.inr ⟨o,e _ _ h⟩)
 ·exact .inr h
def TK(H H':Hp):Prop:=∀b xs,H b=some (.tup xs)->H' b=some (.tup xs)
theorem TK.same{H H':Hp}(s:aY H H'):TK H H':=λb _ h=>s b _ h
theorem TK.upd{H:Hp}{a:AI}{o:HO}(h:∀xs,H a≠some (.tup xs)):TK H (L2.upd H a o):=λb xs q=>by
 have n:b≠a:=λz=>h xs (by rw[<- z];exact q);rw[aC n];exact q
theorem TK.trans{H e d:Hp}(a:TK H e)(b:TK e d):TK H d:=λc xs h=>b c xs (a c xs h)
theorem Bw.tk{H H':Hp}(s:TK H H'):∀{ts:AF}{b:List cy},Bw H ts b->Bw H' ts b
 | [],[],_=>trivial
 | [],_::_,h=>h.elim
 | _::_,[],h=>h.elim
 | _::_,_::_,⟨⟨a,h1,h2⟩,c⟩=>⟨⟨a,s _ _ h1,s _ _ h2⟩,Bw.tk s c⟩
def W4(H:Hp):List ee->List cy->Prop
 | [],[]=>True
 | kv::b,x::c=>(kv.1=Sum.inl x.1/\∃a,kv.2=.ref a/\H a=some (.tup (x.2.map V.int)))/\W4 H b c
 | _,_=>False
theorem W4.tk{H H':Hp}(s:TK H H'):∀{b:List ee}{c:List cy},W4 H b c->W4 H' b c
 | [],[],_=>trivial
 | [],_::_,h=>h.elim
 | _::_,[],h=>h.elim
 | _::_,_::_,⟨⟨d,a,h1,h2⟩,e⟩=>⟨⟨d,a,h1,s _ _ h2⟩,W4.tk s e⟩
theorem W4.app{H:Hp}:∀{a ls:List ee}{b rs:List cy},W4 H a b->W4 H ls rs->W4 H (a++ls) (b++rs)
 | [],_,[],_,_,h=>h
 | [],_,_::_,_,h,_=>h.elim
 | _::_,_,[],_,h,_=>h.elim
 | _::_,_,_::_,_,⟨h1,c⟩,h=>⟨h1,W4.app c h⟩
theorem W4.len{H:Hp}:∀{ts:List ee}{a:List cy},W4 H ts a->ts.length=a.length
 | [],[],_=>rfl
 | [],_::_,h=>h.elim
 | _::_,[],h=>h.elim
 | _::_,_::_,⟨_,b⟩=>by rw[List.length_cons,List.length_cons,W4.len b]
theorem W4.val{H:Hp}(p:Int):∀{a:List ee}{b:List cy},W4 H a b->(jA a (Sum.inl p)).isSome=decide (p∈b.map (·.1))
 | [],[],_=>by simp[jA]
 | [],_::_,h=>h.elim
 | _::_,[],h=>h.elim
 | kv::a,x::b,⟨⟨c,_⟩,f⟩=>by
  by_cases e:x.1=p
  ·rw[je (by rw[c,e])];simp[e]
  ·rw[jf (by rw[c];exact λz=>e (Sum.inl.inj z)),W4.val p f];simp only[List.map_cons,List.mem_cons];have d:¬ p=x.1:=λz=>e z.symm;simp only[d,false_or]
theorem W4.prs{H:Hp}:∀{ts:AF}{b:List ee}{c:List cy},W4 H b c->Zce H ts b->Bw H ts c
 | [],[],[],_,_=>trivial
 | _,[],_::_,h,_=>h.elim
 | _,_::_,[],h,_=>h.elim
 | [],_::_,_::_,_,h=>h.elim
 | _::_,[],[],_,h=>h.elim
 | t::ts,kv::b,x::c,⟨⟨e,a,h1,h2⟩,g⟩,⟨f,d⟩=>⟨⟨a,by rw[f,e,h1];rfl,h2⟩,W4.prs g d⟩
theorem Znt(F:KB.Fd)(R:KB.Rw)(i:Nat)(r:Au)(h:R[i]? =some r):KB.q0 F 0 (R.take de)=KB.q0 F 0 (R.take i)++KB.onw F [(i:Int)] 0 r:=by
 unfold KB.q0;rw[take_snoc h,List.zipIdx_append,List.flatMap_append];have hl:(R.take i).length=i:=by
  have:=(cP h).1;rw[List.length_take];omega
 rw[hl];simp only[List.zipIdx_cons,List.zipIdx_nil,List.flatMap_cons,List.flatMap_nil,List.append_nil,Nat.zero_add]
structure RS(K:aB)(CC CH:AI)(H0 H:Hp)(ql d:AI)(F:KB.Fd)(R:KB.Rw)(q qs:List cy)(k:Nat):Prop where
 sm:aY H0 H
 nq:H0 ql=none
 b:KB.Bx F R q k qs
 hk:k<=q.length
 oq:∃ts,H ql=some (.lst bP)/\Bw H ts q
 od:∃kvs,H d=some (.dK kvs)/\W4 H kvs qs
 nd:H0 d=none
theorem Zle{H:Hp}{a:AI}{xs:List V}{o:HO}(h:H a=some (.lst xs)):TK H ei:=TK.upd λb z=>by rw[h]at z;cases z
theorem Zvv{H:Hp}{a:AI}{xs:List ee}{o:HO}(h:H a=some (.dK xs)):TK H ei:=TK.upd λb z=>by rw[h]at z;cases z
theorem Nt{H0 H:Hp}{a:AI}{o:HO}(s:aY H0 H)(h:H0 a=none):aY H0 ei:=λb u q=>by rw[aC (aF q h)];exact s b u q
theorem Zpv{F:KB.Fd}{R:KB.Rw}{q l:List cy}{k:Nat}(b:KB.Bx F R q k l):l.length<=k:=by
 induction b with
 | start=>exact Nat.le_refl _
 | old _ _ _ a=>omega
 | new _ _ _ _ a=>rw[List.length_append];simp only[List.length_cons,List.length_nil];omega
theorem Znb{F:KB.Fd}{R:KB.Rw}{q l:List cy}{k:Nat}(b:KB.Bx F R q k l):∀x∈q,x.2.length<=k+2:=by
 induction b with
 | start=>
  intro x hx;obtain⟨⟨row,n⟩,hm,h⟩:=List.mem_flatMap.mp hx;obtain⟨j,_,e,_⟩:=KB.yG (q:=x.1) (v:=x.2) h;rw[e];simp
 | old _ _ _ a=>intro x hx;have:=a x hx;omega
 | new b hq _ _ a=>
  intro x hx;rcases List.mem_append.mp hx with z | z
  ·have:=a x z;omega
  ·obtain⟨j,_,e,_⟩:=KB.yG (q:=x.1) (v:=x.2) z;have:=a _ (List.mem_of_getElem? hq);rw[e,List.length_append];simp only[List.length_cons,List.length_nil];simp only at this;omega
theorem Zrb(F:KB.Fd):∀(R S:KB.Rw) (n:Nat),(KB.q0 F n R).length<=(KB.q0 F n (R++S)).length:=λR S n=>by
 unfold KB.q0;rw[List.zipIdx_append,List.flatMap_append,List.length_append];omega
theorem Zns(F:KB.Fd)(R:KB.Rw)(i:Nat):(KB.q0 F 0 (R.take i)).length<=KB.total F R:=by
 have:=Zrb F (R.take i) (R.drop i) 0;rw[List.take_append_drop]at this;unfold KB.total;omega
section
variable {K:aB}{cB bT cT:AI}{H:Hp}{Q:VK}{E:XK}{n:ν}{bk ct:ν}
theorem Za4{hp ra:AI}{F:KB.Fd}{rs:AF}{R:KB.Rw}{v2 v3 v4 v5 v6 M I:Option V}(T:TxC K cB bT)(v:HV cB bT H hp F)(hr:bU K H ra (rs.map V.ref))(rw':Bt K H rs R)(S:Few F R)
  (q:∀l ts q N H',KB.Bx F R q q.length N->H l=none->aY H H'->H' l=some (.lst bP)->Bw H' ts N->Q (.ref l) H'):
  Aq K (Rt K cB bT) ξ [↑hp,↑ra,v2,v3,v4,v5,v6,M,I] H:=by
 have hrl:=rw'.len;have f1:=S.r;unfold Aq;apply⟨(by show 0<=sizeLine;decide),λA L=>?_⟩;apply⟨ra,rfl,⟨_,(iy L).seq hr⟩,Zvo (rs.map V.ref) (λi X O=>i<=rs.length/\aY H O/\(∃ts,O A=some (.lst bP)/\Bw O ts (KB.q0 F 0 (R.take i)))/\∃x y,X=[↑hp,↑ra,↑A,x,y,v5,v6,M,I])
  ⟨Nat.zero_le _,iy L,⟨[],aq,trivial⟩,_,_,rfl⟩ (by rintro i X O _ ⟨_,sm,_⟩;exact sm.seq hr) ?_ ?_⟩
 ·rintro i x t X O hx ⟨hi,sm,⟨ts,f,D⟩,y,z,rfl⟩ ht;rw[cz]at hx;obtain⟨r,er,rfl⟩:=Option.map_eq_some_iff.mp hx;obtain⟨row,eR,hrow⟩:=rw'.at er;have hil:i<rs.length:=(cP er).1;have C:=iy (o:=.tup [.int i,.ref r]) ht;refine⟨t,_,rfl,dB.of aq,rfl,.int i,_,rfl,?_⟩;exists .ref r,_,rfl;exists rfl;exists .inl ⟨rfl,_,bU.of (C _ _ f)⟩;apply⟨(by show 1<=sizeLine;decide),λt2 ht2=>?_⟩;have B:=C.trans (iy (o:=.tup [.int i]) ht2);apply⟨hp,r,t2,F,row,[(i:Int)],rfl,v.same (sm.trans B),(sm.trans B).seq hrow,dB.of aq,ai,(by show 1<=100000;decide),S.s _ (List.mem_of_getElem? eR),λl us H' hl s3 hl' qa'=>?_⟩;have s4:=B.trans s3;have hq':H' A=some (.lst bP):=s4 _ _ f;ext;have hlen:ts.length<=100000:=by
   rw[D.len];exact Nat.le_trans (Nat.le_trans (Zns F R i) S.t) ε
  have hlen2:us.length<=1000:=by
   rw[qa'.len];exact Nat.le_trans KB.Ms (S.s _ (List.mem_of_getElem? eR))
  refine⟨A,l,_,_,rfl,rfl,hq',hl',by rw[aU,aU];exact aR δ,?_⟩;apply⟨hil,Nt (sm.trans s4) L,⟨ts++us,by rw[aq,List.map_append],?_⟩,_,_,rfl⟩;rw[Znt F R i row eR];exact((D.same s4).app qa').tk (Zle hq')
 ·rintro X O ⟨hi,sm,⟨ts,f,D⟩,y,z,rfl⟩;rw[aU,hrl,List.take_length]at D;ext;intro d hd;ext;have ndq:d≠A:=λe=>by rw[e,f]at hd;cases hd
  refine⟨λm X O=>∃q N k x y M I,m=KB.total F R - k/\X=[↑hp,↑ra,↑A,x,y,↑d,some (.int (k:Nat)),M,I]/\RS K cB bT H O A d F R q N k,⟨_,KB.q0 F 0 R,[],0,_,_,_,_,rfl,rfl,?_⟩,?_⟩
  ·exact⟨sm.trans (iy hd),L,.start,Nat.zero_le _,⟨ts,by rw[aC ndq.symm];exact f,D.same (iy hd)⟩,⟨[],aq,trivial⟩,sm.free hd⟩
  ·rintro m X Hy ⟨Y,N,k,x,y,M,I,rfl,rfl,rs'⟩;obtain⟨J,nq,b,hk,⟨ts,f,D⟩,⟨h,j,Z⟩,nd⟩:=rs';have hlq:=D.len;apply dU (bU.of f) ?_;ext;have hb:=b.bound;refine su da da
   ·rw[aU]at z;have W:k<Y.length:=δ
    have hq:Y[k]? =some Y[k]:=bK W;obtain⟨t,a,et,ht,P⟩:=D.at hq;generalize hx:Y[k]=pw at hq ht P;obtain⟨p,w⟩:=pw;refine⟨λσ' H'=>∃q2 U x y M I,σ'=[↑hp,↑ra,↑A,x,y,↑d,some (.int ((k:Int)+1)),M,I]/\RS K cB bT H H' A d F R q2 U dG,?_,?_⟩
    ·rintro σ' H' ⟨q2,U,x,y,M,I,rfl,r2⟩;exact⟨KB.total F R - dG,δ,q2,U,k+1,x,y,M,I,rfl,by rw[show((k+1:Nat):Int)=(k:Int)+1 from δ],r2⟩
    have hix:TY bP ((k:Nat):Int)=↑t:=gm (by rw[cz,et];rfl);apply fL (bU.of f) hix ?_;exists t,_,0,.int p,rfl,rfl,dB.of ht,lY ε rfl;apply fL (bU.of f) hix ?_;exists t,_,1,.ref a,rfl,rfl,dB.of ht,lY ε rfl;exists d,h,_,rfl,.inl j,rfl;ext;have gd:=b.good.1 _ (List.mem_of_getElem? hq);refine Zs4 (λy=>?_) (λy=>?_)
    ·have hno:jA h (Sum.inl p)=none:=by
      cases e:jA h (Sum.inl p)with
      | none=>rfl
      | some _=>rw[e]at y;simp at y
     have hnp:p∉N.map (·.1):=by
      have:=Z.val p;rw[hno]at this;simpa using this
     obtain⟨fl,E⟩:∃fl,KB.Wr F p=some fl:=Option.isSome_iff_exists.mp gd.there;exists d,_,rfl,Uk.k (k:=Sum.inl p) j ?_
     ·have h2:=Z.len;have h3:=Zpv b;have h4:=S.t;exact Nat.lt_of_le_of_lt (show h.length<=1000000 by omega) fh
     rw[Zk6 _ hno];have nd':A≠d:=lg f j aS;have C:aY H (upd Hy d (.dK (h++[(Sum.inl p,.ref a)]))):=Nt J nd;have k1:TK Hy (upd Hy d (.dK (h++[(Sum.inl p,.ref a)]))):=Zvv j;have q1:upd Hy d (.dK (h++[(Sum.inl p,.ref a)])) A=some (.lst bP):=(aC nd').trans f;exists .inl ⟨rfl,_,bU.of q1⟩;ext;obtain⟨ca,room,used,born,cs,ho,hl,he⟩:=(v.same C).ex;have ho':=ho;obtain⟨⟨dx,o1⟩,o2⟩:=ho';refine aH o1 T.cL T.bO bN ?_;ext;rcases Zmf hl he p with ⟨e1,_⟩ | ⟨fl',p',fa,b',u,t',l,e1,_,e3,e4,c⟩
     ·rw[E]at e1;cases e1
     rw[E]at e1;cases e1;refine fL (bU.of o2) (lY e4 e3) ?_;obtain⟨⟨dc,c1⟩,c2⟩:=c;refine aH c1 T.cY T.fH gK ?_;ext;have hw:=Znb b _ (List.mem_of_getElem? hq);have hgt:=S.t;refine⟨hp,fa,a,F,fl,w,rfl,v.same C,bU.of c2,dB.of (k1 _ _ P),?_,?_,S.g p fl E,λl2 us H2 hl2 B hl2' qa2=>?_⟩
     ·obtain⟨r0,s0,fs0,_,e0,_⟩:=gd.ex;intro z;rw[show w=(p,w).2 from rfl,e0]at z;cases z
     ·simp only at hw;omega
     have hq2:H2 A=some (.lst bP):=B _ _ q1;have hd2:H2 d=some (.dK (h++[(Sum.inl p,.ref a)])):=B _ _ aq;have k2:=k1.trans (TK.same B);have k3:TK H2 (upd H2 A (.lst (ts.map V.ref++us.map V.ref))):=Zle hq2;have b2:=KB.Bx.new b hq hnp E;have hb2:=b2.bound;rw[List.length_append,<- qa2.len,<- hlq]at hb2;apply⟨A,l2,_,_,rfl,rfl,hq2,hl2',by rw[aU,aU];exact aR δ,?_⟩;apply⟨_,_,_,_,_,_,rfl,⟨Nt (C.trans B) nq,nq,b2,by rw[List.length_append];omega,⟨ts++us,by rw[aq,List.map_append],(((D.tk k2).app qa2).tk k3)⟩,⟨_,by rw[aC nd'.symm];exact hd2,((Z.tk k2).app ?_).tk k3⟩,nd⟩⟩;exact⟨⟨rfl,a,rfl,k2 _ _ P⟩,trivial⟩
    ·have hin:p∈N.map (·.1):=by
      have:=Z.val p;cases e:jA h (Sum.inl p)with
      | none=>rw[e]at y;simp at y
      | some _=>rw[e]at this;simpa using this.symm
     apply⟨_,_,_,_,_,_,rfl,⟨J,nq,.old b hq hin,δ,⟨ts,f,D⟩,⟨h,j,Z⟩,nd⟩⟩
   ·rw[aU]at z;have W:k=Y.length:=δ
    subst W;apply⟨d,h,rfl,.inl j,λvw hvw=>?_⟩;ext;have C:=iy (o:=Hr vw d) hvw;refine Zow aq (.inl (C _ _ j)) λl us H2 hl B hl2 pa=>?_;apply q l us Y N H2 b ((J.trans C).free hl) ((J.trans C).trans B) hl2 ((Z.tk (TK.same (C.trans B))).prs pa)
end
def fdOf(M:Wm):KB.Fd:=M.cells.map λo=>o.map (·.fl)
theorem WJ0.hv{X:Cs}{H:Hp}{T:Tg}{s:Nat}{A:Wa}{M:Wm}(j:WJ0 X H T s A M):HV X.C X.H H A.hp (fdOf M):=by
 have hl:=j.jc.lc;refine⟨A.ca,M.room,M.used,M.born,A.cs.map pV,j.hpO,by unfold fdOf;rw[aU,aU];exact hl,λi x hx=>?_⟩;unfold fdOf at hx;rw[cz]at hx;obtain⟨o,a,rfl⟩:=Option.map_eq_some_iff.mp hx;cases o with
 | none=>
  show(A.cs.map pV)[i]? =some .non;rw[cz,j.jc.at0 a];rfl
 | some c=>
  obtain⟨p,hp,ce⟩:=j.jc.at a;obtain⟨_,_,o1,o2⟩:=ce;exact⟨p.1,p.2,c.birth,c.bulk,c.tone,c.load,by rw[cz,hp];rfl,⟨o1,o2⟩⟩
theorem Zec{M:Wm}(x:Int):KB.Wr (fdOf M) x=(cellAt M x).map (·.fl):=by
 unfold KB.Wr fdOf cellAt
 by_cases h:0<=x
 ·rw[if_pos h,if_pos h,cz];cases M.cells[x.toNat]? with
  | none=>rfl
  | some o=>cases o<;>rfl
 ·rw[if_neg h,if_neg h];rfl
section
variable {K:aB}{X:Cs}{H:Hp}{Q:VK}{E:XK}{n:ν}{bk ct:ν}
theorem Zhk{hp a wt:AI}{F:KB.Fd}{ps:Au}{w:AE}(q:HV X.C X.H H hp F/\bU K H a (ps.map oV)/\dB K H wt (w.map V.int)/\w≠[]/\w.length<=100000/\ps.length<=1000/\∀l ts H',H l=none->aY H H'->H' l=some (.lst bP)->Bw H' ts (KB.onw F w 0 ps)->Q (.ref l) H'):
  yw K (jl X.H) ξ [↑hp,↑a,↑wt] H:=by
 obtain⟨v,h1,h2,b,h4,h5,q⟩:=q;exact Zdh v h1 h2 b h4 h5 (λe=>Zr5 e h2) q
theorem Zd6{hp ra:AI}{F:KB.Fd}{rs:AF}{R:KB.Rw}(T:lK K X)(q:HV X.C X.H H hp F/\bU K H ra (rs.map V.ref)/\Bt K H rs R/\Few F R/\∀l ts q a H',KB.Bx F R q q.length a->H l=none->aY H H'->H' l=some (.lst bP)->Bw H' ts a->Q (.ref l) H'):
  Aq K (Rt K X.C X.H) ξ [↑hp,↑ra,none,none,none,none,none,none,none] H:=by
 obtain⟨v,h1,h2,b,q⟩:=q;exact Za4 T.c v h1 h2 b q
end
theorem toN{x:Int}(h:0<=x):∃k:Nat,x=k:=⟨x.toNat,δ⟩
theorem U7(c:Nat):(⟨#[c]⟩:Str).length=1:=rfl
theorem Ztz(a b:Str):(a++b).length=a.length+b.length:=by
 show(a.cps++b.cps).size=_;rw[Array.size_append];rfl
theorem WY{d e:Type}{P:d->e->Prop}:∀{xs:List d}{c:List e},xs.length=c.length->(∀(i:Nat) x y,xs[i]? =some x->c[i]? =some y->P x y)->Al P xs c
 | [],[],_,_=>.nil
 | [],_::_,h,_=>by simp at h
 | _::_,[],h,_=>by simp at h
 | x::xs,y::c,h,p=>.cons (p 0 x y rfl rfl) (WY (by simpa using h) λi a b h1 h2=>p de a b (by simpa using h1) (by simpa using h2))
def eO(a:Int):List (Str×Au)->Nat->Wm->AE×Wm
 | [],_,M=>([],M)
 | m::l,k,M=>if a / 2 ^ k % 2=1 then((aO M m.2).1++(eO a l dG (aO M m.2).2).1,(eO a l dG (aO M m.2).2).2)else eO a l dG M
def lsE(x:Int):Nat->Nat->Int
 | _,0=>0
 | i,n+1=>if x / 2 ^ i % 2=0 then 2 ^ i else lsE x de n
def p6(k:Nat)(lo:Int)(n:Nat):Int:=if k=0 then 0 else if k=1 then lsE lo 0 n else 2 ^ n - 1
theorem Py(b:Int)(m:Str×Au):∀(l:List (Str×Au)) (k:Nat) (M:Wm),eO b (l++[m]) k M=if b / 2 ^ (k+l.length) % 2=1 then((eO b l k M).1++(aO (eO b l k M).2 m.2).1,(aO (eO b l k M).2 m.2).2)else eO b l k M
 | [],k,M=>by
  show(if b / 2 ^ k % 2=1 then((aO M m.2).1++[],(aO M m.2).2)else([],M))=_;rw[List.append_nil];rfl
 | a::l,k,M=>by
  have e:k+(a::l).length=k+1+l.length:=by rw[List.length_cons];omega
  rw[e,List.cons_append];show(if b / 2 ^ k % 2=1 then((aO M a.2).1++(eO b (l++[m]) dG (aO M a.2).2).1,(eO b (l++[m]) dG (aO M a.2).2).2)else eO b (l++[m]) dG M)=_;show _=if b / 2 ^ (k+1+l.length) % 2=1 then(((if b / 2 ^ k % 2=1 then((aO M a.2).1++(eO b l dG (aO M a.2).2).1,(eO b l dG (aO M a.2).2).2)else eO b l dG M)).1++(aO (if b / 2 ^ k % 2=1 then((aO M a.2).1++(eO b l dG (aO M a.2).2).1,(eO b l dG (aO M a.2).2).2)else eO b l dG M).2 m.2).1,(aO (if b / 2 ^ k % 2=1 then((aO M a.2).1++(eO b l dG (aO M a.2).2).1,(eO b l dG (aO M a.2).2).2)else eO b l dG M).2 m.2).2)else(if b / 2 ^ k % 2=1 then((aO M a.2).1++(eO b l dG (aO M a.2).2).1,(eO b l dG (aO M a.2).2).2)else eO b l dG M)
  by_cases h:b / 2 ^ k % 2=1
  ·simp only[if_pos h];rw[Py b m l dG]
   by_cases h2:b / 2 ^ (k+1+l.length) % 2=1
   ·simp only[if_pos h2,List.append_assoc]
   ·simp only[if_neg h2]
  ·simp only[if_neg h];rw[Py b m l dG]
theorem Ei:∀{l:Au}{M:Wm},(aO M l).2.hands=M.hands
 | [],_=>rfl
 | x::l,M=>by
  show(aO (bA M x).2 l).2.hands=_;rw[Ei,J2]
theorem w6(a:Int)(B:Nat):∀(l:List (Str×Au)) (k:Nat) (M:Wm),(∀m∈l,m.2.length<=B)->(eO a l k M).2.sw.phase=M.sw.phase/\(eO a l k M).2.sw.grey.length<=M.sw.grey.length+l.length * B/\(eO a l k M).1.length<=l.length * B/\(eO a l k M).2.hands=M.hands
 | [],_,_,_=>by simp[eO]
 | m::l,k,M,h=>by
  have hm:=h m ζ;have e:(m::l).length * B=l.length * B+B:=by rw[List.length_cons,Nat.succ_mul]
  unfold eO
  by_cases z:a / 2 ^ k % 2=1
  ·rw[if_pos z];obtain⟨b,f,g,c⟩:=w6 a B l dG (aO M m.2).2 λx hx=>h x (by simp[hx]);obtain⟨d,i⟩:=qY (l:=m.2) (M:=M);have j:=uL (l:=m.2) (M:=M);exact⟨b.trans d,by show(eO a l dG (aO M m.2).2).2.sw.grey.length<=_;omega,by show((aO M m.2).1++_).length<=_;rw[List.length_append];omega,c.trans Ei⟩
  ·rw[if_neg z];obtain⟨b,f,g,c⟩:=w6 a B l dG M λx hx=>h x (by simp[hx]);exact⟨b,δ,δ,c⟩
structure NtR(M M':Wm):Prop where
 rm:M'.room=M.room
 us:M'.used=M.used
 bn:M'.born=M.born
 hd:M'.hands=M.hands
 nm:M'.names=M.names
 ww:M'.w=M.w
 tl:M'.tells=M.tells
 sw:∃g,M'.sw={ M.sw with grey:=g }
 ce:M'.cells.map (λo=>o.map λc=>{ c with tone:=0 })=M.cells.map (λo=>o.map λc=>{ c with tone:=0 })
theorem NtR.refl(M:Wm):NtR M M:=⟨rfl,rfl,rfl,rfl,rfl,rfl,rfl,⟨_,rfl⟩,rfl⟩
theorem NtR.trans{M M1 M2:Wm}(a:NtR M M1)(b:NtR M1 M2):NtR M M2:=by
 obtain⟨o,l,n,v,t,c,s,⟨g,m⟩,k⟩:=a;obtain⟨i,e,r,p,u,q,h,⟨j,f⟩,d⟩:=b;exact⟨i.trans o,e.trans l,r.trans n,p.trans v,u.trans t,q.trans c,h.trans s,⟨j,by rw[f,m]⟩,d.trans k⟩
theorem Zan(M:Wm)(x:AA):NtR M (bA M x).2:=by
 cases x with
 | none=>exact NtR.refl M
 | some i=>
  unfold bA;dsimp only;cases hc:cellAt M i with
  | none=>exact NtR.refl M
  | some c=>
   dsimp only;split
   ·obtain⟨a,h1⟩:=bF.mp hc;refine⟨rfl,rfl,rfl,rfl,rfl,rfl,rfl,⟨_,rfl⟩,?_⟩;show(M.cells.set i.toNat _).map _=_;rw[List.map_set];refine List.ext_getElem? λk=>?_
    by_cases z:i.toNat=k
    ·subst z;rw[List.getElem?_set_self (by rw[aU];exact(cP h1).1),cz,h1];rfl
    ·rw[List.getElem?_set_ne z]
   ·exact NtR.refl M
theorem mJ:∀(l:Au) (M:Wm),NtR M (aO M l).2
 | [],M=>NtR.refl M
 | x::l,M=>(Zan M x).trans (mJ l _)
theorem Bb(a:Int):∀(l:List (Str×Au)) (k:Nat) (M:Wm),NtR M (eO a l k M).2
 | [],_,M=>NtR.refl M
 | m::l,k,M=>by
  unfold eO;split
  ·exact(mJ m.2 M).trans (Bb a l dG _)
  ·exact Bb a l dG M
theorem Zl5(a:Int)(l:List (Str×Au))(k:Nat)(M:Wm):(eO a l k M).2.sw.turn=M.sw.turn/\(eO a l k M).2.sw.looked=M.sw.looked/\(eO a l k M).2.sw.looks=M.sw.looks:=by
 obtain⟨g,e⟩:=(Bb a l k M).sw;rw[e];exact⟨rfl,rfl,rfl⟩
theorem Zhn{M:Wm}{x:AA}(h:(bA M x).1=none):(bA M x).2=M:=by
 cases x with
 | none=>rfl
 | some i=>
  unfold bA at h ⊢;dsimp only at h ⊢;cases hc:cellAt M i with
  | none=>rfl
  | some c=>
   rw[hc]at h;dsimp only at h ⊢;split
   ·rename_i z
    rw[if_pos z]at h;cases h
   ·rfl
theorem Pq:∀{l:Au}{M:Wm},(aO M l).1=[]->(aO M l).2=M
 | [],_,_=>rfl
 | x::l,M,h=>by
  have h:X4 (bA M x).1++(aO (bA M x).2 l).1=[]:=h;obtain⟨h1,h2⟩:=List.append_eq_nil_iff.mp h;have a:(bA M x).1=none:=by
   cases e:(bA M x).1 with
   | none=>rfl
   | some b=>rw[e]at h1;cases h1
  show(aO (bA M x).2 l).2=M;rw[Pq h2,Zhn a]
theorem X7(a:Int):∀{l:List (Str×Au)}{k:Nat}{M:Wm},(eO a l k M).1=[]->(eO a l k M).2=M
 | [],_,_,_=>rfl
 | m::l,k,M,h=>by
  unfold eO at h ⊢;split
  ·rename_i z
   rw[if_pos z]at h;obtain⟨h1,h2⟩:=List.append_eq_nil_iff.mp h;show(eO a l dG (aO M m.2).2).2=M;rw[X7 a h2,Pq h1]
  ·rename_i z
   rw[if_neg z]at h;exact X7 a h
theorem Zaw:∀(l:List (Str×Au)) (k:Nat) (M:Wm),eO 0 l k M=([],M)
 | [],_,_=>rfl
 | m::l,k,M=>by
  unfold eO;rw[if_neg ζ,Zaw l dG M]
inductive uY(X:Cs)(wo:AI)(bits:Int)(H:Hp)(Q:VK):Prop
 | mk (T s A M) (_:WT H T) (_:s≠0) (_:WJ X H T s A M) (_:A.wo=wo) (_:(∀m∈M.hands,m.2.length<=100)) (_:(M.sw.phase="walk"->M.sw.grey.length<=5000)) (_:∀H' T' l,dZ s H H' T T'->WJ X H' T' s A (eO bits M.hands 0 M).2->H' l=some (.lst ((eO bits M.hands 0 M).1.map V.int))->(H l=none/\TgO s (T' l))->Q (.ref l) H'):uY X wo bits H Q
def pB(X:Cs):Sp:=λvs H Q E=>∃wo a,vs=[.ref wo,.int a]/\uY X wo a H Q
def lJ(k:Nat):Sp:=λvs H Q E=>∃a lo h,vs=[.ref a,.int lo,.int h]/\0<=h/\h<=30/\Q (.int (p6 k lo h.toNat)) H
section
variable {K:aB}{X:Cs}{H:Hp}{Q:VK}{E:XK}{n:ν}{bk ct:ν}
theorem Ij{a:AI}(q:Q (.bl true) H):tD ξ [↑a] H:=by
 unfold tD;apply q
theorem Ui{a:AI}(q:Q (.bl false) H):zJ ξ [↑a] H:=by
 unfold zJ;apply q
theorem yl{a:AI}{lo h:Int}(q:0<=h/\h<=30/\Q (.int (p6 0 lo h.toNat)) H):nH ξ [↑a,some (.int lo),some (.int h)] H:=by
 unfold nH;apply q.2.2
theorem Gu{a:AI}{lo h:Int}(q:0<=h/\h<=30/\Q (.int (p6 2 lo h.toNat)) H):qJ RB ξ [↑a,some (.int lo),some (.int h)] H:=by
 obtain⟨b,h1,q⟩:=q;unfold qJ;apply⟨h,rfl,b,h1,q⟩
theorem Gw{a:AI}{lo h:Int}(q:0<=h/\h<=30/\Q (.int (p6 1 lo h.toNat)) H):qL ξ [↑a,some (.int lo),some (.int h),none] H:=by
 obtain⟨j,h1,q⟩:=q;have q:Q (.int (lsE lo 0 h.toNat)) H:=q;unfold qL;exists h,rfl,δ,δ;refine forR (λi c d=>∃v,c=[↑a,some (.int lo),some (.int h),v]/\d=H/\(i<=h.toNat->lsE lo 0 h.toNat=lsE lo i (h.toNat - i))) ⟨none,rfl,rfl,λ_=>rfl⟩ ?_ ?_
 ·rintro i c d hi ⟨v,rfl,rfl,b⟩;have b:=b δ;have g:h.toNat - i=(h.toNat - de)+1:=δ
  rw[g]at b;have f:lsE lo i (h.toNat - (i+1)+1)=if lo / 2 ^ i % 2=0 then 2 ^ i else lsE lo de (h.toNat - de):=rfl
  rw[f]at b;have e:((0:Int)+(i:Int)).toNat=i:=δ
  ext;rw[e,Zte];refine su da da
  ·rw[if_pos z]at b;apply i_I (Zqo δ δ) ?_;rw[e,Int.one_mul,<- b];exact q
  ·rw[if_neg z]at b;apply⟨_,rfl,rfl,λ_=>b⟩
 ·rintro c d ⟨v,rfl,rfl,b⟩;have b:=b Δ;rw[Nat.sub_self]at b;have b:lsE lo 0 h.toNat=0:=b;ext;rw[b]at q;exact q
theorem Sy{wo:AI}{a:Int}(E:lK K X)(q:uY X wo a H Q):
  zy K (mV X) ξ [↑wo,some (.int a),none,none,none] H:=by
 obtain⟨T,s,A,M,w,s0,j,rfl,hs,hg,q⟩:=q;have lh:=j.jd.lh;have l5:=j.jd.l5;unfold zy;apply⟨aR ζ,λl hl=>?_⟩;have e:dZ s H eB T (fX T l (s+1,1)):=dZ.fresh w hl;have o:WJ X eB (fX T l (s+1,1)) s A M:=j.fresh hl;have Y:upd H l (.lst []) l=some (.lst []):=aq;have tl:fX T l (s+1,1) l=(s+1,1):=eX;generalize upd H l (.lst [])=H1 at e o Y ⊢;generalize fX T l (s+1,1)=T1 at e o tl;obtain⟨dw,ow⟩:=o.jb.ow;apply aH ow E.cW E.nWd dD ?_;apply⟨A.hl,rfl,⟨_,bU.of o.jb.on⟩,Zvo (A.hs.map λp=>V.ref p.1) (λi U h=>∃J I F,U=[↑A.wo,some (.int a),↑l,I,F]/\dZ s H h T J/\J l=(s+1,1)/\WJ X h J s A (eO a (M.hands.take i) 0 M).2/\h l=some (.lst ((eO a (M.hands.take i) 0 M).1.map V.int))) ⟨T1,_,_,rfl,e,tl,o,Y⟩ (by rintro _ _ _ _ ⟨_,_,_,_,_,_,z,_⟩;exact bU.of z.jb.on) ?_ ?_⟩
 ·rintro i x t U h hx ⟨v,I,F,rfl,d,b,B,C⟩ Z;rw[cz]at hx;obtain⟨p,hp,rfl⟩:=Option.map_eq_some_iff.mp hx;have hil:i<A.hs.length:=(cP hp).1;obtain⟨m,hm⟩:∃m,M.hands[i]? =some m:=⟨_,bK δ⟩;have O:M.hands.take de=M.hands.take i++[m]:=by rw[List.take_add_one,hm];rfl
  have r:(M.hands.take i).length=i:=by rw[List.length_take];omega
  obtain⟨n1,n2,n3,n4⟩:=w6 a 100 (M.hands.take i) 0 M λx hx=>hs x (List.mem_of_mem_take hx);have g:=Py a m (M.hands.take i) 0 M;rw[<- O,Nat.zero_add,r]at g;generalize zz:upd h t _=H3;obtain⟨S,P⟩:=nwO Z zz;have R:=B.same S;have f:=d.trans (dZ.same (s:=s) d.wt S);have D:=S _ _ C;refine⟨t,_,rfl,dB.of P,rfl,.int i,_,rfl,?_⟩;exists .ref p.1,_,rfl;exists rfl;ext;rw[Zte,Int.toNat_natCast];refine su da da
  ·rw[if_pos z]at g;exists .inl ⟨rfl,_,bU.of D⟩;have u:(eO a (M.hands.take i) 0 M).2.hands[i]? =some m:=by rw[n4];exact hm
   have hd:=R.jd.hd i p m hp u;obtain⟨dx,o1⟩:=hd.o1;have L:=hs m (List.mem_of_getElem? hm);have hB:(M.hands.take i).length * 100<=3000:=by rw[r];omega
   apply aH o1 E.cD E.nDs lX ?_;apply⟨_,_,rfl,m.2,v,s,A,_,f.wt,s0,R,rfl,.inr (.inl ⟨i,p,m,hp,u,rfl,rfl⟩),L,λy=>?_,λH4 W l4 c j4 g4 nl4=>?_⟩
   ·have:=hg (n1.symm.trans y);omega
   have N:H4 l=some (.lst ((eO a (M.hands.take i) 0 M).1.map V.int)):=c.kp _ _ D (by rw[b];show s+1≠s;omega);have nl:=uL (l:=m.2) (M:=(eO a (M.hands.take i) 0 M).2);apply⟨l,l4,_,_,rfl,rfl,N,g4,by rw[aU,aU];exact aR δ,?_⟩;ext;have k:W l=(s+1,1):=(c.tg _ _ D).trans b;refine⟨W,_,_,rfl,dZ.new (f.trans c) hl N,k,?_,?_⟩
   ·rw[g];exact j4.other (s':=s+1) (dZ.upd c.wt N (by rw[k])) δ δ
   ·rw[g,aq,List.map_append]
  ·rw[if_neg z]at g;apply⟨v,_,_,rfl,f,b,by rw[g];exact R,by rw[g];exact D⟩
 ·rintro U h ⟨v,I,F,rfl,d,b,B,C⟩;ext;rw[aU,lh,List.take_length]at B C;exact q h v l d B C ⟨hl,by rw[b];exact .inr rfl⟩
end
structure Zcc(M:Wm):Prop where
 cl:M.cells.length<=900
 hl:∀m∈M.hands,m.2.length<=100
 fl:∀c,some c∈M.cells->c.fl.length<=50
 nl:M.names.length<=900
 gl:M.sw.phase="walk"->M.sw.grey.length<=900
 gc:M.sw.phase="walk"->∀x∈M.sw.grey,∃c,cellAt M x=some c
 ph:M.sw.phase="rest"\/M.sw.phase="walk"\/M.sw.phase="give"\/M.sw.phase="lost"
 a0:0<=M.sw.at'
inductive Zqp(H:Hp)(T:Tg)(M:Wm)(b:Int)(w:AE):Prop
 | mk (a wl) (_:M.sw.loss=.ref a) (_:T a=(0,0)) (_:H a=some (.tup [.str "lost",.int b,.ref wl])) (_:T wl=(0,0)) (_:H wl=some (.lst (w.map V.int))):Zqp H T M b w
inductive Zn9(H0 H:Hp)(T:Tg)(fr:Prop)(M:Wm)(b:Int)(w:AE)(ev:AI):Prop
 | mk (a wl) (_:M.sw.loss=.ref a) (_:T a=(0,0)) (_:H a=some (.tup [.str "lost",.int b,.ref wl])) (_:T wl=(0,0)) (_:H wl=some (.lst (w.map V.int))) (_:(∀x y l,H ev=some (.tup [x,y,.ref l])->wl≠l)) (_:(fr->H0 wl=none)):Zn9 H0 H T fr M b w ev
def kh(M:Wm)(i:Nat):Option Ce:=((M.cells[i]?).join).bind λc=>if c.tone=M.sw.sense then none else some c
def pW(M:Wm):AE:=(List.range M.cells.length).filterMap λi=>(kh M i).map λ_=>(i:Int)
def gh(M:Wm):AE:=(List.range M.cells.length).filterMap λi=>(kh M i).map (·.birth)
def fJ(M:Wm):Wm:={ M with sw:={ M.sw with stop:=M.cells.length,at':=0 } }
def bh(M:Wm):Int:=p6 M.w.toNat M.sw.looked M.hands.length
def jW(M:Wm):Prop:=bh M=0\/(M.w=2/\(eO bf M.hands 0 M).1=[])
inductive fZ(lb:Int)(lw:AE)(M:Wm):Ev->Wm->Prop
 | begin:M.sw.phase="rest"->fZ lb lw M ⟨"begin",some (M.sw.turn+1),(eO (dH M.w M.hands.length) M.hands 0 (fj M)).1⟩ (eO (dH M.w M.hands.length) M.hands 0 (fj M)).2
 | walk (x:Int) (g:AE) (c:Ce):M.sw.phase="walk"->M.sw.grey=x::g->cellAt M x=some c->fZ lb lw M ⟨"walk",some c.birth,(aO { M with sw:={ M.sw with grey:=g,walks:=M.sw.walks+1 } } c.fl).1⟩ (aO { M with sw:={ M.sw with grey:=g,walks:=M.sw.walks+1 } } c.fl).2
 | look (N:Wm):M.sw.phase="walk"->M.sw.grey=[]->¬ jW M->N=(eO (bh M) M.hands 0 M).2->fZ lb lw M ⟨"look",some (bh M),(eO (bh M) M.hands 0 M).1⟩ { N with sw:={ N.sw with looks:=N.sw.looks+1,looked:=if M.w=2 then N.sw.looked else Builtin.bitOr N.sw.looked (bh M) } }
 | cut (q qs:List (Int×AE)):M.sw.phase="walk"->M.sw.grey=[]->jW M->KB.Bx (fdOf M) (ig M) q q.length qs->(∀x∈qs,∀c,cellAt M x.1=some c->c.tone=M.sw.sense)->fZ lb lw M ⟨"cut",some (gh M).length,gh M⟩ { fJ M with sw:={ (fJ M).sw with phase:="give" } }
 | lost (q qs:List (Int×AE)) (i:Nat) (x:Int×AE) (c:Ce) (v:V):M.sw.phase="walk"->M.sw.grey=[]->jW M->KB.Bx (fdOf M) (ig M) q q.length qs->qs[i]? =some x->(∀(k:Nat) y d,k<i->qs[k]? =some y->cellAt M y.1=some d->d.tone=M.sw.sense)->cellAt M x.1=some c->c.tone≠M.sw.sense->fZ lb lw M ⟨"lost",some c.birth,x.2⟩ { fJ M with sw:={ (fJ M).sw with phase:="lost",loss:=v } }
 | pass:M.sw.phase="give"->M.sw.at'<M.sw.stop->(∀c,cellAt M M.sw.at'=some c->c.tone=M.sw.sense)->fZ lb lw M ⟨"pass",some M.sw.at',[]⟩ { M with sw:={ M.sw with at':=M.sw.at'+1,passes:=M.sw.passes+1 } }
 | back (c:Ce):M.sw.phase="give"->M.sw.at'<M.sw.stop->cellAt M M.sw.at'=some c->c.tone≠M.sw.sense->fZ lb lw M ⟨"back",some c.birth,[M.sw.at']⟩ { M with used:=M.used - (1+c.fl.length+c.bulk),cells:=M.cells.set M.sw.at'.toNat none,sw:={ M.sw with at':=M.sw.at'+1,passes:=M.sw.passes+1 } }
 | fin:M.sw.phase="give"->¬ M.sw.at'<M.sw.stop->fZ lb lw M ⟨"end",some M.sw.turn,[M.sw.walks,M.sw.looks,M.sw.passes]⟩ { M with sw:={ M.sw with phase:="rest" } }
 | again:M.sw.phase="lost"->fZ lb lw M ⟨"lost",some lb,lw⟩ M
inductive vX(X:Cs)(P:Wm->Prop)(wo:AI)(H:Hp)(Q:VK):Prop
 | mk (T s A M lb lw) (_:WT H T) (_:s≠0) (_:WJ X H T s A M) (_:A.wo=wo) (_:Zcc M) (_:P M) (_:(M.sw.phase="lost"->Zqp H T M lb lw)) (_:∀e M',fZ lb lw M e M'->∀H' T' A' a,dZ s H H' T T'->WJ X H' T' s A' M'->A'.wo=wo->EvN H H' T' s a e->(M'.sw.phase="lost"->∃b,e.thing=some b/\Zn9 H H' T' (M.sw.phase≠"lost") M' b e.notes a)->Q (.ref a) H'):vX X P wo H Q
def cM(X:Cs)(P:Wm->Prop):Sp:=λvs H Q E=>∃wo,vs=[.ref wo]/\vX X P wo H Q
def Zkj(M:Wm):Prop:=M.sw.phase="walk"/\M.sw.grey≠[]
def Zkm(M:Wm):Prop:=M.sw.phase="walk"/\M.sw.grey=[]
def Zkn(M:Wm):Prop:=M.sw.phase="walk"/\M.sw.grey=[]/\jW M
def Zkl(M:Wm):Prop:=M.sw.phase="give"/\M.sw.at'<M.sw.stop
def pEnd(M:Wm):Prop:=M.sw.phase="give"/\¬ M.sw.at'<M.sw.stop
def VF(z:Str)(M:Wm):Prop:=M.sw.phase=z
def Zde(_:Wm):Prop:=True
inductive uX(K:aB)(ev:AI)(H:Hp)(Q:VK):Prop
 | mk (z b l) (ns:AE) (_:H ev=some (.tup [.str z,.int b,.ref l])) (_:H l=some (.lst (ns.map V.int))) (_:∀a l' H',aY H H'->H a=none->H l'=none->H' a=some (.tup [.str z,.int b,.ref l'])->H' l'=some (.lst (ns.map V.int))->Q (.ref a) H'):uX K ev H Q
def vd(K:aB):Sp:=λvs H Q E=>∃ev,vs=[.ref ev]/\uX K ev H Q
inductive Bo(X:Cs)(wo:AI)(H:Hp)(Q:VK):Prop
 | mk (T s A M) (_:WJ X H T s A M) (_:A.wo=wo) (_:M.cells.length<=900) (_:∀l H',aY H H'->H l=none->H' l=some (.lst ((pW M).map V.int))->Q (.ref l) H'):Bo X wo H Q
def Rv(X:Cs):Sp:=λvs H Q E=>∃wo,vs=[.ref wo]/\Bo X wo H Q
section
variable {K:aB}{X:Cs}{H:Hp}{Q:VK}{E:XK}{n:ν}{bk ct:ν}
theorem RK{ev:AI}(q:uX K ev H Q):
  zq K ξ [↑ev] H:=by
 obtain⟨z,b,l,ns,o1,o2,q⟩:=q;unfold zq;exists ev,_,0,_,rfl,rfl,dB.of o1,rfl;exists ev,_,1,_,rfl,rfl,dB.of o1,rfl;exists ev,_,2,_,rfl,rfl,dB.of o1,rfl;apply YQ (bU.of o2) λd c=>?_;generalize zz:upd H d _=H1;obtain⟨g,h⟩:=nwO c zz;apply⟨aR ζ,λa e=>?_⟩;have f:=aK e (.tup [.str z,.int b,.ref d]);exact q a d _ (g.trans f) (g.free e) c aq (f _ _ h)
theorem QK{a b:Type}{f g:a->Option b}:∀{l:List a},(∀x∈l,f x=g x)->l.filterMap f=l.filterMap g
 | [],_=>rfl
 | x::l,h=>by
  rw[List.filterMap_cons,List.filterMap_cons,h x ζ,QK λy hy=>h y (by simp[hy])]
theorem Za7{a b:Type}(f:a->Option b):∀(xs:List a),(List.range xs.length).filterMap (λi=>(xs[i]?).bind f)=xs.filterMap f
 | []=>rfl
 | x::xs=>by
  rw[List.length_cons,List.range_succ_eq_map,List.filterMap_cons];simp only[List.getElem?_cons_zero,Option.bind_some,List.filterMap_map,List.filterMap_cons];have e:((λi=>((x::xs)[i]?).bind f) ∘ Nat.succ)=λi=>(xs[i]?).bind f:=by
   funext i
   simp
  rw[e,Za7 f xs]
theorem Zhf{A:Wa}{M:Wm}{T:Tg}{s:Nat}(j:WJ X H T s A M)(f:V->Option V)(d:∀(i:Nat) (c:Ce),M.cells[i]? =some (some c)->f (.int i)=(kh M i).map λ_=>V.int i):((plc dt).map V.int).filterMap f=(pW M).map V.int:=by
 unfold plc pW;rw[List.filterMap_map,List.filterMap_map,List.filterMap_filter,List.map_filterMap,aU,j.jc.lc];refine QK λi hi=>?_;have a:=List.mem_range.mp hi;have e:(A.cs.map pV)[i]? =some V.non↔M.cells[i]? =some none:=by
  constructor
  ·intro z;cases hc:M.cells[i]with
   | none=>rw[bK a,hc]
   | some c=>
    obtain⟨p,hp,_⟩:=j.jc.at (i:=i) (c:=c) (by rw[bK a,hc]);rw[cz,hp]at z;cases z
  ·intro z;rw[cz,j.jc.at0 z];rfl
 by_cases z:M.cells[i]? =some none
 ·rw[if_neg (by simp[e.mpr z])];unfold kh;rw[z];rfl
 ·have b:¬ (A.cs.map pV)[i]? =some V.non:=λy=>z (e.mp y);rw[if_pos (by simp only[b,decide_false,Bool.not_false])];cases hc:M.cells[i]with
  | none=>exact absurd (by rw[bK a,hc]) z
  | some c=>
   show f (.int (i:Int))=_;rw[d i c (by rw[bK a,hc]),Option.map_map];rfl
theorem Zbq{wo:AI}(e:lK K X)(q:Bo X wo H Q):
  wM K X.H (pD X.H) (gW X) ξ [↑wo,none] H:=by
 obtain⟨T,s,A,M,j,rfl,hc,q⟩:=q;obtain⟨I,ow⟩:=j.jb.ow;obtain⟨F,oh⟩:=j.jh.oh;unfold wM;apply aH ow e.cW e.Bv aW ?_;apply uh ?_;exists A.hp,F,_,rfl,oh,xM;apply⟨_,rfl,A.ca,M.room,M.used,M.born,_,j.hpO,by rw[aU,j.jc.lc];omega,λlt r=>?_⟩;generalize zz:upd H lt _=H1;obtain⟨m,u⟩:=nwO r zz;have d:=j.same m;have J:(plc dt).length<=900:=by
  unfold plc;rw[aU];refine Nat.le_trans (List.length_filter_le _ _) ?_;rw[List.length_range,aU,j.jc.lc];exact hc
 refine⟨lt,rfl,⟨_,bU.of u⟩,?_⟩
 let f:V->Option V:=λv=>match v with
  | .int p=>(kh M p.toNat).map λ_=>V.int p
  | _=>none
 refine Yi (bU.of u) (λi=>(((plc dt).map V.int)[i]?).bind f) (by rw[aU];omega) (λi x hi=>?_) ?_
 ·rw[cz]at hi;obtain⟨p,hp,rfl⟩:=Option.map_eq_some_iff.mp hi;have hm:=List.mem_of_getElem? hp;unfold plc at hm;obtain⟨k,hk,rfl⟩:=List.mem_map.mp hm;obtain⟨g,o⟩:=List.mem_filter.mp hk;have a:k<M.cells.length:=by
   have:=List.mem_range.mp g;rw[aU,j.jc.lc]at this;exact this
  obtain⟨c,b⟩:∃c,M.cells[k]? =some (some c):=by
   cases C:M.cells[k]with
   | none=>
    exfalso
    have:(A.cs.map pV)[k]? =some V.non:=by rw[cz,j.jc.at0 (i:=k) (by rw[bK a,C])];rfl
    simp[this]at o
   | some c=>exact⟨c,by rw[bK a,C]⟩
  obtain⟨t,l,ce⟩:=d.jc.at b;have w:(((plc dt).map V.int)[i]?).bind f=(kh M k).map λ_=>V.int (k:Int):=by
   rw[cz,hp];show(kh M (Int.toNat k)).map _=_;rw[Int.toNat_natCast]
  have D:(kh M k)=if c.tone=M.sw.sense then none else some c:=by unfold kh;rw[b];rfl
  obtain⟨E,h⟩:=d.jh.oh;refine⟨λq hq=>?_,λy q hy hq=>?_⟩
  ·rw[w,D]at hq;walk_at"c";apply aH h e.c.cL e.c.bO bN ?_;apply fL (bU.of d.jh.oc) (gm (v:=.ref t.1) (by rw[cz,l];rfl)) ?_;exists _,_,rfl,T,s,A,M,_,t,c,d.w0,rfl,ce,rfl;ext
   by_cases z:c.tone=M.sw.sense
   ·rw[if_pos z]at hq;rw[decide_eq_true z];exact hq
   ·rw[if_neg z]at hq;rw[decide_eq_false z];exact hq
  ·rw[w]at hy;obtain⟨_,_,rfl⟩:=Option.map_eq_some_iff.mp hy;walk_at"c";apply hq
 ·intro p B;rw[Za7 f,Zhf j f (λi c hc=>by show(kh M (Int.toNat i)).map _=_;rw[Int.toNat_natCast])];exact q p _ (m.trans (aK B _)) (m.free B) aq
theorem Lr{wo:AI}(c:lK K X)(q:vX X (VF "rest") wo H Q):vH K (Zgt X) (pB X) ξ [↑wo,none] H:=by
 obtain⟨T,s,A,M,D,lw,w,r,j,rfl,ok,ph,lo,q⟩:=q;unfold vH;apply⟨_,rfl,T,s,A,M,w,r,j,rfl,λF B i d m b=>?_⟩;obtain⟨E,ow⟩:=m.jb.ow;obtain⟨I,os⟩:=m.js.os;rw[b]at ow;apply aH ow c.cW c.P0 aZ ?_;apply aH os c.cS c.n4 gA ?_;apply⟨_,_,rfl,B,s,i,_,d.wt,r,m,b,ok.hl,λ_=>Nat.zero_le _,λu x l e f t g=>?_⟩;have f:WJ X u x s i (eO bt M.hands 0 (fj M)).2:=f;have t:u l=some (.lst ((eO bt M.hands 0 (fj M)).1.map V.int)):=t;obtain⟨C,h⟩:=f.jb.ow;obtain⟨y,p⟩:=f.js.os;rw[b]at h;have o:=Zl5 bt M.hands 0 (fj M);apply aH h c.cW c.P0 aZ ?_;apply aH p c.cS c.n5 pJ ?_;apply⟨aR ζ,λa v=>?_⟩;rw[o.1];have k:=aK v (.tup [.str "begin",.int (M.sw.turn+1),.ref l]);refine q _ _ (.begin ph) _ x i a (d.trans (e.trans (dZ.same e.wt k))) (f.same k) b ⟨l,⟨dZ.free d g.1,g.2,(vZ e.wt r v).2⟩,aq,k _ _ t⟩ λz=>?_;have:=(w6 bt 100 M.hands 0 (fj M) ok.hl).1;rw[this]at z;exact absurd z (show ¬ ("walk":Str)="lost" by decide)
end
inductive u5(X:Cs)(wo:AI)(H:Hp)(Q:VK):Prop
 | mk (T s A M) (_:WT H T) (_:s≠0) (_:WJ X H T s A M) (_:A.wo=wo) (_:Zcc M) (_:(∀q qs H',KB.Bx (fdOf M) (ig M) q q.length qs->(∀x∈qs,∀c,cellAt M x.1=some c->c.tone=M.sw.sense)->aY H H'->Q .non H')) (_:(∀q qs (i:Nat) x c a wl H',KB.Bx (fdOf M) (ig M) q q.length qs->qs[i]? =some x->(∀(k:Nat) y d,k<i->qs[k]? =some y->cellAt M y.1=some d->d.tone=M.sw.sense)->cellAt M x.1=some c->c.tone≠M.sw.sense->aY H H'->H a=none->H wl=none->H' a=some (.tup [.str "lost",.int c.birth,.ref wl])->H' wl=some (.lst (x.2.map V.int))->Q (.ref a) H')):u5 X wo H Q
def Gr(X:Cs):Sp:=λvs H Q E=>∃wo,vs=[.ref wo]/\u5 X wo H Q
section
variable {K:aB}{X:Cs}{H:Hp}{Q:VK}{E:XK}{n:ν}{bk ct:ν}
theorem Zjj{a:Type}(f:a->Nat)(B:Nat):∀(xs:List a),(∀x∈xs,f x<=B)->(xs.map f).sum<=xs.length * B
 | [],_=>ζ
 | x::xs,h=>by
  have h1:=h x ζ;have h2:=Zjj f B xs λy hy=>h y (by simp[hy]);rw[List.map_cons,List.sum_cons,List.length_cons,Nat.succ_mul];omega
theorem Zqh{a b:Type}(f:a->List b)(B:Nat):∀(xs:List a),(∀x∈xs,(f x).length<=B)->(xs.flatMap f).length<=xs.length * B
 | [],_=>ζ
 | x::xs,h=>by
  have h1:=h x ζ;have h2:=Zqh f B xs λy hy=>h y (by simp[hy]);rw[List.flatMap_cons,List.length_append,List.length_cons,Nat.succ_mul];omega
theorem Zt2{M:Wm}{T:Tg}{s:Nat}{A:Wa}(j:WJ X H T s A M)(ok:Zcc M):Few (fdOf M) (ig M):=by
 have l5:=j.jd.l5;have lh:=j.jd.lh;have hl:(heldOf M).length=M.hands.length:=by unfold heldOf;rw[aU]
 have hr:(ig M).length<=31:=by unfold ig;rw[List.length_append,hl,<- lh];simp;omega
 have a:∀x∈ig M,x.length<=900:=λx hx=>by
  unfold ig at hx;rcases List.mem_append.mp hx with hx | hx
  ·obtain⟨m,hm,rfl⟩:=List.mem_map.mp hx;exact Nat.le_trans (ok.hl m hm) ε
  ·rw[List.mem_singleton.mp hx];unfold pO;rw[aU];exact ok.nl
 have f:(fdOf M).length=M.cells.length:=by unfold fdOf;rw[aU]
 have d:=ok.cl;have b:∀(i:Nat) x,(fdOf M)[i]? =some x->KB.wgt x<=50:=λi x hx=>by
  unfold fdOf at hx;rw[cz]at hx;obtain⟨o,e,rfl⟩:=Option.map_eq_some_iff.mp hx;cases o with
  | none=>exact Nat.zero_le _
  | some c=>exact ok.fl c (List.mem_of_getElem? e)
 refine⟨δ,λp fl hp=>?_,δ,λx hx=>by have:=a x hx;omega,?_⟩
 ·rw[Zec]at hp;obtain⟨c,hc,rfl⟩:=Option.map_eq_some_iff.mp hp;have:=ok.fl c (mR hc);omega
 ·unfold KB.total;have h1:(KB.q0 (fdOf M) 0 (ig M)).length<=31 * 900:=by
   unfold KB.q0;refine Nat.le_trans (Zqh _ 900 _ λx hx=>?_) (by rw[List.length_zipIdx];exact Nat.mul_le_mul_right _ hr);refine Nat.le_trans KB.Ms (a x.1 ?_);obtain⟨_,h2⟩:=List.mem_zipIdx_iff_le_and_getElem?_sub.mp hx;exact List.mem_of_getElem? h2
  have h2:KB.Zcl (fdOf M) []<=900 * 50:=by
   unfold KB.Zcl;refine Nat.le_trans (Zjj _ 50 _ λx hx=>?_) (by rw[List.length_zipIdx,f];exact Nat.mul_le_mul_right _ d);obtain⟨_,h2⟩:=List.mem_zipIdx_iff_le_and_getElem?_sub.mp hx;simp only[List.map_nil,List.not_mem_nil,↓reduceIte];exact b _ _ h2
  omega
theorem Zfj{M:Wm}:∀{a:List Au}{ls:AF},ls.length=a.length->(∀(j:Nat) r x,ls[j]? =some r->a[j]? =some x->H r=some (.lst (x.map oV)))->Bt K H ls a
 | [],[],_,_=>trivial
 | [],_::_,h,_=>by simp at h
 | _::_,[],h,_=>by simp at h
 | x::a,r::ls,h,g=>⟨bU.of (g 0 r x rfl rfl),Zfj (M:=M) (by simpa using h) λj r x b c=>g (j+1) r x (by simpa using b) (by simpa using c)⟩
theorem TQ{wo:AI}(g:lK K X)(q:u5 X wo H Q):
  zA K (gW X) (W2 K X.C X.H) (Zgo X) ξ [↑wo,none,none,none] H:=by
 obtain⟨T,s,A,M,w,s0,j,rfl,ok,q1,q2⟩:=q;obtain⟨dw,ow⟩:=j.jb.ow;have l5:=j.jd.l5;have lh:=j.jd.lh;have nl:=ok.nl;unfold zA;apply aH ow g.cW g.Bv aW ?_;apply⟨_,rfl,T,s,A,M,s0,j,rfl,δ,δ,λra rs H1 s1 nra J W nrs nrl g1=>?_⟩;apply⟨A.hp,ra,fdOf M,rs,ig M,rfl,(j.same s1).w0.hv,bU.of J,Zfj (M:=M) W g1,Zt2 j ok,λl ts q m H2 L nl2 s2 ol qa=>?_⟩;have f:=s1.trans s2;have r:=j.same f;have good:=L.good.2;have D:=qa.len;obtain⟨dw2,O⟩:=r.jb.ow;obtain⟨dh2,F⟩:=r.jh.oh;refine⟨l,rfl,⟨_,bU.of ol⟩,forL bP (λi σ E=>∃S Z I,σ=[↑A.wo,S,Z,I]/\E=H2/\∀(k:Nat) y d,k<i->m[k]? =some y->cellAt M y.1=some d->d.tone=M.sw.sense) ⟨_,_,_,rfl,rfl,λk y d hk=>absurd hk (Nat.not_lt_zero _)⟩ (by rintro _ _ _ _ ⟨_,_,_,_,z,_⟩;rw[z];exact bU.of ol) ?_ ?_⟩
 ·rintro i x σ E hi ⟨S,Z,I,rfl,rfl,b⟩;rw[cz]at hi;obtain⟨t,ht,rfl⟩:=Option.map_eq_some_iff.mp hi;have B:i<m.length:=by rw[<- D];exact(cP ht).1
  obtain⟨t',wa,et,ot,p⟩:=qa.at (bK B);rw[ht]at et;cases et;have hx:m[i]? =some m[i]:=bK B;generalize m[i]=x at hx ot p;obtain⟨fl,o⟩:=Option.isSome_iff_exists.mp (good x (List.mem_of_getElem? hx)).there;rw[Zec]at o;obtain⟨c,hc,_⟩:=Option.map_eq_some_iff.mp o;obtain⟨x0,U⟩:=bF.mp hc;obtain⟨pp,R,ce⟩:=r.jc.at U;obtain⟨_,_,⟨dc,oc⟩,_⟩:=id ce;refine⟨t,_,rfl,dB.of ot,rfl,?_⟩;refine⟨_,_,rfl,?_⟩;exists _,_,rfl;exists rfl;apply aH O g.cW g.Bv aW ?_;refine aH F g.c.cL g.c.bO bN ?_;apply fL (bU.of r.jh.oc) (lY (v:=.ref pp.1) x0 (by rw[cz,R];rfl)) ?_;exists _,_,rfl,T,s,A,M,_,pp,c,r.w0,rfl,ce,rfl;apply uQ da da
  ·apply aH oc g.c.cY g.c.dR eF ?_;apply Zov (dB.of p) λP u=>?_;generalize zz:upd E P _=H3;obtain⟨s3,g3⟩:=nwO u zz;apply⟨aR ζ,λa na=>?_⟩;have s4:=aK na (.tup [.str "lost",.int c.birth,.ref P]);exact q2 q m i x c a P _ L hx b hc z (f.trans (s3.trans s4)) (f.free (s3.free na)) (f.free u) aq (s4 _ _ g3)
  ·apply⟨_,_,_,rfl,rfl,λk y d hk N Y=>?_⟩
   by_cases h:k<i
   ·exact b k y d h N Y
   ·have:k=i:=δ
    subst this;rw[hx]at N;cases N;rw[hc]at Y;cases Y;exact z
 ·rintro σ E ⟨S,Z,I,rfl,rfl,b⟩;rw[aU,D]at b;apply q1 q m E L (λx hx c hc=>?_) f;obtain⟨k,hk,e⟩:=List.getElem_of_mem hx;exact b k x c hk (by rw[bK hk,e]) hc
theorem Xz{M:Wm}:((pW M).map some).map (mU M)=(gh M).map some:=by
 unfold pW gh;rw[List.map_map,List.map_filterMap,List.map_filterMap];refine QK λi hi=>?_;rw[Option.map_map,Option.map_map];cases hp:kh M i with
 | none=>rfl
 | some c=>
  unfold kh at hp;obtain⟨d,hd,e⟩:=Option.bind_eq_some_iff.mp hp;have a:d=c:=by
   split at e
   ·cases e
   ·exact Option.some.inj e
  subst a;show some (mU M (some (i:Int)))=some (some d.birth);have:cellAt M (i:Int)=some d:=by
   unfold cellAt;rw[if_pos δ,Int.toNat_natCast,hd]
  show some ((cellAt M (i:Int)).map _)=_;rw[this];rfl
theorem Zdd{M:Wm}(h:M.cells.length<=900):(gh M).length<=900/\(pW M).length<=900:=by
 unfold gh pW;have h1:=List.length_filterMap_le (λi=>(kh M i).map (·.birth)) (List.range M.cells.length);have h2:=List.length_filterMap_le (λ(i:Nat)=>(kh M i).map λ_=>(i:Int)) (List.range M.cells.length);rw[List.length_range]at h1 h2;exact⟨δ,δ⟩
theorem Ztb{wo:AI}(f:lK K X)(q:vX X Zkn wo H Q):Zjx K (oA X) (Gr X) (Rv X) (vd K) ξ [↑wo,none,none,none] H:=by
 obtain⟨T,s,A,M,lb,lw,w,p,j,rfl,ok,⟨ph,gr,cd⟩,lo,q⟩:=q;obtain⟨dw,ow⟩:=j.jb.ow;obtain⟨R,os⟩:=j.js.os;obtain⟨dh,oh⟩:=j.jh.oh;have O:=ok.cl;unfold Zjx;apply aH ow f.cW f.P0 aZ ?_;apply aH ow f.cW f.Bv aW ?_;refine aH oh f.c.cL f.c.bO bN ?_;apply dU (bU.of j.jh.oc) ?_;rw[aU,j.jc.lc];apply⟨A.sw,X.S,R,_,rfl,os,f.cS,f.n7,by show 11<1000;decide,?_⟩;rw[Li];apply⟨A.sw,X.S,R,_,rfl,aq,f.cS,f.n6,by show 11<1000;decide,?_⟩;rw[yS,dF];obtain⟨b,u⟩:=j.sweep w p (dx:=R) { M.sw with stop:=M.cells.length,at':=0 } rfl;have u:WJ X _ T s A (fJ M):=u;generalize upd H A.sw (.ins X.S R (bY M.sw.sense M.sw.phase A.gr M.sw.looked M.sw.turn 0 M.cells.length M.sw.walks M.sw.looks M.sw.passes M.sw.loss))=H1 at b u ⊢;have Z:Zcc (fJ M):=⟨ok.cl,ok.hl,ok.fl,ok.nl,ok.gl,ok.gc,ok.ph,Int.le_refl _⟩;apply⟨_,rfl,T,s,A,fJ M,b.wt,p,u,rfl,Z,λU W L Y t k=>?_,λU W i x c a F L Y hx t hc ht k P E oa C=>?_⟩
 ·have v:=u.same k;obtain⟨dw2,ow2⟩:=v.jb.ow;obtain⟨e,h⟩:=v.js.os;apply⟨A.sw,X.S,e,_,rfl,h,f.cS,f.n2,by show 11<1000;decide,?_⟩;rw[jL];obtain⟨d,g⟩:=v.sweep (b.wt.same k) p (dx:=e) { (fJ M).sw with phase:="give" } rfl;have g:WJ X _ T s A { fJ M with sw:={ (fJ M).sw with phase:="give" } }:=g;generalize upd L A.sw (.ins X.S e (bY (fJ M).sw.sense "give" A.gr (fJ M).sw.looked (fJ M).sw.turn (fJ M).sw.at' (fJ M).sw.stop (fJ M).sw.walks (fJ M).sw.looks (fJ M).sw.passes (fJ M).sw.loss))=H3 at d g ⊢;obtain⟨dw3,ow3⟩:=g.jb.ow;obtain⟨ob,ol⟩:=Zdd O;apply aH ow3 f.cW f.Bv aW ?_;apply⟨_,rfl,T,s,A,_,g,rfl,O,λl4 H4 o nl4 g4=>?_⟩;have e4:(pW { fJ M with sw:={ (fJ M).sw with phase:="give" } }).map V.int=((pW M).map some).map oV:=by
   rw[List.map_map];rfl
  rw[e4]at g4;apply⟨A.hp,l4,rfl,T,s,A,_,(pW M).map some,g.same o,rfl,g4,by rw[aU];omega,λl5 J=>?_⟩;have e5:(((pW M).map some).map (mU { fJ M with sw:={ (fJ M).sw with phase:="give" } })).map oV=(gh M).map V.int:=by
   have:mU { fJ M with sw:={ (fJ M).sw with phase:="give" } }=mU M:=by funext x;cases x<;>rfl
   rw[this,Xz,List.map_map];rfl
  rw[e5];generalize zz:upd H4 l5 _=H5;obtain⟨s5,g5⟩:=nwO J zz;apply dU (bU.of g5) ?_;rw[aU];apply⟨aR ζ,λa P=>?_⟩;have s6:=aK P (.tup [.str "cut",.int (gh M).length,.ref l5]);have I:=o.trans (s5.trans s6);have D:H l5=none:=dZ.free b (k.free (dZ.free d (o.free J)));exact q _ _ (.cut U W ph gr cd Y t) _ T A a (b.trans ((dZ.same b.wt k).trans (d.trans (dZ.same d.wt I)))) (g.same I) rfl ⟨l5,⟨D,(vZ w p D).2,(vZ d.wt p ((o.trans s5).free P)).2⟩,aq,s6 _ _ g5⟩ λz=>absurd z (show ¬ ("give":Str)="lost" by decide)
 ·have v:=u.same k;have w2:=b.wt.same k;obtain⟨e,h⟩:=v.js.os;apply⟨A.sw,X.S,e,_,rfl,h,f.cS,f.n2,by show 11<1000;decide,?_⟩;rw[jL];apply⟨A.sw,X.S,e,_,rfl,aq,f.cS,f.n11,by show 11<1000;decide,?_⟩;rw[Lj,dF];obtain⟨d,g⟩:=v.sweep w2 p (dx:=e) { (fJ M).sw with phase:="lost",loss:=.ref a } rfl;have g:WJ X _ T s A { fJ M with sw:={ (fJ M).sw with phase:="lost",loss:=.ref a } }:=g;have ta:T a=(0,0):=b.wt _ P;have tw:T F=(0,0):=b.wt _ E;have r:upd L A.sw (.ins X.S e a8) a=some (.tup [.str "lost",.int c.birth,.ref F]):=(aC (lg oa h aS)).trans oa;have m:upd L A.sw (.ins X.S e a8) F=some (.lst (x.2.map V.int)):=(aC (lg C h aS)).trans C;generalize upd L A.sw (.ins X.S e a8)=H3 at d g r m ⊢;apply⟨a,rfl,"lost",c.birth,F,x.2,r,m,λa' l' H4 o na' B N ol'=>?_⟩;have D:H l'=none:=dZ.free b (k.free (dZ.free d B));exact q _ _ (.lost U W i x c (.ref a) ph gr cd Y hx t hc ht) _ T A a' (b.trans ((dZ.same b.wt k).trans (d.trans (dZ.same d.wt o)))) (g.same o) rfl ⟨l',⟨D,(vZ w p D).2,(vZ d.wt p na').2⟩,N,ol'⟩ λ_=>⟨c.birth,rfl,a,F,rfl,ta,o _ _ r,tw,o _ _ m,(λx y l z=>by rw[N]at z;cases z;exact aF m B),λ_=>dZ.free b E⟩
end
section
variable {K:aB}{X:Cs}{H:Hp}{Q:VK}{E:XK}{n:ν}{bk ct:ν}
theorem Znd{wo:AI}(b:lK K X)(q:vX X Zkj wo H Q):Zfm K (mV X) ξ [↑wo,none,none] H:=by
 obtain⟨T,s,A,M,U,lw,w,y,j,rfl,ok,⟨ph,gr⟩,lo,q⟩:=q;obtain⟨W,ow⟩:=j.jb.ow;obtain⟨ds,os⟩:=j.js.os;obtain⟨dh,oh⟩:=j.jh.oh;have og:=j.js.og;cases hg:M.sw.grey with
 | nil=>exact absurd hg gr
 | cons x g=>
  obtain⟨c,hc⟩:=ok.gc ph x (by rw[hg];simp);obtain⟨N,k⟩:=bF.mp hc;have D:=ok.gl ph;have O:=ok.fl c (mR hc);rw[hg]at og;unfold Zfm;apply aH ow b.cW b.P0 aZ ?_;apply aH ow b.cW b.Bv aW ?_;refine aH oh b.c.cL b.c.bO bN ?_;apply aH os b.cS b.n3 lM ?_;exists .inl ⟨rfl,_,bU.of og⟩;exists A.gr,_,0,0,.int x,rfl,rfl,og,ε,ε,by simp[seqIndex?],rfl;obtain⟨d,t⟩:=j.Zqe w y (g:=g);show jg K _ _ (upd H A.gr (.lst (g.map V.int))) _;generalize upd H A.gr (.lst (g.map V.int))=H1 at d t ⊢;obtain⟨F,f,ce⟩:=t.jc.at (i:=x.toNat) (c:=c) k;refine fL (bU.of t.jh.oc) (lY (v:=.ref F.1) N (by rw[cz,f];rfl)) ?_;obtain⟨p,r⟩:=t.js.os;apply aH r b.cS b.n8 vp ?_;apply⟨A.sw,X.S,p,_,rfl,r,b.cS,b.n8,by show 11<1000;decide,?_⟩;rw[sO];obtain⟨e,u⟩:=t.sweep d.wt y (dx:=p) { M.sw with grey:=g,walks:=M.sw.walks+1 } rfl;have u:WJ X _ T s A { M with sw:={ M.sw with grey:=g,walks:=M.sw.walks+1 } }:=u;generalize upd H1 A.sw _=Y at e u ⊢;obtain⟨R,o,C⟩:=u.jc.at (i:=x.toNat) (c:=c) k;rw[f]at o;cases o;obtain⟨_,_,⟨Z,oc⟩,P⟩:=id C;apply aH oc b.c.cY b.c.dR eF ?_;apply aH oc b.c.cY b.c.fH gK ?_;apply⟨_,_,rfl,c.fl,T,s,A,_,e.wt,y,u,rfl,.inr (.inr ⟨x.toNat,F,c,f,k,rfl,rfl⟩),δ,λ_=>?_,λH3 J l h L I m=>?_⟩
  ·show g.length<=10000;rw[hg,List.length_cons]at D;omega
  apply⟨aR ζ,λa E=>?_⟩;have B:=aK E (.tup [.str "walk",.int c.birth,.ref l]);refine q _ _ (.walk x g c ph hg hc) _ J A a (d.trans (e.trans (h.trans (dZ.same h.wt B)))) (L.same B) rfl ⟨l,⟨dZ.free d (dZ.free e m.1),m.2,(vZ h.wt y E).2⟩,aq,B _ _ I⟩ λz=>?_;rw[(qY (l:=c.fl) (M:={ M with sw:={ M.sw with grey:=g,walks:=M.sw.walks+1 } })).1]at z;exact absurd (ph.symm.trans z) (show ¬ ("walk":Str)="lost" by decide)
theorem R6{wo:AI}(e:lK K X)(q:vX X Zkl wo H Q):zx K X.H (yj X.C X.H) (jl X.H) (gW X) ξ [↑wo,none,none,none] H:=by
 obtain⟨T,s,A,M,lb,lw,w,r,j,rfl,ok,⟨ph,lt⟩,lo,q⟩:=q;obtain⟨dw,ow⟩:=j.jb.ow;obtain⟨N,os⟩:=j.js.os;unfold zx;apply aH ow e.cW e.P0 aZ ?_;apply aH os e.cS e.n6 BR ?_;apply⟨A.sw,X.S,N,_,rfl,os,e.cS,e.n6,by show 11<1000;decide,?_⟩;rw[yS];apply aH aq e.cS e.n10 sS ?_;apply⟨A.sw,X.S,N,_,rfl,aq,e.cS,e.n10,by show 11<1000;decide,?_⟩;rw[qD,dF];obtain⟨b,o⟩:=j.sweep w r (dx:=N) { M.sw with at':=M.sw.at'+1,passes:=M.sw.passes+1 } rfl;generalize upd H A.sw _=J at b o ⊢;obtain⟨dw1,u⟩:=o.jb.ow;obtain⟨I,F⟩:=o.jh.oh;apply aH u e.cW e.Bv aW ?_;exists _,_,rfl,tY (some M.sw.at'),_,_,_,_,_,o.hpO;have t:(∀c,cellAt M M.sw.at'=some c->c.tone=M.sw.sense)->∀l a p,J a=none->J l=none->aY J p->p a=some (.tup [.str "pass",.int M.sw.at',.ref l])->p l=some (.lst [])->Q (.ref a) p:=λhp l a p g nl h oa ol=>
  q _ _ (.pass ph lt hp) _ T A a (b.trans (dZ.same b.wt h)) (o.same h) rfl ⟨l,⟨dZ.free b nl,(vZ b.wt r nl).2,(vZ b.wt r g).2⟩,oa,ol⟩ λz=>absurd (ph.symm.trans z) (show ¬ ("give":Str)="lost" by decide)
 rcases o.look (some M.sw.at')with ⟨L,E⟩ | ⟨i,c,R,Z,h0,D,x,Y,E,ce⟩
 ·have L:cellAt M M.sw.at'=none:=L;rw[show atO dt (.int M.sw.at')=.non from E];apply⟨aR ζ,λl nl=>⟨aR ζ,λa g=>?_⟩⟩;have h:=aK nl (.lst []);have m:=aK g (.tup [.str "pass",.int M.sw.at',.ref l]);exact t (λc hc=>by rw[L]at hc;cases hc) l a _ (h.free g) nl (h.trans m) aq (m _ _ aq)
 ·cases Z;have D:cellAt M M.sw.at'=some c:=D;rw[show atO dt (.int M.sw.at')=.ref R.1 from E];exists _,_,rfl,T,s,A,_,_,R,c,o.w0,rfl,ce,rfl
  by_cases z:c.tone=M.sw.sense
  ·rw[decide_eq_true (show c.tone=({ M.sw with at':=M.sw.at'+1,passes:=M.sw.passes+1 }:Sw).sense from z)];apply⟨aR ζ,λl nl=>⟨aR ζ,λa g=>?_⟩⟩;have h:=aK nl (.lst []);have m:=aK g (.tup [.str "pass",.int M.sw.at',.ref l]);exact t (λd hd=>by rw[D]at hd;cases hd;exact z) l a _ (h.free g) nl (h.trans m) aq (m _ _ aq)
  ·rw[decide_eq_false (show ¬ c.tone=({ M.sw with at':=M.sw.at'+1,passes:=M.sw.passes+1 }:Sw).sense from z)];obtain⟨k,B⟩:=toN h0;have hk:M.cells[k]? =some (some c):=by rw[B,Int.toNat_natCast]at x;exact x
   apply aH u e.cW e.Bv aW ?_;exists A.hp,I,_,rfl,F,TF;ext;rw[B];refine Zih o b.wt r hk λp W f V O=>?_;apply⟨aR ζ,λl nl=>⟨aR ζ,λa g=>?_⟩⟩;have m:=aK nl (.lst [.int (k:Int)]);have P:=aK g (.tup [.str "back",.int c.birth,.ref l]);have v:=m.trans P;have U:=fZ.back (lb:=lb) (lw:=lw) (M:=M) c ph lt D z;rw[B,Int.toNat_natCast]at U;rw[B]at V;exact q _ _ U _ T W a (b.trans (f.trans (dZ.same f.wt v))) (V.same v) O ⟨l,⟨dZ.free b (dZ.free f nl),(vZ f.wt r nl).2,(vZ f.wt r (m.free g)).2⟩,aq,P _ _ aq⟩ λy=>absurd (ph.symm.trans y) (show ¬ ("give":Str)="lost" by decide)
theorem Zt6{wo:AI}(c:lK K X)(q:vX X pEnd wo H Q):Zjv K ξ [↑wo,none] H:=by
 obtain⟨T,s,A,M,p,lw,w,g,j,rfl,ok,⟨ph,lt⟩,lo,q⟩:=q;obtain⟨r,ow⟩:=j.jb.ow;obtain⟨m,os⟩:=j.js.os;unfold Zjv;apply aH ow c.cW c.P0 aZ ?_;apply⟨A.sw,X.S,m,_,rfl,os,c.cS,c.n2,by show 11<1000;decide,?_⟩;rw[jL];obtain⟨b,f⟩:=j.sweep w g (dx:=m) { M.sw with phase:="rest" } rfl;generalize upd H A.sw _=t at b f ⊢;obtain⟨o,d⟩:=f.js.os;apply aH d c.cS c.n5 pJ ?_;apply aH d c.cS c.n8 vp ?_;apply aH d c.cS c.n9 oH ?_;apply aH d c.cS c.n10 sS ?_;apply⟨aR ζ,λl nl=>⟨aR ζ,λa k=>?_⟩⟩;have h:=aK nl (.lst [.int M.sw.walks,.int M.sw.looks,.int M.sw.passes]);have i:=aK k (.tup [.str "end",.int M.sw.turn,.ref l]);have e:=h.trans i;exact q _ _ (.fin ph lt) _ T A a (b.trans (dZ.same b.wt e)) (f.same e) rfl ⟨l,⟨dZ.free b nl,(vZ b.wt g nl).2,(vZ b.wt g (h.free k)).2⟩,aq,i _ _ aq⟩ λz=>absurd z (show ¬ ("rest":Str)="lost" by decide)
theorem Lq{wo:AI}(a:lK K X)(q:vX X (VF "give") wo H Q):vG K (cM X pEnd) (cM X Zkl) ξ [↑wo] H:=by
 obtain⟨T,s,A,M,b,lw,w,c,j,rfl,ok,ph,lo,q⟩:=q;obtain⟨d,ow⟩:=j.jb.ow;obtain⟨e,os⟩:=j.js.os;unfold vG;apply aH ow a.cW a.P0 aZ ?_;apply aH os a.cS a.n6 BR ?_;apply aH ow a.cW a.P0 aZ ?_;apply aH os a.cS a.n7 M8 ?_;apply su da da
 ·apply⟨_,rfl,T,s,A,M,b,lw,w,c,j,rfl,ok,⟨ph,z⟩,lo,q⟩
 ·apply⟨_,rfl,T,s,A,M,b,lw,w,c,j,rfl,ok,⟨ph,z⟩,lo,q⟩
theorem Lp{wo:AI}(a:lK K X)(q:vX X (VF "walk") wo H Q):vD K (cM X Zkm) (cM X Zkj) ξ [↑wo] H:=by
 obtain⟨T,s,A,M,b,lw,w,c,j,rfl,ok,ph,lo,q⟩:=q;obtain⟨d,ow⟩:=j.jb.ow;obtain⟨e,os⟩:=j.js.os;unfold vD;apply aH ow a.cW a.P0 aZ ?_;apply aH os a.cS a.n3 lM ?_;refine Ztv (bU.of j.js.og) ?_;cases hg:M.sw.grey with
 | nil=>
  refine YS ?_;apply⟨_,rfl,T,s,A,M,b,lw,w,c,j,rfl,ok,⟨ph,hg⟩,lo,q⟩
 | cons x g=>
  refine Ze3 ?_;apply⟨_,rfl,T,s,A,M,b,lw,w,c,j,rfl,ok,⟨ph,by rw[hg];simp⟩,lo,q⟩
theorem BW{wo:AI}(c:lK K X)(q:vX X (VF "lost") wo H Q):qH K (vd K) ξ [↑wo] H:=by
 obtain⟨T,s,A,M,e,lw,w,i,j,rfl,ok,ph,lo,q⟩:=q;obtain⟨m,ow⟩:=j.jb.ow;obtain⟨p,os⟩:=j.js.os;obtain⟨h,d,f,t1,o1,t2,o2⟩:=lo ph;rw[f]at os;unfold qH;apply aH ow c.cW c.P0 aZ ?_;apply aH os c.cS c.n11 M9 ?_;apply⟨h,rfl,"lost",e,d,lw,o1,o2,λa l o b k nl g ol=>?_⟩;exact q _ _ (.again ph) _ T A a (dZ.same w b) (j.same b) rfl ⟨l,⟨nl,(vZ w i nl).2,(vZ w i k).2⟩,g,ol⟩ λ_=>⟨e,rfl,h,d,f,t1,b _ _ o1,t2,b _ _ o2,(λx y l z=>by rw[g]at z;cases z;exact aF o2 nl),λz=>absurd ph z⟩
theorem Znk{wo d f g e:AI}(b:lK K X)(q:vX X Zde wo H Q):Xq K d f g e (cM X (VF "rest")) (cM X (VF "give")) (cM X (VF "walk")) (cM X (VF "lost")) ξ [↑wo,none] H:=by
 obtain⟨T,s,A,M,a,lw,w,c,j,rfl,ok,_,lo,q⟩:=q;obtain⟨h,ow⟩:=j.jb.ow;obtain⟨i,os⟩:=j.js.os;unfold Xq;apply aH ow b.cW b.P0 aZ ?_;apply aH os b.cS b.n2 eN ?_;rcases ok.ph with ph | ph | ph | ph
 ·rw[ph];refine⟨_,d,rfl,rfl,?_⟩;apply ju (cM X (VF "rest")) rfl ζ ?_;apply⟨_,rfl,T,s,A,M,a,lw,w,c,j,rfl,ok,ph,lo,q⟩
 ·rw[ph];refine⟨_,g,rfl,rfl,?_⟩;apply ju (cM X (VF "walk")) rfl ζ ?_;apply⟨_,rfl,T,s,A,M,a,lw,w,c,j,rfl,ok,ph,lo,q⟩
 ·rw[ph];refine⟨_,f,rfl,rfl,?_⟩;apply ju (cM X (VF "give")) rfl ζ ?_;apply⟨_,rfl,T,s,A,M,a,lw,w,c,j,rfl,ok,ph,lo,q⟩
 ·rw[ph];refine⟨_,e,rfl,rfl,?_⟩;apply ju (cM X (VF "lost")) rfl ζ ?_;apply⟨_,rfl,T,s,A,M,a,lw,w,c,j,rfl,ok,ph,lo,q⟩
end
section
variable {K:aB}{X:Cs}{H:Hp}{Q:VK}{E:XK}{n:ν}{bk ct:ν}
theorem Ng{A:Wa}{w:Int}{σ:St}{b:TE}{q:Bool->Hp->Prop}(ol:∃dx,(w=0/\H A.lk=some (.ins X.F dx []))\/(w=1/\H A.lk=some (.ins X.E dx []))\/(w=2/\H A.lk=some (.ins X.L dx [])))(a:∀d:VK,d (.ref A.lk) H->b σ H d)(h:q (decide (w≠2)) H):
  tB (G.Gz (gO X.F "stays" (vf (.bl true)) [] E0 b aD) (G.Gz (gO X.E "stays" (vf (.bl true)) [] E0 b aD) (gO X.L "stays" (vf (.bl false)) [] E0 b aD))) σ H q:=by
 refine Zuv ?_;obtain⟨dl,⟨c,o⟩ | ⟨c,o⟩ | ⟨c,o⟩⟩:=ol
 ·rw[show decide (w≠2)=true from decide_eq_true δ]at h;refine V9 ?_;left;refine a _ ?_;refine⟨A.lk,dl,_,rfl,o,rfl,?_⟩;left;exact⟨_,rfl,i_B h⟩
 ·rw[show decide (w≠2)=true from decide_eq_true δ]at h;refine Fv (V9 ?_);left;refine a _ ?_;refine⟨A.lk,dl,_,rfl,o,rfl,?_⟩;left;exact⟨_,rfl,i_B h⟩
 ·rw[show decide (w≠2)=false from decide_eq_false δ]at h;refine Fv (Fv ?_);left;refine a _ ?_;refine⟨A.lk,dl,_,rfl,o,rfl,?_⟩;left;exact⟨_,rfl,i_B h⟩
theorem Zht{T:Tg}{s:Nat}{A:Wa}{M:Wm}{lb:Int}{lw:AE}(k:lK K X)(w:WT H T)(D:s≠0)(j:WJ X H T s A M)(ok:Zcc M)(ph:M.sw.phase="walk")(gr:M.sw.grey=[])
  (q:∀e y,fZ lb lw M e y->∀H' T' R a,dZ s H H' T T'->WJ X H' T' s R y->R.wo=A.wo->EvN H H' T' s a e->(y.sw.phase="lost"->∃b,e.thing=some b/\Zn9 H H' T' (M.sw.phase≠"lost") y b e.notes a)->Q (.ref a) H'):
  jV K X.E X.F X.L (vf (.bl false)) (vf (.bl true)) (cM X Zkn) (pB X) ξ [↑A.wo,↑A.sw,↑A.lk,some (.int bf),none] H:=by
 unfold jV;apply⟨_,_,rfl,T,s,A,M,w,D,j,rfl,ok.hl,λ_=>by rw[gr];exact Nat.zero_le _,λC N l g t J nl=>?_⟩;have nt:=Bb bf M.hands 0 M;have ww:=nt.ww;have ol:=t.jb.ol;rw[ww]at ol;have O:jW M->cM X Zkn [.ref A.wo] C Q E0:=λcd=>by
  have e:(eO bf M.hands 0 M).2=M:=by
   rcases cd with z | ⟨_,z⟩
   ·rw[z,Zaw]
   ·exact X7 _ z
  rw[e]at t;refine⟨_,rfl,N,s,A,M,lb,lw,g.wt,D,t,rfl,ok,⟨ph,gr,cd⟩,λz=>absurd (ph.symm.trans z) ε,λe' y r H' T' R a st' j' aw' ev' Y=>?_⟩;obtain⟨l',I,o1,o2⟩:=ev';exact q e' y r H' T' R a (g.trans st') j' aw' ⟨l',⟨dZ.free g I.1,I.2⟩,o1,o2⟩ λz=>let ⟨b,h0,a0,wl,h1,h2,h3,h4,h5,h6,h7⟩:=Y z;⟨b,h0,a0,wl,h1,h2,h3,h4,h5,h6,λf=>dZ.free g (h7 f)⟩
 have p:¬ jW M->∀(lo:Int),lo=(if M.w=2 then(eO bf M.hands 0 M).2.sw.looked else Builtin.bitOr (eO bf M.hands 0 M).2.sw.looked bf)->∀o,dZ s C o N N->WJ X o N s A { (eO bf M.hands 0 M).2 with sw:={ (eO bf M.hands 0 M).2.sw with looks:=(eO bf M.hands 0 M).2.sw.looks+1,looked:=lo } }->o l=some (.lst ((eO bf M.hands 0 M).1.map V.int))->∀a,o a=none->Q (.ref a) (upd o a (.tup [.str "look",.int bf,.ref l])):=λP lo elo o d u x a B=>by
  have Z:=aK B (.tup [.str "look",.int bf,.ref l]);subst elo;refine q _ _ (.look _ ph gr P rfl) _ N A a (g.trans (d.trans (dZ.same d.wt Z))) (u.same Z) rfl ⟨l,⟨nl.1,nl.2,(vZ d.wt D B).2⟩,aq,Z _ _ x⟩ λz=>?_;have:=(w6 bf 100 M.hands 0 M ok.hl).1;have z:(eO bf M.hands 0 M).2.sw.phase="lost":=z;rw[this]at z;exact absurd (ph.symm.trans z) ε
 apply su (λhz=>?_) (λhz=>?_)
 ·apply O (.inl hz)
 ·refine Zqd ?_;refine Zuy ?_;refine Ng ol (λQ' h=>by left;exact h) ?_
  by_cases U:M.w=2
  ·rw[show decide (M.w≠2)=false from decide_eq_false δ];refine YS ?_;refine Zqc ?_;left;refine Ztv (bU.of J) ?_;cases hn:(eO bf M.hands 0 M).1 with
   | nil=>
    refine Ze3 ?_;apply O (.inr ⟨U,hn⟩)
   | cons b bs=>
    have P:¬ jW M:=λz=>by
     rcases z with z | ⟨_,z⟩
     ·exact hz z
     ·rw[hn]at z;cases z
    have p:=p P _ rfl;rw[if_pos U]at p;obtain⟨c,i⟩:=t.js.os;refine YS ?_;apply aH i k.cS k.n9 oH ?_;apply⟨A.sw,X.S,c,_,rfl,i,k.cS,k.n9,by show 11<1000;decide,?_⟩;rw[mz];obtain⟨d,u⟩:=t.sweep g.wt D (dx:=c) { (eO bf M.hands 0 M).2.sw with looks:=(eO bf M.hands 0 M).2.sw.looks+1 } rfl;have x:upd C A.sw (.ins X.S c (bY (eO bf M.hands 0 M).2.sw.sense (eO bf M.hands 0 M).2.sw.phase A.gr (eO bf M.hands 0 M).2.sw.looked (eO bf M.hands 0 M).2.sw.turn (eO bf M.hands 0 M).2.sw.at' (eO bf M.hands 0 M).2.sw.stop (eO bf M.hands 0 M).2.sw.walks ((eO bf M.hands 0 M).2.sw.looks+1) (eO bf M.hands 0 M).2.sw.passes (eO bf M.hands 0 M).2.sw.loss)) l=some (.lst ((eO bf M.hands 0 M).1.map V.int)):=(aC (lg J i aS)).trans J;generalize upd C A.sw _=o at d u x ⊢;have m:=u.jb.ol;have v:({ (eO bf M.hands 0 M).2 with sw:={ (eO bf M.hands 0 M).2.sw with looks:=(eO bf M.hands 0 M).2.sw.looks+1 } }:Wm).w=M.w:=ww;rw[v]at m;refine vQ ?_;refine Zsm ?_;refine Ng m (λQ' h=>by left;exact h) ?_;rw[show decide (M.w≠2)=false from decide_eq_false δ];apply⟨aR ζ,λa B=>p o d u x a B⟩
  ·rw[show decide (M.w≠2)=true from decide_eq_true δ];have P:¬ jW M:=λz=>by
    rcases z with z | ⟨z,_⟩
    ·exact hz z
    ·exact U z
   have p:=p P _ rfl;rw[if_neg U]at p;obtain⟨c,i⟩:=t.js.os;apply aH i k.cS k.n9 oH ?_;apply⟨A.sw,X.S,c,_,rfl,i,k.cS,k.n9,by show 11<1000;decide,?_⟩;rw[mz];obtain⟨Zzl,W⟩:=t.sweep g.wt D (dx:=c) { (eO bf M.hands 0 M).2.sw with looks:=(eO bf M.hands 0 M).2.sw.looks+1 } rfl;have m:=W.jb.ol;have v:({ (eO bf M.hands 0 M).2 with sw:={ (eO bf M.hands 0 M).2.sw with looks:=(eO bf M.hands 0 M).2.sw.looks+1 } }:Wm).w=M.w:=ww;rw[v]at m;refine vQ ?_;refine Zsm ?_;refine Ng m (λQ' h=>by left;exact h) ?_;rw[show decide (M.w≠2)=true from decide_eq_true δ];apply aH aq k.cS k.n4 gA ?_;apply⟨A.sw,X.S,c,_,rfl,aq,k.cS,k.n4,by show 11<1000;decide,?_⟩;rw[qF,dF];obtain⟨d,u⟩:=t.sweep g.wt D (dx:=c) { (eO bf M.hands 0 M).2.sw with looks:=(eO bf M.hands 0 M).2.sw.looks+1,looked:=Builtin.bitOr (eO bf M.hands 0 M).2.sw.looked bf } rfl;have x:upd C A.sw (.ins X.S c (bY (eO bf M.hands 0 M).2.sw.sense (eO bf M.hands 0 M).2.sw.phase A.gr (Builtin.bitOr (eO bf M.hands 0 M).2.sw.looked bf) (eO bf M.hands 0 M).2.sw.turn (eO bf M.hands 0 M).2.sw.at' (eO bf M.hands 0 M).2.sw.stop (eO bf M.hands 0 M).2.sw.walks ((eO bf M.hands 0 M).2.sw.looks+1) (eO bf M.hands 0 M).2.sw.passes (eO bf M.hands 0 M).2.sw.loss)) l=some (.lst ((eO bf M.hands 0 M).1.map V.int)):=(aC (lg J i aS)).trans J;generalize upd C A.sw _=o at d u x ⊢;apply⟨aR ζ,λa B=>p o d u x a B⟩
theorem Qh{wo:AI}(a:lK K X)(q:vX X Zkm wo H Q):wL K X.E X.F X.L (lJ 1) (lJ 2) (vf (.bl false)) (lJ 0) (vf (.bl true)) (cM X Zkn) (pB X) ξ [↑wo,none,none,none,none] H:=by
 obtain⟨T,s,A,M,h,lw,w,g,j,rfl,ok,⟨ph,gr⟩,lo,q⟩:=q;obtain⟨i,ow⟩:=j.jb.ow;obtain⟨k,os⟩:=j.js.os;obtain⟨dk,f⟩:=j.jb.ok;have on:=j.jb.on;have lh:=j.jd.lh;have l5:=j.jd.l5;have c:((A.hs.map λp=>V.ref p.1).length:Int)=(M.hands.length:Int):=by rw[aU,lh]
 have b:=Zht (n:=n) (bk:=bk) (ct:=ct) a w g j ok ph gr q;obtain⟨dl,ol⟩:=j.jb.ol;unfold wL;apply aH ow a.cW a.P0 aZ ?_;apply aH ow a.cW a.nWk iw ?_;refine aH f a.cK a.nKl jQ ?_;refine Zp2 ?_;refine vQ ?_;left;rcases ol with ⟨e,o⟩ | ⟨e,o⟩ | ⟨e,o⟩
 ·have d:bh M=p6 0 M.sw.looked M.hands.length:=by unfold bh;rw[e];rfl
  refine V9 ?_;left;refine⟨A.lk,dl,_,rfl,o,rfl,?_⟩;left;refine aH os a.cS a.n4 gA ?_;left;refine aH ow a.cW a.nWd dD ?_;left;refine dU (bU.of on) ?_;rw[c];left;refine⟨A.lk,_,_,rfl,δ,δ,?_⟩;rw[Int.toNat_natCast,<- d];left;exact b
 ·have d:bh M=p6 1 M.sw.looked M.hands.length:=by unfold bh;rw[e];rfl
  refine Fv (V9 ?_);left;refine⟨A.lk,dl,_,rfl,o,rfl,?_⟩;left;refine aH os a.cS a.n4 gA ?_;left;refine aH ow a.cW a.nWd dD ?_;left;refine dU (bU.of on) ?_;rw[c];left;refine⟨A.lk,_,_,rfl,δ,δ,?_⟩;rw[Int.toNat_natCast,<- d];left;exact b
 ·have d:bh M=p6 2 M.sw.looked M.hands.length:=by unfold bh;rw[e];rfl
  refine Fv (Fv ?_);left;refine⟨A.lk,dl,_,rfl,o,rfl,?_⟩;left;refine aH os a.cS a.n4 gA ?_;left;refine aH ow a.cW a.nWd dD ?_;left;refine dU (bU.of on) ?_;rw[c];left;refine⟨A.lk,_,_,rfl,δ,δ,?_⟩;rw[Int.toNat_natCast,<- d];left;exact b
end
abbrev Bu:=List (Str×Int)
def HsO(H:Hp)(l:AI)(hs:Bu):Prop:=∃ts:AF,H l=some (.lst bP)/\Al (λ(a:AI) (m:Str×Int)=>H a=some (.tup [.str m.1,.int m.2])) ts hs
theorem HsO.same{H H':Hp}{l:AI}{hs:Bu}(h:HsO H l hs)(s:aY H H'):HsO H' l hs:=by
 obtain⟨ts,h1,h2⟩:=h;exact⟨ts,s _ _ h1,h2.mono λa m z=>s _ _ z⟩
structure HsB(hs:Bu):Prop where
 n1:1<=hs.length
 n5:hs.length<=5
 sb:∀m∈hs,3<=m.2/\m.2<=9
def Pk(hs:Bu)(h s:Nat):Prop:=∃m,hs[h]? =some m/\(s:Int)<m.2
def okR(hs:Bu):iZ->Prop
 | .make h s many bulk=>Pk hs h s/\0<=many/\many<=8/\0<=bulk
 | .get h s t _=>Pk hs h s/\Pk hs h t
 | .put h t _ s=>Pk hs h t/\Pk hs h s
 | .copy h s t=>Pk hs h s/\Pk hs h t
 | .drop h s=>Pk hs h s
 | .give h s g t=>Pk hs h s/\Pk hs g t
 | .write h t _=>Pk hs h t
 | .read h t=>Pk hs h t
 | .name h t _=>Pk hs h t
 | .seek h s _=>Pk hs h s
theorem HsB.ok{hs:Bu}(b:HsB hs){h s:Nat}(a:h<hs.length)(c:s<3):Pk hs h s:=by
 have:=b.sb _ (List.getElem_mem a);exact⟨_,bK a,δ⟩
def ZG(H0 H:Hp)(hs:Bu)(vs:List V):Prop:=∀v∈vs,(∃t k,v=.ref t/\H0 t=none/\H t=some (.tup [.str "sweep",.int k])/\1<=k/\k<=30)\/∃t d,v=.ref t/\H0 t=none/\H t=some (.tup (dV d))/\okR hs d
structure RL(H0 H:Hp)(hs:Bu)(l:AI)(N:Nat):Prop where
 s:aY H0 H
 n:H0 l=none
 ex:∃vs,H l=some (.lst vs)/\vs.length<=N/\ZG H0 H hs vs
theorem ZG.same{H0 H H':Hp}{hs:Bu}{vs:List V}(h:ZG H0 H hs vs)(s:aY H H'):ZG H0 H' hs vs:=λv hv=>by
 rcases h v hv with ⟨t,k,e,f,o,z⟩ | ⟨t,d,e,f,o,k⟩
 ·exact .inl ⟨t,k,e,f,s _ _ o,z⟩
 ·exact .inr ⟨t,d,e,f,s _ _ o,k⟩
theorem RL.same{H0 H H':Hp}{hs:Bu}{l:AI}{N:Nat}(h:RL H0 H hs l N)(s:aY H H'):RL H0 H' hs l N:=by
 obtain⟨b,n,c,h1,h2,a⟩:=h;exact⟨b.trans s,n,c,s _ _ h1,h2,a.same s⟩
theorem RL.base{H0 a H:Hp}{hs:Bu}{l:AI}{N:Nat}(h:RL a H hs l N)(s:aY H0 a):RL H0 H hs l N:=by
 obtain⟨c,n,b,h1,h2,g⟩:=h;refine⟨s.trans c,s.free n,b,h1,h2,λv hv=>?_⟩;rcases g v hv with ⟨t,k,e,f,o,z⟩ | ⟨t,d,e,f,o,k⟩
 ·exact .inl ⟨t,k,e,s.free f,o,z⟩
 ·exact .inr ⟨t,d,e,s.free f,o,k⟩
theorem RL.mono{H0 H:Hp}{hs:Bu}{l:AI}{N N':Nat}(h:RL H0 H hs l N)(n:N<=N'):RL H0 H hs l N':=by
 obtain⟨b,d,c,h1,h2,a⟩:=h;exact⟨b,d,c,h1,δ,a⟩
theorem uV{H0 H:Hp}{hs:Bu}{d b:AI}{a c:Nat}{Q:VK}(h1:RL H0 H hs d a)(h2:RL H0 H hs b c)(hb:a+c<=100000)(k:∀l H',aY H H'->H l=none->RL H0 H' hs l (a+c)->Q (.ref l) H'):qw (.ref d) (.ref b) H Q:=by
 obtain⟨g,_,f,j,o,i⟩:=h1;obtain⟨_,_,e,h,n,m⟩:=h2;refine⟨d,b,_,_,rfl,rfl,j,h,aR δ,λl nl=>?_⟩;have s:=aK nl (.lst (f++e));refine k l _ s nl ⟨g.trans s,g.free nl,f++e,aq,by rw[List.length_append];omega,λv hv=>?_⟩;rcases List.mem_append.mp hv with hv | hv
 ·exact(i.same s) v hv
 ·exact(m.same s) v hv
theorem Zpy{H0 H:Hp}{hs:Bu}{l t:AI}{k:Int}(s:aY H0 H)(nl:H0 l=none)(nt:H0 t=none)(h:H l=some (.lst [.ref t]))(o:H t=some (.tup [.str "sweep",.int k]))(k1:1<=k)(k2:k<=30):RL H0 H hs l 1:=⟨s,nl,_,h,Nat.le_refl _,λv hv=>by
 rw[List.mem_singleton.mp hv];exact .inl ⟨t,k,rfl,nt,o,k1,k2⟩⟩
theorem rl1{H0 H:Hp}{hs:Bu}{l t:AI}{d:iZ}(s:aY H0 H)(nl:H0 l=none)(nt:H0 t=none)(h:H l=some (.lst [.ref t]))(o:H t=some (.tup (dV d)))(k:okR hs d):RL H0 H hs l 1:=⟨s,nl,_,h,Nat.le_refl _,λv hv=>by
 rw[List.mem_singleton.mp hv];exact .inr ⟨t,d,rfl,nt,o,k⟩⟩
theorem rl2{H0 H:Hp}{hs:Bu}{l t u:AI}{d e:iZ}(s:aY H0 H)(nl:H0 l=none)(nt:H0 t=none)(b:H0 u=none)(h:H l=some (.lst [.ref t,.ref u]))(o:H t=some (.tup (dV d)))(k:okR hs d)(a:H u=some (.tup (dV e)))(c:okR hs e):RL H0 H hs l 2:=⟨s,nl,_,h,Nat.le_refl _,λv hv=>by
 rcases List.mem_cons.mp hv with rfl | hv
 ·exact .inr ⟨t,d,rfl,nt,o,k⟩
 ·rw[List.mem_singleton.mp hv];exact .inr ⟨u,e,rfl,b,a,c⟩⟩
theorem rl3{H0 H:Hp}{hs:Bu}{l t u w:AI}{d e f:iZ}(s:aY H0 H)(nl:H0 l=none)(nt:H0 t=none)(b:H0 u=none)(nw:H0 w=none)(h:H l=some (.lst [.ref t,.ref u,.ref w]))(o:H t=some (.tup (dV d)))(k:okR hs d)(a:H u=some (.tup (dV e)))(c:okR hs e)(o2:H w=some (.tup (dV f)))(k2:okR hs f):RL H0 H hs l 3:=⟨s,nl,_,h,Nat.le_refl _,λv hv=>by
 rcases List.mem_cons.mp hv with rfl | hv
 ·exact .inr ⟨t,d,rfl,nt,o,k⟩
 ·rcases List.mem_cons.mp hv with rfl | hv
  ·exact .inr ⟨u,e,rfl,b,a,c⟩
  ·rw[List.mem_singleton.mp hv];exact .inr ⟨w,f,rfl,nw,o2,k2⟩⟩
def WK(ns:AE)(k:Int):Int:=(ns[k.toNat]?).getD 0
def Zqm(c p m:Int):Int:=c % p * 48271 % p % m
def wH(ns:AE):Int:=if Zqm (WK ns 2) 7919 4=1 then 4+WK ns 2 / 4 % 60 else 10 ^ 15 - WK ns 2 % 10 ^ 12
inductive Zf5(K:aB)(a:AI)(k:Int)(H:Hp)(Q:VK):Prop
 | mk (ns:AE) (_:bU K H a (ns.map V.int)) (_:0<=k) (_:∀z:Int,z=WK ns k->Q (.int z) H):Zf5 K a k H Q
def Bs(K:aB):Sp:=λvs H Q E=>∃a k,vs=[.ref a,.int k]/\Zf5 K a k H Q
inductive Zf4(c:Int)(p:Int)(m:Int)(H:Hp)(Q:VK):Prop
 | mk (_:0<p) (_:p<2 ^ 32) (_:0<m) (_:∀z:Int,0<=z->z<m->z=Zqm c p m->Q (.int z) H):Zf4 c p m H Q
def qp:Sp:=λvs H Q E=>∃c p m,vs=[.int c,.int p,.int m]/\Zf4 c p m H Q
def yd:Sp:=λvs H Q E=>∃c w,vs=[.int c,.int w]/\0<=w/\w<=1000/\∀z:Str,Q (.str z) H
def ZC(K:aB):Sp:=λvs H Q E=>∃a,vs=[.ref a]/\∃ns:AE,bU K H a df/\∀l hs H',aY H H'->H l=none->HsO H' l hs->HsB hs->Q (.ref l) H'
def Zf6(K:aB):Sp:=λvs H Q E=>∃a,vs=[.ref a]/\∃ns:AE,bU K H a df/\∀z:Int,z=wH ns->Q (.int z) H
def Zz(X:Cs):Sp:=λvs H Q E=>∃c,vs=[.int c]/\∀ki lk w t H',0<=t->t<4->w=c % 3/\t=c / 3 % 4->aY H H'->H ki=none->H lk=none->KdO X H' ki lk w t->Q (.ref ki) H'
inductive Zr(c:Int)(h:Int)(s:Int)(H:Hp)(Q:VK):Prop
 | mk (hn sn:Nat) (_:h=(hn:Int)) (_:s=(sn:Int)) (_:∀t many bulk H',aY H H'->H t=none->0<=many->many<=8->0<=bulk->H' t=some (.tup (dV (.make hn sn many bulk)))->Q (.ref t) H'):Zr c h s H Q
def Zgp:Sp:=λvs H Q E=>∃c h s,vs=[.int c,.int h,.int s]/\Zr c h s H Q
def Zgq:Sp:=λvs H Q E=>∃c,vs=[.int c]/\∀z:Int,Q (.int z) H
def ye:Sp:=λvs H Q E=>∃i,vs=[.int i]/\Q (.bl true) H
inductive Zu(K:aB)(a:AI)(b:AI)(H:Hp)(Q:VK):Prop
 | mk (z:Str) (i:Int) (l l':AI) (ns:AE) (_:H a=some (.tup [.str z,.int i,.ref l])) (_:H b=some (.tup [.str z,.int i,.ref l'])) (_:H l=some (.lst (ns.map V.int))) (_:H l'=some (.lst (ns.map V.int))) (_:Q (.bl true) H):Zu K a b H Q
def ZF(K:aB):Sp:=λvs H Q E=>∃a b,vs=[.ref a,.ref b]/\Zu K a b H Q
variable {K:aB}{X:Cs}{rf:Rf->AI}{H:Hp}{Q:VK}{E:XK}{n:ν}{bk ct:ν}
section
theorem Zm{a:AI}{k:Int}(q:Zf5 K a k H Q):Du K ξ [↑a,some (.int k)] H:=by
 obtain⟨ns,b,c,h⟩:=q;unfold Du;apply dU b ?_;apply su (λh1=>?_) (λh1=>?_)
 ·ext;rw[aU]at h1;have hk:k.toNat<ns.length:=δ
  exact fL b (lY c (by rw[cz,bK hk]<;>rfl)) (h _ (by unfold WK;rw[bK hk];rfl))
 ·ext;rw[aU]at h1;exact h _ (by unfold WK;rw[List.getElem?_eq_none δ];rfl)
theorem Zj{c p m:Int}(q:Zf4 c p m H Q):Ds ξ [some (.int c),some (.int p),some (.int m)] H:=by
 obtain⟨b,d,a,q⟩:=q;have h1:=Int.emod_nonneg c (show p≠0 by omega);have h2:=Int.emod_lt_of_pos c b;unfold Ds;apply q _ (Int.emod_nonneg _ δ) (Int.emod_lt_of_pos _ a) rfl
theorem Zb{c w:Int}(q:0<=w/\w<=1000/\∀z:Str,Q (.str z) H):Dj ξ [some (.int c),some (.int w),none,none,none,none,none] H:=by
 obtain⟨w0,j,q⟩:=q;have c1:=Int.emod_nonneg c (show(12:Int)≠0 by decide);have c2:=Int.emod_lt_of_pos c (show(0:Int)<12 by decide);obtain⟨sz,k⟩:=toN (x:=1+c % 12) δ;have hs:1<=sz/\sz<=12:=δ
 have a0:=Int.emod_nonneg (c / 12) (show(1+c % 12)≠0 by omega);have l:=Int.emod_lt_of_pos (c / 12) (show 0<1+c % 12 by omega);unfold Dj;ext;have d1:=Int.emod_nonneg (c / 5) (show(26:Int)≠0 by decide);have d2:=Int.emod_lt_of_pos (c / 5) (show(0:Int)<26 by decide);refine Zlu ε d1 (by show c / 5 % 26<26;exact d2) λi=>?_;ext;have g:=Int.emod_nonneg (c / 7+5 * w) (show(26:Int)≠0 by decide);have e:=Int.emod_lt_of_pos (c / 7+5 * w) (show(0:Int)<26 by decide);refine Zlu ε g (by show(c / 7+5 * w) % 26<26;exact e) λf=>?_;apply Zlr a0 δ (by rw[U7];decide) λt1 o a=>?_;have h:t1.length<=12:=by rw[a,NQ,U7];omega
 apply Zlw (by rw[U7];exact aR δ) ?_;apply Zlr δ δ (by rw[U7];decide) λt2 m b=>?_;have d:t2.length<=12:=by rw[b,NQ,U7];omega
 apply Zlw (by rw[Ztz,U7];exact aR δ) ?_;exact q _
theorem Ud{a:AI}(q:∃ns:AE,bU K H a df/\∀l hs H',aY H H'->H l=none->HsO H' l hs->HsB hs->Q (.ref l) H'):zG K (Bs K) qp yd ξ [↑a,none,none,none,none] H:=by
 obtain⟨ns,R,q⟩:=q;unfold zG;apply⟨a,1,rfl,ns,R,ε,λc _=>?_⟩;apply⟨ε,λl nl=>?_⟩;generalize zz:upd H l _=H1;obtain⟨L,A⟩:=nwO nl zz;have A:H1 l=some (.lst (([]:AF).map V.ref)):=A;apply⟨_,_,_,rfl,ε,ε,ε,λz T z1 _=>?_⟩;exists _,rfl,δ,δ;refine forR (λk d e=>∃(ts:AF) (hs:Bu) (p g:Option V),d=[↑a,some (.int c),↑l,p,g]/\aY H e/\e l=some (.lst bP)/\Al (λ(a:AI) (m:Str×Int)=>e a=some (.tup [.str m.1,.int m.2])) ts hs/\hs.length=k/\∀m∈hs,3<=m.2/\m.2<=9) ⟨[],[],_,_,rfl,L,A,.nil,rfl,λm hm=>(nomatch hm)⟩ ?_ ?_
 ·rintro k d e hk ⟨ts,hs,p,g,rfl,u,r,al,hl,hb⟩;have N:k<5:=δ
  have s:=al.length;have fin:∀{many:Int},3<=many->many<=9->∀(w:ν) (C:VK) (I D:ν),(∀ d H',(∃(ts:AF) (hs:Bu) (p g:Option V),d=[↑a,some (.int c),↑l,p,g]/\aY H H'/\H' l=some (.lst bP)/\Al (λ(a:AI) (m:Str×Int)=>H' a=some (.tup [.str m.1,.int m.2])) ts hs/\hs.length=k+1/\∀m∈hs,3<=m.2/\m.2<=9)->w d H')->
    mj (tBM K "list" oX Ω (aj (dI (aj (aQ yd [] E0 (aj ψ cn)) (aj ba aD))) aD)) ⟨w,C,I,D⟩ [↑a,some (.int c),↑l,some (.int ((0:Int)+k)),some (.int many)] e:=by
   intro many M O w C I D P;exists .inl ⟨rfl,_,bU.of r⟩;apply⟨_,_,rfl,δ,δ,λwd=>?_⟩;apply⟨aR ζ,λt nt=>?_⟩;generalize zz:upd e t _=H3;obtain⟨v,J⟩:=nwO nt zz;have E:=v _ _ r;exists l,_,_,rfl,rfl,E,?_
   ·rw[aU];exact Nat.lt_of_le_of_lt (show _<=1000 by omega) ε
   rw[show ts.map V.ref++[V.ref t]=(ts++[t]).map V.ref from by rw[List.map_append];rfl];have F:∀b B,H3 b=some (.tup B)->upd H3 l (.lst ((ts++[t]).map V.ref)) b=some (.tup B):=λb B hb=>by
    rw[aC (lg hb E aS)];exact hb
   apply P _ _ ⟨ts++[t],hs++[(wd,many)],_,_,rfl,λb o hb=>by rw[aC (aF hb nl)];exact v _ _ (u _ _ hb),aq,?_,by rw[List.length_append,hl];rfl,λm hm=>?_⟩
   ·refine WY (by rw[List.length_append,List.length_append,s];rfl) λi x y f j=>?_
    by_cases hi:i<ts.length
    ·rw[List.getElem?_append_left hi]at f;rw[List.getElem?_append_left δ]at j;obtain⟨S,e3,z⟩:=al.get j;rw[f]at e3;cases e3;exact F _ _ (v _ _ z)
    ·have h1:=(cP f).1;rw[List.length_append,List.length_singleton]at h1;rw[List.getElem?_append_right δ]at f j;rw[show i - ts.length=0 by omega]at f;rw[show i - hs.length=0 by omega]at j;cases f;cases j;exact F _ _ J
   ·rcases List.mem_append.mp hm with hm | hm
    ·exact hb m hm
    ·rw[List.mem_singleton.mp hm];exact⟨M,O⟩
  apply su a4 a4
  ·apply⟨_,_,_,rfl,ε,ε,ε,λy U y1 _=>?_⟩;refine Zvf ?_;refine Zp1 ?_;exact fin (many:=3+y) δ δ _ _ _ _ λd H' h=>h
  ·refine mQ ?_;exact fin (many:=3) δ δ _ _ _ _ λd H' h=>h
 ·rintro d e ⟨ts,hs,p,g,rfl,u,r,al,hl,hb⟩;apply q l hs e u nl ⟨ts,r,al⟩ ⟨δ,δ,hb⟩
theorem Ze{a:AI}(q:∃ns:AE,bU K H a df/\∀z:Int,z=wH ns->Q (.int z) H):Dm (Bs K) qp ξ [↑a,none] H:=by
 obtain⟨ns,e,q⟩:=q;unfold Dm;apply⟨a,2,rfl,ns,e,ε,λc d=>?_⟩;apply⟨_,_,_,rfl,ε,ε,ε,λz f z1 b=>?_⟩;apply su (λy=>?_) (λy=>?_)
 ·apply q _ (by unfold wH;rw[<- d,<- b,if_pos y])
 ·apply q _ (by unfold wH;rw[<- d,<- b,if_neg y];rfl)
theorem Ql{C:AI}{w t:Int}{σ:St}{k:TE}(r:∀(a:Hp) (m:VK),m (.int t) a->k σ a m)(s:∀{a:Hp}{lk dl:AI},a lk=some (.ins C dl [])->(w=0/\a lk=some (.ins X.F dl []))\/(w=1/\a lk=some (.ins X.E dl []))\/(w=2/\a lk=some (.ins X.L dl [])))
  (q:∀ki lk H',aY H H'->H ki=none->H lk=none->KdO X H' ki lk w t->Q (.ref ki) H'):qC X.K (yh X.K) [] E0 (aj (G.GD C) (aj k aD)) σ H Q:=by
 ext;intro lk dl d h y;have e:aY H (upd (upd H dl (.own lk)) lk (.ins C dl [])):=λb o hb=>by rw[aC (aF hb d),aC (aF hb h)];exact hb
 have g:upd (upd H dl (.own lk)) lk (.ins C dl []) lk=some (.ins C dl []):=aq;generalize upd (upd H dl (.own lk)) lk (.ins C dl [])=a at e g ⊢;left;refine r a _ ?_;left;intro ki dk c i x;have f:aY a (upd (upd a dk (.own ki)) ki (.ins X.K dk [])):=λb o hb=>by rw[aC (aF hb c),aC (aF hb i)];exact hb
 have n:upd (upd a dk (.own ki)) ki (.ins X.K dk []) ki=some (.ins X.K dk []):=aq;generalize upd (upd a dk (.own ki)) ki (.ins X.K dk [])=z at f n ⊢;refine⟨ki,lk,t,rfl,dk,n,λl v p=>⟨rfl,?_⟩⟩;have u:aY H l:=λb o hb=>p b o (f _ _ (e _ _ hb)) (aF (e _ _ hb) c);have j:lk≠ki:=aF g c;exact q ki lk l u (e.free c) d ⟨⟨dk,v⟩,⟨dl,s (p _ _ (f _ _ g) j)⟩⟩
theorem Zh{c:Int}(q:∀ki lk w t H',0<=t->t<4->w=c % 3/\t=c / 3 % 4->aY H H'->H ki=none->H lk=none->KdO X H' ki lk w t->Q (.ref ki) H'):Dr X.E X.F X.K X.L (yh X.K) ξ [some (.int c)] H:=by
 have b:=Int.emod_nonneg (c / 3) (show(4:Int)≠0 by decide);have t1:=Int.emod_lt_of_pos (c / 3) (show(0:Int)<4 by decide);have w0:=Int.emod_nonneg c (show(3:Int)≠0 by decide);have g:=Int.emod_lt_of_pos c (show(0:Int)<3 by decide);unfold Dr;apply su da da
 ·refine Zg4 ?_;exact Ql (λd f h=>by apply h) (λe=>.inl ⟨rfl,e⟩) λki lk H' s n1 n2 a=>q ki lk 0 (c / 3 % 4) H' b t1 ⟨z.symm,rfl⟩ s n1 n2 a
 ·refine mQ ?_;refine vQ ?_;left;refine su (λy=>?_) (λy=>?_)
  ·refine Zg4 ?_;exact Ql (λd f h=>by apply h) (λe=>.inr (.inl ⟨rfl,e⟩)) λki lk H' s n1 n2 a=>q ki lk 1 (c / 3 % 4) H' b t1 ⟨y.symm,rfl⟩ s n1 n2 a
  ·refine mQ ?_;refine Zg4 ?_;exact Ql (λd f h=>by apply h) (λe=>.inr (.inr ⟨rfl,e⟩)) λki lk H' s n1 n2 a=>q ki lk 2 (c / 3 % 4) H' b t1 ⟨δ,rfl⟩ s n1 n2 a
theorem Zuj{z:Int}(a:0<=z)(h1:z<6):∃m:Int,TY [V.int 1,.int 2,.int 2,.int 3,.int 0,.int 8] z=some (.int m)/\0<=m/\m<=8:=by
 have:z=0\/z=1\/z=2\/z=3\/z=4\/z=5:=δ
 rcases this with rfl | rfl | rfl | rfl | rfl | rfl
 ·exact⟨1,rfl,ε,ε⟩
 ·exact⟨2,rfl,ε,ε⟩
 ·exact⟨2,rfl,ε,ε⟩
 ·exact⟨3,rfl,ε,ε⟩
 ·exact⟨0,rfl,ε,ε⟩
 ·exact⟨8,rfl,ε,ε⟩
theorem Zf{c h s:Int}(q:Zr c h s H Q):
  Dn K qp ξ [some (.int c),some (.int h),some (.int s),none,none] H:=by
 obtain⟨hn,o,rfl,rfl,q⟩:=q;have f:=Int.emod_nonneg c (show(7:Int)≠0 by decide);have p:(0:Int)<10 ^ Int.toNat 12+1:=ε
 have j:=Int.emod_nonneg c (show(10:Int) ^ Int.toNat 12+1≠0 by decide);unfold Dn;apply⟨aR ζ,λl nl=>?_⟩;generalize zz:upd H l _=H1;obtain⟨a,g⟩:=nwO nl zz;apply⟨_,_,_,rfl,ε,ε,ε,λz i z1 _=>?_⟩;obtain⟨m,k,d,e⟩:=Zuj i z1;apply fL (bU.of g) k ?_;have fin:∀{b:Int},0<=b->∀{v:Option V},(bH (dI (aj (tC (.str "make")) (aj ψ (aj Ω (aj Φ (aj ba aD))))))) ξ [some (.int c),some (.int hn),some (.int o),some (.int m),some (.int b)] H1:=by
  intro b hb v;apply⟨aR ζ,λt nt=>?_⟩;exact q t m b _ (a.trans (aK nt _)) (a.free nt) d e hb aq
 apply su (λy=>?_) (λy=>?_)
 ·apply su (λx=>absurd (y.symm.trans x) ε) (λx=>?_);refine mQ ?_;exact fin f (v:=none)
 ·apply su (λx=>?_) (λx=>?_)
  ·left;exact⟨aR ζ,λt nt=>q t m _ _ (a.trans (aK nt _)) (a.free nt) d e j aq⟩
  ·refine mQ ?_;exact fin (Int.le_refl _) (v:=none)
theorem Zg{c:Int}(q:∀z:Int,Q (.int z) H):Dp ξ [some (.int c),none] H:=by
 have a:(0:Int)<10 ^ Int.toNat 60:=ε
 unfold Dp;apply su a4 a4
 ·apply q _
 ·apply q _
theorem Q9{i:Int}(q:Q (.bl true) H):pR ξ [some (.int i)] H:=by
 unfold pR;apply q
theorem Ue{a b:AI}(q:Zu K a b H Q):
  rN K ye ξ [↑a,↑b,none] H:=by
 obtain⟨z,i,l,h,ns,c,ob,ol,d,q⟩:=q;unfold rN;apply Fw c ?_;exists a,_,rfl,.inr (dB.of c);apply uQ eC a4;exists a,_,0,_,rfl,rfl,dB.of c,rfl;exists a,_,1,_,rfl,rfl,dB.of c,rfl;exists _,rfl;exists a,_,2,_,rfl,rfl,dB.of c,rfl;apply Kr ol ?_;exists a,_,2,_,rfl,rfl,dB.of c,rfl;refine⟨l,rfl,⟨_,bU.of ol⟩,forL df (λ_ f g=>∃v,f=[↑a,↑b,v]/\g=H) ⟨_,rfl,rfl⟩ (by rintro _ _ _ _ ⟨_,_,e⟩;rw[e];exact bU.of ol) ?_ ?_⟩
 ·rintro k x f g hk ⟨v,rfl,rfl⟩;obtain⟨y,_,rfl⟩:=List.mem_map.mp (List.mem_of_getElem? hk);exists _,rfl;apply⟨_,rfl,rfl⟩
 ·rintro f g ⟨v,rfl,rfl⟩;apply Zbo (.inr ⟨dB.of c,dB.of ob⟩) (.cons (.inl ⟨rfl,rfl⟩) (.cons (.inl ⟨rfl,rfl⟩) (.cons (.inr ⟨l,h,rfl,rfl,.inr ⟨_,_,.inl ⟨bU.of ol,bU.of d⟩,xO (pH _)⟩⟩) .nil))) ?_;exact q
end
inductive Zv(K:aB)(c:Int)(l:AI)(sd:Int)(H:Hp)(Q:VK):Prop
 | mk (hs) (_:HsO H l hs) (_:HsB hs) (_:∀t d H',aY H H'->H t=none->H' t=some (.tup (dV d))->okR hs d->Q (.ref t) H'):Zv K c l sd H Q
def Zgs(K:aB):Sp:=λvs H Q E=>∃c l a,vs=[.int c,.ref l,.int a]/\Zv K c l a H Q
inductive Rj(K:aB)(c:Int)(l:AI)(sd:Int)(H:Hp)(Q:VK):Prop
 | mk (hs) (_:HsO H l hs) (_:HsB hs) (_:∀r H',aY H H'->H r=none->RL H H' hs r 2->Q (.ref r) H'):Rj K c l sd H Q
def Rx(K:aB):Sp:=λvs H Q E=>∃c l a,vs=[.int c,.ref l,.int a]/\Rj K c l a H Q
inductive Rh(K:aB)(l:AI)(c:Int)(sd:Int)(H:Hp)(Q:VK):Prop
 | mk (hs) (_:HsO H l hs) (_:HsB hs) (_:∀r H',aY H H'->RL H H' hs r 200->Q (.ref r) H'):Rh K l c sd H Q
def Zcd(K:aB):Sp:=λvs H Q E=>∃l c a,vs=[.ref l,.int c,.int a]/\Rh K l c a H Q
inductive Zo(K:aB)(a:AI)(l:AI)(H:Hp)(Q:VK):Prop
 | mk (ns:AE) (hs) (_:bU K H a (ns.map V.int)) (_:ns.length<=63) (_:HsO H l hs) (_:HsB hs) (_:∀r H',aY H H'->RL H H' hs r 700->Q (.ref r) H'):Zo K a l H Q
def Zy(K:aB):Sp:=λvs H Q E=>∃a l,vs=[.ref a,.ref l]/\Zo K a l H Q
section
theorem f38{x:Int}(a:0<=x)(h1:x<2):∃m:Int,TY [V.int 3,.int 8] x=some (.int m)/\0<m:=by
 have:x=0\/x=1:=δ
 rcases this with rfl | rfl
 ·exact⟨3,rfl,ε⟩
 ·exact⟨8,rfl,ε⟩
theorem Zk{c L:Int}{l:AI}(q:Zv K c l L H Q):
  Dt K qp Zgq Zgp yd ξ [some (.int c),↑l,some (.int L),none,none,none,none,none,none,none] H:=by
 obtain⟨hs,N,hb,q⟩:=q;have n1:=hb.n1;have Zb4:∀{j:Hp}{ts:AF},HsO j l hs->j l=some (.lst bP)->ts.length=hs.length:=λ{j ts} h e=>by
  obtain⟨P,h1,h2⟩:=h;rw[h1]at e;have:=congrArg (λo=>match o with | some (HO.lst T)=>T.length | _=>0) e;simp only[aU]at this;rw[<- this];exact h2.length
 obtain⟨ts,ol,al⟩:=id N;have r:=al.length;unfold Dt;apply dU (bU.of ol) ?_;rw[aU,r];apply⟨_,_,_,rfl,ε,ε,δ,λzh W h1 _=>?_⟩;obtain⟨h,rfl⟩:=toN W;have hh:h<hs.length:=δ
 obtain⟨m,hm⟩:∃m,hs[h]? =some m:=⟨_,bK hh⟩;have mb:=hb.sb m (List.mem_of_getElem? hm);obtain⟨F,I,z⟩:=al.get hm;have k:TY bP (h:Int)=↑F:=gm (by rw[cz,I];rfl);apply fL (bU.of ol) k ?_;refine⟨F,_,1,_,rfl,rfl,dB.of z,rfl,?_⟩;apply⟨_,_,_,rfl,ε,ε,δ,λzs Y s1 _=>?_⟩;obtain⟨s,rfl⟩:=toN Y;apply fL (bU.of ol) k ?_;refine⟨F,_,1,_,rfl,rfl,dB.of z,rfl,?_⟩;apply⟨_,_,_,rfl,ε,ε,δ,λzt S t1 _=>?_⟩;obtain⟨t,rfl⟩:=toN S;apply⟨aR ζ,λU D=>?_⟩;generalize zz:upd H U _=H2;obtain⟨i,Z⟩:=nwO D zz;ext;obtain⟨mf,A,C⟩:=f38 (x:=c % 5 / 4) δ δ;refine fL (bU.of Z) A ?_;apply⟨_,_,_,rfl,ε,ε,C,λzf O _ _=>?_⟩;obtain⟨f,rfl⟩:=toN O;apply⟨_,_,_,rfl,ε,ε,ε,λw w0 w1 _=>?_⟩;have os:Pk hs h s:=⟨m,hm,s1⟩;have y:Pk hs h t:=⟨m,hm,t1⟩;have tup:∀(d:iZ),okR hs d->∀tp,H2 tp=none->Q (.ref tp) (upd H2 tp (.tup (dV d))):=λd ok tp a=>q tp d _ (i.trans (aK a _)) (i.free a) aq ok;apply su a4 (λw5=>?_)
 ·apply⟨_,_,_,rfl,h,s,rfl,rfl,λtp J bulk j sm a m0 m8 b0 o=>q tp _ j (i.trans sm) (i.free a) o ⟨os,m0,m8,b0⟩⟩
 apply su a4 (λw8=>?_)
 ·apply⟨aR ζ,λtp a=>tup (.get h s t f) ⟨os,y⟩ tp a⟩
 apply su a4 (λw11=>?_)
 ·apply⟨aR ζ,λtp a=>tup (.put h t f s) ⟨y,os⟩ tp a⟩
 apply su a4 (λR=>?_)
 ·apply⟨aR ζ,λtp a=>tup (.copy h s t) ⟨os,y⟩ tp a⟩
 apply su a4 (λX=>?_)
 ·apply⟨aR ζ,λtp a=>tup (.drop h s) os tp a⟩
 apply su a4 (λw15=>?_)
 ·have p:=i _ _ ol;apply dU (bU.of p) ?_;rw[aU,r];apply⟨_,_,_,rfl,ε,ε,δ,λzg g0 g1 _=>?_⟩;obtain⟨g,rfl⟩:=toN g0;have hg:g<hs.length:=δ
  obtain⟨mg,b⟩:∃m,hs[g]? =some m:=⟨_,bK hg⟩;have mgb:=hb.sb mg (List.mem_of_getElem? b);obtain⟨tg,E,B⟩:=al.get b;apply fL (bU.of p) (gm (v:=.ref tg) (by rw[cz,E];rfl)) ?_;refine⟨tg,_,1,_,rfl,rfl,dB.of (i _ _ B),rfl,?_⟩;apply⟨_,_,_,rfl,ε,ε,δ,λzu u0 M _=>?_⟩;obtain⟨u,rfl⟩:=toN u0;apply⟨aR ζ,λtp a=>tup (.give h s g u) ⟨os,mg,b,M⟩ tp a⟩
 apply su a4 (λZzj=>?_)
 ·apply⟨_,rfl,λld=>?_⟩;apply⟨aR ζ,λtp a=>tup (.write h t ld) y tp a⟩
 apply⟨_,_,_,rfl,ε,ε,ε,λzw a0 a1 _=>?_⟩;apply⟨_,_,rfl,a0,δ,λwd=>?_⟩;apply su a4 (λw18=>?_)
 ·apply⟨aR ζ,λtp a=>tup (.name h t wd) y tp a⟩
 apply⟨aR ζ,λtp a=>tup (.seek h s wd) os tp a⟩
def dW:iZ->Str
 | .make .. =>"make"
 | .get .. =>"get"
 | .put .. =>"put"
 | .copy .. =>"copy"
 | .drop .. =>"drop"
 | .give .. =>"give"
 | .write .. =>"write"
 | .read .. =>"read"
 | .name .. =>"name"
 | .seek .. =>"seek"
theorem dV0(d:iZ):∃r,dV d=.str (dW d)::r:=by cases d<;>exact⟨_,rfl⟩
theorem Zt9{d:iZ}(h:dW d="put"):∃h t f s,d=.put h t f s:=by
 cases d<;>first | exact⟨_,_,_,_,rfl⟩ | exact absurd h (by simp only[dW];decide)
theorem Zta{d:iZ}(h:dW d="get"):∃h s t f,d=.get h s t f:=by
 cases d<;>first | exact⟨_,_,_,_,rfl⟩ | exact absurd h (by simp only[dW];decide)
theorem Ug{c y:Int}{l:AI}(q:Rj K c l y H Q):
  zH K (Zgs K) qp ξ [some (.int c),↑l,some (.int y),none] H:=by
 obtain⟨hs,B,hb,q⟩:=q;unfold zH;apply⟨_,_,_,rfl,hs,B,hb,λt d A b nt k ok=>?_⟩;obtain⟨F,E⟩:=dV0 d;have x:TY (dV d) 0=some (.str (dW d)):=by rw[E];exact gm (j:=0) rfl
 have one:bH (fG cn) ξ [some (.int c),↑l,some (.int y),↑t] A:=by
  apply⟨aR ζ,λr g=>?_⟩;have a:=aK g (.lst [.ref t]);exact q r _ (b.trans a) (b.free g) ((rl1 (d:=d) (b.trans a) (b.free g) nt aq (a _ _ k) ok).mono ε)
 have p:(aM (cU ((Xb (bL (bx (wk) (bx a6 Φ υ) (tC (.str "get")))) (bL (bx (wk) (bx ρ (bx a7 π eJ) am) υ)))) (bH (fG (aj Φ (aj (dI (aj (tC (.str "put")) (aj (bx a6 Φ τ) (aj (bx a6 Φ aT) (aj (bx a6 Φ cw) (aj (aQ qp [] E0 (aj π (aj (tC (.int 1159523)) (aj aT aD)))) aD)))))) aD)))) bW)
   (bH (fG cn))) ξ [some (.int c),↑l,some (.int y),↑t] A:=by
  exists t,_,0,_,rfl,rfl,dB.of k,x;apply su (λhp=>?_) a4
  ·obtain⟨h,s,w,f,rfl⟩:=Zta hp;obtain⟨o1,o2⟩:=ok;apply su a4 a4
   ·exists t,_,1,_,rfl,rfl,dB.of k,rfl;exists t,_,3,_,rfl,rfl,dB.of k,rfl;exists t,_,4,_,rfl,rfl,dB.of k,rfl;apply⟨_,_,_,rfl,ε,ε,ε,λz D z1 _=>?_⟩;obtain⟨sl,rfl⟩:=toN D;apply⟨aR ζ,λu v=>⟨aR ζ,λr g=>?_⟩⟩;have a:=aK v (.tup (dV (.put h w f sl)));have o:=aK g (.lst [.ref t,.ref u]);have C:h<hs.length:=by obtain⟨m,hm,_⟩:=o1;exact(cP hm).1
    exact q r _ (b.trans (a.trans o)) (b.free (a.free g)) (rl2 (d:=.get h s w f) (e:=.put h w f sl) (b.trans (a.trans o)) (b.free (a.free g)) nt (b.free v) aq (o _ _ (a _ _ k)) ⟨o1,o2⟩ (o _ _ aq) ⟨o2,hb.ok C δ⟩)
   ·exact one
  ·exact one
 exists t,_,0,_,rfl,rfl,dB.of k,x;apply su (λhp=>?_) a4
 ·obtain⟨h,w,f,s,rfl⟩:=Zt9 hp;obtain⟨o1,o2⟩:=ok;apply su a4 a4
  ·exists t,_,1,_,rfl,rfl,dB.of k,rfl;exists t,_,4,_,rfl,rfl,dB.of k,rfl;apply⟨aR ζ,λu v=>⟨aR ζ,λr g=>?_⟩⟩;have a:=aK v (.tup (dV (.drop h s)));have o:=aK g (.lst [.ref t,.ref u]);exact q r _ (b.trans (a.trans o)) (b.free (a.free g)) (rl2 (d:=.put h w f s) (e:=.drop h s) (b.trans (a.trans o)) (b.free (a.free g)) nt (b.free v) aq (o _ _ (a _ _ k)) ⟨o1,o2⟩ (o _ _ aq) o2)
  ·exact p
 ·exact p
end
section
def Zj2(σ:St)(e:TE)(d:iZ):Prop:=∀(b:Hp) (c:VK),(∀t a,aY b a->b t=none->a t=some (.tup (dV d))->c (.ref t) a)->e σ b c
theorem W7{σ:St}{c:TE}{d:iZ}(h:∀(a:Hp) (b:VK),(∀t,a t=none->b (.ref t) (upd a t (.tup (dV d))))->c σ a b):Zj2 σ c d:=λa b k=>h a b λt nt=>k t _ (aK nt _) nt aq
theorem Zch{H0:Hp}{hs:Bu}{d e:iZ}{h tb:TE}{σ:St}(f:aY H0 H)(o:Zj2 σ h d)(hb:Zj2 σ tb e)(n:okR hs d)(i:okR hs e)(k:∀l H',aY H H'->RL H0 H' hs l 2->Q (.ref l) H'):fG (aj h (aj tb aD)) σ H Q:=by
 left;refine o H _ λt m c nt q=>?_;left;refine hb m _ λu r a p j=>?_;left;refine⟨aR ζ,λl nl=>?_⟩;have b:=aK nl (.lst [.ref t,.ref u]);have g:=f.trans (c.trans (a.trans b));exact k l _ (c.trans (a.trans b)) (rl2 g (f.free (c.free (a.free nl))) (f.free nt) (f.free (c.free p)) aq (b _ _ (a _ _ q)) n (b _ _ j) i)
theorem Zjc{H0:Hp}{hs:Bu}{d e f:iZ}{j tb tc:TE}{σ:St}(h:aY H0 H)(s:Zj2 σ j d)(hb:Zj2 σ tb e)(hc:Zj2 σ tc f)(r:okR hs d)(n:okR hs e)(m:okR hs f)(k:∀l H',aY H H'->RL H0 H' hs l 3->Q (.ref l) H'):fG (aj j (aj tb (aj tc aD))) σ H Q:=by
 left;refine s H _ λt q g nt x=>?_;left;refine hb q _ λu p a v o=>?_;left;refine hc p _ λw y c nw ow=>?_;left;refine⟨aR ζ,λl nl=>?_⟩;have b:=aK nl (.lst [.ref t,.ref u,.ref w]);have i:=h.trans (g.trans (a.trans (c.trans b)));exact k l _ (g.trans (a.trans (c.trans b))) (rl3 i (h.free (g.free (a.free (c.free nl)))) (h.free nt) (h.free (g.free v)) (h.free (g.free (a.free nw))) aq (b _ _ (c _ _ (a _ _ x))) r (b _ _ (c _ _ o)) n (b _ _ ow) m)
theorem T7{l:AI}{c P:Int}(q:Rh K l c P H Q):
  zB K qp yd ξ [↑l,some (.int c),some (.int P),none,none,none] H:=by
 obtain⟨hs,ho,hb,q⟩:=q;obtain⟨ts,ol,al⟩:=id ho;have W:=al.length;have n5:=hb.n5;unfold zB;apply⟨ε,λr0 nr0=>?_⟩;have s1:=aK nr0 (.lst []);have g1:RL H (upd H r0 (.lst [])) hs r0 0:=⟨s1,nr0,[],aq,Nat.le_refl _,λv hv=>(nomatch hv)⟩;generalize upd H r0 (.lst [])=J at s1 g1 ⊢;apply dU (bU.of (s1 _ _ ol)) ?_;rw[aU,W];exists _,rfl,δ,δ;refine forR (λk D b=>∃r o,D=[↑l,some (.int c),some (.int P),↑r,o,none]/\aY H b/\RL H b hs r (4 * k)) ⟨r0,_,rfl,s1,g1⟩ ?_ ?_
 ·rintro k D b hk ⟨r,o,rfl,B,rl⟩;have F:k<hs.length:=δ
  rw[Int.zero_add];obtain⟨f,ef⟩:=toN (x:=(k:Int) % 2) δ;have S:Pk hs k 0:=hb.ok F ε;have o1:Pk hs k 1:=hb.ok F ε;refine Zp1 ?_;refine vQ ?_;refine Fx ?_;refine Ze1 ?_;refine Ze0 ?_;refine Zch (H0:=H) B (d:=.make k 0 2 0) (e:=.make k 1 1 0) dE dE ⟨S,ε,ε,ε⟩ ⟨o1,ε,ε,ε⟩ λZ H2 sm2 rl2=>?_;refine uV (rl.same sm2) rl2 δ λr3 a sm3 _ rl3=>?_;refine YT ?_;refine Fx ?_;refine Ze1 ?_;refine Ze0 ?_;refine Zch (H0:=H) rl3.s (d:=.put k 0 f 1) (e:=.drop k 1) (W7 λJ T h=>by ext;rw[ef];exact⟨aR ζ,h⟩) dE ⟨S,o1⟩ o1 λl4 R sm4 O=>?_;refine uV (rl3.same sm4) O δ λY H5 sm5 _ C=>?_;refine YT ?_;exact⟨Y,_,rfl,B.trans (sm2.trans (sm3.trans (sm4.trans sm5))),C.mono δ⟩
 ·rintro D b ⟨r,o,rfl,B,rl⟩;have rl:=rl.mono (N':=20) δ;apply⟨_,_,_,rfl,ε,ε,ε,λw w0 w1 _=>?_⟩;have rest:∀{I:AI}{a:Hp}{o:Option V},aY H a->RL H a hs I 30->(aM (bC (bx (qw) Φ (fG (aj (dI (aj (tC (.str "sweep")) (aj (bx Θ τ (aQ qp [] E0 (aj ψ (aj (tC (.int 882377)) (aj cw aD))))) aD))) aD))) db)
   (kW K yd)) ξ [↑l,some (.int c),some (.int P),↑I,o,some (.int w)] a:=by
   intro I a o m rl1;apply⟨_,_,_,rfl,ε,ε,ε,λz z0 z1 _=>?_⟩;apply⟨aR ζ,λU nt0=>⟨aR ζ,λl5 N=>?_⟩⟩;have g:=aK nt0 (.tup [.str "sweep",.int (1+z)]);have g4:upd a U (.tup [.str "sweep",.int (1+z)]) U=some (.tup [.str "sweep",.int (1+z)]):=aq;show qw _ _ (upd (upd a U (.tup [.str "sweep",.int (1+z)])) l5 _) _;have N:upd a U (.tup [.str "sweep",.int (1+z)]) l5=none:=N;generalize upd a U (.tup [.str "sweep",.int (1+z)])=R at g g4 N ⊢;have A:=aK N (.lst [.ref U]);have Y:RL H (upd R l5 (.lst [.ref U])) hs l5 1:=Zpy (m.trans (g.trans A)) (m.free (g.free N)) (m.free nt0) aq (A _ _ g4) δ δ;refine uV (rl1.same (g.trans A)) (Y.mono (N':=4) ε) ε λr6 H6 X _ rl6=>?_;have s06:=m.trans (g.trans (A.trans X));refine YT ?_;unfold kW;apply dU (bU.of (s06 _ _ ol)) ?_;rw[aU,W];exists _,rfl,δ,δ;refine forR (λk D b=>∃r o,D=[↑l,some (.int c),some (.int P),↑r,o,some (.int w)]/\aY H b/\RL H b hs r (34+7 * k)) ⟨r6,_,rfl,s06,rl6⟩ ?_ ?_
   ·rintro k D b hk ⟨r,o,rfl,B,rl⟩;have F:k<hs.length:=δ
    rw[Int.zero_add];obtain⟨f,ef⟩:=toN (x:=(k:Int) % 2) δ;have S:Pk hs k 0:=hb.ok F ε;have o1:Pk hs k 1:=hb.ok F ε;have o2:Pk hs k 2:=hb.ok F ε;refine Zp1 ?_;refine vQ ?_;have L:∀{I:AI}{a:Hp},aY H a->RL H a hs I (34+7 * k+5)->(cU (bL (bx (wk) eA aT)) dr bW) ⟨λD b=>∃r o,D=[↑l,some (.int c),some (.int P),↑r,o,some (.int w)]/\aY H b/\RL H b hs r (34+7 * dG),Q,bH Φ ⟨n,Q,bk,ct⟩,λD b=>∃r o,D=[↑l,some (.int c),some (.int P),↑r,o,some (.int w)]/\aY H b/\RL H b hs r (34+7 * dG)⟩ [↑l,some (.int c),some (.int P),↑I,some (.int k),some (.int w)] a:=by
     intro I a m rl3;apply su a4 a4
     ·refine Fx ?_;refine Ze1 ?_;refine Ze0 ?_;left;refine⟨_,_,rfl,δ,δ,λwd=>?_⟩;left;refine⟨aR ζ,λt nt=>?_⟩;have g:=aK nt (.tup (dV (.name k 0 wd)));have g4:upd a t (.tup (dV (.name k 0 wd))) t=some (.tup (dV (.name k 0 wd))):=aq;show aj _ _ _ (upd a t (.tup (dV (.name k 0 wd)))) _;generalize upd a t (.tup (dV (.name k 0 wd)))=R at g g4 ⊢;left;refine⟨aR ζ,λu nu=>⟨aR ζ,λZ M=>?_⟩⟩;have A:=aK nu (.tup (dV (.drop k 0)));have g5:upd R u (.tup (dV (.drop k 0))) u=some (.tup (dV (.drop k 0))):=aq;show qw _ _ (upd (upd R u (.tup (dV (.drop k 0)))) Z _) _;have M:upd R u (.tup (dV (.drop k 0))) Z=none:=M;generalize upd R u (.tup (dV (.drop k 0)))=H5 at A g5 M ⊢;have X:=aK M (.lst [.ref t,.ref u]);have r6:RL H (upd H5 Z (.lst [.ref t,.ref u])) hs Z 2:=rl2 (d:=.name k 0 wd) (e:=.drop k 0) (m.trans (g.trans (A.trans X))) (m.free (g.free (A.free M))) (m.free nt) (m.free (g.free nu)) aq (X _ _ (A _ _ g4)) S (X _ _ g5) S;have s36:=g.trans (A.trans X);refine uV (rl3.same s36) r6 δ λr7 H7 s7 _ rl7=>?_;refine YT ?_;exact⟨r7,_,rfl,m.trans (s36.trans s7),rl7.mono δ⟩
     ·refine mQ ?_;exact⟨I,_,rfl,m,rl3.mono δ⟩
    have E:∀{I:AI}{a:Hp},aY H a->RL H a hs I (34+7 * k+2)->(aM bq
     (cU (bL (bx (wk) eA aT)) dr bW)) ⟨λD b=>∃r o,D=[↑l,some (.int c),some (.int P),↑r,o,some (.int w)]/\aY H b/\RL H b hs r (34+7 * dG),Q,bH Φ ⟨n,Q,bk,ct⟩,λD b=>∃r o,D=[↑l,some (.int c),some (.int P),↑r,o,some (.int w)]/\aY H b/\RL H b hs r (34+7 * dG)⟩ [↑l,some (.int c),some (.int P),↑I,some (.int k),some (.int w)] a:=by
     intro I a m rl3;refine vQ ?_;left;refine su a4 a4
     ·refine Fx ?_;refine Ze1 ?_;refine Ze0 ?_;refine Zjc (H0:=H) m (d:=.make k 0 1 0) (e:=.put k 0 0 1) (f:=.drop k 1) dE dE dE ⟨S,ε,ε,ε⟩ ⟨S,o1⟩ o1 λl4 R g O=>?_;refine uV (rl3.same g) O δ λY H5 A _ C=>?_;refine YT ?_;exact L (m.trans (g.trans A)) (C.mono δ)
     ·refine mQ ?_;exact L m (rl3.mono δ)
    left;refine su a4 a4
    ·refine Fx ?_;refine Ze1 ?_;refine Ze0 ?_;refine Zch (H0:=H) B (d:=.get k 1 0 f) (e:=.put k 0 f 2) (W7 λJ T h=>by ext;rw[ef];exact⟨aR ζ,h⟩) (W7 λJ T h=>by ext;rw[ef];exact⟨aR ζ,h⟩) ⟨o1,S⟩ ⟨S,o2⟩ λl4 R g O=>?_;refine uV (rl.same g) O δ λY H5 A _ C=>?_;refine YT ?_;exact E (B.trans (g.trans A)) (C.mono δ)
    ·refine mQ ?_;exact E B (rl.mono δ)
   ·rintro D b ⟨r,o,rfl,B,rl⟩;apply q r b B (rl.mono δ)
  apply su a4 a4
  ·refine Fx ?_;refine Ze1 ?_;refine Ze0 ?_;refine uh ?_;left;refine dU (bU.of (B _ _ ol)) ?_;rw[aU,W];left;refine⟨_,rfl,δ,δ,?_⟩;refine Zol (n:=hs.length) rfl δ (λi y b=>∃t,y=.ref t/\H t=none/\b t=some (.tup (dV (.make i 1 0 0)))) (by rintro i y J H2 ⟨t,e,f,z⟩ s;exact⟨t,e,f,s _ _ z⟩) (λi J q hq=>sE hq) (λi J hi m q hq=>?_) ?_
   ·walk_at"c";apply⟨aR ζ,λt nt=>hq _ _ (aK nt _) ⟨t,rfl,B.free (m.free nt),aq⟩⟩
   ·intro ys a m ly hy p np;have g:=aK np (.lst ys);have r4:RL H (upd a p (.lst ys)) hs p 5:=⟨B.trans (m.trans g),B.free (m.free np),ys,aq,δ,λv hv=>by
     obtain⟨i,hi,e⟩:=List.getElem_of_mem hv;obtain⟨t,e2,fz,z⟩:=hy i v (by rw[bK hi,e]);exact .inr ⟨t,_,e2,fz,g _ _ z,hb.ok δ ε,ε,ε,ε⟩⟩
    refine uV (rl.same (m.trans g)) r4 ε λY H5 A _ C=>?_;refine YT ?_;exact rest (B.trans (m.trans (g.trans A))) (C.mono ε)
  ·refine mQ ?_;exact rest B (rl.mono ε)
theorem Zd{a l:AI}(q:Zo K a l H Q):
  Dl K (Bs K) (Rx K) qp (Zcd K) ξ [↑a,↑l,none,none,none,none,none] H:=by
 obtain⟨ns,hs,N,hlen,ho,hb,q⟩:=q;unfold Dl;apply⟨ε,λr0 J=>?_⟩;have C:=aK J (.lst []);have g1:RL H (upd H r0 (.lst [])) hs r0 200:=⟨C,J,[],aq,Nat.zero_le _,λv hv=>(nomatch hv)⟩;generalize upd H r0 (.lst [])=H1 at C g1 ⊢;have rest:∀{I:AI}{F:Hp},aY H F->RL H F hs I 200->(lR K (Bs K) (Rx K) qp) ξ [↑a,↑l,↑I,none,none,none,none] F:=by
  intro I F P rl2;unfold lR;apply⟨a,2,rfl,ns,P.seq N,ε,λsd _=>?_⟩;apply⟨a,_,rfl,P.seq N,λj L=>?_⟩;have Ztr:∃M:AE,TV df (some 3) (some 63)=M.map V.int/\M.length<=63:=by
   refine⟨(ns.drop (HT.lZ ns.length 0 (some 3))).take (HT.lZ ns.length ns.length (some 63) - HT.lZ ns.length 0 (some 3)),?_,?_⟩
   ·unfold TV;rw[List.map_take,List.map_drop,aU]
   ·rw[List.length_take,List.length_drop];omega
  obtain⟨M,ez,lz⟩:=Ztr;rw[ez];generalize zz:upd F j _=H3;obtain⟨s3,g3⟩:=nwO L zz;have Y:I≠j:=by
   obtain⟨_,_,vs,o,_⟩:=rl2;exact aF o L
  refine⟨j,rfl,⟨_,bU.of g3⟩,forL (M.map V.int) (λi Z B=>∃r U X,Z=[↑a,↑l,↑r,some (.int sd),some (.int i),U,X]/\B j=some (.lst (M.map V.int))/\r≠j/\RL H B hs r (200+6 * i)) ⟨I,_,_,rfl,g3,Y,rl2.same s3⟩ (by rintro _ _ _ _ ⟨_,_,_,_,z,_⟩;exact bU.of z) ?_ ?_⟩
  ·rintro i x Z B hi ⟨r,U,X,rfl,A,S,rl⟩;have W:=(cP hi).1;rw[aU]at W;obtain⟨c,hc,rfl⟩:=List.mem_map.mp (List.mem_of_getElem? hi);have hii:(i:Int) * i<=3969:=by
    have:=Nat.mul_le_mul (show i<=63 by omega) (show i<=63 by omega);have e:((i * i:Nat):Int)=(i:Int) * i:=by push_cast;rfl
    omega
   have hi0:0<=(i:Int) * i:=Int.mul_nonneg δ δ;have O:=rl.s;ext;generalize c+(i:Int) * i * 1000003=z;refine⟨_,_,_,rfl,ε,ε,ε,λy y0 y1 _=>?_⟩;apply su a4 a4
   ·ext;obtain⟨s0,n0,vs,o0,lvs,ra⟩:=rl;refine⟨.inl ⟨rfl,_,bU.of o0⟩,?_⟩;apply⟨_,_,_,rfl,ε,ε,ε,λw w0 w1 _=>?_⟩;apply⟨aR ζ,λu p=>?_⟩;generalize zz:upd B u _=H5;obtain⟨g,g5⟩:=nwO p zz;have o5:=g _ _ o0;refine⟨r,_,_,rfl,rfl,o5,Nat.lt_of_le_of_lt (show _<=4000 by omega) ε,?_⟩;apply Zlx rfl ?_;have ne:∀{b:AI}{ws:List V},H5 b=some (.tup ws)->b≠r:=λ{b ws} h e=>by rw[e,o5]at h;cases h
    refine⟨r,_,_,by rw[show((i+1:Nat):Int)=(i:Int)+1 from by push_cast;rfl];rfl,(aC S.symm).trans (g _ _ A),S,⟨λb o hb=>by rw[aC (aF hb n0)];exact g _ _ (s0 _ _ hb),n0,_,aq,by rw[List.length_append,List.length_singleton];omega,λv hv=>?_⟩⟩;rcases List.mem_append.mp hv with hv | hv
    ·rcases(ra.same g) v hv with ⟨t,k,e,f,o,z⟩ | ⟨t,d,e,f,o,k⟩
     ·exact .inl ⟨t,k,e,f,(aC (ne o)).trans o,z⟩
     ·exact .inr ⟨t,d,e,f,(aC (ne o)).trans o,k⟩
    ·rw[List.mem_singleton.mp hv];exact .inl ⟨u,1+w,rfl,s0.free p,(aC (ne g5)).trans g5,δ,δ⟩
   ·apply⟨_,_,_,rfl,hs,ho.same O,hb,λr5 H5 g _ D=>?_⟩;have D:=D.base O;refine uV (rl.same g) D δ λT H7 R n7 E=>?_;apply Zlx rfl ?_;exact⟨T,_,_,by rw[show((i+1:Nat):Int)=(i:Int)+1 from by push_cast;rfl];rfl,R _ _ (g _ _ A),(aF (g _ _ A) n7).symm,E.mono δ⟩
  ·rintro Z B ⟨r,U,X,rfl,A,S,rl⟩;rw[aU]at rl;apply⟨_,_,_,rfl,ε,ε,ε,λz z0 z1 _=>?_⟩;apply⟨aR ζ,λu p=>⟨aR ζ,λl5 m=>?_⟩⟩;have A:=aK p (.tup [.str "sweep",.int (1+z)]);have g4:upd B u (.tup [.str "sweep",.int (1+z)]) u=some (.tup [.str "sweep",.int (1+z)]):=aq;show qw _ _ (upd (upd B u (.tup [.str "sweep",.int (1+z)])) l5 _) _;have m:upd B u (.tup [.str "sweep",.int (1+z)]) l5=none:=m;generalize upd B u (.tup [.str "sweep",.int (1+z)])=H4 at A g4 m ⊢;have g:=aK m (.lst [.ref u]);have r5:RL H (upd H4 l5 (.lst [.ref u])) hs l5 1:=Zpy (rl.s.trans (A.trans g)) (rl.s.free (A.free m)) (rl.s.free p) aq (g _ _ g4) δ δ;refine uV (rl.same (A.trans g)) (r5.mono (N':=24) ε) δ λT H7 R _ E=>?_;exact q T H7 (rl.s.trans (A.trans (g.trans R))) (E.mono δ)
 apply⟨a,0,rfl,ns,C.seq N,ε,λc0 _=>?_⟩;apply⟨_,_,_,rfl,ε,ε,ε,λz z0 z1 _=>?_⟩;apply su a4 a4
 ·apply⟨a,0,rfl,ns,C.seq N,ε,λc1 _=>?_⟩;apply⟨a,2,rfl,ns,C.seq N,ε,λc2 _=>?_⟩;apply⟨_,_,_,rfl,hs,ho.same C,hb,λr F P rl2=>?_⟩;refine Zp2 ?_;exact rest (C.trans P) (rl2.base C)
 ·refine mQ ?_;exact rest C g1
end
def Ztn(M:Wm):Prop:=M.sw.phase="walk"->M.sw.grey.Nodup/\∀x∈M.sw.grey,∃c,cellAt M x=some c/\c.tone=M.sw.sense
structure KW(M:Wm)(hs:Bu)(k:Nat):Prop where
 hl:M.hands.length=hs.length
 hn:∀(i:Nat) m n,M.hands[i]? =some m->hs[i]? =some n->m.2.length=n.2.toNat
 cl:M.cells.length<=k
 nl:M.names.length<=k
 fl:∀c,some c∈M.cells->c.fl.length<=8
 gr:Ztn M
 ph:M.sw.phase="rest"\/M.sw.phase="walk"\/M.sw.phase="give"\/M.sw.phase="lost"
 a0:0<=M.sw.at'
 tl:0<=M.tells/\M.tells<4
section
variable {M:Wm}{hs:Bu}{k:Nat}
theorem Zau:∀(n:Nat) (l:AE),l.Nodup->(∀x∈l,0<=x/\x<n)->l.length<=n
 | 0,l,_,h=>by
  cases l with
  | nil=>exact Nat.le_refl _
  | cons x l=>have:=h x ζ;omega
 | n+1,l,nd,h=>by
  have h1:(l.erase (n:Int)).length<=n:=Zau n _ (nd.erase _) λx hx=>by
   have h2:=h x (List.mem_of_mem_erase hx);have b:x≠(n:Int):=((nd.mem_erase_iff).mp hx).1
   push_cast at h2
   omega
  have h4:=List.length_erase (a:=(n:Int)) (l:=l);split at h4<;>omega
theorem HJ{x:Int}{c:Ce}(h:cellAt M x=some c):0<=x/\x<M.cells.length:=by
 obtain⟨a,h1⟩:=bF.mp h;have:=(cP h1).1;omega
theorem KW.ok(p:KW M hs k)(hb:HsB hs)(hk:k<=900):Zcc M:=by
 have d:=p.cl;have b:=p.nl;refine⟨δ,λm hm=>?_,λc hc=>by have:=p.fl c hc;omega,δ,λph=>?_,λph x hx=>?_,p.ph,p.a0⟩
 ·obtain⟨i,hi,e⟩:=List.getElem_of_mem hm;have a:i<hs.length:=by rw[<- p.hl];exact hi
  have h1:=p.hn i m _ (by rw[bK hi,e]) (bK a);have h2:=hb.sb _ (List.getElem_mem a);omega
 ·obtain⟨nd,h1⟩:=p.gr ph;refine Nat.le_trans (Zau M.cells.length _ nd λx hx=>?_) δ;obtain⟨c,hc,_⟩:=h1 x hx;exact HJ hc
 ·obtain⟨c,hc,_⟩:=(p.gr ph).2 x hx;exact⟨c,hc⟩
theorem KW.yE(p:KW M hs k){h s:Nat}(o:Pk hs h s):yE M h s:=by
 obtain⟨m,hm,b⟩:=o;have a:h<M.hands.length:=by rw[p.hl];exact(cP hm).1
 refine⟨_,bK a,?_⟩;have:=p.hn h _ m (bK a) hm;omega
theorem KW.okD(p:KW M hs k){d:iZ}(o:okR hs d):okD M d:=by
 cases d with
 | make h s a bulk=>exact⟨p.yE o.1,o.2.1,by have:=o.2.2.1;omega,o.2.2.2⟩
 | get h s t f=>exact⟨p.yE o.1,p.yE o.2⟩
 | put h t f s=>exact⟨p.yE o.1,p.yE o.2⟩
 | copy h s t=>exact⟨p.yE o.1,p.yE o.2⟩
 | drop h s=>exact p.yE o
 | give h s g t=>exact⟨p.yE o.1,p.yE o.2⟩
 | write h t l=>exact p.yE o
 | read h t=>exact p.yE o
 | name h t z=>exact p.yE o
 | seek h s z=>exact p.yE o
theorem KW.mono{a:Nat}(p:KW M hs k)(h:k<=a):KW M hs a:=by
 obtain⟨f,b,j,l,g,c,e,d,i⟩:=p;exact⟨f,b,δ,δ,g,c,e,d,i⟩
theorem KW.slot(p:KW M hs k)(h s:Nat)(x:AA):KW (setSlot M h s x) hs k:=by
 obtain⟨o,e,l,t,r,f,q,j,g⟩:=p;refine⟨by show(M.hands.modify h _).length=_;rw[List.length_modify];exact o,λi m n a d=>?_,l,t,r,f,q,j,g⟩;have a:(M.hands.modify h λm=>(m.1,m.2.set s x))[i]? =some m:=a;rw[List.getElem?_modify]at a;cases c:M.hands[i]? with
 | none=>rw[c]at a;cases a
 | some b=>
  rw[c]at a
  by_cases z:h=i
  ·have e3:(b.1,b.2.set s x)=m:=by simpa[z]using a
   rw[<- e3];show(b.2.set s x).length=_;rw[List.length_set];exact e i b n c d
  ·have e3:b=m:=by simpa[z]using a
   rw[<- e3];exact e i b n c d
theorem dz{i:Int}{c c':Ce}(h:cellAt M i=some c)(x:Int):cellAt (setCell M i c') x=if x=i then some c' else cellAt M x:=by
 obtain⟨b,h1⟩:=bF.mp h;unfold cellAt;show(if 0<=x then((M.cells.set i.toNat (some c'))[x.toNat]?).join else none)=_
 by_cases e:x=i
 ·subst e;rw[if_pos b,if_pos rfl,List.getElem?_set_self (cP h1).1];rfl
 ·rw[if_neg e]
  by_cases a:0<=x
  ·rw[if_pos a,if_pos a,List.getElem?_set_ne δ]
  ·rw[if_neg a,if_neg a]
theorem KW.cell(p:KW M hs k){i:Int}{c c':Ce}(h:cellAt M i=some c)(f:c'.tone=c.tone)(s:c'.fl.length=c.fl.length):KW (setCell M i c') hs k:=by
 have h8:=p.fl c (mR h);obtain⟨n,j,m,r,q,b,o,l,g⟩:=p;refine⟨n,j,by show(M.cells.set _ _).length<=_;rw[List.length_set];exact m,r,λd hd=>?_,λph=>?_,o,l,g⟩
 ·rcases List.mem_or_eq_of_mem_set (show some d∈M.cells.set _ _ from hd)with hd | hd
  ·exact q d hd
  ·cases hd;omega
 ·obtain⟨nd,h1⟩:=b ph;refine⟨nd,λx hx=>?_⟩;obtain⟨d,hd,a⟩:=h1 x hx;rw[dz h]
  by_cases e:x=i
  ·subst e;rw[h]at hd;cases hd;exact⟨c',by rw[if_pos rfl],by rw[f];exact a⟩
  ·exact⟨d,by rw[if_neg e];exact hd,a⟩
theorem KW.note(p:KW M hs k)(x:AA):KW (bA M x).2 hs k:=by
 cases x with
 | none=>exact p
 | some i=>
  unfold bA;dsimp only;cases hc:cellAt M i with
  | none=>exact p
  | some c=>
   dsimp only;split
   ·rename_i z
    obtain⟨z1,j⟩:=z;have h8:=p.fl c (mR hc);obtain⟨r,l,q,u,t,h,s,m,n⟩:=p;obtain⟨nd,h1⟩:=h z1;have f:i∉M.sw.grey:=λhi=>by
     obtain⟨d,hd,g⟩:=h1 i hi;rw[hc]at hd;cases hd;exact j g
    refine⟨r,l,by show(M.cells.set _ _).length<=_;rw[List.length_set];exact q,u,λd hd=>?_,λ_=>⟨?_,λx hx=>?_⟩,s,m,n⟩
    ·rcases List.mem_or_eq_of_mem_set (show some d∈M.cells.set _ _ from hd)with hd | hd
     ·exact t d hd
     ·cases hd;exact h8
    ·show(M.sw.grey++[i]).Nodup;rw[List.nodup_append];exact⟨nd,ζ,λa o b hb e=>f (by rw[List.mem_singleton.mp hb]at e;rw[<- e];exact o)⟩
    ·have e:=dz (c':={ c with tone:=M.sw.sense }) hc x;show ∃d,cellAt (setCell M i { c with tone:=M.sw.sense }) x=some d/\d.tone=M.sw.sense;rw[e]
     by_cases ex:x=i
     ·exact⟨_,by rw[if_pos ex],rfl⟩
     ·rcases List.mem_append.mp (show x∈M.sw.grey++[i]from hx)with hx | hx
      ·obtain⟨d,hd,g⟩:=h1 x hx;exact⟨d,by rw[if_neg ex];exact hd,g⟩
      ·exact absurd (List.mem_singleton.mp hx) ex
   ·exact p
theorem KW.notes:∀{l:Au}{M:Wm},KW M hs k->KW (aO M l).2 hs k
 | [],_,p=>p
 | x::l,_,p=>KW.notes (l:=l) (p.note x)
theorem KW.nh(a:Int):∀{l:List (Str×Au)}{j:Nat}{M:Wm},KW M hs k->KW (eO a l j M).2 hs k
 | [],_,_,p=>p
 | m::l,j,M,p=>by
  unfold eO;split
  ·exact KW.nh a (l:=l) (KW.notes p)
  ·exact KW.nh a (l:=l) p
theorem KW.put(p:KW M hs k){u b:Int}{c:Ce}(i:c.fl.length<=8):KW { M with used:=u,born:=b,cells:=jB M.cells c } hs dG:=by
 obtain⟨j,g,n,o,m,a,l,h,f⟩:=p;refine⟨j,g,?_,by show M.names.length<=_;omega,λd hd=>?_,λph=>?_,l,h,f⟩
 ·have:=Znu M.cells c;show(jB M.cells c).length<=_;omega
 ·rcases Zl9 hd with hd | hd
  ·exact m d hd
  ·cases hd;exact i
 ·obtain⟨nd,h1⟩:=a ph;refine⟨nd,λx hx=>?_⟩;obtain⟨d,hd,e⟩:=h1 x hx;exact⟨d,Zer hd,e⟩
theorem Zhd{l:List bX}{z:Str}{v:Int×Int}:(mq l z v).length<=l.length+1:=by
 unfold mq;split
 ·rw[aU];omega
 ·rw[List.length_append];simp
theorem KW.name(p:KW M hs k){z:Str}{v:Int×Int}:KW { M with names:=mq M.names z v } hs dG:=by
 obtain⟨e,a,h,i,f,b,d,c,g⟩:=p;refine⟨e,a,by show M.cells.length<=_;omega,?_,f,b,d,c,g⟩;have:=Zhd (l:=M.names) (z:=z) (v:=v);show(mq M.names z v).length<=_;omega
theorem KW.deed(p:KW M hs k){d:iZ}{e:Ev}{i:Wm}(o:okR hs d)(h:kJ M d=.ok (e,i)):KW i hs dG:=by
 have le:k<=k+1:=δ
 cases d with
 | make a s b bulk=>
  simp only[kJ]at h;split at h
  ·right;refine KW.slot (KW.put p ?_) _ _ _;show(List.replicate b.toNat none).length<=8;rw[List.length_replicate];have:=o.2.2.1;omega
  ·cases h
 | get a s t f=>
  simp only[kJ]at h;split at h
  ·cases h
  ·split at h
   ·cases h
   ·split at h
    ·cases h
    ·right;exact(p.slot _ _ _).mono le
 | put a t f s=>
  simp only[kJ]at h;split at h
  ·cases h
  ·split at h
   ·cases h
   ·rename_i c hc
    split at h
    ·cases h
    ·right;exact(KW.notes (p.cell (c':={ c with fl:=c.fl.set f (aV M a s) }) hc rfl (by show(List.set _ _ _).length=_;rw[List.length_set]))).mono le
 | copy a s t=>
  right;exact(p.slot _ _ _).mono le
 | drop a s=>
  right;exact(p.slot _ _ _).mono le
 | give a s g t=>
  right;exact(KW.notes (p.slot _ _ _)).mono le
 | write a t l=>
  simp only[kJ]at h;split at h
  ·cases h
  ·split at h
   ·cases h
   ·rename_i c hc
    right;exact(p.cell (c':={ c with load:=l }) hc rfl rfl).mono le
 | read a t=>
  simp only[kJ]at h;split at h
  ·cases h
  ·split at h
   ·cases h
   ·right;exact p.mono le
 | name a t z=>
  simp only[kJ]at h;split at h
  ·cases h
  ·split at h
   ·cases h
   ·right;exact p.name
 | seek a s z=>
  simp only[kJ]at h;split at h
  ·cases h
  ·split at h
   ·right;exact(p.slot _ _ _).mono le
   ·right;exact(KW.notes (p.slot _ _ _)).mono le
theorem KW.step(p:KW M hs k){lb:Int}{lw:AE}{e:Ev}{t:Wm}(h:fZ lb lw M e t):KW t hs k:=by
 cases h with
 | begin ph=>
  refine KW.nh _ ?_;obtain⟨j,b,f,m,l,r,o,n,a⟩:=p;exact⟨j,b,f,m,l,λ_=>⟨List.nodup_nil,λx hx=>(nomatch hx)⟩,.inr (.inl rfl),n,a⟩
 | walk x g c ph hg hc=>
  refine KW.notes ?_;obtain⟨j,b,f,m,l,r,o,n,a⟩:=p;refine⟨j,b,f,m,l,λ_=>?_,o,n,a⟩;obtain⟨nd,h1⟩:=r ph;rw[hg]at nd h1;exact⟨(List.nodup_cons.mp nd).2,λy hy=>h1 y (List.mem_cons_of_mem _ hy)⟩
 | look N ph hg D A=>
  have B:KW N hs k:=by rw[A];exact KW.nh _ p
  obtain⟨j,b,f,m,l,r,o,n,a⟩:=B;exact⟨j,b,f,m,l,r,o,n,a⟩
 | cut q C ph hg cd u s=>
  obtain⟨j,b,f,m,l,r,o,n,a⟩:=p;exact⟨j,b,f,m,l,λz=>absurd z (show ¬ ("give":Str)="walk" by decide),.inr (.inr (.inl rfl)),Int.le_refl _,a⟩
 | lost q C i x c v ph hg cd u hx s hc w=>
  obtain⟨j,b,f,m,l,r,o,n,a⟩:=p;exact⟨j,b,f,m,l,λz=>absurd z (show ¬ ("lost":Str)="walk" by decide),.inr (.inr (.inr rfl)),Int.le_refl _,a⟩
 | pass ph lt hp=>
  obtain⟨j,b,f,m,l,r,o,n,a⟩:=p;exact⟨j,b,f,m,l,r,o,by show 0<=M.sw.at'+1;omega,a⟩
 | back c ph lt hc w=>
  obtain⟨j,b,f,m,l,r,o,n,a⟩:=p;refine⟨j,b,by show(M.cells.set _ _).length<=_;rw[List.length_set];exact f,m,λd hd=>?_,λz=>absurd (ph.symm.trans z) ε,o,by show 0<=M.sw.at'+1;omega,a⟩;rcases List.mem_or_eq_of_mem_set (show some d∈M.cells.set _ _ from hd)with hd | hd
  ·exact l d hd
  ·cases hd
 | fin ph lt=>
  obtain⟨j,b,f,m,l,r,o,n,a⟩:=p;exact⟨j,b,f,m,l,λz=>absurd z (show ¬ ("rest":Str)="walk" by decide),.inl rfl,n,a⟩
 | again ph=>exact p
theorem KW.new{room:Int}{w t:Int}(b:0<=t)(h1:t<4):KW (Pz room hs w t) hs 0:=by
 refine⟨by show(hs.map _).length=_;rw[aU],λi m n a d=>?_,Nat.le_refl _,Nat.le_refl _,λc hc=>(nomatch hc),λz=>absurd z (show ¬ ("rest":Str)="walk" by decide),.inl rfl,Int.le_refl _,⟨b,h1⟩⟩;have a:(hs.map λm=>(m.1,List.replicate m.2.toNat (none:AA)))[i]? =some m:=a;rw[cz,d]at a;cases a;exact List.length_replicate
end
inductive Tr where
 | fl:V->Tr
 | ls:List Tr->Tr
 | tp:List Tr->Tr
structure Kp(H H':Hp)(T T':Tg):Prop where
 k:∀b o,H b=some o->(T b).1=0\/6<=(T b).1->H' b=some o
 tg:∀b o,H b=some o->T' b=T b
 al:∀b o,H b=some o->∃o',H' b=some o'
theorem Kp.same{H H':Hp}{T:Tg}(s:aY H H'):Kp H H' T T:=⟨λb o h _=>s _ _ h,λ_ _ _=>rfl,λb o h=>⟨o,s _ _ h⟩⟩
theorem Kp.stp{s:Nat}{H H':Hp}{T T':Tg}(st:dZ s H H' T T')(n:s≠0/\s<6):Kp H H' T T':=⟨λb o h t=>st.kp b o h δ,st.tg,st.al⟩
theorem Kp.trans{H d c:Hp}{T f e:Tg}(a:Kp H d T f)(b:Kp d c f e):Kp H c T e:=
 ⟨λx o h t=>b.k x o (a.k x o h t) (by rw[a.tg x o h];exact t),λx o h=>by
  obtain⟨o1,h1⟩:=a.al x o h;exact(b.tg x o1 h1).trans (a.tg x o h),λx o h=>by
  obtain⟨o1,h1⟩:=a.al x o h;exact b.al x o1 h1⟩
theorem Zpc(x:AA):lq (oV x)=true:=by cases x<;>rfl
def fW(M:Wm)(i:Int):Bool:=match cellAt M i with
 | none=>false
 | some c=>decide (c.tone≠M.sw.sense)
def ntP(M:Wm):Au->AE->AE
 | [],acc=>acc
 | none::l,acc=>ntP M l acc
 | some i::l,acc=>if fW M i=true/\i∉acc then ntP M l (acc++[i])else ntP M l acc
def eV(M:Wm):AE->Wm
 | acc=>acc.foldl (λN i=>(bA N (some i)).2) M
def MF(M:Wm)(i:Int):Int:=((cellAt M i).map (·.birth)).getD 0
section
variable {M:Wm}
theorem Pu(acc:AE)(i:Int):eV M (acc++[i])=(bA eT (some i)).2:=by
 unfold eV;rw[List.foldl_append];rfl
structure NL(M N:Wm)(acc:AE):Prop where
 sw:N.sw={ M.sw with grey:=M.sw.grey++acc }
 at_:∀i,cellAt N i=if i∈acc then(cellAt M i).map (λc=>{ c with tone:=M.sw.sense })else cellAt M i
 nt:NtR M N
theorem Zao(ph:M.sw.phase="walk"):∀(n:Nat) (acc:AE),acc.length=n->acc.Nodup->(∀i∈acc,fW M i=true)->NL M eT acc:=by
 intro n
 induction n with
 | zero=>
  intro acc hl _ _;rw[List.eq_nil_of_length_eq_zero hl];exact⟨by rw[List.append_nil];rfl,λi=>by rw[if_neg ζ];rfl,NtR.refl M⟩
 | succ n r=>
  intro acc hl nd hp;obtain⟨a0,i,rfl⟩:∃a0 i,acc=a0++[i]:=⟨acc.dropLast,acc.getLast (by intro z;rw[z]at hl;cases hl),(List.dropLast_concat_getLast _).symm⟩;rw[List.length_append,List.length_singleton]at hl;rw[List.nodup_append]at nd;obtain⟨k,_,m⟩:=nd;have f:i∉a0:=λz=>m i z i ζ rfl;obtain⟨g,p,n1⟩:=r a0 δ k λx hx=>hp x (by simp[hx]);have a:=hp i ζ;unfold fW at a;cases hc:cellAt M i with
  | none=>rw[hc]at a;cases a
  | some c=>
   rw[hc]at a;have q:c.tone≠M.sw.sense:=decide_eq_true_iff.mp a;have b:cellAt (eV M a0) i=some c:=by rw[p i,if_neg f];exact hc
   have j:(eV M a0).sw.phase="walk":=by rw[g];exact ph
   have d:(eV M a0).sw.sense=M.sw.sense:=by rw[g]
   have o:bA (eV M a0) (some i)=(some c.birth,{ setCell (eV M a0) i { c with tone:=(eV M a0).sw.sense }with sw:={ (eV M a0).sw with grey:=(eV M a0).sw.grey++[i] } }):=by
    unfold bA;dsimp only;rw[b];dsimp only;rw[if_pos ⟨j,by rw[d];exact q⟩]
   rw[Pu];have l:=n1.trans (Zan (eV M a0) (some i));refine⟨?_,λx=>?_,l⟩
   ·rw[o];show { (eV M a0).sw with grey:=(eV M a0).sw.grey++[i] }=_;rw[g];simp only[List.append_assoc]
   ·rw[o];show cellAt (setCell (eV M a0) i { c with tone:=(eV M a0).sw.sense }) x=_;rw[dz b,d]
    by_cases e:x=i
    ·subst e;rw[if_pos rfl,if_pos ζ,hc];rfl
    ·rw[if_neg e,p x]
     by_cases h:x∈a0
     ·rw[if_pos h,if_pos (by simp[h])]
     ·rw[if_neg h,if_neg (by simp[h,e])]
theorem X5:∀(l:Au) (acc:AE),acc.Nodup->(∀i∈acc,fW M i=true)->(ntP M l acc).Nodup/\∀i∈ntP M l acc,fW M i=true
 | [],acc,h1,h2=>⟨h1,h2⟩
 | none::l,acc,h1,h2=>X5 l acc h1 h2
 | some i::l,acc,h1,h2=>by
  unfold ntP;split
  ·rename_i z
   refine X5 l (acc++[i]) ?_ λx hx=>?_
   ·rw[List.nodup_append];exact⟨h1,ζ,λa c b hb e=>z.2 (by rw[List.mem_singleton.mp hb]at e;rw[<- e];exact c)⟩
   ·rcases List.mem_append.mp hx with hx | hx
    ·exact h2 x hx
    ·rw[List.mem_singleton.mp hx];exact z.1
  ·exact X5 l acc h1 h2
theorem yF(ph:M.sw.phase="walk"):∀(l:Au) (acc:AE),acc.Nodup->(∀i∈acc,fW M i=true)->(aO eT l).2=eV M (ntP M l acc)/\acc.map (MF M)++(aO eT l).1=(ntP M l acc).map (MF M)
 | [],acc,_,_=>⟨rfl,by rw[show(aO eT []).1=[]from rfl,List.append_nil];rfl⟩
 | none::l,acc,h1,h2=>by
  have e:aO eT (none::l)=aO eT l:=by
   show(X4 none++(aO eT l).1,(aO eT l).2)=_;rfl
  rw[e];exact yF ph l acc h1 h2
 | some i::l,acc,h1,h2=>by
  have nl:=Zao ph acc.length acc rfl h1 h2;have h:(eV M acc).sw.phase="walk":=by rw[nl.sw];exact ph
  have d:(eV M acc).sw.sense=M.sw.sense:=by rw[nl.sw]
  have o:aO eT (some i::l)=(X4 (bA eT (some i)).1++(aO (bA eT (some i)).2 l).1,(aO (bA eT (some i)).2 l).2):=rfl;rw[o];unfold ntP
  by_cases z:fW M i=true/\i∉acc
  ·rw[if_pos z];obtain⟨z1,n⟩:=z;have j:=z1;unfold fW at z1;cases hc:cellAt M i with
   | none=>rw[hc]at z1;cases z1
   | some c=>
    rw[hc]at z1;have p:c.tone≠M.sw.sense:=decide_eq_true_iff.mp z1;have g:cellAt eT i=some c:=by rw[nl.at_ i,if_neg n];exact hc
    have k:(bA eT (some i)).1=some c.birth:=by
     unfold bA;dsimp only;rw[g];dsimp only;rw[if_pos ⟨h,by rw[d];exact p⟩]
    have q:(bA eT (some i)).2=eV M (acc++[i]):=(Pu acc i).symm;rw[k,q];have nd:(acc++[i]).Nodup:=by
     rw[List.nodup_append];exact⟨h1,ζ,λa r b hb e=>n (by rw[List.mem_singleton.mp hb]at e;rw[<- e];exact r)⟩
    obtain⟨m,f⟩:=yF ph l (acc++[i]) nd λx hx=>by
     rcases List.mem_append.mp hx with hx | hx
     ·exact h2 x hx
     ·rw[List.mem_singleton.mp hx];exact j
    refine⟨m,?_⟩;rw[<- f,List.map_append];have s:MF M i=c.birth:=by unfold MF;rw[hc];rfl
    simp[X4,s]
  ·rw[if_neg z];have k:bA eT (some i)=(none,eV M acc):=by
    unfold bA;dsimp only;rw[nl.at_ i]
    by_cases hi:i∈acc
    ·rw[if_pos hi];cases hc:cellAt M i with
     | none=>rfl
     | some c=>
      show(if _ then _ else _)=_;rw[if_neg (λy=>y.2 (by rw[d]))]
    ·rw[if_neg hi];cases hc:cellAt M i with
     | none=>rfl
     | some c=>
      have:¬ fW M i=true:=λy=>z ⟨y,hi⟩;unfold fW at this;rw[hc]at this;show(if _ then _ else _)=_;rw[if_neg (λy=>this (decide_eq_true (by rw[<- d];exact y.2)))]
   rw[k];obtain⟨m,f⟩:=yF ph l acc h1 h2;exact⟨m,by simpa[X4]using f⟩
def yN(a:Int):List (Str×Au)->Nat->Au
 | [],_=>[]
 | m::l,k=>if a / 2 ^ k % 2=1 then m.2++yN a l dG else yN a l dG
theorem Pr:∀(a b:Au) (M:Wm),aO M (a++b)=((aO M a).1++(aO (aO M a).2 b).1,(aO (aO M a).2 b).2)
 | [],b,M=>rfl
 | x::a,b,M=>by
  show(X4 (bA M x).1++(aO (bA M x).2 (a++b)).1,(aO (bA M x).2 (a++b)).2)=((X4 (bA M x).1++(aO (bA M x).2 a).1)++(aO (aO (bA M x).2 a).2 b).1,(aO (aO (bA M x).2 a).2 b).2);rw[Pr a b,List.append_assoc]
theorem nO(a:Int):∀(l:List (Str×Au)) (k:Nat) (M:Wm),eO a l k M=aO M (yN a l k)
 | [],_,_=>rfl
 | m::l,k,M=>by
  unfold eO yN;split
  ·rw[Pr,nO a l dG]
  ·exact nO a l dG M
end
structure TB(w0:Int)(M:Wm):Prop where
 bu:∀i j c d,cellAt M i=some c->cellAt M j=some d->c.birth=d.birth->i=j
 bn:∀i c,cellAt M i=some c->1<=c.birth/\c.birth<=M.born
 b0:0<=M.born
 se:M.sw.sense=0\/M.sw.sense=1
 tn:∀i c,cellAt M i=some c->c.tone=0\/c.tone=1
 rs:M.sw.phase="rest"->∀i c,cellAt M i=some c->c.tone=M.sw.sense
 gv:M.sw.phase="give"->∀i c,cellAt M i=some c->c.tone≠M.sw.sense->M.sw.at'<=i/\i<M.sw.stop
 ww:M.w=w0
structure Sb(M M':Wm):Prop where
 ce:∀i,(cellAt M' i).map (·.birth)=(cellAt M i).map (·.birth)
 tn:∀i c c',cellAt M i=some c->cellAt M' i=some c'->c'.tone=c.tone\/(M.sw.phase="walk"/\c'.tone=M.sw.sense)
 bn:M'.born=M.born
 se:M'.sw.sense=M.sw.sense
 ph:M'.sw.phase=M.sw.phase
 at_:M'.sw.at'=M.sw.at'
 st:M'.sw.stop=M.sw.stop
 ww:M'.w=M.w
section
variable {M M':Wm}{w0:Int}
theorem Sb.get(h:Sb M M'){i:Int}{c':Ce}(e:cellAt M' i=some c'):∃c,cellAt M i=some c/\c'.birth=c.birth/\(c'.tone=c.tone\/(M.sw.phase="walk"/\c'.tone=M.sw.sense)):=by
 have h1:=h.ce i;rw[e]at h1;cases hc:cellAt M i with
 | none=>rw[hc]at h1;cases h1
 | some c=>
  rw[hc]at h1;exact⟨c,rfl,Option.some.inj h1,h.tn i c c' hc e⟩
theorem Sb.tX(h:M'.cells=M.cells)(bn:M'.born=M.born)(se:M'.sw.sense=M.sw.sense)(ph:M'.sw.phase=M.sw.phase)(at_:M'.sw.at'=M.sw.at')(st:M'.sw.stop=M.sw.stop)(ww:M'.w=M.w):Sb M M':=by
 have e:∀i,cellAt M' i=cellAt M i:=λi=>by unfold cellAt;rw[h]
 exact⟨λi=>by rw[e],λi c a h1 h2=>by rw[e,h1]at h2;cases h2;exact .inl rfl,bn,se,ph,at_,st,ww⟩
theorem Sb.refl(M:Wm):Sb M M:=Sb.tX rfl rfl rfl rfl rfl rfl rfl
theorem Sb.trans{d:Wm}(a:Sb M M')(b:Sb M' d):Sb M d:=by
 refine⟨λi=>(b.ce i).trans (a.ce i),λi c c2 h1 h2=>?_,b.bn.trans a.bn,b.se.trans a.se,b.ph.trans a.ph,b.at_.trans a.at_,b.st.trans a.st,b.ww.trans a.ww⟩;obtain⟨c1,e,_,h4⟩:=b.get h2;have h5:=a.tn i c c1 h1 e;rw[a.ph,a.se]at h4;rcases h4 with h4 | h4
 ·rcases h5 with h5 | h5
  ·exact .inl (h4.trans h5)
  ·exact .inr ⟨h5.1,h4.trans h5.2⟩
 ·exact .inr h4
theorem Sb.slot(M:Wm)(h s:Nat)(x:AA):Sb M (setSlot M h s x):=Sb.tX rfl rfl rfl rfl rfl rfl rfl
theorem Sb.cell{i:Int}{c c':Ce}(h:cellAt M i=some c)(hb:c'.birth=c.birth)(a:c'.tone=c.tone\/(M.sw.phase="walk"/\c'.tone=M.sw.sense)):Sb M (setCell M i c'):=by
 refine⟨λx=>?_,λx d b h1 h2=>?_,rfl,rfl,rfl,rfl,rfl,rfl⟩
 ·rw[dz h]
  by_cases e:x=i
  ·subst e;rw[if_pos rfl,h];exact congrArg some hb
  ·rw[if_neg e]
 ·rw[dz h]at h2
  by_cases e:x=i
  ·subst e;rw[if_pos rfl]at h2;rw[h]at h1;cases h1;cases h2;exact a
  ·rw[if_neg e,h1]at h2;cases h2;exact .inl rfl
theorem Sb.note(M:Wm)(x:AA):Sb M (bA M x).2:=by
 cases x with
 | none=>exact Sb.refl M
 | some i=>
  unfold bA;dsimp only;cases hc:cellAt M i with
  | none=>exact Sb.refl M
  | some c=>
   dsimp only;split
   ·rename_i z
    exact(Sb.cell (c':={ c with tone:=M.sw.sense }) hc rfl (.inr ⟨z.1,rfl⟩)).trans (Sb.tX rfl rfl rfl rfl rfl rfl rfl)
   ·exact Sb.refl M
theorem Sb.notes:∀(l:Au) (M:Wm),Sb M (aO M l).2
 | [],M=>Sb.refl M
 | x::l,M=>(Sb.note M x).trans (Sb.notes l _)
theorem Sb.nh(a:Int):∀(l:List (Str×Au)) (j:Nat) (M:Wm),Sb M (eO a l j M).2
 | [],_,M=>Sb.refl M
 | m::l,j,M=>by
  unfold eO;split
  ·exact(Sb.notes m.2 M).trans (Sb.nh a l (j+1) _)
  ·exact Sb.nh a l (j+1) M
theorem TB.sb(p:TB w0 M)(h:Sb M M'):TB w0 M':=by
 refine⟨λi j c d h1 h2 e=>?_,λi c h1=>?_,by rw[h.bn];exact p.b0,by rw[h.se];exact p.se,λi c h1=>?_,λph i c h1=>?_,λph i c h1 f=>?_,by rw[h.ww];exact p.ww⟩
 ·obtain⟨a,b,g,_⟩:=h.get h1;obtain⟨l,k,m,_⟩:=h.get h2;exact p.bu i j a l b k (by rw[<- g,<- m];exact e)
 ·obtain⟨a,b,g,_⟩:=h.get h1;rw[g,h.bn];exact p.bn i a b
 ·obtain⟨a,b,_,t1⟩:=h.get h1;rcases t1 with t1 | t1
  ·rw[t1];exact p.tn i a b
  ·rw[t1.2];exact p.se
 ·obtain⟨a,b,_,t1⟩:=h.get h1;rw[h.ph]at ph;rw[h.se];rcases t1 with t1 | t1
  ·rw[t1];exact p.rs ph i a b
  ·exact t1.2
 ·obtain⟨a,b,_,t1⟩:=h.get h1;rw[h.ph]at ph;rw[h.se]at f;rw[h.at_,h.st];rcases t1 with t1 | t1
  ·exact p.gv ph i a b (by rw[<- t1];exact f)
  ·exact absurd t1.2 f
theorem fQ{x u b:Int}{c d:Ce}(h:cellAt { M with used:=u,born:=b,cells:=jB M.cells c } x=some d):(x=iD M.cells/\d=c)\/cellAt M x=some d:=by
 obtain⟨f,h1⟩:=bF.mp h;have h1:(jB M.cells c)[x.toNat]? =some (some d):=h1
 by_cases z:x.toNat=iD M.cells
 ·rw[z,Mq]at h1;cases h1;exact .inl ⟨δ,rfl⟩
 ·refine .inr (bF.mpr ⟨f,?_⟩);unfold jB at h1;split at h1
  ·rw[List.getElem?_set_ne (λe=>z e.symm)]at h1;exact h1
  ·rename_i y
   rw[List.getElem?_append]at h1;split at h1
   ·exact h1
   ·rename_i i
    have a:=(cP h1).1;have g:=Y0 M.cells;have:x.toNat - M.cells.length<1:=a;omega
theorem TB.put(p:TB w0 M){u:Int}{c:Ce}(hb:c.birth=M.born+1)(b:c.tone=M.sw.sense):TB w0 { M with used:=u,born:=M.born+1,cells:=jB M.cells c }:=by
 have b0:=p.b0;refine⟨λi j d e h1 h2 f=>?_,λi d h1=>?_,by show 0<=M.born+1;omega,p.se,λi d h1=>?_,λph i d h1=>?_,λph i d h1 hp=>?_,p.ww⟩
 ·rcases fQ h1 with ⟨z1,a⟩ | z1
  ·rcases fQ h2 with ⟨y1,g⟩ | y1
   ·rw[z1,y1]
   ·have:=p.bn j e y1;rw[a,hb]at f;omega
  ·rcases fQ h2 with ⟨y1,g⟩ | y1
   ·have:=p.bn i d z1;rw[g,hb]at f;omega
   ·exact p.bu i j d e z1 y1 f
 ·show 1<=d.birth/\d.birth<=M.born+1;rcases fQ h1 with ⟨z1,a⟩ | z1
  ·rw[a,hb];omega
  ·have:=p.bn i d z1;omega
 ·rcases fQ h1 with ⟨z1,a⟩ | z1
  ·rw[a,b];exact p.se
  ·exact p.tn i d z1
 ·rcases fQ h1 with ⟨z1,a⟩ | z1
  ·rw[a];exact b
  ·exact p.rs ph i d z1
 ·rcases fQ h1 with ⟨z1,a⟩ | z1
  ·rw[a]at hp;exact absurd b hp
  ·exact p.gv ph i d z1 hp
theorem TB.deed(p:TB w0 M){d:iZ}{e:Ev}(h:kJ M d=.ok (e,M')):TB w0 M':=by
 cases d with
 | make a s b bulk=>
  simp only[kJ]at h;split at h
  ·right;exact(TB.put p (c:=⟨M.born+1,bulk,M.sw.sense,0,List.replicate b.toNat none⟩) rfl rfl).sb eH
  ·cases h
 | get a s t f=>
  simp only[kJ]at h;split at h
  ·cases h
  ·split at h
   ·cases h
   ·split at h
    ·cases h
    ·right;exact p.sb eH
 | put a t f s=>
  simp only[kJ]at h;split at h
  ·cases h
  ·split at h
   ·cases h
   ·rename_i c hc
    split at h
    ·cases h
    ·right;exact p.sb ((Sb.cell (c':={ c with fl:=c.fl.set f (aV M a s) }) hc rfl (.inl rfl)).trans (Sb.notes _ _))
 | copy a s t=>
  right;exact p.sb eH
 | drop a s=>
  right;exact p.sb eH
 | give a s g t=>
  right;exact p.sb ((Sb.slot _ _ _ _).trans (Sb.notes _ _))
 | write a t l=>
  simp only[kJ]at h;split at h
  ·cases h
  ·split at h
   ·cases h
   ·rename_i c hc
    right;exact p.sb (Sb.cell (c':={ c with load:=l }) hc rfl (.inl rfl))
 | read a t=>
  simp only[kJ]at h;split at h
  ·cases h
  ·split at h
   ·cases h
   ·right;exact p
 | name a t z=>
  simp only[kJ]at h;split at h
  ·cases h
  ·split at h
   ·cases h
   ·right;exact p.sb (Sb.tX rfl rfl rfl rfl rfl rfl rfl)
 | seek a s z=>
  simp only[kJ]at h;split at h
  ·cases h
  ·split at h
   ·right;exact p.sb eH
   ·right;exact p.sb ((Sb.slot _ _ _ _).trans (Sb.notes _ _))
theorem TB.step(p:TB w0 M){lb:Int}{lw:AE}{e:Ev}(h:fZ lb lw M e M'):TB w0 M':=by
 cases h with
 | begin ph=>
  refine TB.sb ?_ (Sb.nh _ _ _ _);obtain⟨l,b,k,n,m,r,o,f⟩:=p;exact⟨l,b,k,by show 1 - M.sw.sense=0\/1 - M.sw.sense=1;omega,m,λz=>absurd z (show ¬ ("walk":Str)="rest" by decide),λz=>absurd z (show ¬ ("walk":Str)="give" by decide),f⟩
 | walk x g c ph hg hc=>
  have a:Sb M { M with sw:={ M.sw with grey:=g,walks:=M.sw.walks+1 } }:=Sb.tX rfl rfl rfl rfl rfl rfl rfl;exact p.sb (a.trans (Sb.notes c.fl _))
 | look N ph hg I C=>
  subst C;exact p.sb ((Sb.nh _ _ _ _).trans (Sb.tX rfl rfl rfl rfl rfl rfl rfl))
 | cut q F ph hg cd A y=>
  obtain⟨l,b,k,n,m,r,o,f⟩:=p;exact⟨l,b,k,n,m,λz=>absurd z (show ¬ ("give":Str)="rest" by decide),λ_ i c hc _=>HJ (M:=M) hc,f⟩
 | lost q F i x c v ph hg cd A hx y hc s=>
  obtain⟨l,b,k,n,m,r,o,f⟩:=p;exact⟨l,b,k,n,m,λz=>absurd z (show ¬ ("lost":Str)="rest" by decide),λz=>absurd z (show ¬ ("lost":Str)="give" by decide),f⟩
 | pass ph lt hp=>
  obtain⟨l,b,k,n,m,r,o,f⟩:=p;refine⟨l,b,k,n,m,r,λ_ i c hc s=>?_,f⟩;have h1:=o ph i c hc s;have h2:i≠M.sw.at':=λz=>s (hp c (by rw[<- z];exact hc));show M.sw.at'+1<=i/\i<M.sw.stop;omega
 | back c ph lt hc s=>
  obtain⟨l,b,k,n,m,r,o,f⟩:=p;have t:∀(u:Int) (w:Sw) (i:Int) (d:Ce),cellAt { M with used:=u,cells:=M.cells.set M.sw.at'.toNat none,sw:=w } i=some d->i≠M.sw.at'/\cellAt M i=some d:=λu w i d hd=>by
   obtain⟨E,h1⟩:=bF.mp hd;have h1:(M.cells.set M.sw.at'.toNat none)[i.toNat]? =some (some d):=h1;obtain⟨H,B⟩:=bF.mp hc
   by_cases z:M.sw.at'.toNat=i.toNat
   ·rw[z,List.getElem?_set_self (by rw[<- z];exact(cP B).1)]at h1;cases h1
   ·rw[List.getElem?_set_ne z]at h1;exact⟨λe=>z (by rw[e]),bF.mpr ⟨E,h1⟩⟩
  refine⟨λi j d e h1 h2 D=>l i j d e (t _ _ i d h1).2 (t _ _ j e h2).2 D,λi d h1=>b i d (t _ _ i d h1).2,k,n,λi d h1=>m i d (t _ _ i d h1).2,λz=>absurd (ph.symm.trans z) ε,λ_ i d h1 hp=>?_,f⟩;obtain⟨n1,n2⟩:=t _ _ i d h1;have J:=o ph i d n2 hp;show M.sw.at'+1<=i/\i<M.sw.stop;omega
 | fin ph lt=>
  obtain⟨l,b,k,n,m,r,o,f⟩:=p;refine⟨l,b,k,n,m,λ_ i c hc=>?_,λz=>absurd z (show ¬ ("rest":Str)="give" by decide),f⟩;refine Decidable.byContradiction λs=>?_;have h1:=o ph i c hc s;omega
 | again ph=>exact p
theorem TB.new{room:Int}{hs:Bu}{w t:Int}:TB w (Pz room hs w t):=by
 have e:∀i c,cellAt (Pz room hs w t) i=some c->False:=λi c h=>nomatch mR h;exact⟨λi _ c _ h=>(e i c h).elim,λi c h=>(e i c h).elim,Int.le_refl _,.inl rfl,λi c h=>(e i c h).elim,λ_ i c h=>(e i c h).elim,λ_ i c h=>(e i c h).elim,rfl⟩
end
section
variable {M:Wm}
end
inductive Zn6(K:aB)(a:AI)(H:Hp)(Q:VK):Prop
 | mk (ns:AE) (_:bU K H a (ns.map V.int)) (_:ns.length<=63) (_:∀H',Q (.bl true) H'):Zn6 K a H Q
def Zgr(K:aB):Sp:=λvs H Q E=>∃a,vs=[.ref a]/\Zn6 K a H Q
inductive Zt(X:Cs)(rf:Rf->AI)(wo:AI)(dd:AI)(H:Hp)(Q:VK):Prop
 | mk (T s A M d) (_:WT H T) (_:s≠0) (_:WJ X H T s A M) (_:A.wo=wo) (_:H dd=some (.tup (dV d))) (_:okD M d) (_:M.cells.length<=900) (_:(M.sw.phase="walk"->M.sw.grey.length<=10000)) (_:(0<=M.tells/\M.tells<4)) (_:M.names.length<=1000) (_:(∀r,kJ M d=.error r->∀H',aY H H'->Q .non H')) (_:(∀e M',kJ M d=.ok (e,M')->∀H' T' A' a,dZ s H H' T T'->WJ X H' T' s A' M'->A'.wo=wo->EvN H H' T' s a e->Q (.ref a) H')):Zt X rf wo dd H Q
def ZD(X:Cs)(rf:Rf->AI):Sp:=λvs H Q E=>∃wo dd,vs=[.ref wo,.ref dd]/\Zt X rf wo dd H Q
section
theorem Zi{wo dd CE f g c:AI}(h:rf .empty=CE)(m:rf .m7=f)(k:rf .full=g)(o:rf .Px=c)(q:Zt X rf wo dd H Q):
  uE CE g f c (Zzd X rf) ξ [↑wo,↑dd,none] H:=by
 obtain⟨T,s,A,M,d,w,x,j,rfl,p,od,hc,hg,tl,nm,h1,h2⟩:=q;unfold uE;apply⟨_,dd,rfl,T,s,A,M,d,trivial,w,x,j,rfl,p,od,hc,hg,tl,nm,λr i b sm=>?_,λe l y b v u a st t aw ev=>?_⟩
 ·refine⟨?_,?_⟩
  ·cases r
   ·exact .inr (.inr (.inl (by rw[k])))
   ·exact .inl (by rw[h])
   ·exact .inr (.inl (by rw[m]))
   ·exact .inr (.inr (.inr (by rw[o])))
  ·apply h1 r i b sm
 ·apply h2 e l y b v u a st t aw ev
end
def RwO(H:Hp)(l:AI)(a:List Au):Prop:=∃ls:AF,H l=some (.lst dO)/\ls.length=a.length/\∀(j:Nat) r x,ls[j]? =some r->a[j]? =some x->H r=some (.lst (x.map oV))
theorem YM{b:Int}{l:AE}:inV (.int b) (l.map V.int)=decide (b∈l):=Zbm
def Ii(H:Hp)(d:AI)(f:Int->Option V)(k:Nat):Prop:=∃a:List (L2.Key×V),H d=some (.dK a)/\a.length<=k/\∀b:Int,jA a (Sum.inl b)=f b
theorem Ii.get{H:Hp}{d:AI}{f:Int->Option V}{k:Nat}(h:Ii H d f k){b:Int}{v:V}(e:f b=some v):yo H d (.int b) eW:=by
 obtain⟨a,h1,_,h2⟩:=h;have:=yo.k (k:=Sum.inl b) h1;rw[h2 b,e]at this;exact this
theorem Ii.put{H:Hp}{d:AI}{f:Int->Option V}{k:Nat}(h:Ii H d f k)(hk:k<=100000)(b:Int)(v:V):∃H',Uk H d (.int b) v H'/\Ii H' d (λx=>if x=b then some v else f x) dG/\∃o,H'=upd H d o:=by
 obtain⟨a,h1,c,h2⟩:=h;refine⟨_,Uk.k (k:=Sum.inl b) (v:=v) h1 (Nat.lt_of_le_of_lt c (Nat.lt_of_le_of_lt hk ε)),⟨_,aq,?_,λx=>?_⟩,_,rfl⟩
 ·have:=xF a (Sum.inl b) v;omega
 ·rw[Zj5,h2 x];dsimp only
  by_cases e:x=b
  ·rw[if_pos e,if_pos (by rw[e])]
  ·rw[if_neg e,if_neg (λz=>e (Sum.inl.inj z))]
theorem Ii.same{H H':Hp}{d:AI}{f:Int->Option V}{k:Nat}(s:aY H H')(h:Ii H d f k):Ii H' d f k:=by
 obtain⟨a,h1,b,h2⟩:=h;exact⟨a,s _ _ h1,b,h2⟩
structure Tc where
 p:Int
 b:Int
 bulk:Int
 load:Int
 fs:Au
 tone:Str
def Tc1(H:Hp)(r f:AI)(x:Tc):Prop:=H r=some (.tup [.int x.p,.int x.b,.int x.bulk,.int x.load,.ref f,.str x.tone])/\H f=some (.lst (x.fs.map oV))
def CtO(H:Hp)(l:AI)(a:List Tc):Prop:=∃ls:AF,H l=some (.lst dO)/\ls.length=a.length/\∀(j:Nat) r x,ls[j]? =some r->a[j]? =some x->∃f,Tc1 H r f x
theorem CtO.same{H H':Hp}{l:AI}{a:List Tc}(s:aY H H')(h:CtO H l a):CtO H' l a:=by
 obtain⟨ls,h1,h2,c⟩:=h;refine⟨ls,s _ _ h1,h2,λj r x b d=>?_⟩;obtain⟨f,z1,e⟩:=c j r x b d;exact⟨f,s _ _ z1,s _ _ e⟩
inductive HS(K:aB)(l':AI)(l:AI)(d:AI)(H:Hp)(Q:VK):Prop
 | mk (rows Za3:List Tc) (f:Int->Option V) (k:Nat) (_:CtO H l' Za3) (_:CtO H l rows) (_:Ii H d f k) (_:Za3.length=rows.length) (_:rows.length<=1000) (_:(∀(j:Nat) x x',rows[j]? =some x->Za3[j]? =some x'->x'.p=x.p/\x'.b=x.b/\x'.bulk=x.bulk/\x'.load=x.load/\x'.fs=x.fs/\f x.b=some (.str x'.tone))) (_:∀H',aY H H'->Q (.bl true) H'):HS K l' l d H Q
def Ie(K:aB):Sp:=λvs H Q E=>∃a l d,vs=[.ref a,.ref l,.ref d]/\HS K a l d H Q
theorem Y4(l:Au):(l.map oV).all lq=true:=by
 rw[List.all_eq_true];intro v hv;obtain⟨x,_,rfl⟩:=List.mem_map.mp hv;exact Zpc x
section
theorem Rc{B l d:AI}(q:HS K B l d H Q):pU K ξ [↑B,↑l,↑d,none] H:=by
 obtain⟨u,L,f,kk,⟨o,s,M,F⟩,⟨ls,o1,hl,o2⟩,om,O,hb,hx,q⟩:=q;unfold pU;apply Kr s ?_;apply dU (bU.of s) ?_;apply dU (bU.of o1) ?_;rw[aU,aU];apply uQ (λz=>absurd (by rw[M,hl,O]) z) a4;apply dU (bU.of o1) ?_;rw[aU];exists _,rfl,δ,δ;refine forR (λk I t=>∃J,I=[↑B,↑l,↑d,J]/\aY H t) ⟨_,rfl,λ_ _ h=>h⟩ ?_ ?_
 ·rintro k I t hk ⟨J,rfl,g⟩;have hk:k<ls.length:=δ
  obtain⟨r,hr⟩:∃r,ls[k]? =some r:=⟨_,bK hk⟩;obtain⟨y,v⟩:∃r,o[k]? =some r:=⟨_,bK δ⟩;obtain⟨x,ex⟩:∃x,u[k]? =some x:=⟨_,bK δ⟩;obtain⟨D,w⟩:∃x,L[k]? =some x:=⟨_,bK δ⟩;obtain⟨P,t1,t2⟩:=o2 k r x hr ex;obtain⟨c,e,A⟩:=F k y D v w;obtain⟨e1,e2,e3,e4,e5,Z⟩:=hx k x D ex w;rw[e1,e2,e3,e4]at e;rw[e5]at A;have W:∀{Hy:Hp},aY H Hy->bU K Hy l dO:=λz=>bU.of (z _ _ o1);have i:∀{Hy:Hp},aY H Hy->bU K Hy B (o.map V.ref):=λz=>bU.of (z _ _ s);have X:TY dO ((0:Int)+(k:Int))=↑r:=by rw[Int.zero_add];exact gm (by rw[cz,hr];rfl)
  have j:TY (o.map V.ref) ((0:Int)+(k:Int))=↑y:=by rw[Int.zero_add];exact gm (by rw[cz,v];rfl)
  apply fL (i g) j ?_;apply Fw (g _ _ e) ?_;apply fL (i g) j ?_;exists y,_,rfl,.inr (dB.of (g _ _ e));apply uQ eC a4;apply fL (i g) j ?_;apply⟨y,_,rfl,dB.of (g _ _ e),(show ¬ (HT.lZ 6 0 none=0/\HT.lZ 6 6 (some 5)=6) by decide),λR C=>?_⟩;have U:=aK C (.tup [.int x.p,.int x.b,.int x.bulk,.int x.load,.ref c]);have S:upd t R (.tup [.int x.p,.int x.b,.int x.bulk,.int x.load,.ref c]) R=some (.tup [.int x.p,.int x.b,.int x.bulk,.int x.load,.ref c]):=aq;rw[show TV [V.int x.p,.int x.b,.int x.bulk,.int x.load,.ref c,.str D.tone] none (some 5)=[.int x.p,.int x.b,.int x.bulk,.int x.load,.ref c]from rfl];generalize upd t R (.tup [.int x.p,.int x.b,.int x.bulk,.int x.load,.ref c])=H3 at U S ⊢;have m:=g.trans U;apply fL (W m) X ?_;apply⟨r,_,rfl,dB.of (m _ _ t1),(show ¬ (HT.lZ 6 0 none=0/\HT.lZ 6 6 (some 5)=6) by decide),λY N=>?_⟩;rw[show TV [V.int x.p,.int x.b,.int x.bulk,.int x.load,.ref P,.str x.tone] none (some 5)=[.int x.p,.int x.b,.int x.bulk,.int x.load,.ref P]from rfl];generalize zz:upd H3 Y _=H4;obtain⟨T,g4⟩:=nwO N zz;have E:=T _ _ S;have a:=m.trans T;refine Zbo (.inr ⟨dB.of E,dB.of g4⟩) (.cons (.inl ⟨rfl,rfl⟩) (.cons (.inl ⟨rfl,rfl⟩) (.cons (.inl ⟨rfl,rfl⟩) (.cons (.inl ⟨rfl,rfl⟩) (.cons (.inr ⟨c,P,rfl,rfl,.inr ⟨_,_,.inl ⟨bU.of (a _ _ A),bU.of (a _ _ t2)⟩,xO (Y4 _)⟩⟩) .nil))))) ?_;apply fL (i a) j ?_;exists y,_,5,_,rfl,rfl,dB.of (a _ _ e),rfl;apply fL (W a) X ?_;exists r,_,1,_,rfl,rfl,dB.of (a _ _ t1),rfl;refine⟨d,_,rfl,(om.same a).get Z,?_⟩;apply uQ eC a4;apply⟨_,rfl,a⟩
 ·rintro I t ⟨J,rfl,g⟩;apply q t g
end
def RM(M:Wm)(t:Int×Ce):Tc:=⟨t.1,t.2.birth,t.2.bulk,t.2.load,t.2.fl.map (mU M),xg M t.1 t.2⟩
def nG(M:Wm):List Tc:=(gM M).map (RM M)
section
variable {M M':Wm}{w0:Int}
theorem qz{t:Int×Ce}(h:t∈gM M):cellAt M t.1=some t.2:=by
 obtain⟨k,hk,e⟩:=List.getElem_of_mem h;obtain⟨a,h1⟩:=Zfe (M:=M) (j:=k) (t:=t) (by rw[bK hk,e]);exact bF.mpr ⟨a,h1⟩
theorem Zc5{i:Int}{c:Ce}(h:cellAt M i=some c):(i,c)∈gM M:=by
 obtain⟨a,h1⟩:=bF.mp h;unfold gM;refine List.mem_filterMap.mpr ⟨i.toNat,List.mem_range.mpr (cP h1).1,?_⟩;rw[h1];show some (((i.toNat:Nat):Int),c)=some (i,c);rw[show((i.toNat:Nat):Int)=i from δ]
end
def CtF(H0 H:Hp)(l:AI)(a:List Tc):Prop:=∃ls:AF,H l=some (.lst dO)/\ls.length=a.length/\(∀(j:Nat) r x,ls[j]? =some r->a[j]? =some x->∃f,Tc1 H r f x/\H0 f=none/\H0 r=none)/\H0 l=none
def RwF(H0 H:Hp)(l:AI)(a:List Au):Prop:=∃ls:AF,H l=some (.lst dO)/\ls.length=a.length/\(∀(j:Nat) r x,ls[j]? =some r->a[j]? =some x->H r=some (.lst (x.map oV)))/\H0 l=none/\∀r∈ls,H0 r=none
def Nw(H0 H H':Hp):Prop:=∀b o,H0 b=none->H b=some o->H' b=some o
theorem CtF.nw{H0 H H':Hp}{l:AI}{a:List Tc}(k:Nw H0 H H')(h:CtF H0 H l a):CtF H0 H' l a:=by
 obtain⟨ls,h1,h2,i,h4⟩:=h;refine⟨ls,k _ _ h4 h1,h2,λj r x g d=>?_,h4⟩;obtain⟨f,⟨z1,e⟩,b,c⟩:=i j r x g d;exact⟨f,⟨k _ _ c z1,k _ _ b e⟩,b,c⟩
theorem CtF.o{H0 H:Hp}{l:AI}{a:List Tc}(h:CtF H0 H l a):CtO H l a:=by
 obtain⟨ls,h1,h2,c,_⟩:=h;refine⟨ls,h1,h2,λj r x b d=>?_⟩;obtain⟨f,z,_⟩:=c j r x b d;exact⟨f,z⟩
theorem RwF.nw{H0 H H':Hp}{l:AI}{a:List Au}(k:Nw H0 H H')(h:RwF H0 H l a):RwF H0 H' l a:=by
 obtain⟨ls,h1,h2,c,h4,h5⟩:=h;exact⟨ls,k _ _ h4 h1,h2,λj r x b d=>k _ _ (h5 r (List.mem_of_getElem? b)) (c j r x b d),h4,h5⟩
theorem RwF.o{H0 H:Hp}{l:AI}{a:List Au}(h:RwF H0 H l a):RwO H l a:=by
 obtain⟨ls,h1,h2,b,_⟩:=h;exact⟨ls,h1,h2,b⟩
theorem Nw.same{H0 H H':Hp}(s:aY H H'):Nw H0 H H':=λb o _ h=>s b o h
theorem Nw.stp{H0 H H':Hp}{T T':Tg}{s:Nat}(w:WT H0 T)(st:dZ s H H' T T')(n:s≠0):Nw H0 H H':=λb o a h=>st.kp b o h (by rw[w b a];exact λz=>n z.symm)
theorem Zfk{K:aB}{H:Hp}{l k:AI}{a:List Au}(h:RwO H l a)(h':RwO H k a):∃xs f,bU K H l xs/\bU K H k f/\Al (Dq K H 6) xs f:=by
 obtain⟨ls,h1,h2,p⟩:=h;obtain⟨n,d,c,e⟩:=h';refine⟨_,_,bU.of h1,bU.of d,WY (by rw[aU,aU,h2,c]) λi u v m g=>?_⟩;rw[cz]at m g;obtain⟨r,hr,rfl⟩:=Option.map_eq_some_iff.mp m;obtain⟨j,b,rfl⟩:=Option.map_eq_some_iff.mp g;have hi:i<a.length:=by rw[<- h2];exact(cP hr).1
 have z:=p i r a[i] hr (bK hi);have o:=e i j a[i] b (bK hi);exact .inr ⟨r,j,rfl,rfl,.inr ⟨_,_,.inl ⟨bU.of z,bU.of o⟩,xO (Y4 _)⟩⟩
inductive Zpq(X:Cs)(wo:AI)(way:Int)(H:Hp)(Q:VK):Prop
 | mk (T A M hs k) (_:WT H T) (_:WJ X H T 1 A M) (_:A.wo=wo) (_:KW M hs k) (_:TB way M) (_:HsB hs) (_:k<=900) (_:M.sw.phase≠"lost") (_:∀H' T' A' M',Kp H H' T T'->WT H' T'->WJ X H' T' 1 A' M'->A'.wo=wo->KW M' hs k->TB way M'->Q (.bl true) H'):Zpq X wo way H Q
def wB(a:List Tc)(b:Int):Option V:=(a.reverse.find? λx=>decide (x.b=b)).map λx=>V.str x.tone
theorem Zck(a:List Tc)(x:Tc)(b:Int):wB (a++[x]) b=if b=x.b then some (.str x.tone)else wB a b:=by
 unfold wB;rw[List.reverse_append,List.reverse_singleton,List.singleton_append,List.find?_cons]
 by_cases e:b=x.b
 ·rw[if_pos e,decide_eq_true e.symm];rfl
 ·rw[if_neg e,decide_eq_false (λz=>e z.symm)]
def J4(z:Str)(f:Int->Option V)(bs:AE)(b:Int):Option V:=if b∈bs then some (.str z)else f b
theorem Zdp(z:Str)(f:Int->Option V)(bs:AE)(b0 b:Int):J4 z f (bs++[b0]) b=if b=b0 then some (.str z)else J4 z f bs b:=by
 unfold J4
 by_cases e:b=b0
 ·rw[if_pos e,if_pos (by simp[e])]
 ·rw[if_neg e]
  by_cases a:b∈bs
  ·rw[if_pos a,if_pos (List.mem_append.mpr (.inl a))]
  ·rw[if_neg a,if_neg (λy=>?_)];rcases List.mem_append.mp y with y | y
   ·exact a y
   ·exact e (by simpa using y)
inductive Zn(K:aB)(l:AI)(m:AI)(z:Str)(H:Hp)(Q:VK):Prop
 | mk (rows:List Tc) (bs:AE) (_:CtO H l rows) (_:rows.length<=1000) (_:H m=some (.lst (bs.map V.int))) (_:bs.length<=4000) (_:∀a H',aY H H'->H a=none->Ii H' a (J4 z (wB rows) bs) 5000->Q (.ref a) H'):Zn K l m z H Q
def Zx(K:aB):Sp:=λvs H Q E=>∃l m z,vs=[.ref l,.ref m,.str z]/\Zn K l m z H Q
section
theorem Zc{l m:AI}{z:Str}(q:Zn K l m z H Q):Dk K ξ [↑l,↑m,some (.str z),none,none,none] H:=by
 obtain⟨a,bs,⟨ls,o1,hl,o2⟩,hb,om,L,q⟩:=q;unfold Dk;ext;intro d nd;have C:=aK nd (.dK []);have I:Ii (upd H d (.dK [])) d (wB []) 0:=⟨[],aq,Nat.le_refl _,λb=>rfl⟩;generalize upd H d (.dK [])=N at C I ⊢;apply⟨l,rfl,⟨_,bU.of (C _ _ o1)⟩,forL dO (λi j v=>∃u,j=[↑l,↑m,some (.str z),↑d,u,none]/\aY H v/\Ii v d (wB (a.take i)) i) ⟨_,rfl,C,I⟩ (by rintro _ _ _ _ ⟨_,_,y,_⟩;exact bU.of (y _ _ o1)) ?_ ?_⟩
 ·rintro i y j v hy ⟨u,rfl,t,w⟩;rw[cz]at hy;obtain⟨r,hr,rfl⟩:=Option.map_eq_some_iff.mp hy;have hi:i<ls.length:=(cP hr).1;obtain⟨x,hx⟩:∃x,a[i]? =some x:=⟨_,bK δ⟩;have k:a.take de=a.take i++[x]:=by rw[List.take_add_one,hx];rfl
  obtain⟨O,f,_⟩:=o2 i r x hr hx;have f:=t _ _ f;exists r,_,5,_,rfl,rfl,dB.of f,rfl;exists r,_,1,_,rfl,rfl,dB.of f,rfl;obtain⟨D,F,⟨e,h,p,g⟩,o,E⟩:=w.put δ x.b (.str x.tone);refine⟨d,D,rfl,F,_,rfl,λc M hc=>?_,e,h,p,λb=>?_⟩
  ·rw[E,aC (aF hc nd)];exact t _ _ hc
  ·rw[g b,k,Zck]
 ·rintro j v ⟨u,rfl,t,w⟩;rw[aU,List.take_of_length_le δ]at w;apply⟨m,rfl,⟨_,bU.of (t _ _ om)⟩,forL (bs.map V.int) (λi j Hy=>∃B,j=[↑l,↑m,some (.str z),↑d,u,B]/\aY H Hy/\Ii Hy d (J4 z (wB a) (bs.take i)) (ls.length+i)) ⟨_,rfl,t,?_⟩ (by rintro _ _ _ _ ⟨_,_,y,_⟩;exact bU.of (y _ _ om)) ?_ ?_⟩
  ·obtain⟨e,h,p,g⟩:=w;exact⟨e,h,δ,λb=>by rw[g b];unfold J4;rw[if_neg ζ]⟩
  ·rintro i y j Hy hy ⟨B,rfl,A,J⟩;rw[cz]at hy;obtain⟨b0,s,rfl⟩:=Option.map_eq_some_iff.mp hy;have hi:i<bs.length:=(cP s).1;have k:bs.take de=bs.take i++[b0]:=by rw[List.take_add_one,s];rfl
   ext;obtain⟨D,F,⟨e,h,p,g⟩,o,E⟩:=J.put δ b0 (.str z);refine⟨d,D,rfl,F,_,rfl,λc M hc=>?_,e,h,p,λb=>?_⟩
   ·rw[E,aC (aF hc nd)];exact A _ _ hc
   ·rw[g b,k,Zdp]
  ·rintro j Hy ⟨B,rfl,A,e,h,p,g⟩;rw[aU,List.take_length]at g;rw[aU]at p;apply q d Hy A nd ⟨e,h,δ,g⟩
end
theorem ZX{M:Wm}:(gM M).length<=M.cells.length:=by
 unfold gM;exact Nat.le_trans (List.length_filterMap_le _ _) (by rw[List.length_range];exact Nat.le_refl _)
theorem yr{M:Wm}:(nG M).length=(gM M).length:=by unfold nG;rw[aU]
section
variable {M M':Wm}{w0:Int}
theorem TB.Zni(p:TB w0 M){t u:Int×Ce}(b:t∈gM M)(hu:u∈gM M)(e:t.2.birth=u.2.birth):t=u:=by
 have h1:=qz b;have h2:=qz hu;have a:=p.bu t.1 u.1 t.2 u.2 h1 h2 e;rw[a,h2]at h1;exact Prod.ext a (Option.some.inj h1).symm
theorem TB.Zw8(p:TB w0 M){t:Int×Ce}(c:t∈gM M):wB (nG M) t.2.birth=some (.str (xg M t.1 t.2)):=by
 unfold wB;cases a:(nG M).reverse.find? λ(x:Tc)=>decide (x.b=t.2.birth)with
 | none=>
  have:=List.find?_eq_none.mp a (RM M t) (List.mem_reverse.mpr (List.mem_map.mpr ⟨t,c,rfl⟩));exact absurd (decide_eq_true rfl) this
 | some x=>
  have h1:x.b=t.2.birth:=of_decide_eq_true (List.find?_some (p:=λ(x:Tc)=>decide (x.b=t.2.birth)) a);obtain⟨u,hu,rfl⟩:=List.mem_map.mp (List.mem_reverse.mp (List.mem_of_find?_eq_some a));rw[p.Zni hu c h1];rfl
end
def FdO(H:Hp)(d:AI)(c:List Tc)(k:Nat):Prop:=∃f,Ii H d f k/\∀x∈c,∃a,f x.b=↑a/\H a=some (.lst (x.fs.map oV))
theorem FdO.same{H H':Hp}{d:AI}{b:List Tc}{k:Nat}(s:aY H H')(h:FdO H d b k):FdO H' d b k:=by
 obtain⟨f,h1,h2⟩:=h;refine⟨f,h1.same s,λx hx=>?_⟩;obtain⟨a,z1,c⟩:=h2 x hx;exact⟨a,z1,s _ _ c⟩
theorem Ii.ask{H:Hp}{d:AI}{f:Int->Option V}{k:Nat}(h:Ii H d f k)(b:Int):yo H d (.int b) (f b):=by
 obtain⟨a,h1,_,h2⟩:=h;have:=yo.k (k:=Sum.inl b) h1;rw[h2 b]at this;exact this
theorem Ii.ne{H:Hp}{d l:AI}{f:Int->Option V}{k:Nat}{xs:List V}(h:Ii H d f k)(e:H l=some (.lst xs)):l≠d:=by
 obtain⟨a,h1,_⟩:=h;exact lg e h1 aS
theorem Ii.upd{H:Hp}{d l:AI}{f:Int->Option V}{k:Nat}{o:HO}(h:Ii H d f k)(n:l≠d):Ii (upd H l o) d f k:=by
 obtain⟨a,h1,h2⟩:=h;exact⟨a,(aC n.symm).trans h1,h2⟩
def Uq(a:List Tc):Prop:=∀x∈a,∀y∈a,x.b=y.b->x.fs=y.fs
def Cl(a:List Tc):Prop:=∀x∈a,∀b,some b∈x.fs->∃y∈a,y.b=b
def flS(f:Int->Option V):List Tc->Nat
 | []=>0
 | x::l=>(if (f x.b).isSome=true then 0 else x.fs.length)+flS f l
theorem Zme(f:Int->Option V){B:Nat}:∀(l:List Tc),(∀x∈l,x.fs.length<=B)->flS f l<=l.length * B
 | [],_=>Nat.zero_le _
 | x::l,h=>by
  have h1:=Zme f l λy hy=>h y (List.mem_cons_of_mem _ hy);have h2:=h x (List.mem_cons_self ..);unfold flS;rw[List.length_cons,Nat.succ_mul];split<;>omega
theorem Zbs(f:Int->Option V)(b:Int)(v:V):∀(l:List Tc),flS (λx=>if x=b then some v else f x) l<=flS f l
 | []=>Nat.le_refl _
 | x::l=>by
  have h1:=Zbs f b v l;unfold flS
  by_cases e:x.b=b
  ·rw[if_pos (by rw[if_pos e];rfl)];split<;>omega
  ·rw[if_neg e];omega
theorem Zg8{f:Int->Option V}{y:Tc}(v:V)(hn:f y.b=none):∀(l:List Tc),y∈l->flS (λx=>if x=y.b then some v else f x) l+y.fs.length<=flS f l
 | [],h=>nomatch h
 | x::l,h=>by
  have h1:=Zbs f y.b v l;unfold flS;rcases List.mem_cons.mp h with e | h
  ·subst e;rw[if_pos (by rw[if_pos rfl];rfl),if_neg (by rw[hn];exact Bool.false_ne_true)];omega
  ·have h2:=Zg8 v hn l h
   by_cases e:x.b=y.b
   ·rw[if_pos (by rw[if_pos e];rfl)];split<;>omega
   ·rw[if_neg e];omega
def FdF(H0 H:Hp)(d:AI)(c:List Tc)(k:Nat):Prop:=∃f,Ii H d f k/\∀x∈c,∃a,f x.b=↑a/\H0 a=none/\H a=some (.lst (x.fs.map oV))
theorem FdF.o{H0 H:Hp}{d:AI}{b:List Tc}{k:Nat}(h:FdF H0 H d b k):FdO H d b k:=by
 obtain⟨f,h1,h2⟩:=h;exact⟨f,h1,λx hx=>by
  obtain⟨a,z1,_,c⟩:=h2 x hx;exact⟨a,z1,c⟩⟩
inductive HX(K:aB)(l:AI)(H:Hp)(Q:VK):Prop
 | mk (H0) (rows:List Tc) (_:CtF H0 H l rows) (_:rows.length<=1000) (_:Uq rows) (_:∀a H',aY H H'->H a=none->FdF H0 H' a rows 1000->Q (.ref a) H'):HX K l H Q
def Ih(K:aB):Sp:=λvs H Q E=>∃l,vs=[.ref l]/\HX K l H Q
section
theorem Zsf{p q:AI}{xs:List V}(h1:bU K H p xs)(h2:bU K H q [])(h:Q (.bl (decide (xs≠[]))) H):G.Zk1 K true (.ref p) (.ref q) H Q:=by
 refine⟨p,q,_,_,rfl,rfl,h1,h2,λe=>?_,?_⟩
 ·have:xs=[]:=List.length_eq_zero_iff.mp e;subst this;exact⟨rfl,rfl⟩
 ·cases xs with
  | nil=>exact h
  | cons a l=>
   rw[decide_eq_true (show a::l≠[]from λz=>nomatch z)]at h;exact h
theorem Rg{l:AI}(q:HX K l H Q):wN K ξ [↑l,none,none] H:=by
 obtain⟨C,g,⟨ls,o1,hl,o2,_⟩,hb,uq,q⟩:=q;unfold wN;ext;intro d nd;have w:=aK nd (.dK []);have F:FdF C (upd H d (.dK [])) d [] 0:=⟨λ_=>none,⟨[],aq,Nat.le_refl _,λb=>rfl⟩,λx hx=>nomatch hx⟩;generalize upd H d (.dK [])=S at w F ⊢;apply⟨l,rfl,⟨_,bU.of (w _ _ o1)⟩,forL dO (λi z k=>∃v,z=[↑l,↑d,v]/\aY H k/\FdF C k d (g.take i) i) ⟨_,rfl,w,F⟩ (by rintro _ _ _ _ ⟨_,_,y,_⟩;exact bU.of (y _ _ o1)) ?_ ?_⟩
 ·rintro i y z k hy ⟨v,rfl,s,f,J,p⟩;rw[cz]at hy;obtain⟨r,hr,rfl⟩:=Option.map_eq_some_iff.mp hy;have hi:i<ls.length:=(cP hr).1;obtain⟨x,hx⟩:∃x,g[i]? =some x:=⟨_,bK δ⟩;have A:g.take de=g.take i++[x]:=by rw[List.take_add_one,hx];rfl
  obtain⟨B,⟨h,j⟩,m,_⟩:=o2 i r x hr hx;have h:=s _ _ h;exists r,_,4,_,rfl,rfl,dB.of h,rfl;exists r,_,1,_,rfl,rfl,dB.of h,rfl;obtain⟨E,O,mk,o,I⟩:=J.put δ x.b (.ref B);have t:aY H E:=λc R hc=>by rw[I,aC (aF hc nd)];exact s _ _ hc
  refine⟨d,E,rfl,O,_,rfl,t,_,mk,λy hy=>?_⟩;show ∃a,(if y.b=x.b then _ else _)=_/\_;rw[A]at hy;rcases List.mem_append.mp hy with hy | hy
  ·by_cases e:y.b=x.b
   ·refine⟨B,if_pos e,m,?_⟩;rw[uq y (List.mem_of_mem_take hy) x (List.mem_of_getElem? hx) e];exact t _ _ j
   ·obtain⟨a,z1,N,D⟩:=p y hy;refine⟨a,(if_neg e).trans z1,N,?_⟩;rw[I,aC (J.ne D)];exact D
  ·rw[List.mem_singleton.mp hy];exact⟨B,if_pos rfl,m,t _ _ j⟩
 ·rintro z k ⟨v,rfl,s,f,⟨u,M,L,P⟩,p⟩;rw[aU]at L;rw[aU,List.take_of_length_le δ]at p;apply q d k s nd ⟨f,⟨u,M,δ,P⟩,p⟩
end
inductive Rb(rs:List Au)(rows:List Tc):Int->Prop
 | row {r:Au}{b:Int}:r∈rs->some b∈r->Rb rs rows b
 | via {x:Tc}{b:Int}:Rb rs rows x.b->x∈rows->some b∈x.fs->Rb rs rows b
structure PfR(rs:List Au)(rows:List Tc)(f:Int->Option V)(ys:Au):Prop where
 c1:∀b,f b≠none->Rb rs rows b
 c2:∀b,some b∈ys->Rb rs rows b
 c3:∀r∈rs,∀b,some b∈r->f b≠none\/some b∈ys
 c4:∀x∈rows,f x.b≠none->∀b,some b∈x.fs->f b≠none\/some b∈ys
section
variable {rs:List Au}{rows:List Tc}{f:Int->Option V}{zs:Au}
theorem PfR.pop{y:AA}(h:PfR rs rows f (zs++[y]))(hy:∀b,y=some b->f b≠none):PfR rs rows f zs:=by
 have k:∀b,(f b≠none\/some b∈zs++[y])->f b≠none\/some b∈zs:=λb z=>by
  rcases z with z | z
  ·exact .inl z
  ·rcases List.mem_append.mp z with z | z
   ·exact .inr z
   ·exact .inl (hy b (List.mem_singleton.mp z).symm)
 exact⟨h.c1,λb hb=>h.c2 b (List.mem_append.mpr (.inl hb)),λr hr b hb=>k b (h.c3 r hr b hb),λx hx hg b hb=>k b (h.c4 x hx hg b hb)⟩
theorem PfR.put{r:Tc}{v:V}(uq:Uq rows)(hr:r∈rows)(h:PfR rs rows f (zs++[some r.b])):PfR rs rows (λx=>if x=r.b then some v else f x) (zs++r.fs):=by
 have a:Rb rs rows r.b:=h.c2 _ (List.mem_append.mpr (.inr (List.mem_singleton.mpr rfl)));have up:∀b,f b≠none\/some b∈zs++[some r.b]->(if b=r.b then some v else f b)≠none\/some b∈zs++r.fs:=λb z=>by
  by_cases e:b=r.b
  ·exact .inl (by rw[if_pos e];exact λz=>nomatch z)
  ·rw[if_neg e];rcases z with z | z
   ·exact .inl z
   ·rcases List.mem_append.mp z with z | z
    ·exact .inr (List.mem_append.mpr (.inl z))
    ·exact absurd (Option.some.inj (List.mem_singleton.mp z)) e
 refine⟨λb hb=>?_,λb hb=>?_,λw c b hb=>up b (h.c3 w c b hb),λx hx hg b hb=>?_⟩
 ·have hb:(if b=r.b then some v else f b)≠none:=hb
  by_cases e:b=r.b
  ·rw[e];exact a
  ·rw[if_neg e]at hb;exact h.c1 b hb
 ·rcases List.mem_append.mp hb with hb | hb
  ·exact h.c2 b (List.mem_append.mpr (.inl hb))
  ·exact .via a hr hb
 ·have hg:(if x.b=r.b then some v else f x.b)≠none:=hg
  by_cases e:x.b=r.b
  ·exact .inr (List.mem_append.mpr (.inr (by rw[<- uq x hx r hr e];exact hb)))
  ·rw[if_neg e]at hg;exact up b (h.c4 x hx hg b hb)
theorem PfR.all(h:PfR rs rows f [])(b:Int):f b≠none↔Rb rs rows b:=by
 refine⟨h.c1 b,λr=>?_⟩
 induction r with
 | row hr hb=>exact(h.c3 _ hr _ hb).resolve_right ai
 | via _ hx hb a=>exact(h.c4 _ hx a _ hb).resolve_right ai
end
def RaI(H:Hp)(rs:List Au)(a:List Tc)(l d i:AI)(h:Nat)(σ:St)(g:Hp):Prop:=∃(e:AI) (j m:Option V) (c:Au) (f:Int->Option V) (k:Nat),σ=[↑l,↑d,↑i,↑e,j,m]/\aY H g/\H e=none/\g e=some (.lst (c.map oV))/\Ii g i f k/\h=c.length+flS f a/\k + h<=100000/\(∀b,some b∈c->∃y∈a,y.b=b)/\PfR rs a f c
inductive Ri(K:aB)(l:AI)(d:AI)(H:Hp)(Q:VK):Prop
 | mk (rs:List Au) (rows:List Tc) (_:RwO H l rs) (_:rs.length<=40) (_:(∀r∈rs,r.length<=1000)) (_:rows.length<=1000) (_:(∀x∈rows,x.fs.length<=50)) (_:Uq rows) (_:Cl rows) (_:(∀r∈rs,∀b,some b∈r->∃y∈rows,y.b=b)) (_:FdO H d rows 1000) (_:∀a H' f,aY H H'->H a=none->Ii H' a f 100000->(∀b,f b≠none↔Rb rs rows b)->Q (.ref a) H'):Ri K l d H Q
def Rr(K:aB):Sp:=λvs H Q E=>∃l d,vs=[.ref l,.ref d]/\Ri K l d H Q
section
theorem Ub{l d:AI}(q:Ri K l d H Q):zF K ξ [↑l,↑d,none,none,none,none] H:=by
 obtain⟨rs,g,⟨ls,o1,hl,o2⟩,l40,Z,hb,I,uq,cl,rc,od,q⟩:=q;unfold zF;ext;intro s E;have s1:=aK E (.dK []);have g1:Ii (upd H s (.dK [])) s (λ_=>none) 0:=⟨[],aq,Nat.le_refl _,λb=>rfl⟩;generalize upd H s (.dK [])=H1 at s1 g1 ⊢;apply⟨aR ζ,λa j=>?_⟩;generalize zz:upd H1 a _=H2;obtain⟨s2,g2⟩:=nwO j zz;have g2:H2 a=some (.lst (([]:Au).map oV)):=g2;have O:=s1.trans s2;apply⟨l,rfl,⟨_,bU.of (O _ _ o1)⟩,forL dO (λi U N=>∃a A,U=[↑l,↑d,↑s,↑a,A,none]/\aY H N/\H a=none/\N a=some (.lst ((rs.take i).flatten.map oV))/\Ii N s (λ_=>none) 0/\(rs.take i).flatten.length<=i * 1000) ⟨a,_,rfl,O,s1.free j,g2,g1.same s2,Nat.zero_le _⟩ (by rintro _ _ _ _ ⟨_,_,_,y,_⟩;exact bU.of (y _ _ o1)) ?_ ?_⟩
 ·rintro i y U N hy ⟨a,A,rfl,C,j,w,F,R⟩;rw[cz]at hy;obtain⟨r,hr,rfl⟩:=Option.map_eq_some_iff.mp hy;have hi:i<ls.length:=(cP hr).1;obtain⟨x,hx⟩:∃x,rs[i]? =some x:=⟨_,bK δ⟩;have M:(rs.take de).flatten=(rs.take i).flatten++x:=by rw[List.take_add_one,hx,List.flatten_append];simp
  have orr:=C _ _ (o2 i r x hr hx);have lx:=Z x (List.mem_of_getElem? hx);apply⟨a,r,_,_,rfl,rfl,w,orr,aR (by rw[aU,aU];omega),λt2 p=>?_⟩;rw[<- List.map_append,<- M];have B:=aK p (.lst ((rs.take de).flatten.map oV));apply⟨t2,_,rfl,C.trans B,C.free p,aq,F.same B,by rw[M,List.length_append];omega⟩
 ·rintro U N ⟨a,A,rfl,C,j,w,F,R⟩;rw[aU]at R w;rw[hl,List.take_length]at R w;have hS:=Zme (λ_=>none) g I;have hm:∀b,some b∈rs.flatten->∃r∈rs,some b∈r:=λb hb=>List.mem_flatten.mp hb;refine vQ ?_;refine⟨RaI H rs g l d s,⟨_,a,A,none,rs.flatten,λ_=>none,0,rfl,C,j,w,F,rfl,δ,λb hb=>let ⟨r,h1,h2⟩:=hm b hb;rc r h1 b h2,⟨λb h=>absurd rfl h,λb hb=>let ⟨r,h1,h2⟩:=hm b hb;.row h1 h2,λr hr b hb=>.inr (List.mem_flatten.mpr ⟨r,hr,hb⟩),λx _ h=>absurd rfl h⟩⟩,?_⟩;clear hm R w j F C;rintro μ U Hy ⟨a,A,v5,ys,f,k,rfl,C,j,w,F,rfl,hk,hc,Y⟩;apply⟨aR ζ,λe0 X=>?_⟩;have B:=aK X (.lst []);refine Zsf (bU.of (B _ _ w)) (bU.of aq) ?_;generalize upd Hy e0 (.lst [])=P at B ⊢;have L:=C.trans B;have S:=B _ _ w;have D:=F.same B;rcases List.eq_nil_or_concat ys with e | ⟨t,y,e⟩
  ·subst e;rw[decide_eq_false (λz=>z rfl)];ext;obtain⟨W,k1,k2,k3⟩:=D;exact q s P f L E ⟨W,k1,δ,k3⟩ Y.all
  ·rw[List.concat_eq_append]at e;subst e;rw[decide_eq_true ζ];exists _,λ_ _ h=>h;rw[List.map_append,List.map_singleton]at S;rw[List.length_append,List.length_singleton]at hk;exists .inl ⟨rfl,_,bU.of S⟩;refine⟨a,_,oV y,rfl,rfl,S,ζ,?_⟩;rw[List.dropLast_concat];have nt:=D.ne S;have g5:upd P a (.lst (t.map oV)) a=some (.lst (t.map oV)):=aq;have u:=D.upd (o:=.lst (t.map oV)) nt;have s5:aY H (upd P a (.lst (t.map oV))):=λc o m=>by rw[aC (aF m j)];exact L _ _ m
   generalize upd P a (.lst (t.map oV))=H5 at g5 u s5 ⊢;have J:∀b,some b∈t->∃y∈g,y.b=b:=λb hb=>hc b (List.mem_append.mpr (.inl hb));have skip:(∀b,y=some b->f b≠none)->∃m',m'<(t++[y]).length+flS f g/\RaI H rs g l d s m' [↑l,↑d,↑s,↑a,A,some (oV y)] H5:=λhy=>⟨_,by rw[List.length_append,List.length_singleton];omega,a,A,_,t,f,k,rfl,s5,j,g5,u,rfl,δ,J,Y.pop hy⟩;ext;cases y with
   | none=>
    rw[show oV none=V.non from rfl]at skip ⊢;apply skip λb e=>nomatch e
   | some b=>
    rw[show oV (some b)=V.int b from rfl]at skip ⊢;obtain⟨r,hr,rfl⟩:=hc b (List.mem_append.mpr (.inr (List.mem_singleton.mpr rfl)));exists s,_,rfl,u.ask r.b;cases hf:f r.b with
    | some v=>
     apply skip λb e=>by cases e;rw[hf];exact λz=>nomatch z
    | none=>
     rw[show(!(none:Option V).isSome)=true from rfl];ext;obtain⟨T,p1,mk,o,p3⟩:=u.put δ r.b (.bl true);have g6:T a=some (.lst (t.map oV)):=by rw[p3,aC nt];exact g5
     have s6:aY H T:=λc o' m=>by rw[p3,aC (aF m E)];exact s5 _ _ m
     refine⟨s,T,rfl,p1,?_⟩;obtain⟨ff,fm,fx⟩:=od.same s6;obtain⟨fa,z1,z2⟩:=fx r hr;have h5:=I r hr;have fl:=Zg8 (.bl true) hf g hr;exists d,_,rfl,fm.get z1;apply⟨a,fa,_,_,rfl,rfl,g6,z2,aR (by rw[aU,aU];omega),λt2 p=>?_⟩;rw[<- List.map_append];generalize zz:upd T t2 _=H7;obtain⟨s7,g7⟩:=nwO p zz;apply⟨_,?_,t2,A,_,t++r.fs,_,k+1,rfl,s6.trans s7,s6.free p,g7,mk.same s7,rfl,?_,λb hb=>?_,Y.put uq hr⟩
     ·rw[List.length_append,List.length_append,List.length_singleton];omega
     ·rw[List.length_append];omega
     ·rcases List.mem_append.mp hb with hb | hb
      ·exact J b hb
      ·exact cl r hr b hb
end
theorem Zt0{l:List bX}{x:Str×(Int×Int)}(h:(l.map (·.1)).Nodup)(hx:x∈l):rD l x.1=some x.2:=by
 induction l with
 | nil=>cases hx
 | cons a l b=>
  unfold rD;rw[List.find?_cons];rw[List.map_cons,List.nodup_cons]at h;rcases List.mem_cons.mp hx with e | hx
  ·rw[e,decide_eq_true rfl];rfl
  ·rw[decide_eq_false (λz=>h.1 (List.mem_map.mpr ⟨x,hx,z.symm⟩))];exact b h.2 hx
theorem Zro{H:Hp}{T:Tg}{ns:AF}{names:List bX}(h:Al (NmO H T) ns names){i:Nat}{kv:(Int ⊕ Str)×V}(e:(qx names ns)[i]? =some kv):∃m t,names[i]? =some m/\kv=(Sum.inr m.1,.ref t):=by
 unfold qx at e;rw[List.getElem?_zipWith]at e;cases h1:names[i]? with
 | none=>rw[h1]at e;cases e
 | some m=>
  cases h2:ns[i]? with
  | none=>rw[h1,h2]at e;cases e
  | some t=>
   rw[h1,h2]at e;exact⟨m,t,rfl,(Option.some.inj e).symm⟩
theorem Zhr(z:Str)(f:Int->Option V)(b:Int):J4 z f [] b=f b:=by unfold J4;rw[if_neg ζ]
section
theorem Zpk{F:KB.Fd}{R:KB.Rw}{P:Int->Prop}(e:∀row∈R,∀y,some y∈row->P y)(h1:∀y fl,P y->KB.Wr F y=some fl->∀z,some z∈fl->P z){q l:List cy}{k:Nat}(b:KB.Bx F R q k l):(∀x∈q,P x.1)/\∀x∈l,P x.1:=by
 induction b with
 | start=>
  refine⟨λx hx=>?_,λx hx=>nomatch hx⟩;obtain⟨⟨row,n⟩,hm,h⟩:=List.mem_flatMap.mp hx;obtain⟨k,hk,_,_⟩:=KB.yG (q:=x.1) (v:=x.2) h;exact e row (List.mem_of_getElem? (List.mem_zipIdx_iff_getElem?.mp hm)) x.1 (List.mem_of_getElem? hk)
 | old _ _ _ a=>exact a
 | @new q k l y w fl b hq hn d a=>
  have c:P y:=a.1 _ (List.mem_of_getElem? hq);refine⟨λx hx=>?_,λx hx=>?_⟩
  ·rcases List.mem_append.mp hx with hx | hx
   ·exact a.1 x hx
   ·obtain⟨k,hk,_,_⟩:=KB.yG (q:=x.1) (v:=x.2) hx;exact h1 y fl c d x.1 (List.mem_of_getElem? hk)
  ·rcases List.mem_append.mp hx with hx | hx
   ·exact a.2 x hx
   ·rw[List.mem_singleton.mp hx];exact c
end
section
variable {M:Wm}{w0:Int}
theorem MK{y:AA}{b:Int}(h:mU M y=some b):∃i c,y=some i/\cellAt M i=some c/\c.birth=b:=by
 cases y with
 | none=>cases h
 | some i=>
  have h:(cellAt M i).map (·.birth)=some b:=h;obtain⟨c,hc,e⟩:=Option.map_eq_some_iff.mp h;exact⟨i,c,rfl,hc,e⟩
theorem Ej{i:Int}{c:Ce}(h:cellAt M i=some c):RM M (i,c)∈nG M:=List.mem_map.mpr ⟨_,Zc5 h,rfl⟩
theorem BL{x:Tc}(h:x∈nG M):∃t:Int×Ce,x=RM M t/\cellAt M t.1=some t.2:=by
 obtain⟨t,a,e⟩:=List.mem_map.mp h;exact⟨t,e.symm,qz a⟩
theorem TB.uq(tb:TB w0 M):Uq (nG M):=by
 intro x hx y hy e;obtain⟨t,rfl,h1⟩:=BL hx;obtain⟨u,rfl,h2⟩:=BL hy;have a:=tb.bu t.1 u.1 t.2 u.2 h1 h2 e;rw[a,h2]at h1;show t.2.fl.map (mU M)=u.2.fl.map (mU M);rw[Option.some.inj h1]
theorem Zqv:Cl (nG M):=by
 intro x hx b hb;obtain⟨t,rfl,h1⟩:=BL hx;obtain⟨y,_,e⟩:=List.mem_map.mp (show some b∈t.2.fl.map (mU M)from hb);obtain⟨i,c,_,hc,a⟩:=MK e;exact⟨_,Ej hc,a⟩
end
def NmP(M:Wm):Prop:=∀x∈M.names,∀i c,cellAt M i=some c->c.birth=x.2.2->i=x.2.1
section
variable {M:Wm}{w0:Int}
theorem Zc7{i:Int}{c:Ce}(h:cellAt M i=some c):mU M (some i)=some c.birth:=by
 show(cellAt M i).map _=_;rw[h];rfl
end
section
variable {F:KB.Fd}{R:KB.Rw}
theorem MJ(k:Nat){q l i n:List cy}(b:KB.Bx F R q k l):KB.Bx F R i k n->q=i/\l=n:=by
 induction b generalizing i n with
 | start=>
  intro g;cases g;exact⟨rfl,rfl⟩
 | old b e m d=>
  intro g;cases g with
  | old c a h=>exact d c
  | new c a h j=>
   obtain⟨rfl,rfl⟩:=d c;rw[e]at a;cases a;exact absurd m h
 | new b e m f d=>
  intro g;cases g with
  | old c a h=>
   obtain⟨rfl,rfl⟩:=d c;rw[e]at a;cases a;exact absurd h m
  | new c a h j=>
   obtain⟨rfl,rfl⟩:=d c;rw[e]at a;cases a;rw[f]at j;cases j;exact⟨rfl,rfl⟩
theorem Zpj{k:Nat}{q l:List cy}(b:KB.Bx F R q k l):∀(j:Nat),j<=k->∃a d,KB.Bx F R a j d/\(j<k->∃x,a[j]? =some x):=by
 induction b with
 | start=>
  intro j h;obtain rfl:j=0:=δ
  exact⟨_,_,.start,λz=>absurd z δ⟩
 | @old q k l p w b e m n=>
  intro j h
  by_cases i:j<=k
  ·obtain⟨a,d,c,g⟩:=n j i;refine⟨a,d,c,λ_=>?_⟩
   by_cases z:j<k
   ·exact g z
   ·obtain rfl:j=k:=δ
    obtain⟨rfl,rfl⟩:=MJ _ b c;exact⟨_,e⟩
  ·obtain rfl:j=k+1:=δ
   exact⟨_,_,.old b e m,λz=>absurd z δ⟩
 | @new q k l p w fl b e m f n=>
  intro j h
  by_cases i:j<=k
  ·obtain⟨a,d,c,g⟩:=n j i;refine⟨a,d,c,λ_=>?_⟩
   by_cases z:j<k
   ·exact g z
   ·obtain rfl:j=k:=δ
    obtain⟨rfl,rfl⟩:=MJ _ b c;exact⟨_,e⟩
  ·obtain rfl:j=k+1:=δ
   exact⟨_,_,.new b e m f,λz=>absurd z δ⟩
theorem Y9{q l a d:List cy}(b:KB.Bx F R q q.length l)(c:KB.Bx F R a a.length d):l=d:=by
 have le:∀{q l a d:List cy},KB.Bx F R q q.length l->KB.Bx F R a a.length d->¬ q.length<a.length:=λ{q l a d} b c h=>by
  obtain⟨j,i,f,g⟩:=Zpj c q.length δ;obtain⟨rfl,rfl⟩:=MJ _ b f;obtain⟨x,hx⟩:=g h;rw[List.getElem?_eq_none Δ]at hx;cases hx
 have e:q.length=a.length:=by
  have h1:=le b c;have h2:=le c b;omega
 rw[e]at b;exact(MJ _ b c).2
end
def Nl(M:Wm):Prop:=M.sw.phase≠("lost":Str)/\M.sw.loss=.non
theorem Zgb{M a:Wm}{d:iZ}{e:Ev}(h:kJ M d=.ok (e,a)):∃g,a.sw={ M.sw with grey:=g }:=by
 cases d<;>simp only[kJ]at h<;>(repeat' split at h)<;>first | (cases h;done) | (cases h;exact⟨_,rfl⟩) | (cases h;exact(mJ _ _).sw)
section
variable {M M':Wm}{e:Ev}{a:Int}{b:AE}
theorem Nl.keep(n:Nl M)(h:∃g,M'.sw={ M.sw with grey:=g }):Nl M':=by
 obtain⟨g,h⟩:=h;exact⟨by rw[h];exact n.1,by rw[h];exact n.2⟩
theorem Nl.step(n:Nl M)(h:fZ a b M e M'):(e.word=("lost":Str)/\M'.sw.phase=("lost":Str))\/(e.word≠("lost":Str)/\Nl M'):=by
 cases h with
 | begin ph=>
  obtain⟨g,h⟩:=(Bb bt M.hands 0 (fj M)).sw;exact .inr ⟨by show ¬("begin":Str)="lost";decide,by rw[h];show ¬("walk":Str)="lost";decide,by rw[h];exact n.2⟩
 | walk x g c ph hg hc=>
  obtain⟨l,h⟩:=(mJ c.fl { M with sw:={ M.sw with grey:=g,walks:=M.sw.walks+1 } }).sw;exact .inr ⟨by show ¬("walk":Str)="lost";decide,by rw[h];exact n.1,by rw[h];exact n.2⟩
 | look N ph hg o k=>
  obtain⟨l,h⟩:=(Bb bf M.hands 0 M).sw;subst k;exact .inr ⟨by show ¬("look":Str)="lost";decide,by show(eO bf M.hands 0 M).2.sw.phase≠_;rw[h];exact n.1,by show(eO bf M.hands 0 M).2.sw.loss=_;rw[h];exact n.2⟩
 | cut q m ph hg cd f d=>exact .inr ⟨by show ¬("cut":Str)="lost";decide,by show ¬("give":Str)="lost";decide,n.2⟩
 | lost q m i x c v ph hg cd f hx d hc j=>exact .inl ⟨rfl,rfl⟩
 | pass ph lt hp=>exact .inr ⟨by show ¬("pass":Str)="lost";decide,n⟩
 | back c ph lt hc j=>exact .inr ⟨by show ¬("back":Str)="lost";decide,n⟩
 | fin ph lt=>exact .inr ⟨by show ¬("end":Str)="lost";decide,by show ¬("rest":Str)="lost";decide,n.2⟩
 | again ph=>exact absurd ph n.1
end
structure Pm(M:Wm):Prop where
 nm:∀x∈M.names,x.2.2<=M.born/\∀i c,cellAt M i=some c->c.birth=x.2.2->i=x.2.1
 nd:(M.names.map (·.1)).Nodup
 gg:M.sw.phase="give"->M.sw.grey=[]
 le:M.sw.phase="give"->M.sw.at'<=M.sw.stop
structure Nn(M N:Wm):Prop where
 nm:N.names=M.names
 ph:N.sw.phase=M.sw.phase
 gr:M.sw.phase="give"->N.sw.grey=M.sw.grey
section
variable {M N:Wm}{w0:Int}
theorem Nn.refl(M:Wm):Nn M M:=⟨rfl,rfl,λ_=>rfl⟩
theorem Nn.trans{P:Wm}(a:Nn M N)(b:Nn N P):Nn M P:=⟨b.nm.trans a.nm,b.ph.trans a.ph,λz=>(b.gr (a.ph.trans z)).trans (a.gr z)⟩
theorem Nn.note(M:Wm)(x:AA):Nn M (bA M x).2:=by
 cases x with
 | none=>exact Nn.refl M
 | some i=>
  unfold bA;dsimp only;cases hc:cellAt M i with
  | none=>exact Nn.refl M
  | some c=>
   dsimp only;split
   ·rename_i z
    exact⟨rfl,rfl,λy=>absurd (z.1.symm.trans y) ε⟩
   ·exact Nn.refl M
theorem Nn.notes:∀(l:Au) (M:Wm),Nn M (aO M l).2
 | [],M=>Nn.refl M
 | x::l,M=>(Nn.note M x).trans (Nn.notes l _)
theorem Nn.slot(M:Wm)(h s:Nat)(x:AA)(l:Au):Nn M (aO (setSlot M h s x) l).2:=Nn.trans (N:=setSlot M h s x) ⟨rfl,rfl,λ_=>rfl⟩ (Nn.notes _ _)
theorem Nn.cell(M:Wm)(i:Int)(c:Ce)(l:Au):Nn M (aO (setCell M i c) l).2:=Nn.trans (N:=setCell M i c) ⟨rfl,rfl,λ_=>rfl⟩ (Nn.notes _ _)
theorem Pm.sb(p:Pm M)(h:Sb M N)(n:Nn M N):Pm N:=by
 refine⟨λx hx=>?_,by rw[n.nm];exact p.nd,λz=>?_,λz=>?_⟩
 ·rw[n.nm]at hx;obtain⟨h1,h2⟩:=p.nm x hx;refine⟨by rw[h.bn];exact h1,λi d hc e=>?_⟩;obtain⟨c,b,a,_⟩:=h.get hc;exact h2 i c b (by rw[<- a];exact e)
 ·rw[n.ph]at z;rw[n.gr z];exact p.gg z
 ·rw[n.ph]at z;rw[h.at_,h.st];exact p.le z
theorem Zhq{l:List bX}{k:Str}{v:Int×Int}{x:Str×(Int×Int)}(h:x∈mq l k v):x∈l\/x.2=v:=by
 unfold mq at h;split at h
 ·obtain⟨m,hm,e⟩:=List.mem_map.mp h;split at e
  ·rw[<- e];exact .inr rfl
  ·rw[<- e];exact .inl hm
 ·rcases List.mem_append.mp h with h | h
  ·exact .inl h
  ·rw[List.mem_singleton.mp h];exact .inr rfl
theorem Zk5{l:List bX}{k:Str}{v:Int×Int}(h:(l.map (·.1)).Nodup):((mq l k v).map (·.1)).Nodup:=by
 unfold mq;split
 ·rw[List.map_map];rw[show((λ(x:Str×(Int×Int))=>x.1) ∘ λm=>if m.1=k then(m.1,v)else m)=λx=>x.1 from funext λm=>by show(if m.1=k then(m.1,v)else m).1=m.1;split<;>rfl];exact h
 ·rename_i z
  rw[List.map_append];refine List.nodup_append.mpr ⟨h,ζ,λa c b hb e=>?_⟩;rw[List.map_singleton,List.mem_singleton]at hb;obtain⟨m,hm,rfl⟩:=List.mem_map.mp c;exact z (List.any_eq_true.mpr ⟨m,hm,decide_eq_true (e.trans hb)⟩)
theorem Pm.deed(p:Pm M)(tb:TB w0 M){d:iZ}{e:Ev}{k:Wm}(h:kJ M d=.ok (e,k)):Pm k:=by
 cases d with
 | make a s b bulk=>
  simp only[kJ]at h;split at h
  ·right;refine Pm.sb (M:={ M with used:=M.used+(1+b+bulk),born:=M.born+1,cells:=jB M.cells ⟨M.born+1,bulk,M.sw.sense,0,List.replicate b.toNat none⟩ }) ⟨λx hx=>?_,p.nd,p.gg,p.le⟩ eH ⟨rfl,rfl,λ_=>rfl⟩;obtain⟨n,m⟩:=p.nm x hx;refine⟨by show x.2.2<=M.born+1;omega,λi c hc j=>?_⟩;rcases fQ hc with ⟨_,z⟩ | z
   ·rw[z]at j;have j:M.born+1=x.2.2:=j;omega
   ·exact m i c z j
  ·cases h
 | get a s t f=>
  simp only[kJ]at h;split at h
  ·cases h
  ·split at h
   ·cases h
   ·split at h
    ·cases h
    ·right;exact p.sb eH ⟨rfl,rfl,λ_=>rfl⟩
 | put a t f s=>
  simp only[kJ]at h;split at h
  ·cases h
  ·split at h
   ·cases h
   ·rename_i c hc
    split at h
    ·cases h
    ·right;exact p.sb ((Sb.cell (c':={ c with fl:=c.fl.set f (aV M a s) }) hc rfl (.inl rfl)).trans (Sb.notes _ _)) (Nn.cell _ _ _ _)
 | copy a s t=>
  right;exact p.sb eH ⟨rfl,rfl,λ_=>rfl⟩
 | drop a s=>
  right;exact p.sb eH ⟨rfl,rfl,λ_=>rfl⟩
 | give a s g t=>
  right;exact p.sb ((Sb.slot _ _ _ _).trans (Sb.notes _ _)) (Nn.slot _ _ _ _ _)
 | write a t l=>
  simp only[kJ]at h;split at h
  ·cases h
  ·split at h
   ·cases h
   ·rename_i c hc
    right;exact p.sb (Sb.cell (c':={ c with load:=l }) hc rfl (.inl rfl)) ⟨rfl,rfl,λ_=>rfl⟩
 | read a t=>
  simp only[kJ]at h;split at h
  ·cases h
  ·split at h
   ·cases h
   ·right;exact p
 | name a t z=>
  simp only[kJ]at h;split at h
  ·cases h
  ·split at h
   ·cases h
   ·rename_i c hc
    right;refine⟨λx hx=>?_,Zk5 p.nd,p.gg,p.le⟩;rcases Zhq hx with hx | hx
    ·exact p.nm x hx
    ·rw[hx];exact⟨(tb.bn _ c hc).2,λi d hd j=>tb.bu i _ d c hd hc j⟩
 | seek a s z=>
  simp only[kJ]at h;split at h
  ·cases h
  ·split at h
   ·right;exact p.sb eH ⟨rfl,rfl,λ_=>rfl⟩
   ·right;exact p.sb ((Sb.slot _ _ _ _).trans (Sb.notes _ _)) (Nn.slot _ _ _ _ _)
theorem Zgm{c:Ce}(hc:cellAt M M.sw.at'=some c){u:Int}{w:Sw}{i:Int}{d:Ce}(hd:cellAt { M with used:=u,cells:=M.cells.set M.sw.at'.toNat none,sw:=w } i=some d):i≠M.sw.at'/\cellAt M i=some d:=by
 obtain⟨a,h1⟩:=bF.mp hd;have h1:(M.cells.set M.sw.at'.toNat none)[i.toNat]? =some (some d):=h1;obtain⟨f,b⟩:=bF.mp hc
 by_cases z:M.sw.at'.toNat=i.toNat
 ·rw[z,List.getElem?_set_self (by rw[<- z];exact(cP b).1)]at h1;cases h1
 ·rw[List.getElem?_set_ne z]at h1;exact⟨λe=>z (by rw[e]),bF.mpr ⟨a,h1⟩⟩
theorem Zpm{c:Ce}(hc:cellAt M M.sw.at'=some c){u:Int}{w:Sw}{i:Int}(hi:i≠M.sw.at'):cellAt { M with used:=u,cells:=M.cells.set M.sw.at'.toNat none,sw:=w } i=cellAt M i:=by
 obtain⟨b,d⟩:=bF.mp hc;unfold cellAt
 by_cases a:0<=i
 ·have:M.sw.at'.toNat≠i.toNat:=λe=>hi δ;simp[a,List.getElem?_set_ne this]
 ·simp[a]
theorem Pm.step(p:Pm M)(tb:TB w0 M){j:Wm}{lb:Int}{lw:AE}{e:Ev}(h:fZ lb lw M e j):Pm j:=by
 have b:¬ ("walk":Str)="give":=ε
 have f:¬ ("rest":Str)="give":=ε
 cases h with
 | begin ph=>
  rw[nO];exact Pm.sb (M:=fj M) ⟨p.nm,p.nd,λz=>absurd z b,λz=>absurd z b⟩ (Sb.notes _ _) (Nn.notes _ _)
 | walk x g c ph hg hc=>exact Pm.sb (M:={ M with sw:={ M.sw with grey:=g,walks:=M.sw.walks+1 } }) ⟨p.nm,p.nd,λz=>absurd (ph.symm.trans z) b,p.le⟩ (Sb.notes _ _) (Nn.notes _ _)
 | look N ph hg r m=>
  subst m;rw[nO];have q:=p.sb (Sb.notes ap M) (Nn.notes _ _);exact⟨q.nm,q.nd,q.gg,q.le⟩
 | cut q o ph hg cd k a=>exact⟨p.nm,p.nd,λ_=>hg,λ_=>by show(0:Int)<=M.cells.length;omega⟩
 | lost q o i x c v ph hg cd k hx a hc l=>exact⟨p.nm,p.nd,λz=>absurd z (show ¬ ("lost":Str)="give" by decide),λz=>absurd z (show ¬ ("lost":Str)="give" by decide)⟩
 | pass ph lt hp=>exact⟨p.nm,p.nd,p.gg,λ_=>by show M.sw.at'+1<=M.sw.stop;omega⟩
 | back c ph lt hc l=>exact⟨λx hx=>⟨(p.nm x hx).1,λi d hd n=>(p.nm x hx).2 i d (Zgm hc hd).2 n⟩,p.nd,p.gg,λ_=>by show M.sw.at'+1<=M.sw.stop;omega⟩
 | fin ph lt=>exact⟨p.nm,p.nd,λz=>absurd z f,λz=>absurd z f⟩
 | again ph=>exact p
theorem Pm.Zwo{room w t:Int}{hs:Bu}:Pm (Pz room hs w t):=by
 have a:¬ ("rest":Str)="give":=ε
 exact⟨λx hx=>(nomatch hx),.nil,λz=>absurd z a,λz=>absurd z a⟩
end
def Zz8(M:Wm):Wm:={ fJ M with sw:={ (fJ M).sw with phase:="give" } }
section
variable {M N:Wm}
def wh(M:Wm)(x:AA):Prop:=∃i c,x=some i/\cellAt M i=some c/\c.tone≠M.sw.sense
structure Wt(M N:Wm):Prop where
 ph:N.sw.phase=M.sw.phase
 se:N.sw.sense=M.sw.sense
 lk:N.sw.looked=M.sw.looked
 ww:N.w=M.w
 tl:N.tells=M.tells
 hd:N.hands=M.hands
 gr:∀i∈M.sw.grey,i∈N.sw.grey
 ce:∀i c',cellAt N i=some c'->∃c,cellAt M i=some c/\c'.fl=c.fl/\(c'.tone=c.tone\/(M.sw.phase="walk"/\c'.tone=M.sw.sense/\i∈N.sw.grey))
theorem Wt.refl(M:Wm):Wt M M:=⟨rfl,rfl,rfl,rfl,rfl,rfl,λ_ h=>h,λi c h=>⟨c,h,rfl,.inl rfl⟩⟩
theorem Wt.trans{P:Wm}(a:Wt M N)(b:Wt N P):Wt M P:=by
 refine⟨b.ph.trans a.ph,b.se.trans a.se,b.lk.trans a.lk,b.ww.trans a.ww,b.tl.trans a.tl,b.hd.trans a.hd,λi h=>b.gr i (a.gr i h),λi c2 h=>?_⟩;obtain⟨c1,h1,j,t1⟩:=b.ce i c2 h;obtain⟨c,e,f,d⟩:=a.ce i c1 h1;refine⟨c,e,j.trans f,?_⟩;rw[a.ph,a.se]at t1;rcases t1 with t1 | t1
 ·rcases d with d | ⟨k,d,g⟩
  ·exact .inl (t1.trans d)
  ·exact .inr ⟨k,t1.trans d,b.gr i g⟩
 ·exact .inr t1
theorem Wt.note(M:Wm)(x:AA):Wt M (bA M x).2:=by
 cases x with
 | none=>exact Wt.refl M
 | some i=>
  unfold bA;dsimp only;cases hc:cellAt M i with
  | none=>exact Wt.refl M
  | some c=>
   dsimp only;split
   ·rename_i z
    refine⟨rfl,rfl,rfl,rfl,rfl,rfl,λj a=>List.mem_append.mpr (.inl a),λj d hd=>?_⟩;have hd:cellAt (setCell M i { c with tone:=M.sw.sense }) j=some d:=hd;rw[dz hc]at hd
    by_cases e:j=i
    ·rw[if_pos e]at hd;cases hd;subst e;exact⟨c,hc,rfl,.inr ⟨z.1,rfl,List.mem_append.mpr (.inr ζ)⟩⟩
    ·rw[if_neg e]at hd;exact⟨d,hd,rfl,.inl rfl⟩
   ·exact Wt.refl M
theorem Wt.notes:∀(l:Au) (M:Wm),Wt M (aO M l).2
 | [],M=>Wt.refl M
 | x::l,M=>(Wt.note M x).trans (Wt.notes l _)
theorem Wt.up(h:Wt M N){x:AA}(w:wh N x):wh M x:=by
 obtain⟨i,b,e,h1,h2⟩:=w;obtain⟨c,a,_,t⟩:=h.ce i b h1;rw[h.se]at h2;rcases t with t | t
 ·exact⟨i,c,e,a,by rw[<- t];exact h2⟩
 ·exact absurd t.2.1 h2
theorem Zkx(ph:M.sw.phase="walk")(x:AA):¬ wh (bA M x).2 x:=by
 rintro⟨i,a,rfl,h1,h2⟩;unfold bA at h1 h2;dsimp only at h1 h2;cases hc:cellAt M i with
 | none=>
  rw[hc]at h1;have h1:cellAt M i=some a:=h1;rw[hc]at h1;cases h1
 | some c=>
  rw[hc]at h1 h2;dsimp only at h1 h2
  by_cases z:c.tone≠M.sw.sense
  ·rw[if_pos ⟨ph,z⟩]at h1 h2;have h1:cellAt (setCell M i { c with tone:=M.sw.sense }) i=some a:=h1;rw[dz hc,if_pos rfl]at h1;cases h1;exact h2 rfl
  ·rw[if_neg (λy=>z y.2)]at h1 h2;have h1:cellAt M i=some a:=h1;rw[hc]at h1;cases h1;exact z h2
theorem G6(l:Au):∀(M:Wm),M.sw.phase="walk"->∀x∈l,¬ wh (aO M l).2 x:=by
 induction l with
 | nil=>intro M ph x hx;cases hx
 | cons y l a=>
  intro M ph x hx w;have w:wh (aO (bA M y).2 l).2 x:=w;rcases List.mem_cons.mp hx with e | hx
  ·subst e;exact Zkx ph x ((Wt.notes l _).up w)
  ·exact a _ ((Wt.note M y).ph.trans ph) x hx w
theorem Zhm(ph:M.sw.phase="walk"){x:AA}(h:(bA M x).1=none):(bA M x).2=M/\¬ wh M x:=by
 cases x with
 | none=>exact⟨rfl,(by rintro ⟨_,_,e,_⟩;exact nomatch e)⟩
 | some i=>
  unfold bA at h ⊢;dsimp only at h ⊢;cases hc:cellAt M i with
  | none=>exact⟨rfl,(by rintro ⟨j,c,e,h1,_⟩;cases e;rw[hc]at h1;cases h1)⟩
  | some c=>
   rw[hc]at h;dsimp only at h ⊢
   by_cases z:c.tone≠M.sw.sense
   ·rw[if_pos ⟨ph,z⟩]at h;cases h
   ·rw[if_neg (λy=>z y.2)];exact⟨rfl,(by rintro ⟨j,d,e,h1,h2⟩;cases e;rw[hc]at h1;cases h1;exact z h2)⟩
theorem Zhl(l:Au):∀(M:Wm),M.sw.phase="walk"->(aO M l).1=[]->∀x∈l,¬ wh M x:=by
 induction l with
 | nil=>intro M ph h x hx;cases hx
 | cons y l c=>
  intro M ph h x hx;have h:X4 (bA M y).1++(aO (bA M y).2 l).1=[]:=h;obtain⟨h1,h2⟩:=List.append_eq_nil_iff.mp h;have hn:(bA M y).1=none:=by
   cases e:(bA M y).1 with
   | none=>rfl
   | some b=>rw[e]at h1;cases h1
  obtain⟨a,nw⟩:=Zhm ph hn;rw[a]at h2;rcases List.mem_cons.mp hx with e | hx
  ·rw[e];exact nw
  ·exact c M ph h2 x hx
theorem Wt.nh(a:Int):∀(l:List (Str×Au)) (j:Nat) (M:Wm),Wt M (eO a l j M).2:=λl j M=>by
 rw[nO];exact Wt.notes _ _
theorem O1{n j:Nat}(h:j<n):((2:Int) ^ n - 1) / 2 ^ j % 2=1:=by
 have h1:=Nat.testBit_two_pow_sub_one n j;rw[Nat.testBit_eq_decide_div_mod_eq,decide_eq_true h]at h1;have h2:(2 ^ n - 1) / 2 ^ j % 2=1:=of_decide_eq_true h1;have a:1<=2 ^ n:=Nat.one_le_two_pow;have e:((2:Int) ^ n - 1)=((2 ^ n - 1:Nat):Int):=by rw[Int.natCast_sub a];simp
 rw[e];have:(((2 ^ n - 1) / 2 ^ j % 2:Nat):Int)=1:=by rw[h2];rfl
 rw[<- this];simp
theorem Fe(x:Int):∀(n i:Nat),(lsE x i n=0/\∀k,i<=k->k<i+n->x / 2 ^ k % 2≠0)\/∃k,i<=k/\k<i+n/\lsE x i n=2 ^ k/\x / 2 ^ k % 2=0
 | 0,i=>.inl ⟨rfl,λk h1 h2=>δ⟩
 | n+1,i=>by
  unfold lsE
  by_cases z:x / 2 ^ i % 2=0
  ·rw[if_pos z];exact .inr ⟨i,Nat.le_refl _,δ,rfl,z⟩
  ·rw[if_neg z];rcases Fe x n de with ⟨h1,h2⟩ | ⟨k,h1,h2,c,h4⟩
   ·refine .inl ⟨h1,λk a b=>?_⟩
    by_cases e:k=i
    ·rw[e];exact z
    ·exact h2 k δ δ
   ·exact .inr ⟨k,δ,δ,c,h4⟩
end
inductive PR(M:Wm):Int->Prop
 | hand {m:Str×Au}{i:Int}:m∈M.hands->some i∈m.2->PR M i
 | fld {j i:Int}{c:Ce}:PR M j->cellAt M j=some c->some i∈c.fl->PR M i
structure Ra(M0 M:Wm):Prop where
 hd:M.hands=M0.hands
 ww:M.w=M0.w
 cf:∀i c0,cellAt M0 i=some c0->∃c,cellAt M i=some c/\c.fl=c0.fl
 ce:∀i c,cellAt M i=some c->∃c0,cellAt M0 i=some c0/\c.fl=c0.fl
 rc:∀i c,cellAt M i=some c->c.tone=M.sw.sense->PR M0 i
 dk:∀i c,cellAt M i=some c->c.tone=M.sw.sense->i∉M.sw.grey->∀x∈c.fl,¬ wh M x
structure Rl(M:Wm):Prop where
 lz:0<=M.sw.looked
 l0:M.w=0->M.sw.looked=2 ^ M.hands.length - 1
 lk:∀(k:Nat) m,M.hands[k]? =some m->M.sw.looked / 2 ^ k % 2=1->∀x∈m.2,¬ wh M x
section
variable {M0 M N:Wm}{w0:Int}
theorem Zal{x:AA}{i:Int}{c':Ce}(h:cellAt (bA M x).2 i=some c')(a:c'.tone=M.sw.sense):(∃c,cellAt M i=some c/\c.tone=M.sw.sense)\/x=some i:=by
 cases x with
 | none=>exact .inl ⟨c',h,a⟩
 | some k=>
  by_cases e:i=k
  ·exact .inr (by rw[e])
  ·refine .inl ⟨c',?_,a⟩;unfold bA at h;dsimp only at h;cases hc:cellAt M k with
   | none=>rw[hc]at h;exact h
   | some c=>
    rw[hc]at h;dsimp only at h;split at h
    ·have h:cellAt (setCell M k { c with tone:=M.sw.sense }) i=some c':=h;rw[dz hc,if_neg e]at h;exact h
    ·exact h
theorem Zfw(x:AA){i:Int}{c:Ce}(h:cellAt M i=some c):∃c',cellAt (bA M x).2 i=some c'/\c'.fl=c.fl:=by
 cases x with
 | none=>exact⟨c,h,rfl⟩
 | some k=>
  unfold bA;dsimp only;cases hc:cellAt M k with
  | none=>exact⟨c,h,rfl⟩
  | some d=>
   dsimp only;split
   ·show ∃c',cellAt (setCell M k { d with tone:=M.sw.sense }) i=some c'/\_;rw[dz hc]
    by_cases e:i=k
    ·rw[if_pos e];rw[e,hc]at h;cases h;exact⟨_,rfl,rfl⟩
    ·rw[if_neg e];exact⟨c,h,rfl⟩
   ·exact⟨c,h,rfl⟩
theorem Ra.note(p:Ra M0 M)(x:AA)(hx:∀i,x=some i->PR M0 i):Ra M0 (bA M x).2:=by
 have W:=Wt.note M x;refine⟨W.hd.trans p.hd,W.ww.trans p.ww,λi d h=>?_,λi c h=>?_,λi c h a=>?_,λi c h a hn y hy w=>?_⟩
 ·obtain⟨c,h1,h2⟩:=p.cf i d h;obtain⟨k,l,h4⟩:=Zfw x h1;exact⟨k,l,h4.trans h2⟩
 ·obtain⟨c1,h1,b,_⟩:=W.ce i c h;obtain⟨d,j,f⟩:=p.ce i c1 h1;exact⟨d,j,b.trans f⟩
 ·rw[W.se]at a;rcases Zal h a with ⟨c1,h1,t1⟩ | e
  ·exact p.rc i c1 h1 t1
  ·exact hx i e
 ·rw[W.se]at a;obtain⟨c1,h1,b,t1⟩:=W.ce i c h;rw[b]at hy;refine p.dk i c1 h1 ?_ (λz=>hn (W.gr i z)) y hy (W.up w);rcases t1 with t1 | ⟨_,_,g⟩
  ·rw[<- t1];exact a
  ·exact absurd g hn
theorem Ra.notes:∀(l:Au) {M:Wm},Ra M0 M->(∀i,some i∈l->PR M0 i)->Ra M0 (aO M l).2
 | [],_,p,_=>p
 | x::l,_,p,h=>Ra.notes l (p.note x λi e=>h i (by rw[e];simp)) λi hi=>h i (by simp[hi])
theorem Ek{b:Int}{m:Str×Au}{x:AA}(hx:x∈m.2):∀(l:List (Str×Au)) (j k:Nat),l[k]? =some m->b / 2 ^ (j+k) % 2=1->x∈yN b l j
 | [],_,_,h,_=>by cases h
 | a::l,j,0,h,hb=>by
  cases h;unfold yN;rw[if_pos (show b / 2 ^ j % 2=1 from hb)];exact List.mem_append.mpr (.inl hx)
 | a::l,j,k+1,h,hb=>by
  have c:=Ek hx l (j+1) k h (by rw[show j+1+k=j+(k+1) by omega];exact hb);unfold yN;split
  ·exact List.mem_append.mpr (.inr c)
  ·exact c
theorem Mv{b:Int}{x:AA}:∀(l:List (Str×Au)) (j:Nat),x∈yN b l j->∃m∈l,x∈m.2
 | [],_,h=>by cases h
 | a::l,j,h=>by
  unfold yN at h;split at h
  ·rcases List.mem_append.mp h with h | h
   ·exact⟨a,ζ,h⟩
   ·obtain⟨m,h1,h2⟩:=Mv l (j+1) h;exact⟨m,by simp[h1],h2⟩
  ·obtain⟨m,h1,h2⟩:=Mv l (j+1) h;exact⟨m,by simp[h1],h2⟩
theorem Rl.hands(p:Rl M)(ph:M.sw.phase="walk")(d:M.w=0\/M.w=1\/M.w=2)(cd:jW M):∀m∈M.hands,∀x∈m.2,¬ wh M x:=by
 intro m hm x hx;obtain⟨k,hk⟩:=List.mem_iff_getElem?.mp hm;have a:k<M.hands.length:=(cP hk).1;rcases d with w | w | w
 ·refine p.lk k m hk ?_ x hx;rw[p.l0 w];exact O1 a
 ·have c:bh M=lsE M.sw.looked 0 M.hands.length:=by unfold bh p6;rw[w];rfl
  rcases cd with z | ⟨z,_⟩
  ·rw[c]at z;rcases Fe M.sw.looked M.hands.length 0 with ⟨_,h⟩ | ⟨b,_,_,h,_⟩
   ·refine p.lk k m hk ?_ x hx;have:=h k (Nat.zero_le _) δ;omega
   ·rw[h]at z;exact absurd z (by have:=Int.pow_pos (n:=2) (m:=b) ε;omega)
  ·rw[w]at z;exact absurd z ε
 ·have c:bh M=2 ^ M.hands.length - 1:=by unfold bh p6;rw[w];rfl
  rcases cd with z | ⟨_,z⟩
  ·rw[c]at z;have h1:=O1 (n:=M.hands.length) (j:=0) δ;rw[z]at h1;exact absurd h1 ε
  ·rw[nO]at z;refine Zhl _ M ph z x (Ek hx M.hands 0 k hk ?_);rw[c,Nat.zero_add];exact O1 a
theorem Ra.cut(p:Ra M0 M)(l:Rl M)(ph:M.sw.phase="walk")(hg:M.sw.grey=[])(a:M.w=0\/M.w=1\/M.w=2)(cd:jW M){i:Int}(h:PR M0 i):¬ wh M (some i):=by
 induction h with
 | hand hm hi=>exact l.hands ph a cd _ (by rw[p.hd];exact hm) _ hi
 | @fld j i d _ hc hi b=>
  obtain⟨c,h1,h2⟩:=p.cf j d hc;refine p.dk j c h1 ?_ (by rw[hg];simp) (some i) (by rw[h2];exact hi);refine Classical.byContradiction ?_;intro z;exact b ⟨j,c,rfl,h1,z⟩
theorem Ra.tone(p:Ra M0 M)(l:Rl M)(ph:M.sw.phase="walk")(hg:M.sw.grey=[])(a:M.w=0\/M.w=1\/M.w=2)(cd:jW M){i:Int}{c:Ce}(h:cellAt M i=some c):c.tone=M.sw.sense↔PR M0 i:=by
 refine⟨p.rc i c h,λz=>?_⟩;refine Classical.byContradiction λy=>?_;exact p.cut l ph hg a cd z ⟨i,c,rfl,h,y⟩
end
section
theorem WM{x y:Int}(hx:0<=x)(hy:0<=y):Builtin.bitOr x y=((x.toNat ||| y.toNat:Nat):Int):=by
 have e:∀z:Int,Builtin.bitNot (Builtin.bitNot z)=z:=λz=>by unfold Builtin.bitNot;omega
 have n1:decide (0<=Builtin.bitNot x)=false:=decide_eq_false (by unfold Builtin.bitNot;omega);have n2:decide (0<=Builtin.bitNot y)=false:=decide_eq_false (by unfold Builtin.bitNot;omega);unfold Builtin.bitOr Builtin.bitAnd;rw[n1,n2];show Builtin.bitNot (Builtin.bitNot _)=_;rw[e,e,e]
theorem Mz(a h:Nat):(((a:Nat):Int) / 2 ^ h % 2=1)↔a.testBit h=true:=by
 rw[Nat.testBit_eq_decide_div_mod_eq,decide_eq_true_iff];have:((a:Nat):Int) / 2 ^ h % 2=((a / 2 ^ h % 2:Nat):Int):=ζ
 rw[this];omega
theorem Zex{x y:Int}(hx:0<=x)(hy:0<=y)(h:Nat):(Builtin.bitOr x y / 2 ^ h % 2=1)↔(x / 2 ^ h % 2=1\/y / 2 ^ h % 2=1):=by
 rw[WM hx hy,Mz,Nat.testBit_or,Bool.or_eq_true,<- Mz,<- Mz,Int.toNat_of_nonneg hx,Int.toNat_of_nonneg hy]
theorem Zny(k h:Nat):((2:Int) ^ k / 2 ^ h % 2=1)↔k=h:=by
 have e:((2:Int) ^ k)=((2 ^ k:Nat):Int):=ζ
 rw[e,Mz,Nat.testBit_two_pow];exact decide_eq_true_iff
theorem WL{x y:Int}(hx:0<=x)(hy:0<=y):0<=Builtin.bitOr x y:=by rw[WM hx hy];omega
end
section
variable {M0 M N:Wm}{w0:Int}
def Gs(M:Wm):Prop:=∀i∈M.sw.grey,∃c,cellAt M i=some c/\c.tone=M.sw.sense
structure Rd(M0 M:Wm):Prop where
 ph:M.sw.phase="walk"
 ra:Ra M0 M
 rl:Rl M
 gs:Gs M
theorem Zkw{x:AA}{i:Int}{c:Ce}(h:cellAt M i=some c)(a:c.tone=M.sw.sense):∃c',cellAt (bA M x).2 i=some c'/\c'.tone=M.sw.sense:=by
 cases x with
 | none=>exact⟨c,h,a⟩
 | some k=>
  unfold bA;dsimp only;cases hc:cellAt M k with
  | none=>exact⟨c,h,a⟩
  | some d=>
   dsimp only;split
   ·show ∃c',cellAt (setCell M k { d with tone:=M.sw.sense }) i=some c'/\_;rw[dz hc]
    by_cases e:i=k
    ·rw[if_pos e];exact⟨_,rfl,rfl⟩
    ·rw[if_neg e];exact⟨c,h,a⟩
   ·exact⟨c,h,a⟩
theorem Gs.note(g:Gs M)(x:AA):Gs (bA M x).2:=by
 intro i hi;rw[(Wt.note M x).se]
 by_cases h:i∈M.sw.grey
 ·obtain⟨c,h1,h2⟩:=g i h;exact Zkw h1 h2
 ·cases x with
  | none=>exact absurd hi h
  | some k=>
   unfold bA at hi ⊢;dsimp only at hi ⊢;cases hc:cellAt M k with
   | none=>rw[hc]at hi;exact absurd hi h
   | some d=>
    rw[hc]at hi;dsimp only at hi ⊢;split at hi
    ·rename_i z
     rw[if_pos z];have hi:i∈M.sw.grey++[k]:=hi;rcases List.mem_append.mp hi with hi | hi
     ·exact absurd hi h
     ·have e:=List.mem_singleton.mp hi;show ∃c,cellAt (setCell M k { d with tone:=M.sw.sense }) i=some c/\_;rw[dz hc,if_pos e];exact⟨_,rfl,rfl⟩
    ·exact absurd hi h
theorem Gs.notes:∀(l:Au) {M:Wm},Gs M->Gs (aO M l).2
 | [],_,g=>g
 | x::l,_,g=>Gs.notes l (g.note x)
theorem Rl.notes(p:Rl M)(l:Au):Rl (aO M l).2:=by
 have W:=Wt.notes l M;refine⟨by rw[W.lk];exact p.lz,λz=>by rw[W.lk,W.hd];exact p.l0 (W.ww.symm.trans z),λk m hk hb x hx w=>?_⟩;rw[W.hd]at hk;rw[W.lk]at hb;exact p.lk k m hk hb x hx (W.up w)
theorem Rd.begin(tb:TB w0 M)(ph:M.sw.phase="rest")(e:M.w=0\/M.w=1\/M.w=2):Rd M (eO bt M.hands 0 (fj M)).2:=by
 rw[nO];have b:∀i c,cellAt M i=some c->c.tone≠1 - M.sw.sense:=λi c hc z=>by
  have h1:=tb.rs ph i c hc;have h2:=tb.se;omega
 have a0:Ra M (fj M):=⟨rfl,rfl,λi d h=>⟨d,h,rfl⟩,λi c h=>⟨c,h,rfl⟩,λi c h a=>absurd a (b i c h),λi c h a=>absurd a (b i c h)⟩;have W:=Wt.notes (yN bt M.hands 0) (fj M);refine⟨W.ph,Ra.notes _ a0 λi hi=>?_,⟨?_,λz=>?_,λk m hk hb x hx=>?_⟩,Gs.notes _ (λi hi=>nomatch hi)⟩
 ·obtain⟨m,hm,h⟩:=Mv _ _ hi;exact .hand hm h
 ·rw[W.lk];show 0<=dH M.w M.hands.length;unfold dH;split
  ·have:=Int.pow_pos (n:=2) (m:=M.hands.length) ε;omega
  ·decide
 ·rw[W.lk,W.hd];rw[W.ww]at z;show dH M.w M.hands.length=_;unfold dH;exact if_pos z
 ·rw[W.hd]at hk;rw[W.lk]at hb;exact G6 _ _ rfl x (Ek hx M.hands 0 k hk (by rw[Nat.zero_add];exact hb))
theorem Rd.walk(p:Rd M0 M){x:Int}{g:AE}{c:Ce}(hg:M.sw.grey=x::g)(hc:cellAt M x=some c):Rd M0 (aO { M with sw:={ M.sw with grey:=g,walks:=M.sw.walks+1 } } c.fl).2:=by
 have W:=Wt.notes c.fl { M with sw:={ M.sw with grey:=g,walks:=M.sw.walks+1 } };have u:PR M0 x:=by
  obtain⟨d,h1,h2⟩:=p.gs x (by rw[hg];simp);exact p.ra.rc x d h1 h2
 obtain⟨C,A,s⟩:=p.ra.ce x c hc;have v:∀i,some i∈c.fl->PR M0 i:=λi hi=>.fld u A (by rw[<- s];exact hi);have k:Gs { M with sw:={ M.sw with grey:=g,walks:=M.sw.walks+1 } }:=λi hi=>p.gs i (by rw[hg];exact List.mem_cons_of_mem _ hi);have o:Rl { M with sw:={ M.sw with grey:=g,walks:=M.sw.walks+1 } }:=⟨p.rl.lz,p.rl.l0,p.rl.lk⟩;refine⟨W.ph.trans p.ph,?_,o.notes _,Gs.notes _ k⟩;have q:∀(l:Au) (M:Wm) i c,cellAt M i=some c->∃b,cellAt (aO M l).2 i=some b/\b.fl=c.fl:=λl=>by
  induction l with
  | nil=>intro M i c h;exact⟨c,h,rfl⟩
  | cons y l m=>
   intro M i c h;obtain⟨c1,h1,j⟩:=Zfw y h;obtain⟨c2,h2,n⟩:=m _ i c1 h1;exact⟨c2,h2,n.trans j⟩
 have nw:∀(l:Au) (M:Wm) i b,cellAt (aO M l).2 i=some b->b.tone=M.sw.sense->(∃c,cellAt M i=some c/\c.tone=M.sw.sense)\/some i∈l:=λl=>by
  induction l with
  | nil=>intro M i b h a;exact .inl ⟨b,h,a⟩
  | cons y l m=>
   intro M i b h a;rcases m (bA M y).2 i b h (by rw[(Wt.note M y).se];exact a)with ⟨c1,h1,t1⟩ | h1
   ·rw[(Wt.note M y).se]at t1;rcases Zal h1 t1 with z | z
    ·exact .inl z
    ·exact .inr (by rw[z];simp)
   ·exact .inr (by simp[h1])
 refine⟨W.hd.trans p.ra.hd,W.ww.trans p.ra.ww,λi c1 h=>?_,λi d h=>?_,λi d h a=>?_,λi d h a hn y hy w=>?_⟩
 ·obtain⟨d,h1,h2⟩:=p.ra.cf i c1 h;obtain⟨e,B,h4⟩:=q c.fl { M with sw:={ M.sw with grey:=g,walks:=M.sw.walks+1 } } i d h1;exact⟨e,B,h4.trans h2⟩
 ·obtain⟨d1,h1,j,_⟩:=W.ce i d h;obtain⟨r,h2,n⟩:=p.ra.ce i d1 h1;exact⟨r,h2,j.trans n⟩
 ·rw[W.se]at a;rcases nw _ _ i d h a with ⟨d1,h1,t1⟩ | h1
  ·exact p.ra.rc i d1 h1 t1
  ·exact v i h1
 ·rw[W.se]at a;obtain⟨d1,f,j,t1⟩:=W.ce i d h;rw[j]at hy;have t:d1.tone=M.sw.sense:=by
   rcases t1 with t1 | ⟨_,_,gr⟩
   ·rw[<- t1];exact a
   ·exact absurd gr hn
  have f:cellAt M i=some d1:=f
  by_cases ex:i=x
  ·rw[ex,hc]at f;cases f;exact G6 c.fl { M with sw:={ M.sw with grey:=g,walks:=M.sw.walks+1 } } p.ph y hy w
  ·refine p.ra.dk i d1 f t (λgr=>?_) y hy (W.up w);rw[hg]at gr;rcases List.mem_cons.mp gr with gr | gr
   ·exact ex gr
   ·exact hn (W.gr i gr)
theorem Rd.look(p:Rd M0 M)(b:0<=bh M)(d:¬ jW M):Rd M0 { (eO bf M.hands 0 M).2 with sw:={ (eO bf M.hands 0 M).2.sw with looks:=(eO bf M.hands 0 M).2.sw.looks+1,looked:=if M.w=2 then(eO bf M.hands 0 M).2.sw.looked else Builtin.bitOr (eO bf M.hands 0 M).2.sw.looked bf } }:=by
 rw[nO];have W:=Wt.notes ap M;have a:=Ra.notes ap p.ra λi hi=>by
  obtain⟨m,hm,h⟩:=Mv _ _ hi;exact .hand (by rw[<- p.ra.hd];exact hm) h
 have r:=p.rl.notes ap;have gs:=Gs.notes ap p.gs;have lz:0<=M.sw.looked:=p.rl.lz;refine⟨W.ph.trans p.ph,⟨a.hd,a.ww,a.cf,a.ce,a.rc,a.dk⟩,⟨?_,λz=>?_,λk m hk hb x hx w=>?_⟩,gs⟩
 ·show 0<=if M.w=2 then(aO M ap).2.sw.looked else Builtin.bitOr (aO M ap).2.sw.looked bf
  rw[W.lk];split
  ·exact lz
  ·exact WL lz b
 ·have z:M.w=0:=W.ww.symm.trans z;exact absurd (.inl (by unfold bh p6;rw[z];rfl)) d
 ·have hk:(aO M ap).2.hands[k]? =some m:=hk;have w:wh (aO M ap).2 x:=w;have hb:(if M.w=2 then(aO M ap).2.sw.looked else Builtin.bitOr (aO M ap).2.sw.looked bf) / 2 ^ k % 2=1:=hb
  by_cases c:M.w=2
  ·rw[if_pos c]at hb;exact r.lk k m hk hb x hx w
  ·rw[if_neg c,Zex (by rw[W.lk];exact lz) b]at hb;rcases hb with hb | hb
   ·exact r.lk k m hk hb x hx w
   ·rw[W.hd]at hk;exact G6 _ M p.ph x (Ek hx M.hands 0 k hk (by rw[Nat.zero_add];exact hb)) w
end
section
variable {M0 M N M':Wm}{w0:Int}
theorem Rd.found(p:Rd M0 M)(l:M.w=0\/M.w=1\/M.w=2)(hg:M.sw.grey=[])(cd:jW M){q g:List cy}{k:Nat}(b:KB.Bx (fdOf M) (ig M) q k g){x:Int×AE}(hx:x∈g){c:Ce}(hc:cellAt M x.1=some c):c.tone=M.sw.sense:=by
 have ph:=p.ph;have a:¬ wh M (some x.1):=by
  refine(Zpk (P:=λy=>¬ wh M (some y)) (λrow hr y hy=>?_) (λy fl r f z hz=>?_) b).2 x hx
  ·rcases List.mem_append.mp hr with hr | hr
   ·obtain⟨m,hm,rfl⟩:=List.mem_map.mp hr;exact p.rl.hands ph l cd m hm _ hy
   ·rw[List.mem_singleton.mp hr]at hy;obtain⟨m,hm,e⟩:=List.mem_map.mp hy;unfold NP at e;split at e
    ·cases e
    ·split at e
     ·cases e
     ·rename_i d hd
      split at e
      ·cases e
      ·rename_i z
       have e:=Option.some.inj e;rintro⟨i,s,n,j,h4⟩;cases n;rw[<- e,hd]at j;cases j;exact z ⟨decide_eq_true (.inl ph),h4⟩
  ·rw[Zec]at f;obtain⟨d,hd,rfl⟩:=Option.map_eq_some_iff.mp f;have o:d.tone=M.sw.sense:=Decidable.byContradiction λh=>r ⟨y,d,rfl,hd,h⟩;exact p.ra.dk y d hd o (by rw[hg];simp) _ hz
 exact Decidable.byContradiction λh=>a ⟨x.1,c,rfl,hc,h⟩
theorem Rd.step(p:Rd M0 M)(f:M.w=0\/M.w=1\/M.w=2)(k:0<=bh M){lb:Int}{lw:AE}{e:Ev}(h:fZ lb lw M e M'):(Rd M0 M'/\(e.word="walk"\/e.word="look"))\/(M.sw.grey=[]/\jW M/\e=⟨"cut",some (gh M).length,gh M⟩/\M'=Zz8 M):=by
 have ph:=p.ph;cases h with
 | begin h2=>exact absurd (ph.symm.trans h2) ε
 | walk x g c _ hg hc=>exact .inl ⟨p.walk hg hc,.inl rfl⟩
 | look N _ hg l j=>subst j;exact .inl ⟨p.look k l,.inr rfl⟩
 | cut q m _ hg cd b a=>exact .inr ⟨hg,cd,rfl,rfl⟩
 | lost q m i x c v _ hg cd b hx a hc d=>exact absurd (p.found f hg cd b (List.mem_of_getElem? hx) hc) d
 | pass h2=>exact absurd (ph.symm.trans h2) ε
 | back c h2=>exact absurd (ph.symm.trans h2) ε
 | fin h2=>exact absurd (ph.symm.trans h2) ε
 | again h2=>exact absurd (ph.symm.trans h2) ε
def sh(c:Ce):Ce:={ c with tone:=0 }
def Z7(M:Wm):List (Option Ce):=M.cells.map (Option.map sh)
theorem Xn(M:Wm)(x:AA):Z7 (bA M x).2=Z7 M:=by
 cases x with
 | none=>rfl
 | some k=>
  unfold bA;dsimp only;cases hc:cellAt M k with
  | none=>rfl
  | some d=>
   dsimp only;split
   ·obtain⟨a,h1⟩:=bF.mp hc;show(setCell M k { d with tone:=M.sw.sense }).cells.map (Option.map sh)=_;show(M.cells.set k.toNat (some { d with tone:=M.sw.sense })).map (Option.map sh)=_;rw[List.map_set];unfold Z7;refine List.ext_getElem? λi=>?_;rw[List.getElem?_set];split
    ·rename_i e
     subst e;rw[cz,h1,aU,if_pos (cP h1).1];rfl
    ·rfl
   ·rfl
theorem Z6:∀(l:Au) (M:Wm),Z7 (aO M l).2=Z7 M
 | [],_=>rfl
 | x::l,M=>(Z6 l _).trans (Xn M x)
end
section
variable {M0 M N M':Wm}{w0:Int}
inductive Rn:Wm->List Ev->Wm->Prop
 | done {M:Wm}:M.sw.phase=("rest":Str)\/M.sw.phase=("lost":Str)->Rn M [] M
 | go {M M1 M':Wm}{lb:Int}{lw:AE}{e:Ev}{es:List Ev}:M.sw.phase≠("rest":Str)->M.sw.phase≠("lost":Str)->fZ lb lw M e M1->Rn M1 es M'->Rn M (e::es) M'
def sH(a:List Ev):AE:=a.filterMap λe=>if e.word=("back":Str)then e.thing else none
def K5(a:List Ev):List Ev:=a.filter λe=>decide (e.word=("cut":Str))
theorem Zmd{f g:Nat->AA}:∀l:List Nat,(∀j∈l,f j=g j)->l.filterMap f=l.filterMap g
 | [],_=>rfl
 | a::l,h=>by
  rw[List.filterMap_cons,List.filterMap_cons,h a ζ,Zmd l λj b=>h j (by simp[b])]
theorem Zmb{f g:Nat->AA}{n a:Nat}{b:Int}(o:a<n)(e:∀j,j<a->f j=none)(h1:f a=some b)(hg:∀j,j≠a->g j=f j)(d:g a=none):(List.range n).filterMap f=b::(List.range n).filterMap g:=by
 obtain⟨m,rfl⟩:∃m,n=a+1+m:=⟨n - (a+1),δ⟩;rw[List.range_add,List.range_succ,List.filterMap_append,List.filterMap_append,List.filterMap_append,List.filterMap_append];have l:(List.range a).filterMap f=[]:=List.filterMap_eq_nil_iff.mpr λj c=>e j (List.mem_range.mp c);have h:(List.range a).filterMap g=[]:=List.filterMap_eq_nil_iff.mpr λj c=>by rw[hg j (by have:=List.mem_range.mp c;omega)];exact e j (List.mem_range.mp c)
 rw[l,h];have e3:[a].filterMap f=[b]:=by simp[h1]
 have i:[a].filterMap g=[]:=by simp[d]
 rw[e3,i];show b::_=b::_;congr 1;simp only[List.nil_append];refine Zmd _ λj c=>?_;obtain⟨k,_,rfl⟩:=List.mem_map.mp c;exact(hg _ δ).symm
theorem Zhh(tb:TB w0 M)(ph:M.sw.phase="give"){j:Nat}(a:(j:Int)<M.sw.at'):kh M j=none:=by
 unfold kh;cases h:(M.cells[j]?).join with
 | none=>rfl
 | some c=>
  show(if c.tone=M.sw.sense then none else some c)=none;refine if_pos (Decidable.byContradiction λz=>?_);have hc:cellAt M (j:Int)=some c:=bF.mpr ⟨δ,by
   rw[show((j:Int)).toNat=j by omega];cases h2:M.cells[j]? with
   | none=>rw[h2]at h;cases h
   | some o=>rw[h2]at h;rw[show o=some c from h]⟩
  have:=(tb.gv ph _ c hc z).1;omega
theorem Zp9{g:List Ev}(r:Rn M g M'):M.sw.phase="give"->TB w0 M->0<=M.sw.at'->sH g=gh M/\K5 g=[]/\(∃e,g.getLast? =some e/\e.word=("end":Str))/\M'.sw.phase="rest"/\M'.hands=M.hands/\M'.names=M.names/\M'.room=M.room/\M'.sw.sense=M.sw.sense/\M'.cells.length=M.cells.length/\∀i c,cellAt M' i=some c↔cellAt M i=some c/\c.tone=M.sw.sense:=by
 induction r with
 | done h=>
  intro ph;rcases h with h | h
  ·exact absurd aI ε
  ·exact absurd aI ε
 | @go M M1 M' C lw e g h1 h2 st rn A=>
  intro ph tb a0;have k:=tb.step st;cases st with
  | begin h=>exact absurd aI ε
  | walk _ _ _ h=>exact absurd aI ε
  | look _ h=>exact absurd aI ε
  | cut _ _ h=>exact absurd aI ε
  | lost _ _ _ _ _ _ h=>exact absurd aI ε
  | again h=>exact absurd aI ε
  | pass _ lt hp=>
   obtain⟨m,l,⟨e,w,b⟩,v,t,u,p,q,s,f⟩:=A ph k (by show 0<=M.sw.at'+1;omega);refine⟨m,l,⟨e,?_,b⟩,v,t,u,p,q,s,f⟩;rw[List.getLast?_cons,w];rfl
  | back c _ lt hc x=>
   obtain⟨D,c1⟩:=bF.mp hc;have cl:M.sw.at'.toNat<M.cells.length:=(cP c1).1;obtain⟨m,l,⟨e,w,b⟩,v,t,u,p,q,s,f⟩:=A ph k (by show 0<=M.sw.at'+1;omega);refine⟨?_,l,⟨e,?_,b⟩,v,t,u,p,q,s.trans (List.length_set ..),λi d=>?_⟩
   ·show c.birth::sH g=_;rw[m];unfold gh;show c.birth::(List.range (M.cells.set M.sw.at'.toNat none).length).filterMap _=_;rw[List.length_set];refine(Zmb (a:=M.sw.at'.toNat) cl (λj n=>?_) ?_ (λj n=>?_) ?_).symm
    ·rw[Zhh tb ph δ];rfl
    ·unfold kh;rw[c1];show((if c.tone=M.sw.sense then none else some c):Option Ce).map (·.birth)=_;rw[if_neg x];rfl
    ·unfold kh;show((((M.cells.set M.sw.at'.toNat none)[j]?).join).bind _).map _=_;rw[List.getElem?_set_ne (λz=>n z.symm)]
    ·unfold kh;show((((M.cells.set M.sw.at'.toNat none)[M.sw.at'.toNat]?).join).bind _).map _=_;rw[List.getElem?_set_self cl];rfl
   ·rw[List.getLast?_cons,w];rfl
   ·rw[f i d]
    by_cases z:i=M.sw.at'
    ·refine⟨(by rintro ⟨y,_⟩;exact absurd z (Zgm hc y).1),λ⟨y,yt⟩=>?_⟩;rw[z,hc]at y;cases y;exact absurd yt x
    ·rw[Zpm hc z]
  | fin _ lt=>
   cases rn with
   | go h=>exact absurd rfl h
   | done _=>
    have B:∀i c,cellAt M i=some c->c.tone=M.sw.sense:=λi c hc=>Decidable.byContradiction λz=>by
     have:=tb.gv ph i c hc z;omega
    refine⟨?_,rfl,⟨_,rfl,rfl⟩,rfl,rfl,rfl,rfl,rfl,rfl,λi c=>⟨λh=>⟨h,B i c h⟩,λh=>h.1⟩⟩;show []=gh M;unfold gh;refine(List.filterMap_eq_nil_iff.mpr λj n=>?_).symm;unfold kh;cases h:(M.cells[j]?).join with
    | none=>rfl
    | some c=>
     show((if c.tone=M.sw.sense then none else some c):Option Ce).map (·.birth)=none;rw[if_pos (B j c (bF.mpr ⟨δ,by
      rw[show((j:Int)).toNat=j by omega];cases h2:M.cells[j]? with
      | none=>rw[h2]at h;cases h
      | some o=>rw[h2]at h;rw[show o=some c from h]⟩))]
     rfl
end
section
variable {M0 M N M':Wm}{w0:Int}
theorem Zok(M:Wm):0<=bh M:=by
 unfold bh p6;split
 ·decide
 ·split
  ·rcases Fe M.sw.looked M.hands.length 0 with ⟨h,_⟩ | ⟨k,_,_,h,_⟩
   ·rw[h];decide
   ·rw[h];have:=Int.pow_pos (n:=2) (m:=k) ε;omega
  ·have:=Int.pow_pos (n:=2) (m:=M.hands.length) ε;omega
structure Rs(M0 M:Wm):Prop where
 nm:M.names=M0.names
 rm:M.room=M0.room
 us:M.used=M0.used
 sh:Z7 M=Z7 M0
theorem Xp(M:Wm)(x:AA):(bA M x).2.names=M.names/\(bA M x).2.room=M.room/\(bA M x).2.used=M.used:=by
 cases x with
 | none=>exact⟨rfl,rfl,rfl⟩
 | some k=>
  unfold bA;dsimp only;cases hc:cellAt M k with
  | none=>exact⟨rfl,rfl,rfl⟩
  | some d=>
   dsimp only;split
   ·exact⟨rfl,rfl,rfl⟩
   ·exact⟨rfl,rfl,rfl⟩
theorem Rs.notes:∀(l:Au) {M:Wm},Rs M0 M->Rs M0 (aO M l).2
 | [],_,p=>p
 | x::l,M,p=>by
  obtain⟨a,b,c⟩:=Xp M x;exact Rs.notes l ⟨a.trans p.nm,b.trans p.rm,c.trans p.us,(Xn M x).trans p.sh⟩
structure Fin(M0 Mc M':Wm)(es:List Ev):Prop where
 rd:Rd M0 Mc
 rs:Rs M0 Mc
 tb:∃w0,TB w0 Mc
 hg:Mc.sw.grey=[]
 cd:jW Mc
 cu:K5 es=[⟨"cut",some (gh Mc).length,gh Mc⟩]
 bk:sH es=gh Mc
 ls:∃e,es.getLast? =some e/\e.word=("end":Str)
 ph:M'.sw.phase="rest"
 hd:M'.hands=Mc.hands
 nm:M'.names=Mc.names
 rm:M'.room=Mc.room
 se:M'.sw.sense=Mc.sw.sense
 cl:M'.cells.length=Mc.cells.length
 ce:∀i c,cellAt M' i=some c↔cellAt Mc i=some c/\c.tone=Mc.sw.sense
theorem Znc{j:List Ev}(r:Rn M j M'):Rd M0 M->Rs M0 M->TB w0 M->(M0.w=0\/M0.w=1\/M0.w=2)->∃i,Fin M0 i M' j:=by
 induction r with
 | done h=>
  intro p;rcases h with h | h
  ·exact absurd (p.ph.symm.trans h) ε
  ·exact absurd (p.ph.symm.trans h) ε
 | @go M M1 M' K lw e j h1 h2 st rn z=>
  intro p s tb u;have a:=tb.step st;have l:M.w=0\/M.w=1\/M.w=2:=by rw[p.ra.ww];exact u
  rcases p.step l (Zok M) st with ⟨J,b⟩ | ⟨hg,cd,rfl,rfl⟩
  ·have A:Rs M0 M1:=by
    cases st with
    | begin h=>exact absurd (p.ph.symm.trans h) ε
    | walk x g c _ _ _=>exact Rs.notes c.fl (M:={ M with sw:={ M.sw with grey:=g,walks:=M.sw.walks+1 } }) ⟨s.nm,s.rm,s.us,s.sh⟩
    | look N _ _ _ y=>
     subst y;rw[nO];have q:=Rs.notes ap s;exact⟨q.nm,q.rm,q.us,q.sh⟩
    | cut=>exact b.elim (λh=>absurd h (show ¬ ("cut":Str)="walk" by decide)) λh=>absurd h (show ¬ ("cut":Str)="look" by decide)
    | lost=>exact b.elim (λh=>absurd h (show ¬ ("lost":Str)="walk" by decide)) λh=>absurd h (show ¬ ("lost":Str)="look" by decide)
    | pass h=>exact absurd (p.ph.symm.trans h) ε
    | back _ h=>exact absurd (p.ph.symm.trans h) ε
    | fin h=>exact absurd (p.ph.symm.trans h) ε
    | again h=>exact absurd (p.ph.symm.trans h) ε
   obtain⟨i,f⟩:=z J A a u;have F:¬ e.word=("cut":Str):=by rcases b with h | h<;>rw[h]<;>decide
   have v:¬ e.word=("back":Str):=by rcases b with h | h<;>rw[h]<;>decide
   obtain⟨d,n,k⟩:=f.ls;refine⟨i,⟨f.rd,f.rs,f.tb,f.hg,f.cd,?_,?_,⟨d,?_,k⟩,f.ph,f.hd,f.nm,f.rm,f.se,f.cl,f.ce⟩⟩
   ·unfold K5;rw[List.filter_cons,if_neg (by simpa using F)];exact f.cu
   ·unfold sH;rw[List.filterMap_cons,if_neg v];exact f.bk
   ·rw[List.getLast?_cons,n];rfl
  ·obtain⟨t,o,⟨d,n,k⟩,I,E,H,C,B,D,m⟩:=Zp9 rn rfl a (Int.le_refl 0);refine⟨M,⟨p,s,⟨w0,tb⟩,hg,cd,?_,?_,⟨d,?_,k⟩,I,E,H,C,B,D,m⟩⟩
   ·unfold K5 at o ⊢;rw[List.filter_cons,if_pos (decide_eq_true rfl),o]
   ·unfold sH at t ⊢;rw[List.filterMap_cons,if_neg (show ¬ ("cut":Str)="back" by decide)];exact t
   ·rw[List.getLast?_cons,n];rfl
theorem Zha{c:List Ev}{e:Ev}{M1:Wm}{lb:Int}{lw:AE}(tb:TB w0 M)(ph:M.sw.phase="rest")(b:M.w=0\/M.w=1\/M.w=2)(st:fZ lb lw M e M1)(r:Rn M1 c M'):e.word=("begin":Str)/\∃d,Fin M d M' c:=by
 have a:=tb.step st;cases st with
 | begin _=>
  refine⟨rfl,Znc r (Rd.begin tb ph b) ?_ a b⟩;rw[nO];exact Rs.notes _ (M:=fj M) ⟨rfl,rfl,rfl,rfl⟩
 | walk _ _ _ h=>exact absurd aI ε
 | look _ h=>exact absurd aI ε
 | cut _ _ h=>exact absurd aI ε
 | lost _ _ _ _ _ _ h=>exact absurd aI ε
 | pass h=>exact absurd aI ε
 | back _ h=>exact absurd aI ε
 | fin h=>exact absurd aI ε
 | again h=>exact absurd aI ε
end
section
variable {M0 M Mc M':Wm}{w0:Int}{es:List Ev}
theorem Zu6{i:Int}(h:PR M i):∀c,cellAt M i=some c->Rb (rowsOf M) (nG M) c.birth:=by
 induction h with
 | @hand m i hm hi=>
  intro c hc;refine .row (r:=m.2.map (mU M)) ?_ (List.mem_map.mpr ⟨some i,hi,Zc7 hc⟩);unfold rowsOf;exact List.mem_map.mpr ⟨m,hm,rfl⟩
 | @fld j i d _ hd hi a=>
  intro c hc;exact .via (x:=RM M (j,d)) (a d hd) (Ej hd) (List.mem_map.mpr ⟨some i,hi,Zc7 hc⟩)
theorem Zu3(tb:TB w0 M){b:Int}(h:Rb (rowsOf M) (nG M) b):∃i c,cellAt M i=some c/\c.birth=b/\PR M i:=by
 induction h with
 | @row r b hr hb=>
  unfold rowsOf at hr;obtain⟨m,hm,rfl⟩:=List.mem_map.mp hr;obtain⟨y,hy,e⟩:=List.mem_map.mp hb;obtain⟨i,c,rfl,hc,e⟩:=MK e;exact⟨i,c,hc,e,.hand hm hy⟩
 | @via x b _ hx hb g=>
  obtain⟨j,d,hd,e,k⟩:=g;obtain⟨t,rfl,a⟩:=BL hx;have l:=tb.bu _ _ _ _ hd a e;subst l;have hb:some b∈t.2.fl.map (mU M):=hb;obtain⟨y,hy,f⟩:=List.mem_map.mp hb;obtain⟨i,c,rfl,hc,e3⟩:=MK f;exact⟨i,c,hc,e3,.fld k a hy⟩
theorem Ol(tb:TB w0 M){i:Int}{c:Ce}(hc:cellAt M i=some c):PR M i↔Rb (rowsOf M) (nG M) c.birth:=by
 refine⟨λh=>Zu6 h c hc,λh=>?_⟩;obtain⟨j,d,hd,e,a⟩:=Zu3 tb h;rw[<- tb.bu _ _ _ _ hd hc e];exact a
theorem Zjn(h:Z7 M=Z7 M0):M.cells.length=M0.cells.length:=by
 have:=congrArg List.length h;unfold Z7 at this;rw[aU,aU]at this;exact this
theorem Zpz(h:Z7 M=Z7 M0)(i:Nat):((M.cells[i]?).join).map sh=((M0.cells[i]?).join).map sh:=by
 have e:=congrArg (λl=>(l[i]?).join) h;unfold Z7 at e;simp only[cz]at e;cases h1:M.cells[i]? with
 | none=>
  cases h2:M0.cells[i]? with
  | none=>rfl
  | some o=>rw[h1,h2]at e;exact e
 | some o=>
  cases h2:M0.cells[i]? with
  | none=>rw[h1,h2]at e;exact e
  | some a=>rw[h1,h2]at e;exact e
theorem Zim(tb:TB w0 M)(p:M.w=0\/M.w=1\/M.w=2)(f:Fin M Mc M' es){g:Int->Bool}(l:∀b,g b=true↔Rb (rowsOf M) (nG M) b):gh Mc=((nG M).filter λx=>!g x.b).map (·.b):=by
 have m:Mc.w=0\/Mc.w=1\/Mc.w=2:=by rw[f.rd.ra.ww];exact p
 unfold gh nG gM;rw[Zjn f.rs.sh,List.filter_map,List.map_map,<- List.filterMap_eq_map,<- List.filterMap_eq_filter,List.filterMap_filterMap,List.filterMap_filterMap];refine Zmd _ λi hi=>?_;have e:=Zpz f.rs.sh i;unfold kh;cases h:(M.cells[i]?).join with
 | none=>
  rw[h]at e;cases h2:(Mc.cells[i]?).join with
  | none=>rfl
  | some c=>rw[h2]at e;cases e
 | some a=>
  rw[h]at e;cases h2:(Mc.cells[i]?).join with
  | none=>rw[h2]at e;cases e
  | some c=>
   rw[h2]at e;have e:sh c=sh a:=Option.some.inj e;have r:c.birth=a.birth:=by have q:=congrArg Ce.birth e;exact q
   have at_:∀{L:Wm}{d:Ce},(L.cells[i]?).join=some d->cellAt L (i:Int)=some d:=λ{L d} j=>bF.mpr ⟨δ,by
    rw[show((i:Int)).toNat=i by omega];cases n:L.cells[i]? with
    | none=>rw[n]at j;cases j
    | some o=>rw[n]at j;rw[show o=some d from j]⟩
   have k:=f.rd.ra.tone f.rd.rl f.rd.ph f.hg m f.cd (at_ h2);rw[Ol tb (at_ h),<- l]at k;show((if c.tone=Mc.sw.sense then none else some c):Option Ce).map (·.birth)=((if (!g a.birth)=true then some ((i:Int),a)else none):Option (Int×Ce)).bind λt=>some t.2.birth
   by_cases z:c.tone=Mc.sw.sense
   ·rw[if_pos z,if_neg (by rw[k.mp z];decide)];rfl
   ·rw[if_neg z,if_pos (by
     cases hz:g a.birth with
     | false=>rfl
     | true=>exact absurd (k.mpr hz) z)]
    show some c.birth=some a.birth;rw[r]
end
section
variable {M0 M Mc M':Wm}{w0:Int}{es:List Ev}
theorem Zmc{b:Type}{f g:Nat->Option b}:∀l:List Nat,(∀j∈l,f j=g j)->l.filterMap f=l.filterMap g
 | [],_=>rfl
 | a::l,h=>by
  rw[List.filterMap_cons,List.filterMap_cons,h a ζ,Zmc l λj c=>h j (by simp[c])]
theorem jR{L:Wm}{i:Nat}{d:Ce}:(L.cells[i]?).join=some d↔cellAt L (i:Int)=some d:=by
 rw[bF,show((i:Int)).toNat=i by omega];constructor
 ·intro a;refine⟨δ,?_⟩;cases b:L.cells[i]? with
  | none=>rw[b]at a;cases a
  | some o=>rw[b]at a;rw[show o=some d from a]
 ·intro h;rw[h.2];rfl
theorem Fin.cell(f:Fin M Mc M' es)(k:M.w=0\/M.w=1\/M.w=2){i:Nat}:(∃a c,cellAt M (i:Int)=some a/\PR M i/\cellAt M' (i:Int)=some c/\sh c=sh a)\/(cellAt M' (i:Int)=none/\∀a,cellAt M (i:Int)=some a->¬ PR M i):=by
 have g:Mc.w=0\/Mc.w=1\/Mc.w=2:=by rw[f.rd.ra.ww];exact k
 have e:=Zpz f.rs.sh i;cases h:(Mc.cells[i]?).join with
 | none=>
  rw[h]at e
  right
  refine⟨?_,λa hc=>?_⟩
  ·cases h2:cellAt M' (i:Int)with
   | none=>rfl
   | some c=>rw[jR.mpr ((f.ce _ c).mp h2).1]at h;cases h
  ·rw[jR.mpr hc]at e;cases e
 | some c=>
  rw[h]at e;have hc:=jR.mp h;have j:=f.rd.ra.tone f.rd.rl f.rd.ph f.hg g f.cd hc;cases b:(M.cells[i]?).join with
  | none=>rw[b]at e;cases e
  | some a=>
   rw[b]at e;have e:sh c=sh a:=Option.some.inj e
   by_cases z:c.tone=Mc.sw.sense
   ·exact .inl ⟨a,c,jR.mp b,j.mp z,(f.ce _ c).mpr ⟨hc,z⟩,e⟩
   ·refine .inr ⟨?_,λ_ _ y=>z (j.mpr y)⟩;cases h2:cellAt M' (i:Int)with
    | none=>rfl
    | some d=>
     obtain⟨y1,l⟩:=(f.ce _ d).mp h2;rw[hc]at y1;cases y1;exact absurd l z
theorem Fin.mU(f:Fin M Mc M' es)(d:M.w=0\/M.w=1\/M.w=2){x:AA}(h:∀i,x=some i->PR M i):mU M' x=mU M x:=by
 cases x with
 | none=>rfl
 | some i=>
  show(cellAt M' i).map _=(cellAt M i).map _
  by_cases k:0<=i
  ·obtain⟨j,rfl⟩:∃j:Nat,i=(j:Int):=⟨i.toNat,δ⟩;rcases f.cell d (i:=j)with ⟨b,c,h1,_,h2,e⟩ | ⟨h1,h2⟩
   ·rw[h1,h2];have g:=congrArg Ce.birth e;exact congrArg some g
   ·rw[h1];cases a:cellAt M (j:Int)with
    | none=>rfl
    | some b=>exact absurd (h _ rfl) (h2 b a)
  ·have no:∀L:Wm,cellAt L i=none:=λL=>by
    cases a:cellAt L i with
    | none=>rfl
    | some c=>exact absurd (bF.mp a).1 k
   rw[no,no]
theorem Zh3(tb:TB w0 M)(ph:M.sw.phase="rest")(o:M.w=0\/M.w=1\/M.w=2)(f:Fin M Mc M' es){g:Int->Bool}(j:∀b,g b=true↔Rb (rowsOf M) (nG M) b):nG M'=(nG M).filter λx=>g x.b:=by
 unfold nG gM;rw[List.filter_map,<- List.filterMap_eq_filter,<- List.filterMap_eq_map,<- List.filterMap_eq_map,List.filterMap_filterMap,List.filterMap_filterMap,List.filterMap_filterMap,f.cl,Zjn f.rs.sh];refine Zmc _ λi hi=>?_;rcases f.cell o (i:=i)with ⟨a,c,h1,p,h2,e⟩ | ⟨h1,h2⟩
 ·rw[jR.mpr h1,jR.mpr h2];show some (RM M' ((i:Int),c))=((if g a.birth=true then some ((i:Int),a)else none):Option (Int×Ce)).bind λt=>some (RM M t);rw[if_pos ((j _).mpr ((Ol tb h1).mp p))];show some _=some _;congr 1;unfold RM;have s:c.birth=a.birth:=by have h:=congrArg Ce.birth e;exact h
  have r:c.fl=a.fl:=by have h:=congrArg Ce.fl e;exact h
  have l:c.bulk=a.bulk:=by have h:=congrArg Ce.bulk e;exact h
  have q:c.load=a.load:=by have h:=congrArg Ce.load e;exact h
  have u:xg M' (i:Int) c=xg M (i:Int) a:=by
   unfold xg;rw[if_pos f.ph,if_pos ph]
  have m:c.fl.map (mU M')=a.fl.map (mU M):=by
   rw[r];exact List.map_congr_left λx hx=>f.mU o λk l=>.fld p h1 (by rw[<- l];exact hx)
  show Tc.mk _ c.birth c.bulk c.load (c.fl.map (mU M')) (xg M' (i:Int) c)=Tc.mk _ a.birth a.bulk a.load (a.fl.map (mU M)) (xg M (i:Int) a);rw[s,l,q,u,m]
 ·have n1:(M'.cells[i]?).join=none:=by
   cases n:(M'.cells[i]?).join with
   | none=>rfl
   | some d=>rw[jR.mp n]at h1;cases h1
  rw[n1];cases n:(M.cells[i]?).join with
  | none=>rfl
  | some a=>
   have hc:=jR.mp n;show none=((if g a.birth=true then some ((i:Int),a)else none):Option (Int×Ce)).bind λt=>some (RM M t);rw[if_neg (λy=>h2 a hc ((Ol tb hc).mpr ((j _).mp y)))];rfl
end
section
variable {M0 M Mc M':Wm}{w0:Int}{es:List Ev}
theorem Zd4(a:M.w=0\/M.w=1\/M.w=2)(f:Fin M Mc M' es):rowsOf M'=rowsOf M:=by
 unfold rowsOf;rw[f.hd,f.rd.ra.hd];refine List.map_congr_left λm hm=>?_;exact List.map_congr_left λx hx=>f.mU a λi e=>.hand hm (by rw[<- e];exact hx)
theorem Ze8(tb:TB w0 M)(pn:NmP M)(s:M.w=0\/M.w=1\/M.w=2)(f:Fin M Mc M' es){g:Int->Bool}(n:∀b,g b=true↔Rb (rowsOf M) (nG M) b){m:Str×(Int×Int)}(hm:m∈M.names):
  ji M' m.2.1 m.2.2=(decide (m.2.2∈((nG M).filter λx=>!g x.b).map (·.b)) || decide (¬ m.2.2∈(nG M).map (·.b))):=by
 have A:¬ M'.sw.phase="give":=by rw[f.ph];decide
 have old:∀i c,cellAt M' i=some c->∃a,cellAt M i=some a/\c.birth=a.birth/\PR M i:=λi c hc=>by
  obtain⟨j,rfl⟩:∃j:Nat,i=(j:Int):=⟨i.toNat,by have:=(bF.mp hc).1;omega⟩;rcases f.cell s (i:=j)with ⟨a,d,h1,k,h2,e⟩ | ⟨h1,_⟩
  ·rw[hc]at h2;cases h2;have l:=congrArg Ce.birth e;exact⟨a,h1,l,k⟩
  ·rw[hc]at h1;cases h1
 by_cases h:∃i c,cellAt M i=some c/\c.birth=m.2.2
 ·obtain⟨i,a,hc,hb⟩:=h;have u:=pn m hm i a hc hb;have r:m.2.2∈(nG M).map (·.b):=List.mem_map.mpr ⟨_,Ej hc,hb⟩;rw[decide_eq_false (p:=¬ m.2.2∈(nG M).map (·.b)) (λz=>z r),Bool.or_false]
  by_cases k:PR M i
  ·obtain⟨j,rfl⟩:∃j:Nat,i=(j:Int):=⟨i.toNat,by have:=(bF.mp hc).1;omega⟩;have o:ji M' m.2.1 m.2.2=false:=by
    rcases f.cell s (i:=j)with ⟨c1,d,h1,_,h2,e⟩ | ⟨_,h2⟩
    ·rw[hc]at h1;cases h1;unfold ji;rw[<- u,h2];have l:d.birth=a.birth:=by have l:=congrArg Ce.birth e;exact l
     show(if d.birth=m.2.2 then _ else _)=_;rw[if_pos (l.trans hb),decide_eq_false (λz=>A z.1)]
    ·exact absurd k (h2 a hc)
   rw[o];refine(decide_eq_false λz=>?_).symm;obtain⟨x,hx,ex⟩:=List.mem_map.mp z;have hx:=(List.mem_filter.mp hx).2;rw[ex,<- hb,(n _).mpr ((Ol tb hc).mp k)]at hx;exact absurd hx ε
  ·have o:ji M' m.2.1 m.2.2=true:=by
    unfold ji;rw[<- u];cases h2:cellAt M' i with
    | none=>rfl
    | some d=>
     obtain⟨_,_,_,q⟩:=old i d h2;exact absurd q k
   rw[o];refine(decide_eq_true ?_).symm;refine List.mem_map.mpr ⟨RM M (i,a),List.mem_filter.mpr ⟨Ej hc,?_⟩,hb⟩;show(!g a.birth)=true;cases hz:g a.birth with
   | false=>rfl
   | true=>exact absurd ((Ol tb hc).mpr ((n _).mp hz)) k
 ·have h:∀i c,cellAt M i=some c->c.birth≠m.2.2:=λi c hc hb=>h ⟨i,c,hc,hb⟩;have y:¬ m.2.2∈(nG M).map (·.b):=λz=>by
   obtain⟨x,hx,e⟩:=List.mem_map.mp z;obtain⟨t,rfl,v⟩:=BL hx;exact h _ _ v e
  rw[decide_eq_true (p:=¬ m.2.2∈(nG M).map (·.b)) y,Bool.or_true];unfold ji;cases h2:cellAt M' m.2.1 with
  | none=>rfl
  | some d=>
   obtain⟨a,B,e,_⟩:=old _ d h2;show(if d.birth=m.2.2 then _ else _)=_;rw[if_neg (λz=>h _ a B (e.symm.trans z))]
end
section
variable {M M':Wm}{w0:Int}
def ZV:Option Ce->Int
 | none=>0
 | some c=>1+c.fl.length+c.bulk
def Iv(l:List (Option Ce)):Int:=(l.map ZV).sum
def Us(M:Wm):Prop:=M.used=Iv M.cells
theorem Mj:∀{l:List (Option Ce)}{i:Nat}{o:Option Ce} (b:Option Ce),l[i]? =some o->Iv (l.set i b)=Iv l - ZV o+ZV b
 | [],_,_,_,h=>by cases h
 | a::l,0,o,b,h=>by
  cases h;show(ZV b+Iv l)=(ZV a+Iv l) - ZV a+ZV b;omega
 | a::l,i+1,o,b,h=>by
  have c:=Mj b (show l[i]? =some o from h);show ZV a+Iv (l.set i b)=(ZV a+Iv l) - ZV o+ZV b;omega
theorem Znh(a b:List (Option Ce)):Iv (a++b)=Iv a+Iv b:=by
 unfold Iv;rw[List.map_append,List.sum_append]
theorem Zts(o:Option Ce):ZV (o.map sh)=ZV o:=by cases o<;>rfl
theorem Zj6(M:Wm):Iv (Z7 M)=Iv M.cells:=by
 unfold Iv Z7;rw[List.map_map];congr 1;exact List.map_congr_left λo _=>Zts o
theorem Us.of(h:Us M)(e:Z7 M'=Z7 M)(u:M'.used=M.used):Us M':=by
 unfold Us;rw[u,h,<- Zj6,<- Zj6,e]
theorem Us.notes(h:Us M)(l:Au):Us (aO M l).2:=by
 refine h.of (Z6 l M) ?_
 induction l generalizing M with
 | nil=>rfl
 | cons x l a=>exact(a (M:=(bA M x).2) (h.of (Xn M x) (Xp M x).2.2)).trans (Xp M x).2.2
theorem Us.cell(h:Us M){i:Int}{c c':Ce}(hc:cellAt M i=some c)(e:ZV (some c')=ZV (some c)):Us (setCell M i c'):=by
 show M.used=Iv (M.cells.set i.toNat (some c'));rw[Mj _ (bF.mp hc).2,e,h];omega
theorem Us.step{lb:Int}{lw:AE}{e:Ev}(h:Us M)(st:fZ lb lw M e M'):Us M':=by
 cases st with
 | begin _=>
  rw[nO];exact Us.notes (M:=fj M) h _
 | walk x g c _ _ _=>exact Us.notes (M:={ M with sw:={ M.sw with grey:=g,walks:=M.sw.walks+1 } }) h _
 | look N _ _ _ a=>
  subst a;rw[nO];exact Us.notes h _
 | cut=>exact h
 | lost=>exact h
 | pass=>exact h
 | back c _ _ hc _=>
  show M.used - (1+c.fl.length+c.bulk)=Iv (M.cells.set M.sw.at'.toNat none);rw[Mj _ (bF.mp hc).2,h];show _=_ - (1+c.fl.length+c.bulk)+0;omega
 | fin=>exact h
 | again=>exact h
end
section
variable {M M':Wm}{w0:Int}
theorem Zng(l:List (Option Ce))(c:Ce):Iv (jB l c)=Iv l+ZV (some c):=by
 unfold jB;split
 ·rename_i h
  rw[Mj _ (Zg7 h)];show Iv l - 0+_=_;omega
 ·rw[Znh];congr 1;show ZV (some c)+0=_;omega
theorem Us.deed(h:Us M){d:iZ}(hd:∀a s many bulk,d=.make a s many bulk->0<=many){e:Ev}(b:kJ M d=.ok (e,M')):Us M':=by
 cases d with
 | make a s many bulk=>
  have hm:=hd a s many bulk rfl;simp only[kJ]at b;split at b
  ·cases b;show M.used+(1+many+bulk)=Iv (jB M.cells _);rw[Zng,h];show Iv M.cells+(1+many+bulk)=Iv M.cells+(1+(List.replicate many.toNat (none:AA)).length+bulk);rw[List.length_replicate];omega
  ·cases b
 | put a t f s=>
  simp only[kJ]at b;split at b
  ·cases b
  ·split at b
   ·cases b
   ·rename_i x _ c hc
    split at b
    ·cases b
    ·cases b;refine Us.notes (Us.cell h hc ?_) _;show 1+((c.fl.set f _).length:Int)+c.bulk=_;rw[List.length_set];rfl
 | give a s g t=>
  simp only[kJ]at b;cases b;exact Us.notes (M:=setSlot M g t (aV M a s)) h _
 | write a t load=>
  simp only[kJ]at b;split at b
  ·cases b
  ·split at b
   ·cases b
   ·rename_i x _ c hc
    cases b;exact Us.cell h hc rfl
 | get a s t f=>simp only[kJ]at b;(repeat' split at b)<;>first | (cases b;done) | (cases b;exact h)
 | copy a s t=>simp only[kJ]at b;cases b;exact h
 | drop a s=>simp only[kJ]at b;cases b;exact h
 | read a t=>simp only[kJ]at b;(repeat' split at b)<;>first | (cases b;done) | (cases b;exact h)
 | name a t word=>simp only[kJ]at b;(repeat' split at b)<;>first | (cases b;done) | (cases b;exact h)
 | seek a s word=>simp only[kJ]at b;(repeat' split at b)<;>first | (cases b;done) | (cases b;exact h) | (cases b;exact Us.notes (M:=setSlot M a s _) h _)
theorem Znf(M:Wm):Iv M.cells=((nG M).map λx=>1+(x.fs.length:Int)+x.bulk).sum:=by
 have b:∀(l:List (Option Ce)) (k:Nat),Iv l=(((List.range l.length).filterMap λ(i:Nat)=>((l[i]?).join).map λc=>(((k+i:Nat):Int),c)).map λt:Int×Ce=>1+(t.2.fl.length:Int)+t.2.bulk).sum:=by
  intro l
  induction l with
  | nil=>intro k;rfl
  | cons a l d=>
   intro k;rw[List.length_cons,List.range_succ_eq_map,List.filterMap_cons,List.filterMap_map];have e:((λ(i:Nat)=>(((a::l)[i]?).join).map λc=>(((k+i:Nat):Int),c)) ∘ Nat.succ)=λ(i:Nat)=>((l[i]?).join).map λc=>(((k+1+i:Nat):Int),c):=by
    funext i
    show((l[i]?).join).map (λc=>(((k+(i+1):Nat):Int),c))=_;rw[show k+(i+1)=k+1+i by omega]
   rw[e];cases a with
   | none=>
    show 0+Iv l=_;rw[d dG];show 0+_=_;rw[Int.zero_add];rfl
   | some c=>
    show 1+(c.fl.length:Int)+c.bulk+Iv l=_;rw[d dG];rfl
 rw[b M.cells 0];unfold nG gM;rw[List.map_map];congr 1;have f:(λ(i:Nat)=>((M.cells[i]?).join).map λc=>(((0+i:Nat):Int),c))=λ(i:Nat)=>((M.cells[i]?).join).map λc=>((i:Int),c):=by
  funext i
  rw[Nat.zero_add]
 rw[f];refine List.map_congr_left λt _=>?_;show _=1+((t.2.fl.map (mU M)).length:Int)+t.2.bulk;rw[aU]
end
section
variable {M N:Wm}{acc:AE}
theorem Zac{i:Int}{c:Ce}(h:cellAt M i=some c):fW M i=true↔c.tone≠M.sw.sense:=by
 unfold fW;rw[h];exact decide_eq_true_iff
def unl(lo:Int)(h:Nat):Nat:=(List.range h).countP λj=>decide (lo / 2 ^ j % 2≠1)
theorem countP_le(p q:Nat->Bool)(a:∀j,p j=true->q j=true)(n:Nat):(List.range n).countP p<=(List.range n).countP q:=List.countP_mono_left λj _ h=>a j h
theorem HH(p q:Nat->Bool)(b:∀j,p j=true->q j=true):∀(n a:Nat),a<n->q a=true->p a=false->(List.range n).countP p<(List.range n).countP q
 | 0,_,h,_,_=>absurd h (Nat.not_lt_zero _)
 | n+1,a,h,hq,hp=>by
  rw[List.range_succ,List.countP_append,List.countP_append,List.countP_singleton,List.countP_singleton]
  by_cases e:a=n
  ·subst e;rw[hp,hq];have:=countP_le p q b a;simp;omega
  ·have c:=HH p q b n a δ hq hp;have:(if p n=true then 1 else 0)<=(if q n=true then 1 else 0):=by
    by_cases z:p n=true
    ·rw[if_pos z,if_pos (b n z)];exact Nat.le_refl _
    ·rw[if_neg z];exact Nat.zero_le _
   omega
theorem NL.cell(n:NL M N acc){i:Int}{d:Ce}(h:cellAt N i=some d):∃c,cellAt M i=some c/\d=if i∈acc then { c with tone:=M.sw.sense }else c:=by
 rw[n.at_ i]at h;split at h
 ·rename_i z
  obtain⟨c,hc,e⟩:=Option.map_eq_some_iff.mp h;exact⟨c,hc,by rw[if_pos z];exact e.symm⟩
 ·rename_i z
  exact⟨d,h,by rw[if_neg z]⟩
theorem NL.pale(n:NL M N acc){i:Int}(hp:fW N i=true):fW M i=true/\i∉acc:=by
 cases hd:cellAt N i with
 | none=>unfold fW at hp;rw[hd]at hp;cases hp
 | some d=>
  have h1:=(Zac hd).mp hp;obtain⟨c,hc,e⟩:=n.cell hd;have se:N.sw.sense=M.sw.sense:=by rw[n.sw]
  rw[se]at h1
  by_cases z:i∈acc
  ·rw[if_pos z]at e;rw[e]at h1;exact absurd rfl h1
  ·rw[if_neg z]at e;rw[e]at h1;exact⟨(Zac hc).mpr h1,z⟩
theorem Qg(M:Wm):0<=bh M:=by
 unfold bh p6;split
 ·exact Int.le_refl _
 ·split
  ·rcases Fe M.sw.looked M.hands.length 0 with ⟨h,_⟩ | ⟨k,_,_,h,_⟩
   ·rw[h];exact Int.le_refl _
   ·rw[h];exact Int.le_of_lt (Int.pow_pos ε)
  ·have:(0:Int)<2 ^ M.hands.length:=Int.pow_pos ε;omega
end
def yM(M:Wm):Nat:=(List.range M.cells.length).countP λj:Nat=>fW M (j:Int)
def lkN(M:Wm):Nat:=if M.w=1 then unl M.sw.looked M.hands.length else 0
def rm(M:Wm):Nat:=if M.sw.phase=("walk":Str)then 2 * yM M+M.sw.grey.length+lkN M+M.cells.length+2 else if M.sw.phase=("give":Str)then(M.sw.stop - M.sw.at').toNat+1 else 0
structure Lw(M:Wm):Prop where
 lz:0<=M.sw.looked
 ww:M.w=0\/M.w=1\/M.w=2
 sp:M.sw.stop<=(M.cells.length:Int)
theorem Zgi(n:Nat):∀(acc:AE) (p:Nat->Bool),acc.Nodup->(∀x∈acc,∃j:Nat,j<n/\x=(j:Int)/\p j=true)->(List.range n).countP (λj=>p j && !(decide ((j:Int)∈acc)))+acc.length<=(List.range n).countP p
 | [],p,_,_=>by
  have e:(λj:Nat=>p j && !(decide ((j:Int)∈([]:AE))))=p:=by funext j;simp
  rw[e];exact Nat.le_refl _
 | x::acc,p,nd,h=>by
  obtain⟨a,l0,rfl,f⟩:=h x ζ;obtain⟨nx,b⟩:=List.nodup_cons.mp nd;have lt:=HH (λj=>p j && !(decide (j=a))) p (λj c=>by simp at c;exact c.1) n a l0 f ζ;have g:=Zgi n acc (λj=>p j && !(decide (j=a))) b λy hy=>by
   obtain⟨j,l,e,d⟩:=h y (by simp[hy]);refine⟨j,l,e,?_⟩;have:j≠a:=λz=>nx (by rw[<- z,<- e];exact hy);simp[d,this]
  have e:(λj:Nat=>p j && !(decide ((j:Int)∈(a:Int)::acc)))=λj=>(p j && !(decide (j=a))) && !(decide ((j:Int)∈acc)):=by
   funext j
   by_cases z:j=a
   ·simp[z]
   ·have:(j:Int)≠(a:Int):=δ
    simp[z,this]
  rw[e,List.length_cons];omega
section
variable {M N:Wm}{lb:Int}{lw:AE}{e:Ev}{acc:AE}
theorem NL.cnt(n:NL M N acc)(nd:acc.Nodup)(hp:∀i∈acc,fW M i=true):yM N+acc.length<=yM M/\N.cells.length=M.cells.length:=by
 have cl:N.cells.length=M.cells.length:=by have:=congrArg List.length n.nt.ce;rw[aU,aU]at this;exact this
 refine⟨?_,cl⟩;have h:=Zgi M.cells.length acc (λj:Nat=>fW M (j:Int)) nd λx hx=>by
  have a:=hp x hx;unfold fW at a;cases hc:cellAt M x with
  | none=>rw[hc]at a;cases a
  | some c=>
   have lt:=HJ hc;exact⟨x.toNat,δ,δ,by rw[Int.toNat_of_nonneg lt.1];exact hp x hx⟩
 unfold yM;rw[cl];refine Nat.le_trans (Nat.add_le_add_right ?_ _) h;refine List.countP_mono_left λj _ b=>?_;obtain⟨h1,h2⟩:=n.pale b;show(fW M (j:Int) && !(decide ((j:Int)∈acc)))=true;rw[h1];simp[h2]
theorem nts(ph:M.sw.phase=("walk":Str))(l:Au):∃acc,NL M (aO M l).2 acc/\acc.Nodup/\(∀i∈acc,fW M i=true)/\(aO M l).1.length=acc.length:=by
 obtain⟨h1,h2⟩:=yF ph l [] ζ ζ;have h1:(aO M l).2=_:=h1;have h2:(aO M l).1=_:=h2;obtain⟨o1,o2⟩:=X5 (M:=M) l [] ζ ζ;refine⟨ntP M l [],?_,o1,o2,?_⟩
 ·have:=Zao ph _ (ntP M l []) rfl o1 o2;rw[<- h1]at this;exact this
 ·rw[h2,aU]
theorem NL.rm(n:NL M N acc)(nd:acc.Nodup)(hp:∀i∈acc,fW M i=true):2 * yM N+N.sw.grey.length+acc.length<=2 * yM M+M.sw.grey.length/\N.cells.length=M.cells.length/\N.w=M.w/\N.hands=M.hands/\N.sw.phase=M.sw.phase/\N.sw.looked=M.sw.looked:=by
 obtain⟨h1,h2⟩:=n.cnt nd hp;refine⟨?_,h2,n.nt.ww,n.nt.hd,by rw[n.sw],by rw[n.sw]⟩;rw[n.sw];show _+(M.sw.grey++acc).length+_<=_;rw[List.length_append];omega
theorem Zfl(l:Lw M)(a0:0<=M.sw.at')(C:M.sw.phase≠("rest":Str))(nl:M.sw.phase≠("lost":Str))(h:fZ lb lw M e N):rm N<rm M:=by
 cases h with
 | begin ph=>exact absurd ph C
 | again ph=>exact absurd ph nl
 | walk x g c ph hg hc=>
  obtain⟨acc,n,nd,hp,_⟩:=nts (M:={ M with sw:={ M.sw with grey:=g,walks:=M.sw.walks+1 } }) ph c.fl;obtain⟨o,f,k,d,r,m⟩:=n.rm nd hp;unfold rm;rw[if_pos (r.trans ph),if_pos ph];unfold lkN;rw[f,k,d,m,hg];have o:_<=2 * yM M+g.length:=o;show _+(if M.w=1 then unl M.sw.looked M.hands.length else 0)+M.cells.length+2<2 * yM M+(x::g).length+(if M.w=1 then unl M.sw.looked M.hands.length else 0)+M.cells.length+2;rw[List.length_cons];omega
 | look H ph hg F D=>
  subst D;rw[nO];obtain⟨acc,n,nd,hp,hl⟩:=nts (M:=M) ph ap;obtain⟨o,f,k,d,r,m⟩:=n.rm nd hp;have a:bh M=0\/(M.w=2/\(aO M ap).1=[])->False:=λz=>F (by unfold jW;rw[nO];exact z);generalize aO M ap=P at n o f k d r m hl a ⊢;obtain⟨ns,N⟩:=P;unfold rm;rw[if_pos ph,if_pos (show N.sw.phase=("walk":Str)from r.trans ph)];unfold lkN;show 2 * yM N+N.sw.grey.length+(if N.w=1 then unl (if M.w=2 then N.sw.looked else Builtin.bitOr N.sw.looked bf) N.hands.length else 0)+N.cells.length+2<_;have f:N.cells.length=M.cells.length:=f;have k:N.w=M.w:=k;have d:N.hands=M.hands:=d;have m:N.sw.looked=M.sw.looked:=m;have o:2 * yM N+N.sw.grey.length+acc.length<=2 * yM M+M.sw.grey.length:=o;rw[f,k,d,m];rcases l.ww with w | w | w
  ·exact absurd (.inl (by unfold bh p6;rw[w];rfl)) a
  ·rw[if_pos w,if_pos w,if_neg δ];have t:bh M=lsE M.sw.looked 0 M.hands.length:=by unfold bh p6;rw[w];rfl
   rcases Fe M.sw.looked M.hands.length 0 with ⟨h,_⟩ | ⟨b,_,hb,h,A⟩
   ·exact absurd (.inl (t.trans h)) a
   ·have lt:unl (Builtin.bitOr M.sw.looked bf) M.hands.length<unl M.sw.looked M.hands.length:=by
     unfold unl;refine HH _ _ (λj p=>?_) _ b δ ?_ ?_
     ·have p:=of_decide_eq_true p;rw[ne_eq,Zex l.lz (Qg M)]at p;exact decide_eq_true λy=>p (.inl y)
     ·exact decide_eq_true δ
     ·refine decide_eq_false λy=>y ?_;rw[Zex l.lz (Qg M),t,h];exact .inr ((Zny b b).mpr rfl)
    omega
  ·rw[if_neg δ,if_neg δ];have:acc.length≠0:=λz=>a (.inr ⟨w,List.eq_nil_of_length_eq_zero (by show ns.length=0;exact hl.trans z)⟩);omega
 | cut q E ph hg cd u s=>
  unfold rm;rw[if_pos ph,if_neg (show ¬ ("give":Str)="walk" by decide),if_pos (show("give":Str)="give" from rfl)];show((M.cells.length:Int) - 0).toNat+1<_;omega
 | lost q E i x c v ph hg cd u hx s hc B=>
  unfold rm;rw[if_pos ph,if_neg (show ¬ ("lost":Str)="walk" by decide),if_neg (show ¬ ("lost":Str)="give" by decide)];omega
 | pass ph lt hp=>
  unfold rm;rw[if_neg (show ¬ M.sw.phase=("walk":Str) by rw[ph];decide),if_neg (show ¬ M.sw.phase=("walk":Str) by rw[ph];decide),if_pos ph,if_pos (show M.sw.phase=("give":Str)from ph)];show(M.sw.stop - (M.sw.at'+1)).toNat+1<(M.sw.stop - M.sw.at').toNat+1;omega
 | back c ph lt hc B=>
  unfold rm;rw[if_neg (show ¬ M.sw.phase=("walk":Str) by rw[ph];decide),if_neg (show ¬ M.sw.phase=("walk":Str) by rw[ph];decide),if_pos ph,if_pos (show M.sw.phase=("give":Str)from ph)];show(M.sw.stop - (M.sw.at'+1)).toNat+1<(M.sw.stop - M.sw.at').toNat+1;omega
 | fin ph lt=>
  unfold rm;rw[if_neg (show ¬ ("rest":Str)="walk" by decide),if_neg (show ¬ ("rest":Str)="give" by decide),if_neg (show ¬ M.sw.phase=("walk":Str) by rw[ph];decide),if_pos ph];omega
theorem Lw.step(l:Lw M)(h:fZ lb lw M e N):Lw N:=by
 cases h with
 | begin ph=>
  rw[nO];obtain⟨acc,n,nd,hp,_⟩:=nts (M:=fj M) rfl (yN bt M.hands 0);obtain⟨_,a,b,_,_,d⟩:=n.rm nd hp;refine⟨?_,by rw[b];exact l.ww,by rw[a,n.sw];exact l.sp⟩;rw[d];show 0<=dH M.w M.hands.length;unfold dH;split
  ·have:(0:Int)<2 ^ M.hands.length:=Int.pow_pos ε;omega
  ·exact Int.le_refl _
 | walk x g c ph hg hc=>
  obtain⟨acc,n,nd,hp,_⟩:=nts (M:={ M with sw:={ M.sw with grey:=g,walks:=M.sw.walks+1 } }) ph c.fl;obtain⟨_,a,b,_,_,d⟩:=n.rm nd hp;exact⟨by rw[d];exact l.lz,by rw[b];exact l.ww,by rw[a,n.sw];exact l.sp⟩
 | look p ph hg r m=>
  subst m;rw[nO];obtain⟨acc,n,nd,hp,hl⟩:=nts (M:=M) ph ap;obtain⟨_,a,b,_,_,d⟩:=n.rm nd hp;refine⟨?_,by show(aO M ap).2.w=0\/_;rw[b];exact l.ww,by show(aO M ap).2.sw.stop<=((aO M ap).2.cells.length:Int);rw[a,n.sw];exact l.sp⟩;show 0<=if M.w=2 then(aO M ap).2.sw.looked else Builtin.bitOr (aO M ap).2.sw.looked bf
  rw[d];split
  ·exact l.lz
  ·exact WL l.lz (Qg M)
 | cut q o ph hg cd j f=>exact⟨l.lz,l.ww,Int.le_refl _⟩
 | lost q o i x c v ph hg cd j hx f hc k=>exact⟨l.lz,l.ww,Int.le_refl _⟩
 | pass ph lt hp=>exact⟨l.lz,l.ww,l.sp⟩
 | back c ph lt hc k=>exact⟨l.lz,l.ww,by show M.sw.stop<=((M.cells.set _ _).length:Int);rw[List.length_set];exact l.sp⟩
 | fin ph lt=>exact⟨l.lz,l.ww,l.sp⟩
 | again ph=>exact l
end
section
variable {M N M':Wm}{w0:Int}{es:List Ev}
theorem Zo3(M:Wm):yM M<=(nG M).length:=by
 unfold yM;rw[yr];unfold gM;rw[List.countP_eq_length_filter];have b:∀l:List Nat,(l.filter λj:Nat=>fW M (j:Int)).length<=(l.filterMap λ(i:Nat)=>((M.cells[i]?).join).map λc=>((i:Int),c)).length:=by
  intro l
  induction l with
  | nil=>exact Nat.le_refl _
  | cons a l d=>
   rw[List.filter_cons,List.filterMap_cons];cases h:(M.cells[a]?).join with
   | none=>
    have e:fW M (a:Int)=false:=by
     unfold fW;cases h2:cellAt M (a:Int)with
     | none=>rfl
     | some c=>rw[jR.mpr h2]at h;cases h
    rw[e];exact d
   | some c=>
    show _<=(((a:Int),c)::_).length;split
    ·rw[List.length_cons,List.length_cons];omega
    ·rw[List.length_cons];omega
 exact b _
end
section
variable {M M1 N M':Wm}{w0:Int}{es:List Ev}
theorem Ztu(x:Int)(n:Nat):unl x n<=n:=by
 unfold unl;exact Nat.le_trans List.countP_le_length (by rw[List.length_range];exact Nat.le_refl _)
theorem Zn0{e:Ev}{lb:Int}{lw:AE}(ph:M.sw.phase="rest")(st:fZ lb lw M e M1):rm M1<=2 * (nG M).length+M.hands.length+M.cells.length+2:=by
 cases st with
 | begin _=>
  obtain⟨g,a⟩:=(Bb bt M.hands 0 (fj M)).sw;have b:(eO bt M.hands 0 (fj M)).2.sw.phase="walk":=by rw[a];rfl
  unfold rm;rw[if_pos b];have W:=Wt.nh bt M.hands 0 (fj M);have hk:lkN (eO bt M.hands 0 (fj M)).2<=M.hands.length:=by
   unfold lkN;split
   ·rw[W.hd];exact Ztu _ _
   ·exact Nat.zero_le _
  rw[nO]at hk ⊢;obtain⟨c,n1,n2,n3,_⟩:=nts (M:=fj M) rfl (yN bt M.hands 0);obtain⟨f,d⟩:=n1.rm n2 n3;have l:2 * yM (fj M)+(fj M).sw.grey.length=2 * yM (fj M):=rfl;have k:yM (fj M)<=(nG (fj M)).length:=Zo3 _;have i:(nG (fj M)).length=(nG M).length:=by rw[yr,yr];rfl
  have j:(fj M).cells.length=M.cells.length:=rfl;omega
 | walk _ _ _ h=>exact absurd aI ε
 | look _ h=>exact absurd aI ε
 | cut _ _ h=>exact absurd aI ε
 | lost _ _ _ _ _ _ h=>exact absurd aI ε
 | pass h=>exact absurd aI ε
 | back _ h=>exact absurd aI ε
 | fin h=>exact absurd aI ε
 | again h=>exact absurd aI ε
end
section
variable {M M' M2 N:Wm}{e e2:Ev}{a c:Int}{b d:AE}
theorem Nf(n:Nl M)(h:fZ a b M e M')(h2:fZ c d M e2 M2):e=e2/\(e.word≠("lost":Str)->M'=M2):=by
 have k:∀{p q:Str},M.sw.phase=p->M.sw.phase=q->p≠q->False:=λh1 h2 U=>U (h1.symm.trans h2);have r:¬("rest":Str)="walk":=ε
 have D:¬("rest":Str)="give":=ε
 have m:¬("walk":Str)="give":=ε
 cases h with
 | begin ph=>
  cases h2 with
  | begin=>exact⟨rfl,λ_=>rfl⟩
  | walk _ _ _ f=>exact(k ph f r).elim
  | look _ f=>exact(k ph f r).elim
  | cut _ _ f=>exact(k ph f r).elim
  | lost _ _ _ _ _ _ f=>exact(k ph f r).elim
  | pass f=>exact(k ph f D).elim
  | back _ f=>exact(k ph f D).elim
  | fin f=>exact(k ph f D).elim
  | again f=>exact absurd f n.1
 | walk x g ce ph hg hc=>
  cases h2 with
  | begin f=>exact(k f ph r).elim
  | walk F O s f j l=>
   rw[hg]at j;cases j;rw[hc]at l;cases l;exact⟨rfl,λ_=>rfl⟩
  | look _ f j=>rw[hg]at j;cases j
  | cut _ _ f j=>rw[hg]at j;cases j
  | lost _ _ _ _ _ _ f j=>rw[hg]at j;cases j
  | pass f=>exact(k ph f m).elim
  | back _ f=>exact(k ph f m).elim
  | fin f=>exact(k ph f m).elim
  | again f=>exact absurd f n.1
 | look N ph hg P S=>
  cases h2 with
  | begin f=>exact(k f ph r).elim
  | walk F O s f j l=>rw[hg]at j;cases j
  | look Q f j A C=>subst S C;exact⟨rfl,λ_=>rfl⟩
  | cut _ _ f j cd=>exact absurd cd P
  | lost _ _ _ _ _ _ f j cd=>exact absurd cd P
  | pass f=>exact(k ph f m).elim
  | back _ f=>exact(k ph f m).elim
  | fin f=>exact(k ph f m).elim
  | again f=>exact absurd f n.1
 | cut q T ph hg cd K B=>
  cases h2 with
  | begin f=>exact(k f ph r).elim
  | walk F O s f j l=>rw[hg]at j;cases j
  | look Q f j A C=>exact absurd cd A
  | cut=>exact⟨rfl,λ_=>rfl⟩
  | lost R I i x ce v f j J u hx hn hc E=>
   rw[<- Y9 K u]at hx;exact absurd (B x (List.mem_of_getElem? hx) ce hc) E
  | pass f=>exact(k ph f m).elim
  | back _ f=>exact(k ph f m).elim
  | fin f=>exact(k ph f m).elim
  | again f=>exact absurd f n.1
 | lost q T i x ce v ph hg cd K hx B hc E=>
  cases h2 with
  | begin f=>exact(k f ph r).elim
  | walk F O s f j l=>rw[hg]at j;cases j
  | look Q f j A C=>exact absurd cd A
  | cut R I f j J u w=>
   rw[Y9 K u]at hx;exact absurd (w x (List.mem_of_getElem? hx) ce hc) E
  | lost R I L F s V f j J u y w l t=>
   rw[<- Y9 K u]at y w;have hi:i=L:=by
    rcases Nat.lt_trichotomy i L with z | z | z
    ·exact absurd (w i x ce z hx hc) E
    ·exact z
    ·exact absurd (B L F s z y l) t
   subst hi;rw[hx]at y;cases y;rw[hc]at l;cases l;exact⟨rfl,λz=>absurd rfl z⟩
  | pass f=>exact(k ph f m).elim
  | back _ f=>exact(k ph f m).elim
  | fin f=>exact(k ph f m).elim
  | again f=>exact absurd f n.1
 | pass ph lt hp=>
  cases h2 with
  | begin f=>exact(k f ph D).elim
  | walk _ _ _ f=>exact(k f ph m).elim
  | look _ f=>exact(k f ph m).elim
  | cut _ _ f=>exact(k f ph m).elim
  | lost _ _ _ _ _ _ f=>exact(k f ph m).elim
  | pass=>exact⟨rfl,λ_=>rfl⟩
  | back ce f o l t=>exact absurd (hp ce l) t
  | fin f o=>exact absurd lt o
  | again f=>exact absurd f n.1
 | back ce ph lt hc E=>
  cases h2 with
  | begin f=>exact(k f ph D).elim
  | walk _ _ _ f=>exact(k f ph m).elim
  | look _ f=>exact(k f ph m).elim
  | cut _ _ f=>exact(k f ph m).elim
  | lost _ _ _ _ _ _ f=>exact(k f ph m).elim
  | pass f o H=>exact absurd (H ce hc) E
  | back s f o l t=>rw[hc]at l;cases l;exact⟨rfl,λ_=>rfl⟩
  | fin f o=>exact absurd lt o
  | again f=>exact absurd f n.1
 | fin ph lt=>
  cases h2 with
  | begin f=>exact(k f ph D).elim
  | walk _ _ _ f=>exact(k f ph m).elim
  | look _ f=>exact(k f ph m).elim
  | cut _ _ f=>exact(k f ph m).elim
  | lost _ _ _ _ _ _ f=>exact(k f ph m).elim
  | pass f o H=>exact absurd o lt
  | back s f o l t=>exact absurd o lt
  | fin=>exact⟨rfl,λ_=>rfl⟩
  | again f=>exact absurd f n.1
 | again ph=>exact absurd ph n.1
end
section
variable {M M1 N M':Wm}{w0:Int}{es:List Ev}
theorem Zr7(r:Rn M es M'):Nl M->M'.sw.phase="rest"->∀{a M2},Rn M a M2->es=a/\M'=M2:=by
 induction r with
 | done h=>
  intro n ph a M2 b;cases b with
  | done _=>exact⟨rfl,rfl⟩
  | go h1 h2 _ _=>exact absurd h (λz=>z.elim h1 h2)
 | @go M M1 M' o lw e es h1 h2 st rn k=>
  intro n ph a M2 b;cases b with
  | done h=>exact absurd h (λz=>z.elim h1 h2)
  | @go _ s _ m l q j t u c d=>
   obtain⟨rfl,i⟩:=Nf n st c;rcases n.step st with ⟨_,f⟩ | ⟨nw,n1⟩
   ·cases rn with
    | done _=>exact absurd (f.symm.trans ph) ε
    | go p g _ _=>exact absurd f g
   ·cases i nw;obtain⟨rfl,rfl⟩:=k n1 ph d;exact⟨rfl,rfl⟩
inductive Sn:Wm->List Ev->Wm->Prop
 | nil (M:Wm):Sn M [] M
 | cons {M M1 M':Wm}{lb:Int}{lw:AE}{e:Ev}{es:List Ev}:M.sw.phase≠("lost":Str)->fZ lb lw M e M1->Sn M1 es M'->Sn M (e::es) M'
end
def EvT(H:Hp)(T:Tg)(s:Nat)(p a:AI)(e:Ev):Prop:=∃l i,e.thing=some i/\H a=some (.tup [.str e.word,.int i,.ref l])/\H l=some (.lst (e.notes.map V.int))/\TgO s (T a)/\TgO s (T l)/\l≠p
theorem Nb{M a:Wm}{lb:Int}{lw:AE}{e:Ev}(r:fZ lb lw M e a):∃i,e.thing=some i:=by cases r<;>exact⟨_,rfl⟩
theorem EvT.mv{H H':Hp}{T T':Tg}{s:Nat}{p a:AI}{e:Ev}(h:EvT H T s p a e)(b:s≠0)(st:dZ s H H' T T'):EvT H' T' s p a e:=by
 obtain⟨l,i,h1,h2,c,h4,h5,d⟩:=h;exact⟨l,i,h1,st.kp _ _ h2 (h4.ne b),st.kp _ _ c (h5.ne b),by rw[st.tg _ _ h2];exact h4,by rw[st.tg _ _ c];exact h5,d⟩
theorem EvT.put{H:Hp}{T:Tg}{s:Nat}{p a:AI}{e:Ev}{xs c:List V}(h:EvT H T s p a e)(hp:H p=some (.lst xs)):EvT (upd H p (.lst c)) T s p a e:=by
 obtain⟨l,i,h1,h2,d,h4,h5,b⟩:=h;exact⟨l,i,h1,(aC λz=>by rw[z,hp]at h2;cases h2).trans h2,(aC b).trans d,h4,h5,b⟩
structure RoI(X:Cs)(M1:Wm)(hs:Bu)(k s:Nat)(wo p:AI)(H:Hp)(T:Tg)(e:Ev)(Hx:Hp)(es:List Ev)(as:AF)(N:Wm)(Tx:Tg)(Ax:Wa):Prop where
 st:dZ s H Hx T Tx
 j:WJ X Hx Tx s Ax N
 aw:Ax.wo=wo
 kw:KW N hs k
 lw:Lw N
 hp:Hx p=some (.lst (as.map V.ref))
 tp:(Tx p).1=s+1
 ev:Al (EvT Hx Tx s p) as (e::es)
 le:es.length+rm N<=rm M1
 go:∀es' M',Rn N es' M'->Rn M1 (es++es') M'
theorem RoI.turn{X:Cs}{M1:Wm}{hs:Bu}{k s:Nat}{wo p:AI}{H:Hp}{T:Tg}{e:Ev}{v:Hp}{q:List Ev}{c:AF}{N:Wm}{A:Tg}{K:Wa}(i:RoI X M1 hs k s wo p H T e v q c N A K)(J:s≠0)(B:H p=none)(h1:N.sw.phase≠("rest":Str))(h2:N.sw.phase≠("lost":Str))
  {g:Ev}{n:Wm} (r:fZ 0 [] N g n) {Hy:Hp}{Ty:Tg}{m:Wa}{a:AI} (st:dZ s v Hy A Ty) (I:WJ X Hy Ty s m n) (aw:m.wo=wo) (ev:EvN v Hy Ty s a g):
  Hy p=some (.lst (c.map V.ref))/\RoI X M1 hs k s wo p H T e (upd Hy p (.lst (c.map V.ref++[.ref a]))) (q++[g]) (c++[a]) n Ty m:=by
 have d:Hy p=some (.lst (c.map V.ref)):=st.kp _ _ i.hp (by rw[i.tp];omega);have f:(Ty p).1=s+1:=by rw[st.tg _ _ i.hp];exact i.tp
 have j:dZ (s+1) Hy (upd Hy p (.lst (c.map V.ref++[.ref a]))) Ty Ty:=dZ.upd st.wt d f;obtain⟨l,⟨fl,t1,t2⟩,w,F⟩:=ev;obtain⟨b,y⟩:=Nb r;rw[y]at w;have C:EvT Hy Ty s p a g:=⟨l,b,y,w,F,t2,t1,λz=>by rw[z,i.hp]at fl;cases fl⟩;have u:Al (EvT (upd Hy p (.lst (c.map V.ref++[.ref a]))) Ty s p) (c++[a]) ((e::q)++[g]):=((i.ev.mono λa x h=>h.mv J st).app C).mono λa x h=>h.put d;have t:dZ s H (upd Hy p (.lst (c.map V.ref++[.ref a]))) T Ty:=by
  have z:=i.st.trans st;exact⟨λb o hb E=>by rw[aC (aF hb B)];exact z.kp b o hb E,λb o hb=>by rw[aC (aF hb B)];exact z.al b o hb,z.tg,j.wt⟩
 have lt:=Zfl i.lw i.kw.a0 h1 h2 r;have le:=i.le;refine⟨d,t,I.other j δ δ,aw,i.kw.step r,i.lw.step r,by rw[aq,List.map_append];rfl,f,u,by rw[List.length_append];show _+1+_<=_;omega,λD M2 h=>?_⟩;rw[List.append_assoc];exact i.go _ _ (.go h1 h2 r h)
inductive RoQ(X:Cs)(wo:AI)(m:Int)(H:Hp)(Q:VK):Prop
 | mk (T s A M hs k) (_:WT H T) (_:s≠0) (_:WJ X H T s A M) (_:A.wo=wo) (_:KW M hs k) (_:HsB hs) (_:k<=800) (_:Lw M) (_:M.sw.phase=("rest":Str)) (_:((2 * (nG M).length+M.hands.length+M.cells.length+3:Nat):Int)<=m) (_:m<=100000) (_:∀e M1 es M' H' T' A' p as,fZ 0 [] M e M1->Rn M1 es M'->es.length<=100000->KW M' hs k->Lw M'->dZ s H H' T T'->WJ X H' T' s A' M'->A'.wo=wo->Al (EvT H' T' s p) as (e::es)->H' p=some (.lst (as.map V.ref))->H p=none->(T' p).1=s+1->Q (.ref p) H'):RoQ X wo m H Q
def Rq(X:Cs):Sp:=λvs H Q E=>∃wo m,vs=[.ref wo,.int m]/\RoQ X wo m H Q
section
theorem Ua{wo:AI}{m:Int}(D:lK K X)(q:RoQ X wo m H Q):zE K (cM X Zde) ξ [↑wo,some (.int m),none,none] H:=by
 obtain⟨T,s,A,M,hs,k,w,I,j,aw,kw,hb,hk,lw,ph,hm,hm2,q⟩:=q;unfold zE;apply⟨wo,rfl,T,s,A,M,0,[],w,I,j,aw,kw.ok hb δ,trivial,λy=>absurd (ph.symm.trans y) ε,λe M1 r O S A1 a B j1 aw1 ev _=>?_⟩;have rmb:=Zn0 ph r;obtain⟨l,⟨fl,t1,t2⟩,v1,v2⟩:=ev;obtain⟨b,eb⟩:=Nb r;rw[eb]at v1;apply⟨aR ζ,λp U=>?_⟩;have sm:=aK U (.lst [.ref a]);have c2:upd O p (.lst [.ref a]) p=some (.lst ([a].map V.ref)):=aq;have C:dZ s O (upd O p (.lst [.ref a])) S (fX S p (s+1,0)):=dZ.fresh B.wt U;have j2:=j1.other (dZ.fresh (s:=s+1) (v:=(s+1,0)) (o:=.lst [.ref a]) B.wt U) δ δ;have R:(fX S p (s+1,0) p).1=s+1:=by rw[eX]
 generalize upd O p (.lst [.ref a])=H2 at sm c2 C j2 ⊢;generalize fX S p (s+1,0)=T2 at C j2 R;have L:=dZ.free B U;have Y:EvT H2 T2 s p a e:=by
  have h0:EvT O S s p a e:=⟨l,b,eb,v1,v2,t2,t1,λz=>by rw[z,U]at v2;cases v2⟩;exact h0.mv I C
 have i0:RoI X M1 hs k s wo p H T e H2 [] [a] M1 T2 A1:=⟨B.trans C,j2,aw1,kw.step r,lw.step r,c2,R,.cons Y .nil,by show 0+_<=_;omega,λes' M' h=>h⟩;have fin:∀{u c f N D d},RoI X M1 hs k s wo p H T e u c f N D d->(N.sw.phase=("rest":Str)\/N.sw.phase=("lost":Str))->∀{Hy},aY u Hy->Q (.ref p) Hy:=λ{u c f N D d} i z {Hy} sm=>by
  have g:=i.go [] N (.done z);rw[List.append_nil]at g;have st:=dZ.same (s:=s) i.st.wt sm;exact q e M1 c N Hy D d p f r g (by have:=i.le;omega) i.kw i.lw (i.st.trans st) (i.j.same sm) i.aw (i.ev.mono λa x h=>h.mv I st) (sm _ _ i.hp) L i.tp
 obtain⟨W,em⟩:=toN (x:=m) δ;subst em;exists _,rfl,δ,δ;refine forR (λt F u=>∃c f N Ty d E,F=[↑wo,some (.int (W:Int)),↑p,E]/\c.length=t/\RoI X M1 hs k s wo p H T e u c f N Ty d) ⟨[],[a],M1,T2,A1,_,rfl,rfl,i0⟩ ?_ ?_
 ·rintro t F u ht ⟨c,f,N,Ty,d,E,rfl,et,i⟩;obtain⟨d1,ow⟩:=i.j.jb.ow;obtain⟨d2,os⟩:=i.j.js.os;rw[i.aw]at ow;apply aH ow D.cW D.P0 aZ ?_;apply aH os D.cS D.n2 eN ?_;apply⟨aR ζ,λtp J1=>?_⟩;generalize zz:upd u tp _=H3;obtain⟨s1,c1⟩:=nwO J1 zz;have P:=dZ.same (s:=s) i.st.wt s1;have J:RoI X M1 hs k s wo p H T e H3 c f N Ty d:=⟨i.st.trans P,i.j.same s1,i.aw,i.kw,i.lw,s1 _ _ i.hp,i.tp,i.ev.mono λa x h=>h.mv I P,i.le,i.go⟩;have on:N.sw.phase≠("rest":Str)->N.sw.phase≠("lost":Str)->mj (tBM K "list" oX Ω (aj (aQ (cM X Zde) [] E0 bc) aD)) ⟨λF u=>∃c f N Ty d E,F=[↑wo,some (.int (W:Int)),↑p,E]/\c.length=t+1/\RoI X M1 hs k s wo p H T e u c f N Ty d,Q,bH Ω ⟨n,Q,bk,ct⟩,λF u=>∃c f N Ty d E,F=[↑wo,some (.int (W:Int)),↑p,E]/\c.length=t+1/\RoI X M1 hs k s wo p H T e u c f N Ty d⟩ [↑wo,some (.int (W:Int)),↑p,some (.int (0+(t:Int)))] H3:=λh1 h2=>by
   exists .inl ⟨rfl,_,bU.of J.hp⟩;apply⟨wo,rfl,Ty,s,d,N,0,[],J.st.wt,I,J.j,i.aw,i.kw.ok hb δ,trivial,λy=>absurd y h2,λe' M' r' Hy Ty' Ay a' Z jy awy ev' _=>?_⟩;obtain⟨hpy,i4⟩:=J.turn I L h1 h2 r' Z jy awy ev';have la:=i.ev.length;rw[List.length_cons]at la;apply⟨p,_,_,rfl,rfl,hpy,by rw[aU,sizeLine_eq];omega,?_⟩;apply⟨c++[e'],_,M',Ty',Ay,_,rfl,by rw[List.length_append];show _+1=_;omega,i4⟩
  rcases i.kw.ph with ph | ph | ph | ph
  ·rw[ph];refine⟨tp,_,rfl,.inr (dB.of c1),rfl,rfl,?_⟩;refine⟨true,rfl,?_⟩;apply fin J (.inl ph) (λ_ _ h=>h)
  ·have g1:N.sw.phase≠("rest":Str):=by rw[ph];decide
   have g2:N.sw.phase≠("lost":Str):=by rw[ph];decide
   rw[ph];refine⟨tp,_,rfl,.inr (dB.of c1),rfl,rfl,?_⟩;refine⟨false,rfl,?_⟩;refine mQ ?_;exact on g1 g2
  ·have g1:N.sw.phase≠("rest":Str):=by rw[ph];decide
   have g2:N.sw.phase≠("lost":Str):=by rw[ph];decide
   rw[ph];refine⟨tp,_,rfl,.inr (dB.of c1),rfl,rfl,?_⟩;refine⟨false,rfl,?_⟩;refine mQ ?_;exact on g1 g2
  ·rw[ph];refine⟨tp,_,rfl,.inr (dB.of c1),rfl,rfl,?_⟩;refine⟨true,rfl,?_⟩;apply fin J (.inr ph) (λ_ _ h=>h)
 ·rintro F u ⟨c,f,N,Ty,d,E,rfl,et,i⟩;have:=i.le;omega
end
section
variable {K:aB}{H:Hp}{Q:VK}{α:Type}{P:AI->α->Prop}{l:AI}{ls:AF}{rows:List α}{caps:List Nat}{tc:TT}{te:TE}{σ:St}
theorem Zqb(ol:H l=some (.lst dO))(al:Al P ls rows)(hz:ls.length<=1000000)(p:α->Bool)(g:AI->α->V)
  (hc:∀r x,P r x->∀q:Bool->Hp->Prop,q (p x) H->tc (↑r::caps.map a3) H q)
  (j:∀r x,P r x->p x=true->∀q:VK,q (g r x) H->te (↑r::caps.map a3) H q)
  (q:∀a,H a=none->Q (.ref a) (upd H a (.lst (((ls.zip rows).filter λz=>p z.2).map λz=>g z.1 z.2)))):LCg (Itl K l) caps tc te σ H Q:=by
 have hl:=al.length;have lz:(ls.zip rows).length=ls.length:=by rw[List.length_zip];omega
 refine Yi (bU.of ol) (λi=>(ls.zip rows)[i]?.bind λz=>if p z.2=true then some (g z.1 z.2)else none) (by rw[aU];omega) (λi y hy=>?_) ?_
 ·rw[cz]at hy;obtain⟨r,hr,rfl⟩:=Option.map_eq_some_iff.mp hy;obtain⟨x,hx,b⟩:=al.getL hr;have f:(ls.zip rows)[i]? =some (r,x):=List.getElem?_zip_eq_some.mpr ⟨hr,hx⟩;rw[f];show(∀q:Bool->Hp->Prop,q (if p x=true then some (g r x)else none).isSome H->_)/\∀(y:V) (q:VK),(if p x=true then some (g r x)else none)=some y->_;cases e:p x with
  | true=>
   rw[if_pos rfl];exact⟨λq hq=>hc r x b q (by rw[e];exact hq),λy q hy hq=>j r x b e q (by cases hy;exact hq)⟩
  | false=>
   rw[if_neg ε];exact⟨λq hq=>hc r x b q (by rw[e];exact hq),λy q hy hq=>nomatch hy⟩
 ·rw[aU,<- lz,Mh];have e:(ls.zip rows).filterMap (λz=>if p z.2=true then some (g z.1 z.2)else none)=((ls.zip rows).filter λz=>p z.2).map λz=>g z.1 z.2:=by
   generalize ls.zip rows=d
   induction d with
   | nil=>rfl
   | cons a d c=>
    rw[List.filterMap_cons,List.filter_cons];cases h:p a.2 with
    | true=>rw[if_pos rfl,if_pos rfl,List.map_cons,c]
    | false=>rw[if_neg ε,if_neg ε,c]
  rw[e];exact q
theorem Yj(ol:H l=some (.lst dO))(al:Al P ls rows)(hz:ls.length<=1000000)(p:α->Bool)(f:α->Int)
  (hc:∀r x,P r x->∀q:Bool->Hp->Prop,q (p x) H->tc (↑r::caps.map a3) H q)
  (c:∀r x,P r x->p x=true->∀q:VK,q (.int (f x)) H->te (↑r::caps.map a3) H q)
  (q:∀a,H a=none->Q (.ref a) (upd H a (.lst (((rows.filter p).map f).map V.int)))):LCg (Itl K l) caps tc te σ H Q:=by
 refine Zqb ol al hz p (λ_ x=>.int (f x)) hc c ?_;have e:(((ls.zip rows).filter λz=>p z.2).map λz=>V.int (f z.2))=((rows.filter p).map f).map V.int:=by
  clear ol hz hc c q
  induction al with
  | nil=>rfl
  | @cons r x rs d _ _ b=>
   rw[List.zip_cons_cons];cases h:p x with
   | true=>rw[List.filter_cons_of_pos (p:=λz:AI×α=>p z.2) (a:=(r,x)) h,List.filter_cons_of_pos h,List.map_cons,List.map_cons,List.map_cons,b]
   | false=>rw[List.filter_cons_of_neg (p:=λz:AI×α=>p z.2) (a:=(r,x)) (by show ¬ p x=true;rw[h];decide),List.filter_cons_of_neg (by rw[h];decide),b]
 rw[e];exact q
theorem Zlk(ol:H l=some (.lst dO))(al:Al P ls rows)(hz:ls.length<=1000000)(p:α->Bool)
  (hc:∀r x,P r x->∀q:Bool->Hp->Prop,q (p x) H->tc (↑r::caps.map a3) H q)
  (d:∀r,∀q:VK,q (.ref r) H->te (↑r::caps.map a3) H q)
  (q:∀a b,H a=none->Al P b (rows.filter p)->Q (.ref a) (upd H a (.lst (b.map V.ref)))):LCg (Itl K l) caps tc te σ H Q:=by
 refine Zqb ol al hz p (λr _=>.ref r) hc (λr x _ _=>d r) ?_;obtain⟨b,e,c⟩:∃b:AF,(((ls.zip rows).filter λz=>p z.2).map λz=>V.ref z.1)=b.map V.ref/\Al P b (rows.filter p):=by
  clear ol hz hc d q
  induction al with
  | nil=>exact⟨[],rfl,.nil⟩
  | @cons r x rs i h _ f=>
   obtain⟨b,e,c⟩:=f;rw[List.zip_cons_cons];cases hp:p x with
   | true=>exact⟨r::b,by rw[List.filter_cons_of_pos (p:=λz:AI×α=>p z.2) (a:=(r,x)) hp,List.map_cons,List.map_cons,e],by rw[List.filter_cons_of_pos hp];exact .cons h c⟩
   | false=>exact⟨b,by rw[List.filter_cons_of_neg (p:=λz:AI×α=>p z.2) (a:=(r,x)) (by show ¬ p x=true;rw[hp];decide),e],by rw[List.filter_cons_of_neg (by rw[hp];decide)];exact c⟩
 rw[e];exact λa g=>q a b g c
end
theorem CtO.al{H:Hp}{l:AI}{a:List Tc}(h:CtO H l a):∃ls:AF,H l=some (.lst dO)/\Al (λr x=>∃f,Tc1 H r f x) ls a:=by
 obtain⟨ls,h1,h2,b⟩:=h;exact⟨ls,h1,WY h2 b⟩
theorem CtO.of{H:Hp}{l:AI}{a:List Tc}{ls:AF}(h1:H l=some (.lst dO))(h2:Al (λr x=>∃f,Tc1 H r f x) ls a):CtO H l a:=⟨ls,h1,h2.length,λj r x b c=>by
 obtain⟨y,e3,z⟩:=h2.getL b;rw[c]at e3;cases e3;exact z⟩
inductive NmQ(X:Cs)(wo lb lf:AI)(H:Hp)(Q:VK):Prop
 | mk (T s A M) (rows:List Tc) (fs:AE) (_:s≠0) (_:WJ X H T s A M) (_:A.wo=wo) (_:Zcc M) (_:(M.names.map (·.1)).Nodup) (_:rows.length<=1000) (_:CtO H lb rows) (_:H lf=some (.lst (fs.map V.int))) (_:(∀m∈M.names,ji M m.2.1 m.2.2=(decide (m.2.2∈fs) || decide (¬ m.2.2∈rows.map (·.b))))) (_:∀H',aY H H'->Q (.bl true) H'):NmQ X wo lb lf H Q
def Ru(X:Cs):Sp:=λvs H Q E=>∃wo lb a,vs=[.ref wo,.ref lb,.ref a]/\NmQ X wo lb a H Q
section
theorem Uc{wo lb D:AI}(L:lK K X)(q:NmQ X wo lb D H Q):rM K (Ig X) ξ [↑wo,↑lb,↑D,none,none,none,none,none,none] H:=by
 obtain⟨T,s,A,M,a,fs,hs0,j,rfl,ok,nd,Zqa,oc,of,hg,q⟩:=q;obtain⟨dw,ow⟩:=j.jb.ow;have om:=j.jn.om;have hnl:=ok.nl;obtain⟨ls,ol,al⟩:=oc.al;have hl:=al.length;unfold rM;apply uh ?_;exists _,rfl,⟨_,bU.of ol⟩;refine Yj ol al δ (λ_=>true) (λx=>x.b) (λr x _ q hq=>sE hq) (λr x ⟨f,z,_⟩ _ q hq=>?_) λF n3=>?_
 ·walk_at"c";apply⟨r,_,1,_,rfl,rfl,dB.of z,rfl,hq⟩
 have eb:(a.filter λ_=>true).map (λx:Tc=>x.b)=a.map (·.b):=by rw[List.filter_eq_self.mpr λ_ _=>rfl]
 rw[eb];generalize zz:upd H F _=H3;obtain⟨P,g3⟩:=nwO n3 zz;apply aH (P _ _ ow) L.cW L.nWn fV ?_;apply Zox (P _ _ om) λlk R=>?_;generalize zz:upd H3 lk _=H5;obtain⟨s5,g5⟩:=nwO R zz;have J:=P.trans s5;refine⟨lk,rfl,⟨_,bU.of g5⟩,forL ((qx M.names A.ns).map λp=>kV p.1) (λi C c=>∃o u w v g,C=[↑A.wo,↑lb,↑D,↑F,o,u,w,v,g]/\aY H5 c) ⟨_,_,_,_,_,rfl,λ_ _ h=>h⟩ (by rintro _ _ _ _ ⟨_,_,_,_,_,_,z⟩;exact bU.of (z _ _ g5)) ?_ ?_⟩
 ·rintro i y C c hi ⟨o,u,w,v,g,rfl,E⟩;rw[cz]at hi;obtain⟨kv,O,rfl⟩:=Option.map_eq_some_iff.mp hi;obtain⟨m,t,hm,rfl⟩:=Zro j.jn.nms O;have e:=J.trans E;have jx:=j.same e;have I:=List.mem_of_getElem? hm;have W:=Zt0 nd I;obtain⟨p,b,B,Y,g9,N⟩:∃p b B,rD M.names m.1=some (p,b)/\jA (qx M.names A.ns) (Sum.inr m.1)=↑B/\c B=some (.tup [.int p,.int b]):=by
   rcases Zl4 (z:=m.1) jx.jn.nms with ⟨z,_⟩ | ⟨p,b,B,z1,z2,z3⟩
   ·rw[W]at z;cases z
   ·exact⟨p,b,B,z1,z2,z3.1⟩
  rw[W]at Y;have em:m.2=(p,b):=Option.some.inj Y;have dg:yo c A.nm (.str m.1) (↑B):=by
   have:=yo.k (k:=Sum.inr m.1) (e _ _ om);rw[g9]at this;exact this
  have hg:=hg m I;rw[em]at hg;have hg:ji M p b=(decide (b∈fs) || decide (¬ b∈a.map (·.b))):=hg;have S:=e _ _ of;have U:=(s5.trans E) _ _ g3;rw[show kV (Sum.inr m.1:Int ⊕ Str)=V.str m.1 from rfl];have l:∀d:Bool,d=ji M p b->aM (bC (aQ (Ig X) [] E0 (aj (ak 0) (aj (ak 5) (aj (ak 6) aD)))) (aL 8))
    (cU fk bJ bW)
    ⟨λC c=>∃o u w v g,C=[↑A.wo,↑lb,↑D,↑F,o,u,w,v,g]/\aY H5 c,Q,bH (tC (.bl true)) ⟨n,Q,bk,ct⟩,λC c=>∃o u w v g,C=[↑A.wo,↑lb,↑D,↑F,o,u,w,v,g]/\aY H5 c⟩ [↑A.wo,↑lb,↑D,↑F,some (.str m.1),some (.int p),some (.int b),some (.bl d),g] c:=by
   intro d hd;exists _,_,_,rfl,T,s,A,M,jx.w0,rfl;rw[<- hd];have t1:(!decide (V.bl true=V.bl true))=false:=by rw[decide_eq_true rfl];rfl
   have t3:(!decide (V.bl false=V.bl true))=true:=by rw[decide_eq_false ai];rfl
   have t4:(!decide (V.bl false=V.bl false))=false:=by rw[decide_eq_true rfl];rfl
   cases d with
   | true=>
    ext;rw[t1];ext;rw[show(!decide (true=true))=false from rfl];apply⟨_,_,_,_,_,rfl,E⟩
   | false=>
    ext;rw[t3];ext;rw[t4];ext;rw[show(!decide (false=false))=false from rfl];apply⟨_,_,_,_,_,rfl,E⟩
  apply aH (e _ _ ow) L.cW L.nWn fV ?_;exists A.nm,_,rfl,dg;refine⟨B,_,rfl,dB.of N,rfl,_,_,rfl,?_⟩;exists _,_,rfl;exists rfl;exists D,_,rfl,.inl (bU.of S),rfl,pH _;rw[YM];cases Z:decide (b∈fs)with
  | true=>
   apply l true (by rw[hg,Z];rfl)
  | false=>
   ext;rw[if_neg (show ¬ (if false=true then !false else false)=true by decide)];exists F,_,rfl,.inl (bU.of U),rfl,pH _;rw[YM];refine Zv7 ?_;exact l _ (by rw[hg,Z,Bool.false_or,decide_not];rfl)
 ·rintro C c ⟨o,u,w,v,g,rfl,E⟩;apply q _ (J.trans E)
end
inductive TrQ(X:Cs)(wo:AI)(H:Hp)(Q:VK):Prop
 | mk (T s A M hs k) (_:WT H T) (_:s≠0) (_:WJ X H T s A M) (_:A.wo=wo) (_:KW M hs k) (_:HsB hs) (_:k<=900) (_:Lw M) (_:∀es M' H' T' A',Rn M es M'->KW M' hs k->Lw M'->dZ s H H' T T'->WJ X H' T' s A' M'->A'.wo=wo->Q (.int es.length) H'):TrQ X wo H Q
def Rm(X:Cs):Sp:=λvs H Q E=>∃wo,vs=[.ref wo]/\TrQ X wo H Q
section
theorem Zcm{wo:AI}(D:lK K X)(q:TrQ X wo H Q):NZ K (cM X Zde) ξ [↑wo,none] H:=by
 obtain⟨T,s,A,M,hs,k,wt,Y,j,rfl,kw,hb,hk,lw,q⟩:=q;unfold NZ;exists λU W v=>∃Ty u N,∃i:Nat,U=rm N/\W=[↑A.wo,some (.int i)]/\WT v Ty/\dZ s H v T Ty/\WJ X v Ty s u N/\u.wo=A.wo/\KW N hs k/\Lw N/\∃c:List Ev,c.length=i/\∀o d,Rn N o d->Rn M (c++o) d,⟨_,T,A,M,0,rfl,rfl,wt,dZ.refl wt,j,rfl,kw,lw,[],rfl,λo d h=>h⟩;rintro U W v ⟨Ty,u,N,i,rfl,rfl,I,R,E,aw,x,F,c,rfl,co⟩;obtain⟨d1,ow⟩:=E.jb.ow;obtain⟨d2,os⟩:=E.js.os;rw[aw]at ow;apply aH ow D.cW D.P0 aZ ?_;apply aH os D.cS D.n2 eN ?_;apply⟨aR ζ,λtp Z=>?_⟩;have L:=aK Z (.tup [V.str "rest",.str "lost"]);have f:=R.trans (dZ.same I L);have C:=E.same L;have c1:upd v tp (.tup [V.str "rest",.str "lost"]) tp=some (.tup [V.str "rest",.str "lost"]):=aq;generalize upd v tp (.tup [V.str "rest",.str "lost"])=S at L f C c1 ⊢;have B:(N.sw.phase=("rest":Str)\/N.sw.phase=("lost":Str))->Q (.int c.length) S:=λz=>q c N S Ty u (by have:=co [] N (.done z);rw[List.append_nil]at this;exact this) x F f C aw;have on:N.sw.phase≠("rest":Str)->N.sw.phase≠("lost":Str)->∀e d,fZ 0 [] N e d->KW d hs k/\Lw d/\rm d<rm N/\∃w:List Ev,w.length=c.length+1/\∀o p,Rn d o p->Rn M (w++o) p:=λa b e d r=>⟨x.step r,F.step r,Zfl F x.a0 a b r,c++[e],by rw[List.length_append];rfl,λo p h=>by rw[List.append_assoc];exact co _ _ (.go a b r h)⟩;have ok:=x.ok hb hk;rcases x.ph with ph | ph | ph | ph
 ·rw[ph];refine⟨tp,_,rfl,.inr (dB.of c1),rfl,rfl,?_⟩;refine⟨false,rfl,?_⟩;apply B (.inl ph)
 ·have a:N.sw.phase≠("rest":Str):=by rw[ph];decide
  have b:N.sw.phase≠("lost":Str):=by rw[ph];decide
  rw[ph];refine⟨tp,_,rfl,.inr (dB.of c1),rfl,rfl,?_⟩;refine⟨true,rfl,?_⟩;exists _,λ_ _ h=>h;apply⟨A.wo,rfl,Ty,s,u,N,0,[],f.wt,Y,C,aw,ok,trivial,λy=>absurd y b,λe d r Hy t m a' g O l ev lo=>?_⟩;obtain⟨o1,o2,P,J⟩:=on a b e d r;apply⟨rm d,P,t,m,d,c.length+1,rfl,rfl,g.wt,f.trans g,O,l,o1,o2,J⟩
 ·have a:N.sw.phase≠("rest":Str):=by rw[ph];decide
  have b:N.sw.phase≠("lost":Str):=by rw[ph];decide
  rw[ph];refine⟨tp,_,rfl,.inr (dB.of c1),rfl,rfl,?_⟩;refine⟨true,rfl,?_⟩;exists _,λ_ _ h=>h;apply⟨A.wo,rfl,Ty,s,u,N,0,[],f.wt,Y,C,aw,ok,trivial,λy=>absurd y b,λe d r Hy t m a' g O l ev lo=>?_⟩;obtain⟨o1,o2,P,J⟩:=on a b e d r;apply⟨rm d,P,t,m,d,c.length+1,rfl,rfl,g.wt,f.trans g,O,l,o1,o2,J⟩
 ·rw[ph];refine⟨tp,_,rfl,.inr (dB.of c1),rfl,rfl,?_⟩;refine⟨false,rfl,?_⟩;apply B (.inr ph)
end
theorem Zgh{M:Wm}{H H':Hp}{lc:AI}{rs:AF}(o1:H' lc=some (.lst (rs.map V.ref)))(hl:rs.length=(gM M).length)(hr:∀(j:Nat) r t,rs[j]? =some r->(gM M)[j]? =some t->∃f,TcO M H' (r,f) t/\H f=none/\H r=none)(nl:H lc=none):CtF H H' lc (nG M):=⟨rs,o1,by rw[hl];exact yr.symm,λi r x e a=>by
  unfold nG at a;rw[cz]at a;obtain⟨t,b,rfl⟩:=Option.map_eq_some_iff.mp a;obtain⟨fa,z,c,d⟩:=hr i r t e b;exact⟨fa,z,c,d⟩,nl⟩
def EvA(H:Hp)(a:AI)(e:Ev):Prop:=∃l i,e.thing=some i/\H a=some (.tup [.str e.word,.int i,.ref l])/\H l=some (.lst (e.notes.map V.int))
theorem EvA.same{H H':Hp}{a:AI}{e:Ev}(s:aY H H')(h:EvA H a e):EvA H' a e:=by
 obtain⟨l,i,h1,h2,b⟩:=h;exact⟨l,i,h1,s _ _ h2,s _ _ b⟩
theorem EvT.a{H:Hp}{T:Tg}{s:Nat}{p a:AI}{e:Ev}(h:EvT H T s p a e):EvA H a e:=by
 obtain⟨l,i,h1,h2,b,_⟩:=h;exact⟨l,i,h1,h2,b⟩
theorem Zn2{P:AI->Ev->Prop}{g:AF}{c:List Ev}(al:Al P g c)(h:∀a e,P a e->∃i,e.thing=some i):(c.filter λe=>decide (e.word=("back":Str))).map (λe=>e.thing.getD 0)=sH c:=by
 unfold sH
 induction al with
 | nil=>rfl
 | @cons a e g c p _ d=>
  obtain⟨i,hi⟩:=h _ _ p
  by_cases z:e.word=("back":Str)
  ·rw[List.filter_cons_of_pos (p:=λe:Ev=>decide (e.word=("back":Str))) (decide_eq_true z),List.map_cons,d,List.filterMap_cons_some (f:=λe:Ev=>if e.word=("back":Str)then e.thing else none) (b:=i) (by show(if _ then _ else _)=_;rw[if_pos z];exact hi),hi];rfl
  ·rw[List.filter_cons_of_neg (p:=λe:Ev=>decide (e.word=("back":Str))) (by rw[decide_eq_false z];decide),d,List.filterMap_cons_none (f:=λe:Ev=>if e.word=("back":Str)then e.thing else none) (if_neg z)]
def stL(a:List Tc)(fs:AE):List Tc:=a.filter λx=>!decide (x.b∈fs)
inductive AnQ(X:Cs)(wo lb le lf:AI)(H:Hp)(Q:VK):Prop
 | mk (T s A M w0) (rows:List Tc) (fs:AE) (es:List Ev) (as:AF) (_:s≠0) (_:WJ X H T s A M) (_:A.wo=wo) (_:Zcc M) (_:TB w0 M) (_:(M.names.map (·.1)).Nodup) (_:rows.length<=1000) (_:CtO H lb rows) (_:H lf=some (.lst (fs.map V.int))) (_:fs.length<=1000) (_:H le=some (.lst (as.map V.ref))) (_:Al (EvA H) as es) (_:es.length<=200000) (_:K5 es=[⟨"cut",some (fs.length:Nat),fs⟩]) (_:sH es=fs) (_:(∃e,es.getLast? =some e/\e.word=("end":Str))) (_:M.used=((stL rows fs).map λx=>1+(x.fs.length:Int)+x.bulk).sum) (_:(∀m∈M.names,ji M m.2.1 m.2.2=(decide (m.2.2∈fs) || decide (¬ m.2.2∈rows.map (·.b))))) (_:nG M=stL rows fs) (_:∀H',aY H H'->Q (.bl true) H'):AnQ X wo lb le lf H Q
def Rz(X:Cs):Sp:=λvs H Q E=>∃wo lb le a,vs=[.ref wo,.ref lb,.ref le,.ref a]/\AnQ X wo lb le a H Q
section
theorem Uh{wo lb le lf:AI}(p:lK K X)(q:AnQ X wo lb le lf H Q):rO K X.H (rE X.H) (ZF K) (Ie K) (Ru X) (Zx K) (Rp X) ξ [↑wo,↑lb,↑le,↑lf,none,none,none,none] H:=by
 obtain⟨T,s,A,M,w0,k,fs,es,as,hs0,j,rfl,ok,tb,nd,Zqa,oc,of,lfs,oe,m,les,Zsv,hbk,Zvk,hus,hg,htc,q⟩:=q;obtain⟨dw,ow⟩:=j.jb.ow;obtain⟨dh,oh⟩:=j.jh.oh;obtain⟨ls,ol,al⟩:=oc.al;have hl:=al.length;have w:=m.length;unfold rO;apply uh ?_;exists _,rfl,⟨_,bU.of ol⟩;refine Zlk ol al δ (λx=>!decide (x.b∈fs)) (λr x ⟨f,z,_⟩ q hq=>?_) (λr q hq=>?_) λl4 as4 n4 L=>?_
 ·walk_at"c";exists r,_,1,_,rfl,rfl,dB.of z,rfl;exists lf,_,rfl,.inl (bU.of of),rfl,pH _;rw[YM];exact⟨_,rfl,hq⟩
 ·walk_at"c";apply hq
 generalize zz:upd H l4 _=H4;obtain⟨Y,g4⟩:=nwO n4 zz;have L:Al (λr x=>∃f,Tc1 H4 r f x) as4 (stL k fs):=L.mono (by rintro r x ⟨f,z1,z2⟩;exact⟨f,Y _ _ z1,Y _ _ z2⟩);have Zw4:=m.mono λa e h=>EvA.same Y h;have N:=Y _ _ oe;apply uh ?_;exists _,rfl,⟨_,bU.of N⟩;refine Zlk N Zw4 δ (λe=>decide (e.word=("cut":Str))) (λr x ⟨l,i,z0,z,_⟩ q hq=>?_) (λr q hq=>?_) λl5 as5 n5 C=>?_
 ·walk_at"c";exists r,_,0,_,rfl,rfl,dB.of z,rfl;apply hq
 ·walk_at"c";apply hq
 generalize zz:upd H4 l5 _=H5;obtain⟨J,g5⟩:=nwO n5 zz;have C:Al (EvA H5) as5 (K5 es):=C.mono λa e h=>EvA.same J h;have Zza:=Zw4.mono λa e h=>EvA.same J h;have Z:=J _ _ N;apply uh ?_;exists _,rfl,⟨_,bU.of Z⟩;refine Yj Z Zza δ (λe=>decide (e.word=("back":Str))) (λe=>e.thing.getD 0) (λr x ⟨l,i,z0,z,_⟩ q hq=>?_) (λr x ⟨l,i,z0,z,_⟩ _ q hq=>?_) λl6 n6=>?_
 ·walk_at"c";exists r,_,0,_,rfl,rfl,dB.of z,rfl;apply hq
 ·walk_at"c";ext;rw[z0]at hq;exact⟨r,_,1,_,rfl,rfl,dB.of z,rfl,hq⟩
 rw[Zn2 m (by rintro a e ⟨_,i,h,_⟩;exact⟨i,h⟩),hbk];generalize zz:upd H5 l6 _=H6;obtain⟨P,g6⟩:=nwO n6 zz;have W:=Y.trans (J.trans P);rw[Zsv]at C;cases C with
 | @cons a5 e5 as5 es5 h5 h6=>
 cases h6;obtain⟨lc,i5,z1,z2,z3⟩:=h5.same P;have z1:some ((fs.length:Nat):Int)=some i5:=z1;cases z1;apply dU (bU.of (P _ _ g5)) ?_;apply uQ eC a4;apply fL (v:=.ref a5) (bU.of (P _ _ g5)) rfl ?_;apply dU (bU.of (W _ _ of)) ?_;rw[aU];apply⟨aR ζ,λt7 n7=>?_⟩;generalize zz:upd H6 t7 _=H7;obtain⟨E,g7⟩:=nwO n7 zz;have s47:=W.trans E;exists _,_,rfl,_,_,lc,lf,fs,E _ _ z2,g7,E _ _ z3,s47 _ _ of;ext;have D:=L.mono (by rintro r x ⟨f,z1,z2⟩;exact(⟨f,(J.trans (P.trans E)) _ _ z1,(J.trans (P.trans E)) _ _ z2⟩:∃f,Tc1 H7 r f x));have I:=(J.trans (P.trans E)) _ _ g4;have l4s:=D.length;have lst:(stL k fs).length<=k.length:=List.length_filter_le _ _;refine uh ?_;exists _,rfl,⟨_,bU.of I⟩;refine Yj I D δ (λ_=>true) (λx=>1+(x.fs.length:Int)+x.bulk) (λr x _ q hq=>sE hq) (λr x ⟨f,y1,y2⟩ _ q hq=>?_) λl8 n8=>?_
 ·walk_at"c";exists r,_,4,_,rfl,rfl,dB.of y1,rfl;apply dU (bU.of y2) ?_;rw[aU];exists r,_,2,_,rfl,rfl,dB.of y1,rfl;apply hq
 rw[List.filter_eq_self.mpr λ_ _=>rfl];generalize zz:upd H7 l8 _=H8;obtain⟨s8,g8⟩:=nwO n8 zz;have g:=s47.trans s8;apply Zuw (bU.of g8) ?_;rw[<- hus];have R:=g _ _ ow;have F:=g _ _ oh;obtain⟨e9,B,w9⟩:=Zvk;obtain⟨u,U⟩:∃u,es=u++[e9]:=by
  rcases List.eq_nil_or_concat es with z | ⟨zs,x,z⟩
  ·rw[z]at B;cases B
  ·rw[List.concat_eq_append]at z;rw[z,List.getLast?_concat]at B;cases B;exact⟨zs,z⟩
 obtain⟨as9,a9,ea9,⟨l9,i9,_,y9,_⟩⟩:∃as9 a9,as=as9++[a9]/\EvA H a9 e9:=by
  rcases List.eq_nil_or_concat as with z | ⟨zs,x,z⟩
  ·rw[z,U,List.length_append]at w;cases w
  ·rw[List.concat_eq_append]at z;rw[z,U]at m w;rw[List.length_append,List.length_append]at w;have e1:[x].length=1:=rfl;have e2:[e9].length=1:=rfl;obtain⟨a,ha,h⟩:=m.get (i:=u.length) (y:=e9) (by rw[List.getElem?_append_right Δ,Nat.sub_self];rfl);rw[show u.length=zs.length by omega,List.getElem?_append_right Δ,Nat.sub_self]at ha;cases ha;exact⟨zs,x,z,h⟩
 rw[w9]at y9;apply fL (v:=.ref a9) (bU.of (g _ _ oe)) (by rw[ea9,List.map_append];exact Zn3 _ _) ?_;exists a9,_,0,_,rfl,rfl,dB.of (g _ _ y9),rfl;apply uQ eC a4;apply Zse (bU.of ((E.trans s8) _ _ g6)) (bU.of (g _ _ of)) ?_;rw[decide_eq_true rfl];apply aH R p.cW p.Bv aW ?_;apply aH F p.c.cL p.c.gU nF ?_;apply uQ eC a4;apply aH R p.cW p.Bv aW ?_;exists A.hp,_,_,rfl,F,rfl;exists _,rfl,A.ca,M.room,M.used,M.born,_,(j.same g).hpO;apply aH R p.cW p.Bv aW ?_;apply aH F p.c.cL p.c.nQ Aa ?_;apply uQ eC a4;apply⟨_,_,_,rfl,T,s,A,M,k,fs,hs0,j.same g,rfl,ok,nd,Zqa,oc.same g,g _ _ of,hg,λH9 s9=>?_⟩;have S:=g.trans s9;have hcl:=ok.cl;apply⟨_,rfl,T,s,A,M,j.same S,rfl,δ,λc hc=>by have:=ok.fl c hc;omega,λlc' rs Ha sa o1 hl' hr nl=>?_⟩;have cf:=(Zgh o1 hl' hr nl).o;apply⟨aR ζ,λe0 ne0=>?_⟩;generalize zz:upd Ha e0 _=Hb;obtain⟨sb,gb⟩:=nwO ne0 zz;have gb:Hb e0=some (.lst (([]:AE).map V.int)):=gb;have O:=s8.trans (s9.trans (sa.trans sb));have cs:CtO Hb l4 (nG M):=by
  rw[htc];exact CtO.of (O _ _ I) (D.mono (by rintro r x ⟨f,y1,y2⟩;exact⟨f,O _ _ y1,O _ _ y2⟩))
 have ltl:=ZX (M:=M);have ltc:=yr (M:=M);apply⟨_,_,_,rfl,nG M,[],cs,δ,gb,ζ,λd Hc sc nd' od=>?_⟩;have od:Ii Hc d (wB (nG M)) 5000:=by
  obtain⟨kvs,k1,k2,k3⟩:=od;exact⟨kvs,k1,k2,λb=>by rw[k3 b,Zhr]⟩
 apply⟨_,_,_,rfl,nG M,nG M,wB (nG M),5000,cf.same (sb.trans sc),cs.same sc,od,rfl,δ,λi x x' h1 h2=>?_,λHd sd=>?_⟩
 ·rw[h1]at h2;cases h2;obtain⟨t,ht,rfl⟩:=List.mem_map.mp (List.mem_of_getElem? h1);exact⟨rfl,rfl,rfl,rfl,rfl,tb.Zw8 ht⟩
 ·exact q _ (S.trans (sa.trans (sb.trans (sc.trans sd))))
end
section
variable {M M1 N N' M':Wm}{w0:Int}{es:List Ev}
structure Ka(w0:Int)(M:Wm):Prop where
 tb:TB w0 M
 lw:Lw M
 pm:Pm M
 us:Us M
theorem Ka.step{lb:Int}{lw:AE}{e:Ev}(k:Ka w0 M)(h:fZ lb lw M e M'):Ka w0 M':=⟨k.tb.step h,k.lw.step h,k.pm.step k.tb h,k.us.step h⟩
theorem Ka.rn(r:Rn M es M'):Ka w0 M->Ka w0 M':=by
 induction r with
 | done _=>exact id
 | go _ _ st _ a=>exact λk=>a (k.step st)
theorem Zu2(r:Rn M es M'):Nl M->M'.sw.phase=("rest":Str)->Nl M':=by
 induction r with
 | done _=>exact λn _=>n
 | go _ _ st rn c=>
  intro n ph;rcases n.step st with ⟨_,a⟩ | ⟨_,n1⟩
  ·cases rn with
   | done _=>exact absurd (a.symm.trans ph) ε
   | go _ b _ _=>exact absurd a b
  ·exact c n1 ph
def Ot(M M':Wm)(L t:Nat)(N:Wm):Prop:=(t=0/\N=M)\/(1<=t/\Nl N/\∃a,t+a.length=L/\Rn N a M')
theorem Ot.step{e o:Ev}{L t:Nat}(h:Ot M M' L t N)(n:Nl M)(a:M.sw.phase=("rest":Str))(st:fZ 0 [] M e M1)(rn:Rn M1 es M')(u:L=es.length+1)(lt:t<L)(ph:M'.sw.phase=("rest":Str))(b:fZ 0 [] N o N'):Ot M M' L (t+1) N':=by
 rcases h with ⟨rfl,rfl⟩ | ⟨t1,k,p,l,m⟩
 ·obtain⟨rfl,f⟩:=Nf n st b;rcases n.step st with ⟨_,c⟩ | ⟨nw,n1⟩
  ·cases st with
   | begin _=>cases rn with
    | done _=>exact absurd (c.symm.trans ph) ε
    | go _ d _ _=>exact absurd c d
   | walk _ _ _ h=>exact absurd (a.symm.trans h) ε
   | look _ h=>exact absurd (a.symm.trans h) ε
   | cut _ _ h=>exact absurd (a.symm.trans h) ε
   | lost _ _ _ _ _ _ h=>exact absurd (a.symm.trans h) ε
   | pass h=>exact absurd (a.symm.trans h) ε
   | back _ h=>exact absurd (a.symm.trans h) ε
   | fin h=>exact absurd (a.symm.trans h) ε
   | again h=>exact absurd (a.symm.trans h) ε
  ·cases f nw;exact .inr ⟨Nat.le_refl _,n1,es,δ,rn⟩
 ·cases m with
  | done _=>rw[List.length_nil]at l;omega
  | @go _ v _ q lw s g r d i j=>
   obtain⟨rfl,f⟩:=Nf k i b;rcases k.step i with ⟨_,c⟩ | ⟨nw,n1⟩
   ·cases j with
    | done _=>exact absurd (c.symm.trans ph) ε
    | go _ d _ _=>exact absurd c d
   ·cases f nw;exact .inr ⟨δ,n1,g,by rw[List.length_cons]at l;omega,j⟩
theorem Ot.nl{L t:Nat}(h:Ot M M' L t N)(n:Nl M):N.sw.phase≠("lost":Str):=by
 rcases h with ⟨_,rfl⟩ | ⟨_,a,_⟩
 ·exact n.1
 ·exact a.1
theorem Zju(tb:TB w0 M):∀r∈rowsOf M,∀b,some b∈r->∃y∈nG M,y.b=b:=by
 intro r hr b hb;unfold rowsOf at hr;obtain⟨m,_,rfl⟩:=List.mem_map.mp hr;obtain⟨x,_,hx⟩:=List.mem_map.mp hb;obtain⟨i,c,rfl,hc,e⟩:=MK hx;exact⟨_,Ej hc,e⟩
theorem Zr1{a:List Tc}{g:Int->Bool}:stL a ((a.filter λx=>!g x.b).map (·.b))=a.filter λx=>g x.b:=by
 unfold stL;refine List.filter_congr λx hx=>?_;cases h:g x.b with
 | true=>
  rw[decide_eq_false];rfl;intro z;obtain⟨y,hy,e⟩:=List.mem_map.mp z;have:=(List.mem_filter.mp hy).2;have e:y.b=x.b:=e;rw[e,h]at this;cases this
 | false=>
  rw[decide_eq_true];rfl;exact List.mem_map.mpr ⟨x,List.mem_filter.mpr ⟨hx,by rw[h];rfl⟩,rfl⟩
end
theorem Zvy{K:aB}{H:Hp}{l o:AI}{a:List Tc}(h:CtO H l a)(h':CtO H o a):∃xs k,bU K H l xs/\bU K H o k/\Al (Dq K H 6) xs k:=by
 obtain⟨ls,h1,h2,t⟩:=h;obtain⟨s,g,d,j⟩:=h';refine⟨_,_,bU.of h1,bU.of g,WY (by rw[aU,aU,h2,d]) λi u v p m=>?_⟩;rw[cz]at p m;obtain⟨r,hr,rfl⟩:=Option.map_eq_some_iff.mp p;obtain⟨n,c,rfl⟩:=Option.map_eq_some_iff.mp m;have hi:i<a.length:=by rw[<- h2];exact(cP hr).1
 obtain⟨f,z1,q⟩:=t i r a[i] hr (bK hi);obtain⟨w,e,b⟩:=j i n a[i] c (bK hi);exact .inr ⟨r,n,rfl,rfl,.inr ⟨_,_,.inr ⟨dB.of z1,dB.of e⟩,.cons (.inl ⟨rfl,rfl⟩) (.cons (.inl ⟨rfl,rfl⟩) (.cons (.inl ⟨rfl,rfl⟩) (.cons (.inl ⟨rfl,rfl⟩) (.cons (.inr ⟨f,w,rfl,rfl,.inr ⟨_,_,.inl ⟨bU.of q,bU.of b⟩,xO (Y4 _)⟩⟩) (.cons (.inl ⟨rfl,rfl⟩) .nil)))))⟩⟩
inductive RsQ(X:Cs)(wo ot:AI)(many:Int)(H:Hp)(Q:VK):Prop
 | mk (T A B M hs k w0) (_:WT H T) (_:WJ X H T 1 A M) (_:A.wo=wo) (_:WJ X H T 4 B M) (_:B.wo=ot) (_:KW M hs k) (_:HsB hs) (_:k<=800) (_:Ka w0 M) (_:Nl M) (_:M.sw.phase=("rest":Str)) (_:1<=many) (_:many<=30) (_:∀H' T' A' B' M',Kp H H' T T'->WT H' T'->WJ X H' T' 1 A' M'->A'.wo=wo->WJ X H' T' 4 B' M'->B'.wo=ot->KW M' hs k->Ka w0 M'->Nl M'->M'.sw.phase=("rest":Str)->Q (.bl true) H'):RsQ X wo ot many H Q
def Ib(X:Cs):Sp:=λvs H Q E=>∃wo a many,vs=[.ref wo,.ref a,.int many]/\RsQ X wo a many H Q
section
theorem WJ.ww{T:Tg}{s:Nat}{A:Wa}{M:Wm}(j:WJ X H T s A M):M.w=0\/M.w=1\/M.w=2:=by
 obtain⟨dl,ol⟩:=j.jb.ol;rcases ol with ⟨e,_⟩ | ⟨e,_⟩ | ⟨e,_⟩
 ·exact .inl e
 ·exact .inr (.inl e)
 ·exact .inr (.inr e)
theorem Q8{wo ot:AI}{many:Int}(Tx:lK K X)(q:RsQ X wo ot many H Q):pQ K (Rz X) (Ih K) ye (Rr K) (Rq X) (Ry X) (cM X Zde) (Rm X) (Rp X) ξ [↑wo,↑ot,some (.int many),none,none,none,none,none,none,none,none] H:=by
 obtain⟨T,A,B,M,hs,k,w0,w,j,rfl,jo,rfl,kw,hb,hk,C,nl,ph,m1,m2,q⟩:=q;have ok:=kw.ok hb δ;have hcl:=ok.cl;have l5:=j.jd.l5;have lh:=j.jd.lh;have ltl:=ZX (M:=M);have ltc:=yr (M:=M);have hw:=j.ww;have lro:(rowsOf M).length=M.hands.length:=by unfold rowsOf;rw[aU]
 unfold pQ;apply⟨_,rfl,T,1,A,M,j,rfl,δ,λc hc=>by have:=ok.fl c hc;omega,λlc rs H1 s1 o1 hl hr nlc=>?_⟩;have oc:=Zgh o1 hl hr nlc;clear o1 hl hr rs;apply⟨_,rfl,T,1,A,M,j.same s1,rfl,δ,λm hm=>by have:=ok.hl m hm;omega,λlr rs H2 s2 o1 hl hr qc=>?_⟩;obtain⟨n1,n2,_⟩:=qc;have s12:=s1.trans s2;have or:RwF H H2 lr (rowsOf M):=⟨rs,o1,hl,hr,s1.free n1,λr hr=>s1.free (n2 r hr)⟩;clear o1 hl hr;have oc:=oc.nw (Nw.same s2);apply⟨_,rfl,H,nG M,oc,δ,C.tb.uq,λfd H3 s3 nfd od=>?_⟩;apply⟨_,_,rfl,rowsOf M,nG M,(or.nw (Nw.same s3)).o,δ,?_,δ,?_,C.tb.uq,Zqv,Zju C.tb,od.o,λrc H4 f s4 nrc om hf=>?_⟩
 ·intro r hr;unfold rowsOf at hr;obtain⟨m,hm,rfl⟩:=List.mem_map.mp hr;have:=ok.hl m hm;simp;omega
 ·intro x hx;obtain⟨t,ht,rfl⟩:=List.mem_map.mp hx;show(t.2.fl.map (mU M)).length<=50;rw[aU];exact ok.fl _ (mR (qz ht))
 have Y:=s3.trans s4;have s14:=s12.trans Y;have oc:=oc.nw (Nw.same Y);have or:=or.nw (Nw.same Y);have S:∀b,(f b).isSome=true↔Rb (rowsOf M) (nG M) b:=λb=>by
  rw[<- hf b];cases f b<;>simp
 obtain⟨ls,ol,al⟩:=oc.o.al;have lal:=al.length;apply uh ?_;exists _,rfl,⟨_,bU.of ol⟩;refine Yj ol al δ (λx=>!(f x.b).isSome) (λx=>x.b) (λr x ⟨fa,z,_⟩ q hq=>?_) (λr x ⟨fa,z,_⟩ _ q hq=>?_) λlf nlf=>?_
 ·walk_at"c";exists r,_,1,_,rfl,rfl,dB.of z,rfl;exists rc,_,rfl,om.ask x.b;exact i_B hq
 ·walk_at"c";apply⟨r,_,1,_,rfl,rfl,dB.of z,rfl,hq⟩
 generalize P:((nG M).filter λx=>!(f x.b).isSome).map (λx:Tc=>x.b)=fs at nlf ⊢;have lfs:fs.length<=(nG M).length:=by rw[<- P,aU];exact List.length_filter_le _ _
 generalize zz:upd H4 lf _=H5;obtain⟨s5,g5⟩:=nwO nlf zz;have l:=s14.trans s5;have oc:=oc.nw (Nw.same s5);have or:=or.nw (Nw.same s5);have Zwl:=s14.free nlf;obtain⟨ls',ol',_,_⟩:=id oc.o;obtain⟨lr',Zwd,Zxi,_⟩:=id or.o;obtain⟨dw,ow⟩:=j.jb.ow;obtain⟨dh,oh⟩:=j.jh.oh;have oca:=j.jh.oc;have lls:ls'.length=(nG M).length:=by
  obtain⟨_,z1,z2,_⟩:=id oc.o;rw[ol']at z1;have z1:=HO.lst.inj (Option.some.inj z1);have:=congrArg List.length z1;rw[aU,aU]at this;omega
 apply dU (bU.of ol') ?_;apply dU (bU.of Zwd) ?_;apply aH (l _ _ ow) Tx.cW Tx.Bv aW ?_;apply aH (l _ _ oh) Tx.c.cL Tx.c.bO bN ?_;apply dU (bU.of (l _ _ oca)) ?_;rw[aU,aU,aU,lls,Zxi,lro,j.jc.lc];apply⟨_,_,rfl,T,1,A,M,hs,k,w.same l,ε,j.same l,rfl,kw,hb,hk,C.lw,ph,δ,δ,λe M1 u v H6 Z A6 le as st rn les kw' lw' stp j6 R ev ole nle tle=>?_⟩;obtain⟨ew,Mc,fin⟩:=Zha C.tb ph hw st rn;have D:=fin.ph;have J:Ka w0 v:=(C.step st).rn rn;have nl':Nl v:=by
  rcases nl.step st with ⟨z,_⟩ | ⟨_,n1⟩
  ·rw[ew]at z;exact absurd z ε
  ·exact Zu2 rn n1 D
 have efs:gh Mc=fs:=by
  rw[<- P];exact Zim C.tb hw fin S
 have etc:nG v=stL (nG M) fs:=by
  rw[<- P,Zr1 (g:=λb=>(f b).isSome)];exact Zh3 C.tb ph hw fin S
 have ero:=Zd4 hw fin;have i:=kw'.ok hb (show k<=900 by omega);have enm:v.names=M.names:=fin.nm.trans fin.rs.nm;have jo5:=jo.same l;have jo6:=jo5.other stp ε ε;have O:Nw H H5 H6:=Nw.stp w stp ε;have oc6:=oc.nw O;have or6:=or.nw O;have of6:=O _ _ Zwl g5;have Zsv:K5 (e::u)=[⟨"cut",some (fs.length:Nat),fs⟩]:=by
  rw[<- efs,<- fin.cu];unfold K5;rw[List.filter_cons_of_neg (p:=λe:Ev=>decide (e.word=("cut":Str)))];rw[ew];decide
 have hbk:sH (e::u)=fs:=by
  rw[<- efs,<- fin.bk];unfold sH;rw[List.filterMap_cons_none];rw[ew];rfl
 have hls:∃e',(e::u).getLast? =some e'/\e'.word=("end":Str):=by
  obtain⟨e',z1,z2⟩:=fin.ls;refine⟨e',?_,z2⟩;cases u with
  | nil=>cases z1
  | cons a u=>rw[List.getLast?_cons_cons];exact z1
 have hus:v.used=((stL (nG M) fs).map λx=>1+(x.fs.length:Int)+x.bulk).sum:=by
  rw[<- etc,<- Znf];exact J.us
 have k06:Kp H H6 T Z:=(Kp.same l).trans (Kp.stp stp ⟨ε,ε⟩);apply⟨_,_,_,_,rfl,Z,1,A6,v,w0,nG M,fs,e::u,as,ε,j6,R,i,J.tb,J.pm.nd,δ,oc6.o,of6,δ,ole,ev.mono λa x h=>h.a,by rw[List.length_cons];omega,Zsv,hbk,hls,hus,λm hm=>?_,etc,λH7 s7=>?_⟩
 ·rw[enm]at hm;rw[<- P];exact Ze8 C.tb (λm hm=>(C.pm.nm m hm).2) hw fin S hm
 have j7:=j6.same s7;have or7:=or6.nw (Nw.same s7);apply⟨_,rfl,Z,1,A6,v,j7,R,by have:=i.cl;omega,λm hm=>by have:=i.hl m hm;omega,λl8 rs8 H8 s8 o8 hl8 hr8 _=>?_⟩;rw[ero]at hl8 hr8;have s:=s7.trans s8;have or8:=or7.nw (Nw.same s8);obtain⟨xs,ys,a1,a2,al8⟩:=Zfk (K:=K) (⟨rs8,o8,hl8,hr8⟩:RwO H8 l8 (rowsOf M)) or8.o;apply Zbo (.inl ⟨a1,a2⟩) al8 ?_;have lev:=ev.length;rw[List.length_cons]at lev;apply dU (bU.of (s _ _ ole)) ?_;rw[aU,lev];ext;obtain⟨mn,em⟩:=toN (x:=many) δ;subst em;obtain⟨I,eah,ah1,ah2⟩:∃I:Nat,(if ((u.length+1:Nat):Int)<(mn:Int)then((u.length+1:Nat):Int)else(mn:Int))=(I:Int)/\1<=I/\I<=u.length+1:=by
  split
  ·exact⟨u.length+1,rfl,δ,Nat.le_refl _⟩
  ·exact⟨mn,rfl,δ,δ⟩
 rw[eah];have jo8:=jo6.same s;have w8:WT H8 Z:=stp.wt.same s;have fr:∀{E:Hp}{Ty:Tg},dZ 4 H8 E Z Ty->RwF H E lr (rowsOf M)/\E le=some (.lst (as.map V.ref))/\WJ X E Ty 1 A6 v/\Kp H E T Ty:=λ{E Ty} d=>
  ⟨or.nw λb o h0 h5=>d.kp b o (s _ _ (O b o h0 h5)) (by rw[stp.tg b o h5,w b h0];decide),d.kp _ _ (s _ _ ole) (by rw[tle];decide),(j7.same s8).other d ε ε,k06.trans ((Kp.same s).trans (Kp.stp d ⟨ε,ε⟩))⟩
 exists _,rfl,δ,δ;refine forR (λt σ E=>∃Ty By N v9,σ=[↑A.wo,↑B.wo,some (.int mn),↑lc,↑lr,↑rc,↑lf,↑le,some (.int I),v9,none]/\dZ 4 H8 E Z Ty/\WJ X E Ty 4 By N/\By.wo=B.wo/\KW N hs k/\Lw N/\Ot M v (u.length+1) t N) ⟨Z,B,M,_,rfl,dZ.refl w8,jo8,rfl,kw,C.lw,.inl ⟨rfl,rfl⟩⟩ ?_ ?_
 ·rintro t σ E ht ⟨Ty,By,N,v9,rfl,d,jN,awN,kN,lN,oN⟩;apply⟨_,rfl,Ty,4,By,N,0,[],d.wt,ε,jN,awN,kN.ok hb δ,trivial,λy=>absurd y (oN.nl nl),λe' N' r Hy Ty' By' a' sty jy awy _ _=>?_⟩;apply⟨Ty',By',N',_,rfl,d.trans sty,jy,awy,kN.step r,lN.step r,oN.step nl ph st rn rfl δ D r⟩
 rintro σ E ⟨Ty,By,N,v9,rfl,d,jN,awN,kN,lN,oN⟩;obtain⟨nN,F,l2,r2⟩:Nl N/\∃F,I+F.length=u.length+1/\Rn N F v:=by
  rcases oN with ⟨z,_⟩ | ⟨_,nN,F,l2,r2⟩
  ·rw[show(I:Int).toNat=I from δ]at z;omega
  ·exact⟨nN,F,by rw[show(I:Int).toNat=I from δ]at l2;exact l2,r2⟩
 apply⟨_,rfl,Ty,4,By,N,hs,k,d.wt,ε,jN,awN,kN,hb,δ,lN,λes3 M2 H9 T9 B9 r3 k9 l9 st9 j9 aw9=>?_⟩;obtain⟨rfl,rfl⟩:=Zr7 r2 nN D r3;have Ztw:=d.trans st9;obtain⟨_,f2,_,_⟩:=fr Ztw;exists _,rfl;apply dU (bU.of f2) ?_;rw[aU,lev];apply uQ (λz=>absurd (by congr 1;omega) z) a4;apply⟨_,rfl,T9,4,B9,v,hs,k,st9.wt,ε,j9,aw9,k9,hb,δ,l9,λes4 M3 Ha Ta Ba r4 ka4 la sta ja U=>?_⟩;obtain⟨rfl,rfl⟩:es4=[]/\M3=v:=by
  cases r4 with
  | done _=>exact⟨rfl,rfl⟩
  | go z _ _ _=>exact absurd D z
 have Zwa:=Ztw.trans sta;obtain⟨f1,_,f3,f4⟩:=fr Zwa;apply uQ eC a4;apply⟨_,rfl,Ta,4,Ba,M3,ja,U,by have:=i.cl;omega,λc hc=>by have:=i.fl c hc;omega,λlb rb Hb sb ob hlb hrb nlb=>?_⟩;have cb:=(Zgh ob hlb hrb nlb).o;apply⟨_,rfl,Ta,1,A6,M3,f3.same sb,R,by have:=i.cl;omega,λc hc=>by have:=i.fl c hc;omega,λlc' rc' Hc sc oc' Zxj Zxf Zwm=>?_⟩;have cc:=(Zgh oc' Zxj Zxf Zwm).o;obtain⟨xs,ys,b1,b2,bl⟩:=Zvy (K:=K) (cb.same sc) cc;apply Zbo (.inl ⟨b1,b2⟩) bl ?_;have W:=sb.trans sc;apply⟨_,rfl,Ta,4,Ba,M3,ja.same W,U,by have:=i.cl;omega,λm hm=>by have:=i.hl m hm;omega,λld rd Hd sd od' hld hrd _=>?_⟩;rw[ero]at hld hrd;obtain⟨xs',ys',c1,c2,cl⟩:=Zfk (K:=K) (⟨rd,od',hld,hrd⟩:RwO Hd ld (rowsOf M)) (f1.nw (Nw.same (W.trans sd))).o;apply Zbo (.inl ⟨c1,c2⟩) cl ?_;have L:=W.trans sd;exact q Hd Ta A6 Ba M3 (f4.trans (Kp.same L)) (sta.wt.same L) (f3.same L) R (ja.same L) U kw' J nl' D
end
section
variable {M M':Wm}{w0:Int}{e:Ev}{d:iZ}
theorem Zt8{M':Wm}{d:iZ}(h:kJ M d=.ok (e,M')):M'.w=M.w:=by
 cases d<;>simp only[kJ]at h<;>(repeat' split at h)<;>first | (cases h;done) | (cases h;rfl) | (cases h;exact(mJ _ _).ww)
theorem Zkv{M M':Wm}(h:NtR M M'):M'.cells.length=M.cells.length:=by have:=congrArg List.length h.ce;rw[aU,aU]at this;exact this
theorem Znv{a:Type}(l:List (Option a))(x:a):l.length<=(jB l x).length:=by
 unfold jB;split
 ·rw[List.length_set];exact Nat.le_refl _
 ·rw[List.length_append];omega
theorem Zmv{M':Wm}{d:iZ}(h:kJ M d=.ok (e,M')):M.cells.length<=M'.cells.length:=by
 cases d<;>simp only[kJ]at h<;>(repeat' split at h)<;>first | (cases h;done) | (cases h;exact Nat.le_refl _) | (cases h;rw[Zkv (mJ _ _)];exact Nat.le_refl _) | (cases h;rw[Zkv (mJ _ _)];show _<=(M.cells.set _ _).length;rw[List.length_set];exact Nat.le_refl _) | (cases h;show _<=(M.cells.set _ _).length;rw[List.length_set];exact Nat.le_refl _) | (cases h;exact Znv _ _)
theorem Ka.deed{hs:Bu}(k:Ka w0 M)(o:okR hs d)(h:kJ M d=.ok (e,M')):Ka w0 M':=by
 obtain⟨g,hg⟩:=Zgb h;refine⟨k.tb.deed h,⟨by rw[hg];exact k.lw.lz,by rw[Zt8 h];exact k.lw.ww,by rw[hg];have:=Zmv h;have:=k.lw.sp;show M.sw.stop<=(M'.cells.length:Int);omega⟩,k.pm.deed k.tb h,k.us.deed (λa s b bulk z=>?_) h⟩;rw[z]at o;exact o.2.1
theorem dVs(d:iZ):∃z:Str,TY (dV d) 0=some (.str z)/\z≠("sweep":Str):=by cases d<;>exact⟨_,rfl,ε⟩
end
section
theorem Zq7{lh:AI}{hs:Bu}{T:Tg}{s:Nat}{room c:Int}{σ:St}{I tk tl:TE}(P:HsO H lh hs)(hb:HsB hs)(wt:WT H T)(s0:s≠0)(hr:∀d:VK,d (.int room) H->I σ H d)(hk:∀d:VK,(∀ki lk w t H',0<=t->t<4->w=c % 3/\t=c / 3 % 4->aY H H'->H ki=none->H lk=none->KdO X H' ki lk w t->d (.ref ki) H')->tk σ H d)(hl:∀J (d:VK),Bh K [.ref lh] J d->tl σ J d)
  (q:∀wo H' T' A,aY H H'->(∀b o,H b=some o->T' b=T b)->WT H' T'->A.wo=wo->WJ X H' T' s A (Pz room hs (c % 3) (c / 3 % 4))->Q (.ref wo) H'):qC X.W (pC X) [] E0 (aj I (aj tk (aj tl aD))) σ H Q:=by
 left;refine hr _ ?_;left;refine hk _ λki lk w t N t0 t1 qc s2 nki nlk kd=>?_;obtain⟨ew,et⟩:=qc;subst ew et;have C:=P.same s2;obtain⟨ts,E,al⟩:=id C;have D:=al.length;have n5:=hb.n5;left;refine hl N _ ?_;refine YQ (bU.of E) λl v=>?_;generalize zz:upd N l _=H3;obtain⟨r,g3⟩:=nwO v zz;have h:=kd.same r;have g:=s2.trans r;left;intro wo f a p ned;have j:aY H3 (upd (upd H3 f (.own wo)) wo (.ins X.W f [])):=λb o hb=>by rw[aC (aF hb a),aC (aF hb p)];exact hb
 have L:upd (upd H3 f (.own wo)) wo (.ins X.W f []) wo=some (.ins X.W f []):=aq;generalize upd (upd H3 f (.own wo)) wo (.ins X.W f [])=H7 at j L ⊢;have u:=h.same j;have y:ki≠wo:=by
  obtain⟨⟨_,e⟩,_⟩:=h;exact aF e a
 have F:lk≠wo:=by
  obtain⟨_,⟨_,e⟩⟩:=h;rcases e with ⟨_,e⟩ | ⟨_,e⟩ | ⟨_,e⟩
  ·exact aF e a
  ·exact aF e a
  ·exact aF e a
 refine⟨wo,_,ki,l,rfl,f,T,s,lk,_,_,ts,hs,L,wt.same (g.trans j),s0,u,wt _ nki,wt _ nlk,y,F,j _ _ g3,WY D λi x m Z M=>?_,δ,λO S R U t8 Y B V=>⟨rfl,?_⟩⟩
 ·obtain⟨x',e3,z⟩:=al.get M;rw[Z]at e3;cases e3;have:=hb.sb m (List.mem_of_getElem? M);exact⟨j _ _ (r _ _ z),δ,δ⟩
 have n:=g.trans j;have k:=g.free a;exact q wo O S R (λb o hb=>U b o (n _ _ hb) (aF hb k)) (λb o hb=>t8 b o (n _ _ hb) (aF hb k)) Y B V
def RwK(hs:Bu)(T:Tg)(H:Hp)(a:AI)(vs:List V):Prop:=H a=some (.lst vs)/\T a=(0,0)/\∀v∈vs,∃t,v=.ref t/\T t=(0,0)/\((∃k,H t=some (.tup [.str "sweep",.int k])/\1<=k/\k<=30)\/∃d,H t=some (.tup (dV d))/\okR hs d)
theorem RwK.kp{hs:Bu}{T T':Tg}{H H':Hp}{a:AI}{vs:List V}(h:RwK hs T H a vs)(k:Kp H H' T T'):RwK hs T' H' a vs:=by
 obtain⟨h1,h2,b⟩:=h;refine⟨k.k _ _ h1 (.inl (by rw[h2])),(k.tg _ _ h1).trans h2,λv hv=>?_⟩;obtain⟨t,e,f,o⟩:=b v hv;rcases o with ⟨i,o,z⟩ | ⟨d,o,z⟩
 ·exact⟨t,e,(k.tg _ _ o).trans f,.inl ⟨i,k.k _ _ o (.inl (by rw[f])),z⟩⟩
 ·exact⟨t,e,(k.tg _ _ o).trans f,.inr ⟨d,k.k _ _ o (.inl (by rw[f])),z⟩⟩
theorem Zrw{a:AI}(Tx:lK K X)(q:Zn6 K a H Q):
  Zd7 K X.W (pC X) (Bs K) (ZD X rf) (ZC K) (Zz X) (Zf6 K) (Ib X) (Zy K) ξ [↑a,none,none,none,none,none] H:=by
 obtain⟨l,V,Z,h⟩:=q;unfold Zd7;apply⟨a,0,rfl,l,V,ε,λz0 _=>?_⟩;ext;generalize z0 % 12=way;refine⟨a,rfl,l,V,λlh hs H1 s1 nlh ho hb=>?_⟩;refine Zp2 ?_;refine vQ ?_;refine Fx ?_;refine Zq7 (K:=K) (X:=X) (T:=λ_=>(0,0)) (s:=1) (room:=wH l) (c:=way) ho hb (λ_ _=>rfl) ε (λU h=>by apply⟨a,rfl,l,s1.seq V,λz O=>by rw[O];exact h⟩) (λU h=>by apply⟨_,rfl,h⟩) (λH1 U h=>by apply h) λwo H2 T2 A s2 t2 w2 aw j2=>?_;refine YT ?_;refine vQ ?_;refine Fx ?_;have s02:=s1.trans s2;refine Zq7 (K:=K) (X:=X) (T:=T2) (s:=4) (room:=wH l) (c:=way) (ho.same s2) hb w2 ε (λU h=>by apply⟨a,rfl,l,s02.seq V,λz O=>by rw[O];exact h⟩) (λU h=>by apply⟨_,rfl,h⟩) (λH1 U h=>by apply h) λot H3 T3 B S t3 w3 J j3=>?_;have jw:=j2.mv (rF.Zak (s':=4) ⟨λb o h _=>S _ _ h,λb o h=>⟨o,S _ _ h⟩,t3,w3⟩ ε) λb o h _=>S _ _ h;have s03:=s02.trans S;have ho3:=ho.same (s2.trans S);have t0:=Int.emod_nonneg (way / 3) (show(4:Int)≠0 by decide);have t1:=Int.emod_lt_of_pos (way / 3) (show(0:Int)<4 by decide);have p0:KW (Pz (wH l) hs (way % 3) (way / 3 % 4)) hs 0:=KW.new t0 t1;have ka0:Ka (way % 3) (Pz (wH l) hs (way % 3) (way / 3 % 4)):=⟨TB.new,⟨Int.le_refl 0,j3.ww,Int.le_refl 0⟩,Pm.Zwo,rfl⟩;have R:Nl (Pz (wH l) hs (way % 3) (way / 3 % 4)):=⟨by show ¬("rest":Str)="lost";decide,rfl⟩;have P:(Pz (wH l) hs (way % 3) (way / 3 % 4)).sw.phase=("rest":Str):=rfl;generalize Pz (wH l) hs (way % 3) (way / 3 % 4)=M at jw j3 p0 ka0 R P;apply⟨a,lh,rfl,l,hs,s03.seq V,Z,ho3,hb,λlr H9 s9 rl=>?_⟩;obtain⟨_,nlr,vs,olr,lvs,Y⟩:=rl;have L:RwK hs T3 H9 lr vs:=⟨olr,w3 _ nlr,λv hv=>by
  rcases Y v hv with ⟨t,k,e,f,o,z⟩ | ⟨t,d,e,f,o,z⟩
  ·exact⟨t,e,w3 _ f,.inl ⟨k,o,z⟩⟩
  ·exact⟨t,e,w3 _ f,.inr ⟨d,o,z⟩⟩⟩
 refine⟨lr,rfl,⟨_,bU.of olr⟩,forL vs (λi σ N=>∃T A B M v5,σ=[↑a,some (.int way),↑lh,↑wo,↑ot,v5]/\WT N T/\WJ X N T 1 A M/\A.wo=wo/\WJ X N T 4 B M/\B.wo=ot/\KW M hs i/\Ka (way % 3) M/\Nl M/\M.sw.phase=("rest":Str)/\RwK hs T N lr vs) ⟨T3,A,B,M,_,rfl,w3.same s9,jw.same s9,aw,j3.same s9,J,p0,ka0,R,P,L⟩ (by rintro _ _ _ _ ⟨_,_,_,_,_,_,_,_,_,_,_,_,_,_,_,z,_⟩;exact bU.of z) ?_ ?_⟩
 ·rintro i x σ N hi ⟨T,A,B,M,v5,rfl,w,j,aw,jo,J,p,ka,nl,ph,L⟩;have hil:=(cP hi).1;obtain⟨t,rfl,tt,hrow⟩:=L.2.2 x (List.mem_of_getElem? hi);rcases hrow with ⟨k,m,k1,k2⟩ | ⟨d,m,od⟩
  ·exists t,_,0,_,rfl,rfl,dB.of m,rfl;apply uQ eC a4;exists t,_,1,_,rfl,rfl,dB.of m,rfl;apply⟨_,_,_,rfl,T,A,B,M,hs,i,way % 3,w,j,aw,jo,J,p,hb,δ,ka,nl,ph,k1,k2,λH' T' A' B' M' kp w' j' I C bw' p' ka' nl' ph'=>?_⟩;apply⟨T',A',B',M',_,rfl,w',j',I,C,bw',p'.mono δ,ka',nl',ph',L.kp kp⟩
  ·obtain⟨zw,O,nz⟩:=dVs d;have ok:=p.ok hb δ;have E:=ok.cl;have hnl:=ok.nl;exists t,_,0,_,rfl,rfl,dB.of m,O;apply uQ a4 (λz=>absurd z nz);apply⟨_,t,rfl,T,1,A,M,d,w,ε,j,aw,m,p.okD od,E,λz=>by have:=ok.gl z;omega,p.tl,δ,λr er H' sm=>?_,λe M' he H' T' A' av st j' I ev=>?_⟩
   ·apply⟨_,t,rfl,T,4,B,M,d,w.same sm,ε,jo.same sm,J,sm _ _ m,p.okD od,E,λz=>by have:=ok.gl z;omega,p.tl,δ,λr2 F H'' sm2=>?_,λe2 M2 u=>by rw[er]at u;cases u⟩;ext;have y:=sm.trans sm2;exact⟨T,A,B,M,_,rfl,w.same y,j.same y,aw,jo.same y,J,p.mono δ,ka,nl,ph,L.kp (Kp.same y)⟩
   ·ext;have C:=jo.other st ε ε;have ot2:=st.kp _ _ m (by rw[tt];decide);refine⟨_,t,rfl,T',4,B,M,d,st.wt,ε,C,J,ot2,p.okD od,E,λz=>by have:=ok.gl z;omega,p.tl,δ,λr2 F=>(by rw[he]at F;cases F),λe2 M2 u H'' T'' B'' av2 D j2 aw2 ev2=>?_⟩;rw[he]at u;cases u;ext;obtain⟨g,hg⟩:=Zgb he;exact⟨T'',A',B'',M',_,rfl,D.wt,j'.other D ε ε,I,j2,aw2,p.deed od he,ka.deed od he,nl.keep ⟨g,hg⟩,by rw[hg];exact ph,(L.kp (Kp.stp st ⟨ε,ε⟩)).kp (Kp.stp D ⟨ε,ε⟩)⟩
 ·rintro σ N ⟨T,A,B,M,v5,rfl,_⟩;apply h _
end
def top(i:Nat):Stmt:=PySem.Challenge.pw_greywalk_k29_a_round_alone.main.body.getD i (.Pass ⟨0,0,0,0⟩)
abbrev vC:Stmt:=inClass (top 8) 0
abbrev Dd:Stmt:=inClass (top 8) 1
abbrev sZ:Stmt:=inClass (top 8) 2
abbrev vA:Stmt:=inClass (top 9) 0
abbrev jD:Stmt:=inClass (top 9) 1
abbrev NK:Stmt:=inClass (top 9) 2
abbrev Jt:Stmt:=inClass (top 9) 3
abbrev Js:Stmt:=inClass (top 9) 4
abbrev Dc:Stmt:=inClass (top 9) 5
abbrev Vk:Stmt:=top 10
abbrev NB:Stmt:=top 11
abbrev Va:Stmt:=top 13
abbrev Z8:Stmt:=top 14
abbrev vB:Stmt:=inClass (top 16) 0
abbrev pM:Stmt:=inClass (top 17) 0
abbrev sV:Stmt:=inClass (top 18) 0
abbrev Zjr:Stmt:=top 19
abbrev yZ:Stmt:=top 20
abbrev Jf:Stmt:=top 21
abbrev Jb:Stmt:=top 22
abbrev Jc:Stmt:=top 23
abbrev Cw:Stmt:=top 24
abbrev Vb:Stmt:=top 25
abbrev Cq:Stmt:=top 26
abbrev IW:Stmt:=top 27
abbrev Zfi:Stmt:=top 28
abbrev Zjq:Stmt:=top 29
abbrev Nv:Stmt:=top 30
abbrev Zjs:Stmt:=top 31
abbrev Zfh:Stmt:=top 32
abbrev U9:Stmt:=top 33
abbrev Cv:Stmt:=top 35
abbrev wG:Stmt:=top 36
abbrev wD:Stmt:=top 37
abbrev Zjo:Stmt:=top 38
abbrev yX:Stmt:=top 39
abbrev Zq0:Stmt:=top 40
abbrev Cy:Stmt:=top 41
abbrev Ny:Stmt:=top 42
abbrev Cr:Stmt:=top 43
abbrev wF:Stmt:=top 44
abbrev Cu:Stmt:=top 45
abbrev s_end:Stmt:=top 46
abbrev sU:Stmt:=top 47
abbrev Zjp:Stmt:=top 49
abbrev U8:Stmt:=top 50
abbrev Za1:Stmt:=top 54
abbrev pN:Stmt:=inClass (top 55) 2
abbrev oK:Stmt:=inClass (top 55) 3
abbrev vq:Stmt:=inClass (top 55) 4
abbrev sX:Stmt:=inClass (top 56) 2
abbrev sY:Stmt:=inClass (top 57) 2
abbrev sW:Stmt:=inClass (top 58) 2
abbrev CZ:Stmt:=inClass (top 58) 3
abbrev vz:Stmt:=inClass (top 59) 0
abbrev Nu:Stmt:=top 61
abbrev Vj:Stmt:=top 62
abbrev Je:Stmt:=top 63
abbrev yU:Stmt:=top 64
abbrev yV:Stmt:=top 65
abbrev Vf:Stmt:=top 66
abbrev Za0:Stmt:=top 67
abbrev Z9:Stmt:=top 68
abbrev Vi:Stmt:=top 69
abbrev Vh:Stmt:=top 70
abbrev Vg:Stmt:=top 71
abbrev Nz:Stmt:=top 72
abbrev Vd:Stmt:=top 73
abbrev Ve:Stmt:=top 74
abbrev Vc:Stmt:=top 75
abbrev yW:Stmt:=top 76
abbrev Zu1:Stmt:=top 78
abbrev Jr:Stmt:=top 80
abbrev Jp:Stmt:=top 81
abbrev Jg:Stmt:=top 82
abbrev CQ:Stmt:=top 83
abbrev Jj:Stmt:=top 84
abbrev Jm:Stmt:=top 85
abbrev Jk:Stmt:=top 86
abbrev Jl:Stmt:=top 87
abbrev Jq:Stmt:=top 88
abbrev CV:Stmt:=top 89
abbrev Cz:Stmt:=top 90
abbrev Ji:Stmt:=top 91
abbrev zb:Stmt:=top 92
abbrev CT:Stmt:=top 93
abbrev Jo:Stmt:=top 94
abbrev Jh:Stmt:=top 95
abbrev zj:Stmt:=top 96
abbrev zm:Stmt:=top 97
abbrev CJ:Stmt:=top 98
abbrev CG:Stmt:=top 99
abbrev CP:Stmt:=top 100
abbrev CW:Stmt:=top 101
abbrev za:Stmt:=top 102
abbrev Nx:Stmt:=top 103
abbrev Fi(K:aB)(c:AI)(s:Str)(f:AI):Prop:=W.findIn K (.ref c) s=some (↑f)
abbrev Fo(K:aB)(c:AI)(s:Str):Prop:=W.findIn K (.ref c) s=some none
abbrev Ns(K:aB)(s:Str)(f:AI):Prop:=W.nsIn K mainGlobals s=some (↑f)
abbrev Ki(K:aB)(f:AI):Prop:=W.keepIn K (.ref f)=true
abbrev Ci(K:aB)(c:AJ)(s:Str):Prop:=W.codeIn K c s=true
abbrev Lk(K:aB)(f:AI)(a b:Str)(s:Stmt)(d:AJ)(oc:AJ)(od:Option AI)(kV dc pm:AJ)(an:Option AI)(cd ct:AJ)(sl:Array AB):Prop:=K.lookup f=some ⟨oc,od,.func (W.fnOf a b (iW s) (gk s) (aG s) d kV dc pm an cd ct),sl⟩
abbrev FnG(K:aB)(x q:Str)(s:Stmt)(f:AI):Prop:=∃fd,Fun K x q s f fd
section
variable {K:aB}{x q:Str}{s:Stmt}{f C:AI}{oc:AJ}{od:Option AI}{kV dc pm:AJ}{an:Option AI}{cd ct:AJ}{sl:Array AB}
theorem fgm(l:Lk K f x q s .none oc od kV dc pm an cd ct sl)(c:Ci K cd q)(k:Ki K f):FnG K x q s f:=⟨_,Zm7 l c k⟩
noncomputable def gj (g:FnG K x q s f):AL:=g.choose
theorem Fz(g:FnG K x q s f):Fun K x q s f (gj g):=g.choose_spec
structure FA(K:aB)(x:Str)(s:Stmt)(f:AI):Prop where
 a:Ns K x f
 g:FnG K x x s f
theorem fam(a:Ns K x f)(l:Lk K f x x s .none oc od kV dc pm an cd ct sl)(c:Ci K cd x)(k:Ki K f):FA K x s f:=⟨a,fgm l c k⟩
structure FT(K:aB)(mg:As)(x:Str)(s:Stmt)(f:AI):Prop where
 m:mg x=↑f
 g:FnG K x x s f
structure MT(K:aB)(C:AI)(x q:Str)(s:Stmt)(f:AI):Prop where
 m:Meth K C x f
 g:FnG K x q s f
theorem mtm(a:Fi K C x f)(i:W.isFn K (.ref f)=true)(l:Lk K f x q s .none oc od kV dc pm an cd ct sl)(c:Ci K cd q)(k:Ki K f):MT K C x q s f:=⟨⟨a,i,k⟩,fgm l c k⟩
structure CA(K:aB)(C:AI):Prop where
 c:MP K C
 mk':W.makesIn K C=true
 k:Ki K C
theorem cam(a:W.plainGet K C Str.empty=true)(b:W.hasDictIn K C=true)(c:W.plainOver K C=true)(d:W.findIn K (.ref C) "__setattr__"=some (some (.builtin "object.__setattr__")))(e:W.makesIn K C=true)(f:Ki K C):CA K C:=⟨⟨a,b,c,d⟩,e,f⟩
end
theorem cn1{a:Type}{us:List a}{n:Nat}(h:us.length=n+1):∃x t,us=x::t/\t.length=n:=by cases us with | nil=>cases h | cons x t=>exact⟨x,t,rfl,Nat.succ.inj h⟩
theorem bd1{K:aB}{x a:Str}{st:Stmt}{f:AI}{fd:AL}(F:Fun K x a st f fd)(a0:Str)(h:∀(kV c pm:AJ) (e:Option AI) (b ct d:AJ),bindArgs (W.fnOf x a (iW st) (gk st) (aG st) .none kV c pm e b ct) ⟨[d],[]⟩=pure (([a0]:AH).zip [d]):=by intros;rfl):Binds K fd [a0] []:=F.binds λkV c pm e b ct us hl=>by obtain⟨d,_,rfl,l1⟩:=cn1 (n:=0) hl;cases List.eq_nil_of_length_eq_zero l1;exact h kV c pm e b ct d
theorem bd2{K:aB}{x a:Str}{st:Stmt}{f:AI}{fd:AL}(F:Fun K x a st f fd)(a0 i:Str)(h:∀(kV c pm:AJ) (g:Option AI) (b ct e d:AJ),bindArgs (W.fnOf x a (iW st) (gk st) (aG st) .none kV c pm g b ct) ⟨[e,d],[]⟩=pure (([a0,i]:AH).zip [e,d]):=by intros;rfl):Binds K fd [a0,i] []:=F.binds λkV c pm g b ct us hl=>by obtain⟨e,_,rfl,l1⟩:=cn1 (n:=1) hl;obtain⟨d,_,rfl,l2⟩:=cn1 (n:=0) l1;cases List.eq_nil_of_length_eq_zero l2;exact h kV c pm g b ct e d
theorem bd3{K:aB}{x a:Str}{st:Stmt}{f:AI}{fd:AL}(F:Fun K x a st f fd)(a0 k j:Str)(h:∀(kV c pm:AJ) (i:Option AI) (b ct g d e:AJ),bindArgs (W.fnOf x a (iW st) (gk st) (aG st) .none kV c pm i b ct) ⟨[g,d,e],[]⟩=pure (([a0,k,j]:AH).zip [g,d,e]):=by intros;rfl):Binds K fd [a0,k,j] []:=F.binds λkV c pm i b ct us hl=>by obtain⟨g,_,rfl,l1⟩:=cn1 (n:=2) hl;obtain⟨d,_,rfl,l2⟩:=cn1 (n:=1) l1;obtain⟨e,_,rfl,l3⟩:=cn1 (n:=0) l2;cases List.eq_nil_of_length_eq_zero l3;exact h kV c pm i b ct g d e
theorem bd4{K:aB}{x a:Str}{st:Stmt}{f:AI}{fd:AL}(F:Fun K x a st f fd)(a0 m k l:Str)(h:∀(kV c pm:AJ) (j:Option AI) (b ct i d e g:AJ),bindArgs (W.fnOf x a (iW st) (gk st) (aG st) .none kV c pm j b ct) ⟨[i,d,e,g],[]⟩=pure (([a0,m,k,l]:AH).zip [i,d,e,g]):=by intros;rfl):Binds K fd [a0,m,k,l] []:=F.binds λkV c pm j b ct us hl=>by obtain⟨i,_,rfl,l1⟩:=cn1 (n:=3) hl;obtain⟨d,_,rfl,l2⟩:=cn1 (n:=2) l1;obtain⟨e,_,rfl,l3⟩:=cn1 (n:=1) l2;obtain⟨g,_,rfl,l4⟩:=cn1 (n:=0) l3;cases List.eq_nil_of_length_eq_zero l4;exact h kV c pm j b ct i d e g
theorem bd5{K:aB}{x a:Str}{st:Stmt}{f:AI}{fd:AL}(F:Fun K x a st f fd)(a0 n l m o:Str)(h:∀(kV c pm:AJ) (k:Option AI) (b ct j d e i g:AJ),bindArgs (W.fnOf x a (iW st) (gk st) (aG st) .none kV c pm k b ct) ⟨[j,d,e,i,g],[]⟩=pure (([a0,n,l,m,o]:AH).zip [j,d,e,i,g]):=by intros;rfl):Binds K fd [a0,n,l,m,o] []:=F.binds λkV c pm k b ct us hl=>by obtain⟨j,_,rfl,l1⟩:=cn1 (n:=4) hl;obtain⟨d,_,rfl,l2⟩:=cn1 (n:=3) l1;obtain⟨e,_,rfl,l3⟩:=cn1 (n:=2) l2;obtain⟨i,_,rfl,l4⟩:=cn1 (n:=1) l3;obtain⟨g,_,rfl,l5⟩:=cn1 (n:=0) l4;cases List.eq_nil_of_length_eq_zero l5;exact h kV c pm k b ct j d e i g
structure Hh(P:AM)(w:AO)(K:aB)(mg:As)(base:Heap)(n:Nat)(f:AI)(fd:AL)(ps:AH)(sp:Sp):Prop where
 g:qy P w K mg base (G.RG P w) n f fd ps sp
 b:Binds K fd ps []
 k:W.keepIn K (.ref f)=true
abbrev Fn5(P:AM)(w:AO)(K:aB)(mg:As)(base:Heap)(n:Nat)(f:AI)(fd:AL)(ps:AH)(sp:Sp):Prop:=qy P w K mg base (G.RG P w) n f fd ps sp
section
variable {X:Cx}{n k:Nat}{f:AI}{fd:AL}{ps:AH}{sp:Sp}{x:Str}{e:AN}{es:AG}{t:TA}{p pos:Pos}{s:Stmt}
theorem dJ(h:Hh X.prog X.w X.K X.mg X.base n f fd ps sp)(hr:Room k X.A)(mo:∀{s:Str}{v:AJ},W.nsIn X.K mainGlobals s=some eW->X.mg s=some v)(hm:FA X.K x s f)(i:PA X (e::es) t)(hn:n<=k:=by decide)(hg:X.env.kindOf x=some .globalImplicit:=by rfl)(c:(x == ("__debug__":Str))=false:=by decide)(j:starEach (e::es) X.env=(false,eval e X.env)::starEach es X.env:=by rfl)(d:(backTo pos dQ).any (·.1)=false:=by rfl):PE X (.Call (.Name x p) (e::es) [] pos) (aQ sp [] E0 t):=qP h.g (hr.mono hn) hg (mo hm.a) h.k h.b .nil G.dN i c j d
end
theorem cF{N P:AH}{h:Scope}(a:h.kind=.function:=by rfl)(b:h.isCoroutine=false:=by rfl)(c:h.isGenerator=false:=by rfl)(d:N.Nodup:=by decide +kernel)(e:N.take P.length=P:=by rfl)(f:∀x∈P,h.names.lookup x=some .local\/h.names.lookup x=some .cell:=by decide +kernel)(g:∀y∈h.names,y.2≠.free:=by decide +kernel):aP N P h:=⟨a,b,c,d,e,f,g⟩
abbrev vL:AH:=["self","birth","many","bulk","tone"]
abbrev tR:AH:=["self","field"]
abbrev vJ:AH:=["self","room"]
abbrev wU:AH:=["self","many","bulk","tone"]
abbrev Oz:AH:=["self","cell"]
abbrev JX:AH:=["self","place"]
abbrev VD:AH:=["heap","place"]
abbrev Ox:AH:=["heap","place"]
abbrev Vr:AH:=["heap","rows"]
abbrev Zad:AH:=["heap","places","way"]
abbrev vK:AH:=["self","name","many"]
abbrev tL:AH:=["self","room","kind","hands"]
abbrev JH:AH:=["heap","places"]
abbrev JD:AH:=["world","hand"]
abbrev JF:AH:=["world","cell"]
abbrev Vs:AH:=["world","place"]
abbrev JC:AH:=["world","place"]
abbrev Zkh:AH:=["world","place"]
abbrev Ov:AH:=["world","places"]
abbrev Zki:AH:=["world","place","birth"]
abbrev Vq:AH:=["world","place","birth"]
abbrev DP:AH:=["world","hands"]
abbrev pX:AH:=["self","hands"]
abbrev oR:AH:=["self","looked","hands"]
abbrev tO:AH:=["self","hands"]
abbrev tQ:AH:=["self","looked","hands"]
abbrev tM:AH:=["self","looked","hands"]
abbrev vI:AH:=["self","looking","tells"]
abbrev Ou:AH:=["world","hand"]
abbrev VB:AH:=["world","hand","slot"]
abbrev JG:AH:=["world","hand","slot","field"]
abbrev zN:AH:=["world","place"]
abbrev zO:AH:=["world","hand","place"]
abbrev Vw:AH:=["world","deed"]
abbrev Zaf:AH:=["world","deed"]
abbrev Zae:AH:=["world","deed"]
abbrev Vz:AH:=["world","deed"]
abbrev Vy:AH:=["world","deed"]
abbrev Vx:AH:=["world","deed"]
abbrev Ow:AH:=["world","deed"]
abbrev Vu:AH:=["world","deed"]
abbrev Vv:AH:=["world","deed"]
abbrev Vt:AH:=["world","deed"]
abbrev zP:AH:=["world","word"]
abbrev Zuc:AH:=["world","deed"]
abbrev JW:AH:=["_law_script","_law_k"]
abbrev JT:AH:=["_law_cell_here","_law_prime","_law_many"]
abbrev JK:AH:=["_law_cell_here","_law_w"]
abbrev DY:AH:=["_law_script"]
abbrev JN:AH:=["_law_script"]
abbrev JR:AH:=["_law_number_here"]
abbrev JP:AH:=["_law_n","_law_h","_law_s"]
abbrev JQ:AH:=["_law_n"]
abbrev JV:AH:=["_law_n","_law_hands_here","_law_seed"]
abbrev Eb:AH:=["_law_n","_law_hands_here","_law_seed"]
abbrev DQ:AH:=["_law_hands_here","_law_cell_here","_law_seed"]
abbrev JM:AH:=["_law_script","_law_hands_here"]
abbrev zR:AH:=["_law_found"]
abbrev Ea:AH:=["_law_found","_law_due"]
abbrev JS:AH:=["_law_world","_law_deed_here"]
abbrev JL:AH:=["_law_cells","_law_births","_law_mark"]
abbrev zT:AH:=["_law_after","_law_before","_law_marks"]
abbrev zU:AH:=["_law_cells"]
abbrev DW:AH:=["_law_rows_here","_law_fields_here"]
abbrev DR:AH:=["_law_world","_law_most"]
abbrev DX:AH:=["_law_world","_law_before","_law_fallen"]
abbrev Ec:AH:=["_law_world","_law_before","_law_events","_law_fallen"]
abbrev zQ:AH:=["_law_world","_law_other","_law_many"]
section
variable {X:Cx}
theorem fB{a b:AN}{d tb:TE}{c:Pos}{r:R2}(hr:IxR X r)(e:PE X a d)(hb:PE X b tb)(hs:Zgu b:=by exact λ_ _=>rfl):PE X (.Subscript a b c) (bx r d tb):=Zub hr e hb hs
theorem pdg{o i:AN}{b ty:TE}{a:Pos}{k:Nat}(hr:Room k X.A)(c:PE X o b)(hi:PE X i ty)(hs:Zps i:=by exact λ_ _=>rfl):PE X (.Subscript o i a) (IK b ty):=Zo2 (qe hr) c hi hs
theorem jj{a b:AN}{e tb:TE}{d:Pos}{c:CmpOp}{r:R2}(f:uz X (compareOp c) r)(g:PE X a e)(hb:PE X b tb)(hm:behindInMarks c b=false:=by exact Az _):PT X (.Compare a [c] [b] d) (bL (bx r e tb)):=Znw f g hb hm
theorem dM(i:Nat){x:Str}{e:AN}{c:TE}{a b:Pos}(g:X.N.Nodup)(f:PE X e c)(hi:X.N[i]? =some x:=by rfl)(hx:Loc X.env.scope x:=by exact Or.inl rfl)(hs:swapsWith e (some (.Name x a)) b.line X.env=pure false:=by rfl)(d:X.fn x=true\/X.env.scope.names.lookup x=some .local:=by first | exact .inl rfl | exact .inr rfl | assumption):PS X (.Assign [.Name x a] e b) (bC c (aL i)):=Zd8 g hi hx f hs d
end
structure PAw(X:Cx)(es:AG)(t:TA):Prop where
 h:PA X es t
structure PSw(X:Cx)(st:List Stmt)(t:TS):Prop where
 h:ZP X st t
structure PPw(X:Cx)(pos:Pos)(keys:List (Option AN))(values:AG)(trs:List (TE×TE)):Prop where
 h:PPs X pos keys values trs
structure PEw(X:Cx)(e:AN)(t:TE):Prop where
 h:PE X e t
section
variable {X:Cx}
theorem gQ{st rest t u}(h1:PS X st t)(h2:PSw X rest u):PSw X (st::rest) (aM t u):=⟨ao h1 h2.h⟩
theorem Znx{st t}(h1:PS X st t):PSw X [st] t:=⟨aA h1⟩
end
open PySem.Spec PyProof.Rows in
theorem Zxl{P:AM}{w:AO}{K:aB}{mg:As}{base:Heap}{x a:Str}{st:Stmt}{f:AI}{fd:AL}{N ps:AH}{sp:Sp}{k:Nat}(F:Fun K x a st f fd)(S:aP N ps (aG st))(len:∀vs H Q E,sp vs H Q E->vs.length=ps.length)
  (c:∀(b:AJ) (A:Around) (outer:List Env) (s:AK) (H:Hp) (vs:List V) (Q:VK) (E:XK),Room k (A.deeper (envOfC a (aG st) s.heap.objs.size f b))->sp vs H Q E->
   ∃t,PSw (HD (RG P w) P w K mg base N a (aG st) f b A outer s H E).nox (gk st) t/\t { nx:=λ_ H'=>Q .non H',rt:=Q } (start N vs) H):qy P w K mg base (RG P w) dG f fd ps sp:=
 G.fok F S len λb A outer s H vs Q E hr h=>let ⟨t,p,q⟩:=c b A outer s H vs Q E hr h;⟨t,p.h,q⟩
set_option genInjectivity false in
structure Ad where
 (oE bG bR cT cA vW Gm uw vU iK QV K4 K3 Gk Wy QT Wv Zbt vV qi um Zmj Ag Ky Ku Kv FW Ww FJ Ks Zga Zmi QM Zmk Zg9 Wu FQ fP fM Zmg Af Zqj FZ QS FN fO FP Zqi dY Zmh Ws Zbu fc iu gJ ur uv uo Gj vR QL Wx Kw Ab Ac lD nZ nY lG lF lE jJ lB lC lA Ae Zvq K1 KY Kz Gf KH KQ KJ KN KZ Gh Ga KD Ai Gg KR KC Aj Ak Gd Gb Ge Gi Ah:AI)
structure Bd where
 u:Unit
 (uT:AL)
structure Tx1(K:aB)(XQ:Cs)(AD:Ad):Prop where
 Ztm:Ns K "Cell" XQ.C
 Zti:Ns K "Heap" XQ.H
 Ztj:Ns K "Hand" XQ.D
 Zj0:Ns K "Sweeper" XQ.S
 Zgn:Ns K "World" XQ.W
 Zpp:Ns K "First" XQ.F
 Ztl:Ns K "Each" XQ.E
 Zth:Ns K "Last" XQ.L
 Zez:Ns K "Kind" XQ.K
 Zc9:Ns K "GreyError" AD.oE
 Zca:Ns K "EmptySlot" AD.bG
 Zj1:Ns K "NoField" AD.bR
 Ztk:Ns K "Full" AD.cT
 Zn4:Ns K "NoName" AD.cA
 uf:MT K XQ.C "__init__" "Cell.__init__" vC AD.vW
 nj:MT K XQ.C "units" "Cell.units" Dd AD.Gm
 rA:MT K XQ.C "has_field" "Cell.has_field" sZ AD.uw
 uc:MT K XQ.H "__init__" "Heap.__init__" vA AD.vU
 J3:MT K XQ.H "lay" "Heap.lay" NK AD.QV
 En:MT K XQ.H "back" "Heap.back" Jt AD.K4
 uN:MT K XQ.H "free" "Heap.free" Js AD.K3
 rW:MT K XQ.H "there" "Heap.there" Dc AD.Gk
 mO:FA K "cell_at" Vk AD.Wy
 iU:FA K "birth_at" NB AD.QT
 VP:FA K "reached" Va AD.Wv
 Qc:FA K "onward" Z8 AD.Zbt
 ud:MT K XQ.D "__init__" "Hand.__init__" vB AD.vV
 oW:MT K XQ.S "__init__" "Sweeper.__init__" pM AD.qi
 lV:MT K XQ.W "__init__" "World.__init__" sV AD.um
 Zld:FA K "held" Zjr AD.Zmj
 nA:FA K "births_held" yZ AD.Ag
 rB:FA K "births_at" Jf AD.Ky
 J8:FA K "looked_at" Jb AD.Ku
 iH:FA K "has_sense" Jc AD.Kv
 Ep:FA K "is_walking" Cw AD.FW
 VR:FA K "mark_of" Vb AD.Ww
 lW:FA K "told_cells" Cq AD.FJ
 J7:FA K "told_cell" IW AD.Ks
 Zfy:FA K "begin" Zfi AD.Zga
 Zlc:FA K "note" Zjq AD.Zmi
 mL:FA K "note_all" Nv AD.QM
 Yg:FA K "gone" Zjs AD.Zmk
 Zfx:FA K "roots" Zfh AD.Zg9
 VN:FA K "root_of" U9 AD.Wu
 uP:FA K "note_hands" Cv AD.FQ
 xq:FA K "step_at_rest" wG AD.fP
 xj:FA K "step_in_walk" wD AD.fM
 Zlb:FA K "walk" Zjo AD.Zmg
 zZ:FA K "look_or_cut" yX AD.Af
 Zq9:FA K "cut" Zq0 AD.Zqj
 Er:FA K "first_loss" Cy AD.FZ
 Qd:FA K "given_up" Ny AD.QS
 uO:FA K "told_again" Cr AD.FN
 xm:FA K "step_in_give" wF AD.fO
 Eo:FA K "pass_place" Cu AD.FP
 Zq8:FA K "end" s_end AD.Zqi
 ug:FA K "step_when_lost" sU AD.dY
 Qa:FA K "step" Zjp AD.Zmh
 Hg:FA K "to_rest" U8 AD.Ws
 Qf:FA K "all_of" Za1 AD.Zbu
 fY:MT K XQ.E "at_begin" "Looking.at_begin" pN AD.fc
 jH:MT K XQ.F "next_look" "Looking.next_look" oK AD.iu
 iC:MT K XQ.E "stays" "Looking.stays" vq AD.gJ
 q8:MT K XQ.F "at_begin" "First.at_begin" sX AD.ur
 rz:MT K XQ.E "next_look" "Each.next_look" sY AD.uv
 qZ:MT K XQ.L "next_look" "Last.next_look" sW AD.uo
 rT:MT K XQ.L "stays" "Last.stays" CZ AD.Gj
 jO:MT K XQ.K "__init__" "Kind.__init__" vz AD.vR
 gG:FA K "slots_of" Nu AD.QL
 jP:FA K "cell_in" Vj AD.Wx
 nW:FA K "fields_in" Je AD.Kw
 zY:FA K "told_as_old" yU AD.Ab
 rZ:FA K "told_as_new" yV AD.Ac
 V3:FA K "do_make" Vf AD.lD
 Zb1:FA K "do_get" Za0 AD.nZ
 Zb0:FA K "do_put" Z9 AD.nY
 V6:FA K "do_copy" Vi AD.lG
 V5:FA K "do_drop" Vh AD.lF
 V4:FA K "do_give" Vg AD.lE
 Qe:FA K "do_write" Nz AD.jJ
 V1:FA K "do_read" Vd AD.lB
 V2:FA K "do_name" Ve AD.lC
 V0:FA K "do_seek" Vc AD.lA
 sr:FA K "place_named" yW AD.Ae
 Zru:FA K "do" Zu1 AD.Zvq
 iI:FA K "_law_cell" Jr AD.K1
 cG:FA K "_law_draw" Jp AD.KY
 rC:FA K "_law_word" Jg AD.Kz
 Ey:FA K "_law_hands" CQ AD.Gf
 xr:FA K "_law_room" Jj AD.KH
 xu:FA K "_law_kind" Jm AD.KQ
 Kd:FA K "_law_made" Jk AD.KJ
 Ke:FA K "_law_load" Jl AD.KN
 Kf:FA K "_law_deed" Jq AD.KZ
 EY:FA K "_law_deeds" CV AD.Gh
 Es:FA K "_law_start" Cz AD.Ga
 Kc:FA K "_law_rows" Ji AD.KD
 nD:FA K "_law_number" zb AD.Ai
 Ez:FA K "_law_event" CT AD.Gg
 xx:FA K "_law_hand" Jo AD.KR
 J9:FA K "_law_with" Jh AD.KC
 z7:FA K "_law_marked" zj AD.Aj
 z8:FA K "_law_fields" zm AD.Ak
 Eu:FA K "_law_reach" CJ AD.Gd
 Et:FA K "_law_round" CG AD.Gb
 Ew:FA K "_law_names" CP AD.Ge
 Fb:FA K "_law_alone" CW AD.Gi
 z6:FA K "_law_rounds" za AD.Ah
 yK:CA K XQ.C
 dR:Fo K XQ.C "birth"
 nU:Fo K XQ.C "bulk"
 nT:Fo K XQ.C "tone"
 jG:Fo K XQ.C "load"
 fH:Fo K XQ.C "fields"
 pA:CA K XQ.H
 nQ:Fo K XQ.H "room"
 bO:Fo K XQ.H "cells"
 gU:Fo K XQ.H "used"
 nR:Fo K XQ.H "born"
 Zgk:CA K XQ.D
 Zax:Fo K XQ.D "name"
 Ye:Fo K XQ.D "slots"
 Q6:CA K XQ.S
 LK:Fo K XQ.S "sense"
 LQ:Fo K XQ.S "phase"
 PN:Fo K XQ.S "grey"
 G8:Fo K XQ.S "looked"
 PJ:Fo K XQ.S "turn"
 Yc:Fo K XQ.S "at"
 PK:Fo K XQ.S "stop"
 LC:Fo K XQ.S "walks"
 LR:Fo K XQ.S "looks"
 G7:Fo K XQ.S "passes"
 PL:Fo K XQ.S "loss"
 Q5:CA K XQ.W
 Yb:Fo K XQ.W "heap"
 X8:Fo K XQ.W "kind"
 SM:Fo K XQ.W "hands"
 SJ:Fo K XQ.W "names"
 Lz:Fo K XQ.W "sweeper"
 ux:CA K XQ.F
 Zku:W.findIn K (.ref XQ.F) "__init__"=some eI
 yJ:CA K XQ.E
 Zod:W.findIn K (.ref XQ.E) "__init__"=some eI
 yI:CA K XQ.L
 Zoc:W.findIn K (.ref XQ.L) "__init__"=some eI
 My:CA K XQ.K
 PX:Fo K XQ.K "looking"
 Yd:Fo K XQ.K "tells"
 ZS:W.excIn K AD.bG [.type "ValueError",.type "Exception",.type "BaseException",.type "object"] "ValueError.__new__"=true
 Zqq:W.excIn K AD.cT [.type "ValueError",.type "Exception",.type "BaseException",.type "object"] "ValueError.__new__"=true
 Zgx:W.excIn K AD.bR [.type "ValueError",.type "Exception",.type "BaseException",.type "object"] "ValueError.__new__"=true
 Zj4:W.excIn K AD.cA [.type "ValueError",.type "Exception",.type "BaseException",.type "object"] "ValueError.__new__"=true
 wj:W.exmOne K (.ref AD.bG) (.ref AD.oE)=some true
 yO:W.exmOne K (.ref AD.bR) (.ref AD.oE)=some true
 HB:W.exmOne K (.ref AD.cT) (.ref AD.oE)=some true
 Bf:W.exmOne K (.ref AD.cA) (.ref AD.oE)=some true
structure Txt(w:AO)(K:aB)(mg:As)(XQ:Cs)(AD:Ad)(BD:Bd):Prop extends Tx1 K XQ AD where
 mo {s:Str}{v:AJ}:W.nsIn K mainGlobals s=some eW->mg s=some v
 U3:G.Tab K w mg "STEPS" [("rest",AD.fP),("walk",AD.fM),("give",AD.fO),("lost",AD.dY)]
 U4:G.Tab K w mg "DEEDS" [("make",AD.lD),("get",AD.nZ),("put",AD.nY),("copy",AD.lG),("drop",AD.lF),("give",AD.lE),("write",AD.jJ),("read",AD.lB),("name",AD.lC),("seek",AD.lA)]
 Mx:G.EqD K XQ.C
 ue:Meth K XQ.E "at_begin" AD.fc
 rY:Meth K XQ.E "stays" AD.gJ
 qb:Meth K XQ.F "next_look" AD.iu
 p8:Meth K XQ.F "stays" AD.gJ
 tZ:Meth K XQ.L "at_begin" AD.fc
 Em:Meth K XQ.H "make" AD.iK
 W5:mg "bool"=none
 kZ:mg "enumerate"=none
 Zfd:mg "int"=none
 fD:mg "isinstance"=none
 fu:mg "len"=none
 oG:mg "list"=none
 Zfc:mg "min"=none
 kj:mg "range"=none
 Zfb:mg "str"=none
 Zfa:mg "sum"=none
 BJ:mg "tuple"=none
 Zqg:G.GC mg "NEW" (.int 2)
 Zqf:G.GC mg "OLD" (.int 1)
 Lf:G.Zto K "make" "Heap.make" jD AD.iK BD.uT
 xP:Binds K BD.uT wU []
 Km:Ki K AD.iK
theorem mkT{K:aB}{C f:AI}{q:Str}{s:Stmt}(c:CA K C)(m:MT K C "__init__" q s f):Mk K C f:=⟨c.mk',m.m.at_,m.m.fn,c.k⟩
section
variable {P:AM}{w:AO}{K:aB}{mg:As}{base:Heap}{x qual:Str}{st:Stmt}{f:AI}{n:Nat}{ps:AH}{sp:Sp}{g:FnG K x qual st f}
theorem Zt1(b:Binds K (gj g) ps [])(h:Fun K x qual st f (gj g)->Fn5 P w K mg base n f (gj g) ps sp):ι n f (gj g) ps sp:=⟨h (Fz g),b,(Fz g).kp⟩
end
local macro_rules | `(tactic| walk_at "okb")=>`(tactic| first | exact bd1 (Fz _) _ | exact bd2 (Fz _) _ _ | exact bd3 (Fz _) _ _ _ | exact bd4 (Fz _) _ _ _ _ | exact bd5 (Fz _) _ _ _ _ _)
local macro_rules | `(tactic| walk_at"k")=>`(tactic| (first | (obtain ⟨_,rfl,_⟩:=h;rfl) | (obtain ⟨_,_,rfl,_⟩:=h;rfl) | (obtain ⟨_,_,_,rfl,_⟩:=h;rfl) | (obtain ⟨_,_,_,_,rfl,_⟩:=h;rfl) | (obtain ⟨_,_,_,_,_,rfl,_⟩:=h;rfl) | (obtain ⟨_,_,_,_,_,_,rfl,_⟩:=h;rfl) | (obtain ⟨_,_,_,_,_,_,_,rfl,_⟩:=h;rfl)))
local macro_rules | `(tactic| walk_at "ok")=>`(tactic| (refine Zt1 ?b λF=>?_;(case b=>walk_at "okb");refine G.fok F sc (λvs H Q E h=>?_) eK;· (walk_at"k")))
local macro_rules | `(tactic| walk_at "okw")=>`(tactic| (refine Zt1 ?b λF=>?_;(case b=>walk_at "okb");refine Zxl F sc (λvs H Q E h=>?_) eK;· (walk_at"k")))
local macro_rules | `(tactic| walk_at "okDX")=>`(tactic| (refine G.Zvp F sc (λvs H Q E h=>?_) eK;· (walk_at"k")))
local macro_rules | `(tactic| walk_at "okL")=>`(tactic| (refine G.fok F sc (λvs H Q E h=>?_) eK;· (walk_at"k")))
local macro_rules | `(tactic| walk_at "okX")=>`(tactic| (refine Zt1 ?b λF=>?_;(case b=>walk_at "okb");refine G.Zxm F sc (λvs H Q E h=>?_) eK;· (walk_at"k")))
section
variable {P:AM}{w:AO}{K:aB}{mg:As}{base:Heap}{XQ:Cs}{AD:Ad}{BD:Bd}(T:Txt w K mg XQ AD BD)
include T
theorem jU:lK K XQ:=⟨⟨T.yK.c,T.dR,T.nU,T.nT,T.jG,T.fH,T.pA.c,T.nQ,T.bO,T.gU,T.nR,T.Mx⟩,T.Q5.c,T.Yb,T.X8,T.SM,T.SJ,T.Lz,T.Zgk.c,T.Zax,T.Ye,T.My.c,T.PX,T.Yd,T.Q6.c,T.LK,T.LQ,T.PN,T.G8,T.PJ,T.Yc,T.PK,T.LC,T.LR,T.G7,T.PL⟩
theorem tW:ι 1 AD.vW (gj T.uf.g) vL (Le XQ.C):=by
 have sc:aP ["self","birth","many","bulk","tone"] vL (aG vC):=cF;walk_at "ok"
 ·refine⟨_,(ao (cg Ξ ω rfl)
   (ao (cg Ξ af rfl)
   (ao (cg Ξ bv rfl)
   (ao eo
   (aA (cg Ξ (aX Zkp (cI (aa (eY) au)) ac) rfl)))))),?_⟩
  obtain⟨z0,z1,z2,z3,z4,rfl,q⟩:=h;exact Io (jU T).c q
theorem jk:ι 1 AD.Gm (gj T.nj.g) ["self"] (vh XQ.C):=by
 have sc:aP ["self"] ["self"] (aG Dd):=cF;walk_at "ok"
 ·refine⟨_,(aA (aN (aX eZ (aX eZ (az) ay) ο))),?_⟩;obtain⟨z0,rfl,q⟩:=h;exact Ul (jU T).c q
theorem qX:ι 1 AD.uw (gj T.rA.g) tR (K9 XQ):=by
 have sc:aP ["self","field"] tR (aG sZ):=cF;walk_at "ok"
 ·refine⟨_,(aA (aN (Zkf Zue zV (az) ω ay))),?_⟩;obtain⟨z0,z1,rfl,q⟩:=h;exact Gx cv q
theorem tU:ι 1 AD.vU (gj T.uc.g) vJ (Lb XQ.H):=by
 have sc:aP ["self","room"] vJ (aG vA):=cF;walk_at "ok"
 ·refine⟨_,(ao (cg Ξ ω rfl)
   (ao (cg Ξ (cI au) rfl)
   (ao eo
   (aA eo)))),?_⟩
  obtain⟨z0,z1,rfl,q⟩:=h;exact Il (jU T).c q
theorem J0:ι 1 AD.QV (gj T.J3.g) Oz (RC K XQ.H):=by
 have sc:aP ["self","cell","place"] Oz (aG NK):=cF;walk_at "ok"
 ·refine⟨_,(ao (cj (jj (G.Zhj (qe hr)) (eY) ο cN) (ao (jr (wR PySem.F.plainAttrs_list PySem.F.slot_list_append PySem.F.type_list_append mK ο b6))
   (aA (aN (aX rR ay (az))))) bB)
   (ao (dM 2 sc.nd (wR PySem.F.plainAttrs_list PySem.F.slot_list_index PySem.F.type_list_index (G.Zhp (qe hr)) ο (aa (eY) au)))
   (ao (rQ ω (uF ο ac set_list))
   (aA (aN ac))))),?_⟩
  obtain⟨z0,z1,rfl,q⟩:=h;exact Zcf (jU T).c q
theorem o7:ι 1 AD.K3 (gj T.uN.g) ["self"] (rE XQ.H):=by
 have sc:aP ["self"] ["self"] (aG Js):=cF;walk_at "ok"
 ·refine⟨_,(aA (aN (aX rR ο ο))),?_⟩;obtain⟨z0,rfl,q⟩:=h;exact ZK (jU T).c q
theorem m6:ι 1 AD.Gk (gj T.rW.g) ["self"] (pD XQ.H):=by
 have sc:aP ["self"] ["self"] (aG Dc):=cF;walk_at "ok"
 ·refine⟨rP K,(aA (aN (G.JB (cns:=["self"]) [0] (jM rfl T.kj (aa ay au)) (λ_ _ _ _ _=>(G.Av (jj G.wV (fB cH dS Ξ) (eY)))) (λ_ _ _ _ _=>Ξ) rfl rfl χ (by repeat (first | exact trivial | refine⟨rfl,?_⟩)) rfl γ rfl γ γ rfl γ))),?_⟩;obtain⟨z0,rfl,q⟩:=h;exact Uj (jU T).c q
theorem mH:ι 1 AD.Wy (gj T.mO.g) VD (jl XQ.H):=by
 have sc:aP ["heap","place"] VD (aG Vk):=cF;walk_at "ok"
 ·refine⟨_,(ao (cj (PW.pt (jE (jj G.yC ω (eY)) (jE (jj zV ω (az)) (jm (jj Zuf ω ay))))) (aA (aN (eY))) bB)
   (aA (aN (fB cH ο ω)))),?_⟩
  obtain⟨z0,z1,rfl,q⟩:=h;exact Zeq cv q
theorem tV:ι 1 AD.vV (gj T.ud.g) vK (Ld XQ.D):=by
 have sc:aP ["self","name","many"] vK (aG vB):=cF;walk_at "ok"
 ·refine⟨_,(ao (cg Ξ ω rfl)
   (aA (cg Ξ (aX Zkp (cI (aa (eY) au)) ac) rfl))),?_⟩
  obtain⟨z0,z1,z2,rfl,q⟩:=h;exact Im cv q
theorem oU:ι 1 AD.qi (gj T.oW.g) ["self"] (yg XQ.S):=by
 have sc:aP ["self"] ["self"] (aG pM):=cF;walk_at "ok"
 ·refine⟨_,(ao eo
   (ao (cg Ξ (bD) rfl)
   (ao (cg Ξ (cI au) rfl)
   (ao eo
   (ao eo
   (ao eo
   (ao eo
   (ao eo
   (ao eo
   (ao eo
   (aA (cg Ξ (eY) rfl)))))))))))),?_⟩
  obtain⟨z0,rfl,q⟩:=h;exact yP cv q
theorem Zob:ι 1 AD.Zmj (gj T.Zld.g) ["world"] (Zn8 XQ):=by
 have sc:aP ["world"] ["world"] (aG Zjr):=cF;walk_at "ok"
 ·refine⟨Xr K,(aA (aN (G.JB (cns:=[]) [] (eU ο) eD (λ_ _ _ _ _=>(mF G.uW η T.oG G.boot_list (aa ο au))) rfl rfl χ (by repeat (first | exact trivial | refine⟨rfl,?_⟩)) rfl γ rfl γ γ rfl γ))),?_⟩;obtain⟨z0,rfl,q⟩:=h;exact Zp5 (jU T) q
theorem XF:ι 1 AD.Ku (gj T.J8.g) JD (K8 XQ):=by
 have sc:aP ["world","hand"] JD (aG Jb):=cF;walk_at "ok"
 ·refine⟨_,(aA (aN (oY gR (aX OD (aX Zdf bw ω) (az)) (az) (Az _)))),?_⟩;obtain⟨z0,z1,rfl,q⟩:=h;exact Yh cv q
theorem iR:ι 1 AD.Kv (gj T.iH.g) JF (gW XQ):=by
 have sc:aP ["world","cell"] JF (aG Jc):=cF;walk_at "ok"
 ·refine⟨_,(aA (aN (oY gR dS bw (Az _)))),?_⟩;obtain⟨z0,z1,rfl,q⟩:=h;exact YZ cv q
theorem R8:ι 1 AD.FW (gj T.Ep.g) ["world"] (Gq XQ):=by
 have sc:aP ["world"] ["world"] (aG Cw):=cF;walk_at "ok"
 ·refine⟨_,(aA (aN (oY yD bw (bV (aa (bD) (aa (bD) au))) cN))),?_⟩;obtain⟨z0,rfl,q⟩:=h;exact S8 cv q
theorem zW:ι 1 AD.FN (gj T.uO.g) ["event"] (vd K):=by
 have sc:aP ["event"] ["event"] (aG Cr):=cF;walk_at "ok"
 ·refine⟨_,(aA (aN (bV (aa c7 (aa c7 (aa (mF G.uW η T.oG G.boot_list (aa c7 au)) au)))))),?_⟩;obtain⟨z0,rfl,q⟩:=h;exact RK q
theorem Zrh:ι 1 AD.Zqi (gj T.Zq8.g) ["world"] (cM XQ pEnd):=by
 have sc:aP ["world","sweeper"] ["world"] (aG s_end):=cF;walk_at "ok"
 ·refine⟨_,(ao (dM 1 sc.nd ο)
   (ao (cg ω (bD) rfl)
   (aA (aN (bV (aa (bD) (aa dS (aa (cI (aa dS (aa dS (aa dS au)))) au)))))))),?_⟩
  obtain⟨z0,rfl,q⟩:=h;exact Zt6 cv q
theorem VL:ι 1 AD.Zbu (gj T.Qf.g) ["hands"] (RB):=by
 have sc:aP ["hands"] ["hands"] (aG Za1):=cF;walk_at "ok"
 ·refine⟨_,(aA (aN (aX rR (aX Zko (az) Ξ) (az)))),?_⟩;obtain⟨z0,rfl,q⟩:=h;exact Ziz q
theorem ir:ι 1 AD.fc (gj T.fY.g) pX (vg 1):=by
 have sc:aP ["self","hands"] pX (aG pN):=cF;walk_at "ok"
 ·refine⟨_,(aA (aN (az))),?_⟩;obtain⟨z0,z1,rfl,q⟩:=h;exact yR q
theorem nM:ι 1 AD.iu (gj T.jH.g) oR (lJ 0):=by
 have sc:aP ["self","looked","hands"] oR (aG oK):=cF;walk_at "ok"
 ·refine⟨_,(aA (aN (az))),?_⟩;obtain⟨z0,z1,z2,rfl,q⟩:=h;exact yl q
theorem dX:ι 1 AD.gJ (gj T.iC.g) ["self"] (vf (.bl true)):=by
 have sc:aP ["self"] ["self"] (aG vq):=cF;walk_at "ok"
 ·refine⟨_,dj,?_⟩;obtain⟨z0,rfl,q⟩:=h;exact Ij q
theorem qW:ι 1 AD.uv (gj T.rz.g) tQ (lJ 1):=by
 have sc:aP ["self","looked","hands","hand"] tQ (aG sY):=cF;walk_at "ok"
 ·refine⟨_,(ao (iQ PassesOwn.never rfl (jM rfl T.kj ed) eL
   (aA (cj (jj gR (aX OD (aX Zdf ω af) (az)) (az)) (aA (aN (aX Zko (az) af))) bB)))
   (aA (aN (az)))),?_⟩
  obtain⟨z0,z1,z2,rfl,q⟩:=h;exact Gw q
theorem m5:ι 1 AD.Gj (gj T.rT.g) ["self"] (vf (.bl false)):=by
 have sc:aP ["self"] ["self"] (aG CZ):=cF;walk_at "ok"
 ·refine⟨_,dj,?_⟩;obtain⟨z0,rfl,q⟩:=h;exact Ui q
theorem gD:ι 1 AD.vR (gj T.jO.g) vI (yh XQ.K):=by
 have sc:aP ["self","looking","tells"] vI (aG vz):=cF;walk_at "ok"
 ·refine⟨_,(ao (cg Ξ ω rfl)
   (aA (cg Ξ ac rfl))),?_⟩
  obtain⟨z0,z1,z2,rfl,q⟩:=h;exact Ik cv q
theorem gq:ι 1 AD.QL (gj T.gG.g) Ou (gZ XQ):=by
 have sc:aP ["world","hand"] Ou (aG Nu):=cF;walk_at "ok"
 ·refine⟨_,(aA (aN (aJ (fB cH ο ω) rfl))),?_⟩;obtain⟨z0,z1,rfl,q⟩:=h;exact Z5 cv q
theorem O2:ι 1 AD.Ab (gj T.zY.g) zN (Ro XQ):=by
 have sc:aP ["world","place"] zN (aG yU):=cF;walk_at "ok"
 ·refine⟨_,(ao (cj (jj gR (aX OD bw (T.Zqf.pe rfl)) (az)) (aA (aN (cI au))) bB)
   (aA (aN (cI b6)))),?_⟩
  obtain⟨z0,z1,rfl,q⟩:=h;exact M5 cv q
theorem iT:ι 1 AD.K1 (gj T.iI.g) JW (Bs K):=by
 have sc:aP ["_law_script","_law_k"] JW (aG Jr):=cF;walk_at "ok"
 ·refine⟨_,(ao (cj (jj zV ω eh) (aA (aN (fB cH Ξ ω))) bB)
   (aA (aN (az)))),?_⟩
  obtain⟨z0,z1,rfl,q⟩:=h;exact Zm q
theorem cC:ι 1 AD.KY (gj T.cG.g) JT (qp):=by
 have sc:aP ["_law_cell_here","_law_prime","_law_many"] JT (aG Jp):=cF;walk_at "ok"
 ·refine⟨_,(aA (aN (aX eE (aX eE (aX Aw (aX eE Ξ ω) (az)) ω) ac))),?_⟩;obtain⟨z0,z1,z2,rfl,q⟩:=h;exact Zj q
theorem uK:ι 1 AD.Kz (gj T.rC.g) JK (yd):=by
 have sc:aP ["_law_cell_here","_law_w","_law_letters","_law_size","_law_at","_law_rest","_law_sign"] JK (aG Jg):=cF;walk_at "ok"
 ·refine⟨_,(ao (dM 2 sc.nd (bD))
   (ao (dM 3 sc.nd (aX eZ (az) (aX eE Ξ (az))))
   (ao (dM 4 sc.nd (aX eE (aX lU Ξ (az)) af))
   (ao (dM 5 sc.nd (fB Zlp ac dP))
   (ao (dM 6 sc.nd (fB Zlp ac (aX eE (aX eZ (aX lU Ξ (az)) (aX Aw (az) ω)) (az))))
   (aA (aN (aX OJ (aX OJ (aX G.Zft eM bv) (pv 6)) (aX G.Zft eM (aX rR (aX rR af (az)) bv)))))))))),?_⟩
  obtain⟨z0,z1,rfl,q⟩:=h;exact Zb q
theorem XR:ι 1 AD.KN (gj T.Ke.g) JQ (Zgq):=by
 have sc:aP ["_law_n","_law_load_here"] JQ (aG Jl):=cF;walk_at "ok"
 ·refine⟨_,(ao (dM 1 sc.nd (aX eE Ξ (aX XC (az) (az))))
   (ao (cj (jj gR dP (az)) (aA (aN (Zq4 Zj8 ω))) bB)
   (aA (aN ω)))),?_⟩
  obtain⟨z0,rfl,q⟩:=h;exact Zg q
theorem pZ:ι 1 AD.Ai (gj T.nD.g) zR (ye):=by
 have sc:aP ["_law_found"] zR (aG zb):=cF;walk_at "ok"
 ·refine⟨pR,(aA (aN ((Zdb (bM G.qm η T.fD G.boot_isinstance (aa Ξ (aa (uH rfl T.Zfd G.boot_int rfl) au))) (Xy (Zkb (bM G.qm η T.fD G.boot_isinstance (aa Ξ (aa (uH rfl T.W5 G.boot_bool rfl) au))))))))),?_⟩;obtain⟨z0,rfl,q⟩:=h;exact Q9 q
theorem XJ:ι 1 AD.KC (gj T.J9.g) JL (Zx K):=by
 have sc:aP ["_law_cells","_law_births","_law_mark","_law_marks","_law_cell_here","_law_birth"] JL (aG Jh):=cF;walk_at "ok"
 ·refine⟨_,(ao (dM 3 sc.nd (wQ))
   (ao (iQ PassesOwn.never rfl (eU Ξ) eP
   (aA (yx (qe hr) af (fB bI bv (az)) (fB bI bv (az)) rfl)))
   (ao (iQ PassesOwn.never rfl (eU ω) (cZ (i:=5) sc.nd rfl bg)
   (aA (yx (qe hr) af eM ac rfl)))
   (aA (aN af))))),?_⟩
  obtain⟨z0,z1,z2,rfl,q⟩:=h;exact Zc q
theorem Ph:ι 1 AD.Aj (gj T.z7.g) zT (Ie K):=by
 have sc:aP ["_law_after","_law_before","_law_marks","_law_k"] zT (aG zj):=cF;walk_at "ok"
 ·refine⟨pU K,(ao (cj (PW.pt (jE (jq (fK (bM G.qm η T.fD G.boot_isinstance (aa Ξ (aa (uH rfl T.oG G.boot_list rfl) au))))) (jm (jj qQ eh (bM G.bQ η T.fu G.boot_len b6))))) dj bB)
   (ao (iQ PassesOwn.never rfl (jM rfl T.kj (aa (bM G.bQ η T.fu G.boot_len b6) au)) eL
   (ao (cj (PW.pt (jE (jq (fK (bM G.qm η T.fD G.boot_isinstance (aa (fB cH Ξ af) (aa (uH rfl T.BJ G.boot_tuple rfl) au))))) (jm (jj qQ (bM G.bQ η T.fu G.boot_len (aa (fB cH Ξ af) au)) (az))))) dj bB)
   (aA (cj (PW.pt (jE (jj (G.Zkq hr.units) (Oq Zjm (fB cH Ξ af) Zfs (Mr (az))) (Oq Zjm (fB cH ω af) Zfs (Mr (az)))) (jm (jj qQ (fB bI (fB cH Ξ af) (az)) (pdg hr ac (fB bI (fB cH ω af) (az))))))) dj bB))))
   (aA (aN (jT))))),?_⟩
  obtain⟨z0,z1,z2,rfl,q⟩:=h;exact Rc q
theorem Pj:ι 1 AD.Ak (gj T.z8.g) zU (Ih K):=by
 have sc:aP ["_law_cells","_law_fields_here","_law_cell_here"] zU (aG zm):=cF;walk_at "ok"
 ·refine⟨_,(ao (dM 1 sc.nd (wQ))
   (ao (iQ PassesOwn.never rfl (eU Ξ) (cZ (i:=2) sc.nd rfl bg)
   (aA (yx (qe hr) ω (fB bI ac (az)) (fB bI ac (az)) rfl)))
   (aA (aN ω)))),?_⟩
  obtain⟨z0,rfl,q⟩:=h;exact Rg q
theorem Sh:ι 1 AD.Gd (gj T.Eu.g) DW (Rr K):=by
 have sc:aP ["_law_rows_here","_law_fields_here","_law_seen","_law_todo","_law_row","_law_birth"] DW (aG CJ):=cF;walk_at "ok"
 ·refine⟨_,(ao (dM 2 sc.nd (wQ))
   (ao (dM 3 sc.nd (cI au))
   (ao (iQ PassesOwn.never rfl (eU Ξ) eP
   (aA (dM 3 sc.nd (aX mG af bv))))
   (ao (Oj PassesOwn.never (jj (G.Zkr (qe hr)) af (cI au)) (ao (dM 5 sc.nd (Zre PySem.F.plainAttrs_list PySem.F.slot_list_pop PySem.F.type_list_pop Zrs af))
   (aA (cj (PW.pt (Oi (jj G.wV eM (eY)) (Dz (Xw (G4 (qe hr) eM ac))))) (ao (yx (qe hr) ac eM (jT) rfl)
   (aA (dM 3 sc.nd (aX mG af (pdg hr ω eM))))) bB))))
   (aA (aN ac)))))),?_⟩
  obtain⟨z0,z1,rfl,q⟩:=h;exact Ub q
theorem Eh:ι 2 AD.K4 (gj T.En.g) JX (yj XQ.C XQ.H):=by
 have sc:aP ["self","place","cell"] JX (aG Jt):=cF;walk_at "ok"
 ·refine⟨_,(ao (dM 2 sc.nd (fB cH ο ω))
   (ao (cg Ξ (aX rR ο (iB ac T.yK.c T.nj.m (jk T).g ag (jk (P:=P) (base:=base) T).b .nil G.dN)) rfl)
   (ao (rQ (eY) (uF ο ω set_list))
   (aA (aN el))))),?_⟩
  obtain⟨z0,z1,rfl,q⟩:=h;exact ZL (jU T).c q
theorem iG:ι 2 AD.QT (gj T.iU.g) Ox (iY XQ):=by
 have sc:aP ["heap","place","cell"] Ox (aG NB):=cF;walk_at "ok"
 ·refine⟨_,(ao (dM 2 sc.nd (dJ (mH T) hr T.mo T.mO (aa Ξ b6)))
   (ao (cj (jj G.yC ac (eY)) (aA (aN (eY))) bB)
   (aA (aN el)))),?_⟩
  obtain⟨z0,z1,rfl,q⟩:=h;exact Zc6 cv q
theorem VG:ι 2 AD.Zbt (gj T.Qc.g) Zad (Rt K XQ.C XQ.H):=by
 have sc:aP ["heap","places","way"] Zad (aG Z8):=cF;walk_at "ok"
 ·refine⟨yw K (jl XQ.H),(aA (aN (G.Zda (cns:=["heap","way"]) [0,2] (G.Xx rfl T.kZ b6) (λ_ _ _ _ _=>(G.Av (jj G.wV (dJ (mH T) hr T.mo T.mO (aa ac b6)) (eY)))) (λ_ _ _ _ _=>(bV (aa ω (aa (aX Zo6 af (bV bj)) au)))) rfl rfl χ (by repeat (first | exact trivial | refine⟨rfl,?_⟩)) rfl γ rfl γ γ rfl rfl γ))),?_⟩;obtain⟨z0,z1,z2,z3,z4,z5,rfl,q⟩:=h;exact Zhk q
theorem Zdk:ι 2 AD.Ww (gj T.VR.g) Vs (W3 XQ):=by
 have sc:aP ["world","place","sweeper","toned"] Vs (aG Vb):=cF;walk_at "ok"
 ·refine⟨_,(ao (dM 2 sc.nd ο)
   (ao (dM 3 sc.nd (dJ (iR T) hr T.mo T.iH (aa Ξ (aa (fB cH bw ω) au))))
   (ao (cj (jj gR el (bD)) (aA (aN (bD))) bB)
   (ao (cj (jj gR el (bD)) (aA (aN (Zaa (fK af) (bD) (bD)))) bB)
   (ao (cj (jq (fK af)) (aA (aN (bD))) bB)
   (aA (aN (Zaa (jj yD ω el cN) (bD) (bD))))))))),?_⟩
  obtain⟨z0,z1,rfl,q⟩:=h;exact Zdo cv q
theorem Zoa:ι 2 AD.Zmi (gj T.Zlc.g) Zkh (Zn7 XQ):=by
 have sc:aP ["world","place","sweeper","cell"] Zkh (aG Zjq):=cF;walk_at "ok"
 ·refine⟨_,(ao (dM 2 sc.nd ο)
   (ao (dM 3 sc.nd (dJ (mH T) hr T.mo T.mO (aa ο b6)))
   (ao (cj (PW.pt (jE (jj qQ el (bD)) (jE (jj G.yC af (eY)) (jm (fK (dJ (iR T) hr T.mo T.iH (aa Ξ c6))))))) (aA (aN (eY))) bB)
   (ao (cg af el rfl)
   (ao (jr (wR PySem.F.plainAttrs_list PySem.F.slot_list_append PySem.F.type_list_append mK el b6))
   (aA (aN (aJ af rfl)))))))),?_⟩
  obtain⟨z0,z1,rfl,q⟩:=h;exact Zof cv q
theorem XH:ι 2 AD.Zmk (gj T.Yg.g) Zki (Ig XQ):=by
 have sc:aP ["world","place","birth","cell"] Zki (aG Zjs):=cF;walk_at "ok"
 ·refine⟨_,(ao (dM 3 sc.nd (dJ (mH T) hr T.mo T.mO (aa ο b6)))
   (ao (cj (PW.pt (jE (jj G.yC af (eY)) (jm (jj qQ (aJ af rfl) ac)))) dj bB)
   (aA (aN ((Zdb (oY gR bw (bD) (Az _)) (Xy (Zkb (dJ (iR T) hr T.mo T.iH (aa Ξ c6)))))))))),?_⟩
  obtain⟨z0,z1,z2,rfl,q⟩:=h;exact Zp8 cv q
theorem Zai:ι 2 AD.QS (gj T.Qd.g) ["world"] (Rv XQ):=by
 have sc:aP ["world","heap"] ["world"] (aG Ny):=cF;walk_at "ok"
 ·refine⟨wM K XQ.H (pD XQ.H) (gW XQ),(ao (Zd8 (i:=1) sc.nd rfl (Or.inr rfl) ο)
   (aA (aN (G.JB (cns:=["world","heap"]) [0,1] (eU (iB ω T.pA.c T.rW.m (m6 T).g ag (m6 (P:=P) (base:=base) T).b .nil G.dN)) (λ_ _ _ _ _=>(G.Av (jq (fK (dJ (iR T) hr T.mo T.iH (aa ω (aa (fB cH el Ξ) au))))))) (λ_ _ _ _ _=>Ξ) rfl rfl χ (by repeat (first | exact trivial | refine⟨rfl,?_⟩)) rfl γ rfl γ γ rfl γ)))),?_⟩
  obtain⟨z0,rfl,q⟩:=h;exact Zbq cv q
theorem qR:ι 2 AD.dY (gj T.ug.g) ["world"] (cM XQ (VF "lost")):=by
 have sc:aP ["world"] ["world"] (aG sU):=cF;walk_at "ok"
 ·refine⟨_,(aA (aN (dJ (zW T) hr T.mo T.uO (aa bw au)))),?_⟩;obtain⟨z0,rfl,q⟩:=h;exact BW cv q
theorem qU:ι 2 AD.ur (gj T.q8.g) tO (vg 0):=by
 have sc:aP ["self","hands"] tO (aG sX):=cF;walk_at "ok"
 ·refine⟨_,(aA (aN (dJ (VL T) hr T.mo T.Qf b6))),?_⟩;obtain⟨z0,z1,rfl,q⟩:=h;exact Gv q
theorem qT:ι 2 AD.uo (gj T.qZ.g) tM (lJ 2):=by
 have sc:aP ["self","looked","hands"] tM (aG sW):=cF;walk_at "ok"
 ·refine⟨_,(aA (aN (dJ (VL T) hr T.mo T.Qf ed))),?_⟩;obtain⟨z0,z1,z2,rfl,q⟩:=h;exact Gu q
theorem jF:ι 2 AD.Wx (gj T.jP.g) VB (uy XQ AD.bG):=by
 have sc:aP ["world","hand","slot","cell"] VB (aG Vj):=cF;walk_at "okX"
 ·refine⟨_,(ao (dM 3 sc.nd (dJ (mH T) hr T.mo T.mO (aa ο (aa (fB cH (dJ (gq T) hr T.mo T.gG (aa Ξ b6)) ac) au))))
   (ao (cj (jj G.yC af (eY)) (aA (G.DG rfl rfl (T.mo T.Zca) T.ZS (aa (bD) au) (λ_ _ _ _ _ _ _ I hx hE=>G.Xu I hx hE))) bB)
   (aA (aN af)))),?_⟩
  obtain⟨z0,z1,z2,rfl,q⟩:=h;exact Zep cv q
theorem wW:ι 2 AD.Ac (gj T.rZ.g) zO (Br XQ):=by
 have sc:aP ["world","hand","place"] zO (aG yV):=cF;walk_at "ok"
 ·refine⟨_,(ao (cj (PW.pt (jE (jj gR (aX OD bw (T.Zqg.pe rfl)) (az)) (jm (fK (dJ (XF T) hr T.mo T.J8 (aa Ξ b6)))))) (aA (aN (cI au))) bB)
   (aA (aN (cI ed)))),?_⟩
  obtain⟨z0,z1,z2,rfl,q⟩:=h;exact M6 cv q
theorem Ss:ι 2 AD.Gf (gj T.Ey.g) DY (ZC K):=by
 have sc:aP ["_law_script","_law_cell_here","_law_hands_here","_law_h","_law_many"] DY (aG CQ):=cF;walk_at "ok"
 ·refine⟨_,(ao (dM 1 sc.nd bi)
   (ao (dM 2 sc.nd (cI au))
   (ao (iQ PassesOwn.never rfl (jM rfl T.kj (aa (aX eZ (az) (dJ (cC T) hr T.mo T.cG (aa ω ar))) au)) eL
   (ao (dM 4 sc.nd (az))
   (ao (cj (jj gR (aX eE ω (az)) (az)) (aA (dM 4 sc.nd (aX eZ (az) (dJ (cC T) hr T.mo T.cG (aa (aX eZ ω (aX Aw (aX Aw (az) af) af)) ar))))) bB)
   (aA (jr (wR PySem.F.plainAttrs_list PySem.F.slot_list_append PySem.F.type_list_append mK ac (aa (bV (aa (dJ (uK T) hr T.mo T.rC (aa ω c6)) (aa bv au))) au)))))))
   (aA (aN ac))))),?_⟩
  obtain⟨z0,rfl,q⟩:=h;exact Ud q
theorem Ed:ι 2 AD.KH (gj T.xr.g) JN (Zf6 K):=by
 have sc:aP ["_law_script","_law_cell_here"] JN (aG Jj):=cF;walk_at "ok"
 ·refine⟨_,(ao (dM 1 sc.nd bi)
   (ao (cj (jj gR (dJ (cC T) hr T.mo T.cG (aa ω ar)) (az)) (aA (aN (aX eZ (az) (aX eE (aX lU ω (az)) (az))))) bB)
   (aA (aN (aX rR (aX XC (az) (az)) (aX eE ω (aX XC (az) (az)))))))),?_⟩
  obtain⟨z0,rfl,q⟩:=h;exact Ze q
theorem XN:ι 2 AD.KJ (gj T.Kd.g) JP (Zgp):=by
 have sc:aP ["_law_n","_law_h","_law_s","_law_many","_law_bulk"] JP (aG Jk):=cF;walk_at "ok"
 ·refine⟨_,(ao (dM 3 sc.nd (fB cH (cI (aa (az) (aa (az) (aa (az) (aa (az) ar))))) (dJ (cC T) hr T.mo T.cG (aa Ξ ar))))
   (ao (dM 4 sc.nd (az))
   (ao (cj (jj gR (aX eE Ξ (az)) (az)) (aA (dM 4 sc.nd (aX eE Ξ (az)))) bB)
   (ao (cj (jj gR (aX eE Ξ (az)) (az)) (aA (dM 4 sc.nd (aX eE Ξ (aX eZ (aX XC (az) (az)) (az))))) bB)
   (aA (aN (bV (aa (bD) (aa ω (aa ac (aa af (aa bv au)))))))))))),?_⟩
  obtain⟨z0,z1,z2,rfl,q⟩:=h;exact Zf q
theorem Sd:ι 2 AD.Ga (gj T.Es.g) DQ (Zcd K):=by
 have sc:aP ["_law_hands_here","_law_cell_here","_law_seed","_law_rows_here","_law_h","_law_way"] DQ (aG Cz):=cF;walk_at "ok"
 ·refine⟨_,(ao (dM 3 sc.nd (cI au))
   (ao (iQ PassesOwn.never rfl (jM rfl T.kj (aa eh au)) eP
   (ao (dM 3 sc.nd (aX mG af (cI (aa (bV (aa (bD) (aa bv (aa (az) ar)))) (aa (bV (aa (bD) (aa bv (aa (az) ar)))) au)))))
   (aA (dM 3 sc.nd (aX mG af (cI (aa (bV (aa (bD) (aa bv (aa (az) (aa (aX eE bv (az)) (aa (az) au)))))) (aa (bV (aa (bD) (aa bv (aa (az) au)))) au))))))))
   (ao (dM 5 sc.nd (dJ (cC T) hr T.mo T.cG (aa ω ar)))
   (ao (cj (jj Zfv eM (az)) (aA (dM 3 sc.nd (aX mG af (G.JB (cns:=[]) [] (jM rfl T.kj (aa eh au)) eD (λ_ _ _ _ _=>(bV (aa (bD) (aa Ξ (aa (az) ar))))) rfl rfl χ (by repeat (first | exact trivial | refine⟨rfl,?_⟩)) rfl γ rfl γ γ rfl γ)))) bB)
   (ao (dM 3 sc.nd (aX mG af (cI (aa (bV (aa (bD) (aa (aX eZ (az) (dJ (cC T) hr T.mo T.cG (aa ω ar))) au))) au))))
   (ao (iQ PassesOwn.never rfl (jM rfl T.kj (aa eh au)) eP
   (ao (cj (jj gR eM (az)) (aA (dM 3 sc.nd (aX mG af (cI (aa (bV (aa (bD) (aa bv (aa (az) (aa (az) (aa (aX eE bv (az)) au)))))) (aa (bV (aa (bD) (aa bv (aa (az) (aa (aX eE bv (az)) (aa (az) au)))))) au)))))) bB)
   (ao (cj (jj Zfv eM (az)) (aA (dM 3 sc.nd (aX mG af (cI (aa (bV (aa (bD) (aa bv (aa (az) ar)))) (aa (bV (aa (bD) (aa bv (aa (az) ar)))) (aa (bV (aa (bD) (aa bv (aa (az) au)))) au))))))) bB)
   (aA (cj (jj gR eM (az)) (aA (dM 3 sc.nd (aX mG af (cI (aa (bV (aa (bD) (aa bv (aa (az) (aa (dJ (uK T) hr T.mo T.rC (aa ac (aa (aX eE bv (az)) au))) au))))) (aa (bV (aa (bD) (aa bv (aa (az) au)))) au)))))) bB)))))
   (aA (aN af)))))))),?_⟩
  obtain⟨z0,z1,z2,rfl,q⟩:=h;exact T7 q
theorem Su:ι 2 AD.Gg (gj T.Ez.g) Ea (ZF K):=by
 have sc:aP ["_law_found","_law_due","_law_number_here"] Ea (aG CT):=cF;walk_at "ok"
 ·refine⟨rN K (ye),(ao (cj (PW.pt (jE (jq (fK (bM G.qm η T.fD G.boot_isinstance (aa Ξ (aa (uH rfl T.BJ G.boot_tuple rfl) au))))) (jE (jj qQ eh (az)) (jm (jq (fK (bM G.qm η T.fD G.boot_isinstance (aa c7 (aa (uH rfl T.Zfb G.boot_str rfl) au))))))))) dj bB)
   (ao (cj (PW.pt (jE (jq (fK (dJ (pZ T) hr T.mo T.nD (aa c7 au)))) (jm (jq (fK (bM G.qm η T.fD G.boot_isinstance (aa c7 (aa (uH rfl T.oG G.boot_list rfl) au)))))))) dj bB)
   (ao (iQ PassesOwn.never rfl (eU c7) (cZ (i:=2) sc.nd rfl bg)
   (aA (cj (jq (fK (dJ (pZ T) hr T.mo T.nD ed))) dj bB)))
   (aA (aN (oY (G.Zdg hr.units) Ξ ω (Az _))))))),?_⟩
  obtain⟨z0,z1,rfl,q⟩:=h;exact Ue q
theorem XX:ι 3 AD.iK BD.uT wU (La K XQ.C XQ.H AD.cT):=by
 have sc:aP ["self","many","bulk","tone","cell"] wU (aG jD):=cF;refine⟨?_,T.xP,T.Km⟩;have F:=T.Lf;walk_at "okDX"
 ·refine⟨_,(ao (dM 4 sc.nd (qN (mkT T.yK T.uf) (tW T).g ag rfl (T.mo T.Ztm) (tW (P:=P) (base:=base) T).b .nil G.dN (aa (aX eZ ο (az)) (aa ω (aa ac c6)))))
   (ao (cj (jj Zfv (iB bv T.yK.c T.nj.m (jk T).g ag (jk (P:=P) (base:=base) T).b .nil G.dN) (iB Ξ T.pA.c T.uN.m (o7 T).g ag (o7 (P:=P) (base:=base) T).b .nil G.dN)) (aA (G.DG rfl rfl (T.mo T.Ztk) T.Zqq (aa (bD) au) (λ_ _ _ _ _ _ _ I hx hE=>G.Xu I hx hE))) bB)
   (ao (cg Ξ (aJ bv rfl) rfl)
   (ao (cg Ξ (aX eZ ο (iB bv T.yK.c T.nj.m (jk T).g ag (jk (P:=P) (base:=base) T).b .nil G.dN)) rfl)
   (aA (aN (mY Ξ T.pA.c T.J3.m (J0 T).g ag (J0 (P:=P) (base:=base) T).b .nil G.dN (aa bv au)))))))),?_⟩
  obtain⟨z0,z1,z2,z3,rfl,q⟩:=h;exact ZJ (jU T).c q
theorem Zdj:ι 3 AD.Wv (gj T.VP.g) Vr (W2 K XQ.C XQ.H):=by
 have sc:aP ["heap","rows","queue","number","row","listed","taken","place","way"] Vr (aG Va):=cF;walk_at "ok"
 ·refine⟨_,(ao (dM 2 sc.nd (cI au))
   (ao (iQ PassesOwn.never rfl (G.Xx rfl T.kZ b6) (Oo rfl (jZ eL (jZ eP DK)))
   (aA (jr (wR PySem.F.plainAttrs_list PySem.F.slot_list_extend PySem.F.type_list_extend G9 ac (aa (dJ (VG T) hr T.mo T.Qc (aa Ξ (aa bv (aa (bV c6) au)))) au)))))
   (ao (dM 5 sc.nd (wQ))
   (ao (dM 6 sc.nd (az))
   (ao (Oj PassesOwn.never (jj zV (pv 6) (bM G.bQ η T.fu G.boot_len ed)) (ao (dM 7 sc.nd (fB bI (fB cH ac (pv 6)) (az)))
   (ao (dM 8 sc.nd (fB bI (fB cH ac (pv 6)) (az)))
   (ao (dM 6 sc.nd (aX eZ (pv 6) (az)))
   (aA (cj (Xw (G.Zdc (qe hr) (pv 7) eM)) (ao (yx (qe hr) eM (pv 7) (pv 8) rfl)
   (aA (jr (wR PySem.F.plainAttrs_list PySem.F.slot_list_extend PySem.F.type_list_extend G9 ac (aa (dJ (VG T) hr T.mo T.Qc (aa Ξ (aa (aJ (fB cH ο (pv 7)) rfl) (aa (pv 8) au)))) au))))) bB))))))
   (aA (aN (mF (G.Zet rfl) η T.oG G.boot_list (aa (G.Zke eM) au))))))))),?_⟩
  obtain⟨z0,z1,z2,z3,z4,rfl,q⟩:=h;exact Zd6 cv q
theorem jt:ι 3 AD.um (gj T.lV.g) tL (pC XQ):=by
 have sc:aP ["self","room","kind","hands"] tL (aG sV):=cF;walk_at "ok"
 ·refine⟨_,(ao (cg Ξ (qN (mkT T.pA T.uc) (tU T).g ag rfl (T.mo T.Zti) (tU (P:=P) (base:=base) T).b .nil G.dN b6) rfl)
   (ao (cg Ξ ac rfl)
   (ao (cg Ξ (G.Zda (cns:=[]) [] (eU af) eD (λ_ _ _ _ _=>(qN (mkT T.Zgk T.ud) (tV T).g ag rfl (T.mo T.Ztj) (tV (P:=P) (base:=base) T).b .nil G.dN (aa Ξ b6))) rfl rfl χ (by repeat (first | exact trivial | refine⟨rfl,?_⟩)) rfl γ rfl γ γ rfl rfl γ) rfl)
   (ao (cg Ξ (wQ) rfl)
   (aA (cg Ξ (Zkc (mkT T.Q6 T.oW) (oU T).g ag rfl (T.mo T.Zj0) (oU (P:=P) (base:=base) T).b .nil G.dN) rfl)))))),?_⟩
  obtain⟨z0,z1,z2,z3,rfl,q⟩:=h;exact Gp cv q
theorem uJ:ι 3 AD.Ky (gj T.rB.g) JH (oA XQ):=by
 have sc:aP ["heap","places"] JH (aG Jf):=cF;walk_at "ok"
 ·refine⟨_,(aA (aN (G.JB (cns:=["heap"]) [0] (eU ω) eD (λ_ _ _ _ _=>(dJ (iG T) hr T.mo T.iU (aa ω bj))) rfl rfl χ (by repeat (first | exact trivial | refine⟨rfl,?_⟩)) rfl γ rfl γ γ rfl γ))),?_⟩;obtain⟨z0,z1,rfl,q⟩:=h;exact Y8 (jU T) q
theorem Zkt:ι 3 AD.Zga (gj T.Zfy.g) ["world"] (Zgt XQ):=by
 have sc:aP ["world","sweeper"] ["world"] (aG Zfi):=cF;walk_at "ok"
 ·refine⟨_,(ao (dM 1 sc.nd ο)
   (ao (cg ω (aX rR (az) dS) rfl)
   (ao (cg ω (aX eZ dS (az)) rfl)
   (ao (cg ω (bD) rfl)
   (ao (cg ω (cI au) rfl)
   (ao (cg ω (G.qO (mY bw T.ux.c T.q8.m (qU T).g ag (qU (P:=P) (base:=base) T).b .nil G.dN (aa ay au)) (G.qO (mY bw T.yJ.c T.ue (ir T).g ag (ir (P:=P) (base:=base) T).b .nil G.dN (aa ay au)) (mY bw T.yI.c T.tZ (ir T).g ag (ir (P:=P) (base:=base) T).b .nil G.dN (aa ay au)))) rfl)
   (ao (cg ω (az) rfl)
   (ao (cg ω (az) rfl)
   (aA (cg ω (az) rfl)))))))))),?_⟩
  obtain⟨z0,rfl,q⟩:=h;exact Zn1 cv q
theorem nJ:ι 3 AD.QM (gj T.mL.g) Ov (mV XQ):=by
 have sc:aP ["world","places","births","place","birth"] Ov (aG Nv):=cF;walk_at "ok"
 ·refine⟨_,(ao (dM 2 sc.nd (cI au))
   (ao (iQ PassesOwn.never rfl (eU ω) eL
   (ao (dM 4 sc.nd (dJ (Zoa T) hr T.mo T.Zlc (aa Ξ c6)))
   (aA (cj (jj G.wV bv (eY)) (aA (jr (wR PySem.F.plainAttrs_list PySem.F.slot_list_append PySem.F.type_list_append mK ac (aa bv au)))) bB))))
   (aA (aN ac)))),?_⟩
  obtain⟨z0,z1,rfl,q⟩:=h;exact Zam cv q
theorem Zdi:ι 3 AD.Wu (gj T.VN.g) Vq (W0 XQ):=by
 have sc:aP ["world","place","birth"] Vq (aG U9):=cF;walk_at "ok"
 ·refine⟨_,(ao (cj (fK (dJ (XH T) hr T.mo T.Yg (aa Ξ (aa ω ed)))) (aA (aN (eY))) bB)
   (ao (cj (PW.pt (Oi (fK (dJ (R8 T) hr T.mo T.Ep bj)) (Dz (jq (fK (dJ (iR T) hr T.mo T.iH (aa Ξ (aa (fB cH bw ω) au)))))))) (aA (aN (eY))) bB)
   (aA (aN ω)))),?_⟩
  obtain⟨z0,z1,z2,rfl,q⟩:=h;exact Zd5 cv q
theorem R7:ι 3 AD.FP (gj T.Eo.g) ["world"] (cM XQ Zkl):=by
 have sc:aP ["world","sweeper","place","cell"] ["world"] (aG Cu):=cF;walk_at "ok"
 ·refine⟨_,(ao (dM 1 sc.nd ο)
   (ao (dM 2 sc.nd dS)
   (ao (cg ω (aX eZ ac (az)) rfl)
   (ao (cg ω (aX eZ dS (az)) rfl)
   (ao (dM 3 sc.nd (dJ (mH T) hr T.mo T.mO (aa ο ed)))
   (ao (cj (PW.pt (jE (jj G.yC af (eY)) (jm (fK (dJ (iR T) hr T.mo T.iH (aa Ξ c6)))))) (aA (aN (bV (aa (bD) (aa ac (aa (cI au) au)))))) bB)
   (aA (aN (bV (aa (bD) (aa (mY ο T.pA.c T.En.m (Eh T).g ag (Eh (P:=P) (base:=base) T).b .nil G.dN ed) (aa (cI ed) au)))))))))))),?_⟩
  obtain⟨z0,rfl,q⟩:=h;exact R6 cv q
theorem oZ:ι 3 AD.Kw (gj T.nW.g) JG (yf XQ AD.bG AD.bR):=by
 have sc:aP ["world","hand","slot","field","cell"] JG (aG Je):=cF;walk_at "okX"
 ·refine⟨_,(ao (dM 4 sc.nd (qP (jF T).g ag rfl (T.mo T.jP.a) (Fz T.jP.g).kp (jF (P:=P) (base:=base) T).b .nil G.DN (aa Ξ (aa ω ed))))
   (ao (cj (jq (fK (mY bv T.yK.c T.rA.m (qX T).g ag (qX (P:=P) (base:=base) T).b .nil G.dN c6))) (aA (G.DG rfl rfl (T.mo T.Zj1) T.Zgx (aa (bD) au) (λ_ _ _ _ _ _ _ I hx hE=>G.Xu I hx hE))) bB)
   (aA (aN (aJ bv rfl))))),?_⟩
  obtain⟨z0,z1,z2,z3,rfl,q⟩:=h;exact Y6 cv q
theorem Pb:ι 3 AD.lG (gj T.V6.g) Vz (cJ XQ Γ QC):=by
 have sc:aP ["world","deed","slots","place"] Vz (aG Vi):=cF;walk_at "ok"
 ·refine⟨_,(ao (dM 2 sc.nd fi)
   (ao (dM 3 sc.nd (fB cH ac ae))
   (ao (rQ af (uF ac ae set_list))
   (aA (aN (bV (aa (bD) (aa (dJ (iG T) hr T.mo T.iU (aa ο c6)) (aa (cI au) au))))))))),?_⟩
  obtain⟨z0,z1,rfl,q⟩:=h;exact Zel cv q
theorem Pa:ι 3 AD.lF (gj T.V5.g) Vy (cJ XQ Γ QB):=by
 have sc:aP ["world","deed","slots","place"] Vy (aG Vh):=cF;walk_at "ok"
 ·refine⟨_,(ao (dM 2 sc.nd fi)
   (ao (dM 3 sc.nd (fB cH ac ae))
   (ao (rQ (eY) (uF ac ae set_list))
   (aA (aN (bV (aa (bD) (aa (dJ (iG T) hr T.mo T.iU (aa ο c6)) (aa (cI au) au))))))))),?_⟩
  obtain⟨z0,z1,rfl,q⟩:=h;exact Zek cv q
theorem JZ:ι 3 AD.jJ (gj T.Qe.g) Ow (cJ XQ Γ Fj):=by
 have sc:aP ["world","deed","cell","before"] Ow (aG Nz):=cF;walk_at "okX"
 ·refine⟨_,(ao fb
   (ao (dM 3 sc.nd el)
   (ao (cg ac ae rfl)
   (aA (aN (bV (aa (bD) (aa af (aa (cI au) au))))))))),?_⟩
  obtain⟨z0,z1,rfl,q⟩:=h;exact Zbz cv rfl q
theorem O6:ι 3 AD.lB (gj T.V1.g) Vu (cJ XQ Γ Qp):=by
 have sc:aP ["world","deed","cell"] Vu (aG Vd):=cF;walk_at "okX"
 ·refine⟨_,(ao fb
   (aA (aN (bV (aa (bD) (aa el (aa (cI au) au))))))),?_⟩
  obtain⟨z0,z1,rfl,q⟩:=h;exact Zeg cv rfl q
theorem O7:ι 3 AD.lC (gj T.V2.g) Vv (cJ XQ Γ isName):=by
 have sc:aP ["world","deed","hand","slot","birth"] Vv (aG Ve):=cF;walk_at "okX"
 ·refine⟨_,(ao (dM 2 sc.nd ae)
   (ao (dM 3 sc.nd ae)
   (ao (dM 4 sc.nd (aJ (qP (jF T).g ag rfl (T.mo T.jP.a) (Fz T.jP.g).kp (jF (P:=P) (base:=base) T).b .nil G.DN (aa Ξ (aa ac c6))) rfl))
   (ao (yx (qe hr) ο ae (bV (aa (fB cH (dJ (gq T) hr T.mo T.gG (aa Ξ ed)) af) (aa bv au))) rfl)
   (aA (aN (bV (aa (bD) (aa bv (aa (cI au) au)))))))))),?_⟩
  obtain⟨z0,z1,rfl,q⟩:=h;exact Zeh cv rfl q
theorem wX:ι 3 AD.Ae (gj T.sr.g) zP (Ao XQ AD.cA):=by
 have sc:aP ["world","word","place","birth"] zP (aG yW):=cF;walk_at "okX"
 ·refine⟨_,(ao (cj (Xw (G4 (qe hr) ω ο)) (aA (G.DG rfl rfl (T.mo T.Zn4) T.Zj4 (aa (bD) au) (λ_ _ _ _ _ _ _ I hx hE=>G.Xu I hx hE))) bB)
   (ao (dM 2 sc.nd (fB bI (pdg hr ο ω) (az)))
   (ao (dM 3 sc.nd (fB bI (pdg hr ο ω) (az)))
   (ao (cj (fK (dJ (XH T) hr T.mo T.Yg (aa Ξ (aa ac c6)))) (aA (aN (eY))) bB)
   (aA (aN ac)))))),?_⟩
  obtain⟨z0,z1,rfl,q⟩:=h;exact Om cv q
theorem Ef:ι 3 AD.KQ (gj T.xu.g) JR (Zz XQ):=by
 have sc:aP ["_law_number_here"] JR (aG Jm):=cF;walk_at "ok"
 ·refine⟨_,(ao (cj (jj gR (aX eE Ξ (az)) (az)) (aA (aN (qN (mkT T.My T.jO) (gD T).g ag rfl (T.mo T.Zez) (gD (P:=P) (base:=base) T).b .nil G.dN (aa (G.G3 ⟨T.ux.mk',T.Zku,T.ux.k⟩ rfl (T.mo T.Zpp)) (aa dP au))))) bB)
   (ao (cj (jj gR (aX eE Ξ (az)) (az)) (aA (aN (qN (mkT T.My T.jO) (gD T).g ag rfl (T.mo T.Zez) (gD (P:=P) (base:=base) T).b .nil G.dN (aa (G.G3 ⟨T.yJ.mk',T.Zod,T.yJ.k⟩ rfl (T.mo T.Ztl)) (aa dP au))))) bB)
   (aA (aN (qN (mkT T.My T.jO) (gD T).g ag rfl (T.mo T.Zez) (gD (P:=P) (base:=base) T).b .nil G.dN (aa (G.G3 ⟨T.yI.mk',T.Zoc,T.yI.k⟩ rfl (T.mo T.Zth)) (aa dP au))))))),?_⟩
  obtain⟨z0,rfl,q⟩:=h;exact Zh q
theorem XS:ι 3 AD.KZ (gj T.Kf.g) JV (Zgs K):=by
 have sc:aP ["_law_n","_law_hands_here","_law_seed","_law_h","_law_s","_law_t","_law_f","_law_what","_law_g","_law_word_here"] JV (aG Jq):=cF;walk_at "okw"
 ·refine⟨_,(gQ (dM 3 sc.nd (dJ (cC T) hr T.mo T.cG (aa Ξ (aa (az) (aa (bM G.bQ η T.fu G.boot_len b6) au)))))
   (gQ (dM 4 sc.nd (dJ (cC T) hr T.mo T.cG (aa Ξ (aa (az) (aa (fB bI (fB cH ω af) (az)) au)))))
   (gQ (dM 5 sc.nd (dJ (cC T) hr T.mo T.cG (aa Ξ (aa (az) (aa (fB bI (fB cH ω af) (az)) au)))))
   (gQ (dM 6 sc.nd (dJ (cC T) hr T.mo T.cG (aa Ξ (aa (az) (aa (fB cH (cI ar) (aX lU (aX eE Ξ (az)) (az))) au)))))
   (gQ (dM 7 sc.nd (dJ (cC T) hr T.mo T.cG (aa Ξ ar)))
   (gQ (cj (jj zV (pv 7) (az)) (aA (aN (dJ (XN T) hr T.mo T.Kd (aa Ξ (aa af (aa bv au)))))) bB)
   (gQ (cj (jj zV (pv 7) (az)) (aA (aN (bV (aa (bD) (aa af (aa bv (aa eM (aa (pv 6) au)))))))) bB)
   (gQ (cj (jj zV (pv 7) (az)) (aA (aN (bV (aa (bD) (aa af (aa eM (aa (pv 6) (aa bv au)))))))) bB)
   (gQ (cj (jj gR (pv 7) (az)) (aA (aN (bV (aa (bD) (aa af (aa bv (aa eM au))))))) bB)
   (gQ (cj (jj gR (pv 7) (az)) (aA (aN (bV (aa (bD) (aa af (aa bv au)))))) bB)
   (gQ (cj (jj zV (pv 7) (az)) (ao (dM 8 sc.nd (dJ (cC T) hr T.mo T.cG (aa Ξ (aa (az) (aa (bM G.bQ η T.fu G.boot_len b6) au)))))
   (aA (aN (bV (aa (bD) (aa af (aa bv (aa (pv 8) (aa (dJ (cC T) hr T.mo T.cG (aa Ξ (aa (az) (aa (fB bI (fB cH ω (pv 8)) (az)) au)))) au))))))))) bB)
   (gQ (cj (jj gR (pv 7) (az)) (aA (aN (bV (aa (bD) (aa af (aa eM (aa (dJ (XR T) hr T.mo T.Ke bj) au))))))) bB)
   (gQ (dM 9 sc.nd (dJ (uK T) hr T.mo T.rC (aa ac (aa (dJ (cC T) hr T.mo T.cG (aa Ξ ar)) au))))
   (gQ (cj (jj zV (pv 7) (az)) (aA (aN (bV (aa (bD) (aa af (aa eM (aa (pv 9) au))))))) bB)
   (Znx (aN (bV (aa (bD) (aa af (aa bv (aa (pv 9) au))))))))))))))))))))),?_⟩
  obtain⟨z0,z1,z2,rfl,q⟩:=h;exact Zk q
theorem Sq:ι 3 AD.Ge (gj T.Ew.g) DX (Ru XQ):=by
 have sc:aP ["_law_world","_law_before","_law_fallen","_law_births","_law_word_here","_law_place","_law_birth","_law_due","_law_found"] DX (aG CP):=cF;walk_at "ok"
 ·refine⟨rM K (Ig XQ),(ao (G.wO (iz:=3) (cns:=[]) [] (eU ω) eD (λ_ _ _ _ _=>c7) rfl rfl χ (by repeat (first | exact trivial | refine⟨rfl,?_⟩)) rfl γ rfl γ γ rfl γ sc.nd rfl (Or.inl rfl) (Or.inr rfl) rfl)
   (ao (iQ PassesOwn.never rfl (eU (mF (G.Zeu rfl) η T.oG G.boot_list (aa ο au))) eP
   (ao (rQ (pdg hr ο bv) (Oo rfl (jZ (cZ (i:=5) sc.nd rfl bg) (jZ (cZ (i:=6) sc.nd rfl bg) DK))))
   (ao (dM 7 sc.nd ((Zua (oY yD (pv 6) ac cN) (Xy (oY uI (pv 6) af cN)))))
   (ao (dM 8 sc.nd (dJ (XH T) hr T.mo T.Yg (aa Ξ (aa eM (aa (pv 6) au)))))
   (aA (cj (PW.pt (jE (PW.pt (Oi (jj G.Zfu (pv 8) (jT)) (Dz (jj G.Zfu (pv 8) (jT))))) (jm (jj qQ (pv 8) (pv 7))))) dj bB))))))
   (aA (aN (jT))))),?_⟩
  obtain⟨z0,z1,z2,rfl,q⟩:=h;exact Uc cv q
theorem pY:ι 4 AD.Ag (gj T.nA.g) ["world"] (Ry XQ):=by
 have sc:aP ["world"] ["world"] (aG yZ):=cF;walk_at "ok"
 ·refine⟨pP K (oA XQ),(aA (aN (G.JB (cns:=["world"]) [0] (eU ο) eD (λ_ _ _ _ _=>(dJ (uJ T) hr T.mo T.rB (aa dS (aa ο au)))) rfl rfl χ (by repeat (first | exact trivial | refine⟨rfl,?_⟩)) rfl γ rfl γ γ rfl γ))),?_⟩;obtain⟨z0,rfl,q⟩:=h;exact Q7 (jU T) q
theorem XD:ι 4 AD.Ks (gj T.J7.g) JC (K7 XQ):=by
 have sc:aP ["world","place","cell","fields"] JC (aG IW):=cF;walk_at "ok"
 ·refine⟨_,(ao (dM 2 sc.nd (fB cH bw ω))
   (ao (dM 3 sc.nd (dJ (uJ T) hr T.mo T.rB (aa ο (aa el au))))
   (aA (aN (bV (aa ω (aa el (aa el (aa el (aa af (aa (dJ (Zdk T) hr T.mo T.VR (aa Ξ b6)) au))))))))))),?_⟩
  obtain⟨z0,z1,rfl,q⟩:=h;exact W8 cv q
theorem Zks:ι 4 AD.Zg9 (gj T.Zfx.g) ["world"] (Zgo XQ):=by
 have sc:aP ["world"] ["world"] (aG Zfh):=cF;walk_at "ok"
 ·refine⟨_,(aA (aN (aX mG (dJ (Zob T) hr T.mo T.Zld bj) (cI (aa (G.Zo0 (G.Zda (cns:=["world"]) [0] (G.Znz (G.Zhg ο)) eD (λ_ _ _ _ _=>(dJ (Zdi T) hr T.mo T.VN (aa ac (aa Ξ b6)))) rfl rfl χ (by repeat (first | exact trivial | refine⟨rfl,?_⟩)) rfl γ rfl γ γ rfl rfl γ)) au))))),?_⟩;obtain⟨z0,rfl,q⟩:=h;exact Zjt (jU T) q
theorem zX:ι 4 AD.FQ (gj T.uP.g) DP (pB XQ):=by
 have sc:aP ["world","hands","noted","number","hand"] DP (aG Cv):=cF;walk_at "ok"
 ·refine⟨_,(ao (dM 2 sc.nd (cI au))
   (ao (iQ PassesOwn.never rfl (G.Xx rfl T.kZ (aa ο au)) (Oo rfl (jZ eL (jZ eP DK)))
   (aA (cj (jj gR (aX OD (aX Zdf ω af) (az)) (az)) (aA (jr (wR PySem.F.plainAttrs_list PySem.F.slot_list_extend PySem.F.type_list_extend G9 ac (aa (dJ (nJ T) hr T.mo T.mL (aa Ξ (aa (aJ bv rfl) au))) au)))) bB)))
   (aA (aN ac)))),?_⟩
  obtain⟨z0,z1,rfl,q⟩:=h;exact Sy cv q
theorem Zo9:ι 4 AD.Zmg (gj T.Zlb.g) ["world"] (cM XQ Zkj):=by
 have sc:aP ["world","sweeper","cell"] ["world"] (aG Zjo):=cF;walk_at "ok"
 ·refine⟨_,(ao (dM 1 sc.nd ο)
   (ao (dM 2 sc.nd (fB cH bw (wR PySem.F.plainAttrs_list PySem.F.slot_list_pop PySem.F.type_list_pop Zl8 dS (aa (az) au))))
   (ao (cg ω (aX eZ dS (az)) rfl)
   (aA (aN (bV (aa (bD) (aa el (aa (dJ (nJ T) hr T.mo T.mL (aa Ξ (aa el au))) au))))))))),?_⟩
  obtain⟨z0,rfl,q⟩:=h;exact Znd cv q
theorem vN:ι 4 AD.fO (gj T.xm.g) ["world"] (cM XQ (VF "give")):=by
 have sc:aP ["world"] ["world"] (aG wF):=cF;walk_at "ok"
 ·refine⟨_,(ao (cj (jj zV bw bw) (aA (aN (dJ (R7 T) hr T.mo T.Eo bj))) bB)
   (aA (aN (dJ (Zrh T) hr T.mo T.Zq8 bj)))),?_⟩
  obtain⟨z0,rfl,q⟩:=h;exact Lq cv q
theorem O8:ι 4 AD.lD (gj T.V3.g) Vw (cJ XQ Γ Qq):=by
 have sc:aP ["world","deed","slots","many","bulk","place"] Vw (aG Vf):=cF;walk_at "okX"
 ·refine⟨_,(ao (dM 2 sc.nd fi)
   (ao (dM 3 sc.nd ae)
   (ao (dM 4 sc.nd ae)
   (ao (dM 5 sc.nd (mY ο T.pA.c T.Em (XX T).g ag T.xP .nil G.DN (aa af (aa bv (aa bw au)))))
   (ao (rQ eM (uF ac ae set_list))
   (aA (aN (bV (aa (bD) (aa (dJ (iG T) hr T.mo T.iU (aa ο (aa eM au))) (aa (cI au) au))))))))))),?_⟩
  obtain⟨z0,z1,rfl,q⟩:=h;exact Zei cv rfl q
theorem VJ:ι 4 AD.nZ (gj T.Zb1.g) Zaf (cJ XQ Γ Zbl):=by
 have sc:aP ["world","deed","hand","source","field","place"] Zaf (aG Za0):=cF;walk_at "okX"
 ·refine⟨_,(ao (dM 2 sc.nd ae)
   (ao (dM 3 sc.nd ae)
   (ao (dM 4 sc.nd ae)
   (ao (dM 5 sc.nd (fB cH (qP (oZ T).g ag rfl (T.mo T.nW.a) (Fz T.nW.g).kp (oZ (P:=P) (base:=base) T).b .nil G.DN (aa Ξ (aa ac (aa af (aa bv au))))) bv))
   (ao (rQ eM (uF (dJ (gq T) hr T.mo T.gG (aa Ξ ed)) ae set_list))
   (aA (aN (bV (aa (bD) (aa (dJ (iG T) hr T.mo T.iU (aa ο (aa eM au))) (aa (cI au) au))))))))))),?_⟩
  obtain⟨z0,z1,rfl,q⟩:=h;exact Zir cv rfl rfl q
theorem VH:ι 4 AD.nY (gj T.Zb0.g) Zae (cJ XQ Γ Zbi):=by
 have sc:aP ["world","deed","hand","field","fields","old","new","noted"] Zae (aG Z9):=cF;walk_at "okX"
 ·refine⟨_,(ao (dM 2 sc.nd ae)
   (ao (dM 3 sc.nd ae)
   (ao (dM 4 sc.nd (qP (oZ T).g ag rfl (T.mo T.nW.a) (Fz T.nW.g).kp (oZ (P:=P) (base:=base) T).b .nil G.DN (aa Ξ (aa ac (aa ae c6)))))
   (ao (dM 5 sc.nd (fB cH bv af))
   (ao (dM 6 sc.nd (fB cH (dJ (gq T) hr T.mo T.gG (aa Ξ ed)) ae))
   (ao (rQ (pv 6) (uF bv af set_list))
   (ao (dM 7 sc.nd (dJ (nJ T) hr T.mo T.mL (aa Ξ (aa (aX mG (dJ (O2 T) hr T.mo T.zY (aa Ξ (aa eM au))) (dJ (wW T) hr T.mo T.rZ (aa Ξ (aa ac (aa (pv 6) au))))) au))))
   (aA (aN (bV (aa (bD) (aa (dJ (iG T) hr T.mo T.iU (aa ο (aa eM au))) (aa (pv 7) au))))))))))))),?_⟩
  obtain⟨z0,z1,rfl,q⟩:=h;exact Ziq cv rfl rfl q
theorem O9:ι 4 AD.lE (gj T.V4.g) Vx (cJ XQ Γ Qy):=by
 have sc:aP ["world","deed","giver","taker","place","noted"] Vx (aG Vg):=cF;walk_at "ok"
 ·refine⟨_,(ao (dM 2 sc.nd ae)
   (ao (dM 3 sc.nd ae)
   (ao (dM 4 sc.nd (fB cH (dJ (gq T) hr T.mo T.gG (aa Ξ ed)) ae))
   (ao (rQ bv (uF (dJ (gq T) hr T.mo T.gG (aa Ξ c6)) ae set_list))
   (ao (dM 5 sc.nd (dJ (nJ T) hr T.mo T.mL (aa Ξ (aa (dJ (wW T) hr T.mo T.rZ (aa Ξ (aa ac (aa bv au)))) au))))
   (aA (aN (bV (aa (bD) (aa (dJ (iG T) hr T.mo T.iU (aa ο (aa bv au))) (aa eM au))))))))))),?_⟩
  obtain⟨z0,z1,rfl,q⟩:=h;exact Zej cv q
theorem O5:ι 4 AD.lA (gj T.V0.g) Vt (cJ XQ Γ Qo):=by
 have sc:aP ["world","deed","place","noted"] Vt (aG Vc):=cF;walk_at "okX"
 ·refine⟨_,(ao (dM 2 sc.nd (qP (wX T).g ag rfl (T.mo T.sr.a) (Fz T.sr.g).kp (wX (P:=P) (base:=base) T).b .nil G.DN (aa Ξ (aa ae au))))
   (ao (rQ ac (uF fi ae set_list))
   (ao (dM 3 sc.nd (dJ (nJ T) hr T.mo T.mL (aa Ξ (aa (cI ed) au))))
   (aA (aN (bV (aa (bD) (aa (dJ (iG T) hr T.mo T.iU (aa ο ed)) c6)))))))),?_⟩
  obtain⟨z0,z1,rfl,q⟩:=h;exact Zef cv rfl q
theorem Sv:ι 4 AD.Gh (gj T.EY.g) Eb (Rx K):=by
 have sc:aP ["_law_n","_law_hands_here","_law_seed","_law_deed_here"] Eb (aG CV):=cF;walk_at "ok"
 ·refine⟨_,(ao (dM 3 sc.nd (dJ (XS T) hr T.mo T.Kf (aa Ξ (aa ω ed))))
   (ao (cj (PW.pt (Oi (jj gR (fB bI af (az)) (bD)) (Dz (jj gR dP (az))))) (aA (aN (cI (aa af (aa (bV (aa (bD) (aa (fB bI af (az)) (aa (fB bI af (az)) au)))) au))))) bB)
   (ao (cj (PW.pt (Oi (jj gR (fB bI af (az)) (bD)) (Dz (jj gR dP (az))))) (aA (aN (cI (aa af (aa (bV (aa (bD) (aa (fB bI af (az)) (aa (fB bI af (az)) (aa (fB bI af (az)) (aa (dJ (cC T) hr T.mo T.cG (aa Ξ ar)) au)))))) au))))) bB)
   (aA (aN (cI c6)))))),?_⟩
  obtain⟨z0,z1,z2,rfl,q⟩:=h;exact Ug q
theorem mZ:ι 5 AD.FJ (gj T.lW.g) ["world"] (Rp XQ):=by
 have sc:aP ["world"] ["world"] (aG Cq):=cF;walk_at "ok"
 ·refine⟨_,(aA (aN (G.JB (cns:=["world"]) [0] (eU (iB ο T.pA.c T.rW.m (m6 T).g ag (m6 (P:=P) (base:=base) T).b .nil G.dN)) eD (λ_ _ _ _ _=>(dJ (XD T) hr T.mo T.J7 (aa ω bj))) rfl rfl χ (by repeat (first | exact trivial | refine⟨rfl,?_⟩)) rfl γ rfl γ γ rfl γ))),?_⟩;obtain⟨z0,rfl,q⟩:=h;exact RJ (jU T) q
theorem vO:ι 5 AD.fP (gj T.xq.g) ["world"] (cM XQ (VF "rest")):=by
 have sc:aP ["world","noted"] ["world"] (aG wG):=cF;walk_at "ok"
 ·refine⟨_,(ao (jr (dJ (Zkt T) hr T.mo T.Zfy bj))
   (ao (dM 1 sc.nd (dJ (zX T) hr T.mo T.uP (aa Ξ (aa bw au))))
   (aA (aN (bV (aa (bD) (aa bw b6))))))),?_⟩
  obtain⟨z0,rfl,q⟩:=h;exact Lr cv q
theorem R9:ι 5 AD.FZ (gj T.Er.g) ["world"] (Gr XQ):=by
 have sc:aP ["world","place","way","cell"] ["world"] (aG Cy):=cF;walk_at "ok"
 ·refine⟨_,(ao (iQ PassesOwn.never rfl (eU (dJ (Zdj T) hr T.mo T.VP (aa ο (aa (dJ (Zks T) hr T.mo T.Zfx bj) au)))) (Oo rfl (jZ (cZ (i:=1) sc.nd rfl bg) (jZ (cZ (i:=2) sc.nd rfl bg) DK)))
   (ao (dM 3 sc.nd (fB cH bw ω))
   (aA (cj (jq (fK (dJ (iR T) hr T.mo T.iH (aa Ξ c6)))) (aA (aN (bV (aa (bD) (aa (aJ af rfl) (aa (mF Gn η T.oG G.boot_list ed) au)))))) bB))))
   (aA (aN (eY)))),?_⟩
  obtain⟨z0,rfl,q⟩:=h;exact TQ cv q
theorem Zq5:ι 5 AD.Zvq (gj T.Zru.g) Zuc (cJ XQ Γ (λ_=>True)):=by
 have sc:aP ["world","deed","act"] Zuc (aG Zu1):=cF;walk_at "okX"
 ·refine⟨Zjw K AD.lG AD.lF AD.nZ AD.lE AD.lD AD.lC AD.nY AD.lB AD.lA AD.jJ (cJ XQ Γ QC) (cJ XQ Γ QB) (cJ XQ Γ Zbl) (cJ XQ Γ Qy) (cJ XQ Γ Qq) (cJ XQ Γ isName) (cJ XQ Γ Zbi) (cJ XQ Γ Qp) (cJ XQ Γ Qo) (cJ XQ Γ Fj) E,(ao (dM 2 sc.nd (G.Zka T.U4 rfl ae (λ_ _=>rfl)))
   (aA (aN (G.Zab (k:=4) (G.RD.cons ε (O8 T).g (O8 (P:=P) (base:=base) T).b (Fz T.V3.g).kp (G.RD.cons ε (VJ T).g (VJ (P:=P) (base:=base) T).b (Fz T.Zb1.g).kp (G.RD.cons ε (VH T).g (VH (P:=P) (base:=base) T).b (Fz T.Zb0.g).kp (G.RD.cons ε (Pb T).g (Pb (P:=P) (base:=base) T).b (Fz T.V6.g).kp (G.RD.cons ε (Pa T).g (Pa (P:=P) (base:=base) T).b (Fz T.V5.g).kp (G.RD.cons ε (O9 T).g (O9 (P:=P) (base:=base) T).b (Fz T.V4.g).kp (G.RD.cons ε (JZ T).g (JZ (P:=P) (base:=base) T).b (Fz T.Qe.g).kp (G.RD.cons ε (O6 T).g (O6 (P:=P) (base:=base) T).b (Fz T.V1.g).kp (G.RD.cons ε (O7 T).g (O7 (P:=P) (base:=base) T).b (Fz T.V2.g).kp (G.RD.cons ε (O5 T).g (O5 (P:=P) (base:=base) T).b (Fz T.V0.g).kp G.RD.nil)))))))))) ag rfl bg G.DN (aa Ξ b6))))),?_⟩
  obtain⟨z0,z1,rfl,q⟩:=h;exact Zvu cv q
theorem XM:ι 5 AD.KD (gj T.Kc.g) JM (Zy K):=by
 have sc:aP ["_law_script","_law_hands_here","_law_rows_here","_law_seed","_law_k","_law_cell_here","_law_n"] JM (aG Ji):=cF;walk_at "ok"
 ·refine⟨_,(ao (dM 2 sc.nd (cI au))
   (ao (cj (jj Zfv (dJ (cC T) hr T.mo T.cG (aa bi ar)) (az)) (aA (dM 2 sc.nd (dJ (Sd T) hr T.mo T.Es (aa ω (aa bi (aa bi au)))))) bB)
   (ao (dM 3 sc.nd bi)
   (ao (dM 4 sc.nd (az))
   (ao (iQ PassesOwn.never rfl (eU (Oq Zno Ξ (Mr (az)) (Mr (az)))) (cZ (i:=5) sc.nd rfl bg)
   (ao (dM 6 sc.nd (aX eZ eM (aX Aw (aX Aw bv bv) (az))))
   (ao (cj (jj gR (dJ (cC T) hr T.mo T.cG (aa (pv 6) ar)) (az)) (aA (jr (wR PySem.F.plainAttrs_list PySem.F.slot_list_append PySem.F.type_list_append mK ac (aa (bV (aa (bD) (aa (aX eZ (az) (dJ (cC T) hr T.mo T.cG (aa (pv 6) ar))) au))) au)))) (aA (dM 2 sc.nd (aX mG ac (dJ (Sv T) hr T.mo T.EY (aa (pv 6) (aa ω c6)))))))
   (aA (Zrd (i:=4) sc.nd rfl bg (az) Zs6)))))
   (aA (aN (aX mG ac (cI (aa (bV (aa (bD) (aa (aX eZ (az) (dJ (cC T) hr T.mo T.cG (aa af ar))) au))) au)))))))))),?_⟩
  obtain⟨z0,z1,rfl,q⟩:=h;exact Zd q
theorem Zrk:ι 6 AD.Zqj (gj T.Zq9.g) ["world"] (cM XQ Zkn):=by
 have sc:aP ["world","sweeper","loss","births"] ["world"] (aG Zq0):=cF;walk_at "ok"
 ·refine⟨_,(ao (dM 1 sc.nd ο)
   (ao (cg ω (bM G.bQ η T.fu G.boot_len (aa bw au)) rfl)
   (ao (cg ω (az) rfl)
   (ao (dM 2 sc.nd (dJ (R9 T) hr T.mo T.Er bj))
   (ao (cj (jj G.wV ac (eY)) (ao (cg ω (bD) rfl)
   (ao (cg ω ac rfl)
   (aA (aN (dJ (zW T) hr T.mo T.uO ed))))) bB)
   (ao (cg ω (bD) rfl)
   (ao (dM 3 sc.nd (dJ (uJ T) hr T.mo T.rB (aa ο (aa (dJ (Zai T) hr T.mo T.Qd bj) au))))
   (aA (aN (bV (aa (bD) (aa (bM G.bQ η T.fu G.boot_len c6) c6)))))))))))),?_⟩
  obtain⟨z0,rfl,q⟩:=h;exact Ztb cv q
theorem Eg:ι 6 AD.KR (gj T.xx.g) JS (ZD XQ Γ):=by
 have sc:aP ["_law_world","_law_deed_here","_law_event_here"] JS (aG Jo):=cF;walk_at "ok"
 ·refine⟨uE AD.bG AD.cT AD.bR AD.cA (cJ XQ Γ (λ_=>True)),(ao (dM 2 sc.nd (eY))
   (ao (G.Zrc ⟨rfl,rfl⟩ rfl (T.mo T.Zc9) (λcls h=>by rcases h with rfl | rfl | rfl | rfl<;>first | exact T.wj | exact T.yO | exact T.HB | exact T.Bf) (λEx pn xe hx=>(aA (dM 2 sc.nd (G.Zkg (Zq5 T).g ag rfl (T.mo T.Zru.a) (Fz T.Zru.g).kp (Zq5 (P:=P) (base:=base) T).b .nil hx (aa Ξ b6))))) (λea pn=>(aA (dM 2 sc.nd (eY)))))
   (aA (aN ac)))),?_⟩
  obtain⟨z0,z1,rfl,q⟩:=h;exact Zi rfl rfl rfl rfl q
theorem Sx:ι 6 AD.Gi (gj T.Fb.g) Ec (Rz XQ):=by
 have sc:aP ["_law_world","_law_before","_law_events","_law_fallen","_law_stays","_law_cuts","_law_backs","_law_used"] Ec (aG CW):=cF;walk_at "ok"
 ·refine⟨rO K XQ.H (rE XQ.H) (ZF K) (Ie K) (Ru XQ) (Zx K) (Rp XQ),(ao (G.wO (iz:=4) (cns:=["_law_fallen"]) [3] (eU ω) (λ_ _ _ _ _=>(G.Av (jj uI c7 ω cN))) (λ_ _ _ _ _=>Ξ) rfl rfl χ (by repeat (first | exact trivial | refine⟨rfl,?_⟩)) rfl γ rfl γ γ rfl γ sc.nd rfl (Or.inl rfl) (Or.inr rfl) rfl)
   (ao (G.wO (iz:=5) (cns:=[]) [] (eU ac) (λ_ _ _ _ _=>(G.Av (jj gR c7 (bD)))) (λ_ _ _ _ _=>Ξ) rfl rfl χ (by repeat (first | exact trivial | refine⟨rfl,?_⟩)) rfl γ rfl γ γ rfl γ sc.nd rfl (Or.inl rfl) (Or.inr rfl) rfl)
   (ao (G.wO (iz:=6) (cns:=[]) [] (eU ac) (λ_ _ _ _ _=>(G.Av (jj gR c7 (bD)))) (λ_ _ _ _ _=>c7) rfl rfl χ (by repeat (first | exact trivial | refine⟨rfl,?_⟩)) rfl γ rfl γ γ rfl γ sc.nd rfl (Or.inl rfl) (Or.inr rfl) rfl)
   (ao (cj (PW.pt (jE (jj qQ (bM G.bQ η T.fu G.boot_len (aa eM au)) (az)) (jm (jq (fK (dJ (Su T) hr T.mo T.Ez (aa (fB cH eM (az)) (aa (bV (aa (bD) (aa (bM G.bQ η T.fu G.boot_len c6) c6))) au)))))))) dj bB)
   (ao (dM 7 sc.nd (bM (G.Zmy rfl) η T.Zfa G.boot_sum (aa (G.JB (cns:=[]) [] (eU bv) eD (λ_ _ _ _ _=>(aX eZ (aX eZ (az) (bM G.bQ η T.fu G.boot_len (aa c7 au))) c7)) rfl rfl χ (by repeat (first | exact trivial | refine⟨rfl,?_⟩)) rfl γ rfl γ γ rfl γ) au)))
   (ao (cj (PW.pt (jE (jj qQ (fB bI (fB cH ac (Zq4 Zj8 (az))) (az)) (bD)) (jE (jj (G.Zkr (qe hr)) (pv 6) af) (jm (jj qQ bw (pv 7)))))) dj bB)
   (ao (cj (PW.pt (jE (jj qQ (iB ο T.pA.c T.uN.m (o7 T).g ag (o7 (P:=P) (base:=base) T).b .nil G.dN) (aX rR bw (pv 7))) (jm (jq (fK (dJ (Sq T) hr T.mo T.Ew (aa Ξ (aa ω c6)))))))) dj bB)
   (aA (aN (dJ (Ph T) hr T.mo T.z7 (aa (dJ (mZ T) hr T.mo T.lW bj) (aa bv (aa (dJ (XJ T) hr T.mo T.J9 (aa bv (aa (cI au) (aa (bD) au)))) au))))))))))))),?_⟩
  obtain⟨z0,z1,z2,z3,rfl,q⟩:=h;exact Uh cv q
theorem O4:ι 7 AD.Af (gj T.zZ.g) ["world"] (cM XQ Zkm):=by
 have sc:aP ["world","sweeper","looking","hands","noted"] ["world"] (aG yX):=cF;walk_at "ok"
 ·refine⟨_,(ao (dM 1 sc.nd ο)
   (ao (dM 2 sc.nd bw)
   (ao (dM 3 sc.nd (G.qO (mY ac T.ux.c T.qb (nM T).g ag (nM (P:=P) (base:=base) T).b .nil G.dN (aa dS (aa ay au))) (G.qO (mY ac T.yJ.c T.rz.m (qW T).g ag (qW (P:=P) (base:=base) T).b .nil G.dN (aa dS (aa ay au))) (mY ac T.yI.c T.qZ.m (qT T).g ag (qT (P:=P) (base:=base) T).b .nil G.dN (aa dS (aa ay au))))))
   (ao (dM 4 sc.nd (dJ (zX T) hr T.mo T.uP (aa Ξ c6)))
   (ao (cj (PW.pt (jE (jj gR af (az)) (jm (jq (PW.pt (jE b9 (jm (Za9 bv (λ_=>rfl))))))))) (aA (aN (dJ (Zrk T) hr T.mo T.Zq9 bj))) bB)
   (ao (cg ω (aX eZ dS (az)) rfl)
   (ao (cj b9 (aA (cg ω (aX Zud dS af) rfl)) bB)
   (aA (aN (bV (aa (bD) (aa af (aa bv au))))))))))))),?_⟩
  obtain⟨z0,rfl,q⟩:=h;exact Qh cv q
theorem vM:ι 8 AD.fM (gj T.xj.g) ["world"] (cM XQ (VF "walk")):=by
 have sc:aP ["world"] ["world"] (aG wD):=cF;walk_at "ok"
 ·refine⟨_,(ao (cj (Za9 bw (λ_=>rfl)) (aA (aN (dJ (Zo9 T) hr T.mo T.Zlb bj))) bB)
   (aA (aN (dJ (O4 T) hr T.mo T.zZ bj)))),?_⟩
  obtain⟨z0,rfl,q⟩:=h;exact Lp cv q
theorem Mu:ι 9 AD.Zmh (gj T.Qa.g) ["world"] (cM XQ Zde):=by
 have sc:aP ["world","act"] ["world"] (aG Zjp):=cF;walk_at "ok"
 ·refine⟨Xq K AD.fP AD.fO AD.fM AD.dY (cM XQ (VF "rest")) (cM XQ (VF "give")) (cM XQ (VF "walk")) (cM XQ (VF "lost")),(ao (dM 1 sc.nd (G.Zka T.U3 rfl bw (λ_ _=>rfl)))
   (aA (aN (G.Zab (k:=8) (G.RD.cons ε (vO T).g (vO (P:=P) (base:=base) T).b (Fz T.xq.g).kp (G.RD.cons ε (vM T).g (vM (P:=P) (base:=base) T).b (Fz T.xj.g).kp (G.RD.cons ε (vN T).g (vN (P:=P) (base:=base) T).b (Fz T.xm.g).kp (G.RD.cons ε (qR T).g (qR (P:=P) (base:=base) T).b (Fz T.ug.g).kp G.RD.nil)))) ag rfl bg G.dN bj)))),?_⟩
  obtain⟨z0,rfl,q⟩:=h;exact Znk cv q
theorem O3:ι 10 AD.Ws (gj T.Hg.g) ["world"] (Rm XQ):=by
 have sc:aP ["world","steps"] ["world"] (aG U8):=cF;walk_at "ok"
 ·refine⟨_,(ao (dM 1 sc.nd (az))
   (ao (Oj PassesOwn.never (jj uI bw (bV (aa (bD) (aa (bD) au))) cN) (ao (jr (dJ (Mu T) hr T.mo T.Qa bj))
   (aA (dM 1 sc.nd (aX eZ ω (az))))))
   (aA (aN ω)))),?_⟩
  obtain⟨z0,rfl,q⟩:=h;exact Zcm cv q
theorem Sg:ι 10 AD.Gb (gj T.Et.g) DR (Rq XQ):=by
 have sc:aP ["_law_world","_law_most","_law_events","_law_turn"] DR (aG CG):=cF;walk_at "ok"
 ·refine⟨_,(ao (dM 2 sc.nd (cI (aa (dJ (Mu T) hr T.mo T.Qa bj) au)))
   (ao (iQ PassesOwn.never rfl (jM rfl T.kj b6) eL
   (ao (cj (jj yD bw (bV (aa (bD) (aa (bD) au))) cN) (aA (aN ac)) bB)
   (aA (jr (wR PySem.F.plainAttrs_list PySem.F.slot_list_append PySem.F.type_list_append mK ac (aa (dJ (Mu T) hr T.mo T.Qa bj) au))))))
   (aA (aN ac)))),?_⟩
  obtain⟨z0,z1,rfl,q⟩:=h;exact Ua cv q
theorem Pg:ι 11 AD.Ah (gj T.z6.g) zQ (Ib XQ):=by
 have sc:aP ["_law_world","_law_other","_law_many","_law_before","_law_rows_here","_law_reach_here","_law_fallen","_law_events","_law_ahead","_law_turn","_law_left"] zQ (aG za):=cF;walk_at "ok"
 ·refine⟨pQ K (Rz XQ) (Ih K) (ye) (Rr K) (Rq XQ) (Ry XQ) (cM XQ Zde) (Rm XQ) (Rp XQ),(ao (dM 3 sc.nd (dJ (mZ T) hr T.mo T.lW bj))
   (ao (dM 4 sc.nd (dJ (pY T) hr T.mo T.nA bj))
   (ao (Zd8 (i:=5) sc.nd rfl (Or.inr rfl) (dJ (Sh T) hr T.mo T.Eu (aa bv (aa (dJ (Pj T) hr T.mo T.z8 c6) au))))
   (ao (G.wO (iz:=6) (cns:=["_law_reach_here"]) [5] (eU af) (λ_ _ _ _ _=>(G.Av (Xw (G4 (qe hr) c7 ω)))) (λ_ _ _ _ _=>c7) rfl rfl χ (by repeat (first | exact trivial | refine⟨rfl,?_⟩)) rfl γ rfl γ γ rfl γ sc.nd rfl (Or.inl rfl) (Or.inr rfl) rfl)
   (ao (dM 7 sc.nd (dJ (Sg T) hr T.mo T.Et (aa Ξ (aa (aX eZ (aX eZ (aX eZ (az) (aX Aw (az) (bM G.bQ η T.fu G.boot_len c6))) (bM G.bQ η T.fu G.boot_len (aa bv au))) (bM G.bQ η T.fu G.boot_len (aa bw au))) au))))
   (ao (cj (PW.pt (jE (jq (fK (dJ (Sx T) hr T.mo T.Fb (aa Ξ (aa af (aa (pv 7) (aa (pv 6) au))))))) (jm (jj (G.Zkq hr.units) (dJ (pY T) hr T.mo T.nA bj) bv)))) dj bB)
   (ao (dM 8 sc.nd (bM (Ziy rfl) η T.Zfc G.boot_min (aa ac (aa (bM G.bQ η T.fu G.boot_len (aa (pv 7) au)) au))))
   (ao (iQ PassesOwn.never rfl (jM rfl T.kj (aa (pv 8) au)) (cZ (i:=9) sc.nd rfl bg)
   (aA (jr (dJ (Mu T) hr T.mo T.Qa b6))))
   (ao (dM 10 sc.nd (dJ (O3 T) hr T.mo T.Hg b6))
   (ao (cj (PW.pt (jE (jq (fK (dJ (pZ T) hr T.mo T.nD (aa (pv 10) au)))) (jE (jj qQ (pv 10) (aX rR (bM G.bQ η T.fu G.boot_len (aa (pv 7) au)) (pv 8))) (jm (jj qQ (dJ (O3 T) hr T.mo T.Hg b6) (az)))))) dj bB)
   (aA (aN ((Zdb (oY (G.Zdg hr.units) (dJ (mZ T) hr T.mo T.lW b6) (dJ (mZ T) hr T.mo T.lW bj) (Az _)) (Xy (oY (G.Zdg hr.units) (dJ (pY T) hr T.mo T.nA b6) bv (Az _))))))))))))))))),?_⟩
  obtain⟨z0,z1,z2,rfl,q⟩:=h;exact Q8 cv q
theorem Zrg{fl:AI}{fd:AL}(F:Fun K "law" "law" Nx fl fd):Fn5 P w K mg base 12 fl fd ["_law_script"] (Zgr K):=by
 have sc:aP ["_law_script","_law_way","_law_hands_here","_law_world","_law_other","_law_row"] ["_law_script"] (aG Nx):=cF;walk_at "okL"
 ·refine⟨Zd7 K XQ.W (pC XQ) (Bs K) (ZD XQ Γ) (ZC K) (Zz XQ) (Zf6 K) (Ib XQ) (Zy K),(ao (dM 1 sc.nd (aX eE bi (az)))
   (ao (dM 2 sc.nd (dJ (Ss T) hr T.mo T.Ey bj))
   (ao (dM 3 sc.nd cE)
   (ao (dM 4 sc.nd cE)
   (ao (iQ PassesOwn.never rfl (eU (dJ (XM T) hr T.mo T.Kc (aa Ξ ed))) (cZ (i:=5) sc.nd rfl bg)
   (aA (cj (jj qQ (fB bI eM (az)) (bD)) (ao (jr (dJ (Eg T) hr T.mo T.xx (aa af (aa eM au))))
   (aA (jr (dJ (Eg T) hr T.mo T.xx (aa bv (aa eM au)))))) (aA (cj (jq (fK (dJ (Pg T) hr T.mo T.z6 (aa af (aa bv (aa (fB bI eM (az)) au)))))) dj bB)))))
   (aA (aN (jT)))))))),?_⟩
  obtain⟨z0,rfl,q⟩:=h;exact Zrw cv q
end
theorem all_mk{l:W.OpenLaw}{w:AO}{K:aB}{h:Heap}{mg:As}{fa fl:AI}{XQ:Cs}{AD:Ad}(b:K.In h)(a:h.Ns mainGlobals mg)(hfa:mg "law"=↑fa)(t1:Tx1 K XQ AD)
  {od5 i to5 V k:Option AI}
  {X ts5 Zwc:Array AB}
  {oc5 t x A c z tc5 q y S g n u d B p r:AJ}
  {f QW J:AI}
  {tn5 j o:Nat}
  {We Wd Wc Wb Wq Wo Wn Wl Wk Wj Wi Wh Wg Wf:Int}
  {Uv Uu Ut Ur U0 UW UT UL UJ UG Uz Uy Ux Uw:Tok}
  (a5:Fi K XQ.H "make" AD.iK)
  (i5:W.isFn K (.ref AD.iK)=true)
  (l5:Lk K AD.iK "make" "Heap.make" jD (.ref f) oc5 od5 t x A i c z X)
  (t5:K.lookup f=some ⟨tc5,to5,.seq #[q,y] tn5,ts5⟩)
  (Zzi:RelV (.int 0) q)
  (Zzh:RelV (.int 0) y)
  (c5:Ci K c "Heap.make")
  (k5:Ki K AD.iK)
  (a96:Ns K "law" fl)
  (D:Lk K fl "law" "law" Nx .none S V g n u k d B Zwc)
  (c96:Ci K d "law")
  (U:Ki K fl)
  (P:Ns K "STEPS" QW)
  (Zlh:K.lookup QW=some ⟨.type "dict",none,.dict #[⟨We,.str "rest" Uv,.ref AD.fP⟩,⟨Wd,.str "walk" Uu,.ref AD.fM⟩,⟨Wc,.str "give" Ut,.ref AD.fO⟩,⟨Wb,.str "lost" Ur,.ref AD.dY⟩] j,#[]⟩)
  (Zi5:We=hashStr w "rest")
  (O:Wd=hashStr w "walk")
  (Zi3:Wc=hashStr w "give")
  (R:Wb=hashStr w "lost")
  (Zl7:Ns K "DEEDS" J)
  (Zli:K.lookup J=some ⟨.type "dict",none,.dict #[⟨Wq,.str "make" U0,.ref AD.lD⟩,⟨Wo,.str "get" UW,.ref AD.nZ⟩,⟨Wn,.str "put" UT,.ref AD.nY⟩,⟨Wl,.str "copy" UL,.ref AD.lG⟩,⟨Wk,.str "drop" UJ,.ref AD.lF⟩,⟨Wj,.str "give" UG,.ref AD.lE⟩,⟨Wi,.str "write" Uz,.ref AD.jJ⟩,⟨Wh,.str "read" Uy,.ref AD.lB⟩,⟨Wg,.str "name" Ux,.ref AD.lC⟩,⟨Wf,.str "seek" Uw,.ref AD.lA⟩] o,#[]⟩)
  (Zif:Wq=hashStr w "make")
  (Zie:Wo=hashStr w "get")
  (I:Wn=hashStr w "put")
  (Zic:Wl=hashStr w "copy")
  (Zib:Wk=hashStr w "drop")
  (N:Wj=hashStr w "give")
  (Zi9:Wi=hashStr w "write")
  (Zi8:Wh=hashStr w "read")
  (Zi7:Wg=hashStr w "name")
  (Zi6:Wf=hashStr w "seek")
  (Zmo:W.findIn K (.ref XQ.C) "__eq__"=some (some (.builtin "object.__eq__")))
  (Y:W.mroIn K XQ.C (.type "object")=some true)
  (Hw:Fi K XQ.E "at_begin" AD.fc)
  (Tv:Fi K XQ.E "stays" AD.gJ)
  (Be:Fi K XQ.F "next_look" AD.iu)
  (QF:Fi K XQ.F "stays" AD.gJ)
  (Hv:Fi K XQ.L "at_begin" AD.fc)
  (W5:W.nsIn K mainGlobals "bool"=some none)
  (kZ:W.nsIn K mainGlobals "enumerate"=some none)
  (Zfd:W.nsIn K mainGlobals "int"=some none)
  (fD:W.nsIn K mainGlobals "isinstance"=some none)
  (fu:W.nsIn K mainGlobals "len"=some none)
  (oG:W.nsIn K mainGlobals "list"=some none)
  (Zfc:W.nsIn K mainGlobals "min"=some none)
  (kj:W.nsIn K mainGlobals "range"=some none)
  (Zfb:W.nsIn K mainGlobals "str"=some none)
  (Zfa:W.nsIn K mainGlobals "sum"=some none)
  (BJ:W.nsIn K mainGlobals "tuple"=some none)
  (Z:W.nsIn K mainGlobals "NEW"=some (some p))
  (M:RelV (.int 2) p)
  (Q:W.nsIn K mainGlobals "OLD"=some (some r))
  (Zsw:RelV (.int 1) r)
  :∃fd:AL,(∀(s:AK) (v:AJ),BindsTo s fd ⟨[v],[]⟩ [("_law_script",v)])/\∀base:Heap,K.In base->base.Ns mainGlobals mg->qy l.prog w K mg base (G.RG l.prog w) 12 fa fd ["_law_script"] (Zgr K):=by
 have e:=hfa.symm.trans (W.mg_of b a a96);cases e;have mo:∀{s:Str}{v:AJ},W.nsIn K mainGlobals s=some eW->mg s=some v:=λh=>W.mg_of b a h;have F5:=G.Zpa (st:=jD) l5 c5 k5;have b5:=G.Ztf (ps:=["self","many","bulk","tone"]) (ds:=[]) l5 t5 λus hl=>by obtain⟨_,_,rfl,l1⟩:=cn1 (n:=3) hl;obtain⟨_,_,rfl,l2⟩:=cn1 (n:=2) l1;obtain⟨_,_,rfl,l3⟩:=cn1 (n:=1) l2;obtain⟨_,_,rfl,l4⟩:=cn1 (n:=0) l3;cases List.eq_nil_of_length_eq_zero l4;exact ⟨_,rfl,rfl⟩
 let Q2:Bd:=⟨(),W.fnOf "make" "Heap.make" (iW jD) (gk jD) (aG jD) (.ref f) t x A i c z⟩
 have T:Txt w K mg XQ AD Q2:={ t1 with
  mo:=mo
  U3:=⟨QW,_,_,j,W.mg_of b a P,Zlh,⟨rfl,rfl,rfl⟩,rfl,Zi5,⟨Uv,rfl⟩,rfl,O,⟨Uu,rfl⟩,rfl,Zi3,⟨Ut,rfl⟩,rfl,R,⟨Ur,rfl⟩,rfl,trivial⟩
  U4:=⟨J,_,_,o,W.mg_of b a Zl7,Zli,⟨rfl,rfl,rfl⟩,rfl,Zif,⟨U0,rfl⟩,rfl,Zie,⟨UW,rfl⟩,rfl,I,⟨UT,rfl⟩,rfl,Zic,⟨UL,rfl⟩,rfl,Zib,⟨UJ,rfl⟩,rfl,N,⟨UG,rfl⟩,rfl,Zi9,⟨Uz,rfl⟩,rfl,Zi8,⟨Uy,rfl⟩,rfl,Zi7,⟨Ux,rfl⟩,rfl,Zi6,⟨Uw,rfl⟩,rfl,trivial⟩
  Mx:=⟨Zmo,Y⟩
  ue:=⟨Hw,t1.fY.m.fn,t1.fY.m.kp⟩
  rY:=⟨Tv,t1.iC.m.fn,t1.iC.m.kp⟩
  qb:=⟨Be,t1.jH.m.fn,t1.jH.m.kp⟩
  p8:=⟨QF,t1.iC.m.fn,t1.iC.m.kp⟩
  tZ:=⟨Hv,t1.fY.m.fn,t1.fY.m.kp⟩
  Em:=⟨a5,i5,k5⟩
  W5:=W.mg_none_of b a W5
  kZ:=W.mg_none_of b a kZ
  Zfd:=W.mg_none_of b a Zfd
  fD:=W.mg_none_of b a fD
  fu:=W.mg_none_of b a fu
  oG:=W.mg_none_of b a oG
  Zfc:=W.mg_none_of b a Zfc
  kj:=W.mg_none_of b a kj
  Zfb:=W.mg_none_of b a Zfb
  Zfa:=W.mg_none_of b a Zfa
  BJ:=W.mg_none_of b a BJ
  Zqg:=⟨_,W.mg_of b a Z,M⟩
  Zqf:=⟨_,W.mg_of b a Q,Zsw⟩
  Lf:=F5
  xP:=b5
  Km:=k5
 }
 exact⟨W.fnOf "law" "law" (iW Nx) (gk Nx) (aG Nx) .none g n u k d B,λs v=>.of_eq rfl,λbase _ _=>Zrg T (Zm7 (st:=Nx) D c96 U)⟩
theorem walk{l:W.OpenLaw}{q:AM}{b:AH}{i:(As)->Heap->Prop}{e:AO->Heap->Prop}{d:DefRec}{K:Params->aB}(hn:l.most=some 63)(c:d.params.defaults=[])
  (g:∀(w:AO) (h:Heap),e w h->(K w.params).In h)
  (F:∀(w:AO) (mg:As) (fa:AI) (h:Heap),(K w.params).In h->h.Ns mainGlobals mg->mg d.name=↑fa->
   ∃fd:AL,(∀(s:AK) (u:AJ),BindsTo s fd ⟨[u],[]⟩ [("_law_script",u)])/\∀base:Heap,(K w.params).In base->base.Ns mainGlobals mg->qy l.prog w (K w.params) mg base (G.RG l.prog w) 12 fa fd ["_law_script"] (Zgr (K w.params))):
  W.WalkO q b i e l.row.toRowW d [] (λf vs=>PySem.call f vs):=
 L2.Zne (n:=63) (k:=12) (x:="_law_script") (CX:=λw=>G.RG l.prog w) (sp:=λw=>Zgr (K w.params)) hn ε c ⟨rfl,ε,ε⟩ g F (λ_ _ a ns hl _ j=>⟨a,rfl,ns,j,hl,λ_=>rfl⟩) λ_ _ _ _ _ z=>by
  obtain⟨_,_,_,_,_,_,_,_,_,_,_,_,z⟩:=z;exact z
end ZQ
structure PySem.W.Fast:Prop where(tw3904096161774790049 tw17687307354107447971 tw16376348415984457540 tw14519625196300075205 tw10797643606009391303 tw13670470097927027881 tw17111858954875397610 tw14496275824283065098 tw5635191544235753772 tw5665453647183526765 tw11134160951165946766 tw9481389676623924879 tw7277670971948157711 tw3147664683454797136 tw13591317095715077456 tw13556699784364092657 tw15703837518713228019 tw14863554091313551412 tw8438173475617934357 tw16121573240400830838 tw16211747995382015257 tw10468075187634004281 tw10792395700711609820 tw16776790057184811101 tw4893030769219377053 tw18238760558758810718 tw11991324807401373161 tw8472784561788533041 tw17389921404049649187 tw8802130004128026729 tw7695732728274365217 tw89090719917079084 tw100906231436280346 tw14077428115077083334 tw16448154294395269825 tw12264089057080817920 tw8008196560611740956 tw5528449195180080221 tw17216350421044606164 tw3321794356040034706 tw16495539835426453582 tw17083794684928768895 tw9164645083654540816 tw10584436857801604825 tw9229099795099857200 tw2576754412102847489 tw17721059390558480299 tw8939955214748466539 tw12936596885141825958 tw14473035488342169470 tw13229372888585641124 tw7489425761599726394 tw17205760262719094987 tw10761132824994618732 tw7423662118861750297 tw5107243295090189466 tw16357581886339273729 tw737437839081209411 tw13397865506644233446 tw9432009991911617254 tw16884491295715980936 tw2880595448608466844 tw1039411998231988676 tw17352667633873760865 tw1000089200595316594 tw16488207545324525334 tw13829143796432925789 tw1707601218717601407 tw13996024812868816362 tw13914033222391458377 tw5000733223851300891 tw8197907472341877391 tw1887648609138660790 tw2203842858918418084 tw3933205345252490830 tw3834564026361205615 tw5692095009249899843 tw7668633320384225370 tw15655576123224833607 tw9212696116040992473 tw13157616321031531720 tw12958007371685663119 tw15946607512411429374 tw425205832135933684 tw5342826109745393824 tw4132986045151657921 tw13035738252797948079 tw15993872833830341883 tw12462805065363809700 tw3663720275613957549 tw12921723549038355897 tw7902875647431074511 tw11637971507894698834 tw12577388825362580053 tw14898411118834406129 tw3942161453192446052 tw3291706005465617064 tw2626608478652461924 tw1580445870499752777 tw526018029119891984 tw12909834793587543547 tw17625219315273306113 tw4024944775645018501 tw12820028873348276080 tw8769681651225936136 tw11290646596782796197 tw1683985936902511069 tw17714750425654077188 tw8896960031995600466 tw9053048212297532472 tw16000022528410529289 tw7836644760483233064 tw10692507012150189076 tw13931696358872684547 tw968199395747930187 tw11865443101913954575 tw12802435239824284918 tw768521172528769145 tw8684228321454038372 tw14595675923067224663 tw5431144884609078755 tw2075151159181271481 tw12055394693468750456 tw8996381200297037145 tw17537941280876214226 tw12496357274228487547 tw7904078097659416036 tw2423646854103668356 tw13705295513740247977 tw14636090147015269155 tw7345055854296448492 tw4739412764914560305 tw3368988117213208319 tw6122238404409588004 tw3071862120547948141 tw6399907837272485127 tw772968886438742511 tw1919403489758424071 tw1894412312985817090 tw17314141889045593475 tw11470624386139373293 tw8034826753331233780 tw416837329398362383 tw4324964500615533209 tw4286649895877863955 tw3174165228418921890 tw13964924368698330073 tw1208139451414370670 tw6397955042075821744 tw6946891465550237004 tw12788874411546092995 tw4814860626894319335 tw421226942981174742 tw16329696246773701719 tw1698550523620560345 tw3488592614705444292 tw17006747895015551754 tw964494304310876198 tw15806915417406521638 tw15951536663549386565 tw11011185488244764602 tw16481005528949856712 tw14068859845827608537 tw2433560033567609008 tw7437516540972580756 tw14501695751835016788 tw16292945142687464443 tw13467572071560621260 tw11545909529758750525 tw6218128931434407238 tw2492614932956638930 tw16476341651298464073 tw106781771593926323 tw11471925577318835774 tw1735914124639028304 tw2335550403658751395 tw3867054491378832390 tw9390138168033120544 tw7141373448462812199 tw9868560457782970002 tw737873261231398115 tw7617172190630294631 tw4365622551110153307 tw3448078458816353583 tw9611129101000397679 tw8390580356905196447 tw10731945544606655290 tw5274165158902180942 tw6954761604674755986 tw5202663371388661950 tw844694538619428742 tw4097598380201577725 tw15109988313778689986 tw6142694036064089003 tw2501140731262267914 tw16172603926505116112 tw11888416998915812091 tw8748189085256341059 tw16189774544921646229 tw12794671526436764029 tw18194260243972189748 tw10266855662047292190 tw11494807606598828113 tw11553234636173345139 tw17523024421742259579 tw13350396920233963918 tw6761023089251246851 tw15750198222102295466 tw15138353446919045466 tw11569913796901918944 tw13337753682659395842 tw5790769492690270466 tw4386472316654430668 tw16643548754313997862 tw13495865429031110751 tw1191919940062101946 tw878986232158710565 tw15941059136197148225 tw3163801637379349139 tw7233628125667395959 tw12250045844721212740 tw7138316571737007316 tw12583914910895901526 tw11961876976120351759 tw3425753134149099690 tw5304271690782947803 tw5154657727234846071 tw12878415910777896478 tw142383967432373975 tw13144899610034558809 tw8790697297975381420 tw6039308159795157481 tw16444899926725233226 tw13155136376971536791 tw17804930881044752223 tw16384064777370526045 tw10383862191069467742 tw12249871244388070577 tw15529806845932970592 tw5308575599571853855 tw11181736870239090237 tw2162714655455484325 tw15075297978888608233 tw668519462723350552 tw16297169658788116606 tw14223666404745852459 tw8788434167240325653 tw10309381090756687707 tw13445165637898432044 tw1975847386258458196 tw2767878040746604842 tw4669629205401537739 tw13667625960792790109 tw3861367042905224806 tw14493194397621322015 tw5235576133962049030 tw13099780601750598760 tw16693086617159921550 tw9374053358738702803 tw12286438507522315939 tw11214127450743258675 tw11350561686025799070 tw5707664407878215939 tw12548295326378819997 tw6385501703951310919 tw3497164614798016355 tw17642260437289554365 tw3761941018930149169 tw4395810662589159481 tw4000205151692555774 tw8068095633843206634 tw3250499240254446625 tw12028553116534901005 tw16542435448460590224 tw4517708585828682067 tw12188032568906144211 tw17366110411890545059 tw13038157211502869813 tw6095897480227219545 tw7473114508327677241 tw3905742893378483870 tw2613473115859732662 tw4826444978678361322 tw5572769297143060208 tw13411334234944476017 tw13624079889273556887 tw11774001065224068472 tw7045686246783856219 tw15981525927799627765 tw12252604866487434794 tw8111481797026576196 tw13923553162703682101 tw11025979607085772304 tw8751511799731842038 tw5527034023088570279 tw18400169780303239413 tw5768343598572768882 tw8259544626928180652 tw3923161744910415929 tw4100405873128225775 tw1491687012881792856 tw15458712760896987249 tw10020100954393789511 tw347564953237729347 tw2115253950045728960 tw1161362671539985051 tw6345155775697406601 tw233541901535973822 tw10618293787601856372 tw16954927614902640169 tw15017373734473389961 tw13116147440386667608 tw15239394364861080232 tw15409641936787641057 tw15810860764439401852 tw1309965803358680931 tw8213108647373029765 tw16050631408592668439 tw2187398211049269697 tw2089049125834720547 tw8029509992379689753 tw6823801988299965499 tw11968926611339620802 tw5877628263046568136 tw17085552824883921273 tw16778385638144759180 tw14030069135579039718 tw7610862310491769133 tw696676407424254814 tw13478272776514156554 tw3939338932605823248 tw14230665168883183479 tw18061569369337213680 tw15338401056280525575 tw7087608943598391126 tw9316103757740580441 tw12657622166587508751 tw7182468607003179244 tw8184457482435781 tw7591620325558766601 tw16519470326942751524 tw16905247464002330867 tw17530082888267098528 tw2003595210790284209 tw3746199553622848391 tw7368512122656791261 tw17257959363129710902 tw9461633147466218177 tw745133355515931878 tw8263945568315259348 tw2937096462298395415 tw7131131612459568359 tw10411412806941653930 tw6573956780115879235 tw7347142381894895940 tw7315737817344445142 tw2404890988368594667 tw9557119550642061043 tw7215285298260910809 tw17720362557242278990 tw5804794629337257274 tw2606979436265527779 tw8852509268165406393 tw6591672834630034168 tw7529284641351606916 tw2122368562344811433 tw11680566137306168775 tw5853686852112843325 tw17540228752383059775 tw11636593142859012509 tw306500281707099181 tw13397998208091326780 tw5807655447796885002 tw7049176104808329686 tw3911965279702706649 tw6979619344678173681 tw4467487504102550180 tw15169889881840345829 tw15059196450782822524 tw16218327559945772427 tw1496996258082645382 tw6230543322783281328 tw13774631118897372397 tw5586911594890729654 tw15817772506250172313 tw7625120382055503754 tw9522303297456217479 tw10542513064269167495 tw9291632384539093915 tw1049650996157349640 tw5786905014093228921 tw4922456040235737366 tw9864904767251349647 tw4828250303999992167 tw2303742199007937190 tw10764486119915844000 tw3371578673292935779 tw11182483046079501237 tw14927201980143924464 tw500165700259571973 tw993298448570606666 tw15259210199307468846 tw1404360344299750233 tw7311316558499763283 tw4899761615361743019 tw6778087441420692401 tw11562347216342149284 tw14559817908482664529 tw1172554191547599730 tw6612941858715899060 tw10181869533196127235 tw568065748200277598 tw9498581899894842204 tw10213864273583028031 tw15359281355599646748 tw7773873738588382830 tw4139129939813794054 tw4273947364807921356 tw3448499974205477744 tw17976942418761763743 tw11854861217312250053 tw3517383012255040038 tw13327156255861658329 tw15442188885752582235 tw2163561913603095668 tw1283425957516488414 tw14491990435905295567 tw14071736401967946555 tw4335810227148857081 tw15916875718515422355 tw9206200905709277276 tw1937480322600875546 tw6634664794564599011 tw1473371078028808909 tw5432476227104474954 tw4802910460273477121 tw8053524198768402852:True)
open PySem PySem.W PyProof.Rows
def ZQ.all_mk2{l w K h mg fa fl x0 x1 x2 x3 x4 x5 x6 x7 x8 x9 xa xb xc xd xe xf xg xh xi xj xk xl xm xn xo xp xq xr xs xt xu xv xw xx xy xz y0 y1 y2 y3 y4 y5 y6 y7 y8 y9 ya yb yc yd ye yf yg yh yi yj yk yl ym yn yo yp yq yr ys yt yu yv yw yx yy yz z0 z1 z2 z3 z4 z5 z6 z7 z8 z9 za zb zc zd ze zf zg zh zi zj zk zl zm zn zo zp zq zr zs zt zu zv zw zx zy zz u0}:=@ZQ.all_mk l w K h mg fa fl ⟨x0,x1,x2,x3,x4,x5,x6,x7,x8⟩ ⟨x9,xa,xb,xc,xd,xe,xf,xg,xh,xi,xj,xk,xl,xm,xn,xo,xp,xq,xr,xs,xt,xu,xv,xw,xx,xy,xz,y0,y1,y2,y3,y4,y5,y6,y7,y8,y9,ya,yb,yc,yd,ye,yf,yg,yh,yi,yj,yk,yl,ym,yn,yo,yp,yq,yr,ys,yt,yu,yv,yw,yx,yy,yz,z0,z1,z2,z3,z4,z5,z6,z7,z8,z9,za,zb,zc,zd,ze,zf,zg,zh,zi,zj,zk,zl,zm,zn,zo,zp,zq,zr,zs,zt,zu,zv,zw,zx,zy,zz,u0⟩
set_option maxRecDepth 100000 in
set_option maxHeartbeats 0 in
theorem PySem.Challenge.cw_greywalk_k29_a_round_alone_holds : PySem.Challenge.rw_greywalk_k29_a_round_alone.Holds := by
 w_on;o_law;k_head;(case hw=>w_witness2)
 k_fill
 refine ZQ.walk (l:=PySem.Challenge.rw_greywalk_k29_a_round_alone) rfl rfl (fun w h Y=>PySem.W.kIn_of Y) ?F
 case F=>
  intro w mg fa h KX G hmg
  refine' ZQ.all_mk2 KX G hmg ⟨?d0,?d1,?d2,?d3,?d4,?d5,?d6,?d7,?d8,?d9,?d10,?d11,?d12,?d13,?d14,?d15,?d16,?d17,?d18,?d19,?d20,?d21,?d22,?d23,?d24,?d25,?d26,?d27,?d28,?d29,?d30,?d31,?d32,?d33,?d34,?d35,?d36,?d37,?d38,?d39,?d40,?d41,?d42,?d43,?d44,?d45,?d46,?d47,?d48,?d49,?d50,?d51,?d52,?d53,?d54,?d55,?d56,?d57,?d58,?d59,?d60,?d61,?d62,?d63,?d64,?d65,?d66,?d67,?d68,?d69,?d70,?d71,?d72,?d73,?d74,?d75,?d76,?d77,?d78,?d79,?d80,?d81,?d82,?d83,?d84,?d85,?d86,?d87,?d88,?d89,?d90,?d91,?d92,?d93,?d94,?d95,?d96,?d97,?d98,?d99,?Zz7,?Zz6,?Zz5,?Zz4,?Zz3,?Zz2,?Zz1,?Zz0,?Zyz,?Zyy,?Zyx,?Zyw,?Zyv,?Zyu,?Zyt,?Zys,?Zyr,?Zyq,?Zyp,?Zyo,?Zyn,?Zym,?Zyl,?Zyk,?Zyj,?Zyi,?Zyh,?Zyg,?Zyf,?Zye,?Zyd,?Zyc,?Zyb,?Zya,?Zy9,?Zy8,?Zy7,?Zy6,?Zy5,?Zy4,?Zy3,?Zy2,?Zy1,?Zy0,?Zxz,?Zxy,?Zxx,?Zxw,?Zxv,?Zxu,?Zxt,?Zxs,?Zxr,?Zxq,?Zxp,?Zxo,?Zxn⟩ ?h0 ?h1 ?h2 ?h3 ?h4 ?h5 ?h6 ?h7 ?h8 ?h9 ?h10 ?h11 ?h12 ?h13 ?h14 ?h15 ?h16 ?h17 ?h18 ?h19 ?h20 ?h21 ?h22 ?h23 ?h24 ?h25 ?h26 ?h27 ?h28 ?h29 ?h30 ?h31 ?h32 ?h33 ?h34 ?h35 ?h36 ?h37 ?h38 ?h39 ?h40 ?h41 ?h42 ?h43 ?h44 ?h45 ?h46 ?h47 ?h48 ?h49 ?h50 ?h51
  case d0 | d1 | d2 | d3 | d4 | d5 | d6 | d7 | d8 | d9 | d10 | d11 | d12 | d13=>(show _=_;(try dsimp only)<;>k_is)
  case d14 | d15 | d16 | d17 | d18 | d19 | d20 | d21=>(refine' ZQ.mtm ?a ?i ?l ?c ?k;case a | i | l | c | k=>(show _=_;(try dsimp only)<;>k_is))
  case d22 | d23 | d24 | d25=>(refine' ZQ.fam ?a ?l ?c ?k;case a | l | c | k=>(show _=_;(try dsimp only)<;>k_is))
  case d26 | d27 | d28=>(refine' ZQ.mtm ?a ?i ?l ?c ?k;case a | i | l | c | k=>(show _=_;(try dsimp only)<;>k_is))
  case d29 | d30 | d31 | d32 | d33 | d34 | d35 | d36 | d37 | d38 | d39 | d40 | d41 | d42 | d43 | d44 | d45 | d46 | d47 | d48 | d49 | d50 | d51 | d52 | d53 | d54 | d55 | d56 | d57 | d58 | d59=>(refine' ZQ.fam ?a ?l ?c ?k;case a | l | c | k=>(show _=_;(try dsimp only)<;>k_is))
  case d60 | d61 | d62 | d63 | d64 | d65 | d66 | d67=>(refine' ZQ.mtm ?a ?i ?l ?c ?k;case a | i | l | c | k=>(show _=_;(try dsimp only)<;>k_is))
  case d68 | d69 | d70 | d71 | d72 | d73 | d74 | d75 | d76 | d77 | d78 | d79 | d80 | d81 | d82 | d83 | d84 | d85 | d86 | d87 | d88 | d89 | d90 | d91 | d92 | d93 | d94 | d95 | d96 | d97 | d98 | d99 | Zz7 | Zz6 | Zz5 | Zz4 | Zz3 | Zz2 | Zz1 | Zz0=>(refine' ZQ.fam ?a ?l ?c ?k;case a | l | c | k=>(show _=_;(try dsimp only)<;>k_is))
  case Zyz=>(refine' ZQ.cam ?a ?b ?c ?d ?e ?f;case a | b | c | d | e | f=>(show _=_;(try dsimp only)<;>k_is))
  case Zyy | Zyx | Zyw | Zyv | Zyu=>(show _=_;(try dsimp only)<;>k_is)
  case Zyt=>(refine' ZQ.cam ?a ?b ?c ?d ?e ?f;case a | b | c | d | e | f=>(show _=_;(try dsimp only)<;>k_is))
  case Zys | Zyr | Zyq | Zyp=>(show _=_;(try dsimp only)<;>k_is)
  case Zyo=>(refine' ZQ.cam ?a ?b ?c ?d ?e ?f;case a | b | c | d | e | f=>(show _=_;(try dsimp only)<;>k_is))
  case Zyn | Zym=>(show _=_;(try dsimp only)<;>k_is)
  case Zyl=>(refine' ZQ.cam ?a ?b ?c ?d ?e ?f;case a | b | c | d | e | f=>(show _=_;(try dsimp only)<;>k_is))
  case Zyk | Zyj | Zyi | Zyh | Zyg | Zyf | Zye | Zyd | Zyc | Zyb | Zya=>(show _=_;(try dsimp only)<;>k_is)
  case Zy9=>(refine' ZQ.cam ?a ?b ?c ?d ?e ?f;case a | b | c | d | e | f=>(show _=_;(try dsimp only)<;>k_is))
  case Zy8 | Zy7 | Zy6 | Zy5 | Zy4=>(show _=_;(try dsimp only)<;>k_is)
  case Zy3=>(refine' ZQ.cam ?a ?b ?c ?d ?e ?f;case a | b | c | d | e | f=>(show _=_;(try dsimp only)<;>k_is))
  case Zy2=>(show _=_;(try dsimp only)<;>k_is)
  case Zy1=>(refine' ZQ.cam ?a ?b ?c ?d ?e ?f;case a | b | c | d | e | f=>(show _=_;(try dsimp only)<;>k_is))
  case Zy0=>(show _=_;(try dsimp only)<;>k_is)
  case Zxz=>(refine' ZQ.cam ?a ?b ?c ?d ?e ?f;case a | b | c | d | e | f=>(show _=_;(try dsimp only)<;>k_is))
  case Zxy=>(show _=_;(try dsimp only)<;>k_is)
  case Zxx=>(refine' ZQ.cam ?a ?b ?c ?d ?e ?f;case a | b | c | d | e | f=>(show _=_;(try dsimp only)<;>k_is))
  case Zxw | Zxv=>(show _=_;(try dsimp only)<;>k_is)
  case Zxu | Zxt | Zxs | Zxr=>((try dsimp only)<;>k_exc)
  case Zxq | Zxp | Zxo | Zxn=>((try dsimp only)<;>kts_exm)
  case h0 | h1 | h2 | h3=>(show _=_;(try dsimp only)<;>k_is)
  case h4 | h5=>first | exact rfl | exact ⟨_,rfl⟩
  case h6 | h7 | h8 | h9 | h10 | h11 | h12 | h13=>(show _=_;(try dsimp only)<;>k_is)
  case h14 | h15 | h16 | h17=>exact rfl
  case h18 | h19=>(show _=_;(try dsimp only)<;>k_is)
  case h20 | h21 | h22 | h23 | h24 | h25 | h26 | h27 | h28 | h29=>exact rfl
  case h30 | h31 | h32 | h33 | h34 | h35 | h36 | h37 | h38 | h39 | h40 | h41 | h42 | h43 | h44 | h45 | h46 | h47 | h48=>(show _=_;(try dsimp only)<;>k_is)
  case h49=>first | exact rfl | exact ⟨_,rfl⟩
  case h50=>(show _=_;(try dsimp only)<;>k_is)
  case h51=>first | exact rfl | exact ⟨_,rfl⟩
#print axioms PySem.Challenge.cw_greywalk_k29_a_round_alone_holds
