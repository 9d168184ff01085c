import PyProof.Rows.All
import Lean
import KE.KTryMore
import KE.KItemsList
import KE.KItem
import KE.RegKTryMore
import KE.KDictList
import KE.KEqDict
import KE.KIsBytes
import PySem.Challenge.RW_greywalk_k41_rows_of_undoing
set_option Elab.async false
set_option linter.all false
set_option compiler.extract_closed false
set_option maxRecDepth 100000
set_option hygiene false
local macro_rules|`(γ)=>`(by decide +kernel)
local macro_rules|`(δ)=>`(by omega)
local macro_rules|`(ε)=>`(by decide)
local macro_rules|`(ζ)=>`(by simp)
local macro_rules|`(η)=>`(by rfl)
local macro_rules|`(↑$x)=>`(some (.ref $x))
local macro_rules|`(ι $x*)=>`(Hh P w K mg base $x*)
local macro_rules|`(ν)=>`(St->Hp->Prop)
local macro_rules|`(ξ)=>`(⟨n,Q,bk,ct⟩)
local macro_rules|`(ο)=>`(rI (λ_ j=>0<j) λi j=>.int (i % j))
local macro_rules|`(π)=>`(aJ (pv 0) rfl)
local macro_rules|`(ρ)=>`(ak 0)
local macro_rules|`(ς)=>`(tC (.int 0))
local macro_rules|`(τ)=>`(tC (.int 1))
local macro_rules|`(υ)=>`(model X.prog X.w)
local macro_rules|`(χ)=>`(ak 1)
local macro_rules|`(ψ)=>`(bB (aa (aW) (aa (az) (aa (az) (aa (az) (aa (az) au))))))
local macro_rules|`(ω)=>`(pv 1)
local macro_rules|`(Γ)=>`(Nat.le_refl _)
local macro_rules|`(Δ)=>`(iB λi j=>.int (i+j))
local macro_rules|`(Θ)=>`(Va AD.bY AD.aQ AD.bx AD.bF)
local macro_rules|`(Ξ)=>`(pv 0)
local macro_rules|`(Φ)=>`(iz cg ω (az))
local macro_rules|`(Ψ)=>`(by repeat (first | exact trivial | refine⟨rfl,?_⟩))
local macro_rules|`(Ω)=>`(model prog w)
local macro_rules|`(ac)=>`(ak 2)
local macro_rules|`(ad)=>`(hr.mono ε)
local macro_rules|`(ae)=>`(pv 2)
local macro_rules|`(af)=>`(rI vA λi j=>.int (i / j))
local macro_rules|`(ag)=>`(aZ K ρ "sweeper")
local macro_rules|`(ah)=>`(s.heap.objs.size+1)
local macro_rules|`(ai)=>`(bO G.cu η T.gq G.boot_len (aa π au))
local macro_rules|`(am)=>`(tC (.int 3))
local macro_rules|`(ap)=>`(ph.symm.trans z)
local macro_rules|`(ar)=>`(tC (.int 2))
local macro_rules|`(av)=>`(λz=>nomatch z)
local macro_rules|`(ax)=>`(dN (fj T) hr T.mo T.fB (aa Ξ (aa (az) (aa (az) au))))
local macro_rules|`(ay)=>`(λH Q h=>⟨ε,h⟩)
local macro_rules|`(aE)=>`(bT c ph gr lo a at_ st b d e f)
local macro_rules|`(aS)=>`(λz=>by cases z)
local macro_rules|`(aT)=>`(aj (ak 3) aG)
local macro_rules|`(a4)=>`(aa (pv 3) au)
local macro_rules|`(a5)=>`(iB λi j=>.bl (decide (i<j)))
local macro_rules|`(a6)=>`(bT (fO M).sw.sense "lost" A.gr (fO M).sw.looked (fO M).sw.turn (fO M).sw.at' (fO M).sw.stop (fO M).sw.walks (fO M).sw.looks (fO M).sw.passes (.ref a))
local macro_rules|`(a7)=>`(aj ρ aG)
local macro_rules|`(a8)=>`(λ_=>?_)
local macro_rules|`(a9)=>`(iB λi j=>.int (Builtin.bitAnd i j))
local macro_rules|`(ba)=>`(Nat.lt_of_lt_of_le (Heap.lt_size e) I.ok.above)
local macro_rules|`(bb)=>`(rI zZ λi j=>.int (i * j))
local macro_rules|`(bc)=>`(bH M)
local macro_rules|`(bd)=>`(aj (oU (G.gD K) (aj (aZ K ρ "hands") aG)) aG)
local macro_rules|`(be)=>`(aZ K ρ "heap")
local macro_rules|`(bf)=>`(aj χ aG)
local macro_rules|`(bg)=>`(bM "heap" (.ref hq) [])
local macro_rules|`(bi)=>`(bM "names" (.ref nm) (bM "hands" (.ref d) u))
local macro_rules|`(bj)=>`(aa ω au)
local macro_rules|`(bo)=>`(aU cG (aU gG Ξ (az)) (az))
local macro_rules|`(bp)=>`(pick σ)
local macro_rules|`(bq)=>`(tC (.str "sweep"))
local macro_rules|`(br)=>`(show false=true from hs)
local macro_rules|`(bt)=>`(bT S.sense S.phase A.gr S.looked S.turn S.at' S.stop S.walks S.looks S.passes S.loss)
local macro_rules|`(bv)=>`(upd (upd H l (.lst [])) A.sw (.ins X.S dx (bT S.sense S.phase l S.looked S.turn S.at' S.stop S.walks S.looks S.passes S.loss)))
local macro_rules|`(bE)=>`(upd H A.nm (.dK (putK (wQ M.names A.ns) (Sum.inr z) (.ref t))))
local macro_rules|`(bP)=>`(aa Ξ au)
local macro_rules|`(bS)=>`(aJ π rfl)
local macro_rules|`(bX)=>`(Or.inl rfl)
local macro_rules|`(b5)=>`(codeAny_handlers_test (fU (X:=J7 X (.ref b) (X.pn++a)) (jj g (.ref b)) u o ?_ y))
local macro_rules|`(b6)=>`(bT (1 - M.sw.sense) "walk" gr M.sw.looked (M.sw.turn+1) M.sw.at' M.sw.stop M.sw.walks M.sw.looks M.sw.passes M.sw.loss)
local macro_rules|`(b7)=>`(jr birth bulk tone load fa)
local macro_rules|`(b8)=>`(gJ (G.jK (eX ae T.nA.c T.pH (dO T).g ad (dO (P:=P) (base:=base) T).b .nil G.cQ) (G.jK (eX ae T.qZ.c T.rK (dO T).g ad (dO (P:=P) (base:=base) T).b .nil G.cQ) (eX ae T.qY.c T.rJ.m (mz T).g ad (mz (P:=P) (base:=base) T).b .nil G.cQ))))
local macro_rules|`(b9)=>`(i+1)
local macro_rules|`(cc)=>`(W.instObj C s.heap.objs.size)
local macro_rules|`(ci)=>`(λz=>?_)
local macro_rules|`(ck)=>`(iG room ca used born)
local macro_rules|`(cm)=>`(Int×AE)
local macro_rules|`(cn)=>`(ts.map V.ref)
local macro_rules|`(cq)=>`(tC .non)
local macro_rules|`(cr)=>`(λv t=>fL t v.1 v.2)
local macro_rules|`(cv)=>`(fM K)
local macro_rules|`(cw)=>`(ak 4)
local macro_rules|`(cx)=>`(Str×(Int×Int))
local macro_rules|`(cy)=>`(aj ac aG)
local macro_rules|`(cE)=>`(aa ae au)
local macro_rules|`(cM)=>`(dH I q ζ)
local macro_rules|`(c0)=>`(pv 4)
local macro_rules|`(c8)=>`(rI U8 λi j=>.int (i ^ j.toNat))
local macro_rules|`(c9)=>`(λea pn=>(aA (aK (G.Ge (uO T) hr (T.mo T.ud.a) (aa (aW) au)))))
local macro_rules|`(da)=>`(cP (aj (tC (.str "make")) (aj ς (aj ς (aj τ (aj ς aG))))))
local macro_rules|`(db)=>`(cP (aj (tC (.str "make")) (aj ς (aj τ (aj ς (aj ς aG))))))
local macro_rules|`(de)=>`(aU cG Ξ (az))
local macro_rules|`(df)=>`(by intro z;cases z)
local macro_rules|`(di)=>`(List.mem_append_right _ (List.mem_append_right _ (pG hb e)))
local macro_rules|`(dr)=>`(bw (tC (.bl false)))
local macro_rules|`(dt)=>`(oO M M.hands.length)
local macro_rules|`(dv)=>`(EP X pins σ Q)
local macro_rules|`(dy)=>`(A.cs.map pV)
local macro_rules|`(dz)=>`(upd H a o)
local macro_rules|`(dA)=>`(aJ ω rfl)
local macro_rules|`(dC)=>`(codeAny_handlers_test (fU (X:=J7 X (.ref b) (X.pn++a)) (jj g (.ref b)) N C ?_ F))
local macro_rules|`(dE)=>`(ak 3)
local macro_rules|`(dL)=>`(tC (.str "lost"))
local macro_rules|`(dP)=>`(pv 3)
local macro_rules|`(dQ)=>`(aR a [] E0 a7)
local macro_rules|`(dS)=>`(iB λi j=>.int (i - j))
local macro_rules|`(dX)=>`(k+1)
local macro_rules|`(ec)=>`(starEach es X.env)
local macro_rules|`(ee)=>`(aO 3)
local macro_rules|`(ef)=>`(aZ K ρ "cells")
local macro_rules|`(eg)=>`(aZ K ag "phase")
local macro_rules|`(eh)=>`(λ_ _ _ _ _ _ _ I hx hE=>G.Ri I hx hE)
local macro_rules|`(ei)=>`(bu (Ow) cw (G.tLC (M6 (aj (oU (G.gD K) (aj (ak 6) aG)) aG)) [5,6] (bJ (bu (G.qt) (bu (jf K) ac ρ) cq)) (cP (aj (tC (.str "drop")) (aj χ a7)))))
local macro_rules|`(el)=>`(nhL bc M.hands 0)
local macro_rules|`(en)=>`(Nat.ne_of_lt (Nat.lt_of_lt_of_le (Heap.lt_size e) (I.ok.cab x c D hc)))
local macro_rules|`(eu)=>`(iB λi j=>.bl (decide (j<i)))
local macro_rules|`(ez)=>`(aC st)
local macro_rules|`(eA)=>`(aO 2)
local macro_rules|`(eB)=>`(bL Ξ (az) rfl)
local macro_rules|`(eC)=>`(rI (λ_ j=>0<=j) λi j=>.int (i / 2 ^ j.toNat))
local macro_rules|`(eD)=>`(by unfold W.kitOne W.kitCls;rw[if_neg ζ];simp)
local macro_rules|`(eH)=>`(λz=>h0 (congrArg Prod.fst z).symm)
local macro_rules|`(eI)=>`(upd H l (.lst []))
local macro_rules|`(eJ)=>`(Key×V)
local macro_rules|`(eK)=>`(some (.builtin "object.__init__"))
local macro_rules|`(eL)=>`(gw (ha pos a s i H _ I h) λus l ⟨j,H1,I1,r,q⟩=>⟨I1.oM,?_⟩)
local macro_rules|`(eM)=>`(bu cv χ τ)
local macro_rules|`(eN)=>`(b.map V.ref)
local macro_rules|`(eP)=>`(λcdv A outer s H vs Q E hr h=>?_)
local macro_rules|`(eQ)=>`(aA (aK (nW)))
local macro_rules|`(eS)=>`(eU aG)
abbrev Ap:=PySem.Value->PySem.Shared->Prop
abbrev As:=PySem.Str->Option PySem.Value
abbrev At:=List (PySem.Addr×PySem.Obj)
abbrev Au:=List (Option Int)
abbrev AA:=Option Int
abbrev AB:=Option PySem.Value
abbrev AC:=List PySem.Value
abbrev AE:=List Int
abbrev AF:=List PySem.Addr
abbrev AG:=List PySem.Expr
abbrev AH:=List PySem.Str
abbrev AI:=PySem.Addr
abbrev AJ:=PySem.Value
abbrev AK:=PySem.Shared
abbrev AL:=PySem.FuncData
abbrev AM:=PySem.Program
abbrev AN:=PySem.Expr
abbrev AO:=PySem.World
abbrev aD:=PySem.W.Frag
theorem bG{a:Type}{l:List a}{i:Nat}(h:i<l.length):l[i]? =some l[i]:=List.getElem?_eq_getElem h
theorem cL{b:Type}{l:List b}{i:Nat}{a:b}(h:l[i]? =some a):∃h:i<l.length,l[i]=a:=List.getElem?_eq_some_iff.mp h
theorem bV{a b:Type}{f:a->b}{l:List a}{i:Nat}:(l.map f)[i]? =l[i]?.map f:=List.getElem?_map
theorem aX{a b:Type}{l:List a}(f:a->b):(l.map f).length=l.length:=List.length_map f
namespace L2
open PySem PySem.Spec PyProof.Rows
abbrev Key:=Sum Int Str
def Ho:Key->AJ->Bool
 | .inl k,v=>Value.isInt k v
 | .inr x,v=>Value.isStrOf x v
def Zy9(w:AO):Key->Int
 | .inl k=>hashInt k
 | .inr x=>hashStr w x
theorem dF:∀{k:Key}{v:AJ},Ho k v=true->(∃i t,k=Sum.inl i/\v=Value.int i t)\/(∃x t,k=Sum.inr x/\v=Value.str x t)
 | .inl i,v,h=>by
  obtain⟨t,e⟩:=Value.isInt_shape (k:=i) (v:=v) h;exact .inl ⟨i,t,rfl,e⟩
 | .inr x,v,h=>by
  obtain⟨t,e⟩:=Value.isStrOf_shape (x:=x) (v:=v) h;exact .inr ⟨x,t,rfl,e⟩
theorem Zm0(i:Int)(t:Tok):Ho (.inl i) (.int i t)=true:=by simp[Ho,Value.isInt]
theorem Zlz(x:Str)(t:Tok):Ho (.inr x) (.str x t)=true:=by simp[Ho,Value.isStrOf]
theorem Zw6(a b:Int):decide ((Sum.inl a:Key)=Sum.inl b)=(a == b):=by
 by_cases e:a=b
 ·subst e;simp
 ·have h:¬ (Sum.inl a:Key)=Sum.inl b:=λq=>e (Sum.inl.inj q);rw[decide_eq_false h];exact(beq_eq_false_iff_ne.mpr e).symm
theorem Zw3(a b:Str):decide ((Sum.inr a:Key)=Sum.inr b)=decide (a=b):=by
 by_cases e:a=b
 ·subst e;simp
 ·have h:¬ (Sum.inr a:Key)=Sum.inr b:=λq=>e (Sum.inr.inj q);rw[decide_eq_false h,decide_eq_false e]
theorem Zw5(a:Int)(b:Str):decide ((Sum.inl a:Key)=Sum.inr b)=false:=decide_eq_false (λq=>nomatch q)
theorem Zw4(a:Str)(b:Int):decide ((Sum.inr a:Key)=Sum.inl b)=false:=decide_eq_false (λq=>nomatch q)
def dD(prog:AM)(w:AO):PySem.KeyKind prog w Key where
  is:=Ho
  hash:=Zy9 w
  inj:=λv a b ha hb=>by
    rcases dF ha with ⟨i,t,rfl,rfl⟩ | ⟨x,t,rfl,rfl⟩
    · rcases dF hb with ⟨j,u,rfl,e⟩ | ⟨y,u,rfl,e⟩
      · injection e with c _;rw[c]
      · exact nomatch e
    · rcases dF hb with ⟨j,u,rfl,e⟩ | ⟨y,u,rfl,e⟩
      · exact nomatch e
      · injection e with c _;rw[c]
  byValue:=λk v h=>by
    rcases dF h with ⟨i,t,rfl,rfl⟩ | ⟨x,t,rfl,rfl⟩<;>rfl
  pyHash:=λhv h=>by
    rcases dF hv with ⟨i,t,rfl,rfl⟩ | ⟨x,t,rfl,rfl⟩
    · exact wpAny_pyHash_int h
    · exact wpAny_pyHash_str h
  eqBool:=λhu hv h=>by
    rcases dF hu with ⟨i,t,rfl,rfl⟩ | ⟨x,t,rfl,rfl⟩
    · rcases dF hv with ⟨j,u,rfl,rfl⟩ | ⟨y,u,rfl,rfl⟩
      · rw[Zw6]at h;exact wpAny_eqBool_int h
      · rw[Zw5]at h;exact SeqAt.EqAt.int_str i t y u _ _ _ _ h
    · rcases dF hv with ⟨j,u,rfl,rfl⟩ | ⟨y,u,rfl,rfl⟩
      · rw[Zw4]at h;exact SeqAt.EqAt.str_int x t j u _ _ _ _ h
      · rw[Zw3]at h;exact wpAny_eqBool_str h
  «strs»:=λk x t v h=>by
    rcases dF h with ⟨i,u,rfl,e⟩ | ⟨y,u,rfl,e⟩
    · exact nomatch e
    · injection e with c _
      subst c;cases v<;>rfl
theorem Zei(prog:AM)(w:AO)(i:Int)(t:Tok):(dD prog w).is (.inl i) (.int i t)=true:=Zm0 i t
theorem Zeh(prog:AM)(w:AO)(x:Str)(t:Tok):(dD prog w).is (.inr x) (.str x t)=true:=Zlz x t
inductive V where
 | non | bl (b:Bool) | int (i:Int) | str (x:Str) | byt (b:Array UInt8) | flt (b:UInt64) | ref (a:AI) | ty (n:String)
 deriving DecidableEq
def RelV:V->AJ->Prop
 | .non,u=>u=Value.none
 | .bl b,u=>u=Value.bool b
 | .int i,u=>∃t,u=Value.int i t
 | .str x,u=>∃t,u=Value.str x t
 | .byt b,u=>∃t,u=Value.bytes b t
 | .flt b,u=>∃t,u=Value.float b t
 | .ref a,u=>u=Value.ref a
 | .ty n,u=>u=Value.type n
abbrev Vals:List V->AC->Prop:=Paired RelV
theorem Vals.length{xs:List V}{us:AC}(r:Vals xs us):xs.length=us.length:=Paired.length r
theorem Vals.get:∀{xs:List V}{us:AC}{i:Nat}{x:V},Vals xs us->xs[i]? =some x->∃u,us[i]? =some u/\RelV x u
 | _,_,_,_,.nil,e=>by simp at e
 | _,_,0,_,.cons r _,e=>by simp at e;subst e;exact⟨_,rfl,r⟩
 | _,_,i+1,x,.cons _ t,e=>by
  obtain⟨u,h1,h2⟩:=Vals.get (i:=i) (x:=x) t (by simpa using e);exact⟨u,by simpa using h1,h2⟩
theorem Vals.set{x:V}{u:AJ}(r:RelV x u):∀{xs:List V}{us:AC} (i:Nat),Vals xs us->Vals (xs.set i x) (us.set i u)
 | _,_,_,.nil=>.nil
 | _,_,0,.cons _ t=>.cons r t
 | _,_,i+1,.cons q t=>.cons q (Vals.set r i t)
theorem Vals.append:∀{xs a:List V}{us b:AC},Vals xs us->Vals a b->Vals (xs++a) (us++b)
 | _,_,_,_,.nil,s=>s
 | _,_,_,_,.cons r t,s=>.cons r (Vals.append t s)
theorem Vals.take:∀{xs:List V}{us:AC} (n:Nat),Vals xs us->Vals (xs.take n) (us.take n)
 | _,_,0,_=>.nil
 | _,_,_+1,.nil=>.nil
 | _,_,n+1,.cons r t=>.cons r (Vals.take n t)
theorem Vals.drop:∀{xs:List V}{us:AC} (n:Nat),Vals xs us->Vals (xs.drop n) (us.drop n)
 | _,_,0,r=>r
 | _,_,_+1,.nil=>.nil
 | _,_,n+1,.cons _ t=>Vals.drop n t
def zX:Option V->AB->Prop
 | some v,some u=>RelV v u
 | none,none=>True
 | _,_=>False
def KV{a:Type}:List (a×V)->List (a×AJ)->Prop:=Paired λ(p:a×V) (q:a×AJ)=>p.1=q.1/\RelV p.2 q.2
def kV:Key->V
 | .inl i=>.int i
 | .inr x=>.str x
inductive HO where
  | lst (xs:List V)
  | tup (xs:List V)
  | dK (kvs:List (Key×V)) | dT (kvs:List (List Key×V))
  | set (S:Int->Bool) (n:Nat)
  | ins (C dx:AI) (fs:List (Str×V))
  | own (x:AI)
  | xd (fs:List (Str×V))
  | met (f x:AI)
  | rng (lo hi:Int)
  | wB (o:Obj) (u:HO)
  | Qk (ps:Array AJ)
  | ext (φ:Heap->Prop)
abbrev Hp:=AI->Option HO
def upd(H:Hp)(a:AI)(o:HO):Hp:=λb=>if b=a then some o else H b
theorem ao{H:Hp}{a:AI}{o:HO}:upd H a o a=some o:=by unfold upd;rw[if_pos rfl]
theorem aB{H:Hp}{a b:AI}{o:HO}(h:b≠a):upd H a o b=H b:=by unfold upd;rw[if_neg h]
theorem dg{H:Hp}{a:AI}{o u:HO}:upd dz a u=upd H a u:=by
 funext b;unfold upd;split<;>rfl
theorem kE{H:Hp}{a b:AI}{o u:HO}(h:H a=some o)(h':H b=some u)(d:o≠u):a≠b:=by
 intro e;subst e;rw[h]at h';exact d (Option.some.inj h')
theorem aF{H:Hp}{a b:AI}{o:HO}(h:H a=some o)(h':H b=none):a≠b:=by
 intro e;subst e;rw[h]at h';cases h'
section
variable (P:AM)(w:AO)
def fZ(H:Hp)(h:Heap)(a:AI):HO->Prop
 | .lst xs=>xs.length<=sizeLine/\∃(b:AC) (n:Nat),Vals xs b/\h.get? a=some { cls:=.type "list",data:=.seq b.toArray n }
 | .tup xs=>xs.length<=sizeLine/\∃b:AC,Vals xs b/\IsTup h a b.toArray
 | .dK c=>c.length<=sizeLine/\(a == sysModules)=false/\∃vs,KV c vs/\h.DictOf (dD P w) a vs
 | .dT c=>c.length<=sizeLine/\(a == sysModules)=false/\∃xs:List (List Key×AI×AJ),
   Paired (λ(p:List Key×V) (q:List Key×AI×AJ)=>p.1=q.1/\H q.2.1=some (.tup (p.1.map kV))/\RelV p.2 q.2.2) c xs/\
   ∃o g i,h.get? a=some o/\o.ExactDict/\o.data=.dict g i/\g.toList=xs.map (entryOfKey (tupleKind (dD P w)))/\(xs.map (·.1)).Nodup
 | .set S n=>h.SetOf (intKind P w) a S n
 | .ins C dx fs=>H dx=some (.own a)/\fs.length<=1000/\dx≠a/\h.get? a=some (W.instObj C dx)/\
   ∃d,h.Ns1 dx d/\(∀f,zX (fs.lookup f) (d f))/\PySem.Within d (fs.map (·.1))
 | .own _=>∃o,h.get? a=some o
 | .xd fs=>∃d,h.Ns1 a d/\∀f,zX (fs.lookup f) (d f)
 | .rng lo j=>∃t u v,h.get? a=some { cls:=.type "range",data:=.fields #[.int lo t,.int j u,.int 1 v] }
 | .wB o u=>h.get? a=some o/\fZ H h a u
 | .Qk ps=>h.get? a=some { cls:=.none,data:=.fields ps }
 | .met f x=>h.get? a=some (W.methodObj (.ref f) (.ref x))
 | .ext e=>e h/\(∃o,h.get? a=some o)/\∀h1 h2:Heap,e h1->(∀o,h1.get? a=some o->h2.get? a=some o)->e h2
def zx(H:Hp)(h:Heap):Prop:=∀a o,H a=some o->fZ P w H h a o
end
section
variable {P:AM}{w:AO}{H H':Hp}{h h':Heap}{a:AI}{o:HO}
theorem fZ.lt(x:fZ P w H h a o):a<h.objs.size:=by
 cases o with
 | lst c=>obtain⟨_,_,_,_,e⟩:=x;exact Heap.lt_size e
 | tup c=>obtain⟨_,_,_,p⟩:=x;exact p.lt
 | dK b=>obtain⟨_,_,_,_,o,_,_,e,_⟩:=x;exact Heap.lt_size e
 | dT b=>obtain⟨_,_,_,_,o,_,_,e,_⟩:=x;exact Heap.lt_size e
 | set S n=>obtain⟨o,_,_,_,e,_⟩:=x;exact Heap.lt_size e
 | ins C j fs=>obtain⟨_,_,_,e,_⟩:=x;exact Heap.lt_size e
 | own y=>obtain⟨_,e⟩:=x;exact Heap.lt_size e
 | xd fs=>obtain⟨_,⟨_,_,_,e,_⟩,_⟩:=x;exact Heap.lt_size e
 | rng lo d=>obtain⟨_,_,_,e⟩:=x;exact Heap.lt_size e
 | wB ob u=>obtain⟨e,_⟩:=x;exact Heap.lt_size e
 | Qk i=>exact Heap.lt_size (show h.get? a=some _ from x)
 | met f y=>exact Heap.lt_size (show h.get? a=some _ from x)
 | ext g=>obtain⟨_,⟨_,e⟩,_⟩:=x;exact Heap.lt_size e
theorem Paired.Zvw{e d:Type}{F G:e->d->Prop}:∀{l₁:List e}{c:List d},Paired F l₁ c->(∀a b,F a b->G a b)->Paired G l₁ c
 | _,_,.nil,_=>.nil
 | _,_,.cons r t,f=>.cons (f _ _ r) (Paired.Zvw t f)
theorem fZ.stay(x:fZ P w H h a o)(k:∀b u,(b=a\/H b=some (.own a))->h.get? b=some u->h'.get? b=some u)
  (D:∀b,H b=some (.own a)->H' b=some (.own a)) (E:∀b xs,H b=some (.tup xs)->H' b=some (.tup xs)):fZ P w H' h' a o:=by
 induction o with
 | lst xs=>obtain⟨z,j,n,r,e⟩:=x;exact⟨z,j,n,r,k _ _ (.inl rfl) e⟩
 | tup xs=>obtain⟨z,j,r,ob,e,c⟩:=x;exact⟨z,j,r,ob,k _ _ (.inl rfl) e,c⟩
 | dK l=>obtain⟨z,y,A,r,ob,i,g,e,c⟩:=x;exact⟨z,y,A,r,ob,i,g,k _ _ (.inl rfl) e,c⟩
 | dT l=>
  obtain⟨z,y,xs,r,ob,i,g,e,c⟩:=x;exact⟨z,y,xs,Paired.Zvw r λp q z=>⟨z.1,E _ _ z.2.1,z.2.2⟩,ob,i,g,k _ _ (.inl rfl) e,c⟩
 | set S n=>obtain⟨ob,i,g,t,e,c⟩:=x;exact⟨ob,i,g,t,k _ _ (.inl rfl) e,c⟩
 | ins C J fs=>
  obtain⟨d,z,ne,e,m,⟨od,i,g,B,c⟩,r⟩:=x;exact⟨D _ d,z,ne,k _ _ (.inl rfl) e,m,⟨od,i,g,k _ _ (.inr d) B,c⟩,r⟩
 | own y=>obtain⟨ob,e⟩:=x;exact⟨ob,k _ _ (.inl rfl) e⟩
 | xd fs=>obtain⟨m,⟨od,i,g,e,c⟩,r⟩:=x;exact⟨m,⟨od,i,g,k _ _ (.inl rfl) e,c⟩,r⟩
 | rng lo F=>obtain⟨t,u,v,e⟩:=x;exact⟨t,u,v,k _ _ (.inl rfl) e⟩
 | wB ob u ih=>obtain⟨e,q⟩:=x;exact⟨k _ _ (.inl rfl) e,ih q⟩
 | Qk s=>
  have e:h.get? a=some { cls:=.none,data:=.fields s }:=x;show h'.get? a=some { cls:=.none,data:=.fields s };exact k a _ (.inl rfl) e
 | met f y=>
  have e:h.get? a=some (W.methodObj (.ref f) (.ref y)):=x;show h'.get? a=some (W.methodObj (.ref f) (.ref y));exact k a _ (.inl rfl) e
 | ext I=>obtain⟨p,⟨o,e⟩,st⟩:=x;exact⟨st _ _ p λo q=>k _ _ (.inl rfl) q,⟨o,k _ _ (.inl rfl) e⟩,st⟩
theorem zx.lt(x:zx P w H h)(e:H a=some o):a<h.objs.size:=(x a o e).lt
theorem zx.fresh(x:zx P w H h)(e:h.objs.size<=a):H a=none:=by
 cases q:H a with
 | none=>rfl
 | some u=>exact absurd (Nat.lt_of_lt_of_le (x.lt q) e) (Nat.lt_irrefl _)
theorem zx.kept(x:zx P w H h)(k:∀b u,h.get? b=some u->h'.get? b=some u):zx P w H h':=λa o e=>
 (x a o e).stay (λb u _ q=>k b u q) (λ_ q=>q) λ_ _ q=>q
theorem zx.laid(x:zx P w H h)(k:∀b u,h.get? b=some u->h'.get? b=some u)(hp:h.objs.size<=a)(new:fZ P w dz h' a o):zx P w dz h':=λb u e=>by
 have hn:=x.fresh hp
 by_cases hb:b=a
 ·subst hb;rw[ao]at e;cases e;exact new
 ·rw[aB hb]at e;exact(x b u e).stay (λc v _ q=>k c v q) (λc q=>by rw[aB (aF q hn)];exact q) λc xs q=>by rw[aB (aF q hn)];exact q
end
def Rd(H:Hp)(a:AI)(u:HO):Prop:=H a=some u\/∃o,H a=some (.wB o u)
theorem Rd.ok{P:AM}{w:AO}{H:Hp}{h:Heap}{a:AI}{u:HO}(r:Rd H a u)(x:zx P w H h):fZ P w H h a u:=by
 rcases r with r | ⟨o,r⟩
 ·exact x a u r
 ·obtain⟨_,q⟩:=x a _ r;exact q
def Mut:Option HO->Prop
 | some (.lst _)=>True
 | some (.dK _)=>True
 | some (.dT _)=>True
 | some (.set _ _)=>True
 | some (.ins _ _ _)=>True
 | some (.ext _)=>True
 | _=>False
section
variable {P:AM}{w:AO}{H:Hp}{h h':Heap}{x e:AI}{o':HO}
theorem zx.write(ok:zx P w H h)(g:Mut (H x))(m:e=x\/H e=some (.own x))(k:∀b u,b≠e->h.get? b=some u->h'.get? b=some u)(i:∃u,h'.get? e=some u)
  (new:fZ P w (upd H x o') h' x o'):zx P w (upd H x o') h':=λb u q=>by
 have d:∀c y,H c=some (.own y)->c≠x:=λc y r z=>by subst z;rw[r]at g;exact g
 have j:∀c f,H c=some (.tup f)->c≠x:=λc f r z=>by subst z;rw[r]at g;exact g
 by_cases hb:b=x
 ·subst hb;rw[ao]at q;cases q;exact new
 ·rw[aB hb]at q
  by_cases a:b=e
  ·have l:H b=some (.own x):=by
    rcases m with z | z
    ·exact absurd (a.trans z) hb
    ·rw[a];exact z
   rw[q]at l;cases l;obtain⟨v,hv⟩:=i;exact⟨v,by rw[a];exact hv⟩
  ·refine(ok b u q).stay (λc v hc r=>k c v ?_ r) (λc r=>by rw[aB (d c b r)];exact r) λc f r=>by rw[aB (j c f r)];exact r
   rcases hc with rfl | hc
   ·exact a
   ·rintro rfl;rcases m with z | z
    ·exact d c b hc z
    ·rw[hc]at z;cases z;exact hb rfl
end
structure Un(fs ex:AF)(H H':Hp)(h h':Heap):Prop where
 keep:∀b o,h.get? b=some o->H b=none->b∉fs->b∉ex->h'.get? b=some o
 slot:∀b o,h.get? b=some o->H b=none->b∈fs->b∉ex->∃sl,h'.get? b=some { o with slots:=sl }
 free:∀b o,h.get? b=some o->H b=none->b∉ex->H' b=none
 there:∀b o,h.get? b=some o->b∉ex->∃o',h'.get? b=some o'
 tups:∀b xs,H b=some (.tup xs)->H' b=some (.tup xs)
 Dc:∀b o u,H b=some (.wB o u)->H' b=some (.wB o u)
 DK:∀b ps,H b=some (.Qk ps)->∃more,H' b=some (.Qk (ps++more))
section
variable {fs fs' ex ex':AF}{H H1 H2:Hp}{h h1 h2 h':Heap}{a x e:AI}{o:HO}
theorem Un.any(u:Un fs ex H H1 h h1){b:AI}{ob:Obj}(q:h.get? b=some ob)(n:H b=none)(hx:b∉ex):∃sl,h1.get? b=some { ob with slots:=sl }:=by
 by_cases hb:b∈fs
 ·exact u.slot b ob q n hb hx
 ·exact⟨ob.slots,u.keep b ob q n hb hx⟩
theorem Un.kept(k:∀b u,h.get? b=some u->h'.get? b=some u):Un fs ex H H h h':=
 ⟨λb ob q _ _ _=>k b ob q,λb ob q _ _ _=>⟨ob.slots,k b ob q⟩,λ_ _ _ n _=>n,λb ob q _=>⟨ob,k b ob q⟩,λ_ _ q=>q,λ_ _ _ q=>q,λ_ ps q=>⟨#[],by rw[q];simp⟩⟩
theorem Un.refl:Un fs ex H H h h:=Un.kept λ_ _ q=>q
theorem Un.laid(k:∀b u,h.get? b=some u->h'.get? b=some u)(hp:h.objs.size<=a)(hn:H a=none):Un fs ex H dz h h' where
 keep:=λb u q _ _ _=>k b u q
 slot:=λb u q _ _ _=>⟨u.slots,k b u q⟩
 free:=λb u q n _=>by rw[aB (Nat.ne_of_lt (Nat.lt_of_lt_of_le (Heap.lt_size q) hp))];exact n
 there:=λb u q _=>⟨u,k b u q⟩
 tups:=λb xs q=>by rw[aB (aF q hn)];exact q
 Dc:=λb u xs q=>by rw[aB (aF q hn)];exact q
 DK:=λb ps q=>⟨#[],by rw[aB (aF q hn),q];simp⟩
theorem Un.write(c:Mut (H x))(f:e=x\/H e=some (.own x))(k:∀b u,b≠e->h.get? b=some u->h'.get? b=some u)(d:∃u,h'.get? e=some u):Un fs ex H (upd H x o) h h':=by
 have hx:∀b,H b=none->b≠x:=λb n z=>by subst z;rw[n]at c;exact c
 have hb:∀b,H b=none->b≠e:=λb n z=>by
  subst z;rcases f with r | r
  ·exact hx b n r
  ·rw[n]at r;cases r
 have hm:∀b u,H b=some u->¬ Mut (some u)->b≠x:=λb u q nm z=>by subst z;rw[q]at c;exact nm c
 refine⟨λb u q n _ _=>k b u (hb b n) q,λb u q n _ _=>⟨u.slots,k b u (hb b n) q⟩,λb u q n _=>by rw[aB (hx b n)];exact n,λb u q _=>?_,
  λb g q=>by rw[aB (hm b _ q λz=>z)];exact q,λb u g q=>by rw[aB (hm b _ q λz=>z)];exact q,λb i q=>⟨#[],by rw[aB (hm b _ q λz=>z),q];simp⟩⟩
 by_cases a:b=e
 ·subst a;exact d
 ·exact⟨u,k b u a q⟩
end
def trk(h:Heap)(H:Hp):AF:=(List.range h.objs.size).filter λa=>(H a).isSome
def Zbw(h:Heap)(H:Hp):Heap:=W.hideAll h (trk h H)
theorem Zmj(h:Heap)(H:Hp):(Zbw h H).objs.size=h.objs.size:=W.hideAll_size _ _
theorem Zpv{h:Heap}{H:Hp}{b:AI}{o:Obj}(e:h.get? b=some o)(n:H b=none):(Zbw h H).get? b=some o:=
 W.hideAll_get _ e λhm=>by
  have q:(H b).isSome=true:=(List.mem_filter.mp hm).2;rw[n]at q;simp at q
theorem Zsh{h:Heap}{H:Hp}{b:AI}{o:Obj}(e:(Zbw h H).get? b=some o):h.get? b=some o/\H b=none:=by
 have a:h.get? b=some o:=W.of_hideAll (trk h H) e;refine⟨a,?_⟩;cases q:H b with
 | none=>rfl
 | some x=>
  have hm:b∈trk h H:=List.mem_filter.mpr ⟨List.mem_range.mpr (Heap.lt_size a),by simp[q]⟩;have z:(Zbw h H).get? b=none:=W.hideAll_none (trk h H) hm;rw[z]at e;cases e
def Ztu(g h:Heap)(L:AI):At:=(List.range h.objs.size).filterMap λa=>if a=L\/(g.get? a).isSome=true then none else(h.get? a).map λo=>(a,o)
def rest(g h:Heap)(L d:AI):At:=(Ztu g h L).filter λp=>decide (p.1≠d)
structure Mod(K:aD)(mg:As)(base:Heap):Prop where
 kin:K.In base
 glob:base.Ns mainGlobals mg
 blt:∃mb,base.Ns builtinsNs mb/\∀x:Str,x≠"__name__"->mb x=bootBuiltins x
 nolimit:base.NoLimit
structure Cx where
 prog:AM
 w:AO
 K:aD
 mg:Str->AB
 base:Heap
 A:Around
 N:AH
 s₀:AK
 H₀:Hp
 env:Env
 outer:List Env
 stack:List Env
 ex:AF
 fn:Str->Bool
 calm:Bool
 pn:At
 xe:AJ->AK->Prop
def frs(l:List Env):AF:=l.filterMap (·.frame)
abbrev Cx.fs(X:Cx):AF:=frs X.outer
def Vis(a:Scope)(x:Str):Prop:=a.names.lookup x=some .local\/a.names.lookup x=some .cell\/a.names.lookup x=some .free
def Loc(a:Scope)(x:Str):Prop:=a.names.lookup x=some .local\/a.names.lookup x=some .cell
def Look(env:Env)(h:Heap)(m:As)(x:Str)(u:AJ):Prop:=
 (env.kindOf x=some .local/\m x=some u)\/((env.kindOf x=some .cell\/env.kindOf x=some .free)/\∃c,env.cells.lookup x=some c/\h.IsCell c (some u))
structure Cx.Ok(X:Cx):Prop where
 mod:Mod X.K X.mg X.base
 kind:X.env.scope.kind=.function
 glob:X.env.globals=mainGlobals
 blt:X.env.builtins=builtinsNs
 above:X.s₀.heap.objs.size<=X.env.locals
 inj:∀x y c,X.env.cells.lookup x=some c->X.env.cells.lookup y=some c->x=y
 has:∀x,(X.env.kindOf x=some .cell\/X.env.kindOf x=some .free)->∃c,X.env.cells.lookup x=some c
 cab:∀x c,X.fn x=true->X.env.cells.lookup x=some c->X.s₀.heap.objs.size<=c
 hd:X.calm=true->X.A.handled=none
 frames:X.A.frames=some X.stack
 stk:X.stack=X.outer\/(X.stack=X.env::X.outer/\X.env.frame=some X.env.locals)
 exf:∀b∈X.ex,b≠X.env.locals/\∀x c,X.env.cells.lookup x=some c->c≠b
 bs:∀b o,X.base.get? b=some o->X.s₀.heap.get? b=some o/\X.H₀ b=none
 bsz:X.base.objs.size<=X.s₀.heap.objs.size
 Zee:∀b o,X.base.get? b=some o->b∉X.ex
 Zi2:∀b∈X.ex,b∉X.fs
 ue:X.s₀.heap.FunFrames X.base X.outer
 frf:∀b∈X.fs,X.H₀ b=none
structure Inv(X:Cx)(pins:At)(σ:List (Option V))(H:Hp)(s:AK):Prop where
 ok:X.Ok
 os:s.os=X.s₀.os
 bare:AllBare s.gens
 base:Un X.fs X.ex X.H₀ H X.s₀.heap s.heap
 loc:∃m,s.heap.Ns X.env.locals m/\∀(i:Nat) (x:Str) (v:V),X.N[i]? =some x->σ[i]? =some (some v)->Vis X.env.scope x->∃u,RelV v u/\Look X.env s.heap m x u
 cell:∀x c,X.env.cells.lookup x=some c->∃v,s.heap.IsCell c v
 free:H X.env.locals=none
 m6:∀x c,X.env.cells.lookup x=some c->H c=none
 pin:∀p∈X.pn++pins,s.heap.get? p.1=some p.2/\H p.1=none/\p.1≠X.env.locals/\p.1∉X.fs/\∀v,p.2.data≠.cell v
 hok:zx X.prog X.w H s.heap
 len:σ.length=X.N.length
section
variable {X:Cx}{pins:At}{σ:List (Option V)}{H H':Hp}{s:AK}{h':Heap}
theorem Cx.Ok.ZA4(ok:X.Ok){b:AI}{o:Obj}(e:X.base.get? b=some o):b∉X.fs:=λhb=>by
 have:=(ok.ue.mem hb).1;rw[e]at this;cases this
theorem Inv.bs(I:Inv X pins σ H s):∀b o,X.base.get? b=some o->s.heap.get? b=some o/\H b=none:=λb o e=>
 ⟨I.base.keep b o (I.ok.bs b o e).1 (I.ok.bs b o e).2 (I.ok.ZA4 e) (I.ok.Zee b o e),I.base.free b o (I.ok.bs b o e).1 (I.ok.bs b o e).2 (I.ok.Zee b o e)⟩
theorem Inv.bk(I:Inv X pins σ H s):∀b o,X.base.get? b=some o->s.heap.get? b=some o:=λb o e=>(I.bs b o e).1
theorem Inv.mod(I:Inv X pins σ H s):Mod X.K X.mg X.base:=I.ok.mod
theorem Inv.oM(I:Inv X pins σ H s):X.K.In s.heap:=I.ok.mod.kin.keeps I.bk
theorem Inv.lt(I:Inv X pins σ H s):X.env.locals<s.heap.objs.size:=let ⟨_,hn,_⟩:=I.loc;hn.lt
theorem Inv.sz(I:Inv X pins σ H s):X.s₀.heap.objs.size<=s.heap.objs.size:=Nat.le_trans I.ok.above (Nat.le_of_lt I.lt)
theorem Inv.ZA3(I:Inv X pins σ H s){a:AI}(h:s.heap.objs.size<=a):a∉X.fs:=λhb=>by
 obtain⟨_,o,b,_⟩:=I.ok.ue.mem hb;exact absurd (Nat.lt_of_lt_of_le (Heap.lt_size b) (Nat.le_trans I.sz h)) (Nat.lt_irrefl _)
theorem Inv.cne(I:Inv X pins σ H s):∀x c,X.env.cells.lookup x=some c->c≠X.env.locals:=λx c e z=>by
 obtain⟨v,o,d,hd⟩:=I.cell x c e;obtain⟨m,⟨g,f,h,a,b,_⟩,_⟩:=I.loc;rw[z,a]at d;cases d;rw[b]at hd;cases hd
theorem Inv.ue(I:Inv X pins σ H s):s.heap.FunFrames X.base X.outer:=by
 have all:∀(l:List Env),(∀b∈frs l,b∈X.fs)->X.s₀.heap.FunFrames X.base l->s.heap.FunFrames X.base l:=by
  intro l
  induction l with
  | nil=>intro _ _;trivial
  | cons env r ih=>
   intro hs hl;obtain⟨hk,⟨L,o,c,hn,d,hd⟩,hr⟩:=hl;have a:L∈X.fs:=hs L (by unfold frs;rw[List.filterMap_cons,c];exact List.mem_cons_self);obtain⟨sl,e⟩:=I.base.slot L o d (I.ok.frf L a) a λz=>I.ok.Zi2 L z a;exact⟨hk,⟨L,_,c,hn,e,hd⟩,ih (λb hb=>hs b (by unfold frs;rw[List.filterMap_cons,c];exact List.mem_cons_of_mem _ hb)) hr⟩
 exact all X.outer (λ_ hb=>hb) I.ok.ue
theorem Inv.stack(I:Inv X pins σ H s):s.heap.FunFrames X.base X.stack:=by
 rcases I.ok.stk with e | ⟨e,a⟩
 ·rw[e];exact I.ue
 ·rw[e];obtain⟨m,hn,_⟩:=I.loc;refine .cons (by rw[I.ok.kind];decide) a hn ?_ I.ue;exact Heap.get?_none_of_le (Nat.le_trans I.ok.bsz I.ok.above)
theorem Inv.Jr(I:Inv X pins σ H s):∀b∈frs X.stack,b∈X.env.locals::X.fs:=λb hb=>by
 rcases I.ok.stk with e | ⟨e,a⟩
 ·rw[e]at hb;exact List.mem_cons_of_mem _ hb
 ·rw[e]at hb;unfold frs at hb;rw[List.filterMap_cons,a]at hb;exact hb
theorem Inv.ZR(I:Inv X pins σ H s):∀b∈frs X.stack,H b=none:=λb hb=>by
 rcases List.mem_cons.mp (I.Jr b hb)with e | hb
 ·rw[e];exact I.free
 ·obtain⟨_,o,a,_⟩:=I.ok.ue.mem hb;exact I.base.free b o a (I.ok.frf b hb) λz=>I.ok.Zi2 b z hb
theorem Inv.step{g':Array GenState}{t':Nat}{d':Drawn}{ch:AF}(I:Inv X pins σ H s)
  (f:∀b∈ch,(b∈X.ex\/X.s₀.heap.objs.size<=b)/\b≠X.env.locals/\(∀x c,X.env.cells.lookup x=some c->c≠b)/\∀p∈X.pn++pins,p.1≠b)
  (keep:∀b o,b≠X.env.locals->b∉X.fs->b∉ch->s.heap.get? b=some o->H b=none->h'.get? b=some o)
  (slot:∀b o,b≠X.env.locals->b∈X.fs->b∉ch->s.heap.get? b=some o->H b=none->∃sl,h'.get? b=some { o with slots:=sl }) (free:∀b o,b∉ch->s.heap.get? b=some o->H b=none->H' b=none)
  (there:∀b o,b∉ch->s.heap.get? b=some o->∃C,h'.get? b=some C)
  (tups:∀b xs,H b=some (.tup xs)->H' b=some (.tup xs)) (Dc:∀b o u,H b=some (.wB o u)->H' b=some (.wB o u)) (DK:∀b ps,H b=some (.Qk ps)->∃y,H' b=some (.Qk (ps++y)))
  (ns:∀m,s.heap.Ns X.env.locals m->h'.Ns X.env.locals m) (hok:zx X.prog X.w H' h') (F:AllBare g'):
  Inv X pins σ H' { s with heap:=h',gens:=g',drawn:=d',toks:=t' }:=by
 have B:∀b o,X.s₀.heap.get? b=some o->b≠X.env.locals:=λb o e=>Nat.ne_of_lt ba;have j:∀b o,X.s₀.heap.get? b=some o->b∉X.ex->b∉ch:=λb o e hx hb=>by
  rcases(f b hb).1 with z | z
  ·exact hx z
  ·exact absurd (Nat.lt_of_lt_of_le (Heap.lt_size e) z) (Nat.lt_irrefl _)
 have g:∀x c,X.env.cells.lookup x=some c->∀v,s.heap.IsCell c v->h'.IsCell c v:=λx c e v ⟨o,t,hd⟩=>by
  have a:c∉ch:=λz=>(f c z).2.2.1 x c e rfl
  by_cases hc:c∈X.fs
  ·obtain⟨sl,q⟩:=slot c o (I.cne x c e) hc a t (I.m6 x c e);exact⟨_,q,hd⟩
  ·exact⟨o,keep c o (I.cne x c e) hc a t (I.m6 x c e),hd⟩
 refine⟨I.ok,I.os,F,⟨λb o e n hb hx=>?_,λb o e n hb hx=>?_,λb o e n hx=>?_,λb o e hx=>?_,λb xs e=>tups b xs (I.base.tups b xs e),λb o xs e=>Dc b o xs (I.base.Dc b o xs e),λb ps e=>?_⟩,?_,λx c e=>?_,?_,λx c e=>?_,λp hp=>?_,hok,I.len⟩
 ·exact keep b o (B b o e) hb (j b o e hx) (I.base.keep b o e n hb hx) (I.base.free b o e n hx)
 ·obtain⟨sl,h⟩:=I.base.slot b o e n hb hx;obtain⟨D,A⟩:=slot b _ (B b o e) hb (j b o e hx) h (I.base.free b o e n hx);exact⟨D,A⟩
 ·obtain⟨C,h⟩:=I.base.there b o e hx;exact free b C (j b o e hx) h (I.base.free b o e n hx)
 ·obtain⟨C,h⟩:=I.base.there b o e hx;exact there b C (j b o e hx) h
 ·obtain⟨J,h⟩:=I.base.DK b ps e;obtain⟨K,A⟩:=DK b _ h;exact⟨J++K,by rw[A,Array.append_assoc]⟩
 ·obtain⟨m,hn,hl⟩:=I.loc;refine⟨m,ns m hn,λi x v h A e3=>?_⟩;obtain⟨u,r,l⟩:=hl i x v h A e3;refine⟨u,r,?_⟩;rcases l with l | ⟨k,c,e,z⟩
  ·exact .inl l
  ·exact .inr ⟨k,c,e,g x c e _ z⟩
 ·obtain⟨v,z⟩:=I.cell x c e;exact⟨v,g x c e v z⟩
 ·obtain⟨m,⟨o,_,_,t,_⟩,_⟩:=I.loc;exact free _ o (λz=>(f _ z).2.1 rfl) t I.free
 ·obtain⟨v,o,t,hd⟩:=I.cell x c e;exact free c o (λz=>(f c z).2.2.1 x c e rfl) t (I.m6 x c e)
 ·obtain⟨e,n,ne,E,d⟩:=I.pin p hp;have a:p.1∉ch:=λz=>(f p.1 z).2.2.2 p hp rfl;exact⟨keep p.1 p.2 ne E a e n,free p.1 p.2 a e n,ne,E,d⟩
theorem Inv.un{t':Nat}(I:Inv X pins σ H s)(u:Un X.fs [] H H' s.heap h')(hok:zx X.prog X.w H' h'):Inv X pins σ H' { s with heap:=h',toks:=t' }:=by
 obtain⟨m,⟨o,j,i,f,r⟩,_⟩:=id I.loc;obtain⟨sl,h⟩:=u.any f I.free ζ;exact I.step (g':=s.gens) (d':=s.drawn) (ch:=[]) (λ_ z=>nomatch z) (λb o _ hb _ e n=>u.keep b o e n hb ζ) (λb o _ hb _ e n=>u.slot b o e n hb ζ) (λb o _ e n=>u.free b o e n ζ) (λb o _ e=>u.there b o e ζ) u.tups u.Dc u.DK (λl hm=>by
  obtain⟨k,c,d,a,g⟩:=hm;rw[f]at a;cases a;exact⟨_,c,d,h,g⟩) hok I.bare
theorem Inv.call{g':Array GenState}{t':Nat}{d':Drawn}{ch:AF}(I:Inv X pins σ H s)(u:Un (frs X.stack) ch H H' s.heap h')(hok:zx X.prog X.w H' h')(k:AllBare g')
  (d:∀b∈ch,(b∈X.ex\/X.s₀.heap.objs.size<=b)/\b≠X.env.locals/\(∀x c,X.env.cells.lookup x=some c->c≠b)/\∀p∈X.pn++pins,p.1≠b):
  Inv X pins σ H' { s with heap:=h',gens:=g',drawn:=d',toks:=t' }:=by
 obtain⟨m,⟨o,q,l,i,r⟩,_⟩:=id I.loc;obtain⟨sl,g⟩:=u.any i I.free λz=>(d _ z).2.1 rfl;exact I.step (ch:=ch) d (λb o g hb hc e n=>u.keep b o e n (λz=>(List.mem_cons.mp (I.Jr b z)).elim g hb) hc) (λb o _ _ hc e n=>u.any e n hc) (λb o hc e n=>u.free b o e n hc) (λb o hc e=>u.there b o e hc) u.tups u.Dc u.DK (λv hm=>by
  obtain⟨t,f,h,a,j⟩:=hm;rw[i]at a;cases a;exact⟨_,f,h,g,j⟩) hok k
theorem Inv.turned{t':Nat}{a:AI}(I:Inv X pins σ H s)(k:∀b o,b≠a->s.heap.get? b=some o->h'.get? b=some o)(hn:H a=none)(f:a≠X.env.locals)
  (h1:a∈X.ex\/X.s₀.heap.objs.size<=a) (h2:∀x c,X.env.cells.lookup x=some c->c≠a) (j:∀p∈X.pn++pins,p.1≠a):Inv X pins σ H { s with heap:=h',toks:=t' }:=by
 have d:∀b u,H b=some u->b≠a:=λb u e z=>by rw[z,hn]at e;cases e
 refine I.step (g':=s.gens) (d':=s.drawn) (ch:=[a]) (λb hb=>?_) (λb o _ _ hc e _=>k b o (λz=>hc (by simp[z])) e) (λb o _ _ hc e _=>⟨o.slots,k b o (λz=>hc (by simp[z])) e⟩) (λ_ _ _ _ n=>n)
  (λb o hc e=>⟨o,k b o (λz=>hc (by simp[z])) e⟩) (λ_ _ e=>e) (λ_ _ _ e=>e) (λb l e=>⟨#[],by rw[e];simp⟩) (λm hm=>?_) (λb u e=>?_) I.bare
 ·have e:b=a:=by simpa using hb
  subst e;exact⟨h1,f,h2,j⟩
 ·obtain⟨o,h,g,i,r⟩:=hm;exact⟨o,h,g,k _ o (Ne.symm f) i,r⟩
 ·refine(I.hok b u e).stay (λc v hc q=>k c v ?_ q) (λ_ q=>q) λ_ _ q=>q;rcases hc with z | z
  ·rw[z];exact d b u e
  ·exact d c _ z
theorem Inv.tok(I:Inv X pins σ H s)(t:Nat):Inv X pins σ H { s with toks:=t }:=I.un (h':=s.heap) (t':=t) Un.refl I.hok
theorem Inv.kept{t':Nat}(I:Inv X pins σ H s)(k:∀b u,s.heap.get? b=some u->h'.get? b=some u):Inv X pins σ H { s with heap:=h',toks:=t' }:=I.un (Un.kept k) (I.hok.kept k)
theorem Inv.laid{a:AI}{o:HO}{t':Nat}(I:Inv X pins σ H s)(k:∀b u,s.heap.get? b=some u->h'.get? b=some u)(hp:s.heap.objs.size<=a)(new:fZ X.prog X.w dz h' a o):
  Inv X pins σ dz { s with heap:=h',toks:=t' }:=I.un (Un.laid k hp (I.hok.fresh hp)) (I.hok.laid k hp new)
theorem Inv.write{x e:AI}{o:HO}{t':Nat}(I:Inv X pins σ H s)(d:Mut (H x))(c:e=x\/H e=some (.own x))(k:∀b u,b≠e->s.heap.get? b=some u->h'.get? b=some u)(a:∃u,h'.get? e=some u)
  (new:fZ X.prog X.w (upd H x o) h' x o):Inv X pins σ (upd H x o) { s with heap:=h',toks:=t' }:=I.un (Un.write d c k a) (I.hok.write d c k a new)
theorem Inv.Gb{a:At}(I:Inv X pins σ H s)(h:∀p∈a,s.heap.get? p.1=some p.2/\H p.1=none/\p.1≠X.env.locals/\p.1∉X.fs/\∀v,p.2.data≠.cell v):Inv X a σ H s:=
 ⟨I.ok,I.os,I.bare,I.base,I.loc,I.cell,I.free,I.m6,λp hp=>(List.mem_append.mp hp).elim (λz=>I.pin p (List.mem_append_left _ z)) (h p),I.hok,I.len⟩
theorem R0{N:AH}(d:N.Nodup){i j:Nat}{x:Str}(a:N[i]? =some x)(b:N[j]? =some x):i=j:=by
 obtain⟨h1,c⟩:=cL a;obtain⟨h2,e⟩:=cL b;exact(List.getElem_inj d).mp (c.trans e.symm)
theorem Zlb{M:Model}{A:Around}{E:Ap}{i:Nat}{x:Str}{v:V}{u:AJ}{Q:Unit->AK->Prop}(I:Inv X pins σ H s)(hN:X.N.Nodup)(K:X.N[i]? =some x)(hx:Loc X.env.scope x)(r:RelV v u)
  (h:∀s',Inv X pins (σ.set i (some v)) H s'->(∃a,Heap.SameBut a s.heap s'.heap/\(a=X.env.locals\/X.env.cells.lookup x=some a))->Q () s') (hf:X.fn x=true\/X.env.scope.names.lookup x=some .local:=by first | exact .inl rfl | exact .inr rfl | assumption):wpAny M A (storeName X.env x u) Q E s:=by
 obtain⟨m,hn,hl⟩:=id I.loc;have L:(X.env.scope.kind == .class || (X.env.scope.kind == .module && X.env.locals != X.env.globals))=false:=by rw[I.ok.kind];rfl
 have B:i < σ.length:=by rw[I.len];exact(cL K).1
 have cne:=I.cne;have g:∀{a:AI}{h':Heap},(∃o,s.heap.get? a=some o/\H a=none)->Heap.SameBut a s.heap h'->zx X.prog X.w H h':=λ{a h'} ha hs b ob e=>by
  obtain⟨_,_,l⟩:=ha;refine(I.hok b ob e).stay (λc P hc q=>(hs.2 c ?_).trans q) (λ_ q=>q) λ_ _ q=>q;rintro rfl;rcases hc with rfl | hc
  ·rw[l]at e;cases e
  ·rw[l]at hc;cases hc
 rcases hx with hk | hk
 ·refine wpAny_storeName_local hk hn (λh' U hs=>?_) L;obtain⟨oL,_,_,hoL,_⟩:=id hn;refine h _ ⟨I.ok,I.os,I.bare,⟨λb o e n hb hx=>?_,λb o e n hb hx=>?_,I.base.free,λb o e hx=>?_,I.base.tups,I.base.Dc,I.base.DK⟩,⟨_,U,λj y Y f t e3=>?_⟩,λy c e=>?_,I.free,I.m6,λp hp=>?_,g ⟨oL,hoL,I.free⟩ hs,by simpa using I.len⟩ ⟨_,hs,.inl rfl⟩
  ·exact(hs.2 b (Nat.ne_of_lt ba)).trans (I.base.keep b o e n hb hx)
  ·obtain⟨sl,f⟩:=I.base.slot b o e n hb hx;exact⟨sl,(hs.2 b (Nat.ne_of_lt ba)).trans f⟩
  ·obtain⟨Z,f⟩:=I.base.there b o e hx;exact⟨Z,(hs.2 b (Nat.ne_of_lt ba)).trans f⟩
  ·by_cases C:j=i
   ·subst C;rw[K]at f;cases f;rw[List.getElem?_set_self B]at t;cases t;exact⟨u,r,.inl ⟨hk,ζ⟩⟩
   ·rw[List.getElem?_set_ne (Ne.symm C)]at t;obtain⟨u',T,q⟩:=hl j y Y f t e3;refine⟨u',T,?_⟩;rcases q with ⟨k,e⟩ | ⟨k,c,e,z⟩
    ·refine .inl ⟨k,?_⟩;have:y≠x:=λe=>C (R0 hN f (e ▸ K));simp[this,e]
    ·exact .inr ⟨k,c,e,z.sameBut hs (cne y c e)⟩
  ·obtain⟨P,z⟩:=I.cell y c e;exact⟨P,z.sameBut hs (cne y c e)⟩
  ·obtain⟨e,n,ne,W,d⟩:=I.pin p hp;exact⟨(hs.2 p.1 ne).trans e,n,ne,W,d⟩
 ·have D:X.fn x=true:=by
   rcases hf with z | z
   ·exact z
   ·rw[z]at hk;cases hk
  obtain⟨c,hc⟩:=I.ok.has x (.inl hk);obtain⟨P,z⟩:=I.cell x c hc;refine wpAny_storeName_cell I.ok.kind hk hc z (λh' F hs=>?_);obtain⟨oc,O,S⟩:=id z;refine h { s with heap:=h' } ⟨I.ok,I.os,I.bare,⟨λb o e n hb hx=>?_,λb o e n hb hx=>?_,I.base.free,λb o e hx=>?_,I.base.tups,I.base.Dc,I.base.DK⟩,⟨m,hn.sameBut hs (Ne.symm (cne x c hc)),λj y Y f t e3=>?_⟩,λy R e=>?_,I.free,I.m6,λp hp=>?_,g ⟨oc,O,I.m6 x c hc⟩ hs,by simpa using I.len⟩ ⟨c,hs,.inr hc⟩
  ·exact(hs.2 b en).trans (I.base.keep b o e n hb hx)
  ·obtain⟨sl,f⟩:=I.base.slot b o e n hb hx;exact⟨sl,(hs.2 b en).trans f⟩
  ·obtain⟨Z,f⟩:=I.base.there b o e hx;exact⟨Z,(hs.2 b en).trans f⟩
  ·by_cases C:j=i
   ·subst C;rw[K]at f;cases f;rw[List.getElem?_set_self B]at t;cases t;exact⟨u,r,.inr ⟨.inl hk,c,hc,F⟩⟩
   ·rw[List.getElem?_set_ne (Ne.symm C)]at t;obtain⟨u',T,q⟩:=hl j y Y f t e3;refine⟨u',T,?_⟩;rcases q with q | ⟨k,R,e,z'⟩
    ·exact .inl q
    ·refine .inr ⟨k,R,e,z'.sameBut hs ?_⟩;rintro rfl;exact C (R0 hN f (I.ok.inj _ _ _ e hc ▸ K))
  ·by_cases J:R=c
   ·subst J;exact⟨_,F⟩
   ·obtain⟨w2,z2⟩:=I.cell y R e;exact⟨w2,z2.sameBut hs J⟩
  ·obtain⟨e,n,ne,W,d⟩:=I.pin p hp;refine⟨(hs.2 p.1 ?_).trans e,n,ne,W,d⟩;intro q;rw[q,O]at e;have q':oc=p.2:=Option.some.inj e;exact d P (by rw[<- q'];exact S)
theorem Qn{M:Model}{A:Around}{E:Ap}{i:Nat}{x:Str}{v:V}{u:AJ}{Q:Unit->AK->Prop}(I:Inv X pins σ H s)(c:X.N.Nodup)(a:X.N[i]? =some x)(hx:Loc X.env.scope x)(r:RelV v u)
  (h:∀s',Inv X pins (σ.set i (some v)) H s'->Q () s') (d:X.fn x=true\/X.env.scope.names.lookup x=some .local:=by first | exact .inl rfl | exact .inr rfl | assumption):wpAny M A (storeName X.env x u) Q E s:=
 Zlb I c a hx r (λs' b _=>h s' b) d
theorem Inv.call'{s':AK}{ch:AF}(I:Inv X pins σ H s)(f:s'.os=s.os)(u:Un (frs X.stack) ch H H' s.heap s'.heap)(hok:zx X.prog X.w H' s'.heap)(d:AllBare s'.gens)
  (a:∀b∈ch,(b∈X.ex\/X.s₀.heap.objs.size<=b)/\b≠X.env.locals/\(∀x c,X.env.cells.lookup x=some c->c≠b)/\∀p∈X.pn++pins,p.1≠b):Inv X pins σ H' s':=by
 obtain⟨h',g',d',t',g⟩:=s';have e:g=s.os:=f;subst e;exact I.call (g':=g') (t':=t') (d':=d') u hok d a
end
abbrev XK:=AJ->Option AI->Hp->Prop
abbrev St:=List (Option V)
abbrev VK:=V->Hp->Prop
abbrev TE:=St->Hp->VK->Prop
abbrev TT:=St->Hp->(Bool->Hp->Prop)->Prop
abbrev TA:=St->Hp->(List V->Hp->Prop)->Prop
structure Ends where
 nx:ν
 rt:VK
 bk:ν:=λ_ _=>False
 ct:ν:=λ_ _=>False
abbrev TS:=Ends->ν
def EP(X:Cx)(pins:At)(σ:St)(Q:VK)(u:AJ)(s':AK):Prop:=∃v H',Inv X pins σ H' s'/\RelV v u/\Q v H'
def TP(X:Cx)(pins:At)(σ:St)(Q:Bool->Hp->Prop)(b:Bool)(s':AK):Prop:=∃H',Inv X pins σ H' s'/\Q b H'
def AP(X:Cx)(pins:At)(σ:St)(Q:List V->Hp->Prop)(us:AC)(s':AK):Prop:=∃vs H',Inv X pins σ H' s'/\Vals vs us/\Q vs H'
def SP(X:Cx)(pins:At)(D:Ends)(f:Flow)(s':AK):Prop:=
 match f with
 | .next=>∃ a H',Inv X pins a H' s'/\D.nx a H'
 | .brk=>∃ a H',Inv X pins a H' s'/\D.bk a H'
 | .cont=>∃ a H',Inv X pins a H' s'/\D.ct a H'
 | .ret u=>∃v a H',Inv X pins a H' s'/\RelV v u/\D.rt v H'
def PE(X:Cx)(e:AN)(t:TE):Prop:=
 ∀(pins:At) (s:AK) (σ:St) (H:Hp) (Q:VK),Inv X pins σ H s->t σ H Q->wpAny υ X.A (eval e X.env) dv X.xe s
def PT(X:Cx)(e:AN)(t:TT):Prop:=
 ∀(pins:At) (s:AK) (σ:St) (H:Hp) (Q:Bool->Hp->Prop),Inv X pins σ H s->t σ H Q->wpAny υ X.A (isTrue e X.env (eval e X.env)) (TP X pins σ Q) X.xe s
def PW(X:Cx)(e:AN)(t:TT):Prop:=
 ∀(a:Sem AJ) (pins:At) (s:AK) (σ:St) (H:Hp) (Q:Bool->Hp->Prop),Inv X pins σ H s->t σ H Q->wpAny υ X.A (isTrue e X.env a) (TP X pins σ Q) X.xe s
theorem PW.pt{X:Cx}{e:AN}{t:TT}(h:PW X e t):PT X e t:=h _
def PA(X:Cx)(b:AG)(t:TA):Prop:=
 ∀(a:Pos) (pins:At) (s:AK) (σ:St) (H:Hp) (Q:List V->Hp->Prop),Inv X pins σ H s->t σ H Q->wpAny υ X.A (spliced (backTo a (starEach b X.env))) (AP X pins σ Q) X.xe s
def PS(X:Cx)(st:Stmt)(t:TS):Prop:=
 ∀(pins:At) (s:AK) (σ:St) (H:Hp) (D:Ends),Inv X pins σ H s->t D σ H->wpAny υ X.A (exec st X.env) (SP X pins D) X.xe s
def Qf(X:Cx)(st:List Stmt)(t:TS):Prop:=
 ∀(pins:At) (s:AK) (σ:St) (H:Hp) (D:Ends),Inv X pins σ H s->t D σ H->wpAny υ X.A (execs st X.env) (SP X pins D) X.xe s
theorem gw{c:Type}{t:Sem c}{Q b:c->AK->Prop}{M:Model}{A:Around}{E:Ap}{s:AK}(h:wpAny M A t Q E s)(d:∀a s,Q a s->b a s):wpAny M A t b E s:=wpAny_mono h d λ_ _ x=>x
section
variable {X:Cx}
def ak(i:Nat):TE:=λσ H Q=>∃v,σ[i]? =some (some v)/\Q v H
def tC(v:V):TE:=λ_ H Q=>Q v H
theorem Zo8{i:Nat}{x:Str}{f:Pos}(g:X.N[i]? =some x)(hv:Vis X.env.scope x)(hd:(x == ("__debug__":Str))=false:=by decide)(d:(x == ("__classdict__":Str))=false:=by decide):PE X (.Name x f) (ak i):=by
 intro b s j H Q I h;obtain⟨v,e,h⟩:=h;obtain⟨m,hn,hl⟩:=I.loc;obtain⟨u,r,l⟩:=hl i x v g e hv;have fin:EP X b j Q u s:=⟨v,H,I,r,h⟩;rcases l with ⟨hk,hm⟩ | ⟨hk,c,hc,a⟩
 ·exact wpAny_Name (wpAny_loadName_local I.ok.kind hk hn hm fin) hd
 ·rcases hk with hk | hk
  ·exact wpAny_Name (wpAny_loadName_cell I.ok.kind hk hc a fin) hd
  ·exact wpAny_Name (wpAny_loadName_free I.ok.kind hk hc a fin d) hd
theorem az{i j pos}:PE X (.Constant (.int i) j pos) (tC (.int i)):=λ_ _ _ H _ I h=>wpAny_Constant_int ⟨.int i,H,I.tok _,⟨_,rfl⟩,h⟩
theorem nW{b j pos}:PE X (.Constant (.bool b) j pos) (tC (.bl b)):=λ_ _ _ H _ I h=>Constant_bool ⟨.bl b,H,I,rfl,h⟩
theorem eZ{j pos}:PE X (.Constant .none j pos) cq:=λ_ _ _ H _ I h=>Constant_none ⟨.non,H,I,rfl,h⟩
theorem aW{x j pos}:PE X (.Constant (.str x) j pos) (tC (.str x)):=λ_ _ _ H _ I h=>Calls.Constant_str ⟨.str x,H,I.tok _,⟨_,rfl⟩,h⟩
def Gl(X:Cx)(x:Str):Prop:=X.env.kindOf x=some .globalImplicit
theorem fU{E:Ap}{pins:At}{s:AK}{σ:St}{H:Hp}{x:Str}{u:AJ}{a:Pos}{Q:Ap}(I:Inv X pins σ H s)(b:Gl X x)(hm:X.mg x=some u)(h:Q u s)
  (hd:(x == ("__debug__":Str))=false:=by decide):wpAny υ X.A (eval (.Name x a) X.env) Q E s:=
 Calls.Name_function_global I.ok.kind b (Calls.loadGlobal_global (by rw[I.ok.glob];exact I.mod.glob.keeps I.bk) hm h) hd
theorem SN{E:Ap}{pins:At}{s:AK}{σ:St}{H:Hp}{x:Str}{u:AJ}{a:Pos}{Q:Ap}(I:Inv X pins σ H s)(b:Gl X x)(hm:X.mg x=none)(hv:bootBuiltins x=some u)(h:Q u s)
  (hn:x≠"__name__":=by decide) (hd:(x == ("__debug__":Str))=false:=by decide):wpAny υ X.A (eval (.Name x a) X.env) Q E s:=by
 obtain⟨c,h1,h2⟩:=I.mod.blt;exact Calls.Name_function_global I.ok.kind b (Calls.loadGlobal_builtin (by rw[I.ok.glob];exact I.mod.glob.keeps I.bk) hm (by rw[I.ok.blt];exact h1.keeps I.bk) ((h2 x hn).trans hv) h) hd
theorem uL{x:Str}{v:V}{u:AJ}{a:Pos}(b:Gl X x)(hm:X.mg x=some u)(r:RelV v u)(hd:(x == ("__debug__":Str))=false:=by decide):PE X (.Name x a) (tC v):=
 λ_ _ _ H _ I h=>fU I b hm ⟨v,H,I,r,h⟩ hd
theorem zF{x:Str}{v:V}{u:AJ}{a:Pos}(b:Gl X x)(hm:X.mg x=none)(hv:bootBuiltins x=some u)(r:RelV v u)(hn:x≠"__name__":=by decide)(hd:(x == ("__debug__":Str))=false:=by decide):PE X (.Name x a) (tC v):=
 λ_ _ _ H _ I h=>SN I b hm hv ⟨v,H,I,r,h⟩ hn hd
variable {a b:AN}{ta tb:TE}{pos:Pos}
def PC(X:Cx)(e:CmpOp)(a b:AN)(t:TE):Prop:=
 ∀(pins:At) (s:AK) (σ:St) (H:Hp) (Q:VK),Inv X pins σ H s->t σ H Q->
  wpAny υ X.A (eval a X.env) (λv c=>wpAny υ X.A (eval b X.env) (λu d=>wpAny υ X.A (compareOp e v u) dv X.xe d) X.xe c) X.xe s
theorem Zoz(b:AN){a:CmpOp}(h:a≠.In)(h2:a≠.NotIn):behindInMarks a b=false:=by
 have c:(a == CmpOp.In)=false:=by cases a<;>first | rfl | exact absurd rfl h
 have d:(a == CmpOp.NotIn)=false:=by cases a<;>first | rfl | exact absurd rfl h2
 cases b<;>simp[behindInMarks,c,d]
def tB(t:TE):TT:=λσ H Q=>t σ H λx a=>∃c,x=.bl c/\Q c a
theorem Zo4{f:CmpOp}{t:TE}(h:PC X f a b t)(h1:behindInMarks f b=false:=by first | exact Zoz _ ε ε | rfl):PT X (.Compare a [f] [b] pos) (tB t):=by
 intro e s i H Q I g;refine wpAny_isTrue_Compare1 (gw (h e s i H _ I g) λv l h1=>gw h1 λu j h2=>gw h2 λc k qc=>?_) h1;obtain⟨x,H1,I1,r1,q1⟩:=qc;obtain⟨d,rfl,q⟩:=q1;cases r1;exact wpAny_truthy_bool ⟨H1,I1,q⟩
theorem gJ{e:AN}{t:TE}(h:PE X e t)(f:∀a,isTrue e X.env a=(do let v <- a;standAt e.pos;holding [v] (truthy v)):=by intro _;rfl):PT X e (tB t):=by
 intro b s g H Q I c;refine isTrue_plain (gw (h b s g H _ I c) λv i qc=>?_) (f _);obtain⟨x,H1,I1,r1,q1⟩:=qc;obtain⟨d,rfl,q⟩:=q1;cases r1;exact wpAny_truthy_bool ⟨H1,I1,q⟩
variable {tA tB':TT}{rest:AG}
def Zl8(t u:TT):TT:=λσ H Q=>t σ H λc a=>if c=true then u σ a Q else Q false a
def U9(t u:TT):TT:=λσ H Q=>t σ H λc a=>if c=true then Q true a else u σ a Q
def zQ(t:TT):TT:=λσ H Q=>t σ H λc a=>Q (!c) a
theorem Px(ha:PT X a tA):PW X (.BoolOp .And [a] pos) tA:=by
 intro g b s d H Q I h;refine isTrue_and (gw (ha b s d H Q I h) λc f e=>?_);cases c with
 | true=>exact isTrue_and_nil e
 | false=>exact e
theorem lF(ha:PT X a tA):PW X (.BoolOp .Or [a] pos) tA:=by
 intro g b s d H Q I h;refine isTrue_or (gw (ha b s d H Q I h) λc f e=>?_);cases c with
 | false=>exact isTrue_or_nil e
 | true=>exact e
theorem Za6(ha:PT X a tA)(hb:PW X (.BoolOp .And (b::rest) pos) tB'):PW X (.BoolOp .And (a::b::rest) pos) (Zl8 tA tB'):=by
 intro i d s f H Q I h;refine isTrue_and (gw (ha d s f H _ I h) λc g qc=>?_);obtain⟨e,I1,q1⟩:=qc;cases c with
 | true=>exact hb i d g f e Q I1 q1
 | false=>exact⟨e,I1,q1⟩
theorem kZ(ha:PT X a tA)(hb:PW X (.BoolOp .Or (b::rest) pos) tB'):PW X (.BoolOp .Or (a::b::rest) pos) (U9 tA tB'):=by
 intro i d s f H Q I h;refine isTrue_or (gw (ha d s f H _ I h) λc g qc=>?_);obtain⟨e,I1,q1⟩:=qc;cases c with
 | true=>exact⟨e,I1,q1⟩
 | false=>exact hb i d g f e Q I1 q1
theorem lG(ha:PT X a tA):PT X (.UnaryOp .Not a pos) (zQ tA):=by
 intro b s e H Q I h;exact isTrue_not (ha b s e H (λc d=>Q (!c) d) I h)
def Xx(ta tb:TE):TE:=λσ H Q=>ta σ H λx a=>∃c,x=.bl c/\if c=true then tb σ a Q else Q (.bl false) a
def Zj8(ta:TE):TE:=λσ H Q=>ta σ H λx a=>∃c,x=.bl c/\Q (.bl (!c)) a
theorem Zaa{op}{t:TE}(h:PE X a t):PE X (.BoolOp op [a] pos) t:=λpins s σ H Q I b=>BoolOp_one (h pins s σ H Q I b)
theorem Zac(ha:PE X a ta)(hb:PE X (.BoolOp .And (b::rest) pos) tb):PE X (.BoolOp .And (a::b::rest) pos) (Xx ta tb):=by
 intro d s f H Q I h;refine BoolOp_and (gw (ha d s f H _ I h) λv g qc=>?_);obtain⟨x,H1,I1,r1,e⟩:=qc;obtain⟨c,rfl,e⟩:=e;cases r1;refine wpAny_truthy_bool ?_;cases c with
 | true=>exact hb d g f H1 Q I1 e
 | false=>exact⟨.bl false,H1,I1,rfl,e⟩
theorem Zoa(ha:PE X a ta):PE X (.UnaryOp .Not a pos) (Zj8 ta):=by
 intro b s e H Q I h;refine UnaryOp_ (gw (ha b s e H _ I h) λv f qc=>?_);obtain⟨x,H1,I1,r1,d⟩:=qc;obtain⟨c,rfl,d⟩:=d;cases r1;exact not_of (wpAny_truthy_bool ⟨.bl (!c),H1,I1,rfl,d⟩)
def tIf(t:TT)(ta tb:TE):TE:=λσ H Q=>t σ H λc a=>if c=true then ta σ a Q else tb σ a Q
theorem Gd{c:AN}(hc:PT X c tA)(ha:PE X a ta)(hb:PE X b tb):PE X (.IfExp c a b pos) (tIf tA ta tb):=by
 intro e s f H Q I h;refine wpAny_IfExp (gw (hc e s f H _ I h) λd i qc=>?_);obtain⟨g,I1,q1⟩:=qc;cases d with
 | true=>exact ha e i f g Q I1 q1
 | false=>exact hb e i f g Q I1 q1
end
def cA(K:aD)(H:Hp)(a:AI)(xs:List V):Prop:=
 Rd H a (.lst xs)\/
  ∃(o:Obj) (b:Array AJ) (n:Nat),K.lookup a=some o/\o.cls=.type "list"/\o.dict=none/\o.data=.seq b n/\b.size<=sizeLine/\Vals xs b.toList
def dU(K:aD)(H:Hp)(a:AI)(xs:List V):Prop:=
 Rd H a (.tup xs)\/
  ∃(o:Obj) (b:Array AJ) (n:Nat),K.lookup a=some o/\o.cls=.type "tuple"/\o.data=.seq b n/\b.size<=sizeLine/\Vals xs b.toList
def ZE8:AJ->Option V
 | .none=>some .non
 | .bool b=>some (.bl b)
 | .int i _=>some (.int i)
 | .str x _=>some (.str x)
 | .bytes b _=>some (.byt b)
 | .float b _=>some (.flt b)
 | .ref a=>↑a
 | .type n=>some (.ty n)
 | _=>none
theorem RelV.abs{x:V}{u:AJ}(r:RelV x u):ZE8 u=some x:=by
 cases x with
 | non=>cases r;rfl
 | bl _=>cases r;rfl
 | int _=>obtain⟨t,rfl⟩:=r;rfl
 | str _=>obtain⟨t,rfl⟩:=r;rfl
 | byt _=>obtain⟨t,rfl⟩:=r;rfl
 | flt _=>obtain⟨t,rfl⟩:=r;rfl
 | ref _=>cases r;rfl
 | ty _=>cases r;rfl
theorem RelV.inj{x y:V}{u:AJ}(r:RelV x u)(q:RelV y u):x=y:=Option.some.inj (r.abs.symm.trans q.abs)
theorem Vals.inj:∀{xs a:List V}{us:AC},Vals xs us->Vals a us->xs=a
 | _,_,_,.nil,.nil=>rfl
 | _,_,_,.cons r t,.cons b t'=>by rw[r.inj b,Vals.inj t t']
section
variable {X:Cx}{pins:At}{σ:St}{H:Hp}{s:AK}{a:AI}{xs ys:List V}
theorem cA.of{K:aD}(h:H a=some (.lst xs)):cA K H a xs:=.inl (.inl h)
theorem dU.of{K:aD}(h:H a=some (.tup xs)):dU K H a xs:=.inl (.inl h)
theorem Inv.list(I:Inv X pins σ H s)(h:cA X.K H a xs):∃b:AC,Vals xs b/\PlainL s.heap a b.toArray/\xs.length<=sizeLine:=by
 rcases h with h | ⟨o,b,n,hk,hc,hd,hs,hz,r⟩
 ·obtain⟨z,b,n,r,e⟩:=h.ok I.hok;exact⟨b,r,⟨_,n,e,rfl,rfl,rfl⟩,z⟩
 ·refine⟨b.toList,r,⟨o,n,I.oM a o hk,hc,hd,by simpa using hs⟩,?_⟩;have e:=r.length;simp only[Array.length_toList]at e;omega
theorem Inv.tuple(I:Inv X pins σ H s)(h:dU X.K H a xs):∃b:AC,Vals xs b/\IsTup s.heap a b.toArray/\xs.length<=sizeLine:=by
 rcases h with h | ⟨o,b,n,hk,hc,hs,hz,r⟩
 ·obtain⟨z,b,r,p⟩:=h.ok I.hok;exact⟨b,r,p,z⟩
 ·refine⟨b.toList,r,⟨o,I.oM a o hk,hc,n,by simpa using hs⟩,?_⟩;have e:=r.length;simp only[Array.length_toList]at e;omega
theorem Inv.Zem(I:Inv X pins σ H s)(h:cA X.K H a xs)(h':cA X.K H a ys):xs=ys:=by
 obtain⟨c,r,⟨o,n,e,_,_,d⟩,_⟩:=I.list h;obtain⟨b,i,⟨j,k,f,_,_,g⟩,_⟩:=I.list h';rw[e]at f;cases f;rw[d]at g
 injection g with d1 _
 have:c=b:=by simpa using congrArg Array.toList d1
 subst this;exact r.inj i
theorem Inv.Zl5(I:Inv X pins σ H s)(h:dU X.K H a xs)(h':dU X.K H a ys):xs=ys:=by
 obtain⟨c,r,⟨o,e,_,n,d⟩,_⟩:=I.tuple h;obtain⟨b,i,⟨j,f,_,k,g⟩,_⟩:=I.tuple h';rw[e]at f;cases f;rw[d]at g
 injection g with d1 _
 have:c=b:=by simpa using congrArg Array.toList d1
 subst this;exact r.inj i
end
abbrev Cx.wish(X:Cx)(E:Ap):Cx:={ X with xe:=E }
abbrev Cx.nox(X:Cx):Cx:=X.wish λ_ _=>False
theorem Cx.Ok.wish{X:Cx}(ok:X.Ok)(E:Ap):(X.wish E).Ok:=
 ⟨ok.mod,ok.kind,ok.glob,ok.blt,ok.above,ok.inj,ok.has,ok.cab,ok.hd,ok.frames,ok.stk,ok.exf,ok.bs,ok.bsz,ok.Zee,ok.Zi2,ok.ue,ok.frf⟩
theorem Cx.Ok.wY{X:Cx}{E:Ap}(ok:(X.wish E).Ok):X.Ok:=
 ⟨ok.mod,ok.kind,ok.glob,ok.blt,ok.above,ok.inj,ok.has,ok.cab,ok.hd,ok.frames,ok.stk,ok.exf,ok.bs,ok.bsz,ok.Zee,ok.Zi2,ok.ue,ok.frf⟩
section
variable {X:Cx}{pins:At}{σ:St}{H:Hp}{s:AK}{E:Ap}
theorem Inv.wish(I:Inv X pins σ H s)(E:Ap):Inv (X.wish E) pins σ H s:=⟨I.ok.wish E,I.os,I.bare,I.base,I.loc,I.cell,I.free,I.m6,I.pin,I.hok,I.len⟩
theorem Inv.wY(I:Inv (X.wish E) pins σ H s):Inv X pins σ H s:=⟨I.ok.wY,I.os,I.bare,I.base,I.loc,I.cell,I.free,I.m6,I.pin,I.hok,I.len⟩
theorem SP.wY{D:Ends}{f:Flow}{s':AK}(h:SP (X.wish E) pins D f s'):SP X pins D f s':=by
 cases f with
 | next=>obtain⟨a,b,I,q⟩:=h;exact⟨a,b,I.wY,q⟩
 | brk=>obtain⟨a,b,I,q⟩:=h;exact⟨a,b,I.wY,q⟩
 | cont=>obtain⟨a,b,I,q⟩:=h;exact⟨a,b,I.wY,q⟩
 | ret u=>obtain⟨v,a,b,I,r,q⟩:=h;exact⟨v,a,b,I.wY,r,q⟩
theorem Qf.nox{st:List Stmt}{t:TS}(h:Qf X.nox st t):Qf X st t:=λpins s σ H D I a=>
 wpAny_mono (h pins s σ H D (I.wish _) a) (λ_ _ q=>q.wY) λ_ _ z=>False.elim z
end
section
variable {X:Cx}{st:Stmt}{rest:List Stmt}{t u:TS}{e:AN}{te:TE}{pos:Pos}
def bR:TS:=λD σ H=>D.nx σ H
def aN(t u:TS):TS:=λD σ H=>t { D with nx:=u D } σ H
theorem bz:Qf X [] bR:=λ_ _ σ H _ I h=>wpAny_execs_nil ⟨σ,H,I,h⟩
theorem aq(h1:PS X st t)(h2:Qf X rest u):Qf X (st::rest) (aN t u):=by
 intro a s e H D I h;refine wpAny_execs_cons (gw (h1 a s e H { D with nx:=u D } I h) λf g q=>?_);cases f with
 | next=>
  obtain⟨b,c,d,q⟩:=q;exact h2 a g b c D d q
 | ret v=>exact q
 | brk=>exact q
 | cont=>exact q
theorem aA(h1:PS X st t):Qf X [st] t:=by
 intro a s b H D I h;refine wpAny_execs_cons (gw (h1 a s b H D I h) λf c q=>?_);cases f with
 | next=>exact wpAny_execs_nil q
 | ret v=>exact q
 | brk=>exact q
 | cont=>exact q
def Zgn:TS:=λD σ H=>D.bk σ H
theorem Zo6:PS X (.Break pos) Zgn:=λ_ _ σ H _ I h=>wpAny_Break ⟨σ,H,I,h⟩
theorem Inv.quiet{pins:At}{σ:St}{H:Hp}{s:AK}(I:Inv X pins σ H s):interactive X.env=false:=by simp[interactive,I.ok.kind]
def iW(te:TE):TS:=λD σ H=>te σ H λ_ a=>D.nx σ a
theorem fQ(c:PE X e te)(hs:swapsWith e none pos.line X.env=pure false:=by rfl):PS X (.Expr e pos) (iW te):=by
 intro a s b H D I h;exact wpAny_Expr_any (gw (c a s b H _ I h) (by rintro v d ⟨x,H1,I1,r1,q1⟩;exact⟨b,H1,I1,q1⟩)) I.quiet hs
def bw(te:TE):TS:=λD σ H=>te σ H D.rt
theorem aK(c:PE X e te):PS X (.Return (some e) pos) (bw te):=by
 intro a s b H D I h;exact wpAny_Return_some (gw (c a s b H _ I h) (by rintro v d ⟨x,H1,I1,r1,q1⟩;exact⟨x,b,H1,I1,r1,q1⟩))
def cZ(c:TT)(t u:TS):TS:=λD σ H=>c σ H λb a=>if b=true then t D σ a else u D σ a
theorem cz{c:AN}{a b:List Stmt}{tc:TT}(hc:PT X c tc)(ha:Qf X a t)(hb:Qf X b u):PS X (.If c a b pos) (cZ tc t u):=by
 intro e s f H D I h;refine wpAny_If (gw (hc e s f H _ I h) λd i qc=>?_);obtain⟨g,I1,q1⟩:=qc;cases d with
 | true=>exact ha e i f g D I1 q1
 | false=>exact hb e i f g D I1 q1
end
abbrev TG:=V->St->Hp->(ν)->Prop
abbrev TGs:=List V->St->Hp->(ν)->Prop
def PG(X:Cx)(a:AN)(t:TG):Prop:=
 ∀(pins:At) (s:AK) (σ:St) (H:Hp) (v:V) (u:AJ) (Q:ν),Inv X pins σ H s->RelV v u->t v σ H Q->
  wpAny υ X.A (assign a X.env u) (λ_ s'=>∃ b H',Inv X pins b H' s'/\Q b H') X.xe s
def PGs(X:Cx)(ts:AG)(t:TGs):Prop:=
 ∀(pins:At) (s:AK) (σ:St) (H:Hp) (vs:List V) (us:AC) (Q:ν),Inv X pins σ H s->Vals vs us->t vs σ H Q->
  wpAny υ X.A (assignInOrder ((assignEach ts X.env).map (·.2)) us) (λ_ s'=>∃ a H',Inv X pins a H' s'/\Q a H') X.xe s
abbrev Zty:=V->V->V->Hp->(Hp->Prop)->Prop
def Zzm(X:Cx)(t:Zty):Prop:=
 ∀(pins:At) (s:AK) (σ:St) (H:Hp) (o i v:V) (a iv u:AJ) (Q:Hp->Prop),Inv X pins σ H s->RelV o a->RelV i iv->RelV v u->t o i v H Q->
  wpAny υ X.A (setItem a iv u) (λ_ s'=>∃H',Inv X pins σ H' s'/\Q H') X.xe s
section
variable {X:Cx}{pos:Pos}
def aO(i:Nat):TG:=λv σ H Q=>Q (σ.set i (some v)) H
theorem dI{i:Nat}{x:Str}(d:X.N.Nodup)(b:X.N[i]? =some x)(hx:Loc X.env.scope x)(e:X.fn x=true\/X.env.scope.names.lookup x=some .local:=by first | exact .inl rfl | exact .inr rfl | assumption):PG X (.Name x pos) (aO i):=by
 intro a s f H v u Q I r h;exact wpAny_assign_Name (Qn I d b hx r (λg c=>⟨_,H,c,h⟩) e)
def Zc0:TGs:=λvs σ H Q=>vs=[]/\Q σ H
def m5(t:TG)(u:TGs):TGs:=λvs σ H Q=>∃v r,vs=v::r/\t v σ H λa H'=>u r a H' Q
theorem uJ:PGs X [] Zc0:=by
 intro a s b H c us Q I r h;obtain⟨e,h⟩:=h;subst e;cases r;exact assignInOrder_nil ⟨b,H,I,h⟩
theorem gO{e:AN}{b:AG}{t:TG}{u:TGs}(h1:PG X e t)(h2:PGs X b u)
  (hs:(assignEach (e::b) X.env).map (·.2)=assign e X.env::(assignEach b X.env).map (·.2):=by rfl):PGs X (e::b) (m5 t u):=by
 intro a s g H j us Q I r h;obtain⟨v,k,d,h⟩:=h;subst d;cases r with
 | cons r f=>
  rw[hs];refine assignInOrder_cons (gw (h1 a s g H _ _ _ I r h) λ_ i qc=>?_);obtain⟨c,H1,I1,q1⟩:=qc;exact h2 a i c H1 _ _ Q I1 f q1
def Zbz(K:aD)(n:Nat)(t:TGs):TG:=λv σ H Q=>∃a xs,v=.ref a/\dU K H a xs/\xs.length=n/\t xs σ H Q
theorem Cz{d:AG}{k:Nat}{t:TGs}{n:Nat}(hc:X.calm=true)(h:PGs X d t)
  (hn:(assignEach d X.env).length=n:=by rfl) (g:(assignEach d X.env).findIdx? (·.1)=none:=by rfl):PG X (.Tuple d k pos) (Zbz X.K n t):=by
 intro c s i H v u Q I r f;obtain⟨a,m,l,hq,hl,f⟩:=f;subst l;cases r;obtain⟨p,j,w,hz⟩:=I.tuple hq;refine assign_Tuple_tuple (I.ok.hd hc) w (by simp[hn,<- hl,j.length]) g λx hx=>?_;have q:Inv X c i H { s with heap:=x }:=I.kept (t':=s.toks) λb o e=>hx b o (Nat.ne_of_lt (Heap.lt_size e)) e;exact h c _ i H m _ Q q (by simpa using j) f
def TQ(to d:TE)(t:Zty):TG:=λv σ H Q=>to σ H λo a=>d σ a λi b=>t o i v b λc=>Q σ c
theorem uK{o i:AN}{to d:TE}{t:Zty}(g:PE X o to)(f:PE X i d)(hs:Zzm X t)
  (ha:∀v,assign (.Subscript o i pos) X.env v=(do
   let b <- holding [v] (eval o X.env)
   let iv <- holding [v,b] (eval i X.env)
   standAt pos
   holding [v,b,iv] (setItem b iv v)
   release [v,b,iv] []):=by intro _;rfl):PG X (.Subscript o i pos) (TQ to d t):=by
 intro a s c H v u Q I r h;rw[ha];refine wpAny_bind (wpAny_holding (gw (g a s c H _ I h) λb k qc=>?_));obtain⟨x,H1,I1,r1,q1⟩:=qc;refine wpAny_bind (wpAny_holding (gw (f a k c H1 _ I1 q1) λiv e qc=>?_));obtain⟨y,H2,I2,r2,q2⟩:=qc;refine wpAny_bind (wpAny_standAt (wpAny_bind (wpAny_holding (gw (hs a e c H2 x y v b iv u _ I2 r1 r2 r q2) λ_ l qc=>?_))));obtain⟨j,I3,q3⟩:=qc;exact wpAny_release ⟨c,j,I3,q3⟩
def bC(b:TE)(g:TG):TS:=λD σ H=>b σ H λx a=>g x σ a D.nx
theorem uH{tg e:AN}{b:TE}{g:TG}(i:PE X e b)(f:PG X tg g)(hs:swapsWithSole [tg] e pos.line X.env=pure false:=by rfl)(d:swappedStores [tg] e X.env=pure none:=by rfl)
  (h1:(assignEach [tg] X.env).map (·.2)=[assign tg X.env]:=by rfl):PS X (.Assign [tg] e pos) (bC b g):=by
 intro a s c H D I h;refine wpAny_Assign_stores (gw (i a s c H _ I h) λv j qc=>?_) hs d;obtain⟨x,H1,I1,r1,q1⟩:=qc;rw[h1];exact gw (f a j c H1 x v _ I1 r1 q1) λ_ k q=>q
theorem Za8{i:Nat}{x:Str}{e:AN}{c:TE}{a:Pos}(f:X.N.Nodup)(d:X.N[i]? =some x)(hx:Loc X.env.scope x)(g:PE X e c)(hs:swapsWith e (some (.Name x a)) pos.line X.env=pure false:=by rfl)(l:X.fn x=true\/X.env.scope.names.lookup x=some .local:=by first | exact .inl rfl | exact .inr rfl | assumption):
  PS X (.Assign [.Name x a] e pos) (bC c (aO i)):=by
 intro b s j H D I h;refine wpAny_Assign_Name (gw (g b s j H _ I h) λv n qc=>?_) hs;obtain⟨y,H1,I1,r1,q1⟩:=qc;exact Qn I1 f d hx r1 (λm k=>⟨_,H1,k,q1⟩) l
end
section
variable {X:Cx}{pos:Pos}
def ZL(c:TT)(tb:TS):TS:=λD σ H=>∃W:Nat->ν,(∃m,W m σ H)/\∀m σ H,W m σ H->
 c σ H λb d=>if b=true then ∃N:ν,(∀ a H',N a H'->∃e,e<m/\W e a H')/\tb { D with nx:=N,ct:=N,bk:=D.nx } σ d else D.nx σ d
theorem Rk{c:AN}{g:List Stmt}{tc:TT}{tb:TS}(hp:PassesOwn υ X.A X.env X.xe)(hc:PT X c tc)(hb:Qf X g tb):PS X (.While c g [] pos) (ZL tc tb):=by
 intro d s C H D I h;obtain⟨W,⟨y,w0⟩,turn⟩:=h;refine wpAny_While (codeAny_whileLoop (λn B=>∃ i p,Inv X d i p B/\W n i p) ?_ y ⟨C,H,I,w0⟩);rintro n E ⟨e,t,z,u⟩;refine wpAny_passesOwn hp (gw (hc d E e t _ z (turn n e t u)) λb x qc=>?_);obtain⟨q,I2,l⟩:=qc;cases b with
 | true=>
  obtain⟨N,r,l⟩:=l;rw[if_pos rfl];refine wpAny_passesOwn hp (gw (hb d x e q _ I2 l) λf F k=>?_);cases f with
  | next=>
   obtain⟨a,j,m,n3⟩:=k;obtain⟨o,hm,w3⟩:=r a j n3;exact⟨o,hm,a,j,m,w3⟩
  | cont=>
   obtain⟨a,j,m,n3⟩:=k;obtain⟨o,hm,w3⟩:=r a j n3;exact⟨o,hm,a,j,m,w3⟩
  | brk=>exact k
  | ret v=>exact k
 | false=>
  rw[if_neg Bool.false_ne_true];exact wpAny_execs_nil ⟨e,q,I2,l⟩
end
structure It where
 go:Nat->Hp->Prop
 yld:Nat->Hp->V->Hp->Prop
 stop:Nat->Hp->Prop
def pR(X:Cx)(pins:At)(H:Hp)(b:AI):Prop:=
 H b=none/\b≠X.env.locals/\b∉X.fs/\(b∈X.ex\/X.s₀.heap.objs.size<=b)/\(∀x c,X.env.cells.lookup x=some c->c≠b)/\∀p∈X.pn++pins,p.1≠b
theorem Inv.Zfb{X:Cx}{pins:At}{σ:St}{H H':Hp}{s:AK}{b:AI}(I:Inv X pins σ H s)(hb:s.heap.objs.size<=b)(hn:H' b=none):pR X pins H' b:=by
 refine⟨hn,Nat.ne_of_gt (Nat.lt_of_lt_of_le I.lt hb),I.ZA3 hb,.inr (Nat.le_trans I.sz hb),λx c e z=>?_,λp hp z=>?_⟩
 ·obtain⟨v,q⟩:=I.cell x c e;exact absurd (Nat.lt_of_lt_of_le q.lt (by rw[z];exact hb)) (Nat.lt_irrefl _)
 ·exact absurd (Nat.lt_of_lt_of_le (Heap.lt_size (I.pin p hp).1) (by rw[z];exact hb)) (Nat.lt_irrefl _)
structure Turn(P:AM)(w:AO)(K:aD)(tg:AN)(J:It)(fp:AF)(it:AI)(tn:Nat->Heap->Prop):Prop where
  mem:it∈fp
  obj:∀i h,tn i h->∀b∈fp,∃o,h.get? b=some o/\∀v,o.data≠.cell v
  keep:∀i h h',tn i h->(∀b∈fp,∀o,h.get? b=some o->h'.get? b=some o)->tn i h'
  item:∀(X:Cx),X.prog=P->X.w=w->X.K=K->X.calm=true->∀(i:Nat) (pins:At) (s:AK) (σ:St) (H:Hp) (E:Ap),Inv X pins σ H s->(∀b∈fp,pR X pins H b)->tn i s.heap->J.go i H->
    wpAny (model P w) X.A (pyNext (.ref it)) (λr s1=>∃u,r=some u/\
      wpAny (model P w) X.A (letOwnedTupleGo tg (.ref it) u) (λ_ s2=>∃x H',Inv X pins σ H' s2/\RelV x u/\J.yld i H x H'/\tn b9 s2.heap/\∀b∈fp,H' b=none) E s1) E s
  done:∀(X:Cx),X.prog=P->X.w=w->X.K=K->X.calm=true->∀(i:Nat) (pins:At) (s:AK) (σ:St) (H:Hp) (E:Ap),Inv X pins σ H s->(∀b∈fp,pR X pins H b)->tn i s.heap->J.stop i H->
    wpAny (model P w) X.A (pyNext (.ref it)) (λr s1=>r=none/\Inv X pins σ H s1) E s
  self:∀(A:Around) (i:Nat) (s:AK) (Q:Ap) (E:Ap),tn i s.heap->Q (.ref it) s->wpAny (model P w) A (pyIter (.ref it)) Q E s
abbrev TI:=St->Hp->(It->Hp->Prop)->Prop
def PIE(X:Cx)(pins:At)(σ:St)(tg:AN)(R:It->Hp->Prop)(a:AJ)(d:AK):Prop:=
 ∃(e:AI) (c:AF) (tn:Nat->Heap->Prop) (J:It) (H':Hp),a=.ref e/\Inv X pins σ H' d/\Turn X.prog X.w X.K tg J c e tn/\tn 0 d.heap/\(∀b∈c,pR X pins H' b)/\R J H'
def PI(X:Cx)(tg iter:AN)(b:TI):Prop:=
 ∀(pins:At) (s:AK) (σ:St) (H:Hp) (R:It->Hp->Prop),Inv X pins σ H s->b σ H R->
  wpAny υ X.A (eval iter X.env) (λv a=>wpAny υ X.A (pyIter v) (PIE X pins σ tg R) X.xe a) X.xe s
theorem Zk8{M:Model}{A:Around}{E:Ap}{s:AK}{tg:AN}{b:AI}{u:AJ}{o:Obj}{n:String}{vs:Array AJ}{Q:Unit->AK->Prop}(c:s.heap.get? b=some o)(hc:o.cls=.type n)(hd:o.data=.fields vs)
    (hn:["enumerate","zip","dict_itemiterator","dict_reverseitemiterator","odict_iterator","itertools.zip_longest","itertools.pairwise"].contains n=false) (a:Q () s):wpAny M A (letOwnedTupleGo tg (.ref b) u) Q E s:=by
  unfold letOwnedTupleGo;cases tg<;>first
    | exact wpAny_pure a
    | (cases u<;>first
        | exact wpAny_pure a
        | (refine wpAny_bind (wpAny_load c ?_)
           rw[hc,hd];show wpAny M A (if (["enumerate","zip","dict_itemiterator","dict_reverseitemiterator","odict_iterator","itertools.zip_longest","itertools.pairwise"].contains n && vs[0]? == some (rawInt _))=true then _ else _) Q E s;rw[if_neg (by intro h;rw[hn,Bool.false_and]at h;cases h)];exact wpAny_pure a))
def Itl(K:aD)(a:AI):It:=
 ⟨λi H=>∃xs x,cA K H a xs/\xs[i]? =some x,λi H x H'=>H'=H/\∀xs,cA K H a xs->xs[i]? =some x,λi H=>∃xs,cA K H a xs/\xs.length<=i⟩
def Itt(K:aD)(a:AI):It:=
 ⟨λi H=>∃xs x,dU K H a xs/\xs[i]? =some x,λi H x H'=>H'=H/\∀xs,dU K H a xs->xs[i]? =some x,λi H=>∃xs,dU K H a xs/\xs.length<=i⟩
def Itr(lo:Int)(n:Nat):It:=⟨λi _=>i<n,λi H x H'=>H'=H/\x=.int (lo+i),λi _=>n<=i⟩
theorem Zl3{P:AM}{w:AO}{K:aD}{tg:AN}(a g:AI):Turn P w K tg (Itl K a) [g] g (λi h=>h.IsListIter g a i) where
  mem:=ζ
  obj:=λi h st b hb=>by
    have e:b=g:=by simpa using hb
    subst e;obtain⟨o,e,c,d⟩:=st;exact⟨o,e,λv z=>by rw[d]at z;cases z⟩
  keep:=λi h m st k=>st.at λo e=>k g ζ o e
  item:=by
    intro X J n B hc i f s L H E I l st r;subst J n B;obtain⟨N,x,hq,hx⟩:=r;obtain⟨y,F,p,hz⟩:=I.list hq;obtain⟨u,hu,M⟩:=F.get hx;obtain⟨D,q,Q,C,t,A⟩:=l g ζ;refine wpAny_pyNext_list_item st p.isList (x:=u) (by simpa using hu) λm j sb=>?_;have O:Inv X f L H { s with heap:=m }:=I.turned (t':=s.toks) (λb o hb e=>(sb.2 b hb).trans e) D q C t A;obtain⟨o,e,c,d⟩:=id j;exact⟨u,rfl,Zk8 (s:={ s with heap:=m }) e c d ε ⟨x,H,O,M,⟨rfl,λS hy=>by rw[I.Zem hy hq];exact hx⟩,j,λb hb=>(l b hb).1⟩⟩
  done:=by
    intro X J n B hc i f s L H E I l st r;subst J n B;obtain⟨N,hq,hx⟩:=r;obtain⟨y,F,p,hz⟩:=I.list hq;obtain⟨D,q,Q,C,t,A⟩:=l g ζ;have hl:=F.length;exact wpAny_pyNext_list_end (I.ok.hd hc) st p.isList (by simp;omega) λm R=>⟨rfl,I.turned (t':=s.toks) (λb o hb e=>R b o hb e) D q C t A⟩
  self:=λ_ _ _ _ _ st h=>wpAny_pyIter_listiter st h
theorem Zgf{P:AM}{w:AO}{K:aD}{tg:AN}(a g:AI):Turn P w K tg (Itt K a) [g] g (λi h=>h.IsTupleIter g a i) where
  mem:=ζ
  obj:=λi h st b hb=>by
    have e:b=g:=by simpa using hb
    subst e;obtain⟨o,e,c,d⟩:=st;exact⟨o,e,λv z=>by rw[d]at z;cases z⟩
  keep:=λi h n st k=>st.at λo e=>k g ζ o e
  item:=by
    intro X J q B hc i f s L H E I m st t;subst J q B;obtain⟨N,x,hq,hx⟩:=t;obtain⟨j,F,p,hz⟩:=I.tuple hq;obtain⟨u,hu,M⟩:=F.get hx;obtain⟨D,r,Q,C,y,A⟩:=m g ζ;refine wpAny_pyNext_tuple_item st (show s.heap.IsTuple a j.toArray from p) (x:=u) (by simpa using hu) λn l sb=>?_;have O:Inv X f L H { s with heap:=n }:=I.turned (t':=s.toks) (λb o hb e=>(sb.2 b hb).trans e) D r C y A;obtain⟨o,e,c,d⟩:=id l;exact⟨u,rfl,Zk8 (s:={ s with heap:=n }) e c d ε ⟨x,H,O,M,⟨rfl,λS hy=>by rw[I.Zl5 hy hq];exact hx⟩,l,λb hb=>(m b hb).1⟩⟩
  done:=by
    intro X J q B hc i f s L H E I m st t;subst J q B;obtain⟨N,hq,hx⟩:=t;obtain⟨j,F,p,hz⟩:=I.tuple hq;obtain⟨D,r,Q,C,y,A⟩:=m g ζ;have hl:=F.length;exact wpAny_pyNext_tuple_end (I.ok.hd hc) st (show s.heap.IsTuple a j.toArray from p) (by simp;omega) λn R=>⟨rfl,I.turned (t':=s.toks) (λb o hb e=>R b o hb e) D r C y A⟩
  self:=λ_ _ _ _ _ st h=>wpAny_pyIter_tupleiter st h
theorem Zgg{P:AM}{w:AO}{K:aD}{tg:AN}(a:AI)(lo:Int)(n:Nat):Turn P w K tg (Itr lo n) [a] a (λi h=>IsRangeIter h a (lo+(i:Nat) * 1) ((n:Int) - (i:Nat)) 1) where
  mem:=ζ
  obj:=λi h st b hb=>by
    have e:b=a:=by simpa using hb
    subst e;exact⟨_,st,λv z=>by
      have D:Data.fields _=Data.cell v:=z;cases D⟩
  keep:=λi h g st k=>k a ζ _ st
  item:=by
    intro X y j r hc i c s A H E I f st m;subst y j r;obtain⟨x,l,C,u,p,q⟩:=f a ζ;have W:=Walks.range (prog:=X.prog) (w:=X.w) (I.ok.hd hc) a lo 1 n;refine W.item i s _ _ m st λv g tk hv d kk=>?_;obtain⟨t,rfl⟩:=hv;have B:Inv X c A H { s with heap:=g,toks:=tk }:=I.turned (λb o hb e=>kk b o (by simpa using hb) e) x l u p q;refine⟨_,rfl,Zk8 (s:={ s with heap:=g,toks:=tk }) (n:="range_iterator") d rfl rfl ε ⟨.int (lo+i),H,B,⟨t,?_⟩,⟨rfl,rfl⟩,d,λb hb=>(f b hb).1⟩⟩;rw[Int.mul_one]
  done:=by
    intro X y j r hc i c s A H E I f st m;subst y j r;obtain⟨x,l,C,u,p,q⟩:=f a ζ;exact wpAny_pyNext_range_end (I.ok.hd hc) st (by have:n<=i:=m;omega) λg F=>⟨rfl,I.turned (t':=s.toks) (λb o hb e=>F b o hb e) x l u p q⟩
  self:=λ_ _ _ _ _ st h=>wpAny_pyIter_rangeiter st h
section
variable {X:Cx}{tg:AN}
def pM(K:aD)(tl:TE):TI:=λσ H R=>tl σ H λx b=>∃a,x=.ref a/\(∃xs,cA K b a xs)/\R (Itl K a) b
def Zwv(K:aD)(tl:TE):TI:=λσ H R=>tl σ H λx b=>∃a,x=.ref a/\(∃xs,dU K b a xs)/\R (Itt K a) b
theorem jJ{l:AN}{tl:TE}(hl:PE X l tl):PI X tg l (pM X.K tl):=by
 intro c s g H R I h;refine gw (hl c s g H _ I h) λv d qc=>?_;obtain⟨x,H1,I1,r1,q1⟩:=qc;obtain⟨a,e,⟨i,hq⟩,q⟩:=q1;subst e;cases r1;obtain⟨f,j,p,hz⟩:=I1.list hq;refine wpAny_pyIter_list p.isList ?_;refine⟨d.heap.objs.size,[d.heap.objs.size],_,_,H1,rfl,I1.kept (t':=d.toks) λb o e=>Heap.get?_push_of_some _ e,Zl3 a _,⟨_,Heap.get?_push_size _ rfl,rfl,rfl⟩,λb hb=>?_,q⟩;have e:b=d.heap.objs.size:=by simpa using hb
 subst e;exact I1.Zfb Γ (I1.hok.fresh Γ)
theorem Zvg{l:AN}{tl:TE}(hl:PE X l tl):PI X tg l (Zwv X.K tl):=by
 intro c s g H R I h;refine gw (hl c s g H _ I h) λv d qc=>?_;obtain⟨x,H1,I1,r1,q1⟩:=qc;obtain⟨a,e,⟨i,hq⟩,q⟩:=q1;subst e;cases r1;obtain⟨f,j,p,hz⟩:=I1.tuple hq;refine wpAny_pyIter_tuple (show d.heap.IsTuple a f.toArray from p) ?_;refine⟨d.heap.objs.size,[d.heap.objs.size],_,_,H1,rfl,I1.kept (t':=d.toks) λb o e=>Heap.get?_push_of_some _ e,Zgf a _,⟨_,Heap.get?_push_size _ rfl,rfl,rfl⟩,λb hb=>?_,q⟩;have e:b=d.heap.objs.size:=by simpa using hb
 subst e;exact I1.Zfb Γ (I1.hok.fresh Γ)
theorem Zny{pins:At}{σ:St}{H:Hp}{s:AK}{R:It->Hp->Prop}{E:Ap}{lo a:Int}{t u v:Tok}{tk:Nat}(I:Inv X pins σ H s)(h1:-(2 ^ 62)<=lo)(h2:lo<2 ^ 62)(h:-(2 ^ 62)<=a)(g:a<2 ^ 62)
  (q:R (Itr lo (a - lo).toNat) H):wpAny υ X.A (pyIter (.ref s.heap.objs.size)) (PIE X pins σ tg R) E { s with heap:=s.heap.push { cls:=.type "range",data:=.fields #[.int lo t,.int a u,.int 1 v] },toks:=tk }:=by
 refine wpAny_pyIter_range (IsRange.new ..) (small_one h1 h2 h g) ?_;have c:Inv X pins σ H { s with heap:=s.heap.push { cls:=.type "range",data:=.fields #[.int lo t,.int a u,.int 1 v] },toks:=tk }:=I.kept λb o e=>Heap.get?_push_of_some _ e;refine⟨(s.heap.push { cls:=.type "range",data:=.fields #[.int lo t,.int a u,.int 1 v] }).objs.size,[(s.heap.push { cls:=.type "range",data:=.fields #[.int lo t,.int a u,.int 1 v] }).objs.size],_,_,H,rfl,
  c.kept (t':=tk) λb o e=>Heap.get?_push_of_some _ e,Zgg _ lo (a - lo).toNat,?_,λb hb=>?_,q⟩
 ·have d:lo+((0:Nat):Int) * 1=lo:=ζ
  have f:(((a - lo).toNat:Nat):Int) - ((0:Nat):Int)=Builtin.Range.rangeSize lo a 1:=by rw[rangeSize_one];split<;>omega
  show IsRangeIter _ _ (lo+((0:Nat):Int) * 1) ((((a - lo).toNat:Nat):Int) - ((0:Nat):Int)) 1;rw[d,f];exact Heap.get?_push_size _ rfl
 ·have e:b=(s.heap.push { cls:=.type "range",data:=.fields #[.int lo t,.int a u,.int 1 v] }).objs.size:=by simpa using hb
  subst e;exact c.Zfb Γ (c.hok.fresh Γ)
def M6(b:TA):TI:=λσ H R=>b σ H λvs a=>∃j:Int,vs=[.int j]/\-(2 ^ 62)<=j/\j<2 ^ 62/\R (Itr 0 j.toNat) a
theorem tD{a:AN}{f:TA}{p c:Pos}(g:Gl X "range")(hm:X.mg "range"=none)(ha:PA X [a] f)(hs:starEach [a] X.env=[(false,eval a X.env)]:=by rfl):PI X tg (.Call (.Name "range" p) [a] [] c) (M6 f):=by
 intro b s l H R I h;refine Call_ (SN I g hm boot_range (PyProof.Rows.callWith_type1 (gw (ha c b s l H _ I h) λus n qc=>?_) hs rfl));obtain⟨m,H1,I1,r1,d⟩:=qc;obtain⟨j,e,d,i,q⟩:=d;subst e;cases r1 with
 | cons r k=>
  cases k;obtain⟨t,rfl⟩:=r;exact call_range_1 (Zny I1 δ δ d i (by simpa using q))
def rT(d:TI)(g:TG)(tb:TS):TS:=λD σ H=>d σ H λJ f=>∃W:Nat->Nat->ν,(∃m,W 0 m σ f)/\∀i m σ H,W i m σ H->
 (J.stop i H/\D.nx σ H)\/(J.go i H/\∃N:ν,(∀ a H',N a H'->∃c,c<m/\W b9 c a H')/\∀x H',J.yld i H x H'->g x σ H' λb e=>tb { D with nx:=N,ct:=N,bk:=D.nx } b e)
def Cy(a:AF)(h:Heap):At:=a.filterMap λb=>(h.get? b).map λo=>(b,o)
theorem pG{a:AF}{h:Heap}{b:AI}{o:Obj}(hb:b∈a)(e:h.get? b=some o):(b,o)∈Cy a h:=List.mem_filterMap.mpr ⟨b,hb,by rw[e];rfl⟩
theorem Yy{a:AF}{h:Heap}{p:AI×Obj}(hp:p∈Cy a h):p.1∈a/\h.get? p.1=some p.2:=by
 obtain⟨b,hb,e⟩:=List.mem_filterMap.mp hp;cases q:h.get? b with
 | none=>rw[q]at e;cases e
 | some o=>
  rw[q]at e;have c:(b,o)=p:=Option.some.inj e;subst c;exact⟨hb,q⟩
theorem Inv.pinned{pins:At}{σ:St}{H:Hp}{s:AK}{a:AF}(I:Inv X pins σ H s)(j:∀b∈a,pR X pins H b)(g:∀b∈a,∃o,s.heap.get? b=some o/\∀v,o.data≠.cell v):Inv X (pins++Cy a s.heap) σ H s:=
 I.Gb λp hp=>(List.mem_append.mp hp).elim (λz=>I.pin p (List.mem_append_right _ z)) λz=>by
  obtain⟨hb,e⟩:=Yy z;obtain⟨h,f,i,_⟩:=j p.1 hb;obtain⟨o,c,d⟩:=g p.1 hb;rw[e]at c;cases c;exact⟨e,h,f,i,d⟩
theorem Inv.Qh{pins pl:At}{σ:St}{H:Hp}{s:AK}(I:Inv X (pins++pl) σ H s):Inv X pins σ H s:=I.Gb λp hp=>I.pin p (List.mem_append_right _ (List.mem_append_left _ hp))
theorem jE{iter:AN}{z:List Stmt}{R:TI}{g:TG}{tb:TS}{O:Pos}(hp:PassesOwn υ X.A X.env X.xe)(hc:X.calm=true)(hi:PI X tg iter R)(hg:PG X tg g)(hb:Qf X z tb)
  (hs:∀x,foldedSetIterable iter X.env x=pure x:=by intro _;rfl):PS X (.For tg iter z [] O) (rT R g tb):=by
 intro c s S H D I h;refine wpAny_For (gw (hi c s S H _ I h) λv s1 h1=>gw h1 λitv s2 h2=>?_) hs;obtain⟨it,B,tn,J,H2,e,I2,T,M,U,W,⟨m0,w0⟩,turn⟩:=h2;subst e;have k:∀{t:Hp},(∀b∈B,t b=none)->∀b∈B,pR X c t b:=λhn b hb=>⟨hn b hb,(U b hb).2⟩;refine codeAny_forLoop_any (λn Z=>∃i j t,Inv X c j t Z/\tn i Z.heap/\(∀b∈B,t b=none)/\W i n j t) ?_ m0 ⟨0,S,H2,I2,M,λb hb=>(U b hb).1,w0⟩;rintro n V ⟨i,p,F,Q,C,E,w3⟩;rcases turn i n p F w3 with ⟨stop,qn⟩ | ⟨go,N,hN,step⟩
 ·refine wpAny_passesOwn hp (gw (T.done X rfl rfl rfl hc i c V p F X.xe Q (k E) C stop) λr s4 qc=>?_);obtain⟨hr,I4⟩:=qc;subst hr;exact wpAny_execs_nil ⟨p,F,I4,qn⟩
 ·refine wpAny_passesOwn hp (gw (T.item X rfl rfl rfl hc i c V p F X.xe Q (k E) C go) λr s4 qc=>?_);obtain⟨u,hr,h4⟩:=qc;subst hr;refine wpAny_passesOwn hp (gw h4 λ_ Y qc=>?_);obtain⟨x,H5,I5,r5,y5,st5,fr5⟩:=qc;have P:=I5.pinned (k fr5) (T.obj _ _ st5);refine wpAny_passesOwn hp (gw (hg _ Y p H5 x u _ P r5 (step x H5 y5)) λ_ s6 qc=>?_);obtain⟨L,H6,I6,q6⟩:=qc;refine wpAny_passesOwn hp (gw (hb _ s6 L H6 _ I6 q6) λf K y=>?_);have again:∀{a:St}{q:Hp},Inv X (c++Cy B Y.heap) a q K->N a q->∃m,m<n/\∃i j t,Inv X c j t K/\tn i K.heap/\(∀b∈B,t b=none)/\W i m j t:=λ{a q} l n7=>by
   obtain⟨m',hm,w7⟩:=hN a q n7;refine⟨m',hm,i+1,a,q,l.Qh,T.keep _ _ _ st5 λb hb o e=>(l.pin (b,o) di).1,λb hb=>?_,w7⟩;obtain⟨o,e,d⟩:=T.obj _ _ st5 b hb;exact(l.pin (b,o) di).2.1
  cases f with
  | next=>obtain⟨a,q,l,n7⟩:=y;exact again l n7
  | cont=>obtain⟨a,q,l,n7⟩:=y;exact again l n7
  | brk=>obtain⟨a,q,l,y⟩:=y;exact⟨a,q,l.Qh,y⟩
  | ret v=>obtain⟨x7,a,q,l,r7,y⟩:=y;exact⟨x7,a,q,l.Qh,r7,y⟩
end
theorem Zq6{K:aD}{a:AI}{xs:List V}{g:TG}{tb:TS}{D:Ends}{σ:St}{H:Hp}(Pv:Nat->ν)(h0:Pv 0 σ H)(hl:∀i σ H,i<=xs.length->Pv i σ H->cA K H a xs)
  (hs:∀i x σ H,xs[i]? =some x->Pv i σ H->g x σ H λb f=>tb { D with nx:=Pv b9,ct:=Pv b9,bk:=D.nx } b f) (hd:∀ σ H,Pv xs.length σ H->D.nx σ H):
  ∃W:Nat->Nat->ν,(∃m,W 0 m σ H)/\∀i m σ H,W i m σ H->
   ((Itl K a).stop i H/\D.nx σ H)\/((Itl K a).go i H/\∃N:ν,(∀ c H',N c H'->∃h,h<m/\W b9 h c H')/\∀x H',(Itl K a).yld i H x H'->g x σ H' λb f=>tb { D with nx:=N,ct:=N,bk:=D.nx } b f):=by
 refine⟨λi m σ H=>m=xs.length - i/\i<=xs.length/\Pv i σ H,⟨xs.length,ζ,Nat.zero_le _,h0⟩,?_⟩;rintro i m σ H ⟨rfl,j,p⟩;have q:=hl i σ H j p
 by_cases d:i<xs.length
 ·refine .inr ⟨⟨xs,xs[i],q,by simp[d]⟩,Pv b9,λc H' k=>⟨xs.length - b9,δ,rfl,d,k⟩,λx H' y=>?_⟩;obtain⟨e,y⟩:=y;subst e;exact hs i x σ _ (y xs q) p
 ·have e:i=xs.length:=δ
  subst e;exact .inl ⟨⟨xs,q,Nat.le_refl _⟩,hd σ H p⟩
theorem Zmm{lo:Int}{n:Nat}{g:TG}{tb:TS}{D:Ends}{σ:St}{H:Hp}(Pv:Nat->ν)(h0:Pv 0 σ H)
  (hs:∀i σ H,i<n->Pv i σ H->g (.int (lo+i)) σ H λa d=>tb { D with nx:=Pv b9,ct:=Pv b9,bk:=D.nx } a d) (hd:∀ σ H,Pv n σ H->D.nx σ H):
  ∃W:Nat->Nat->ν,(∃m,W 0 m σ H)/\∀i m σ H,W i m σ H->
   ((Itr lo n).stop i H/\D.nx σ H)\/((Itr lo n).go i H/\∃N:ν,(∀ b H',N b H'->∃f,f<m/\W b9 f b H')/\∀x H',(Itr lo n).yld i H x H'->g x σ H' λa d=>tb { D with nx:=N,ct:=N,bk:=D.nx } a d):=by
 refine⟨λi m σ H=>m=n - i/\i<=n/\Pv i σ H,⟨n,ζ,Nat.zero_le _,h0⟩,?_⟩;rintro i m σ H ⟨rfl,j,p⟩
 by_cases c:i<n
 ·refine .inr ⟨c,Pv b9,λb H' h=>⟨n - b9,δ,rfl,c,h⟩,λx H' y=>?_⟩;obtain⟨e,y⟩:=y;subst e y;exact hs i σ _ c p
 ·have e:i=n:=δ
  subst e;exact .inl ⟨Nat.le_refl _,hd σ H p⟩
abbrev R2:=V->V->Hp->VK->Prop
def uz(X:Cx)(f:AJ->AJ->Sem AJ)(r:R2):Prop:=
 ∀(pins:At) (s:AK) (σ:St) (H:Hp) (x y:V) (v u:AJ) (Q:VK),Inv X pins σ H s->RelV x v->RelV y u->r x y H Q->
  wpAny υ X.A (f v u) dv X.xe s
def UnR(X:Cx)(f:AJ->Sem AJ)(r:V->Hp->VK->Prop):Prop:=
 ∀(pins:At) (s:AK) (σ:St) (H:Hp) (x:V) (v:AJ) (Q:VK),Inv X pins σ H s->RelV x v->r x H Q->
  wpAny υ X.A (f v) dv X.xe s
def Cp(X:Cx)(f:AJ)(r:List V->Hp->VK->Prop):Prop:=
 ∀(pins:At) (s:AK) (σ:St) (H:Hp) (xs:List V) (us:AC) (Q:VK),Inv X pins σ H s->Vals xs us->r xs H Q->
  wpAny υ X.A (call f us) dv X.xe s
def ZEa(X:Cx)(r:V->Hp->(Bool->Hp->Prop)->Prop):Prop:=
 ∀(pins:At) (s:AK) (σ:St) (H:Hp) (x:V) (v:AJ) (Q:Bool->Hp->Prop),Inv X pins σ H s->RelV x v->r x H Q->
  wpAny υ X.A (truthy v) (TP X pins σ Q) X.xe s
def bu(r:R2)(c tb:TE):TE:=λσ H Q=>c σ H λx a=>tb σ a λy b=>r x y b Q
def tUn(r:V->Hp->VK->Prop)(b:TE):TE:=λσ H Q=>b σ H λx a=>r x a Q
def rI(C:Int->Int->Prop)(g:Int->Int->V):R2:=λx y H Q=>∃i j,x=.int i/\y=.int j/\C i j/\Q (g i j) H
def iB(g:Int->Int->V):R2:=λx y H Q=>∃i j,x=.int i/\y=.int j/\Q (g i j) H
def rU(g:Int->V):V->Hp->VK->Prop:=λx H Q=>∃i,x=.int i/\Q (g i) H
section
variable {X:Cx}{a b c:AN}{ta tb tc:TE}{pos:Pos}
theorem Zxd(ha:PE X a ta)(hb:PE X b tb){pins:At}{s:AK}{σ:St}{H:Hp}{R:V->V->Hp->Prop}(I:Inv X pins σ H s)
  (h:ta σ H λx i=>tb σ i λy c=>R x y c) {Q:Ap}{f:AJ->AJ->Sem AJ}
  (k:∀v u g x y c,Inv X pins σ c g->RelV x v->RelV y u->R x y c->wpAny υ X.A (f v u) Q X.xe g):
  wpAny υ X.A (eval a X.env) (λv d=>wpAny υ X.A (eval b X.env) (λu e=>wpAny υ X.A (f v u) Q X.xe e) X.xe d) X.xe s:=by
 refine gw (ha pins s σ H _ I h) λv j qc=>?_;obtain⟨x,i,I1,r1,q1⟩:=qc;refine gw (hb pins j σ i _ I1 q1) λu g qc=>?_;obtain⟨y,c,I2,r2,q2⟩:=qc;exact k v u g x y c I2 r1 r2 q2
theorem aU{d:Operator}{r:R2}(i:uz X (binaryOp d) r)(ha:PE X a ta)(hb:PE X b tb):PE X (.BinOp a d b pos) (bu r ta tb):=by
 intro c s k H Q I h;exact wpAny_BinOp (Zxd ha hb I h λv u e x y g l f j q=>i c e k g x y v u Q l f j q)
theorem Zue{c:UnaryOp}{r:V->Hp->VK->Prop}(e:UnR X (unaryOp c) r)(ha:PE X a ta):PE X (.UnaryOp c a pos) (tUn r ta):=by
 intro b s d H Q I h;exact UnaryOp_ (gw (ha b s d H _ I h) (by rintro v f ⟨x,H1,I1,r1,q1⟩;exact e b f d H1 x v Q I1 r1 q1))
theorem opI{f:AJ->AJ->Sem AJ}{C:Int->Int->Prop}{g:Int->Int->Int}
  (rule:∀(i j:Int) (t u:Tok) (s:AK) (Q:Ap) (E:Ap),C i j->Q (.int (g i j) s.toks) { s with toks:=s.toks+1 }->wpAny υ X.A (f (.int i t) (.int j u)) Q E s):
  uz X f (rI C λi j=>.int (g i j)):=by
 intro a s e H x y v u Q I b d h;obtain⟨i,j,rfl,rfl,hc,q⟩:=h;obtain⟨t,rfl⟩:=b;obtain⟨c,rfl⟩:=d;exact rule i j t c s _ _ hc ⟨.int (g i j),H,I.tok _,⟨_,rfl⟩,q⟩
theorem Zsb{f:AJ->AJ->Sem AJ}{g:Int->Int->Int}
  (rule:∀(i j:Int) (t u:Tok) (s:AK) (Q:Ap) (E:Ap),Q (.int (g i j) s.toks) { s with toks:=s.toks+1 }->wpAny υ X.A (f (.int i t) (.int j u)) Q E s):
  uz X f (iB λi j=>.int (g i j)):=by
 intro a s e H x y v u Q I b d h;obtain⟨i,j,rfl,rfl,q⟩:=h;obtain⟨t,rfl⟩:=b;obtain⟨c,rfl⟩:=d;exact rule i j t c s _ _ ⟨.int (g i j),H,I.tok _,⟨_,rfl⟩,q⟩
theorem Zsc{f:AJ->AJ->Sem AJ}{g:Int->Int->Bool}
  (rule:∀(i j:Int) (t u:Tok) (s:AK) (Q:Ap) (E:Ap),Q (.bool (g i j)) s->wpAny υ X.A (f (.int i t) (.int j u)) Q E s):
  uz X f (iB λi j=>.bl (g i j)):=by
 intro a s e H x y v u Q I b d h;obtain⟨i,j,rfl,rfl,q⟩:=h;obtain⟨t,rfl⟩:=b;obtain⟨c,rfl⟩:=d;exact rule i j t c s _ _ ⟨.bl (g i j),H,I,rfl,q⟩
def vA(i j:Int):Prop:=0<j/\j<1073741824
def U8(i j:Int):Prop:=0<=j/\j<=1000000/\i.natAbs<2 ^ 64
def zZ(i j:Int):Prop:=(-(2 ^ 64)<i/\i<2 ^ 64)\/(-(2 ^ 64)<j/\j<2 ^ 64)
theorem zZ.ok{i j:Int}(h:zZ i j):IntMulOk i j:=by
 rcases h with ⟨h1,h2⟩ | ⟨h1,h2⟩
 ·exact .of_left (intBits_le_64 h1 h2)
 ·exact .of_right (intBits_le_64 h1 h2)
theorem Zge(k:Nat):(0:Int)<=2 ^ k:=by
 rw[two_pow_cast];exact Int.natCast_nonneg _
theorem dG:uz X (binaryOp .Add) Δ:=Zsb λ_ _ _ _ _ _ _ q=>add_int q
theorem CG:uz X (binaryOp .Sub) dS:=Zsb λ_ _ _ _ _ _ _ q=>sub_int q
theorem pD:uz X (binaryOp .Mult) bb:=opI λ_ _ _ _ _ _ _ hc q=>mul_int q hc.ok
theorem gG:uz X (binaryOp .FloorDiv) af:=opI λi j _ _ _ _ _ hc q=>by
 have h1:(0:Int)<j:=hc.1;have h2:j<1073741824:=hc.2;exact floordiv_int δ (by rw[Int.fdiv_eq_ediv_of_nonneg i δ];exact q) (.inl (PyProof.noPylong_small δ))
theorem cG:uz X (binaryOp .Mod) ο:=opI λi j _ _ _ _ _ hc q=>by
 have h1:(0:Int)<j:=hc;exact mod_int' δ (by rw[Int.fmod_eq_emod_of_nonneg i δ];exact q)
theorem JC:uz X (binaryOp .Pow) c8:=opI λ_ _ _ _ _ _ _ hc q=>pow_int_small hc.1 hc.2.1 hc.2.2 q
theorem Zom:uz X (binaryOp .LShift) (rI U8 λi j=>.int (i * 2 ^ j.toNat)):=opI λ_ _ _ _ _ _ _ hc q=>lshift_int_small hc.1 hc.2.1 hc.2.2 q
theorem Zh9:uz X (binaryOp .RShift) eC:=opI λi j _ _ _ _ _ hc q=>
 rshift_int hc (by rw[Int.fdiv_eq_ediv_of_nonneg i (Zge _)];exact q)
theorem yd:uz X (binaryOp .BitAnd) a9:=Zsb λ_ _ _ _ _ _ _ q=>and_int q
theorem Zug:uz X (binaryOp .BitOr) (iB λi j=>.int (Builtin.bitOr i j)):=Zsb λ_ _ _ _ _ _ _ q=>or_int q
theorem unI{f:AJ->Sem AJ}{g:Int->Int}
  (rule:∀(i:Int) (t:Tok) (s:AK) (Q:Ap) (E:Ap),Q (.int (g i) s.toks) { s with toks:=s.toks+1 }->wpAny υ X.A (f (.int i t)) Q E s):
  UnR X f (rU λi=>.int (g i)):=by
 intro a s c H x v Q I b h;obtain⟨i,rfl,q⟩:=h;obtain⟨t,rfl⟩:=b;exact rule i t s _ _ ⟨.int (g i),H,I.tok _,⟨_,rfl⟩,q⟩
theorem Zn8:UnR X (unaryOp .USub) (rU λi=>.int (-i)):=unI λ_ _ _ _ _ q=>neg_int q
end
def Zxu:V->V->Bool
 | .non,.non=>true | .non,.int _=>true | .int _,.non=>true | .non,.bl _=>true | .bl _,.non=>true | .non,.str _=>true | .str _,.non=>true
 | .int _,.int _=>true | .bl _,.bl _=>true | .str _,.str _=>true | .byt _,.byt _=>true
 | .int _,.str _=>true | .str _,.int _=>true | .bl _,.str _=>true | .str _,.bl _=>true
 | _,_=>false
def qw:R2:=λx y H Q=>Zxu x y=true/\Q (.bl (decide (x=y))) H
def rNe:R2:=λx y H Q=>Zxu x y=true/\Q (.bl (!decide (x=y))) H
theorem Zkj{i j:Int}:decide (V.int i=V.int j)=(i == j):=by
 rw[Bool.eq_iff_iff];simp
theorem Zqt{i j:Bool}:decide (V.bl i=V.bl j)=(i == j):=by
 rw[Bool.eq_iff_iff];simp
theorem Zki{i j:Str}:decide (V.str i=V.str j)=(i == j):=by
 rw[Bool.eq_iff_iff];simp
theorem Zkk{i j:Array UInt8}:decide (V.byt i=V.byt j)=(i.toList == j.toList):=by
 rw[Bool.eq_iff_iff];cases i;cases j;simp
section
variable {X:Cx}{a b c:AN}{ta tb tc:TE}{pos:Pos}
theorem dH{pins:At}{σ:St}{H:Hp}{s:AK}{Q:VK}{k a:Bool}(I:Inv X pins σ H s)(q:Q (.bl k) H)(e:k=a):EP X pins σ Q (.bool a) s:=by
 subst e;exact⟨.bl k,H,I,rfl,q⟩
theorem dZ:uz X (compareOp .Eq) qw:=by
 intro d s e H x y v u Q I c a h;obtain⟨hs,q⟩:=h;cases x with
 | non=>
  cases c;cases y with
  | non=>cases a;exact PySem.EqNone.eq_none_none cM
  | bl j=>cases a;exact PySem.EqNone.eq_none_bool cM
  | int j=>obtain⟨b,rfl⟩:=a;exact PySem.EqNone.eq_none_int cM
  | str j=>obtain⟨b,rfl⟩:=a;exact PySem.EqNone.eq_none_str cM
  | _=>exact absurd br Bool.false_ne_true
 | bl i=>
  cases c;cases y with
  | non=>cases a;exact PySem.EqNone.eq_bool_none cM
  | bl j=>cases a;exact eq_bool (dH I q Zqt)
  | str j=>obtain⟨b,rfl⟩:=a;exact PySem.EqMixed.eq_bool_str cM
  | _=>exact absurd br Bool.false_ne_true
 | int i=>
  obtain⟨t,rfl⟩:=c;cases y with
  | non=>cases a;exact PySem.EqNone.eq_int_none cM
  | int j=>obtain⟨b,rfl⟩:=a;exact eq_int (dH I q Zkj)
  | str j=>obtain⟨b,rfl⟩:=a;exact PySem.EqMixed.eq_int_str cM
  | _=>exact absurd br Bool.false_ne_true
 | str i=>
  obtain⟨t,rfl⟩:=c;cases y with
  | non=>cases a;exact PySem.EqNone.eq_str_none cM
  | bl j=>cases a;exact PySem.EqMixed.eq_str_bool cM
  | int j=>obtain⟨b,rfl⟩:=a;exact PySem.EqMixed.eq_str_int cM
  | str j=>obtain⟨b,rfl⟩:=a;exact eq_str (dH I q Zki)
  | _=>exact absurd br Bool.false_ne_true
 | byt i=>
  obtain⟨t,rfl⟩:=c;cases y with
  | byt j=>obtain⟨b,rfl⟩:=a;exact W.eq_bytes (dH I q Zkk)
  | _=>exact absurd br Bool.false_ne_true
 | _=>cases y<;>exact absurd br Bool.false_ne_true
theorem Yt:uz X (compareOp .NotEq) rNe:=by
 intro d s e H x y v u Q I c a h;obtain⟨hs,q⟩:=h;cases x with
 | non=>
  cases c;cases y with
  | non=>cases a;exact PySem.EqNone.ne_none_none cM
  | bl j=>cases a;exact PySem.EqNone.ne_none_bool cM
  | int j=>obtain⟨b,rfl⟩:=a;exact PySem.EqNone.ne_none_int cM
  | str j=>obtain⟨b,rfl⟩:=a;exact PySem.EqNone.ne_none_str cM
  | _=>exact absurd br Bool.false_ne_true
 | bl i=>
  cases c;cases y with
  | non=>cases a;exact PySem.EqNone.ne_bool_none cM
  | bl j=>cases a;exact ne_bool (dH I q (congrArg not Zqt))
  | str j=>obtain⟨b,rfl⟩:=a;exact PySem.EqMixed.ne_bool_str cM
  | _=>exact absurd br Bool.false_ne_true
 | int i=>
  obtain⟨t,rfl⟩:=c;cases y with
  | non=>cases a;exact PySem.EqNone.ne_int_none cM
  | int j=>obtain⟨b,rfl⟩:=a;exact ne_int (dH I q (congrArg not Zkj))
  | str j=>obtain⟨b,rfl⟩:=a;exact PySem.EqMixed.ne_int_str cM
  | _=>exact absurd br Bool.false_ne_true
 | str i=>
  obtain⟨t,rfl⟩:=c;cases y with
  | non=>cases a;exact PySem.EqNone.ne_str_none cM
  | bl j=>cases a;exact PySem.EqMixed.ne_str_bool cM
  | int j=>obtain⟨b,rfl⟩:=a;exact PySem.EqMixed.ne_str_int cM
  | str j=>obtain⟨b,rfl⟩:=a;exact ne_str (dH I q (congrArg not Zki))
  | _=>exact absurd br Bool.false_ne_true
 | byt i=>
  obtain⟨t,rfl⟩:=c;cases y with
  | byt j=>obtain⟨b,rfl⟩:=a;exact W.ne_bytes (dH I q (congrArg not Zkk))
  | _=>exact absurd br Bool.false_ne_true
 | _=>cases y<;>exact absurd br Bool.false_ne_true
theorem yc:uz X (compareOp .Lt) a5:=Zsc λ_ _ _ _ _ _ _ q=>lt_int q
theorem Zy1:uz X (compareOp .LtE) (iB λi j=>.bl (decide (i<=j))):=Zsc λ_ _ _ _ _ _ _ q=>le_int q
theorem Ze0:uz X (compareOp .Gt) eu:=Zsc λ_ _ _ _ _ _ _ q=>gt_int q
theorem Zuh:uz X (compareOp .GtE) (iB λi j=>.bl (decide (j<=i))):=Zsc λ_ _ _ _ _ _ _ q=>ge_int q
theorem Zvh:uz X (compareOp .Is) (λx y H Q=>y=.non/\Q (.bl (decide (x=.non))) H):=by
 intro b s d H x y v u Q I a c h;obtain⟨rfl,q⟩:=h;cases c;refine is_none_gen (dH I q ?_);cases x<;>first
  | (cases a;rfl)
  | (obtain⟨t,rfl⟩:=a;rfl)
theorem Zs9:uz X (compareOp .IsNot) (λx y H Q=>y=.non/\Q (.bl (!decide (x=.non))) H):=by
 intro b s d H x y v u Q I a c h;obtain⟨rfl,q⟩:=h;cases c;refine isnot_none_gen (dH I q ?_);cases x<;>first
  | (cases a;rfl)
  | (obtain⟨t,rfl⟩:=a;rfl)
def isObj:HO->Bool
 | .lst _=>true
 | .ins _ _ _=>true
 | _=>false
theorem JH{pins:At}{s:AK}{σ:St}{H:Hp}{a:AI}{o:HO}(I:Inv X pins σ H s)(h:H a=some o)(p:isObj o=true):∃ob,s.heap.get? a=some ob/\ob.cls≠.type "tuple":=by
 cases o with
 | lst c=>
  obtain⟨_,b,n,_,e⟩:c.length<=sizeLine/\∃(b:AC) (n:Nat),Vals c b/\s.heap.get? a=some { cls:=.type "list",data:=.seq b.toArray n }:=I.hok a _ h;exact⟨_,e,(by show Value.type "list"≠.type "tuple";decide +kernel)⟩
 | ins C d fs=>
  have x:=I.hok a _ h;obtain⟨_,_,_,e,_⟩:=x;exact⟨_,e,(by show Value.ref C≠.type "tuple";exact λz=>by cases z)⟩
 | _=>exact absurd (show false=true from p) Bool.false_ne_true
theorem lM(b:AN){a:CmpOp}(h:a≠.In:=by decide)(h2:a≠.NotIn:=by decide):behindInMarks a b=false:=by
 have c:(a == CmpOp.In)=false:=by cases a<;>first | rfl | exact absurd rfl h
 have d:(a == CmpOp.NotIn)=false:=by cases a<;>first | rfl | exact absurd rfl h2
 cases b<;>simp[behindInMarks,c,d]
theorem iY{d:CmpOp}{r:R2}(i:uz X (compareOp d) r)(ha:PE X a ta)(hb:PE X b tb)(hm:behindInMarks d b=false):PE X (.Compare a [d] [b] pos) (bu r ta tb):=by
 intro c s k H Q I h;exact wpAny_Compare1 (Zxd ha hb I h λv u e x y g l f j q=>i c e k g x y v u Q l f j q) hm
def bJ(t:TE):TT:=λσ H Q=>t σ H λx H'=>∃k,x=.bl k/\Q k H'
theorem Zrz{f:CmpOp}{r:R2}(j:uz X (compareOp f) r)(ha:PE X a ta)(hb:PE X b tb)(hm:behindInMarks f b=false):PT X (.Compare a [f] [b] pos) (bJ (bu r ta tb)):=by
 intro d s g H Q I h;refine wpAny_isTrue_Compare1 (gw (ha d s g H _ I h) λv l ⟨x,H1,I1,r1,q1⟩=>gw (hb d l g H1 _ I1 q1) λu i ⟨y,H2,I2,r2,q2⟩=>
  gw (j d i g H2 x y v u _ I2 r1 r2 q2) λc m ⟨z,H3,I3,r3,k,e,q3⟩=>?_) hm
 subst e;cases r3;exact wpAny_truthy_bool ⟨H3,I3,q3⟩
def Zgm(r f:R2)(ta tb tc:TE):TE:=λσ H Q=>ta σ H λx b=>tb σ b λy c=>r x y c λz a=>∃k,z=.bl k/\
 (if k=true then tc σ a λe d=>f y e d Q else Q (.bl false) a)
theorem Zoe{l g:CmpOp}{r m:R2}(t:uz X (compareOp l) r)(j:uz X (compareOp g) m)(ha:PE X a ta)(hb:PE X b tb)(hc:PE X c tc)
  (hm:lastMarks [l,g] [b,c]=false:=by with_unfolding_all rfl):PE X (.Compare a [l,g] [b,c] pos) (Zgm r m ta tb tc):=by
 intro f s i H Q I h;refine Compare_chain (gw (ha f s i H _ I h) λv w ⟨x,H1,I1,r1,q1⟩=>chain_link (gw (hb f w i H1 _ I1 q1) λu o ⟨y,H2,I2,r2,q2⟩=>
  gw (t f o i H2 x y v u _ I2 r1 r2 q2) λd p ⟨z,H3,I3,r3,k,e,q3⟩=>?_)) hm
 subst e;cases r3;refine wpAny_truthy_bool ?_;cases k with
 | false=>exact ite_ff ⟨.bl false,H3,I3,rfl,q3⟩
 | true=>exact ite_tt (chain_last (gw (hc f p i H3 _ I3 q3) (by rintro q n ⟨A,H4,I4,r4,q4⟩;exact j f n i H4 y A u q Q I4 r2 r4 q4)))
def Zio(K:aD)(x:V)(H:Hp)(k:Bool):Prop:=
 match x with
 | .non=>k=false
 | .bl b=>k=b
 | .int i=>k=(i != 0)
 | .str y=>y.length<=sizeLine/\k=((y.length:Int) != 0)
 | .byt y=>y.size<=sizeLine/\k=((y.size:Int) != 0)
 | .ref p=>(∃xs,cA K H p xs/\k=!xs.isEmpty)\/(∃xs,dU K H p xs/\k=!xs.isEmpty)\/∃a,H p=some (.dK a)/\k=!a.isEmpty
 | _=>False
theorem Zht{b:Type}{a:List (b×V)}{vs:List (b×AJ)}(r:KV a vs):(!vs.isEmpty)=!a.isEmpty:=by
 cases r<;>rfl
theorem Tn{xs:List V}{a:AC}(r:Vals xs a):(!a.toArray.isEmpty)=!xs.isEmpty:=by
 cases r<;>simp
theorem JQ:(sizeLine:Nat)<2 ^ 63:=by rw[sizeLine_eq];decide
theorem Zv7:ZEa X (λx H Q=>∃k,Zio X.K x H k/\Q k H):=by
 intro o s z H x v Q I g h;obtain⟨k,e,q⟩:=h;have hl:=JQ;have hs:sizeLine=16777216:=sizeLine_eq;cases x with
 | non=>
  cases g;have a:k=false:=e;subst a;exact truthy_none ⟨H,I,q⟩
 | bl b=>
  cases g;have a:k=b:=e;subst a;exact wpAny_truthy_bool ⟨H,I,q⟩
 | int i=>
  obtain⟨t,rfl⟩:=g;have a:k=(i != 0):=e;subst a;exact PySem.P.truthy_int ⟨H,I,q⟩
 | str y=>
  obtain⟨t,rfl⟩:=g;obtain⟨hy,a⟩:y.length<=sizeLine/\k=((y.length:Int) != 0):=e;subst a;exact PySem.P.truthy_str δ ⟨H,I.tok _,q⟩
 | byt y=>
  obtain⟨t,rfl⟩:=g;obtain⟨hy,a⟩:y.size<=sizeLine/\k=((y.size:Int) != 0):=e;subst a;exact W.truthy_bytes δ ⟨H,I.tok _,q⟩
 | ref p=>
  cases g;have a:(∃f,cA X.K H p f/\k=!f.isEmpty)\/(∃f,dU X.K H p f/\k=!f.isEmpty)\/∃c,H p=some (.dK c)/\k=!c.isEmpty:=e;rcases a with ⟨f,hx,a⟩ | ⟨f,hx,a⟩ | ⟨c,hx,a⟩
  ·subst a;obtain⟨n,r,l,hz⟩:=I.list hx;have d:=r.length;exact wpAny_truthy_list l.isList (by simp only[List.size_toArray];omega) ⟨H,I.tok _,by rw[Tn r];exact q⟩
  ·subst a;obtain⟨n,r,l,hz⟩:=I.tuple hx;have d:=r.length;exact truthy_tuple l (by simp only[List.size_toArray];omega) ⟨H,I.tok _,by rw[Tn r];exact q⟩
  ·subst a;obtain⟨hz,u,j,r,m⟩:c.length<=sizeLine/\(p == sysModules)=false/\∃j,KV c j/\s.heap.DictOf (dD X.prog X.w) p j:=I.hok p _ hx;have d:c.length=j.length:=Paired.length r;exact wpAny_truthy_dict u m δ ⟨H,I.tok _,by rw[Zht r];exact q⟩
 | _=>exact(show False from e).elim
theorem Rj(ha:PE X a ta)(d:∀b,isTrue a X.env b=(do let v <- b;standAt a.pos;holding [v] (truthy v))):
  PT X a (λσ H Q=>ta σ H λx H'=>∃k,Zio X.K x H' k/\Q k H'):=by
 intro c s σ H Q I h;exact isTrue_plain (gw (ha c s σ H _ I h) (by rintro v e ⟨x,H1,I1,r1,q1⟩;exact Zv7 c e σ H1 x v Q I1 r1 q1)) (d _)
theorem uN:uz X (binaryOp .Add) (λx y H Q=>∃i j,x=.str i/\y=.str j/\i.length+j.length<=sizeLine/\Q (.str (i++j)) H):=by
 intro a s e H x y v u Q I b d h;obtain⟨i,j,rfl,rfl,hz,q⟩:=h;obtain⟨t,rfl⟩:=b;obtain⟨c,rfl⟩:=d;exact add_str (λc tk=>⟨.str (i++j),H,I.tok _,⟨_,rfl⟩,q⟩) hz
theorem vals1{x:V}{us:AC}(r:Vals [x] us):∃u,us=[u]/\RelV x u:=by
 cases r with
 | cons b a=>cases a;exact⟨_,rfl,b⟩
theorem vals2{x y:V}{us:AC}(r:Vals [x,y] us):∃u a,us=[u,a]/\RelV x u/\RelV y a:=by
 cases r with
 | cons d b=>
  cases b with
  | cons e c=>cases c;exact⟨_,_,rfl,d,e⟩
end
structure Zj3(h:Heap)(x dx C:AI)(mA:As):Prop where
 obj:h.get? x=some (W.instObj C dx)
 ns:h.Ns1 dx mA
 ne:dx≠x
theorem Zlx{h:Heap}{dx:AI}{d:As}(n:h.Ns1 dx d):∃od,h.get? dx=some od/\∀name,W.lookIn name od=some (d name):=by
 obtain⟨o,c,i,f,hd,hk,_,hm⟩:=n;refine⟨o,f,λname=>?_⟩;have e:=hm name;unfold nsFind findBy at e;rw[<- Array.find?_toList]at e;unfold W.lookIn;rw[hd];dsimp only;split
 ·rename_i y q
  rw[q]at e;exact congrArg some e
 ·rename_i q
  rw[q]at e;have a:c.toList.any (·.refKey)=false:=by
   rw[List.any_eq_false];intro y hy;obtain⟨z,t,b⟩:=hk y (Array.mem_toList_iff.mp hy);simp[DictEntry.refKey,b]
  have g:¬ c.toList.any (·.refKey)=true:=by rw[a];exact Bool.false_ne_true
  rw[if_neg g];exact congrArg some e
theorem Zj3.look{h:Heap}{x dx C:AI}{a:As}(I:Zj3 h x dx C a):∃od,W.InstAt h x (W.instObj C dx) C (some od)/\∀name,W.lookIn name od=some (a name):=
 let ⟨od,ho,hl⟩:=Zlx I.ns
 ⟨od,⟨I.obj,rfl,rfl,ho⟩,hl⟩
section
variable {prog:AM}{w:AO}{A:Around}{E:Ap}{s:AK}{K:aD}{x dx C f:AI}{mA:As}{name:Str}{v:AJ}
theorem get_map{a:Bool}{Q:Ap}(X:K.In s.heap)(I:Zj3 s.heap x dx C mA)(c:W.plainGet K C name=true)(d:W.hasDictIn K C=true)
  (ha:W.findIn K (.ref C) name=some none) (hv:mA name=some v) (b:W.handedIn v=true) (h:Q v { s with toks:=s.toks+1 }):
  wpAny Ω A (getAttr (.ref x) name a) Q E s:=by
 obtain⟨od,J,hl⟩:=I.look;exact W.get_value X J (W.plainGet_of c).1 (W.findObj_own d ha rfl (by rw[hl,hv])) b h
theorem Zq3{pl:Sem Bool}{Q:AJ×AC->AK->Prop}(X:K.In s.heap)(I:Zj3 s.heap x dx C mA)(a:W.plainGet K C name=true)
  (c:W.findIn K (.ref C) name=some (↑f)) (b:W.isFn K (.ref f)=true) (hv:mA name=none) (h:Q (.ref f,[.ref x]) s):
  wpAny Ω A (getMethod (.ref x) name pl) Q E s:=by
 obtain⟨od,J,hl⟩:=I.look;exact W.method_fn X J (W.plainGet_of a).1 (W.plainGet_of a).2 c (beq_iff_eq.mp b) (by show(W.lookIn name od).map (·.isSome)=some false;rw[hl,hv];rfl) h
theorem Zro{ns:AH}{Q:Unit->AK->Prop}(X:K.In s.heap)(I:Zj3 s.heap x dx C mA)
  (hs:W.findIn K (.ref C) "__setattr__"=some (some (.builtin "object.__setattr__"))) (hp:W.plainOver K C=true) (m:W.takerIn K C name=some none) (n:W.hasDictIn K C=true)
  (j:PySem.Within mA ns) (hsz:ns.length<=sizeLine)
  (h:∀h',Zj3 h' x dx C (λy=>if y=name then some v else mA y)->Heap.SameBut dx s.heap h'->Q () { s with heap:=h',toks:=s.toks+2 }):
  wpAny Ω A (setAttr (.ref x) name v) Q E s:=by
 obtain⟨od,J,hl⟩:=I.look;refine W.set_plain X J hs (W.osa_open (s:={ s with toks:=s.toks+1 }) (r:=none) X J hp m λb=>?_);obtain⟨p,hc,g⟩:=W.any_some n;have hx:s.heap.get? x=some ⟨.ref C,some dx,.plain,#[]⟩:=I.obj;refine wpAny_bind (wpAny_pure (wpAny_bind (wpAny_bind (wpAny_loadPart hx (wpAny_bind (W.Looks.here (s:={ s with toks:=s.toks+1 }) (W.looks_clsIn X hc) ?_))))));rw[g];refine wpAny_pure (a:=some dx) (wpAny_bind (wpAny_pure (wpAny_bind ?_)));refine wpAny_nsSet1 (s:={ s with toks:=s.toks+1 }) I.ns λh' c d=>?_;obtain⟨o,l,k,e,f,i⟩:=c.count (PySem.Within.cons name v j);refine wpAny_bind (wpAny_lookBehind e (by rw[f];exact pastItsLine_dict (Nat.le_trans i (by rw[List.length_cons];omega))) ?_);exact wpAny_pure (h _ ⟨(d.2 _ (Ne.symm I.ne)).trans I.obj,c,I.ne⟩ d)
theorem Zp7{R:Result->AK->Prop}{vs:AC}{kw:List (Str×AJ)}(X:K.In s.heap)(hm:W.makesIn K C=true)
  (a:W.findIn K (.ref C) "__init__"=some (↑f)) (b:W.typeIn K (.ref f)=some (.type "function"))
  (h:codeAny Ω (A.under (.builtin "type.__call__" ⟨.ref C::vs,kw⟩)) (.call (.ref f) ⟨.ref ah::vs,kw⟩) (W.InitBack ah R)
   { s with heap:=(s.heap.push W.emptyDict).push cc }):
  codeAny Ω A (.call (.ref C) ⟨vs,kw⟩) R s:=by
 obtain⟨c,g,d,t,os⟩:=s;exact W.make_core (W.makes_of X hm) (W.looks_findIn X a) (λself=>W.bind_fn X self b) (.inl rfl) h
theorem Zlv{R:Result->AK->Prop}(X:K.In s.heap)(hm:W.makesIn K C=true)
  (a:W.findIn K (.ref C) "__init__"=some eK)
  (hb:∀self,W.Looks Ω s.heap (bindSpecial (.builtin "object.__init__") self) (.builtin "object.__init__",[self]))
  (h:codeAny Ω (A.under (.builtin "type.__call__" ⟨[.ref C],[]⟩)) (.call (.builtin "object.__init__") ⟨[.ref ah],[]⟩) (W.InitBack ah R)
   { s with heap:=(s.heap.push W.emptyDict).push cc }):
  codeAny Ω A (.call (.ref C) ⟨[],[]⟩) R s:=by
 obtain⟨b,g,d,t,os⟩:=s;exact W.make_core (W.makes_of X hm) (W.looks_findIn X a) hb (.inr ⟨rfl,rfl⟩) h
end
def bM(f:Str)(v:V):List (Str×V)->List (Str×V)
 | []=>[(f,v)]
 | (g,x)::r=>if g=f then(g,v)::r else(g,x)::bM f v r
theorem Mv(f g:Str)(v:V):∀fs:List (Str×V),(bM f v fs).lookup g=if g=f then some v else fs.lookup g
 | []=>by
  show List.lookup g [(f,v)]=_
  by_cases h:g=f
  ·have hb:(g == f)=true:=beq_iff_eq.mpr h;simp only[List.lookup,hb,if_pos h]
  ·have hb:(g == f)=false:=beq_eq_false_iff_ne.mpr h;simp only[List.lookup,hb,if_neg h]
 | (k,x)::r=>by
  have ih:=Mv f g v r;rw[show bM f v ((k,x)::r)=(if k=f then(k,v)::r else(k,x)::bM f v r)from rfl]
  by_cases hk:k=f
  ·rw[if_pos hk]
   by_cases h:g=k
   ·have hb:(g == k)=true:=beq_iff_eq.mpr h;simp only[List.lookup,hb,if_pos (h.trans hk)]
   ·have hb:(g == k)=false:=beq_eq_false_iff_ne.mpr h;simp only[List.lookup,hb,if_neg (λe:g=f=>h (e.trans hk.symm))]
  ·rw[if_neg hk]
   by_cases h:g=k
   ·have hb:(g == k)=true:=beq_iff_eq.mpr h;simp only[List.lookup,hb,if_neg (λe:g=f=>hk (h.symm.trans e))]
   ·have hb:(g == k)=false:=beq_eq_false_iff_ne.mpr h;simp only[List.lookup,hb];exact ih
theorem JV(f:Str)(v:V):∀fs:List (Str×V),f∈(bM f v fs).map (·.1)/\∀g,g∈fs.map (·.1)->g∈(bM f v fs).map (·.1)
 | []=>⟨by simp[bM],λg h=>by simp at h⟩
 | (k,x)::r=>by
  obtain⟨b,a⟩:=JV f v r;rw[show bM f v ((k,x)::r)=(if k=f then(k,v)::r else(k,x)::bM f v r)from rfl]
  by_cases hk:k=f
  ·rw[if_pos hk];subst hk;exact⟨ζ,λg h=>by simpa using h⟩
  ·rw[if_neg hk];refine⟨?_,λg h=>?_⟩
   ·rw[List.map_cons];exact List.mem_cons_of_mem _ b
   ·rw[List.map_cons]at h ⊢;rcases List.mem_cons.mp h with e | e
    ·exact List.mem_cons.mpr (.inl e)
    ·exact List.mem_cons_of_mem _ (a g e)
theorem MF(f:Str)(v:V):∀fs:List (Str×V),(bM f v fs).length<=fs.length+1
 | []=>by simp[bM]
 | (k,x)::r=>by
  have ih:=MF f v r;rw[show bM f v ((k,x)::r)=(if k=f then(k,v)::r else(k,x)::bM f v r)from rfl]
  by_cases hk:k=f
  ·rw[if_pos hk,List.length_cons,List.length_cons];omega
  ·rw[if_neg hk,List.length_cons,List.length_cons];omega
theorem zX.some_of{v:V}{o:AB}(r:zX (some v) o):∃u,o=some u/\RelV v u:=by
 cases o with
 | none=>exact(show False from r).elim
 | some u=>exact⟨u,rfl,r⟩
theorem zX.none_of{o:AB}(r:zX none o):o=none:=by
 cases o with
 | none=>rfl
 | some u=>exact(show False from r).elim
theorem Zml{v:V}{u:AJ}(r:RelV v u):W.handedIn u=true:=by
 cases v with
 | non=>cases (show u=Value.none from r);rfl
 | bl b=>cases (show u=Value.bool b from r);rfl
 | int i=>obtain⟨t,e⟩:=(show ∃t,u=Value.int i t from r);cases e;rfl
 | str x=>obtain⟨t,e⟩:=(show ∃t,u=Value.str x t from r);cases e;rfl
 | byt b=>obtain⟨t,e⟩:=(show ∃t,u=Value.bytes b t from r);cases e;rfl
 | flt b=>obtain⟨t,e⟩:=(show ∃t,u=Value.float b t from r);cases e;rfl
 | ref a=>cases (show u=Value.ref a from r);rfl
 | ty n=>cases (show u=Value.type n from r);rfl
section
variable {P:AM}{w:AO}{H H':Hp}{h h':Heap}{a C dx:AI}{fs fs':List (Str×V)}
theorem PK(hok:zx P w H h)(e:H a=some (.ins C dx fs)):∃b,Zj3 h a dx C b/\(∀f,zX (fs.lookup f) (b f))/\PySem.Within b (fs.map (·.1))/\fs.length<=1000/\H dx=some (.own a):=by
 obtain⟨d,z,ne,ob,b,n,r,q⟩:=(show fZ P w H h a (.ins C dx fs)from hok a _ e);exact⟨b,⟨ob,n,ne⟩,r,q,z,d⟩
end
structure Pq(K:aD)(C:AI):Prop where
 pg:W.plainGet K C Str.empty=true
 hd:W.hasDictIn K C=true
 po:W.plainOver K C=true
 sa:W.findIn K (.ref C) "__setattr__"=some (some (.builtin "object.__setattr__"))
theorem Pq.get{K:aD}{C:AI}(c:Pq K C)(f:Str):W.plainGet K C f=true:=c.pg
def cJ(K:aD)(C:AI)(f:Str):Prop:=W.findIn K (.ref C) f=some none
theorem cJ.taker{K:aD}{C:AI}{f:Str}(n:cJ K C f):W.takerIn K C f=some none:=by
 unfold W.takerIn;rw[show W.findIn K (.ref C) f=some none from n];rfl
structure Con(K:aD)(C:AI)(f:Str)(v:V)(u:AJ):Prop where
 at_:W.findIn K (.ref C) f=some (some u)
 rel:RelV v u
 get:W.specialIn K u "__get__"=some none
 cp:W.copiedNames.contains f=false
structure Meth(K:aD)(C:AI)(m:Str)(f:AI):Prop where
 at_:W.findIn K (.ref C) m=some (↑f)
 fn:W.isFn K (.ref f)=true
 kp:W.keepIn K (.ref f)=true
section
variable {X:Cx}{pins:At}{σ:St}{H:Hp}{s:AK}{a C dx:AI}{fs:List (Str×V)}{f:Str}{v:V}{A:Around}{E:Ap}
theorem Zi0{b:Bool}{Q:Ap}(I:Inv X pins σ H s)(e:H a=some (.ins C dx fs))(c:Pq X.K C)(n:cJ X.K C f)(l:fs.lookup f=some v)
  (h:∀u s',Inv X pins σ H s'->RelV v u->Q u s'):wpAny υ A (getAttr (.ref a) f b) Q E s:=by
 obtain⟨g,O,r,_,_,_⟩:=PK I.hok e;obtain⟨u,hu,d⟩:=zX.some_of (v:=v) (o:=g f) (by rw[<- l];exact r f);exact get_map I.oM O (c.get f) c.hd n hu (Zml d) (h u _ (I.tok _) d)
theorem TJ{m:Str}{g:AI}{pl:Sem Bool}{Q:AJ×AC->AK->Prop}(I:Inv X pins σ H s)(e:H a=some (.ins C dx fs))(c:Pq X.K C)(k:Meth X.K C m g)(l:fs.lookup m=none)
  (h:Q (.ref g,[.ref a]) s):wpAny υ A (getMethod (.ref a) m pl) Q E s:=by
 obtain⟨b,O,r,_,_,_⟩:=PK I.hok e;have hn:b m=none:=zX.none_of (by rw[<- l];exact r m);exact Zq3 I.oM O (c.get m) k.at_ k.fn hn h
theorem Zgz{y:V}{u:AJ}{Q:Unit->AK->Prop}(I:Inv X pins σ H s)(e:H a=some (.ins C dx fs))(c:Pq X.K C)(n:cJ X.K C f)(hl:fs.length<1000)(m:RelV y u)
  (h:∀s',Inv X pins σ (upd H a (.ins C dx (bM f y fs))) s'->Q () s'):wpAny υ A (setAttr (.ref a) f u) Q E s:=by
 obtain⟨k,O,r,i,_,j⟩:=PK I.hok e;have hz:(fs.map (·.1)).length<=sizeLine:=by rw[aX,sizeLine_eq];omega
 refine Zro I.oM O c.sa c.po n.taker c.hd i hz λp d sb=>h _ ?_;have hd:∃o,p.get? dx=some o:=let ⟨o,_,_,e',_⟩:=d.ns;⟨o,e'⟩
 refine I.write (x:=a) (e:=dx) (by rw[e];exact True.intro) (.inr j) (λb q hb z=>(sb.2 b hb).trans z) hd ?_;refine⟨by rw[aB O.ne];exact j,?_,O.ne,d.obj,_,d.ns,λg=>?_,λg l=>?_⟩
 ·have:=MF f y fs;omega
 ·show zX ((bM f y fs).lookup g) (if g=f then some u else k g);rw[Mv]
  by_cases q:g=f
  ·rw[if_pos q,if_pos q];exact m
  ·rw[if_neg q,if_neg q];exact r g
 ·by_cases q:g=f
  ·rw[q];exact(JV f y fs).1
  ·refine(JV f y fs).2 g (i g λz=>l ?_);show(if g=f then some u else k g)=none;rw[if_neg q];exact z
theorem Inv.made(I:Inv X pins σ H s):Inv X pins σ (upd (upd H s.heap.objs.size (.own ah)) ah (.ins C s.heap.objs.size []))
  { s with heap:=(s.heap.push W.emptyDict).push cc }:=by
 have c:(s.heap.push W.emptyDict).get? s.heap.objs.size=some W.emptyDict:=Heap.get?_push_size s.heap rfl;have g:((s.heap.push W.emptyDict).push cc).get? (s.heap.objs.size+1)=some cc:=by
  have:=Heap.get?_push_size (s.heap.push W.emptyDict) (o:=W.instObj C s.heap.objs.size) rfl
  rwa [Heap.size_push]at this
 have e3:(s.heap.push W.emptyDict).Ns s.heap.objs.size (λ_=>none):=⟨W.emptyDict,#[],_,c,rfl,(λe d=>absurd d ζ),λ_=>rfl⟩;have f:=I.laid (a:=s.heap.objs.size) (o:=.own ah) (h':=s.heap.push W.emptyDict) (t':=s.toks) (λb u q=>Heap.get?_push_of_some _ q) Γ ⟨_,c⟩;refine f.laid (a:=s.heap.objs.size+1) (o:=.ins C s.heap.objs.size []) (t':=s.toks) (λb u q=>Heap.get?_push_of_some _ q) (Nat.le_of_eq (Heap.size_push _ _)) ?_;have ne:s.heap.objs.size≠s.heap.objs.size+1:=Nat.ne_of_lt (Nat.lt_succ_self _);refine⟨by rw[aB ne,ao],Nat.zero_le _,ne,g,λ_=>none,(Heap.Ns1.of_empty e3).at λo q=>Heap.get?_push_of_some _ q,λ_=>True.intro,λy hy=>absurd rfl hy⟩
theorem Ztr{prog:AM}{w:AO}{env:Env}{e:AN}{f:Str}{b:Pos}{s:AK}{Q:Ap}(hb:attributeBase e f env (eval e env)=eval e env)
  (h:wpAny Ω A (eval e env) (λo a=>wpAny Ω A (getAttr o f true) Q E a) E s):wpAny Ω A (eval (.Attribute e f b) env) Q E s:=
 Attribute_any_ h (by rw[arm_eval_Attribute,hb])
end
def aZ(K:aD)(c:TE)(f:Str):TE:=λσ H Q=>c σ H λx b=>∃a C dx fs v,x=.ref a/\b a=some (.ins C dx fs)/\Pq K C/\cJ K C f/\fs.lookup f=some v/\Q v b
def dM(K:aD)(d e:TE)(f:Str):TS:=λD σ H=>e σ H λy c=>d σ c λx b=>∃a C dx fs,x=.ref a/\b a=some (.ins C dx fs)/\Pq K C/\cJ K C f/\fs.length<1000/\
 D.nx σ (upd b a (.ins C dx (bM f y fs)))
section
variable {X:Cx}{o e value:AN}{f:Str}{pos pos' tpos:Pos}{ta tv:TE}
theorem aJ(d:PE X e ta)(hb:attributeBase e f X.env (eval e X.env)=eval e X.env):PE X (.Attribute e f pos) (aZ X.K ta f):=by
 intro b s i H Q I h;refine Ztr hb (gw (d b s i H _ I h) λu o qc=>?_);obtain⟨x,H1,I1,rx,a,C,dx,fs,v,ex,ea,c,n,l,q⟩:=qc;subst ex;obtain rfl:u=Value.ref a:=rx;exact Zi0 I1 ea c n l λk m j g=>⟨v,H1,j,g,q⟩
theorem bL(ha:PE X o ta)(hv:PE X value tv)(hs:swapsWith value (some (.Attribute o f pos')) pos.line X.env=pure false):PS X (.Assign [.Attribute o f pos'] value pos) (dM X.K ta tv f):=by
 intro b s d H D I h;refine plainObj_wpAny_Assign_Attribute (gw (hv b s d H _ I h) λu i ⟨y,H1,I1,ry,q⟩=>gw (ha b i d H1 _ I1 q) λg j qc=>?_) hs;obtain⟨x,H2,I2,rx,a,C,dx,fs,ex,ea,c,n,l,q2⟩:=qc;subst ex;obtain rfl:g=Value.ref a:=rx;exact Zgz I2 ea c n l ry λk e=>⟨d,_,e,q2⟩
end
section
variable {X:Cx}{pins:At}{σ:St}{H:Hp}{s:AK}{A:Around}{E:Ap}{Q:Ap}{c:AJ}{b:Bool}
inductive Ka(K:aD)(H:Hp):V->AJ->Prop where
 | non:Ka K H .non (.type "NoneType")
 | bl (x:Bool):Ka K H (.bl x) (.type "bool")
 | int (i:Int):Ka K H (.int i) (.type "int")
 | str (x:Str):Ka K H (.str x) (.type "str")
 | flt (x:UInt64):Ka K H (.flt x) (.type "float")
 | lst {a:AI}{xs:List V} (e:H a=some (.lst xs)):Ka K H (.ref a) (.type "list")
 | wB {a:AI}{o:Obj}{xs:List V} (e:H a=some (.wB o (.lst xs))):Ka K H (.ref a) (.type "list")
 | tup {a:AI}{xs:List V} (e:H a=some (.tup xs)):Ka K H (.ref a) (.type "tuple")
 | dK {a:AI}{kvs:List (Key×V)} (e:H a=some (.dK kvs)):Ka K H (.ref a) (.type "dict")
 | dT {a:AI}{kvs:List (List Key×V)} (e:H a=some (.dT kvs)):Ka K H (.ref a) (.type "dict")
 | ins {a C dx:AI}{fs:List (Str×V)} (e:H a=some (.ins C dx fs)) (cl:Pq K C) (ha:W.findIn K (.ref C) "__class__"=some (some (.builtin "object.__class__")))
   (hn:W.specialIn K (.builtin "object.__class__") "__get__"=some (some (.builtin "getset_descriptor.__get__"))) (htk:W.takesIn K (.builtin "object.__class__")=some true)
   (hm:W.mroIn K C (.type "object")=some true):Ka K H (.ref a) (.ref C)
theorem Zm1{x:V}{u t:AJ}(I:Inv X pins σ H s)(d:RelV x u)(ty:Ka X.K H x t)(e:W.kitOne X.K t c=some b)(h:∀tk,Q (.bool b) { s with toks:=tk }):
  wpAny υ A (call (.builtin "isinstance") [u,c]) Q E s:=by
 cases ty with
 | non=>cases (show u=Value.none from d);exact W.kia_one W.kitx_none I.oM True.intro e av h
 | bl y=>cases (show u=Value.bool y from d);exact W.kia_one W.kitx_bool I.oM True.intro e av h
 | int i=>obtain⟨t,q⟩:=(show ∃t,u=Value.int i t from d);cases q;exact W.kia_one W.kitx_int I.oM True.intro e av h
 | str y=>obtain⟨t,q⟩:=(show ∃t,u=Value.str y t from d);cases q;exact W.kia_one W.kitx_str I.oM True.intro e av h
 | flt y=>obtain⟨t,q⟩:=(show ∃t,u=Value.float y t from d);cases q;exact W.kia_one W.kitx_float I.oM True.intro e av h
 | @lst a j f=>
  cases (show u=Value.ref a from d);obtain⟨_,_,n,_,h1⟩:=(show fZ X.prog X.w H s.heap a (.lst j)from I.hok a _ f);exact W.kia_one W.kitx_list I.oM ⟨_,h1,rfl⟩ e av h
 | @wB a ob j f=>
  cases (show u=Value.ref a from d);obtain⟨_,_,_,n,_,h1⟩:=(show fZ X.prog X.w H s.heap a (.wB ob (.lst j))from I.hok a _ f);exact W.kia_one W.kitx_list I.oM ⟨_,h1,rfl⟩ e av h
 | @tup a j f=>
  cases (show u=Value.ref a from d);obtain⟨_,_,_,p⟩:=(show fZ X.prog X.w H s.heap a (.tup j)from I.hok a _ f);obtain⟨o,h1,h2,_⟩:=p;exact W.kia_one W.kitx_tuple I.oM ⟨o,h1,h2⟩ e av h
 | @dK a g f=>
  cases (show u=Value.ref a from d);obtain⟨_,_,r,_,p⟩:=(show fZ X.prog X.w H s.heap a (.dK g)from I.hok a _ f);obtain⟨o,m,l,h1,h2,_⟩:=p;exact W.kia_one W.kitx_dict I.oM ⟨o,h1,h2.1⟩ e av h
 | @dT a g f=>
  cases (show u=Value.ref a from d);obtain⟨_,_,j,_,o,m,l,h1,h2,_⟩:=(show fZ X.prog X.w H s.heap a (.dT g)from I.hok a _ f);exact W.kia_one W.kitx_dict I.oM ⟨o,h1,h2.1⟩ e av h
 | @ins a C B fs f cl ha hn k hm=>
  cases (show u=Value.ref a from d);obtain⟨v,O,_⟩:=PK I.hok f;obtain⟨od,J,_⟩:=O.look;exact W.kia_one (W.kitx_own (cl.get _) cl.hd ha hn k hm) I.oM J e av h
end
structure Room(k:Nat)(A:Around):Prop where
 hd:A.handled=none
 dp:A.depth+3 * k+5<recursionLimit
 un:A.units+16 * k+200<cLine
theorem Room.mono{j k:Nat}{A:Around}(r:Room k A)(h:j<=k):Room j A:=⟨r.hd,by have:=r.dp;omega,by have:=r.un;omega⟩
theorem Room.deeper{k:Nat}{A:Around}(r:Room dX A)(env:Env):Room k (A.deeper env):=
 ⟨r.hd,by have:=r.dp;show A.depth+1+3 * k+5<_;omega,by have:=r.un;show A.units+3+16 * k+200<_;omega⟩
theorem Zhk{A:Around}{C:AI}{us:AC}{kw:List (Str×AJ)}:(A.under (.builtin "type.__call__" ⟨.ref C::us,kw⟩)).depth=A.depth+1:=by
 first | rfl | simp[Around.under,Code.weight,Code.isCreation,Code.isGuard,Code.isCaller,Code.frames,Code.isFrame,guardIds]
theorem Zhj{A:Around}{C:AI}{us:AC}{kw:List (Str×AJ)}:(A.under (.builtin "type.__call__" ⟨.ref C::us,kw⟩)).units=A.units+1:=by
 first | rfl | simp[Around.under,Code.cUnits,Code.frames,Code.isFrame]
theorem Room.make{k:Nat}{A:Around}(r:Room dX A)(C:AI)(us:AC)(kw:List (Str×AJ)):Room k (A.under (.builtin "type.__call__" ⟨.ref C::us,kw⟩)):=
 ⟨r.hd,by have:=r.dp;rw[Zhk];omega,by have:=r.un;rw[Zhj];omega⟩
theorem Room.depth{k:Nat}{A:Around}(r:Room k A):A.depth<recursionLimit:=by have:=r.dp;omega
theorem Room.units{k:Nat}{A:Around}(r:Room k A):A.units+64<cLine:=by have:=r.un;omega
def aG:TA:=λ_ H Q=>Q [] H
def aj(c:TE)(d:TA):TA:=λσ H Q=>c σ H λx a=>d σ a λxs b=>Q (x::xs) b
section
variable {X:Cx}{e:AN}{es:AG}{te:TE}{t:TA}{pos:Pos}
theorem au:PA X [] aG:=λ_ _ _ _ H Q I h=>Calls.spliced_nil ⟨[],H,I,.nil,h⟩
theorem aa(ha:PE X e te)(hr:PA X es t)(hs:starEach (e::es) X.env=(false,eval e X.env)::starEach es X.env:=by rfl):PA X (e::es) (aj te t):=by
 intro pos a s b H Q I h;rw[hs];show wpAny _ _ (spliced ((false,eval e X.env)::backTo pos ec)) _ _ s;refine Calls.spliced_cons (gw (ha a s b H _ I h) λu d qc=>?_);obtain⟨x,H1,I1,r1,q1⟩:=qc;exact gw (hr pos a d b H1 _ I1 q1) (by rintro us f ⟨c,H2,I2,r2,q2⟩;exact⟨x::c,H2,I2,.cons r1 r2,q2⟩)
def cP(t:TA):TE:=λσ H Q=>t σ H λxs a=>xs.length<=sizeLine/\∀p,a p=none->Q (.ref p) (upd a p (.tup xs))
def eU(t:TA):TE:=λσ H Q=>t σ H λxs a=>xs.length<=sizeLine/\∀p,a p=none->Q (.ref p) (upd a p (.lst xs))
theorem bB{x1}(h:PA X es t):PE X (.Tuple es x1 pos) (cP t):=by
 intro a s f H Q I hq;refine wpAny_Tuple_spliced (gw (h pos a s f H _ I hq) λus c ⟨d,H1,I1,r,z,q⟩=>⟨by rw[<- r.length];exact z,?_⟩);have g:H1 c.heap.objs.size=none:=I1.hok.fresh Γ;refine⟨.ref c.heap.objs.size,upd H1 c.heap.objs.size (.tup d),I1.laid (t':=c.toks) (λb u e=>Heap.get?_push_of_some _ e) Γ ?_,rfl,q _ g⟩;exact⟨z,us,r,⟨_,Heap.get?_push_size _ rfl,rfl,_,rfl⟩⟩
theorem cF(h:PA X es t):PE X (.List es pos) (eU t):=by
 intro a s f H Q I hq;refine wpAny_List_spliced (gw (h pos a s f H _ I hq) λus c ⟨d,H1,I1,r,z,q⟩=>⟨by rw[<- r.length];exact z,?_⟩);have g:H1 c.heap.objs.size=none:=I1.hok.fresh Γ;refine⟨.ref c.heap.objs.size,upd H1 c.heap.objs.size (.lst d),I1.laid (t':=c.toks) (λb u e=>Heap.get?_push_of_some _ e) Γ ?_,rfl,q _ g⟩;exact⟨z,us,0,r,Heap.get?_push_size _ rfl⟩
end
abbrev Sp:=List V->Hp->VK->XK->Prop
abbrev CXT:=List Env->Hp->AK->XK->AJ->AK->Prop
structure Zd0(P:AM)(w:AO)(K:aD)(mg:As)(base:Heap)(A:Around)(outer:List Env)(s:AK)(H:Hp):Prop where
 frames:A.frames=some outer
 mod:Mod K mg base
 bs:∀b o,base.get? b=some o->s.heap.get? b=some o/\H b=none
 bsz:base.objs.size<=s.heap.objs.size
 ue:s.heap.FunFrames base outer
 frf:∀b∈frs outer,H b=none
 hok:zx P w H s.heap
 bare:AllBare s.gens
def CE(outer:List Env)(P:AM)(w:AO)(H:Hp)(s:AK)(Q:VK)(u:AJ)(s':AK):Prop:=
 ∃v H',s'.os=s.os/\AllBare s'.gens/\Un (frs outer) [] H H' s.heap s'.heap/\zx P w H' s'.heap/\RelV v u/\Q v H'
def CR(CX:CXT)(outer:List Env)(P:AM)(w:AO)(H:Hp)(s:AK)(Q:VK)(E:XK)(r:Result)(s':AK):Prop:=
 match r with
 | .ok (.ret u)=>CE outer P w H s Q u s'
 | .ok _=>False
 | .error e=>CX outer H s E e s'
structure pX(P:AM)(w:AO)(K:aD)(mg:As)(base:Heap)(CX:CXT)(k:Nat)(f:AI)(fd:AL)(ps:AH)(sp:Sp):Prop where
 len:∀vs H Q E,sp vs H Q E->vs.length=ps.length
 run:∀(A:Around) (outer:List Env) (s:AK) (H:Hp) (args:Args) (us:AC) (vs:List V) (Q:VK) (E:XK),Room k A->Zd0 P w K mg base A outer s H->BindsTo s fd args (ps.zip us)->Vals vs us->sp vs H Q E->
  codeAny (model P w) A (.call (.ref f) args) (CR CX outer P w H s Q E) s
theorem Zd0.make{P:AM}{w:AO}{K:aD}{mg:As}{base:Heap}{A:Around}{outer:List Env}{s:AK}{H:Hp}(e:Zd0 P w K mg base A outer s H)(C:AI)(us:AC)(kw:List (Str×AJ)):
  Zd0 P w K mg base (A.under (.builtin "type.__call__" ⟨.ref C::us,kw⟩)) outer s H:=⟨by first | exact e.frames | (simpa[Around.under,Code.envs,Code.isFrame,pushEnvs]using e.frames),e.mod,e.bs,e.bsz,e.ue,e.frf,e.hok,e.bare⟩
section
variable {X:Cx}{pins:At}{σ:St}{H:Hp}{s s':AK}
theorem Inv.env0(I:Inv X pins σ H s):Zd0 X.prog X.w X.K X.mg X.base X.A X.stack s H:=
 ⟨I.ok.frames,I.ok.mod,I.bs,Nat.le_trans I.ok.bsz I.sz,I.stack,I.ZR,I.hok,I.bare⟩
theorem Inv.after{Q:VK}{u:AJ}(I:Inv X pins σ H s)(h:CE X.stack X.prog X.w H s Q u s'):EP X pins σ Q u s':=by
 obtain⟨v,c,os,bare,un,hok,r,q⟩:=h;obtain⟨e,g,d,t,a⟩:=s';obtain rfl:a=s.os:=os;exact⟨v,c,I.call (h':=e) (g':=g) (d':=d) (t':=t) (ch:=[]) un hok bare (λb z=>absurd z ζ),r,q⟩
end
def aR(sp:Sp)(pW:List V)(E:XK)(t:TA):TE:=λσ H Q=>t σ H λvs a=>sp (vs++pW) a Q E
def fP(C:AI)(m:Str)(sp:Sp)(pW:List V)(E:XK)(d:TE)(t:TA):TE:=λσ H Q=>d σ H λx b=>∃a dx fs,x=.ref a/\b a=some (.ins C dx fs)/\fs.lookup m=none/\
 t σ b λvs c=>sp (x::(vs++pW)) c Q E
def rR(C:AI)(sp:Sp)(pW:List V)(E:XK)(t:TA):TE:=λσ H Q=>t σ H λvs a=>∀x dx,a x=none->a dx=none->dx≠x->
 sp (.ref x::(vs++pW)) (upd (upd a dx (.own x)) x (.ins C dx [])) (λv b=>v=.non/\Q (.ref x) b) E
def Binds(K:aD)(fd:AL)(ps:AH)(ds:AC):Prop:=
 ∀(s:AK) (us:AC),K.In s.heap->(us++ds).length=ps.length->BindsTo s fd ⟨us,[]⟩ (ps.zip (us++ds))
theorem Binds.all{K:aD}{fd:AL}{ps:AH}(h:∀us:AC,us.length=ps.length->bindArgs fd ⟨us,[]⟩=pure (ps.zip us)):Binds K fd ps []:=λs us _ hl=>by
 rw[List.append_nil]at hl ⊢;exact .of_eq (h us hl)
def Passes(CX:CXT)(X:Cx)(E:XK):Prop:=∀(pins:At) (σ:St) (H:Hp) (s:AK) (e:AJ) (s':AK),Inv X pins σ H s->CX X.stack H s E e s'->X.xe e s'
section
variable {X:Cx}{CX:CXT}{k:Nat}{f C:AI}{fd:AL}{ps:AH}{sp:Sp}{pW:List V}{ds:AC}{E:XK}{x m:Str}{p pos apos:Pos}{e o:AN}{es:AG}{ta:TE}{t:TA}
theorem Za3{pins:At}{σ:St}{H:Hp}{s:AK}{Q:VK}{us:AC}{vs:List V}(F:pX X.prog X.w X.K X.mg X.base CX k f fd ps sp)(hr:Room k X.A)(hb:Binds X.K fd ps ds)(hd:Vals pW ds)(hx:Passes CX X E)
  (I:Inv X pins σ H s) (r:Vals vs us) (h:sp (vs++pW) H Q E):wpAny υ X.A (call (.ref f) us) dv X.xe s:=by
 have a:Vals (vs++pW) (us++ds):=r.append hd;have hl:(us++ds).length=ps.length:=by rw[<- a.length];exact F.len _ _ _ _ h
 refine wpAny_call (codeAny_mono (F.run X.A X.stack s H ⟨us,[]⟩ (us++ds) (vs++pW) Q E hr I.env0 (hb s us I.oM hl) a h) λr b hq=>?_);cases r with
 | error e=>exact hx pins σ H s e b I hq
 | ok fl=>
  cases fl with
  | ret u=>exact I.after hq
  | next=>exact False.elim hq
  | brk=>exact False.elim hq
  | cont=>exact False.elim hq
theorem qy(F:pX X.prog X.w X.K X.mg X.base CX k f fd ps sp)(hr:Room k X.A)(d:Gl X x)(hm:X.mg x=↑f)(hk:W.keepIn X.K (.ref f)=true)(hb:Binds X.K fd ps ds)(hd:Vals pW ds)(hx:Passes CX X E)
  (ha:PA X (e::es) t) (b:(x == ("__debug__":Str))=false:=by decide) (g:starEach (e::es) X.env=(false,eval e X.env)::starEach es X.env:=by rfl) (c:(backTo pos ec).any (·.1)=false:=by rfl):
  PE X (.Call (.Name x p) (e::es) [] pos) (aR sp pW E t):=by
 intro a s i H Q I h;refine wpAny_Call_Name_kw (fU I d hm ?_ b);refine W.callWith_K (h₀:=X.base) I.ok.mod.kin hk eL g c;exact Za3 F hr hb hd hx I1 r q
theorem mq{pl:Sem Bool}(j:PE X o ta)(c:Pq X.K C)(hm:Meth X.K C m f)(F:pX X.prog X.w X.K X.mg X.base CX k f fd ps sp)(hr:Room k X.A)(hb:Binds X.K fd ps ds)(hd:Vals pW ds)(hx:Passes CX X E)(ha:PA X (e::es) t)
  (d:starEach (e::es) X.env=(false,eval e X.env)::starEach es X.env:=by rfl) (g:(backTo pos ec).any (·.1)=false:=by rfl)
  (n:eval (.Call (.Attribute o m apos) (e::es) [] pos) X.env=(do
   let ov <- eval o X.env
   standAt apos.atName
   let (f,first) <- holding [ov] (getMethod ov m pl)
   callWith pos f first (backTo pos (starEach (e::es) X.env)) (backToKw pos (keywordEach [] X.env))):=by rfl):
  PE X (.Call (.Attribute o m apos) (e::es) [] pos) (fP C m sp pW E ta t):=by
 intro b s i H Q I h;refine W.methodCall_KW (pl:=pl) (gw (j b s i H _ I h) λu p qc=>?_) n;obtain⟨x,H1,I1,rx,a,dx,fs,ex,ea,l,q⟩:=qc;subst ex;obtain rfl:u=Value.ref a:=rx;refine TJ I1 ea c hm l ?_;refine W.callWith_K (first:=[.ref a]) (h₀:=X.base) I.ok.mod.kin hm.kp (gw (ha pos b p i H1 _ I1 q) λus v ⟨vs,H2,I2,r,q2⟩=>⟨I2.oM,?_⟩) d g;exact Za3 (us:=.ref a::us) (vs:=.ref a::vs) F hr hb hd hx I2 (.cons rfl r) q2
theorem eX{pl:Sem Bool}(d:PE X o ta)(c:Pq X.K C)(hm:Meth X.K C m f)(F:pX X.prog X.w X.K X.mg X.base CX k f fd ps sp)(hr:Room k X.A)(hb:Binds X.K fd ps ds)(hd:Vals pW ds)(hx:Passes CX X E)
  (e:eval (.Call (.Attribute o m apos) [] [] pos) X.env=(do
   let ov <- eval o X.env
   standAt apos.atName
   let (f,first) <- holding [ov] (getMethod ov m pl)
   callWith pos f first (backTo pos (starEach [] X.env)) (backToKw pos (keywordEach [] X.env))):=by rfl):
  PE X (.Call (.Attribute o m apos) [] [] pos) (fP C m sp pW E ta aG):=by
 intro b s g H Q I h;refine W.methodCall_KW (pl:=pl) (gw (d b s g H _ I h) λu i qc=>?_) e;obtain⟨x,H1,I1,rx,a,dx,fs,ex,ea,l,q⟩:=qc;subst ex;obtain rfl:u=Value.ref a:=rx;refine TJ I1 ea c hm l ?_;exact W.callWith_K0 (first:=[.ref a]) I1.oM hm.kp (Za3 (us:=[.ref a]) (vs:=[.ref a]) F hr hb hd hx I1 (.cons rfl .nil) q)
structure Mk(K:aD)(C f:AI):Prop where
 makes:W.makesIn K C=true
 init:W.findIn K (.ref C) "__init__"=some (↑f)
 fn:W.isFn K (.ref f)=true
 kp:W.keepIn K (.ref C)=true
theorem Zdk{pins:At}{σ:St}{H:Hp}{s:AK}{Q:VK}{us:AC}{vs:List V}(M:Mk X.K C f)(F:pX X.prog X.w X.K X.mg X.base CX k f fd ps sp)(hr:Room dX X.A)(hb:Binds X.K fd ps ds)(hd:Vals pW ds)
  (hx:Passes CX X E) (I:Inv X pins σ H s) (r:Vals vs us)
  (h:∀x dx,H x=none->H dx=none->dx≠x->sp (.ref x::(vs++pW)) (upd (upd H dx (.own x)) x (.ins C dx [])) (λv i=>v=.non/\Q (.ref x) i) E):
  wpAny υ X.A (call (.ref C) us) dv X.xe s:=by
 have hq:=h ah s.heap.objs.size (I.hok.fresh (Nat.le_succ _)) (I.hok.fresh Γ) (Nat.ne_of_lt (Nat.lt_succ_self _));have b:=Inv.made (C:=C) I;have c:Vals (V.ref ah::(vs++pW)) (Value.ref ah::(us++ds)):=.cons rfl (r.append hd);have hl:(Value.ref ah::us++ds).length=ps.length:=by
  have e:=c.length;rw[F.len _ _ _ _ hq]at e;exact e.symm
 refine wpAny_call (Zp7 (f:=f) I.oM M.makes M.init (beq_iff_eq.mp M.fn) (codeAny_mono (F.run _ X.stack _ _ ⟨Value.ref ah::us,[]⟩ (Value.ref ah::(us++ds)) _ _ E (hr.make C us [])
  (b.env0.make C us []) (hb _ (Value.ref ah::us) b.oM hl) c hq) λr l a=>?_))
 cases r with
 | error e=>exact hx pins σ _ _ e l b a
 | ok fl=>
  cases fl with
  | ret u=>
   obtain⟨v,d,g,m,ev,j⟩:=b.after a;subst ev;exact⟨m,⟨V.ref ah,d,g,rfl,j⟩⟩
  | next=>exact False.elim a
  | brk=>exact False.elim a
  | cont=>exact False.elim a
theorem qx(M:Mk X.K C f)(F:pX X.prog X.w X.K X.mg X.base CX k f fd ps sp)(hr:Room dX X.A)(d:Gl X x)(hm:X.mg x=↑C)(hb:Binds X.K fd ps ds)(hd:Vals pW ds)(hx:Passes CX X E)
  (ha:PA X (e::es) t) (b:(x == ("__debug__":Str))=false:=by decide) (g:starEach (e::es) X.env=(false,eval e X.env)::starEach es X.env:=by rfl) (c:(backTo pos ec).any (·.1)=false:=by rfl):
  PE X (.Call (.Name x p) (e::es) [] pos) (rR C sp pW E t):=by
 intro a s i H Q I h;refine wpAny_Call_Name_kw (fU I d hm ?_ b);refine W.callWith_K (h₀:=X.base) I.ok.mod.kin M.kp eL g c;exact Zdk M F hr hb hd hx I1 r q
theorem Zob(M:Mk X.K C f)(F:pX X.prog X.w X.K X.mg X.base CX k f fd ps sp)(hr:Room dX X.A)(c:Gl X x)(hm:X.mg x=↑C)(hb:Binds X.K fd ps ds)(hd:Vals pW ds)(hx:Passes CX X E)
  (a:(x == ("__debug__":Str))=false:=by decide):PE X (.Call (.Name x p) [] [] pos) (rR C sp pW E aG):=by
 intro b s d H Q I h;refine wpAny_Call_Name_kw (fU I c hm ?_ a);exact W.callWith_K0 I.oM M.kp (Zdk (us:=[]) M F hr hb hd hx I .nil h)
end
section
variable {X:Cx}{CX:CXT}{k:Nat}{f C:AI}{fd:AL}{ps ks:AH}{sp:Sp}{E:XK}{x m:Str}{p pos apos kpos:Pos}{e o:AN}{es:AG}{kws:List Keyword}{te ta:TE}{t tk:TA}{nm:Option Str}
structure ZEb(K:aD)(fd:AL)(ps ks:AH)(g:AC->AC->AC)(gV:List V->List V->List V):Prop where
 to:∀(s:AK) (us ws:AC),K.In s.heap->(g us ws).length=ps.length->BindsTo s fd ⟨us,ks.zip ws⟩ (ps.zip (g us ws))
 rel:∀{vs:List V}{us:AC}{zs:List V}{ws:AC},Vals vs us->Vals zs ws->Vals (gV vs zs) (g us ws)
variable {g:AC->AC->AC}{gV:List V->List V->List V}
end
structure aM(N P:AH)(sc:Scope):Prop where
 kind:sc.kind=.function
 co:sc.isCoroutine=false
 gen:sc.isGenerator=false
 nd:N.Nodup
 pre:N.take P.length=P
 par:∀x∈P,sc.names.lookup x=some .local\/sc.names.lookup x=some .cell
 Zvp:∀y∈sc.names,y.2≠.free
theorem Zo{kindOf:Str->Option NameKind}{x:Str}:∀{binds:List (Str×AJ)}{m:As},(∀v,(x,v)∉binds)->bindL kindOf binds m x=m x
 | [],_,_=>rfl
 | (n,v)::r,m,h=>by
  unfold bindL;rw[Zo λw a=>h w (List.mem_cons_of_mem _ a)];split
  ·have:x≠n:=by rintro rfl;exact h v List.mem_cons_self
   simp[this]
  ·rfl
theorem Zr{kindOf:Str->Option NameKind}{x:Str}:∀{binds:List (Str×AJ)}{m:As},(∀v,(x,v)∉binds)->bindC kindOf binds m x=m x
 | [],_,_=>rfl
 | (n,v)::r,m,h=>by
  unfold bindC;rw[Zr λw a=>h w (List.mem_cons_of_mem _ a)];split
  ·rfl
  ·have:x≠n:=by rintro rfl;exact h v List.mem_cons_self
   simp[this]
theorem Zq{kindOf:Str->Option NameKind}{x:Str}{v:AJ}:∀{P:AH}{vs:AC}{i:Nat}{m:As},P.Nodup->P[i]? =some x->vs[i]? =some v->kindOf x=some .local->
  bindL kindOf (P.zip vs) m x=some v
 | [],_,_,_,_,h,_,_=>by simp at h
 | _::_,[],_,_,_,_,h,_=>by simp at h
 | p::P,w::vs,0,m,nd,h1,h2,hk=>by
  simp at h1 h2;subst h1;subst h2;show bindL kindOf ((p,w)::P.zip vs) m p=_;unfold bindL;rw[Zo λv hv=>(List.nodup_cons.mp nd).1 (List.of_mem_zip hv).1,if_pos hk];simp
 | p::P,w::vs,i+1,m,nd,h1,h2,hk=>by
  show bindL kindOf ((p,w)::P.zip vs) m x=_;unfold bindL;exact Zq (i:=i) (List.nodup_cons.mp nd).2 (by simpa using h1) (by simpa using h2) hk
theorem Zt{kindOf:Str->Option NameKind}{x:Str}{v:AJ}:∀{P:AH}{vs:AC}{i:Nat}{m:As},P.Nodup->P[i]? =some x->vs[i]? =some v->kindOf x≠some .local->
  bindC kindOf (P.zip vs) m x=some v
 | [],_,_,_,_,h,_,_=>by simp at h
 | _::_,[],_,_,_,_,h,_=>by simp at h
 | p::P,w::vs,0,m,nd,h1,h2,hk=>by
  simp at h1 h2;subst h1;subst h2;show bindC kindOf ((p,w)::P.zip vs) m p=_;unfold bindC;rw[Zr λv hv=>(List.nodup_cons.mp nd).1 (List.of_mem_zip hv).1,if_neg hk];simp
 | p::P,w::vs,i+1,m,nd,h1,h2,hk=>by
  show bindC kindOf ((p,w)::P.zip vs) m x=_;unfold bindC;exact Zt (i:=i) (List.nodup_cons.mp nd).2 (by simpa using h1) (by simpa using h2) hk
def start(N:AH)(vs:List V):St:=vs.map some++List.replicate (N.length - vs.length) none
def zV(CX:CXT)(P:AM)(w:AO)(K:aD)(mg:As)(base:Heap)(N:AH)(b:Str)(a:Scope)(f:AI)(d:AJ)(A:Around)(outer:List Env)(s:AK)(H:Hp)(E:XK):Cx where
 prog:=P
 w:=w
 K:=K
 mg:=mg
 base:=base
 A:=A.deeper (envOfC b a s.heap.objs.size f d)
 N:=N
 s₀:=s
 H₀:=H
 env:=envOfC b a s.heap.objs.size f d
 outer:=outer
 stack:=envOfC b a s.heap.objs.size f d::outer
 ex:=[]
 calm:=true
 fn:=λ_=>true
 pn:=[]
 xe:=λe s'=>wpAny (model P w) (A.deeper (envOfC b a s.heap.objs.size f d)) (leaving (envOfC b a s.heap.objs.size f d) e) (λ_ c=>CX outer H s E e c) (λg c=>CX outer H s E g c) s'
theorem Zfs{a:Scope}{n:Nat}{x:Str}(h:a.names.lookup x=some .cell):∃c,(cellsFrom n a.names []).lookup x=some c:=by
 have q:=W.cellsFrom_some a.names n [] (.inl h);exact Option.isSome_iff_exists.mp q
theorem YS{CX:CXT}{P:AM}{w:AO}{K:aD}{mg:As}{base:Heap}{N ps:AH}{g:Str}{d:Scope}{f:AI}{t:AJ}{A:Around}{outer:List Env}{s B:AK}{H:Hp}{E:XK}{us:AC}{vs:List V}
  (S:aM N ps d) (hd:A.handled=none) (j:Zd0 P w K mg base A outer s H) (hl:vs.length=ps.length) (r:Vals vs us)
  (x:InCallC s s.heap.objs.size (bindL (envOfC g d s.heap.objs.size f t).kindOf (ps.zip us) λ_=>none) (cellsFrom ah d.names []) (bindC (envOfC g d s.heap.objs.size f t).kindOf (ps.zip us) λ_=>none) B):
  Inv (zV CX P w K mg base N g d f t A outer s H E) [] (start N vs) H B:=by
 have C:ps.length<=N.length:=by have:=congrArg List.length S.pre;rw[List.length_take]at this;omega
 obtain⟨h1,tk,rfl,hk⟩:=x.done;have l:∀b:AI,b∉(zV CX P w K mg base N g d f t A outer s H E).ex:=λb z=>absurd (show b∈([]:AF)from z) ζ;refine⟨⟨j.mod,S.kind,rfl,rfl,Nat.le_refl _,λy z c h1 h2=>?_,λy hy=>?_,λy c _ h=>?_,λ_=>hd,Around.frames_deeper j.frames,.inr ⟨rfl,rfl⟩,λb z=>absurd z (l b),j.bs,j.bsz,λb _ _=>l b,λb z=>absurd z (l b),j.ue,j.frf⟩,
  rfl,j.bare,Un.kept hk,⟨_,x.toInCall.ns,λi y v h1 h2 F=>?_⟩,λy c h=>⟨_,x.cell y c h⟩,j.hok.fresh Γ,λy c h=>?_,λp hp=>absurd (show p∈([]:At)from hp) ζ,j.hok.kept hk,?_⟩
 ·exact name_of_addr x.apart (PySem.mem_of_lookup h1) (PySem.mem_of_lookup h2)
 ·have hy:d.names.lookup y=some .cell\/d.names.lookup y=some .free:=hy;rcases hy with hy | hy
  ·exact Zfs hy
  ·exact absurd rfl (S.Zvp _ (PySem.mem_of_lookup hy))
 ·exact Nat.le_of_lt (x.above y c (PySem.mem_of_lookup h))
 ·have o:i<vs.length:=by
   unfold start at h2
   by_cases o:i<vs.length
   ·exact o
   ·rw[List.getElem?_append_right (by simpa using o)]at h2;rw[List.getElem?_replicate]at h2;split at h2<;>cases h2
  have ha:vs[i]? =some v:=by
   unfold start at h2;rw[List.getElem?_append_left (by simpa using o),bV]at h2;cases e:vs[i]? with
   | none=>rw[e]at h2;cases h2
   | some a=>rw[e]at h2;cases h2;rfl
  obtain⟨u,hu,D⟩:=r.get ha;have hp:ps[i]? =some y:=by
   rw[<- S.pre,List.getElem?_take_of_lt δ];exact h1
  have m:ps.Nodup:=by rw[<- S.pre];exact S.nd.sublist (List.take_sublist _ _)
  refine⟨u,D,?_⟩;rcases S.par y (List.mem_of_getElem? hp)with k | k
  ·exact .inl ⟨k,Zq m hp hu k⟩
  ·obtain⟨c,e⟩:=Zfs (n:=s.heap.objs.size+1) k;refine .inr ⟨.inl k,c,e,?_⟩;have q:=x.cell y c e;rw[Zt m hp hu (by show d.names.lookup y≠_;rw[k];decide)]at q;exact q
 ·exact j.hok.fresh (Nat.le_of_lt (x.above y c (PySem.mem_of_lookup h)))
 ·unfold start;show _=N.length;rw[List.length_append,aX,List.length_replicate];omega
theorem Zq8{CX:CXT}{P:AM}{w:AO}{K:aD}{mg:As}{base:Heap}{k:Nat}{f:AI}{name c:Str}{g:Arguments}{h:List Stmt}{a:Scope}{dV kV p M d ct oc:AJ}{O od:Option AI}
  {F:Array AB}{N ps:AH}{sp:Sp} (lk:K.lookup f=some ⟨oc,od,.func (W.fnOf name c g h a dV kV p M O d ct),F⟩) (D:W.codeIn K d c=true) (S:aM N ps a)
  (len:∀vs H Q E,sp vs H Q E->vs.length=ps.length)
  (l:∀(A:Around) (outer:List Env) (s:AK) (H:Hp) (vs:List V) (Q:VK) (E:XK),Room k (A.deeper (envOfC c a s.heap.objs.size f d))->sp vs H Q E->
   ∃t,Qf (zV CX P w K mg base N c a f d A outer s H E) h t/\t { nx:=λ_ H'=>Q .non H',rt:=Q } (start N vs) H):
  pX P w K mg base CX dX f (W.fnOf name c g h a dV kV p M O d ct) ps sp:=by
 refine⟨len,λA outer s H T us vs Q E hr z hb r m=>?_⟩;have hl:=len _ _ _ _ m;have U:K.In s.heap:=z.mod.kin.keeps λb o e=>(z.bs b o e).1;have C:s.heap.NoLimit:=z.mod.nolimit.keeps λb o e=>(z.bs b o e).1;have j:∀y∈ps.zip us,a.names.lookup y.1=some .local\/(a.names.lookup y.1=some .cell/\((cellsFrom ah a.names []).lookup y.1).isSome=true):=λ⟨n,v⟩ hy=>by
  rcases S.par n (List.of_mem_zip hy).1 with q | q
  ·exact .inl q
  ·exact .inr ⟨q,W.cellsFrom_some _ _ _ (.inl q)⟩
 refine codeAny_call_function hr.depth (U _ _ lk) rfl S.co S.gen rfl (W.codeRec_of U D) (hb _ _ _ _ ?_);refine wpAny_newFunctionEnv_cells S.kind j λenv Y R x=>?_;subst Y;refine⟨C.keeps x.toInCall.keep,codeAny_func ?_⟩;obtain⟨t,X,hq⟩:=l A outer s H vs Q E (hr.deeper _) m;have I:Inv (zV CX P w K mg base N c a f d A outer s H E) [] (start N vs) H R:=YS S hr.hd z hl r x;refine wpAny_mono (X [] R (start N vs) H _ I hq) (λfl B hs=>?_) λe B hs=>hs;have fin:∀{i:St}{H':Hp}{v:V}{u:AJ},Inv (zV CX P w K mg base N c a f d A outer s H E) [] i H' B->RelV v u->Q v H'->CE outer P w H s Q u B:=
  λ{i H' v u} J L q=>⟨v,H',J.os,J.bare,J.base,J.hok,L,q⟩
 cases fl with
 | ret u=>
  obtain⟨v,i,H',J,L,q⟩:=hs;exact fin J L q
 | next=>
  obtain⟨i,H',J,q⟩:=hs;exact fin (v:=V.non) (u:=Value.none) J rfl q
 | brk=>
  obtain⟨_,_,_,q⟩:=hs;exact False.elim q
 | cont=>
  obtain⟨_,_,_,q⟩:=hs;exact False.elim q
section
variable {X:Cx}{x:Str}{p pos:Pos}{e:AN}{es:AG}{t:TA}{id T:String}{r:List V->Hp->VK->Prop}
def oU(r:List V->Hp->VK->Prop)(t:TA):TE:=λσ H Q=>t σ H λvs a=>r vs a Q
theorem bO(hc:Cp X (.builtin id) r)(g:Gl X x)(hm:X.mg x=none)(hv:bootBuiltins x=some (.builtin id))(ha:PA X (e::es) t)(hn:x≠"__name__":=by decide)(b:(x == ("__debug__":Str))=false:=by decide)
  (i:starEach (e::es) X.env=(false,eval e X.env)::starEach es X.env:=by rfl) (c:(backTo pos ec).any (·.1)=false:=by rfl):PE X (.Call (.Name x p) (e::es) [] pos) (oU r t):=by
 intro a s d H Q I h;refine wpAny_Call_Name_kw (SN I g hm hv ?_ hn b);exact PyProof.Rows.callWith_builtin1 (gw (ha pos a s d H _ I h) (by rintro us j ⟨f,H1,I1,r1,q1⟩;exact hc a j d H1 f us Q I1 r1 q1)) i c
theorem jP(hc:Cp X (.type T) r)(g:Gl X x)(hm:X.mg x=none)(hv:bootBuiltins x=some (.type T))(ha:PA X (e::es) t)(hn:x≠"__name__":=by decide)(b:(x == ("__debug__":Str))=false:=by decide)
  (i:starEach (e::es) X.env=(false,eval e X.env)::starEach es X.env:=by rfl) (c:(backTo pos ec).any (·.1)=false:=by rfl):PE X (.Call (.Name x p) (e::es) [] pos) (oU r t):=by
 intro a s d H Q I h;refine wpAny_Call_Name_kw (SN I g hm hv ?_ hn b);exact PyProof.Rows.callWith_type1 (gw (ha pos a s d H _ I h) (by rintro us j ⟨f,H1,I1,r1,q1⟩;exact hc a j d H1 f us Q I1 r1 q1)) i c
end
end L2
namespace HT
open PySem PyProof.Rows
section
open PySem.SeqAt
open PySem.AutoSeq1 (wpAny_loadPart')
open PySem.MeetsSeq PySem.MeetsSeq2 PySem.MeetsSeq3
end
section
variable {prog:AM}{w:AO}{A:Around}{E:Ap}{s:AK}
theorem Zto{t b:AI}{vs a:AC}{Q:Ap}(o:IsTup s.heap t vs.toArray)(hb:IsTup s.heap b a.toArray)(hv:vs≠[])
  (h1:a=[]->Q (.ref t) s) (h2:a≠[]->Q (.ref s.heap.objs.size) { s with heap:=s.heap.push { cls:=.type "tuple",data:=.seq (vs++a).toArray } })
  (hsz:vs.length+a.length<=sizeLine):wpAny Ω A (binaryOp .Add (.ref t) (.ref b)) Q E s:=by
 obtain⟨⟨m,dd,k,sl⟩,j,hc,n,hd⟩:=id o;obtain⟨⟨l,h,data2,g⟩,c,d,n2,f⟩:=id hb;simp only at hc hd d f;subst hc hd d f;have e:vs.toArray++a.toArray=(vs++a).toArray:=ζ
 by_cases i:a=[]
 ·exact concat_meets ⟨_,j,rfl⟩ ⟨_,c,rfl⟩ noFill_tuple_add seq_tuple_add PySem.F.slot_tuple_add PySem.F.entry_tuple_add (PySem.F.args_tuple_add_2 _ _)
   (tuple_addW1 t b vs.toArray a.toArray n n2 dd h sl g (by simpa using hv) (by simp[i])) ⟨j,c,h1 i⟩
 ·refine concat_meets ⟨_,j,rfl⟩ ⟨_,c,rfl⟩ noFill_tuple_add seq_tuple_add PySem.F.slot_tuple_add PySem.F.entry_tuple_add (PySem.F.args_tuple_add_2 _ _)
   (tuple_addW2 t b vs.toArray a.toArray n n2 dd h sl g (by simpa using hv) (by simpa using i) (by rw[List.size_toArray,List.size_toArray];exact hsz)) ⟨j,c,?_⟩
  rw[e];exact h2 i
def fX(n d:Nat):AA->Nat
 | none=>d
 | some v=>if v<0 then(v+(n:Int)).toNat else min v.toNat n
theorem Zdj(n d:Nat):fX n d none=d:=rfl
theorem Pu(n d k:Nat):fX n d (some (k:Int))=min k n:=by
 show(if (k:Int)<0 then((k:Int)+(n:Int)).toNat else min (k:Int).toNat n)=min k n;rw[if_neg δ,Int.toNat_natCast]
theorem xK(n d:Nat)(hd:d<=n)(o:AA):fX n d o<=n:=by
 cases o with
 | none=>exact hd
 | some v=>
  show(if v<0 then(v+(n:Int)).toNat else min v.toNat n)<=n
  by_cases hv:v<0
  ·rw[if_pos hv];omega
  ·rw[if_neg hv];exact Nat.min_le_right _ _
theorem Zko(v:Int)(n d:Nat):(if v<0 then max (v+(n:Int)) 0 else min v (n:Int))=((fX n d (some v):Nat):Int):=by
 show(if v<0 then max (v+(n:Int)) 0 else min v (n:Int))=(((if v<0 then(v+(n:Int)).toNat else min v.toNat n):Nat):Int)
 by_cases hv:v<0
 ·simp only[if_pos hv];omega
 ·simp only[if_neg hv];omega
theorem Zil(lo a:AA)(n:Nat):Builtin.Slice.sliceAdjust lo a 1 (n:Int)=(((fX n 0 lo:Nat):Int),((fX n n a:Nat):Int)):=by
 have h1:¬ ((1:Int)<0):=δ
 unfold Builtin.Slice.sliceAdjust;simp only[h1,if_false];refine Prod.ext ?_ ?_
 ·cases lo with
  | none=>rfl
  | some v=>exact Zko v n 0
 ·cases a with
  | none=>rfl
  | some v=>exact Zko v n n
theorem Zh7(i j:Nat):Builtin.Slice.slicePlaces (i:Int) (j:Int) 1=j - i:=by
 unfold Builtin.Slice.slicePlaces;have h1:(1:Int) > 0:=δ
 simp only[h1,if_true,Int.ediv_one];split<;>omega
theorem Qy{v:AJ}{o:AA}{Q:AA->AK->Prop}(p:IsPart v o)(h:Q o s):wpAny Ω A (Builtin.Slice.slicePartIndex v) Q E s:=by
 cases p with
 | none=>exact slicePart_none h
 | int i t=>exact slicePart_int h
theorem Jx{sl:AI}{d e:AJ}{lo b:AA}{n:Nat}{Q:Int×Int×Nat->AK->Prop}(hs:s.heap.IsSliceOf sl d e .none)(pl:IsPart d lo)(f:IsPart e b)
  (h:Q (((fX n 0 lo:Nat):Int),1,fX n n b - fX n 0 lo) s):wpAny Ω A (Builtin.Slice.sliceApplied (.ref sl) (pure (n:Int))) Q E s:=by
 obtain⟨os,a,g,c⟩:=id hs;unfold Builtin.Slice.sliceApplied Builtin.Slice.sliceFields;refine wpAny_bind (wpAny_bind (wpAny_field a c (x:=d) rfl (wpAny_bind (wpAny_field a c (x:=e) rfl (wpAny_bind (wpAny_field a c (x:=.none) rfl (wpAny_pure ?_)))))));refine wpAny_bind (slicePart_none ?_);show wpAny _ _ (if ((1:Int) == 0)=true then _ else _) _ _ s;rw[if_neg ε];refine wpAny_bind (Qy pl (wpAny_bind (Qy f (wpAny_bind (wpAny_pure ?_)))));show wpAny _ _ (match Builtin.Slice.sliceAdjust lo b 1 (n:Int)with | (lo,b)=>pure (lo,(1:Int),Builtin.Slice.slicePlaces lo b 1)) _ _ s;rw[Zil lo b n];show wpAny _ _ (pure (((fX n 0 lo:Nat):Int),(1:Int),Builtin.Slice.slicePlaces ((fX n 0 lo:Nat):Int) ((fX n n b:Nat):Int) 1)) _ _ s;rw[Zh7];exact wpAny_pure h
theorem Zo7(xs:Array AJ)(i k:Nat):((List.range k).filterMap λ(m:Nat)=>xs[((i:Int)+(m:Int) * 1).toNat]?).toArray=((xs.toList.drop i).take k).toArray:=by
 have e:(λ(m:Nat)=>xs[((i:Int)+(m:Int) * 1).toNat]?)=λm=>xs[i+m]? :=by
  funext m
  have:((i:Int)+(m:Int) * 1).toNat=i+m:=δ
  rw[this]
 rw[e];have:=pick_run xs i k;rw[List.filterMap_map]at this;have a:((λx=>xs[x]?) ∘ λx=>i+x)=λm=>xs[i+m]? :=rfl;rw[a]at this;rw[this]
theorem HH{t sl:AI}{a:Array AJ}{j k:AJ}{lo b:AA}{Q:Ap}(d:IsTup s.heap t a)(hs:s.heap.IsSliceOf sl j k .none)(pl:IsPart j lo)(o:IsPart k b)
  (l:¬ (fX a.size 0 lo=0/\fX a.size a.size b=a.size))
  (h:Q (.ref s.heap.objs.size) { s with heap:=s.heap.push { cls:=.type "tuple",data:=.seq ((a.toList.drop (fX a.size 0 lo)).take (fX a.size a.size b - fX a.size 0 lo)).toArray } })
  (hsz:a.size<=sizeLine):wpAny Ω A (getItem (.ref t) (.ref sl)) Q E s:=by
 have c:sizeOk (.seq ((a.toList.drop (fX a.size 0 lo)).take (fX a.size a.size b - fX a.size 0 lo)).toArray):=by
  show((a.toList.drop (fX a.size 0 lo)).take (fX a.size a.size b - fX a.size 0 lo)).toArray.size<=sizeLine;rw[List.size_toArray,List.length_take,List.length_drop,Array.length_toList];omega
 have p:fX a.size a.size b<=a.size:=xK _ _ Γ b;obtain⟨os,i,e,n⟩:=id hs;have g:s.TypeIs (.ref sl) "slice":=⟨os,i,e⟩;unfold getItem
 try with_reducible refine wpAny_holding ?_
 first | refine wpAny_bind (wpAny_pure ?_) | skip
 refine wpAny_bind (wpAny_sequenceKey d.typeIs ε ?_);refine wpAny_bind (wpAny_callSpecial?_slot (name:=Str.ofString "__getitem__") d.typeIs PyProof.Rows.slot_tuple_getitem
  (wpAny_call_entry PyProof.Rows.slot_tuple_getitem d.typeIs entry_tuple_getitem ?_ (args_tuple_getitem _ _)))
 show wpAny _ _ (Builtin.Tuple.tupleItemsOf (.ref t) >>= _) _ _ s;refine wpAny_bind (tupleItemsOf_ d ?_);refine wpAny_bind (wpAny_typeOf g ?_);rw[if_pos ε];refine wpAny_bind (Jx hs pl o ?_);have f:¬ ((((fX a.size 0 lo:Nat):Int) == 0 && (1:Int) == 1 && (fX a.size a.size b - fX a.size 0 lo) == a.size)=true):=by
  intro q;rw[Bool.and_eq_true,Bool.and_eq_true]at q;have u:((fX a.size 0 lo:Nat):Int)=0:=eq_of_beq q.1.1;have r:fX a.size a.size b - fX a.size 0 lo=a.size:=eq_of_beq q.2;exact l ⟨δ,δ⟩
 show wpAny _ _ (if (((fX a.size 0 lo:Nat):Int) == 0 && (1:Int) == 1 && (fX a.size a.size b - fX a.size 0 lo) == a.size)=true then _ else _) _ _ s;rw[if_neg f,Zo7]
 first
  | exact wpAny_bind (m:=Builtin.Tuple.tupleExact _) (wpAny_newObj_type (wpAny_pure ⟨_,rfl,wpAny_pure h⟩) c)
  | exact wpAny_bind (m:=Builtin.Tuple.tupleExact _) (wpAny_newObj_type (wpAny_bind (wpAny_pure (wpAny_pure ⟨_,rfl,wpAny_pure h⟩))) c)
  | exact wpAny_bind (wpAny_bind (m:=Builtin.Tuple.tupleExact _) (wpAny_newObj_type (wpAny_pure (wpAny_pure ⟨_,rfl,wpAny_pure h⟩)) c))
  | exact wpAny_bind (wpAny_bind (m:=Builtin.Tuple.tupleExact _) (wpAny_newObj_type (wpAny_pure ⟨_,rfl,wpAny_pure h⟩) c))
end
end HT
namespace L2
open PySem PySem.Spec PyProof.Rows
abbrev TO:=St->Hp->(AA->Hp->Prop)->Prop
def PO(X:Cx)(e:Option AN)(t:TO):Prop:=
 ∀(pins:At) (s:AK) (σ:St) (H:Hp) (Q:AA->Hp->Prop),Inv X pins σ H s->t σ H Q->
  wpAny υ X.A (evalPart e X.env) (λu s'=>∃o H',Inv X pins σ H' s'/\IsPart u o/\Q o H') X.xe s
def pZ:TO:=λ_ H Q=>Q none H
def vB(t:TE):TO:=λσ H Q=>t σ H λx a=>∃i,x=.int i/\Q (some i) a
section
variable {X:Cx}{e:AN}{te:TE}{lo hi:Option AN}{tl th:TO}{pos p2:Pos}
theorem zE:PO X none pZ:=by
 intro a s b H Q I h;rw[evalPart_none];exact wpAny_pure ⟨none,H,I,.none,h⟩
theorem mj(h:PE X e te):PO X (some e) (vB te):=by
 intro a s c H Q I b;rw[evalPart_some];refine gw (h a s c H _ I b) λu d qc=>?_;obtain⟨x,H1,I1,r1,q1⟩:=qc;obtain⟨i,rfl,q⟩:=q1;obtain⟨t,rfl⟩:=r1;exact⟨some i,H1,I1,.int i t,q⟩
def SlR(X:Cx)(r:V->AA->AA->Hp->VK->Prop):Prop:=
 ∀(pins:At) (s:AK) (σ:St) (H:Hp) (x:V) (v a b:AJ) (lo hi:AA) (sl:AI) (Q:VK),Inv X pins σ H s->RelV x v->s.heap.IsSliceOf sl a b .none->IsPart a lo->IsPart b hi->r x lo hi H Q->
  ∃T id,typeLookup (.type T) "__getitem__"=pure (some (.builtin id))/\s.TypeIs v T/\wpAny υ X.A (getItem v (.ref sl)) dv X.xe s
def tSl(r:V->AA->AA->Hp->VK->Prop)(te:TE)(tl th:TO):TE:=λσ H Q=>te σ H λx a=>tl σ a λl b=>th σ b λu c=>r x l u c Q
theorem mJ{r:V->AA->AA->Hp->VK->Prop}(hr:SlR X r)(m:PE X e te)(hl:PO X lo tl)(hu:PO X hi th):PE X (.Subscript e (.Slice lo hi none p2) pos) (tSl r te tl th):=by
 intro a s d H Q I h;refine Subscript_ (gw (m a s d H _ I h) λv p qc=>?_);obtain⟨x,H1,I1,r1,q1⟩:=qc;refine wpAny_Slice (gw (hl a p d H1 _ I1 q1) λf i ⟨l,H2,I2,pl,q2⟩=>gw (hu a i d H2 _ I2 q2) λg c qc=>?_);obtain⟨u,H3,I3,pu,q3⟩:=qc;rw[evalPart_none];refine wpAny_pure ?_;have k:Inv X a d H3 { c with heap:=c.heap.push { cls:=.type "slice",data:=.fields #[f,g,.none] } }:=I3.kept (t':=c.toks) λb ob q=>Heap.get?_push_of_some _ q;obtain⟨T,id,n,o,j⟩:=hr a { c with heap:=c.heap.push { cls:=.type "slice",data:=.fields #[f,g,.none] } } d H3 x v f g l u c.heap.objs.size Q k r1 (Heap.IsSliceOf.new ..) pl pu q3;show wpAny υ X.A (subscriptTail e (.Slice lo hi none p2) v (.ref c.heap.objs.size)) (EP X a d Q) X.xe { c with heap:=c.heap.push { cls:=.type "slice",data:=.fields #[f,g,.none] } };exact tail_any (ops:=[.ref c.heap.objs.size,v]) o n j (by with_unfolding_all rfl)
def IV(xs:List V)(lo hi:AA):List V:=(xs.drop (HT.fX xs.length 0 lo)).take (HT.fX xs.length xs.length hi - HT.fX xs.length 0 lo)
theorem Nz(xs:List V)(lo hi:AA):(IV xs lo hi).length<=xs.length:=by
 unfold IV;rw[List.length_take,List.length_drop];omega
def Zxx(K:aD):V->AA->AA->Hp->VK->Prop:=λx lo hi H Q=>∃a xs,x=.ref a/\dU K H a xs/\
 ¬ (HT.fX xs.length 0 lo=0/\HT.fX xs.length xs.length hi=xs.length)/\∀p,H p=none->Q (.ref p) (upd H p (.tup (IV xs lo hi)))
theorem Zva:SlR X (Zxx X.K):=by
 intro f s p H x v m n lo hi sl Q I j hs k l h;obtain⟨a,d,rfl,hx,i,q⟩:=h;cases j;obtain⟨e,r,g,hz⟩:=I.tuple hx;have c:e.toArray.size=d.length:=by rw[List.size_toArray];exact r.length.symm
 refine⟨"tuple",_,PyProof.Rows.slot_tuple_getitem.lookup,g.typeIs,?_⟩;refine HT.HH g hs k l (by rw[c];exact i) ?_ (by rw[c];exact hz);rw[c];refine⟨.ref s.heap.objs.size,_,I.laid (t':=s.toks) (o:=.tup (IV d lo hi)) (λb ob q=>Heap.get?_push_of_some _ q) Γ ?_,rfl,q _ (I.hok.fresh Γ)⟩;exact⟨Nat.le_trans (Nz d lo hi) hz,_,(r.drop (HT.fX d.length 0 lo)).take (HT.fX d.length d.length hi - HT.fX d.length 0 lo),IsTup.new _ _⟩
def Zua(K:aD):R2:=λx y H Q=>∃a b xs c,x=.ref a/\y=.ref b/\dU K H a xs/\dU K H b c/\xs≠[]/\xs.length+c.length<=sizeLine/\
 (c=[]->Q (.ref a) H)/\(c≠[]->∀p,H p=none->Q (.ref p) (upd H p (.tup (xs++c))))
theorem Vals.Zaq{xs:List V}{us:AC}(r:Vals xs us):us=[]↔xs=[]:=by
 cases r with
 | nil=>simp
 | cons _ _=>simp
theorem Zsa:uz X (binaryOp .Add) (Zua X.K):=by
 intro f s r H x y v u Q I g l h;obtain⟨a,b,i,n,rfl,rfl,ha,hb,hx,hz,p,k⟩:=h;cases g;cases l;obtain⟨j,d,m,_⟩:=I.tuple ha;obtain⟨e,c,p2,_⟩:=I.tuple hb;refine HT.Zto m p2 (λz=>hx (d.Zaq.mp z)) (λz=>⟨.ref a,H,I,rfl,p (c.Zaq.mp z)⟩) ci (by rw[<- d.length,<- c.length];exact hz);refine⟨.ref s.heap.objs.size,_,I.laid (t':=s.toks) (o:=.tup (i++n)) (λb ob q=>Heap.get?_push_of_some _ q) Γ ?_,rfl,k (λw=>z (c.Zaq.mpr w)) _ (I.hok.fresh Γ)⟩;exact⟨by rw[List.length_append];exact hz,_,d.append c,IsTup.new _ _⟩
end
def ixN(n:Nat)(i:Int):Option Nat:=if 0<=i then(if i<n then some i.toNat else none)else if -(n:Int)<=i then some (i+n).toNat else none
def atI{a:Type}(xs:List a)(i:Int):Option a:=(ixN xs.length i).bind λj=>xs[j]?
theorem Zk3{n:Nat}{i:Int}{j:Nat}(h:ixN n i=some j):seqIndex? i n=some j/\j<n/\-(n:Int)<=i/\i<n:=by
 unfold ixN at h
 by_cases h0:0<=i
 ·rw[if_pos h0]at h
  by_cases h1:i<n
  ·rw[if_pos h1]at h;have e:i.toNat=j:=Option.some.inj h;exact⟨by rw[seqIndex_of h0 h1,e],δ,δ,h1⟩
  ·rw[if_neg h1]at h;cases h
 ·rw[if_neg h0]at h
  by_cases h1:-(n:Int)<=i
  ·rw[if_pos h1]at h;have e:(i+n).toNat=j:=Option.some.inj h;exact⟨by rw[seqIndex_neg δ h1,e],δ,h1,δ⟩
  ·rw[if_neg h1]at h;cases h
theorem Zcc{a:Type}{xs:List a}{i:Int}{v:a}(h:atI xs i=some v):∃j,seqIndex? i xs.length=some j/\xs[j]? =some v/\j<xs.length/\-(xs.length:Int)<=i/\i<xs.length:=by
 unfold atI at h;cases e:ixN xs.length i with
 | none=>rw[e]at h;cases h
 | some j=>
  rw[e]at h;obtain⟨h1,h2,c,b⟩:=Zk3 e;exact⟨j,h1,h,h2,c,b⟩
theorem fW{a:Type}{xs:List a}{j:Nat}{v:a}(h:xs[j]? =some v):atI xs (j:Int)=some v:=by
 have b:j<xs.length:=(cL h).1;have e:ixN xs.length (j:Int)=some j:=by
  unfold ixN;rw[if_pos δ,if_pos δ];simp
 unfold atI;rw[e];exact h
theorem Zr1{a:Type}(xs:List a)(v:a):atI (xs++[v]) (-1)=some v:=by
 have hl:(xs++[v]).length=xs.length+1:=ζ
 have e:ixN (xs++[v]).length (-1)=some xs.length:=by
  unfold ixN;rw[hl,if_neg ε,if_pos δ];congr 1;omega
 unfold atI;rw[e];show(xs++[v])[xs.length]? =some v;simp
def Zcv(b:AN):Prop:=∀o i,subscripted b false o i=operate [o,i] (getItem o i)
def IxR(X:Cx)(r:R2):Prop:=
 ∀(b a:AN) (pins:At) (s:AK) (σ:St) (H:Hp) (x y:V) (v u:AJ) (Q:VK),Inv X pins σ H s->RelV x v->RelV y u->r x y H Q->
  subscripted a false v u=operate [v,u] (getItem v u)->wpAny υ X.A (subscriptTail b a v u) dv X.xe s
def MtR(X:Cx)(id:String)(r:V->List V->Hp->VK->Prop):Prop:=
 ∀(pins:At) (s:AK) (σ:St) (H:Hp) (x:V) (xs:List V) (v:AJ) (us:AC) (Q:VK),Inv X pins σ H s->RelV x v->Vals xs us->r x xs H Q->
  wpAny υ X.A (call (.builtin id) (v::us)) dv X.xe s
section
variable {X:Cx}{a b:AN}{ta tb:TE}{pos:Pos}
theorem Zuf{r:R2}(hr:IxR X r)(ha:PE X a ta)(hb:PE X b tb)(hs:Zcv b):PE X (.Subscript a b pos) (bu r ta tb):=by
 intro c s i H Q I h;exact Subscript_ (Zxd ha hb I h λv u d x y f j e g q=>hr a b c d i f x y v u Q j e g q (hs _ _))
def jf(K:aD):R2:=λx y H Q=>∃p xs i v,x=.ref p/\y=.int i/\cA K H p xs/\atI xs i=some v/\Q v H
def fM(K:aD):R2:=λx y H Q=>∃p xs i v,x=.ref p/\y=.int i/\dU K H p xs/\atI xs i=some v/\Q v H
def Zo0:R2:=λx y H Q=>∃z i c,x=.str z/\y=.int i/\z.length<=sizeLine/\atI z.cps.toList i=some c/\Q (.str ⟨#[c]⟩) H
theorem cV:IxR X (jf X.K):=by
 intro d c a s l H x y v u Q I m A h hs;obtain⟨p,D,i,z,rfl,rfl,hq,o,q⟩:=h;cases m;obtain⟨t,rfl⟩:=A;obtain⟨g,r,f,hz⟩:=I.list hq;obtain⟨j,h1,h2,E,C,n⟩:=Zcc o;obtain⟨w,k,e⟩:=r.get h2;have hl:=r.length;have hn:=JQ;have fin:EP X a l Q w s:=⟨z,H,I,e,q⟩
 by_cases h0:0<=i
 ·have b:i.toNat=j:=by
   rw[seqIndex_of h0 n]at h1;exact Option.some.inj h1
  exact item_listR f.isList h0 δ (by rw[b];simpa using k) fin hs
 ·have b:(i+(g.toArray.size:Int)).toNat=j:=by
   rw[seqIndex_neg δ C]at h1;rw[List.size_toArray,<- hl];exact Option.some.inj h1
  exact subscriptTail_builtinR (x:=w) f.isList.typeIs slot_list_getitem.lookup
   (wpAny_getItem_list_neg (Q:=λr B=>r=w/\EP X a l Q r B) f.isList δ (by rw[List.size_toArray]<;>omega) δ (by rw[b];simpa using k) ⟨rfl,fin⟩) hs
theorem cg:IxR X (fM X.K):=by
 intro c b a s f H x y v u Q I g n h hs;obtain⟨p,B,i,z,rfl,rfl,hq,k,q⟩:=h;cases g;obtain⟨t,rfl⟩:=n;obtain⟨l,r,e,hz⟩:=I.tuple hq;obtain⟨j,h1,h2,D,C,A⟩:=Zcc k;obtain⟨w,m,d⟩:=r.get h2;have hl:=r.length;have hn:=JQ;have fin:EP X a f Q w s:=⟨z,H,I,d,q⟩;exact subscriptTail_builtinR (x:=w) e.typeIs slot_tuple_getitem.lookup
  (getItem_tuple (j:=j) (Q:=λr o=>r=w/\EP X a f Q r o) e δ δ (by rw[List.size_toArray,<- hl];exact h1) (by simpa using m) ⟨rfl,fin⟩) hs
theorem Zpl:IxR X Zo0:=by
 intro b a d s p H x y v u Q I f m h hs;obtain⟨z,i,c,rfl,rfl,hz,l,q⟩:=h;obtain⟨t,rfl⟩:=f;obtain⟨o,rfl⟩:=m;obtain⟨j,h1,h2,r,n,k⟩:=Zcc l;have hl:z.cps.toList.length=z.length:=by simp[Str.length]
 rw[hl]at h1 n k;have hn:=JQ;exact tail_any (typeIs_str s z t) slot_str_getitem.lookup (getItem_str (c:=c) (by
  have e:decide (i < -(2 ^ 63:Int))=false:=decide_eq_false δ;have g:decide (i≥2 ^ 63)=false:=decide_eq_false δ;rw[e,g,Bool.or_false]) (by rw[h1];simpa using h2) ⟨.str ⟨#[c]⟩,H,I.tok _,⟨_,rfl⟩,q⟩) hs
theorem Zhi(a:AC)(n j:Nat)(u:AJ):Obj.mapSeq (·.setIfInBounds j u) { cls:=.type "list",data:=.seq a.toArray n }={ cls:=.type "list",data:=.seq (a.set j u).toArray n }:=by
 simp[Obj.mapSeq]
theorem Inv.lst{pins:At}{σ:St}{H:Hp}{s:AK}{p:AI}{xs:List V}(I:Inv X pins σ H s)(h:H p=some (.lst xs)):
  ∃(a:AC) (n:Nat),Vals xs a/\s.heap.get? p=some { cls:=.type "list",data:=.seq a.toArray n }/\xs.length<=sizeLine:=by
 obtain⟨z,a,n,r,e⟩:=I.hok p _ h;exact⟨a,n,r,e,z⟩
theorem Inv.Zvy{pins:At}{σ:St}{H:Hp}{s:AK}{p:AI}{xs d:List V}{a its':AC}{n c:Nat}{f:Obj->Obj}(I:Inv X pins σ H s)(h:H p=some (.lst xs))
  (i:s.heap.get? p=some { cls:=.type "list",data:=.seq a.toArray n }) (g:f { cls:=.type "list",data:=.seq a.toArray n }={ cls:=.type "list",data:=.seq its'.toArray c }) (r:Vals d its') (hz:d.length<=sizeLine) (t:Nat):
  Inv X pins σ (upd H p (.lst d)) { s with heap:=s.heap.update p f,toks:=t }:=by
 have e:(s.heap.update p f).get? p=some { cls:=.type "list",data:=.seq its'.toArray c }:=by
  rw[Heap.get?_update_self f i (by rw[g]<;>rfl),g]
 refine I.write (x:=p) (e:=p) (by rw[h];trivial) (.inl rfl) (λb u hb q=>(Heap.get?_update_other _ _ (Ne.symm hb)).trans q) ⟨_,e⟩ ?_;exact⟨hz,its',c,r,e⟩
def Be:V->V->V->Hp->(Hp->Prop)->Prop:=λo i v H Q=>∃p xs k j,o=.ref p/\i=.int k/\H p=some (.lst xs)/\ixN xs.length k=some j/\Q (upd H p (.lst (xs.set j v)))
theorem set_list:Zzm X Be:=by
 intro a s w H o i v z iv u Q I x g y h;obtain⟨p,m,k,j,rfl,rfl,hp,l,q⟩:=h;cases x;obtain⟨t,rfl⟩:=g;obtain⟨b,n,r,c,hz⟩:=I.lst hp;obtain⟨h1,h2,f,e⟩:=Zk3 l;have hl:=r.length;have hn:=JQ;have d:Inv X a w (upd H p (.lst (m.set j v))) { s with heap:=s.heap.update p (Obj.mapSeq (·.setIfInBounds j u)) }:=
  I.Zvy hp c (Zhi b n j u) (r.set y j) (by rw[List.length_set];exact hz) s.toks
 by_cases h0:0<=k
 ·have hk:k.toNat=j:=by
   rw[seqIndex_of h0 e]at h1;exact Option.some.inj h1
  exact W.ki_setAt c h0 δ (by rw[List.size_toArray,<- hl];exact e) (by rw[hk];exact⟨_,d,q⟩)
 ·have hk:(k+(b.toArray.size:Int)).toNat=j:=by
   rw[seqIndex_neg δ f]at h1;rw[List.size_toArray,<- hl];exact Option.some.inj h1
  exact W.ki_setBack c δ (by rw[List.size_toArray,<- hl];exact f) δ (by rw[hk];exact⟨_,d,q⟩)
theorem Za0(lo a:AA)(n:Nat):(sliceBounds lo a none n).1=((HT.fX n 0 lo:Nat):Int)/\(sliceBounds lo a none n).2.1=((HT.fX n n a:Nat):Int)/\(sliceBounds lo a none n).2.2=1:=by
 refine⟨?_,?_,rfl⟩
 ·cases lo with
  | none=>simp[sliceBounds,HT.fX]
  | some i=>
   simp only[sliceBounds,HT.fX,Option.getD_none,show(1:Int) > 0 by decide,if_true]
   by_cases h:i<0
   ·simp only[h,if_true]<;>omega
   ·simp only[h,if_false]<;>omega
 ·cases a with
  | none=>simp[sliceBounds,HT.fX]
  | some i=>
   simp only[sliceBounds,HT.fX,Option.getD_none,show(1:Int) > 0 by decide,if_true]
   by_cases h:i<0
   ·simp only[h,if_true]<;>omega
   ·simp only[h,if_false]<;>omega
theorem Vw(a:AC)(lo b:AA):slicePick a.toArray lo b none=((a.drop (HT.fX a.length 0 lo)).take (HT.fX a.length a.length b - HT.fX a.length 0 lo)).toArray:=by
 obtain⟨h1,h2,c⟩:=Za0 lo b a.toArray.size;unfold slicePick;rw[h1,h2,c];simp only[sliceRange_one,pick_run,List.size_toArray]<;>rfl
def Zrt(K:aD):V->AA->AA->Hp->VK->Prop:=λx lo b H Q=>∃a xs,x=.ref a/\cA K H a xs/\∀p,H p=none->Q (.ref p) (upd H p (.lst (IV xs lo b)))
theorem Za2:SlR X (Zrt X.K):=by
 intro f s p H x v m n lo e sl Q I i hs j l h;obtain⟨a,c,rfl,hx,q⟩:=h;cases i;obtain⟨k,r,g,hz⟩:=I.list hx;have d:=r.length;refine⟨"list",_,slot_list_getitem.lookup,g.isList.typeIs,?_⟩;refine wpAny_getItem_list_slice g.isList hs j l .none ζ ?_ (by rw[List.size_toArray]<;>omega);rw[Vw,<- d];refine⟨.ref s.heap.objs.size,_,I.laid (t':=s.toks) (o:=.lst (IV c lo e)) (λb ob q=>Heap.get?_push_of_some _ q) Γ ?_,rfl,q _ (I.hok.fresh Γ)⟩;exact⟨Nat.le_trans (Nz c lo e) hz,_,0,(r.drop (HT.fX c.length 0 lo)).take (HT.fX c.length c.length e - HT.fX c.length 0 lo),Heap.get?_push_size _ rfl⟩
def lB:V->Bool
 | .non=>true
 | .bl _=>true
 | .int _=>true
 | .str _=>true
 | _=>false
def eqV:V->V->Bool
 | .non,.non=>true
 | .bl a,.bl b=>a == b
 | .bl a,.int b=>(if a then 1 else 0) == b
 | .int a,.bl b=>a == (if b then 1 else 0)
 | .int a,.int b=>a == b
 | .str a,.str b=>a == b
 | _,_=>false
theorem uW{A:Around}{s:AK}{y x:V}{u v:AJ}(f:RelV y u)(c:RelV x v)(g:lB y=true)(e:lB x=true):SeqAt.EqAt A s u v (eqV y x):=by
 cases y with
 | non=>
  cases f;cases x with
  | non=>cases c;exact SeqAt.EqAt.same _
  | bl b=>cases c;exact SeqAt.EqAt.none_bool b
  | int b=>obtain⟨t,rfl⟩:=c;exact SeqAt.EqAt.none_int b t
  | str b=>obtain⟨t,rfl⟩:=c;exact SeqAt.EqAt.none_str b t
  | _=>exact absurd (show false=true from e) Bool.false_ne_true
 | bl a=>
  cases f;cases x with
  | non=>cases c;exact SeqAt.EqAt.bool_none a
  | bl b=>cases c;exact SeqAt.EqAt.bool_bool a b
  | int b=>obtain⟨t,rfl⟩:=c;exact SeqAt.EqAt.bool_int a b t
  | str b=>obtain⟨t,rfl⟩:=c;exact SeqAt.EqAt.bool_str a b t
  | _=>exact absurd (show false=true from e) Bool.false_ne_true
 | int a=>
  obtain⟨d,rfl⟩:=f;cases x with
  | non=>cases c;exact SeqAt.EqAt.int_none a d
  | bl b=>cases c;exact SeqAt.EqAt.int_bool a d b
  | int b=>obtain⟨t,rfl⟩:=c;exact SeqAt.EqAt.int_int a d b t
  | str b=>obtain⟨t,rfl⟩:=c;exact SeqAt.EqAt.int_str a d b t
  | _=>exact absurd (show false=true from e) Bool.false_ne_true
 | str a=>
  obtain⟨d,rfl⟩:=f;cases x with
  | non=>cases c;exact SeqAt.EqAt.str_none a d
  | bl b=>cases c;exact SeqAt.EqAt.str_bool a d b
  | int b=>obtain⟨t,rfl⟩:=c;exact SeqAt.EqAt.str_int a d b t
  | str b=>obtain⟨t,rfl⟩:=c;exact SeqAt.EqAt.str_str a d b t
  | _=>exact absurd (show false=true from e) Bool.false_ne_true
 | _=>exact absurd (show false=true from g) Bool.false_ne_true
def eqU(x:V)(u:AJ):Bool:=match u with
 | .none=>eqV .non x
 | .bool b=>eqV (.bl b) x
 | .int i _=>eqV (.int i) x
 | .str z _=>eqV (.str z) x
 | _=>false
theorem Zqh{x y:V}{u:AJ}(r:RelV y u)(f:lB y=true):eqU x u=eqV y x:=by
 cases y with
 | non=>cases r;rfl
 | bl b=>cases r;rfl
 | int i=>obtain⟨t,rfl⟩:=r;rfl
 | str z=>obtain⟨t,rfl⟩:=r;rfl
 | _=>exact absurd (show false=true from f) Bool.false_ne_true
theorem Je{x:V}:∀{xs:List V}{us:AC},Vals xs us->xs.all lB=true->us.any (eqU x)=xs.any λy=>eqV y x
 | _,_,.nil,_=>rfl
 | y::xs,u::us,.cons r t,f=>by
  rw[List.all_cons,Bool.and_eq_true]at f;rw[List.any_cons,List.any_cons,Zqh r f.1,Je t f.2]
theorem yo{A:Around}{s:AK}{x:V}{v:AJ}(a:RelV x v)(b:lB x=true):∀{xs:List V}{us:AC},Vals xs us->xs.all lB=true->∀u∈us,SeqAt.EqAt A s u v (eqU x u)
 | _,_,.nil,_=>λu hu=>by cases hu
 | y::xs,u::us,.cons r t,f=>λc hu=>by
  rw[List.all_cons,Bool.and_eq_true]at f;rcases List.mem_cons.mp hu with rfl | hu
  ·rw[Zqh r f.1];exact uW r a f.1 b
  ·exact yo a b t f.2 c hu
def inV(x:V)(xs:List V):Bool:=xs.any λy=>eqV y x
def rIn(K:aD)(a:Bool):R2:=λx y H Q=>∃p xs,y=.ref p/\(cA K H p xs\/dU K H p xs)/\lB x=true/\xs.all lB=true/\Q (.bl (if a then !inV x xs else inV x xs)) H
theorem JD:uz X (compareOp .In) (rIn X.K false):=by
 intro e s j H x y v u Q I d g h;obtain⟨p,i,rfl,hq,f,fs,q⟩:=h;cases g;rcases hq with hq | hq
 ·obtain⟨a,r,c,hz⟩:=I.list hq;refine SeqAt.in_listAt (eqU x) c.isList (λw b=>yo d f r fs w (by simpa using b)) ⟨.bl _,H,I,rfl,?_⟩;rw[show a.toArray.any (eqU x)=a.any (eqU x) by simp,Je r fs];exact q
 ·obtain⟨a,r,c,hz⟩:=I.tuple hq;refine SeqAt.in_tupleAt (eqU x) c (λw b=>yo d f r fs w (by simpa using b)) ⟨.bl _,H,I,rfl,?_⟩;rw[show a.toArray.any (eqU x)=a.any (eqU x) by simp,Je r fs];exact q
theorem Zae:uz X (compareOp .NotIn) (rIn X.K true):=by
 intro e s j H x y v u Q I d g h;obtain⟨p,i,rfl,hq,f,fs,q⟩:=h;cases g;rcases hq with hq | hq
 ·obtain⟨a,r,c,hz⟩:=I.list hq;refine SeqAt.notIn_listAt (eqU x) c.isList (λw b=>yo d f r fs w (by simpa using b)) ⟨.bl _,H,I,rfl,?_⟩;rw[show a.toArray.any (eqU x)=a.any (eqU x) by simp,Je r fs];exact q
 ·obtain⟨a,r,c,hz⟩:=I.tuple hq;refine SeqAt.notIn_tupleAt (eqU x) c (λw b=>yo d f r fs w (by simpa using b)) ⟨.bl _,H,I,rfl,?_⟩;rw[show a.toArray.any (eqU x)=a.any (eqU x) by simp,Je r fs];exact q
theorem Zc7:Cp X (.builtin "len") (λxs H Q=>∃p b,xs=[.ref p]/\(cA X.K H p b\/dU X.K H p b)/\Q (.int b.length) H):=by
 intro f s i H xs us Q I r h;obtain⟨p,b,rfl,hq,q⟩:=h;obtain⟨u,rfl,g⟩:=vals1 r;cases g;have hn:=JQ;rcases hq with hq | hq
 ·obtain⟨e,c,d,hz⟩:=I.list hq;have a:=c.length;exact Calls.call_len_list d.isList (by simp only[List.size_toArray]<;>omega) ⟨.int b.length,H,I.tok _,⟨s.toks+1,by rw[List.size_toArray,a]⟩,q⟩
 ·obtain⟨e,c,d,hz⟩:=I.tuple hq;have a:=c.length;exact len_tuple d (by simp only[List.size_toArray]<;>omega) ⟨.int b.length,H,I.tok _,⟨s.toks+1,by rw[List.size_toArray,a]⟩,q⟩
theorem Jb:Cp X (.type "list") (λxs H Q=>∃p g,xs=[.ref p]/\(cA X.K H p g\/dU X.K H p g)/\∀l,H l=none->Q (.ref l) (upd H l (.lst g))):=by
 intro i s x H xs us Q I r h;obtain⟨p,g,rfl,hq,q⟩:=h;obtain⟨u,rfl,v⟩:=vals1 r;cases v;have fin:∀(a:AC),Vals g a->g.length<=sizeLine->∀(c:Heap) (f:Nat),(∀b t,s.heap.get? b=some t->c.get? b=some t)->
   c.get? s.heap.objs.size=some { cls:=.type "list",dict:=none,data:=.seq a.toArray f,slots:=#[] }->EP X i x Q (.ref s.heap.objs.size) { s with heap:=c }:=λa d hz c f kp e=>
  ⟨.ref s.heap.objs.size,_,I.laid (t':=s.toks) kp Γ (show fZ X.prog X.w _ c _ (.lst g)from⟨hz,a,f,d,e⟩),rfl,q _ (I.hok.fresh Γ)⟩
 rcases hq with hq | hq
 ·obtain⟨a,d,k,hz⟩:=I.list hq;have j:=d.length;obtain⟨o,m,hc,n,hd⟩:=k.isList;exact call_list_seq p (.inl rfl) m hc hd (λc f kp e=>fin a d hz c f kp e) (by simp only[List.size_toArray]<;>omega)
 ·obtain⟨a,d,k,hz⟩:=I.tuple hq;have j:=d.length;obtain⟨o,m,hc,n,hd⟩:=k;exact call_list_seq p (.inr rfl) m hc hd (λc f kp e=>fin a d hz c f kp e) (by simp only[List.size_toArray]<;>omega)
def tyV(K:aD)(T:String)(x:V)(H:Hp):Prop:=match x with
 | .str _=>T="str"
 | .int _=>T="int"
 | .ref p=>(T="list"/\∃xs,cA K H p xs)\/(T="tuple"/\∃o,K.lookup p=some o/\o.cls=.type "tuple"/\o.dict=none)\/
   (T="dict"/\((∃a,H p=some (.dK a))\/∃a,H p=some (.dT a)))\/(T="set"/\∃S n,H p=some (.set S n))
 | _=>False
theorem Zv4{pins:At}{σ:St}{H:Hp}{s:AK}{T:String}{x:V}{v:AJ}(I:Inv X pins σ H s)(r:RelV x v)(ty:tyV X.K T x H):
  s.TypeIs v T/\∀a,v=.ref a->∃ob,s.heap.get? a=some ob/\ob.dict=none:=by
 cases x with
 | str z=>
  obtain⟨t,rfl⟩:=r;cases (show T="str" from ty);exact⟨typeIs_str s z t,λ_ e=>nomatch e⟩
 | int i=>
  obtain⟨t,rfl⟩:=r;cases (show T="int" from ty);exact⟨typeIs_int s i t,λ_ e=>nomatch e⟩
 | ref p=>
  cases r;rcases ty with ⟨rfl,h,hq⟩ | ⟨rfl,o,hk,hc,hd⟩ | ⟨rfl,hk⟩ | ⟨rfl,S,n,hk⟩
  ·obtain⟨g,_,f,_⟩:=I.list hq;refine⟨f.isList.typeIs,λa e=>?_⟩;cases e;obtain⟨o,n,e,c,hd,_⟩:=f;exact⟨o,e,hd⟩
  ·refine⟨⟨o,I.oM p o hk,hc⟩,λa e=>?_⟩;cases e;exact⟨o,I.oM _ o hk,hd⟩
  ·have z:∃o,s.heap.get? p=some o/\o.ExactDict:=by
    rcases hk with ⟨d,hk⟩ | ⟨d,hk⟩
    ·obtain⟨_,_,_,_,o,_,_,e,ex,_⟩:=I.hok p _ hk;exact⟨o,e,ex⟩
    ·obtain⟨_,_,_,_,o,_,_,e,ex,_⟩:=I.hok p _ hk;exact⟨o,e,ex⟩
   obtain⟨o,e,ex⟩:=z;refine⟨⟨o,e,ex.1⟩,λa b=>?_⟩;cases b;exact⟨o,e,ex.2.1⟩
  ·obtain⟨o,_,_,_,e,ex,_⟩:=I.hok p _ hk;refine⟨⟨o,e,ex.1⟩,λa b=>?_⟩;cases b;exact⟨o,e,ex.2.1⟩
 | _=>exact False.elim ty
def tBM(K:aD)(T:String)(r:V->List V->Hp->VK->Prop)(to:TE)(t:TA):TE:=λσ H Q=>to σ H λx a=>tyV K T x a/\t σ a λxs b=>r x xs b Q
variable {o e:AN}{es:AG}{to:TE}{t:TA}{name:Str}{apos cpos:Pos}{T id:String}{r:V->List V->Hp->VK->Prop}
theorem qz(q:PlainAttrs T)(slot:Slot T name id)(g:typeOf (.builtin id)=pure (.type "method_descriptor"))(hm:MtR X id r)(p:PE X o to)(ha:PA X (e::es) t)
  (c:attributeBase o name X.env (eval o X.env)=eval o X.env:=by rfl)
  (f:((backTo cpos (starEach (e::es) X.env)).all (λx=>!x.1) && (backToKw cpos (keywordEach [] X.env)).all (λx=>x.1.isSome)
   && decide ((e::es).length+([]:List Keyword).length+(if ([]:List Keyword).isEmpty then 0 else 1)<30))=true:=by rfl)
  (d:(apos.endLine == cpos.line)=true:=by rfl) (hs:starEach (e::es) X.env=(false,eval e X.env)::starEach es X.env:=by rfl) (b:(backTo cpos ec).any (·.1)=false:=by rfl):
  PE X (.Call (.Attribute o name apos) (e::es) [] cpos) (tBM X.K T r to t):=by
 intro a s i H Q I h;refine wpAny_Call_method_late c f d rfl (gw (p a s i H _ I h) λv w qc=>?_);obtain⟨x,H1,I1,r1,ty,q1⟩:=qc;obtain⟨h1,h2⟩:=Zv4 I1 r1 ty;refine⟨T,id,q,slot,g,h1,h2,?_⟩;have j:=ha cpos a w i H1 _ I1 q1;rw[hs]at j ⊢;refine Calls.callWith_builtin (by show(false || (backTo cpos (starEach es X.env)).any (·.1))=false;rw[b]<;>rfl) (Calls.evalArgs_plain ?_);exact gw j (by rintro us l ⟨m,n,y,k,u⟩;exact hm a l i n x m v us Q y r1 k u)
end
def MtM(X:Cx)(id:String)(r:V->List V->Hp->VK->Prop):Prop:=
 ∀(pins:At) (s:AK) (σ:St) (H:Hp) (x:V) (xs:List V) (v:AJ) (us:AC) (Q:VK),Inv X pins σ H s->RelV x v->Vals xs us->r x xs H Q->
  wpAny υ X.A (call (.builtin id) (v::us)) dv X.xe s
theorem Vals.one:∀{x:V}{us:AC},Vals [x] us->∃u,us=[u]/\RelV x u
 | _,_,.cons r .nil=>⟨_,rfl,r⟩
theorem Vals.eraseIdx:∀{xs:List V}{us:AC} (i:Nat),Vals xs us->Vals (xs.eraseIdx i) (us.eraseIdx i)
 | _,_,_,.nil=>.nil
 | _,_,0,.cons _ t=>t
 | _,_,i+1,.cons r t=>.cons r (Vals.eraseIdx i t)
theorem Vals.rep{xs:List V}{us:AC}(h:Vals xs us):∀k:Nat,Vals (List.replicate k xs).flatten (List.replicate k us).flatten
 | 0=>.nil
 | k+1=>by
  rw[List.replicate_succ,List.replicate_succ,List.flatten_cons,List.flatten_cons];exact Vals.append h (Vals.rep h k)
theorem YM{a:Type}:∀(l:List a) (i:Nat),(l.eraseIdx i).length<=l.length
 | [],_=>Nat.le_refl _
 | _::_,0=>Nat.le_succ _
 | _::r,i+1=>Nat.succ_le_succ (YM r i)
theorem foldl_rep(a:AC):∀(k:Nat) (acc:AC),
  List.foldl (λc b=>c++b) acc.toArray (List.replicate k a.toArray)=(acc++(List.replicate k a).flatten).toArray
 | 0,acc=>ζ
 | k+1,acc=>by
  have e:acc.toArray++a.toArray=(acc++a).toArray:=ζ
  have d:(acc++a)++(List.replicate k a).flatten=acc++(List.replicate dX a).flatten:=by
   rw[List.replicate_succ,List.flatten_cons,List.append_assoc]
  rw[<- d,<- foldl_rep a k (acc++a),<- e,List.replicate_succ,List.foldl_cons]
section
variable {X:Cx}{pins:At}{σ:St}{H:Hp}{s:AK}{l b:AI}{xs ys zs:List V}
theorem Inv.Zvz{a its':AC}{n:Nat}{f:Array AJ->Array AJ}{t':Nat}(I:Inv X pins σ H s)(b:H l=some (.lst xs))
  (e:s.heap.get? l=some { cls:=.type "list",data:=.seq a.toArray n }) (c:f a.toArray=its'.toArray) (hv:Vals ys its') (hz:ys.length<=sizeLine):
  Inv X pins σ (upd H l (.lst ys)) { s with heap:=s.heap.update l (Obj.mapSeq f),toks:=t' }:=by
 have q:=PySem.IsL.update e f;rw[c]at q;refine I.write (x:=l) (e:=l) (by rw[b];exact trivial) (.inl rfl) (λd u hb hu=>(Heap.get?_update_other s.heap (Obj.mapSeq f) (Ne.symm hb)).trans hu) ⟨_,q⟩ ?_;exact⟨hz,its',_,hv,q⟩
theorem Inv.Zy6{a:AC}{t':Nat}(I:Inv X pins σ H s)(hv:Vals ys a)(hz:ys.length<=sizeLine):
  Inv X pins σ (upd H s.heap.objs.size (.lst ys)) { s with heap:=s.heap.push { cls:=.type "list",data:=.seq a.toArray },toks:=t' }:=
 I.laid (λ_ _ q=>Heap.get?_push_of_some _ q) Γ ⟨hz,a,0,hv,Heap.get?_push_size _ rfl⟩
theorem Inv.fresh(I:Inv X pins σ H s):H s.heap.objs.size=none:=I.hok.fresh Γ
theorem Inv.Zhn(I:Inv X pins σ H s)(b:H l=some (.lst xs)):xs.length<=sizeLine/\∃(a:AC) (n:Nat),Vals xs a/\xs.length=a.length/\s.heap.get? l=some { cls:=.type "list",data:=.seq a.toArray n }:=by
 obtain⟨z,a,n,r,e⟩:=I.hok l _ b;exact⟨z,a,n,r,r.length,e⟩
theorem Ze9{n:Nat}(h:n<=sizeLine):Builtin.List.listTooLong n=false:=by
 unfold Builtin.List.listTooLong;exact decide_eq_false δ
end
section
variable {X:Cx}
def uG:V->List V->Hp->VK->Prop:=λx vs H Q=>∃l xs y,x=.ref l/\vs=[y]/\H l=some (.lst xs)/\xs.length<sizeLine/\Q .non (upd H l (.lst (xs++[y])))
theorem lN:MtM X "list.append" uG:=by
 intro b s k H x i v us Q I d g h;obtain⟨l,j,y,rfl,rfl,c,hz,q⟩:=h;cases d;obtain⟨u,rfl,f⟩:=g.one;obtain⟨z,a,n,r,hl,e⟩:=I.Zhn c;refine call_meets F.slot_list_append ⟨_,e,rfl⟩ F.entry_list_append (F.args_list_append_2 _ _) (PySem.list_append l a.toArray n u (by rw[List.size_toArray];omega)) ⟨e,?_⟩;refine⟨.non,_,I.Zvz (its':=a++[u]) c e ζ (r.append (.cons f .nil)) ?_,rfl,q⟩;rw[List.length_append,List.length_singleton];omega
def uF:V->List V->Hp->VK->Prop:=λx vs H Q=>∃l b xs a,x=.ref l/\vs=[.ref b]/\H l=some (.lst xs)/\H b=some (.lst a)/\xs.length+a.length<=sizeLine/\Q .non (upd H l (.lst (xs++a)))
theorem oW:MtM X "list.extend" uF:=by
 intro g s D H x A v us Q I k w h;obtain⟨l,b,B,C,rfl,rfl,i,t,hz,q⟩:=h;cases k;obtain⟨u,rfl,m⟩:=w.one;cases m;obtain⟨z,c,n,r,hl,e⟩:=I.Zhn i;obtain⟨y,a,n2,j,p,o⟩:=I.Zhn t;have f:c.toArray.size+a.toArray.size<=sizeLine:=by rw[List.size_toArray,List.size_toArray];omega
 have d:¬ (!c.toArray.isEmpty && Builtin.List.listTooLong (c.toArray.size+a.toArray.size))=true:=by
  rw[Ze9 f,Bool.and_false];exact Bool.false_ne_true
 refine call_meets F.slot_list_extend ⟨_,e,rfl⟩ F.entry_list_extend (F.args_list_extend_2 _ _)
  (AutoSeq1.list_extend_list_list_0 l c.toArray n b a.toArray n2 d (by rw[List.size_toArray];omega) δ) ⟨e,o,?_⟩
 refine⟨.non,_,I.Zvz (its':=c++a) i e ζ (r.append j) ?_,rfl,q⟩;rw[List.length_append];omega
def Znz:V->List V->Hp->VK->Prop:=λx vs H Q=>∃l xs i k y,x=.ref l/\vs=[.int i]/\H l=some (.lst xs)/\-(2 ^ 63)<=i/\i<2 ^ 63/\seqIndex? i xs.length=some k/\xs[k]? =some y/\Q y (upd H l (.lst (xs.eraseIdx k)))
theorem Zp5:MtM X "list.pop" Znz:=by
 intro c s A H x p v us Q I g o h;obtain⟨l,m,i,k,y,rfl,rfl,d,h1,h2,hk,hy,q⟩:=h;cases g;obtain⟨u,rfl,j⟩:=o.one;obtain⟨t,rfl⟩:=j;obtain⟨z,a,n,r,hl,e⟩:=I.Zhn d;obtain⟨w,f,b⟩:=r.get hy;refine call_meets F.slot_list_pop ⟨_,e,rfl⟩ F.entry_list_pop (F.args_list_pop_2 _ _)
  (MeetsSeq.list_pop_at l a.toArray n i t k w (fitsIndex_both h1 h2) (by rw[List.size_toArray,<- hl];exact hk) (by rw[<- Array.getElem?_toList];exact f) (by rw[List.size_toArray];omega)) ⟨e,?_⟩
 refine⟨y,_,I.Zvz (its':=a.eraseIdx k) d e ?_ (r.eraseIdx k) ?_,b,q⟩
 ·show a.toArray.eraseIdxIfInBounds k=(a.eraseIdx k).toArray;rw[List.eraseIdxIfInBounds_toArray]
 ·have:=YM m k;omega
def Ow:R2:=λx y H Q=>∃l b xs a,x=.ref l/\y=.ref b/\H l=some (.lst xs)/\H b=some (.lst a)/\xs.length+a.length<=sizeLine/\∀p,H p=none->Q (.ref p) (upd H p (.lst (xs++a)))
theorem uM:uz X (binaryOp .Add) Ow:=by
 intro d s B H x y v u Q I g k h;obtain⟨l,b,w,A,rfl,rfl,o,p,hz,q⟩:=h;cases g;cases k;obtain⟨z,c,n,r,hl,e⟩:=I.Zhn o;obtain⟨t,a,n2,f,m,j⟩:=I.Zhn p;refine PySem.P.add_list e j ?_ (by rw[List.size_toArray,List.size_toArray];omega);have i:c.toArray++a.toArray=(c++a).toArray:=ζ
 rw[i];exact⟨.ref _,_,I.Zy6 (t':=s.toks) (r.append f) (by rw[List.length_append];omega),rfl,q _ I.fresh⟩
def Zvc:R2:=λx y H Q=>∃l k xs,x=.ref l/\y=.int k/\H l=some (.lst xs)/\-(2 ^ 63)<=k/\k<2 ^ 63/\xs.length * k.toNat<=sizeLine/\
 ∀p,H p=none->Q (.ref p) (upd H p (.lst (List.replicate k.toNat xs).flatten))
theorem len_rep{a:Type}(xs:List a)(k:Nat):(List.replicate k xs).flatten.length=k * xs.length:=by
 induction k with
 | zero=>simp
 | succ k ih=>rw[List.replicate_succ,List.flatten_cons,List.length_append,ih,Nat.succ_mul,Nat.add_comm]
theorem Zon:uz X (binaryOp .Mult) Zvc:=by
 intro p s K H x y v u Q I w A h;obtain⟨l,k,J,rfl,rfl,C,h1,h2,hz,q⟩:=h;cases w;obtain⟨t,rfl⟩:=A;obtain⟨z,b,n,r,hl,e⟩:=I.Zhn C;have f:b.toArray.size * k.toNat<=sizeLine:=by rw[List.size_toArray,<- hl];exact hz
 have c:¬ b.toArray.size * k.toNat > (2 ^ 63 - 1) / 8:=by
  have:(sizeLine:Nat)<=(2 ^ 63 - 1) / 8:=ε
  omega
 have g:¬ (!Builtin.List.listFitsIndex k)=true:=by
  rw[fitsIndex_both h1 h2];exact Bool.false_ne_true
 have i:¬ Builtin.List.listTooLong (b.toArray.size * k.toNat)=true:=by
  rw[Ze9 f];exact Bool.false_ne_true
 have d:List.foldl (λj o=>j++o) #[] (List.replicate (if b.toArray.isEmpty=true then 0 else k.toNat) b.toArray)=(List.replicate k.toNat b).flatten.toArray:=by
  have D:∀m:Nat,List.foldl (λj o=>j++o) #[] (List.replicate m b.toArray)=(List.replicate m b).flatten.toArray:=λm=>by
   have:=foldl_rep b m [];rw[List.nil_append]at this;exact this
  rw[D];cases b with
  | nil=>simp
  | cons a E=>rw[if_neg ζ]
 refine wpAny_binaryOp_repeat_ref (T:="list") (U:="int") ε ⟨_,e,rfl⟩ (λB=>typeIs_int B k t) noFill_list_mul F.fills_int_mul F.slot_int_rmul repeat_list F.slot_int_index.lookup
  (call_meets F.slot_int_rmul (typeIs_int s k t) F.entry_int_rmul (F.args_int_rmul_2 _ _) (int___rmul___int_list k t l b.toArray n)
   ⟨e,rfl,⟨_,e,rfl⟩,call_meets F.slot_list_mul ⟨_,e,rfl⟩ F.entry_list_mul (F.args_list_mul_2 _ _) (AutoListH.list___mul___list_int_3 l b.toArray n k t g c i) ⟨e,?_⟩⟩)
 rw[d];exact⟨.ref _,_,I.Zy6 (t':=s.toks) (r.rep k.toNat) (by rw[len_rep,Nat.mul_comm];exact hz),rfl,q _ I.fresh⟩
end
section
variable {prog:AM}{w:AO}{A:Around}{E:Ap}{s:AK}
end
section
variable {X:Cx}
end
end L2
namespace Att
open PySem PySem.W PySem.Calls PyProof.Rows
theorem Pb{P:Params}{h:Heap}:∀(ns:AE) (vs:AC),WellAll P h vs (ns.map WData.int)->IntsAre vs ns:=by
 intro ns
 induction ns with
 | nil=>
  intro vs w;rw[List.map_nil]at w;cases w;exact .nil
 | cons n ns ih=>
  intro vs w;rw[List.map_cons]at w;cases w with
  | cons a b=>
   cases a;exact .cons _ _ (ih _ b)
theorem Zlg{l:OpenLaw}{n:Nat}(hn:l.most=some n){P:Params}{h:Heap}{b:List WData}{e:AC}
  (c:l.row.toRowW.claim.pre b=true) (m:WellAll P h e b):
  ∃a vs ns,e=[Value.ref a]/\b=[WData.list (ns.map WData.int)]/\h.get? a=some { cls:=.type "list",data:=.seq vs.toArray }/\IntsAre vs ns/\ns.length<=n:=by
 have k:WShape.hasAll [] b [.list .int]=true:=(pre_splitW c).1;have hc:l.pre.holds [] { args:=b }=true:=(pre_splitW c).2;obtain⟨d,r,rfl,h1,h2⟩:=hasAllW_cons k;obtain rfl:=hasAllW_nil h2;obtain⟨v,rfl,t⟩:=hasW_list h1;obtain⟨ns,rfl⟩:=items_int t;have g:ns.length<=n:=by
  unfold OpenLaw.pre at hc;have j:(WTm.not (.lt (.lit (.int (n:Int))) (.len (.arg 0)))).holds [] { args:=[.list (ns.map .int)] }=true:=by
   have j:=(holds_andW hc).1;rw[hn]at j;exact j
  have i:=condW_of j (w_not (w_lt w_lit (w_len_list (w_arg rfl))));rw[aX]at i;refine Nat.le_of_not_lt λq=>?_;have p:(n:Int)<((ns.length:Nat):Int):=δ
  first
   | (rw[decide_eq_true p]at i;exact absurd i ε)
   | (simp at i;omega)
 cases m with
 | cons o u=>
  cases u;cases o with
  | list s f=>exact⟨_,_,ns,rfl,rfl,s,Pb ns _ f,g⟩
theorem Zll(l:OpenLaw)(a:List WData):l.row.toRowW.claim.post a (.bool true) a=true:=
 postW_of (r:=l.row.toRowW) (X:=(true == true))
  (show WShape.has [] (.bool true) .bool=true by first | rfl | decide | simp[WShape.has,WShape.arms,WShape.armsAll])
  (show(WTm.eq .res (.lit (.bool true))).value [] { args:=a,res:=some (.bool true),after:=a }=some (.bool (true == true))from w_eq_bool (w_res rfl) w_lit) rfl
theorem Zfw{l:OpenLaw}{n:Nat}{q:AM}{c:AH}{y:(As)->Heap->Prop}{z:AO->Heap->Prop}{d:DefRec}
  (hn:l.most=some n) (p:d.params.defaults=[])
  (call:∀(w:AO) (s₀ b:AK) (mg u:As) (fa:AI) (o:Obj) (t k g:AJ) (a:AI) (vs:AC) (ns:AE),
   Ground q c [] y w s₀ mg u b.heap->z w b.heap->
   b.heap.get? fa=some o->o.data=.func (docDef d.name d.params d.body d.scope t k g)->b.heap.CodeRec k d.name->mg d.name=↑fa->
   b.heap.get? a=some { cls:=.type "list",data:=.seq vs.toArray }->IntsAre vs ns->ns.length<=n->b.gens=#[]->
   codeAny (model l.prog w) callerA (.call (.ref fa) ⟨[.ref a],[]⟩) (λr s'=>r=.ok (.ret (.bool true))/\OldK b.heap s'.heap/\s'.os=b.os/\AllBare s'.gens) b):
  WalkO q c y z l.row.toRowW d [] (λf vs=>PySem.call f vs):=by
 intro w s₀ b mg u G Y fa o t k g dV kV E hd m B v D x C K j A H s F;obtain rfl:dV=.none:=Dflts.none B p;obtain rfl:kV=.none:=Dflts.noKw B;obtain⟨a,vs,ns,rfl,rfl,h,e,i⟩:=Zlg hn j s;refine enter_call (codeAny_mono (call w s₀ b mg u fa o t k g a vs ns G Y E (fd_plain hd) m v h e i D) λr s' hq=>?_);obtain⟨rfl,h2,J,I⟩:=hq;exact⟨.inl ⟨.bool true,.bool true,[],rfl,λ_=>rfl,.bool true,Zll l _,λ_=>⟨List.Pairwise.nil,λ_ hm=>(nomatch hm)⟩⟩,h2,J,I⟩
section
variable {prog:AM}{w:AO}{A:Around}{E:Ap}{s:AK}{K:Frag}
end
end Att
namespace L2
open PySem PySem.Spec PyProof.Rows
theorem Xe:∀{vs:AC}{ns:AE},IntsAre vs ns->Vals (ns.map V.int) vs
 | _,_,.nil=>.nil
 | _,_,.cons n t h=>.cons ⟨t,rfl⟩ (Xe h)
def Only(H:Hp):Prop:=∀b,H b=none\/∃o xs,H b=some (.wB o (.lst xs))
theorem Zpj{P:AM}{w:AO}{K:aD}{mg L:As}{CX:CXT}{k:Nat}{fa a:AI}{fd:AL}{x:Str}{sp:Sp}{c:AK}{vs:AC}{ns:AE}
  (T:K.In c.heap) (A:c.heap.Ns mainGlobals mg) (hb:c.heap.Ns builtinsNs L) (N:∀x:Str,x≠"__name__"->L x=bootBuiltins x) (p:c.heap.NoLimit) (hg:c.gens=#[])
  (ha:c.heap.get? a=some { cls:=.type "list",data:=.seq vs.toArray }) (S:IntsAre vs ns) (hl:ns.length<=sizeLine) (hr:Room k callerA)
  (F:∀base:Heap,K.In base->base.Ns mainGlobals mg->pX P w K mg base CX k fa fd [x] sp) (i:∀(s:AK) (u:AJ),BindsTo s fd ⟨[u],[]⟩ [(x,u)])
  (I:∀H:Hp,Only H->cA K H a (ns.map V.int)->sp [.ref a] H (λv _=>v=.bl true) λ_ _ _=>False)
  (J:∀H e s',CX [] H c (λ_ _ _=>False) e s'->False):
  codeAny (model P w) callerA (.call (.ref fa) ⟨[.ref a],[]⟩) (λr s'=>r=.ok (.ret (.bool true))/\OldK c.heap s'.heap/\s'.os=c.os/\AllBare s'.gens) c:=by
 have U:=Xe S;have B:=S.length;have g:∀H:Hp,Only H->cA K H a (ns.map V.int)->zx P w H c.heap->(∀b,H b≠none->b=a)->(H a≠none->K.lookup a=none)->
   codeAny (model P w) callerA (.call (.ref fa) ⟨[.ref a],[]⟩) (λr s'=>r=.ok (.ret (.bool true))/\OldK c.heap s'.heap/\s'.os=c.os/\AllBare s'.gens) c:=by
  intro H O Y hok Q X;have D:∀{b:AI}{o:Obj},c.heap.get? b=some o->H b=none->(Zbw c.heap H).get? b=some o:=λe n=>Zpv e n;have E:∀{b:AI}{o:Obj}{y:Array DictEntry}{C:Nat},c.heap.get? b=some o->o.data=.dict y C->H b=none:=λ{b o y C} e d=>by
   cases q:H b with
   | none=>rfl
   | some u=>
    have M:b=a:=Q b (by rw[q];simp);subst M;rw[ha]at e;cases e;have d':Data.seq vs.toArray _=Data.dict y C:=d;cases d'
  have f:∀{b:AI}{m:As},c.heap.Ns b m->(Zbw c.heap H).Ns b m:=λ{b m} ⟨o,y,C,e,d,r⟩=>⟨o,y,C,D e (E e d),d,r⟩;have l:K.In (Zbw c.heap H):=λb o e=>D (T b o e) (by
   cases q:H b with
   | none=>rfl
   | some u=>
    have M:b=a:=Q b (by rw[q];simp);subst M;rw[X (by rw[q];simp)]at e;cases e)
  have W:Mod K mg (Zbw c.heap H):=⟨l,f A,⟨L,f hb,N⟩,let ⟨mc,h1,h2⟩:=p;⟨mc,f h1,h2⟩⟩;have e0:Zd0 P w K mg (Zbw c.heap H) callerA [] c H:=⟨rfl,W,λb o e=>Zsh e,Nat.le_of_eq (Zmj _ _),trivial,λb hb=>absurd (show b∈([]:AF)from hb) ζ,hok,.of_eq hg⟩;refine codeAny_mono ((F _ l (f A)).run callerA [] c H ⟨[.ref a],[]⟩ [.ref a] [.ref a] _ _ hr e0 (i c (.ref a)) (.cons rfl .nil) (I H O Y)) λr s' h=>?_;cases r with
  | error e=>exact(J H e s' h).elim
  | ok fl=>
   cases fl with
   | next=>exact False.elim h
   | brk=>exact False.elim h
   | cont=>exact False.elim h
   | ret u=>
    obtain⟨v,H',os,bare,un,j,r',q⟩:=h;have q':v=.bl true:=q;subst q';obtain rfl:u=Value.bool true:=r';refine⟨rfl,OldK.of_keep λb o e=>?_,os,bare⟩;cases q:H b with
    | none=>exact un.keep b o e q (by intro z;exact absurd (show b∈([]:AF)from z) ζ) ζ
    | some u=>
     rcases O b with z | ⟨ob,xs,z⟩
     ·rw[q]at z;cases z
     ·have Z:=un.Dc b ob _ z;obtain⟨R,_⟩:=hok b _ z;obtain⟨e2,_⟩:=j b _ Z;rw[e]at R;cases R;exact e2
 cases hk:K.lookup a with
 | some o=>
  have e:=T a o hk;rw[ha]at e;cases e;refine g (λ_=>none) (λ_=>.inl rfl) (.inr ⟨_,vs.toArray,_,hk,rfl,rfl,rfl,by rw[List.size_toArray,B];exact hl,by simpa using U⟩) (λb u z=>by have t:(none:Option HO)=some u:=z;cases t) (λb z=>absurd rfl z) λz=>absurd rfl z
 | none=>
  refine g (λb=>if b=a then some (.wB { cls:=.type "list",data:=.seq vs.toArray } (.lst (ns.map V.int)))else none) (λb=>?_) (.inl (.inr ⟨{ cls:=.type "list",data:=.seq vs.toArray },if_pos rfl⟩)) (λb u z=>?_) (λb z=>?_) λ_=>hk
  ·by_cases hb:b=a
   ·exact .inr ⟨_,_,if_pos hb⟩
   ·exact .inl (if_neg hb)
  ·by_cases hb:b=a
   ·have t:=(if_pos hb).symm.trans z;cases t;subst hb;exact⟨ha,by rw[aX];exact hl,vs,_,U,ha⟩
   ·have t:=(if_neg hb).symm.trans z;cases t
  ·by_cases hb:b=a
   ·exact hb
   ·exact absurd (if_neg hb) z
theorem Zrh{l:W.OpenLaw}{n k:Nat}{q:AM}{j:AH}{O:(As)->Heap->Prop}{C:AO->Heap->Prop}{d:DefRec}{K:Params->aD}{CX:AO->CXT}{sp:AO->Sp}{x:Str}
  (hn:l.most=some n) (z:n<=sizeLine) (r:d.params.defaults=[]) (hr:Room k callerA)
  (E:∀(w:AO) (h:Heap),C w h->(K w.params).In h)
  (F:∀(w:AO) (mg:As) (fa:AI) (h:Heap),(K w.params).In h->h.Ns mainGlobals mg->mg d.name=↑fa->
   ∃fd:AL,(∀(s:AK) (u:AJ),BindsTo s fd ⟨[u],[]⟩ [(x,u)])/\
    ∀base:Heap,(K w.params).In base->base.Ns mainGlobals mg->pX l.prog w (K w.params) mg base (CX w) k fa fd [x] (sp w))
  (t:∀(w:AO) (H:Hp) (a:AI) (ns:AE),ns.length<=n->Only H->cA (K w.params) H a (ns.map V.int)->sp w [.ref a] H (λv _=>v=.bl true) λ_ _ _=>False)
  (y:∀(w:AO) (H:Hp) (s:AK) (e:AJ) (s':AK),CX w [] H s (λ_ _ _=>False) e s'->False):
  W.WalkO q j O C l.row.toRowW d [] (λf vs=>PySem.call f vs):=by
 refine Att.Zfw hn r λw s₀ p mg S fa o R Q L a vs ns G Y P hd D A m i c I=>?_;have B:=E w _ Y;obtain⟨fd,hb,M⟩:=F w mg fa _ B G.T.g A;exact Zpj B G.T.g G.T.b G.T.builtins G.T.nolimit I m i (Nat.le_trans c z) hr M hb (λH J N=>t w H a ns c J N) λH e s'=>y w H p e s'
def inClass(s:Stmt)(j:Nat):Stmt:=match s with
 | .ClassDef _ _ _ a _ _ _ _ _ _ _=>a.getD j (.Pass ⟨0,0,0,0⟩)
 | _=>.Pass ⟨0,0,0,0⟩
def iM(s:Stmt):Arguments:=match s with
 | .FunctionDef _ a _ _ _ _ _ _ _ _=>a
 | _=>{ posonlyargs:=[],args:=[],vararg:=none,kwonlyargs:=[],kw_defaults:=[],kwarg:=none,defaults:=[] }
def fV(s:Stmt):List Stmt:=match s with
 | .FunctionDef _ _ b _ _ _ _ _ _ _=>b
 | _=>[]
def aC(s:Stmt):Scope:=match s with
 | .FunctionDef _ _ _ _ _ _ a _ _ _=>a
 | _=>{ kind:=.function,names:=[],isGenerator:=false,isCoroutine:=false }
abbrev E0:XK:=λ_ _ _=>False
structure Fun(K:aD)(x qual:Str)(st:Stmt)(f:AI)(fd:AL):Prop where
 ex:∃(oc:AJ) (od:Option AI) (kV doc pm:AJ) (an:Option AI) (cdv ct:AJ) (osl:Array AB),
  fd=W.fnOf x qual (iM st) (fV st) ez .none kV doc pm an cdv ct/\K.lookup f=some ⟨oc,od,.func fd,osl⟩/\W.codeIn K cdv qual=true
 kp:W.keepIn K (.ref f)=true
section
variable {P:AM}{w:AO}{K:aD}{mg:As}{base:Heap}
theorem Fun.binds{x a:Str}{st:Stmt}{f:AI}{fd:AL}{ps:AH}(F:Fun K x a st f fd)
  (h:∀(kV c e:AJ) (d:Option AI) (b ct:AJ) (us:AC),us.length=ps.length->bindArgs (W.fnOf x a (iM st) (fV st) ez .none kV c e d b ct) ⟨us,[]⟩=pure (ps.zip us)):Binds K fd ps []:=by
 obtain⟨oc,od,kV,c,e,d,b,ct,i,rfl,lk,g⟩:=F.ex;exact .all (h kV c e d b ct)
theorem Zq4{x a:Str}{st:Stmt}{f:AI}{oc:AJ}{od g:Option AI}{e:Array AB}{kV d h b ct:AJ}(l:K.lookup f=some ⟨oc,od,.func (W.fnOf x a (iM st) (fV st) ez .none kV d h g b ct),e⟩)
  (c:W.codeIn K b a=true) (k:W.keepIn K (.ref f)=true):Fun K x a st f (W.fnOf x a (iM st) (fV st) ez .none kV d h g b ct):=⟨⟨oc,od,kV,d,h,g,b,ct,e,rfl,l,c⟩,k⟩
end
theorem HF{A:Around}{k:Nat}(hr:Room k A):A.units+1<cLine:=Nat.lt_of_le_of_lt (Nat.add_le_add_left (by decide:1<=64) _) hr.units
section
variable {X:Cx}
theorem pv(i:Nat){x:Str}{a:Pos}(c:X.N[i]? =some x:=by rfl)(hv:Vis X.env.scope x:=by first | exact Or.inl rfl | exact Or.inr (Or.inl rfl) | exact Or.inr (Or.inr rfl))(hd:(x == ("__debug__":Str))=false:=by decide)
  (b:(x == ("__classdict__":Str))=false:=by decide):PE X (.Name x a) (ak i):=Zo8 c hv hd b
end
theorem Hq{A B:Prop}(h:B):if false=true then A else B:=by
 rw[if_neg Bool.false_ne_true];exact h
theorem Zbg{A B:Prop}(h:A):if true=true then A else B:=by
 rw[if_pos rfl];exact h
theorem Zw8{c A B:Prop} [Decidable c](h1:c->A)(h2:¬ c->B):if c then A else B:=by
 by_cases h:c
 ·rw[if_pos h];exact h1 h
 ·rw[if_neg h];exact h2 h
def bA(H H':Hp):Prop:=∀b o,H b=some o->H' b=some o
theorem bA.refl(H:Hp):bA H H:=λ_ _ h=>h
theorem bA.trans{H d e:Hp}(a:bA H d)(b:bA d e):bA H e:=λc o h=>b c o (a c o h)
theorem bA.free{H H':Hp}(e:bA H H'){l:AI}(h:H' l=Option.none):H l=Option.none:=by
 cases q:H l with
 | none=>rfl
 | some o=>
  rw[e l o q]at h;cases h
theorem bA.seq{K:aD}{H H':Hp}{a:AI}{xs:List V}(e:bA H H')(h:cA K H a xs):cA K H' a xs:=by
 rcases h with (h | ⟨o,h⟩) | h
 ·exact .inl (.inl (e _ _ h))
 ·exact .inl (.inr ⟨o,e _ _ h⟩)
 ·exact .inr h
section
variable {X:Cx}{pins:At}{σ:List (Option V)}{H H':Hp}{s:AK}{h':Heap}
end
section
variable {X:Cx}
variable {a b:AN}{ta tb:TE}{pos:Pos}
variable {tA tB':TT}{rest:AG}
end
section
variable {X:Cx}{a b c:AN}{ta tb tc:TE}{pos:Pos}
end
section
variable {prog:AM}{w:AO}{A:Around}{E:Ap}{s:AK}{K:aD}{x dx C f:AI}{mA:As}{name:Str}{v:AJ}
end
section
variable {X:Cx}{pins:At}{σ:St}{H:Hp}{s:AK}{a C dx:AI}{fs:List (Str×V)}{f:Str}{v:V}{A:Around}{E:Ap}
end
section
variable {X:Cx}{CX:CXT}{k:Nat}{f C:AI}{fd:AL}{ps:AH}{sp:Sp}{pW:List V}{ds:AC}{E:XK}{x m:Str}{p pos apos:Pos}{e o:AN}{es:AG}{ta:TE}{t:TA}
end
section
variable {X:Cx}{x:Str}{p pos:Pos}{e:AN}{es:AG}{t:TA}{id T:String}{r:List V->Hp->VK->Prop}
end
section
variable {κ:Type} [DecidableEq κ]
def nD(a:List (κ×V))(k:κ):Option V:=(a.find? λkv=>decide (kv.1=k)).map (·.2)
def putK(a:List (κ×V))(k:κ)(v:V):List (κ×V):=
 if (a.any λkv=>decide (kv.1=k))=true then a.map (λkv=>if kv.1=k then(kv.1,v)else kv)else a++[(k,v)]
theorem Dz{p:κ×V}{r:List (κ×V)}{k:κ}(e:p.1=k):nD (p::r) k=some p.2:=by simp[nD,List.find?_cons,e]
theorem DG{p:κ×V}{r:List (κ×V)}{k:κ}(e:¬ p.1=k):nD (p::r) k=nD r k:=by simp[nD,List.find?_cons,e]
theorem Qg(k:κ):∀a:List (κ×V),(a.any λkv=>decide (kv.1=k))=(nD a k).isSome
 | []=>rfl
 | p::r=>by
  rw[List.any_cons]
  by_cases e:p.1=k
  ·simp only[Dz e,decide_eq_true e,Bool.true_or,Option.isSome_some]
  ·rw[DG e,decide_eq_false e,Bool.false_or];exact Qg k r
theorem Mz(a:List (κ×V))(k:κ)(v:V):(putK a k v).length<=a.length+1:=by
 unfold putK;split
 ·rw[aX];omega
 ·rw[List.length_append,List.length_cons,List.length_nil];omega
theorem Zo3{a:List (κ×V)}{k:κ}(v:V)(h:nD a k=none):putK a k v=a++[(k,v)]:=by
 unfold putK;rw[Qg,h];exact if_neg ε
theorem zX.JX{o:Option V}{u:AB}(r:zX o u):o.isSome=u.isSome:=by
 cases o with
 | none=>cases u with
  | none=>rfl
  | some _=>exact(show False from r).elim
 | some _=>cases u with
  | none=>exact(show False from r).elim
  | some _=>rfl
theorem KV.val{a:List (κ×V)}{vs:List (κ×AJ)}(r:KV a vs)(k:κ):zX (nD a k) (valueAt vs k):=by
 unfold KV at r
 induction r with
 | nil=>exact True.intro
 | @cons p q f c h t ih=>
  obtain⟨h1,h2⟩:=h
  by_cases e:p.1=k
  ·have d:q.1=k:=h1.symm.trans e;have b:valueAt (q::c) k=some q.2:=by simp[valueAt,List.find?_cons,d]
   rw[Dz e,b];exact h2
  ·have d:¬ q.1=k:=λz=>e (h1.trans z);have b:valueAt (q::c) k=valueAt c k:=by simp[valueAt,List.find?_cons,d]
   rw[DG e,b];exact ih
theorem KV.any{a:List (κ×V)}{vs:List (κ×AJ)}(r:KV a vs)(k:κ):(a.any λkv=>decide (kv.1=k))=vs.any λkv=>decide (kv.1=k):=by
 unfold KV at r
 induction r with
 | nil=>rfl
 | cons h t ih=>rw[List.any_cons,List.any_cons,ih,h.1]
theorem KV.repl{a:List (κ×V)}{vs:List (κ×AJ)}(r:KV a vs)(k:κ){y:V}{u:AJ}(b:RelV y u):
  KV (a.map λkv=>if kv.1=k then(kv.1,y)else kv) (vs.map λkv=>if kv.1=k then(kv.1,u)else kv):=by
 unfold KV at r ⊢
 induction r with
 | nil=>exact .nil
 | @cons p q d c h t ih=>
  rw[List.map_cons,List.map_cons];refine .cons ?_ ih;obtain⟨h1,h2⟩:=h
  by_cases e:p.1=k
  ·rw[if_pos e,if_pos (h1.symm.trans e)];exact⟨h1,b⟩
  ·rw[if_neg e,if_neg (λz=>e (h1.trans z))];exact⟨h1,h2⟩
theorem KV.put{a:List (κ×V)}{vs:List (κ×AJ)}(r:KV a vs)(k:κ){y:V}{u:AJ}(b:RelV y u):KV (putK a k y) (stored vs k u):=by
 unfold putK stored;rw[r.any k]
 by_cases e:(vs.any λc=>decide (c.1=k))=true
 ·rw[if_pos e,if_pos e];exact r.repl k b
 ·rw[if_neg e,if_neg e];exact Paired.snoc r ⟨rfl,b⟩
theorem KV.length{a:List (κ×V)}{vs:List (κ×AJ)}(r:KV a vs):a.length=vs.length:=Paired.length r
end
theorem Zk2{P:AM}{w:AO}{k:Key}{u:AJ}(r:RelV (kV k) u):(dD P w).is k u=true:=by
 cases k with
 | inl i=>obtain⟨t,e⟩:=(show ∃t,u=Value.int i t from r);subst e;exact Zei P w i t
 | inr x=>obtain⟨t,e⟩:=(show ∃t,u=Value.str x t from r);subst e;exact Zeh P w x t
theorem YQ{P:AM}{w:AO}:∀{a:List Key}{us:AC},Vals (a.map kV) us->ItemsAre (dD P w) a us
 | [],_,r=>by rw[List.map_nil]at r;cases r;exact .nil
 | k::a,_,r=>by
  rw[List.map_cons]at r;cases r with
  | cons h t=>exact .cons (Zk2 h) (YQ t)
abbrev KT(H:Hp):List (List Key×V)->List (List Key×AI×AJ)->Prop:=Paired λp q=>p.1=q.1/\H q.2.1=some (.tup (p.1.map kV))/\RelV p.2 q.2.2
theorem KT.val{H:Hp}{a:List (List Key×V)}{xs:List (List Key×AI×AJ)}(r:KT H a xs)(k:List Key):zX (nD a k) ((atKey xs k).map (·.2)):=by
 induction r with
 | nil=>exact True.intro
 | @cons p q f c h t ih=>
  obtain⟨h1,_,h2⟩:=h
  by_cases e:p.1=k
  ·have d:q.1=k:=h1.symm.trans e;have b:atKey (q::c) k=some q.2:=by simp[atKey,List.find?_cons,d]
   rw[Dz e,b];exact h2
  ·have d:¬ q.1=k:=λz=>e (h1.trans z);have b:atKey (q::c) k=atKey c k:=by simp[atKey,List.find?_cons,d]
   rw[DG e,b];exact ih
theorem KT.repl{H:Hp}{a:List (List Key×V)}{xs:List (List Key×AI×AJ)}(r:KT H a xs)(k:List Key){y:V}{u:AJ}(b:RelV y u):
  KT H (a.map λkv=>if kv.1=k then(kv.1,y)else kv) (xs.map (putAt k u)):=by
 induction r with
 | nil=>exact .nil
 | @cons p q f d h t ih=>
  rw[List.map_cons,List.map_cons];refine .cons ?_ ih;obtain⟨h1,h2,c⟩:=h;unfold putAt
  by_cases e:p.1=k
  ·rw[if_pos e,if_pos (h1.symm.trans e)];exact⟨h1,h2,b⟩
  ·rw[if_neg e,if_neg (λz=>e (h1.trans z))];exact⟨h1,h2,c⟩
theorem KT.put{H:Hp}{a:List (List Key×V)}{xs:List (List Key×AI×AJ)}(r:KT H a xs)(k:List Key){b:AI}{y:V}{u:AJ}(hb:H b=some (.tup (k.map kV)))(c:RelV y u):
  KT H (putK a k y) (storedH xs k b u):=by
 have e:(a.any λd=>decide (d.1=k))=(atKey xs k).isSome:=by
  rw[Qg,(r.val k).JX,Option.isSome_map]
 unfold putK storedH;rw[e]
 by_cases q:(atKey xs k).isSome=true
 ·rw[if_pos q,if_pos q];exact r.repl k c
 ·rw[if_neg q,if_neg q];exact Paired.snoc r ⟨rfl,hb,c⟩
theorem KT.keeps{H H':Hp}{a:List (List Key×V)}{xs:List (List Key×AI×AJ)}(r:KT H a xs)(d:∀b c,H b=some (.tup c)->H' b=some (.tup c)):KT H' a xs:=
 Paired.Zvw r λ_ _ z=>⟨z.1,d _ _ z.2.1,z.2.2⟩
section
variable {P:AM}{w:AO}{H:Hp}{h:Heap}{a:AI}
theorem Zu9{u:HO}(ok:zx P w H h)(e:Rd H a u):fZ P w H h a u:=e.ok ok
theorem IK{b:List eJ}(ok:zx P w H h)(e:Rd H a (.dK b)):b.length<=sizeLine/\(a == sysModules)=false/\∃vs,KV b vs/\h.DictOf (dD P w) a vs:=
 show fZ P w H h a (.dK b)from Zu9 ok e
theorem Zuu{b:List eJ}(ok:zx P w H h)(e:H a=some (.dK b)):b.length<=sizeLine/\(a == sysModules)=false/\∃vs,KV b vs/\h.DictOf (dD P w) a vs:=IK ok (.inl e)
theorem Zbf{c:List Key}(ok:zx P w H h)(e:H a=some (.tup (c.map kV))):(tupleKind (dD P w)).is h c a:=by
 obtain⟨_,b,r,o,h1,h2,n,d⟩:=(show fZ P w H h a (.tup (c.map kV))from ok a _ e);exact⟨o,b.toArray,n,h1,h2,d,by simpa using YQ r⟩
theorem Zfj{b:List (List Key×V)}(ok:zx P w H h)(e:Rd H a (.dT b)):b.length<=sizeLine/\(a == sysModules)=false/\
  ∃xs,KT H b xs/\h.DictOfH (tupleKind (dD P w)) a xs:=by
 obtain⟨z,y,xs,r,o,f,c,h1,h2,i,g,d⟩:=(show fZ P w H h a (.dT b)from Zu9 ok e);refine⟨z,y,xs,r,o,f,c,h1,h2,i,g,λx hx=>?_,d⟩;have all:∀{l:List (List Key×V)}{m:List (List Key×AI×AJ)},KT H l m->∀x∈m,(tupleKind (dD P w)).is h x.1 x.2.1:=by
  intro l m q
  induction q with
  | nil=>intro x hx;exact nomatch hx
  | @cons p q j k hq t ih=>
   intro x hx;rcases List.mem_cons.mp hx with e | hx
   ·subst e;exact Zbf ok (by rw[<- hq.1];exact hq.2.1)
   ·exact ih x hx
 exact all r x hx
theorem Zz6{b:List (List Key×V)}(ok:zx P w H h)(e:H a=some (.dT b)):b.length<=sizeLine/\(a == sysModules)=false/\
  ∃xs,KT H b xs/\h.DictOfH (tupleKind (dD P w)) a xs:=Zfj ok (.inl e)
end
def U6(H:Hp)(a:AI)(y:V)(r:Option V):Prop:=
 (∃c k,Rd H a (.dK c)/\y=kV k/\r=nD c k)\/∃c k b,Rd H a (.dT c)/\y=.ref b/\H b=some (.tup (k.map kV))/\r=nD c k
def Zga(H:Hp)(a:AI)(y v:V)(H':Hp):Prop:=
 (∃c k,H a=some (.dK c)/\y=kV k/\c.length<sizeLine/\H'=upd H a (.dK (putK c k v)))\/
 ∃c k b,H a=some (.dT c)/\y=.ref b/\H b=some (.tup (k.map kV))/\c.length<sizeLine/\H'=upd H a (.dT (putK c k v))
theorem U6.k{H:Hp}{a:AI}{b:List eJ}{k:Key}(e:H a=some (.dK b)):U6 H a (kV k) (nD b k):=.inl ⟨b,k,.inl e,rfl,rfl⟩
theorem Zga.k{H:Hp}{a:AI}{b:List eJ}{k:Key}{v:V}(e:H a=some (.dK b))(hl:b.length<sizeLine):Zga H a (kV k) v (upd H a (.dK (putK b k v))):=.inl ⟨b,k,e,rfl,hl,rfl⟩
section
variable {X:Cx}{pins:At}{σ:St}{H:Hp}{s:AK}{a:AI}{y v:V}{u r:AJ}{o:Option V}{A:Around}{E:Ap}
theorem Inv.big(I:Inv X pins σ H s):sysModules<s.heap.objs.size:=by
 have h:mainGlobals<s.heap.objs.size:=(I.mod.glob.keeps I.bk).lt;exact Nat.lt_trans ε h
theorem Zmx{Q:Ap}(hu:A.units+1<cLine)(I:Inv X pins σ H s)(g:U6 H a y (some v))(n:RelV y u)(h:∀d s',Inv X pins σ H s'->RelV v d->Q d s'):
  wpAny υ A (getItem (.ref a) u) Q E s:=by
 rcases g with ⟨m,k,e,i,l⟩ | ⟨m,k,b,e,i,t,l⟩
 ·subst i;obtain⟨z,hd,q,rel,dd⟩:=IK I.hok e;obtain⟨d,f,c⟩:=zX.some_of (v:=v) (o:=valueAt q k) (by rw[l];exact rel.val k);exact wpAny_getItem_of (Zk2 n) dd.mapOf f (h d _ (I.tok _) c)
 ·subst i;cases (show u=Value.ref b from n);obtain⟨z,hd,r,rel,dd⟩:=Zfj I.hok e;obtain⟨d,f,c⟩:=zX.some_of (v:=v) (o:=(atKey r k).map (·.2)) (by rw[l];exact rel.val k);obtain⟨p,hp,j⟩:=Option.map_eq_some_iff.mp f;refine wpAny_getItem_heap (tupleKind_room_in1 hu) (Zbf I.hok t) dd hp ?_;rw[j];exact h d _ (I.tok _) c
theorem Zkm{Q:Ap}(hu:A.units+1<cLine)(I:Inv X pins σ H s)(g:U6 H a y o)(f:RelV y u)(h:∀s',Inv X pins σ H s'->Q (.bool (!o.isSome)) s'):
  wpAny υ A (compareOp .NotIn u (.ref a)) Q E s:=by
 rcases g with ⟨d,k,e,c,l⟩ | ⟨d,k,b,e,c,i,l⟩
 ·subst c;obtain⟨z,hd,j,rel,dd⟩:=IK I.hok e;refine wpAny_notIn_of (Zk2 f) hd dd.mapOf ?_;rw[<- (rel.val k).JX,<- l];exact h _ (I.tok _)
 ·subst c;cases (show u=Value.ref b from f);obtain⟨z,hd,m,rel,dd⟩:=Zfj I.hok e;refine wpAny_notIn_heap (tupleKind_room_in1 hu) (Zbf I.hok i) hd dd ?_;have q:=(rel.val k).JX;rw[Option.isSome_map]at q;rw[<- q,<- l];exact h _ (I.tok _)
theorem Zkl{h':Heap}{t':Nat}{ob:HO}(I:Inv X pins σ H s)(d:Mut (H a))(hs:Heap.SameBut a s.heap h')(c:∃q,h'.get? a=some q)(new:fZ X.prog X.w (upd H a ob) h' a ob):
  Inv X pins σ (upd H a ob) { s with heap:=h',toks:=t' }:=
 I.write (x:=a) (e:=a) d (.inl rfl) (λb q hb z=>(hs.2 b hb).trans z) c new
theorem Zx7{P:AM}{w:AO}{H':Hp}{h':Heap}{b:List eJ}{vs:List (Key×AJ)}(z:b.length<=sizeLine)(hd:(a == sysModules)=false)(rel:KV b vs)(dd:h'.DictOf (dD P w) a vs):
  fZ P w H' h' a (.dK b):=⟨z,hd,vs,rel,dd⟩
theorem Zmw{H':Hp}{Q:Unit->AK->Prop}(hu:A.units+1<cLine)(I:Inv X pins σ H s)(g:Zga H a y v H')(n:RelV y u)(t:RelV v r)(h:∀s',Inv X pins σ H' s'->Q () s'):
  wpAny υ A (setItem (.ref a) u r) Q E s:=by
 rcases g with ⟨d,k,e,j,l,i⟩ | ⟨d,k,b,e,j,p,l,i⟩
 ·subst j i;obtain⟨z,hd,B,rel,dd⟩:=Zuu I.hok e;have hz:B.length<=sizeLine:=by rw[<- rel.length];exact z
  have hl:(putK d k v).length<=sizeLine:=by have:=Mz d k v;omega
  refine wpAny_setItem_pairs (hsz:=hz) (Zk2 n) dd λo f hs=>h _ ?_;have D:∃q,o.get? a=some q:=let ⟨q,_,_,hq,_⟩:=f;⟨q,hq⟩
  exact Zkl I (by rw[e];exact True.intro) hs D (Zx7 hl hd (rel.put k t) f)
 ·subst j i;cases (show u=Value.ref b from n);obtain⟨z,hd,J,rel,dd⟩:=Zz6 I.hok e;have hz:J.length<=sizeLine:=by rw[<- Paired.length rel];exact z
  have hl:(putK d k v).length<=sizeLine:=by have:=Mz d k v;omega
  refine wpAny_setItem_heap (hsz:=hz) (tupleKind_room_in1 hu) (Zbf I.hok p) dd λo f hs=>h _ ?_;obtain⟨q,F,x,hq,h2,L,K,_,C⟩:=f;refine Zkl I (by rw[e];exact True.intro) hs ⟨q,hq⟩ ⟨hl,hd,_,(rel.put k p t).keeps λc M m=>?_,q,F,x,hq,h2,L,K,C⟩;rw[aB (kE m e av)];exact m
end
section
variable {X:Cx}{pins:At}{σ:St}{H:Hp}{s:AK}{a:AI}{kvs:List eJ}{k:Key}{u:AJ}{A:Around}{E:Ap}
end
def Ztz(i:AN):Prop:=∀a iv,subscripted i false a iv=operate [a,iv] (getItem a iv)
theorem Zj9{prog:AM}{w:AO}{A:Around}{E:Ap}{s:AK}{env:Env}{b a:AN}{k:Pos}{T id:String}{Q:Ap}
  (hl:typeLookup (.type T) "__getitem__"=pure (some (.builtin id))) (hs:Ztz a)
  (h:wpAny Ω A (eval b env) (λo f=>wpAny Ω A (eval a env) (λi c=>c.TypeIs o T/\wpAny Ω A (getItem o i) Q E c) E f) E s):
  wpAny Ω A (eval (.Subscript b a k) env) Q E s:=by
 refine Subscript_ (wpAny_mono h (λo f g=>wpAny_mono g (λi c d=>?_) λ_ _ x=>x) λ_ _ x=>x);obtain⟨l,d⟩:=d;unfold subscriptTail;refine wpAny_bind ?_;rw[getitemInPython_of_ne l.not_modules];refine wpAny_bind (wpAny_specialOf l hl ?_);have fin:wpAny Ω A (subscripted a false o i) (λr e=>wpAny Ω A (letTemporaryGo b o r >>= λ_=>pure r) Q E e) E c:=by
  rw[hs o i];exact wpAny_operating (wpAny_mono d (λr e j=>wpAny_bind (wpAny_letTemporaryGo (wpAny_pure j))) λ_ _ x=>x)
 first
  | exact wpAny_pure (wpAny_bind fin)
  | exact wpAny_bind (wpAny_pure (wpAny_bind fin))
  | exact wpAny_bind fin
theorem Zfq{X:Cx}{pins:At}{σ:St}{H:Hp}{s:AK}{a:AI}{y:V}{o:Option V}(I:Inv X pins σ H s)(g:U6 H a y o):s.TypeIs (.ref a) "dict":=by
 rcases g with ⟨c,k,e,_,_⟩ | ⟨c,k,b,e,_,_,_⟩
 ·obtain⟨_,_,f,_,dd⟩:=IK I.hok e;exact dd.typeIs
 ·obtain⟨_,_,d,_,dd⟩:=Zfj I.hok e;exact dd.typeIs
def Zd6(d ty:TE):TE:=λσ H Q=>d σ H λx c=>ty σ c λy b=>∃a v,x=.ref a/\U6 b a y (some v)/\Q v b
def ZM(ty d:TE):TE:=λσ H Q=>ty σ H λy c=>d σ c λx b=>∃a o,x=.ref a/\U6 b a y o/\Q (.bl (!o.isSome)) b
def Zjf(e ty f:TE):TS:=λD σ H=>f σ H λv c=>e σ c λx d=>ty σ d λy g=>∃a b,x=.ref a/\Zga g a y v b/\D.nx σ b
section
variable {X:Cx}{o i e value:AN}{pos pos' tpos:Pos}{td ty tv:TE}
theorem Zs7(hu:X.A.units+1<cLine)(j:PE X o td)(f:PE X i ty)(hs:Ztz i):PE X (.Subscript o i pos) (Zd6 td ty):=by
 intro b s d H Q I h;refine Zj9 PySem.F.slot_dict_getitem.lookup hs (gw (j b s d H _ I h) λu k ⟨x,H1,I1,rx,q1⟩=>gw (f b k d H1 _ I1 q1) λiv l qc=>?_);obtain⟨y,H2,I2,ry,a,v,ex,g,q2⟩:=qc;subst ex;obtain rfl:u=Value.ref a:=rx;exact⟨Zfq I2 g,Zmx hu I2 g ry λn m e c=>⟨v,H2,e,c,q2⟩⟩
theorem Zlo(hu:X.A.units+1<cLine)(e:PE X i ty)(f:PE X o td):PC X .NotIn i o (ZM ty td):=by
 intro b s c H Q I h;refine gw (e b s c H _ I h) λiv j ⟨y,H1,I1,ry,q1⟩=>gw (f b j c H1 _ I1 q1) λu k qc=>?_;obtain⟨x,H2,I2,rx,a,ov,ex,g,q2⟩:=qc;subst ex;obtain rfl:u=Value.ref a:=rx;exact Zkm hu I2 g ry λl d=>⟨.bl (!ov.isSome),H2,d,rfl,q2⟩
theorem Zjo(hu:X.A.units+1<cLine)(j:PE X o td)(e:PE X i ty)(hv:PE X value tv)(hs:swapsWith value (some (.Subscript o i pos')) pos.line X.env=pure false):
  PS X (.Assign [.Subscript o i pos'] value pos) (Zjf td ty tv):=by
 intro b s c H D I h;refine wpAny_Assign_Subscript (gw (hv b s c H _ I h) λr k ⟨v,H1,I1,rv,q1⟩=>gw (j b k c H1 _ I1 q1) λu d ⟨x,H2,I2,rx,q2⟩=>gw (e b d c H2 _ I2 q2) λiv m qc=>?_) hs;obtain⟨y,H3,I3,ry,a,H4,ex,g,q3⟩:=qc;subst ex;obtain rfl:u=Value.ref a:=rx;exact Zmw hu I3 g ry rv λl f=>⟨c,H4,f,q3⟩
end
theorem Zqq{P:AM}{w:AO}{H:Hp}(h:Heap)(hb:sysModules<h.objs.size):fZ P w H (h.push { cls:=.type "dict",data:=.dict #[] }) h.objs.size (.dK []):=
 ⟨Nat.zero_le _,beq_eq_false_iff_ne.mpr (Ne.symm (Nat.ne_of_lt hb)),[],.nil,Heap.DictOf.new h⟩
def Zgl:TE:=λ_ H Q=>∀p,H p=none->Q (.ref p) (upd H p (.dK []))
section
variable {X:Cx}{pos:Pos}
theorem Zds:PE X (.Dict [] [] pos) Zgl:=λpins s σ H Q I h=>
 wpAny_Dict_empty ⟨.ref s.heap.objs.size,_,I.laid (a:=s.heap.objs.size) (o:=.dK []) (t':=s.toks) (λ_ _ q=>Heap.get?_push_of_some _ q) Γ (Zqq s.heap I.big),rfl,h _ (I.hok.fresh Γ)⟩
end
def Znf:List (TE×TE)->St->Hp->(List (V×V)->Hp->Prop)->Prop
 | [],_,H,Q=>Q [] H
 | (tk,c)::r,σ,H,Q=>tk σ H λx b=>c σ b λy a=>Znf r σ a λps d=>Q ((x,y)::ps) d
abbrev VV:List (V×V)->List (AJ×AJ)->Prop:=Paired λp q=>RelV p.1 q.1/\RelV p.2 q.2
def PPs(X:Cx)(c:Pos)(keys:List (Option AN))(a:AG)(b:List (TE×TE)):Prop:=
 ∀(pins:At) (s:AK) (σ:St) (H:Hp) (Q:List (V×V)->Hp->Prop),Inv X pins σ H s->Znf b σ H Q->
  wpAny υ X.A (evalPairs (pairTrees keys a X.env c)) (λvs s'=>∃ps H',Inv X pins σ H' s'/\VV ps vs/\Q ps H') X.xe s
structure M1(X:Cx)(o:AN)(m:Str)(apos:Pos)(e:AN)(cpos:Pos):Prop where
 base:attributeBase o m X.env (eval o X.env)=eval o X.env
 few:((backTo cpos (starEach [e] X.env)).all (λx=>!x.1) && (backToKw cpos (keywordEach [] X.env)).all (λx=>x.1.isSome)
  && decide (([e]:AG).length+([]:List Keyword).length+(if ([]:List Keyword).isEmpty then 0 else 1)<30))=true
 line:(apos.endLine == cpos.line)=true
 trees:backTo cpos (starEach [e] X.env)=[(false,eval e X.env)]
structure M2(X:Cx)(o:AN)(m:Str)(apos:Pos)(e f:AN)(cpos:Pos):Prop where
 base:attributeBase o m X.env (eval o X.env)=eval o X.env
 few:((backTo cpos (starEach [e,f] X.env)).all (λx=>!x.1) && (backToKw cpos (keywordEach [] X.env)).all (λx=>x.1.isSome)
  && decide (([e,f]:AG).length+([]:List Keyword).length+(if ([]:List Keyword).isEmpty then 0 else 1)<30))=true
 line:(apos.endLine == cpos.line)=true
 trees:backTo cpos (starEach [e,f] X.env)=[(false,eval e X.env),(false,eval f X.env)]
def IsD(H:Hp)(a:AI):Prop:=(∃b,Rd H a (.dK b))\/∃b,Rd H a (.dT b)
theorem Zpm{X:Cx}{pins:At}{σ:St}{H:Hp}{s:AK}{a:AI}(I:Inv X pins σ H s)(d:IsD H a):
  s.TypeIs (.ref a) "dict"/\(∀b,Value.ref a=.ref b->∃ob,s.heap.get? b=some ob/\ob.dict=none)/\(a == sysModules)=false:=by
 rcases d with ⟨c,e⟩ | ⟨c,e⟩
 ·obtain⟨_,hd,f,_,dd⟩:=IK I.hok e;refine⟨dd.typeIs,λb q=>?_,hd⟩;cases q;obtain⟨ob,_,_,h1,h2,_⟩:=dd;exact⟨ob,h1,h2.2.1⟩
 ·obtain⟨_,hd,g,_,dd⟩:=Zfj I.hok e;refine⟨dd.typeIs,λb q=>?_,hd⟩;cases q;obtain⟨ob,_,_,h1,h2,_⟩:=dd;exact⟨ob,h1,h2.2.1⟩
section
variable {X:Cx}{pins:At}{σ:St}{H:Hp}{s:AK}{a:AI}{y d:V}{u r:AJ}{o:Option V}{A:Around}{E:Ap}
end
section
variable {X:Cx}{o e f:AN}{apos cpos:Pos}{td ty tx:TE}
end
section
variable {X:Cx}{pins:At}{σ:St}{H:Hp}{s:AK}{a:AI}{kvs:List eJ}{A:Around}{E:Ap}
end
section
variable {X:Cx}{pins:At}{σ:St}{H:Hp}{s:AK}{a:AI}{y:V}{u:AJ}{A:Around}{E:Ap}
end
end L2
namespace Att
open PySem PySem.W PySem.Calls PyProof.Rows
section
variable {prog:AM}{w:AO}{A:Around}{E:Ap}{s:AK}{K:Frag}
end
end Att
namespace L2
open PySem PySem.Spec PyProof.Rows
section
variable {X:Cx}
end
section
variable {κ:Type} [DecidableEq κ]
end
end L2
set_option maxHeartbeats 40000000
namespace G
open PySem L2
section
variable {D:Ends}{σ:St}{H H1:Hp}{Q:VK}{t u:TS}{ta tb tc te:TE}{n:ν}{r:VK}{b c:ν}
theorem yD(h:t ⟨u ⟨n,r,b,c⟩,r,b,c⟩ σ H):aN t u ⟨n,r,b,c⟩ σ H:=h
theorem Zbs(h:n σ H):bR ⟨n,r,b,c⟩ σ H:=h
theorem Zt6(h:b σ H):Zgn ⟨n,r,b,c⟩ σ H:=h
theorem Zwo(h:te σ H λ_ H1=>n σ H1):iW te ⟨n,r,b,c⟩ σ H:=h
theorem M5(h:te σ H r):bw te ⟨n,r,b,c⟩ σ H:=h
theorem Zt3{c':TT}(h:c' σ H λk H1=>if k=true then t ⟨n,r,b,c⟩ σ H1 else u ⟨n,r,b,c⟩ σ H1):cZ c' t u ⟨n,r,b,c⟩ σ H:=h
theorem Zk5{g:TG}(h:te σ H λx H1=>g x σ H1 n):bC te g ⟨n,r,b,c⟩ σ H:=h
theorem i_C{v:V}(h:Q v H):tC v σ H Q:=h
theorem Zwf{f:R2}(h:ta σ H λx H1=>tb σ H1 λy a=>f x y a Q):bu f ta tb σ H Q:=h
theorem ZAj{f:V->Hp->VK->Prop}(h:ta σ H λx H1=>f x H1 Q):tUn f ta σ H Q:=h
def kB(q:Bool->Hp->Prop):VK:=λx H'=>∃k,x=.bl k/\q k H'
theorem i_B{k:Bool}{q:Bool->Hp->Prop}(h:q k H):kB q (.bl k) H:=⟨k,rfl,h⟩
theorem Zwc{q:Bool->Hp->Prop}(h:te σ H (kB q)):bJ te σ H q:=h
theorem Zyg{q:Bool->Hp->Prop}(h:te σ H (kB q)):tB te σ H q:=h
theorem Zyt{t u:TT}{q:Bool->Hp->Prop}(h:t σ H λk H1=>if k=true then u σ H1 q else q false H1):Zl8 t u σ H q:=h
theorem Zyh{t u:TT}{q:Bool->Hp->Prop}(h:t σ H λk H1=>if k=true then q true H1 else u σ H1 q):U9 t u σ H q:=h
theorem Zuo{t:TT}{q:Bool->Hp->Prop}(h:t σ H λk H1=>q (!k) H1):zQ t σ H q:=h
theorem Zwu(h:ta σ H (kB λk H1=>if k=true then tb σ H1 Q else Q (.bl false) H1)):Xx ta tb σ H Q:=h
theorem Zwg(h:ta σ H (kB λk H1=>Q (.bl (!k)) H1)):Zj8 ta σ H Q:=h
theorem Zyn{t:TT}(h:t σ H λk H1=>if k=true then ta σ H1 Q else tb σ H1 Q):tIf t ta tb σ H Q:=h
theorem ZAz{g:Int->Int->V}{i j:Int}(h:Q (g i j) H):iB g (.int i) (.int j) H Q:=⟨i,j,rfl,rfl,h⟩
theorem i_I{C:Int->Int->Prop}{g:Int->Int->V}{i j:Int}(hc:C i j)(h:Q (g i j) H):rI C g (.int i) (.int j) H Q:=⟨i,j,rfl,rfl,hc,h⟩
theorem i_U{g:Int->V}{i:Int}(h:Q (g i) H):rU g (.int i) H Q:=⟨i,rfl,h⟩
theorem Zys{i j:Int}(h:Q (.bl (decide (i=j))) H):qw (.int i) (.int j) H Q:=⟨rfl,by rw[show decide (V.int i=V.int j)=decide (i=j)from decide_eq_decide.mpr ⟨λe=>V.int.inj e,λe=>by rw[e]⟩];exact h⟩
theorem Zyr{i j:Str}(h:Q (.bl (decide (i=j))) H):qw (.str i) (.str j) H Q:=⟨rfl,by rw[show decide (V.str i=V.str j)=decide (i=j)from decide_eq_decide.mpr ⟨λe=>V.str.inj e,λe=>by rw[e]⟩];exact h⟩
theorem Zyk{i j:Int}(h:Q (.bl (!decide (i=j))) H):rNe (.int i) (.int j) H Q:=⟨rfl,by rw[show decide (V.int i=V.int j)=decide (i=j)from decide_eq_decide.mpr ⟨λe=>V.int.inj e,λe=>by rw[e]⟩];exact h⟩
theorem Zyj{i j:Str}(h:Q (.bl (!decide (i=j))) H):rNe (.str i) (.str j) H Q:=⟨rfl,by rw[show decide (V.str i=V.str j)=decide (i=j)from decide_eq_decide.mpr ⟨λe=>V.str.inj e,λe=>by rw[e]⟩];exact h⟩
def Vy:R2:=λx y H Q=>y=.non/\Q (.bl (decide (x=.non))) H
def qt:R2:=λx y H Q=>y=.non/\Q (.bl (!decide (x=.non))) H
theorem Zwm(h:Q (.bl true) H):Vy .non .non H Q:=⟨rfl,h⟩
theorem Zwl{i:Int}(h:Q (.bl false) H):Vy (.int i) .non H Q:=⟨rfl,h⟩
theorem Zwk{i:AI}(h:Q (.bl false) H):Vy (.ref i) .non H Q:=⟨rfl,h⟩
theorem Zsw(h:Q (.bl false) H):qt .non .non H Q:=⟨rfl,h⟩
theorem Zsv{i:Int}(h:Q (.bl true) H):qt (.int i) .non H Q:=⟨rfl,h⟩
theorem Zsu{i:AI}(h:Q (.bl true) H):qt (.ref i) .non H Q:=⟨rfl,h⟩
theorem Zhv{A B:Prop}(h:A):if true=true then A else B:=Zbg h
theorem Zbt{A B:Prop}(h:B):if false=true then A else B:=Hq h
theorem Zt1{A B:Prop}(h:B):if (!true)=true then A else B:=Hq h
theorem Zt2{A B:Prop}(h:A):if (!false)=true then A else B:=Zbg h
theorem lR{p A B:Prop} [Decidable p](h1:p->A)(h2:¬ p->B):if decide p=true then A else B:=Zw8 (λe=>h1 (of_decide_eq_true e)) (λe=>h2 (λq=>e (decide_eq_true q)))
theorem Wu{p A B:Prop} [Decidable p](h1:¬ p->A)(h2:p->B):if (!decide p)=true then A else B:=Zw8 (λe=>h1 (by simpa using e)) (λe=>h2 (by simpa using e))
theorem Zyi{q:List V->Hp->Prop}(h:q [] H):aG σ H q:=h
theorem Zws{q:List V->Hp->Prop}{t:TA}(h:ta σ H λx H1=>t σ H1 λxs a=>q (x::xs) a):aj ta t σ H q:=h
theorem Zyl{t:TA}(h:t σ H λxs H1=>xs.length<=sizeLine/\∀p,H1 p=none->Q (.ref p) (upd H1 p (.lst xs))):eU t σ H Q:=h
theorem Zye{t:TA}(h:t σ H λxs H1=>xs.length<=sizeLine/\∀p,H1 p=none->Q (.ref p) (upd H1 p (.tup xs))):cP t σ H Q:=h
theorem Zwt{t:TA}{sp:Sp}{pW:List V}{E:XK}(h:t σ H λvs H1=>sp (vs++pW) H1 Q E):aR sp pW E t σ H Q:=h
theorem ZB0{t:TA}{f:List V->Hp->VK->Prop}(h:t σ H λvs H1=>f vs H1 Q):oU f t σ H Q:=h
theorem Zwi{t:TA}{sp:Sp}{pW:List V}{E:XK}{C:AI}(h:t σ H λvs H1=>∀x dx,H1 x=none->H1 dx=none->dx≠x->sp (.ref x::(vs++pW)) (upd (upd H1 dx (.own x)) x (.ins C dx [])) (λv a=>v=.non/\Q (.ref x) a) E):rR C sp pW E t σ H Q:=h
def Zyc(K:aD)(f:Str)(Q:VK):VK:=λx H1=>∃a C dx fs v,x=.ref a/\H1 a=some (.ins C dx fs)/\Pq K C/\cJ K C f/\fs.lookup f=some v/\Q v H1
theorem Zyq{K:aD}{f:Str}(h:ta σ H (Zyc K f Q)):aZ K ta f σ H Q:=h
theorem aH{K:aD}{f:Str}{a C dx:AI}{fs:List (Str×V)}{v:V}(h:H a=some (.ins C dx fs))(hc:Pq K C)(hn:cJ K C f)(hl:fs.lookup f=some v)(q:Q v H):Zyc K f Q (.ref a) H:=⟨a,C,dx,fs,v,rfl,h,hc,hn,hl,q⟩
theorem Zwd{K:aD}{f:Str}{e:TE}(h:e σ H λy H1=>ta σ H1 λx d=>∃a C dx fs,x=.ref a/\d a=some (.ins C dx fs)/\Pq K C/\cJ K C f/\fs.length<1000/\n σ (upd d a (.ins C dx (bM f y fs)))):dM K ta e f ⟨n,r,b,c⟩ σ H:=h
theorem Zwh{C:AI}{m:Str}{sp:Sp}{pW:List V}{E:XK}{t:TA}(h:ta σ H λx H1=>∃a dx fs,x=.ref a/\H1 a=some (.ins C dx fs)/\fs.lookup m=none/\t σ H1 λvs b=>sp (x::(vs++pW)) b Q E):fP C m sp pW E ta t σ H Q:=h
theorem Zpq{q:AA->Hp->Prop}(h:q none H):pZ σ H q:=h
def kI(q:Int->Hp->Prop):VK:=λx H1=>∃i,x=.int i/\q i H1
theorem Zwe{q:AA->Hp->Prop}(h:te σ H (kI λi=>q (some i))):vB te σ H q:=h
theorem ZAl{i:Int}{q:Int->Hp->Prop}(h:q i H):kI q (.int i) H:=⟨i,rfl,h⟩
theorem ZAk{f:V->AA->AA->Hp->VK->Prop}{tl th:TO}(h:te σ H λx H1=>tl σ H1 λl a=>th σ a λu b=>f x l u b Q):tSl f te tl th σ H Q:=h
theorem ZAy{K:aD}{T:String}{f:V->List V->Hp->VK->Prop}{to:TE}{t:TA}(h:to σ H λx H1=>tyV K T x H1/\t σ H1 λxs a=>f x xs a Q):tBM K T f to t σ H Q:=h
theorem Zyp{e:TI}{g:TG}{tb:TS}(h:e σ H λJ H1=>∃W:Nat->Nat->ν,(∃m,W 0 m σ H1)/\∀i m σ H,W i m σ H->
 (J.stop i H/\n σ H)\/(J.go i H/\∃N:ν,(∀ a H',N a H'->∃f,f<m/\W b9 f a H')/\∀x H',J.yld i H x H'->g x σ H' λd j=>tb ⟨N,r,n,N⟩ d j)):rT e g tb ⟨n,r,b,c⟩ σ H:=h
theorem ZAp{K:aD}{R:It->Hp->Prop}(h:te σ H λx H1=>∃a,x=.ref a/\(∃xs,cA K H1 a xs)/\R (Itl K a) H1):pM K te σ H R:=h
theorem ZAo{ta:TA}{R:It->Hp->Prop}(h:ta σ H λvs H1=>∃j:Int,vs=[.int j]/\-(2 ^ 62)<=j/\j<2 ^ 62/\R (Itr 0 j.toNat) H1):M6 ta σ H R:=h
end
theorem ZAi{v:V}{l:St}{H:Hp}{Q:VK}(h:Q v H):ak 0 (some v::l) H Q:=⟨v,rfl,h⟩
theorem ZAh{a:Option V}{v:V}{l:St}{H:Hp}{Q:VK}(h:Q v H):ak 1 (a::some v::l) H Q:=⟨v,rfl,h⟩
theorem ZAx{a:Option V}{y:Option V}{v:V}{l:St}{H:Hp}{Q:ν}(h:Q (a::some v::l) H):aO 1 v (a::y::l) H Q:=h
theorem ZAg{a b:Option V}{v:V}{l:St}{H:Hp}{Q:VK}(h:Q v H):ak 2 (a::b::some v::l) H Q:=⟨v,rfl,h⟩
theorem Zyo{a b:Option V}{y:Option V}{v:V}{l:St}{H:Hp}{Q:ν}(h:Q (a::b::some v::l) H):aO 2 v (a::b::y::l) H Q:=h
theorem ZAf{b c a:Option V}{v:V}{l:St}{H:Hp}{Q:VK}(h:Q v H):ak 3 (b::c::a::some v::l) H Q:=⟨v,rfl,h⟩
theorem ZAw{b c a:Option V}{y:Option V}{v:V}{l:St}{H:Hp}{Q:ν}(h:Q (b::c::a::some v::l) H):aO 3 v (b::c::a::y::l) H Q:=h
theorem ZAe{c d b a:Option V}{v:V}{l:St}{H:Hp}{Q:VK}(h:Q v H):ak 4 (c::d::b::a::some v::l) H Q:=⟨v,rfl,h⟩
theorem ZAv{c d b a:Option V}{y:Option V}{v:V}{l:St}{H:Hp}{Q:ν}(h:Q (c::d::b::a::some v::l) H):aO 4 v (c::d::b::a::y::l) H Q:=h
theorem ZAd{d e b a c:Option V}{v:V}{l:St}{H:Hp}{Q:VK}(h:Q v H):ak 5 (d::e::b::a::c::some v::l) H Q:=⟨v,rfl,h⟩
theorem ZAu{d e b a c:Option V}{y:Option V}{v:V}{l:St}{H:Hp}{Q:ν}(h:Q (d::e::b::a::c::some v::l) H):aO 5 v (d::e::b::a::c::y::l) H Q:=h
theorem ZAc{e f c b d a:Option V}{v:V}{l:St}{H:Hp}{Q:VK}(h:Q v H):ak 6 (e::f::c::b::d::a::some v::l) H Q:=⟨v,rfl,h⟩
theorem ZAt{e f c b d a:Option V}{y:Option V}{v:V}{l:St}{H:Hp}{Q:ν}(h:Q (e::f::c::b::d::a::some v::l) H):aO 6 v (e::f::c::b::d::a::y::l) H Q:=h
theorem ZAb{f g c b d a e:Option V}{v:V}{l:St}{H:Hp}{Q:VK}(h:Q v H):ak 7 (f::g::c::b::d::a::e::some v::l) H Q:=⟨v,rfl,h⟩
theorem ZAs{f g c b d a e:Option V}{y:Option V}{v:V}{l:St}{H:Hp}{Q:ν}(h:Q (f::g::c::b::d::a::e::some v::l) H):aO 7 v (f::g::c::b::d::a::e::y::l) H Q:=h
theorem ZAa{g i c b d a f e:Option V}{v:V}{l:St}{H:Hp}{Q:VK}(h:Q v H):ak 8 (g::i::c::b::d::a::f::e::some v::l) H Q:=⟨v,rfl,h⟩
theorem ZAr{g i c b d a f e:Option V}{y:Option V}{v:V}{l:St}{H:Hp}{Q:ν}(h:Q (g::i::c::b::d::a::f::e::some v::l) H):aO 8 v (g::i::c::b::d::a::f::e::y::l) H Q:=h
theorem aL{H:Hp}{p:AI}(h:H p=none)(o:HO):bA H (upd H p o):=λb u q=>by rw[aB (aF q h)];exact q
theorem nwO{H b:Hp}{a:AI}{o:HO}(n:H a=none)(h:upd H a o=b):bA H b/\b a=some o:=by
 subst h;exact⟨aL n o,ao⟩
def tyN(H:Hp):V->Option String
 | .non=>some "NoneType"
 | .bl _=>some "bool"
 | .int _=>some "int"
 | .str _=>some "str"
 | .ref a=>match H a with
  | some (.lst _)=>some "list"
  | some (.wB _ (.lst _))=>some "list"
  | some (.tup _)=>some "tuple"
  | some (.dK _)=>some "dict"
  | some (.dT _)=>some "dict"
  | _=>none
 | _=>none
def pU(t n:String):Option Bool:=if ["int","bool","str","list","tuple","dict"].contains n then some (t == n || (t == "bool" && n == "int"))else none
def Zc8:List V->Hp->VK->Prop:=λxs H Q=>∃x n t k,xs=[x,.ty n]/\tyN H x=some t/\pU t n=some k/\Q (.bl k) H
theorem MP:pU "int" "int"=some true:=γ
theorem Hs:pU "int" "bool"=some false:=γ
theorem Zf4:pU "int" "str"=some false:=γ
theorem Zbm:pU "int" "list"=some false:=γ
theorem Wk:pU "int" "tuple"=some false:=γ
theorem Zbn:pU "int" "dict"=some false:=γ
theorem Zbr:pU "bool" "int"=some true:=γ
theorem Ws:pU "bool" "bool"=some true:=γ
theorem Zbq:pU "bool" "str"=some false:=γ
theorem Wq:pU "bool" "list"=some false:=γ
theorem Ti:pU "bool" "tuple"=some false:=γ
theorem Wr:pU "bool" "dict"=some false:=γ
theorem Zf3:pU "str" "int"=some false:=γ
theorem Zbj:pU "str" "bool"=some false:=γ
theorem MN:pU "str" "str"=some true:=γ
theorem Zbh:pU "str" "list"=some false:=γ
theorem Wf:pU "str" "tuple"=some false:=γ
theorem Zbi:pU "str" "dict"=some false:=γ
theorem J0:pU "NoneType" "int"=some false:=γ
theorem HD:pU "NoneType" "bool"=some false:=γ
theorem JZ:pU "NoneType" "str"=some false:=γ
theorem Hu:pU "NoneType" "list"=some false:=γ
theorem CW:pU "NoneType" "tuple"=some false:=γ
theorem HB:pU "NoneType" "dict"=some false:=γ
theorem Zbl:pU "list" "int"=some false:=γ
theorem Wj:pU "list" "bool"=some false:=γ
theorem Zbk:pU "list" "str"=some false:=γ
theorem Wh:pU "list" "list"=some true:=γ
theorem Tf:pU "list" "tuple"=some false:=γ
theorem Wi:pU "list" "dict"=some false:=γ
theorem We:pU "tuple" "int"=some false:=γ
theorem Te:pU "tuple" "bool"=some false:=γ
theorem Wd:pU "tuple" "str"=some false:=γ
theorem Tc:pU "tuple" "list"=some false:=γ
theorem Pa:pU "tuple" "tuple"=some true:=γ
theorem Td:pU "tuple" "dict"=some false:=γ
theorem Zbp:pU "dict" "int"=some false:=γ
theorem Wo:pU "dict" "bool"=some false:=γ
theorem Zbo:pU "dict" "str"=some false:=γ
theorem Wl:pU "dict" "list"=some false:=γ
theorem Th:pU "dict" "tuple"=some false:=γ
theorem Wn:pU "dict" "dict"=some true:=γ
theorem Zhx{i:Int}{H:Hp}{Q:VK}(h:Q (.bl true) H):Zc8 [.int i,.ty "int"] H Q:=⟨_,_,_,_,rfl,rfl,MP,h⟩
theorem Zf6{i:Int}{H:Hp}{Q:VK}(h:Q (.bl false) H):Zc8 [.int i,.ty "bool"] H Q:=⟨_,_,_,_,rfl,rfl,Hs,h⟩
theorem Zhw{i:Str}{H:Hp}{Q:VK}(h:Q (.bl true) H):Zc8 [.str i,.ty "str"] H Q:=⟨_,_,_,_,rfl,rfl,MN,h⟩
def gD(K:aD):List V->Hp->VK->Prop:=λxs H Q=>∃p a,xs=[.ref p]/\(cA K H p a\/dU K H p a)/\Q (.int a.length) H
theorem eV{K:aD}{a:AI}{H:Hp}{Q:VK}{xs:List V}(hp:cA K H a xs)(h:Q (.int xs.length) H):gD K [.ref a] H Q:=⟨a,xs,rfl,.inl hp,h⟩
theorem gQ{K:aD}{a:AI}{H:Hp}{Q:VK}{xs:List V}{i:Int}{v:V}(hp:cA K H a xs)(b:atI xs i=some v)(h:Q v H):jf K (.ref a) (.int i) H Q:=⟨a,xs,i,v,rfl,rfl,hp,b,h⟩
section
variable {K:aD}{a:AI}{xs:List V}{g:TG}{tb:TS}{σ:St}{H:Hp}{n:ν}{r:VK}
theorem forL(xs:List V)(Pv:Nat->ν)(h0:Pv 0 σ H)(hl:∀i σ H,i<=xs.length->Pv i σ H->cA K H a xs)
  (hs:∀i x σ H,xs[i]? =some x->Pv i σ H->g x σ H λb d=>tb ⟨Pv b9,r,n,Pv b9⟩ b d) (hd:∀ σ H,Pv xs.length σ H->n σ H):
  ∃W:Nat->Nat->ν,(∃m,W 0 m σ H)/\∀i m σ H,W i m σ H->
   ((Itl K a).stop i H/\n σ H)\/((Itl K a).go i H/\∃N:ν,(∀ c H',N c H'->∃e,e<m/\W b9 e c H')/\∀x H',(Itl K a).yld i H x H'->g x σ H' λb d=>tb ⟨N,r,n,N⟩ b d):=
 Zq6 (D:=⟨n,r,λ_ _=>False,λ_ _=>False⟩) Pv h0 hl hs hd
theorem forR{lo:Int}{k:Nat}(Pv:Nat->ν)(h0:Pv 0 σ H)
  (hs:∀i σ H,i<k->Pv i σ H->g (.int (lo+i)) σ H λa c=>tb ⟨Pv b9,r,n,Pv b9⟩ a c) (hd:∀ σ H,Pv k σ H->n σ H):
  ∃W:Nat->Nat->ν,(∃m,W 0 m σ H)/\∀i m σ H,W i m σ H->
   ((Itr lo k).stop i H/\n σ H)\/((Itr lo k).go i H/\∃N:ν,(∀ b H',N b H'->∃d,d<m/\W b9 d b H')/\∀x H',(Itr lo k).yld i H x H'->g x σ H' λa c=>tb ⟨N,r,n,N⟩ a c):=
 Zmm (D:=⟨n,r,λ_ _=>False,λ_ _=>False⟩) Pv h0 hs hd
end
theorem bD{n:Nat}(h:n<=1000000):n<=sizeLine:=Nat.le_trans h ε
def Zdq:R2:=λx y H Q=>∃i j,x=.str i/\y=.str j/\i.length+j.length<=sizeLine/\Q (.str (i++j)) H
theorem Zbu{i j:Str}{H:Hp}{Q:VK}(hz:i.length+j.length<=sizeLine)(h:Q (.str (i++j)) H):Zdq (.str i) (.str j) H Q:=⟨i,j,rfl,rfl,hz,h⟩
theorem Zym{z:Str}{i:Int}{c:Nat}{H:Hp}{Q:VK}(hz:z.length<=sizeLine)(a:atI z.cps.toList i=some c)(h:Q (.str ⟨#[c]⟩) H):Zo0 (.str z) (.int i) H Q:=⟨z,i,c,rfl,rfl,hz,a,h⟩
theorem Zpr{z:Str}{i:Int}{H:Hp}{Q:VK}(hz:z.length<=sizeLine)(h0:0<=i)(h1:i<z.length)(h:∀c:Nat,Q (.str ⟨#[c]⟩) H):Zo0 (.str z) (.int i) H Q:=by
 have hk:i.toNat<z.cps.toList.length:=by rw[Array.length_toList];exact(Int.toNat_lt h0).mpr h1
 have a:i=((i.toNat:Nat):Int):=δ
 have q:atI z.cps.toList ((i.toNat:Nat):Int)=some z.cps.toList[i.toNat]:=fW (bG hk);rw[<- a]at q;exact Zym hz q (h _)
def Zc6(z:Str)(lo a:AA):Str:=⟨((z.cps.toList.drop (HT.fX z.length 0 lo)).take (HT.fX z.length z.length a - HT.fX z.length 0 lo)).toArray⟩
theorem nu(z:Str)(lo a:AA):(Zc6 z lo a).length<=z.length:=by
 show(List.toArray _).size<=z.cps.size;rw[List.size_toArray,List.length_take,List.length_drop,Array.length_toList];omega
def Zli:V->AA->AA->Hp->VK->Prop:=λx lo a H Q=>∃z,x=.str z/\z.length<=sizeLine/\Q (.str (Zc6 z lo a)) H
theorem Zk4{z:Str}{lo a:AA}{H:Hp}{Q:VK}(hz:z.length<=sizeLine)(h:Q (.str (Zc6 z lo a)) H):Zli (.str z) lo a H Q:=⟨z,rfl,hz,h⟩
theorem str_len(z:Str):z.cps.toList.length=z.length:=Array.length_toList
def pick(σ:St)(j:Nat):Option V:=match σ[j]? with
 | some v=>v
 | none=>none
def tLC(e:TI)(a:List Nat)(tc:TT)(f:TE):TE:=λσ H Q=>e σ H λJ h=>∃W:Nat->Nat->List V->Hp->Prop,(∃m,W 0 m [] h)/\∀i m b H,W i m b H->
 (J.stop i H/\∀p,H p=none->Q (.ref p) (upd H p (.lst b)))\/
 (J.go i H/\b.length<sizeLine/\∀x H',J.yld i H x H'->tc (some x::a.map bp) H' λk d=>if k=true then f (some x::a.map bp) d (λy g=>∃c,c<m/\W b9 c (b++[y]) g)else ∃c,c<m/\W b9 c b d)
def wZ:TT:=λ_ H Q=>Q true H
theorem J3{σ:St}{H:Hp}{Q:Bool->Hp->Prop}(h:Q true H):wZ σ H Q:=h
theorem Zt4{r b:R2}{a tb tc:TE}{σ:St}{H:Hp}{Q:VK}(h:a σ H λx e=>tb σ e λy d=>r x y d (kB λk c=>if k=true then tc σ c (λw f=>b y w f Q)else Q (.bl false) c)):Zgm r b a tb tc σ H Q:=h
structure EqD(K:aD)(C:AI):Prop where
 eq:W.findIn K (.ref C) "__eq__"=some (some (.builtin "object.__eq__"))
 ob:W.mroIn K C (.type "object")=some true
def Vd(a:AI)(b:AJ):HO:=.ext λh=>∃o vs,h.get? a=some o/\o.cls=b/\o.data=.fields vs
def Cr(C:AI)(E:XK)(b:TA):TS:=λ_ σ H=>b σ H λvs a=>vs.length<=100/\E (.ref C) none a
def ZP(sp:Sp)(pW:List V)(E:St->XK)(t:TA):TE:=λσ H Q=>t σ H λvs a=>sp (vs++pW) a Q (E σ)
def Zgj(f:AJ->Prop)(i:Nat)(tb:(St->XK)->TS)(th:TS):TS:=λD σ H=>
 tb (λe b _ H'=>f b/\∀d,H' d=none->th ⟨λa c=>D.nx (a.set i none) c,D.rt,λa c=>D.bk (a.set i none) c,λa c=>D.ct (a.set i none) c⟩ (e.set i (↑d)) (upd H' d (Vd d b))) D σ H
section
variable {σ:St}{H:Hp}{Q:VK}{n:ν}{r:VK}{b c:ν}{te:TE}{t:TA}
theorem Zst{C:AI}{E:XK}(h:t σ H λvs a=>vs.length<=100/\E (.ref C) none a):Cr C E t ⟨n,r,b,c⟩ σ H:=h
theorem Zt5{sp:Sp}{pW:List V}{E:St->XK}(h:t σ H λvs a=>sp (vs++pW) a Q (E σ)):ZP sp pW E t σ H Q:=h
theorem Zss{j:AJ->Prop}{i:Nat}{tb:(St->XK)->TS}{th:TS}(h:tb (λg d _ H'=>j d/\∀f,H' f=none->th ⟨λa e=>n (a.set i none) e,r,λa e=>b (a.set i none) e,λa e=>c (a.set i none) e⟩ (g.set i (↑f)) (upd H' f (Vd f d))) ⟨n,r,b,c⟩ σ H):
  Zgj j i tb th ⟨n,r,b,c⟩ σ H:=h
end
theorem Zwn{to a:TE}{ts:Zty}{x:V}{σ:St}{H:Hp}{Q:ν}(h:to σ H λo b=>a σ b λi c=>ts o i x c λd=>Q σ d):TQ to a ts x σ H Q:=h
def Zmz(a:AJ->AJ->Option Bool)(t:AJ):AC->Option Bool
 | []=>some false
 | c::r=>match a t c with
  | some true=>some true
  | some false=>Zmz a t r
  | none=>none
def Zqy(Cs:AF)(b:AJ->AJ->Option Bool):List V->Hp->VK->Prop:=λxs H Q=>∃a c C k,(∃v,xs=[.ref a,v]/\RelV v c)/\C∈Cs/\H a=some (Vd a (.ref C))/\b (.ref C) c=some k/\Q (.bl k) H
def Zqx(Cs:AF)(b:AJ->AJ->Option Bool):List V->Hp->VK->Prop:=λxs H Q=>∃(a t:AI) (Ds:AF) (C:AI) (k:Bool),xs=[.ref a,.ref t]/\C∈Cs/\H a=some (Vd a (.ref C))/\H t=some (.tup (Ds.map V.ref))/\Zmz b (.ref C) (Ds.map Value.ref)=some k/\Q (.bl k) H
def yN(K:aD):List V->Hp->VK->Prop:=λxs H Q=>∃(p:AI) (a:List V),xs=[.ref p]/\cA K H p a/\∀l,H l=none->Q (.ref l) (upd H l (.lst a))
theorem PL{K:aD}{H:Hp}{Q:VK}{p:AI}{a:List V}(h1:cA K H p a)(h:∀l,H l=none->Q (.ref l) (upd H l (.lst a))):yN K [.ref p] H Q:=⟨p,a,rfl,h1,h⟩
def OkN(K:aD)(H:Hp)(xs:List V):Prop:=∀y∈xs,y=.non\/∃a C dx fs,y=.ref a/\H a=some (.ins C dx fs)/\Pq K C/\EqD K C
def Zvd(K:aD)(a:Bool):R2:=λx y H Q=>∃p xs,x=.non/\y=.ref p/\cA K H p xs/\OkN K H xs/\Q (.bl (if a then !decide (V.non∈xs)else decide (V.non∈xs))) H
theorem Zpp{K:aD}{H:Hp}{Q:VK}{p:AI}{xs:List V}(h1:cA K H p xs)(h2:OkN K H xs)(h:Q (.bl (!decide (V.non∈xs))) H):Zvd K true .non (.ref p) H Q:=⟨p,xs,rfl,rfl,h1,h2,h⟩
def Zjl(K:aD):V->List V->Hp->VK->Prop:=λx vs H Q=>∃p xs,x=.ref p/\vs=[.non]/\cA K H p xs/\OkN K H xs/\V.non∈xs/\Q (.int (xs.idxOf V.non)) H
def eqL(xs a:List V):Bool:=xs.length == a.length && (xs.zip a).all λp=>eqV p.1 p.2
def Zru(K:aD)(b:Bool):R2:=λx y H Q=>∃p q xs a,x=.ref p/\y=.ref q/\cA K H p xs/\cA K H q a/\(xs.length=a.length->xs.all lB=true/\a.all lB=true)/\Q (.bl (if b then !eqL xs a else eqL xs a)) H
def Fm(S:AF)(H H':Hp):Prop:=∀b o,H b=some o->b∉S->H' b=some o
theorem Fm.same{H H':Hp}(a:Fm [] H H'):bA H H':=λc o h=>a c o h av
theorem Zhu{x:V}{H:Hp}{Q:VK}(h:Q (.bl (!decide (x=.non))) H):qt x .non H Q:=⟨rfl,h⟩
def LCg(J:It)(a:List Nat)(tc:TT)(e:TE)(σ:St)(H:Hp)(Q:VK):Prop:=∃W:Nat->Nat->List V->Hp->Prop,(∃m,W 0 m [] H)/\∀i m b H,W i m b H->
 (J.stop i H/\∀p,H p=none->Q (.ref p) (upd H p (.lst b)))\/
 (J.go i H/\b.length<sizeLine/\∀x H',J.yld i H x H'->tc (some x::a.map bp) H' λk d=>if k=true then e (some x::a.map bp) d (λy f=>∃c,c<m/\W b9 c (b++[y]) f)else ∃c,c<m/\W b9 c b d)
theorem YT{b:TI}{a:List Nat}{tc:TT}{c:TE}{σ:St}{H:Hp}{Q:VK}(h:b σ H λJ d=>LCg J a tc c σ d Q):tLC b a tc c σ H Q:=h
theorem Zpg{J:It}{a:List Nat}{tc:TT}{h:TE}{σ:St}{H:Hp}{Q:VK}(k:Nat)(hz:k<=1000000)(g:Nat->Option V)
  (b:J.stop k H) (f:∀i,i<k->J.go i H) (hy:∀i x H',i<k->J.yld i H x H'->H'=H/\(∀q:Bool->Hp->Prop,q (g i).isSome H->tc (some x::a.map bp) H q)/\∀(y:V) (q:VK),g i=some y->q y H->h (some x::a.map bp) H q)
  (q:∀p,H p=none->Q (.ref p) (upd H p (.lst ((List.range k).filterMap g)))):
  LCg J a tc h σ H Q:=by
 refine⟨λi m j H'=>H'=H/\i<=k/\m=k - i/\j=(List.range i).filterMap g,⟨k,rfl,Nat.zero_le _,rfl,rfl⟩,?_⟩;rintro i m j _ ⟨rfl,l,rfl,rfl⟩
 by_cases hk:i=k
 ·subst hk;exact .inl ⟨b,q⟩
 ·have c:i<k:=δ
  refine .inr ⟨f i c,?_,λx H' y=>?_⟩
  ·refine Nat.lt_of_le_of_lt (Nat.le_trans (List.length_filterMap_le _ _) ?_) (show 1000000<sizeLine by decide);rw[List.length_range];omega
  ·obtain⟨rfl,h1,h2⟩:=hy i x H' c y;refine h1 _ ?_;have d:List.filterMap g (List.range b9)=List.filterMap g (List.range i)++(match g i with | some y=>[y] | none=>[]):=by
    rw[List.range_succ,List.filterMap_append];cases e:g i with
    | none=>rw[List.filterMap_cons_none e];rfl
    | some y=>rw[List.filterMap_cons_some e];rfl
   cases e:g i with
   | none=>
    rw[e]at d;dsimp only[Option.isSome];refine Hq ⟨k - b9,δ,rfl,δ,rfl,?_⟩;rw[d,List.append_nil]
   | some y=>
    rw[e]at d;dsimp only[Option.isSome];refine Zbg (h2 y _ e ⟨k - b9,δ,rfl,δ,rfl,?_⟩);rw[d]
theorem Zc2(l:List Nat)(p:Nat->Bool)(f:Nat->V):l.filterMap (λi=>if p i=true then some (f i)else none)=(l.filter p).map f:=by
 induction l with
 | nil=>rfl
 | cons a l ih=>
  by_cases h:p a=true
  ·rw[List.filterMap_cons_some (by rw[if_pos h]),List.filter_cons_of_pos h,List.map_cons,ih]
  ·rw[List.filterMap_cons_none (by rw[if_neg h]),List.filter_cons_of_neg h,ih]
theorem Zph{a:List Nat}{tc:TT}{g:TE}{σ:St}{H:Hp}{Q:VK}{n:Nat}{z:Int}(m:z.toNat=n)(p:Nat->Bool)(f:Nat->V)(hz:n<=1000000)
  (c:∀i,i<n->∀q:Bool->Hp->Prop,q (p i) H->tc (some (.int i)::a.map bp) H q)
  (d:∀i,i<n->p i=true->∀q:VK,q (f i) H->g (some (.int i)::a.map bp) H q)
  (q:∀l,H l=none->Q (.ref l) (upd H l (.lst (((List.range n).filter p).map f)))):
  LCg (Itr 0 z.toNat) a tc g σ H Q:=by
 subst m;refine Zpg z.toNat hz (λi=>if p i=true then some (f i)else none) Γ (λi b=>b) (λi x o b y=>?_) ?_
 ·obtain⟨h,k⟩:=y;have ex:x=.int i:=by rw[k];simp
  refine⟨h,λq hq=>?_,λy q hy hq=>?_⟩
  ·rw[ex];refine c i b q ?_;cases e:p i with
   | true=>rw[e]at hq;exact hq
   | false=>rw[e]at hq;exact hq
  ·rw[ex];cases e:p i with
   | true=>
    rw[e]at hy;have j:f i=y:=by simpa using hy
    exact d i b e q (by rw[j];exact hq)
   | false=>rw[e]at hy;simp at hy
 ·rw[Zc2];exact q
theorem Zjz{K:aD}{a:AI}{xs:List V}{b:List Nat}{tc:TT}{d:TE}{σ:St}{H:Hp}{Q:VK}(hs:cA K H a xs)(g:Nat->Option V)(hz:xs.length<=1000000)
  (hy:∀i x,xs[i]? =some x->(∀q:Bool->Hp->Prop,q (g i).isSome H->tc (some x::b.map bp) H q)/\∀(y:V) (q:VK),g i=some y->q y H->d (some x::b.map bp) H q)
  (q:∀p,H p=none->Q (.ref p) (upd H p (.lst ((List.range xs.length).filterMap g)))):
  LCg (Itl K a) b tc d σ H Q:=by
 refine Zpg xs.length hz g ⟨xs,hs,Nat.le_refl _⟩ (λi c=>⟨xs,xs[i],hs,bG c⟩) (λi x h c y=>?_) q;obtain⟨e,f⟩:=y;exact⟨e,hy i x (f xs hs)⟩
theorem oN{n i:Nat}(h:i<n):ixN n (i:Int)=some i:=by
 unfold ixN;rw[if_pos δ,if_pos δ];simp
theorem Zsr{n:Nat}{i:Int}(h0:0<=i)(h:i.toNat<n):ixN n i=some i.toNat:=by
 have e:i=((i.toNat:Nat):Int):=δ
 have:=oN h;rw[<- e]at this;exact this
theorem je{a:Type}{xs:List a}{i:Int}{v:a}(h0:0<=i)(h:xs[i.toNat]? =some v):atI xs i=some v:=by
 have e:i=((i.toNat:Nat):Int):=δ
 have:=fW h;rw[<- e]at this;exact this
inductive Al{α β:Type}(P:α->β->Prop):List α->List β->Prop
 | nil:Al P [] []
 | cons {x:α}{y:β}{xs:List α}{ys:List β}:P x y->Al P xs ys->Al P (x::xs) (y::ys)
section
variable {α β:Type}{P P':α->β->Prop}{xs:List α}{ys:List β}
theorem Al.length(h:Al P xs ys):xs.length=ys.length:=by
 induction h with
 | nil=>rfl
 | cons _ _ ih=>rw[List.length_cons,List.length_cons,ih]
theorem Al.mono(h:Al P xs ys)(f:∀x y,P x y->P' x y):Al P' xs ys:=by
 induction h with
 | nil=>exact .nil
 | cons p _ ih=>exact .cons (f _ _ p) ih
theorem Al.get(h:Al P xs ys):∀{i:Nat}{y:β},ys[i]? =some y->∃x,xs[i]? =some x/\P x y:=by
 induction h with
 | nil=>intro i y e;simp at e
 | cons p _ ih=>
  intro i y e;cases i with
  | zero=>simp at e;subst e;exact⟨_,rfl,p⟩
  | succ i=>
   obtain⟨x,a,b⟩:=ih (i:=i) (y:=y) (by simpa using e);exact⟨x,by simpa using a,b⟩
theorem Al.app(h:Al P xs ys){x:α}{y:β}(p:P x y):Al P (xs++[x]) (ys++[y]):=by
 induction h with
 | nil=>exact .cons p .nil
 | cons q t ih=>exact .cons q ih
theorem Al.mem(h:Al P xs ys){x:α}(hx:x∈xs):∃y,y∈ys/\P x y:=by
 induction h with
 | nil=>cases hx
 | cons q t ih=>
  rcases List.mem_cons.mp hx with e | e
  ·subst e;exact⟨_,List.mem_cons_self,q⟩
  ·obtain⟨y,h1,h2⟩:=ih e;exact⟨y,List.mem_cons_of_mem _ h1,h2⟩
end
abbrev Tg:=AI->Nat×Nat
def WT(H:Hp)(T:Tg):Prop:=∀b,H b=none->T b=(0,0)
structure cY(s:Nat)(H H':Hp)(T T':Tg):Prop where
 kp:∀b o,H b=some o->(T b).1≠s->H' b=some o
 al:∀b o,H b=some o->∃o',H' b=some o'
 tg:∀b o,H b=some o->T' b=T b
 wt:WT H' T'
def fL(T:Tg)(a:AI)(v:Nat×Nat):Tg:=λx=>if x=a then v else T x
theorem eF{T:Tg}{a:AI}{v:Nat×Nat}:fL T a v a=v:=by unfold fL;rw[if_pos rfl]
theorem gF{T:Tg}{a b:AI}{v:Nat×Nat}(h:b≠a):fL T a v b=T b:=by unfold fL;rw[if_neg h]
theorem WT.same{H H':Hp}{T:Tg}(w:WT H T)(s:bA H H'):WT H' T:=λb h=>w b (s.free h)
theorem cY.refl{s:Nat}{H:Hp}{T:Tg}(w:WT H T):cY s H H T T:=⟨λ_ _ h _=>h,λ_ o h=>⟨o,h⟩,λ_ _ _=>rfl,w⟩
theorem cY.same{s:Nat}{H H':Hp}{T:Tg}(w:WT H T)(e:bA H H'):cY s H H' T T:=⟨λb o h _=>e b o h,λb o h=>⟨o,e b o h⟩,λ_ _ _=>rfl,w.same e⟩
theorem cY.trans{s:Nat}{H c d:Hp}{T f e:Tg}(a:cY s H c T f)(b:cY s c d f e):cY s H d T e where
 kp:=λx o h n=>b.kp x o (a.kp x o h n) (by rw[a.tg x o h];exact n)
 al:=λx o h=>by
  obtain⟨o1,h1⟩:=a.al x o h;exact b.al x o1 h1
 tg:=λx o h=>by
  obtain⟨o1,h1⟩:=a.al x o h;rw[b.tg x o1 h1,a.tg x o h]
 wt:=b.wt
theorem cY.upd{s:Nat}{H:Hp}{T:Tg}{a:AI}{o c:HO}(w:WT H T)(ha:H a=some o)(d:(T a).1=s):cY s H (L2.upd H a c) T T where
 kp:=λx u h n=>by
  have:x≠a:=λe=>n (by rw[e];exact d);rw[aB this];exact h
 al:=λx u h=>by
  by_cases e:x=a
  ·exact⟨c,by rw[e,ao]⟩
  ·exact⟨u,by rw[aB e];exact h⟩
 tg:=λ_ _ _=>rfl
 wt:=λb h=>w b (by
  by_cases e:b=a
  ·rw[e,ao]at h;cases h
  ·rw[aB e]at h;exact h)
theorem R3{T:Tg}{a b:AI}{x y:Nat×Nat}(ha:T a=x)(hb:T b=y)(h:x≠y):a≠b:=λe=>h (by rw[<- ha,<- hb,e])
theorem Zw0{J:It}{b:List Nat}{tc:TT}{s:TE}{σ:St}{H:Hp}{Q:VK}(k:Nat)(hz:k<=1000000)(R:Nat->V->Hp->Prop)(mono:∀i y a f,R i y a->bA a f->R i y f)
  (d:∀H',bA H H'->J.stop k H') (l:∀i H',i<k->bA H H'->J.go i H')
  (hy:∀i x a H',i<k->bA H a->J.yld i a x H'->H'=a/\(∀q:Bool->Hp->Prop,q true a->tc (some x::b.map bp) a q)/\∀q:VK,(∀y f,bA a f->R i y f->q y f)->s (some x::b.map bp) a q)
  (q:∀c H',bA H H'->c.length=k->(∀(i:Nat) y,c[i]? =some y->R i y H')->∀p,H' p=none->Q (.ref p) (upd H' p (.lst c))):
  LCg J b tc s σ H Q:=by
 refine⟨λi m c H'=>bA H H'/\i<=k/\m=k - i/\c.length=i/\∀(j:Nat) y,c[j]? =some y->R j y H',⟨k,bA.refl _,Nat.zero_le _,rfl,rfl,λj y e=>by simp at e⟩,?_⟩;rintro i m c a ⟨h,v,rfl,hl,hr⟩
 by_cases hk:i=k
 ·subst hk;exact .inl ⟨d a h,q c a h hl hr⟩
 ·have g:i<k:=δ
  refine .inr ⟨l i a g h,Nat.lt_of_le_of_lt (show c.length<=1000000 by omega) (show 1000000<sizeLine by decide),λx H' y=>?_⟩;obtain⟨rfl,h1,h2⟩:=hy i x a H' g h y;refine h1 _ (Zbg (h2 _ λy f o r=>⟨k - b9,δ,h.trans o,δ,rfl,by rw[List.length_append,hl];rfl,λj z e=>?_⟩))
  by_cases t:j<c.length
  ·rw[List.getElem?_append_left t]at e;exact mono j z _ _ (hr j z e) o
  ·have n:=(cL e).1;rw[List.length_append,List.length_singleton]at n;have u:j=c.length:=δ
   subst u;rw[List.getElem?_append_right Γ,Nat.sub_self]at e;cases e;rw[hl];exact r
theorem Zso{J:It}{d:List Nat}{tc:TT}{w:TE}{σ:St}{H:Hp}{Q:VK}(k:Nat)(hz:k<=1000000)(R:Nat->AI->Hp->Prop)(mono:∀i y c g,R i y c->bA c g->R i y g)(al:∀i y c,R i y c->∃o,c y=some o)
  (f:∀H',bA H H'->J.stop k H') (n:∀i H',i<k->bA H H'->J.go i H')
  (hy:∀i x c H',i<k->bA H c->J.yld i c x H'->H'=c/\(∀q:Bool->Hp->Prop,q true c->tc (some x::d.map bp) c q)/\∀q:VK,(∀r g,bA c g->c r=none->R i r g->q (.ref r) g)->w (some x::d.map bp) c q)
  (q:∀(rs:AF) H',bA H H'->rs.length=k->rs.Nodup->(∀r∈rs,H r=none)->(∀(i:Nat) r,rs[i]? =some r->R i r H')->∀p,H' p=none->Q (.ref p) (upd H' p (.lst (rs.map V.ref)))):
  LCg J d tc w σ H Q:=by
 refine⟨λi m E H'=>∃rs:AF,E=rs.map V.ref/\bA H H'/\i<=k/\m=k - i/\rs.length=i/\rs.Nodup/\(∀r∈rs,H r=none)/\∀(j:Nat) r,rs[j]? =some r->R j r H',⟨k,[],rfl,bA.refl _,Nat.zero_le _,rfl,rfl,List.nodup_nil,λr hr=>(nomatch hr),λj y e=>by simp at e⟩,?_⟩;rintro i m _ c ⟨rs,rfl,h,F,rfl,hl,nd,B,hr⟩
 by_cases hk:i=k
 ·subst hk;exact .inl ⟨f c h,q rs c h hl nd B hr⟩
 ·have l:i<k:=δ
  refine .inr ⟨n i c l h,Nat.lt_of_le_of_lt (show(rs.map V.ref).length<=1000000 by rw[aX];omega) (show 1000000<sizeLine by decide),λx H' y=>?_⟩;obtain⟨rfl,h1,h2⟩:=hy i x c H' l h y;refine h1 _ (Zbg (h2 _ λr g v C D=>⟨k - b9,δ,rs++[r],by rw[List.map_append];rfl,h.trans v,δ,rfl,by rw[List.length_append,hl];rfl,?_,λz hz=>?_,λj z e=>?_⟩))
  ·rw[List.nodup_append];refine⟨nd,ζ,λa ha b hb e=>?_⟩;rw[List.mem_singleton.mp hb]at e;subst e;obtain⟨j,s,t⟩:=List.getElem_of_mem ha;obtain⟨o,A⟩:=al j a _ (hr j a (by rw[bG s,t]));rw[C]at A;cases A
  ·rcases List.mem_append.mp hz with hz | hz
   ·exact B z hz
   ·rw[List.mem_singleton.mp hz];exact h.free C
  ·by_cases s:j<rs.length
   ·rw[List.getElem?_append_left s]at e;exact mono j z _ _ (hr j z e) v
   ·have u:=(cL e).1;rw[List.length_append,List.length_singleton]at u;have t:j=rs.length:=δ
    subst t;rw[List.getElem?_append_right Γ,Nat.sub_self]at e;cases e;rw[hl];exact D
theorem Zen{K:aD}{a:AI}{xs:List V}{c:List Nat}{tc:TT}{h:TE}{σ:St}{H:Hp}{Q:VK}(hs:cA K H a xs)(hz:xs.length<=1000000)(R:Nat->AI->Hp->Prop)(mono:∀i y b d,R i y b->bA b d->R i y d)(al:∀i y b,R i y b->∃o,b y=some o)
  (e:∀x b,∀q:Bool->Hp->Prop,q true b->tc (some x::c.map bp) b q)
  (f:∀(i:Nat) x b,xs[i]? =some x->bA H b->∀q:VK,(∀r d,bA b d->b r=none->R i r d->q (.ref r) d)->h (some x::c.map bp) b q)
  (q:∀(rs:AF) H',bA H H'->rs.length=xs.length->rs.Nodup->(∀r∈rs,H r=none)->(∀(i:Nat) r,rs[i]? =some r->R i r H')->∀p,H' p=none->Q (.ref p) (upd H' p (.lst (rs.map V.ref)))):LCg (Itl K a) c tc h σ H Q:=by
 refine Zso xs.length hz R mono al (λH' s=>⟨xs,s.seq hs,Nat.le_refl _⟩) (λi H' g s=>⟨xs,xs[i],s.seq hs,bG g⟩) (λi x b H' g j y=>?_) q;obtain⟨k,l⟩:=y;exact⟨k,e x b,λq hq=>f i x b (l xs (j.seq hs)) j q hq⟩
end G
namespace G
open PySem L2 PySem.Spec PyProof.Rows
theorem boot_isinstance:bootBuiltins "isinstance"=some (.builtin "isinstance"):=γ
theorem boot_len:bootBuiltins "len"=some (.builtin "len"):=γ
theorem boot_int:bootBuiltins "int"=some (.type "int"):=γ
theorem boot_str:bootBuiltins "str"=some (.type "str"):=γ
theorem boot_bool:bootBuiltins "bool"=some (.type "bool"):=γ
theorem boot_list:bootBuiltins "list"=some (.type "list"):=γ
theorem boot_tuple:bootBuiltins "tuple"=some (.type "tuple"):=γ
structure Zxm(K:aD)(x qual:Str)(st:Stmt)(f:AI)(fd:AL):Prop where
 ex:∃(oc:AJ) (od:Option AI) (dV kV doc pm:AJ) (an:Option AI) (cdv ct:AJ) (osl:Array AB),
  fd=W.fnOf x qual (iM st) (fV st) ez dV kV doc pm an cdv ct/\K.lookup f=some ⟨oc,od,.func fd,osl⟩/\W.codeIn K cdv qual=true
 kp:W.keepIn K (.ref f)=true
section
variable {P:AM}{w:AO}{K:aD}{mg:As}{base:Heap}
theorem Ztc{x a:Str}{st:Stmt}{f:AI}{oc dV:AJ}{od g:Option AI}{e:Array AB}{kV d h b ct:AJ}(l:K.lookup f=some ⟨oc,od,.func (W.fnOf x a (iM st) (fV st) ez dV kV d h g b ct),e⟩)
  (c:W.codeIn K b a=true) (k:W.keepIn K (.ref f)=true):Zxm K x a st f (W.fnOf x a (iM st) (fV st) ez dV kV d h g b ct):=⟨⟨oc,od,dV,kV,d,h,g,b,ct,e,rfl,l,c⟩,k⟩
theorem Zxc{f c:AI}{oc tc:AJ}{od d:Option AI}{b ts:Array AB}{fd:AL}{a:Array AJ}{tn:Nat}{ps:AH}{ds:AC}(_:K.lookup f=some ⟨oc,od,.func fd,b⟩)(t:K.lookup c=some ⟨tc,d,.seq a tn,ts⟩)
  (h:∀us:AC,us.length+ds.length=ps.length->∃k,bindArgs fd ⟨us,[]⟩=seqItems? (.ref c) >>= k/\k (some a)=pure (ps.zip (us++ds))) (hd:fd.defaults=.ref c:=by rfl):Binds K fd ps ds:=by
 intro s us e hl;obtain⟨k,h1,h2⟩:=h us (by rw[List.length_append]at hl;exact hl);exact BindsTo.of_defaults hd (e _ _ t) rfl (by rw[h1,hd]) h2
end
section
variable {X:Cx}
theorem zG:uz X (compareOp .Is) Vy:=Zvh
theorem tO:uz X (compareOp .IsNot) qt:=Zs9
theorem cu:Cp X (.builtin "len") (gD X.K):=Zc7
def kk(t n:String):Option Bool:=if (Value.type t == Value.type n)=true then some true else if W.kitMeta n=true then(fastBuiltinMro t).map (·.contains (.type n))else none
theorem Zw2(K:aD)(t n:String):W.kitOne K (.type t) (.type n)=kk t n:=rfl
theorem Zhs:kk "int" "int"=some true:=γ
theorem Zev:kk "int" "bool"=some false:=γ
theorem Zhr:kk "int" "str"=some false:=γ
theorem Zet:kk "int" "list"=some false:=γ
theorem Zb8:kk "int" "tuple"=some false:=γ
theorem Zeu:kk "int" "dict"=some false:=γ
theorem Zez:kk "bool" "int"=some true:=γ
theorem Zbe:kk "bool" "bool"=some true:=γ
theorem Zey:kk "bool" "str"=some false:=γ
theorem Zbc:kk "bool" "list"=some false:=γ
theorem V9:kk "bool" "tuple"=some false:=γ
theorem Zbd:kk "bool" "dict"=some false:=γ
theorem Zhq:kk "str" "int"=some false:=γ
theorem Zeq:kk "str" "bool"=some false:=γ
theorem Zhp:kk "str" "str"=some true:=γ
theorem Zeo:kk "str" "list"=some false:=γ
theorem Zb4:kk "str" "tuple"=some false:=γ
theorem Zep:kk "str" "dict"=some false:=γ
theorem O9:kk "NoneType" "int"=some false:=γ
theorem JT:kk "NoneType" "bool"=some false:=γ
theorem O8:kk "NoneType" "str"=some false:=γ
theorem JR:kk "NoneType" "list"=some false:=γ
theorem Hl:kk "NoneType" "tuple"=some false:=γ
theorem JS:kk "NoneType" "dict"=some false:=γ
theorem Zes:kk "list" "int"=some false:=γ
theorem Zb7:kk "list" "bool"=some false:=γ
theorem Zer:kk "list" "str"=some false:=γ
theorem Zb5:kk "list" "list"=some true:=γ
theorem V7:kk "list" "tuple"=some false:=γ
theorem Zb6:kk "list" "dict"=some false:=γ
theorem Zb3:kk "tuple" "int"=some false:=γ
theorem V6:kk "tuple" "bool"=some false:=γ
theorem Zb2:kk "tuple" "str"=some false:=γ
theorem V4:kk "tuple" "list"=some false:=γ
theorem SQ:kk "tuple" "tuple"=some true:=γ
theorem V5:kk "tuple" "dict"=some false:=γ
theorem Zex:kk "dict" "int"=some false:=γ
theorem Zbb:kk "dict" "bool"=some false:=γ
theorem Zew:kk "dict" "str"=some false:=γ
theorem Zb9:kk "dict" "list"=some false:=γ
theorem V8:kk "dict" "tuple"=some false:=γ
theorem Zba:kk "dict" "dict"=some true:=γ
theorem Zv5{H:Hp}{x:V}{t:String}(e:tyN H x=some t):t="int"\/t="bool"\/t="str"\/t="NoneType"\/t="list"\/t="tuple"\/t="dict":=by
 unfold tyN at e;split at e<;>(first | (cases e;simp) | (split at e<;>(first | (cases e;simp) | cases e)) | cases e)
theorem Zw9{t n:String}{k:Bool}(e:pU t n=some k):n="int"\/n="bool"\/n="str"\/n="list"\/n="tuple"\/n="dict":=by
 unfold pU at e
 by_cases h:(["int","bool","str","list","tuple","dict"].contains n)=true
 ·simpa using h
 ·rw[if_neg h]at e;cases e
theorem Zy7{H:Hp}{x:V}{t n:String}{k:Bool}(a:tyN H x=some t)(e:pU t n=some k):kk t n=some k:=by
 rcases Zv5 a with rfl | rfl | rfl | rfl | rfl | rfl | rfl<;>rcases Zw9 e with rfl | rfl | rfl | rfl | rfl | rfl
 ·rw[MP]at e;rw[Zhs];exact e
 ·rw[Hs]at e;rw[Zev];exact e
 ·rw[Zf4]at e;rw[Zhr];exact e
 ·rw[Zbm]at e;rw[Zet];exact e
 ·rw[Wk]at e;rw[Zb8];exact e
 ·rw[Zbn]at e;rw[Zeu];exact e
 ·rw[Zbr]at e;rw[Zez];exact e
 ·rw[Ws]at e;rw[Zbe];exact e
 ·rw[Zbq]at e;rw[Zey];exact e
 ·rw[Wq]at e;rw[Zbc];exact e
 ·rw[Ti]at e;rw[V9];exact e
 ·rw[Wr]at e;rw[Zbd];exact e
 ·rw[Zf3]at e;rw[Zhq];exact e
 ·rw[Zbj]at e;rw[Zeq];exact e
 ·rw[MN]at e;rw[Zhp];exact e
 ·rw[Zbh]at e;rw[Zeo];exact e
 ·rw[Wf]at e;rw[Zb4];exact e
 ·rw[Zbi]at e;rw[Zep];exact e
 ·rw[J0]at e;rw[O9];exact e
 ·rw[HD]at e;rw[JT];exact e
 ·rw[JZ]at e;rw[O8];exact e
 ·rw[Hu]at e;rw[JR];exact e
 ·rw[CW]at e;rw[Hl];exact e
 ·rw[HB]at e;rw[JS];exact e
 ·rw[Zbl]at e;rw[Zes];exact e
 ·rw[Wj]at e;rw[Zb7];exact e
 ·rw[Zbk]at e;rw[Zer];exact e
 ·rw[Wh]at e;rw[Zb5];exact e
 ·rw[Tf]at e;rw[V7];exact e
 ·rw[Wi]at e;rw[Zb6];exact e
 ·rw[We]at e;rw[Zb3];exact e
 ·rw[Te]at e;rw[V6];exact e
 ·rw[Wd]at e;rw[Zb2];exact e
 ·rw[Tc]at e;rw[V4];exact e
 ·rw[Pa]at e;rw[SQ];exact e
 ·rw[Td]at e;rw[V5];exact e
 ·rw[Zbp]at e;rw[Zex];exact e
 ·rw[Wo]at e;rw[Zbb];exact e
 ·rw[Zbo]at e;rw[Zew];exact e
 ·rw[Wl]at e;rw[Zb9];exact e
 ·rw[Th]at e;rw[V8];exact e
 ·rw[Wn]at e;rw[Zba];exact e
theorem tyOf{K:aD}{H:Hp}{x:V}{t:String}(e:tyN H x=some t):Ka K H x (.type t):=by
 cases x with
 | non=>cases e;exact .non
 | bl y=>cases e;exact .bl y
 | int y=>cases e;exact .int y
 | str y=>cases e;exact .str y
 | byt y=>cases e
 | flt y=>cases e
 | ty y=>cases e
 | ref a=>
  have b:(match H a with | some (.lst _)=>some "list" | some (.wB _ (.lst _))=>some "list" | some (.tup _)=>some "tuple" | some (.dK _)=>some "dict" | some (.dT _)=>some "dict" | _=>none)=some t:=e;split at b
  ·rename_i h;cases b;exact .lst h
  ·rename_i h;cases b;exact .wB h
  ·rename_i h;cases b;exact .tup h
  ·rename_i h;cases b;exact .dK h
  ·rename_i h;cases b;exact .dT h
  ·cases b
theorem yM:Cp X (.builtin "isinstance") Zc8:=by
 intro c s j H i us Q I r h;obtain⟨x,n,t,k,rfl,d,hk,q⟩:=h;obtain⟨u,f,rfl,e,g⟩:=vals2 r;have a:f=Value.type n:=g;subst a;exact Zm1 (t:=.type t) (b:=k) I e (tyOf d) ((Zw2 _ _ _).trans (Zy7 d hk)) λtk=>⟨.bl k,H,I.tok _,rfl,q⟩
end
section
variable {X:Cx}
theorem IW(n:Nat)(o:AA)(d:Nat)(v:Int)(h:o=some v):max (0:Int) (min (if v<0 then v+n else v) n)=((HT.fX n d o:Nat):Int):=by
 subst h;show _=(((if v<0 then(v+(n:Int)).toNat else min v.toNat n:Nat)):Int);split<;>omega
theorem XC(lo a:AA)(n:Nat):Builtin.Str.strSliceIndices lo a 1 n=Builtin.Str.strSliceIndices (some ((HT.fX n 0 lo:Nat):Int)) (some ((HT.fX n n a:Nat):Int)) 1 n:=by
 have e:=HT.xK n 0 (Nat.zero_le _) lo;have d:=HT.xK n n Γ a;have b:max (0:Int) (min (if ((HT.fX n 0 lo:Nat):Int)<0 then((HT.fX n 0 lo:Nat):Int)+n else((HT.fX n 0 lo:Nat):Int)) n)=((HT.fX n 0 lo:Nat):Int):=by
  rw[if_neg δ];omega
 have c:max (0:Int) (min (if ((HT.fX n n a:Nat):Int)<0 then((HT.fX n n a:Nat):Int)+n else((HT.fX n n a:Nat):Int)) n)=((HT.fX n n a:Nat):Int):=by
  rw[if_neg δ];omega
 simp only[Builtin.Str.strSliceIndices,show((1:Int) > 0)=True from ζ,if_true];rw[b,c];cases lo with
 | none=>
  cases a with
  | none=>rfl
  | some j=>dsimp only;rw[IW n (some j) n j rfl];rfl
 | some i=>
  cases a with
  | none=>dsimp only;rw[IW n (some i) 0 i rfl];rfl
  | some j=>dsimp only;rw[IW n (some j) n j rfl,IW n (some i) 0 i rfl]
theorem Zlf(z:Str)(lo a:AA):(Builtin.Str.strSliceIndices lo a 1 z.length).filterMap (z.cps[·]?)=(z.cps.toList.drop (HT.fX z.length 0 lo)).take (HT.fX z.length z.length a - HT.fX z.length 0 lo):=by
 rw[XC]
 by_cases h:HT.fX z.length 0 lo<=HT.fX z.length z.length a
 ·exact StrLaws.sliced_plain z h (HT.xK _ _ Γ _)
 ·have e:HT.fX z.length z.length a - HT.fX z.length 0 lo=0:=δ
  rw[e,List.take_zero];have b:Builtin.Str.strSliceIndices (some ((HT.fX z.length 0 lo:Nat):Int)) (some ((HT.fX z.length z.length a:Nat):Int)) 1 z.length=[]:=by
   have d:=HT.xK z.length 0 (Nat.zero_le _) lo;have c:=HT.xK z.length z.length Γ a;simp only[Builtin.Str.strSliceIndices,sliceRange,show((1:Int) > 0)=True from ζ,if_true];rw[if_neg (by omega:¬ ((HT.fX z.length 0 lo:Nat):Int)<0),if_neg (by omega:¬ ((HT.fX z.length z.length a:Nat):Int)<0),if_neg δ];rfl
  rw[b];rfl
theorem part_of{v:AJ}{o:AA}(p:IsPart v o):∃q:Option (Int×Tok),v=partValue q/\q.map (·.1)=o:=by
 cases p with
 | none=>exact⟨none,rfl,rfl⟩
 | int i t=>exact⟨some (i,t),rfl,rfl⟩
theorem Za1:SlR X Zli:=by
 intro j s J H x v B E lo a sl Q I n hs r A h;obtain⟨z,rfl,hz,q⟩:=h;obtain⟨t,rfl⟩:=n;obtain⟨d,rfl,k⟩:=part_of r;obtain⟨c,rfl,i⟩:=part_of A;refine⟨"str",_,F.slot_str_getitem.lookup,typeIs_str _ _ _,?_⟩;refine wpAny_getItem_str_slice (l:=d) (u:=c) (st:=none) hs rfl ?_;have o:(slicePicked z d c none).filterMap (z.cps[·]?)=(z.cps.toList.drop (HT.fX z.length 0 lo)).take (HT.fX z.length z.length a - HT.fX z.length 0 lo):=by
  unfold slicePicked;rw[k,i];exact Zlf z lo a
 have em:(⟨((slicePicked z d c none).filterMap (z.cps[·]?)).toArray⟩:Str)=Zc6 z lo a:=by
  rw[o];rfl
 unfold sliceMade;split
 ·rename_i g
  have hl:(slicePicked z d c none).length=z.length:=by
   rw[Bool.and_eq_true]at g;exact beq_iff_eq.mp g.2
  have hc:Zc6 z lo a=z:=by
   have h1:(slicePicked z d c none)=Builtin.Str.strSliceIndices (some ((HT.fX z.length 0 lo:Nat):Int)) (some ((HT.fX z.length z.length a:Nat):Int)) 1 z.length:=by
    unfold slicePicked;rw[k,i];exact XC lo a z.length
   have y:=HT.xK z.length z.length Γ a;have D:=HT.xK z.length 0 (Nat.zero_le _) lo;have f:HT.fX z.length 0 lo<=HT.fX z.length z.length a\/z.length=0:=by
    by_cases b:HT.fX z.length 0 lo<=HT.fX z.length z.length a
    ·exact .inl b
    ·right
     rw[h1]at hl;have p:Builtin.Str.strSliceIndices (some ((HT.fX z.length 0 lo:Nat):Int)) (some ((HT.fX z.length z.length a:Nat):Int)) 1 z.length=[]:=by
      simp only[Builtin.Str.strSliceIndices,sliceRange,show((1:Int) > 0)=True from ζ,if_true];rw[if_neg (by omega:¬ ((HT.fX z.length 0 lo:Nat):Int)<0),if_neg (by omega:¬ ((HT.fX z.length z.length a:Nat):Int)<0),if_neg δ];rfl
     rw[p]at hl;exact hl.symm
   unfold Zc6;rcases f with b | h0
   ·rw[h1,StrLaws.strSliceIndices_plain b y,aX,List.length_range]at hl;have w:HT.fX z.length 0 lo=0:=δ
    have m:HT.fX z.length z.length a=z.length:=δ
    rw[w,m,List.drop_zero,Nat.sub_zero,<- str_len,List.take_length]
    all_goals rfl
   ·have e:z.cps=#[]:=Array.eq_empty_of_size_eq_zero h0;obtain⟨C⟩:=z;dsimp only at e;subst e;simp
  rw[hc]at q;exact⟨.str z,H,I,⟨_,rfl⟩,q⟩
 ·show Str.length _<=sizeLine/\_;rw[em];exact⟨Nat.le_trans (nu z lo a) hz,.str (Zc6 z lo a),H,I.tok _,⟨_,rfl⟩,q⟩
def GC(mg:As)(x:Str)(v:V):Prop:=∃u,mg x=some u/\RelV v u
theorem GC.pe{x:Str}{v:V}{a:Pos}(h:GC X.mg x v)(b:Gl X x)(hd:(x == ("__debug__":Str))=false:=by decide):PE X (.Name x a) (tC v):=by
 obtain⟨u,hm,r⟩:=h;exact uL b hm r hd
end
section
variable {X:Cx}
end
end G
namespace G
open PySem L2
end G
namespace G
open PySem L2 PySem.Spec PyProof.Rows
section
variable {X:Cx}{pins:At}{σ:L2.St}{H:Hp}{s:AK}{acc:AI}{ys:List V}{its:AC}{n:Nat}
theorem adopt(I:Inv X pins σ H s)(k:pR X pins H acc)(h:s.heap.get? acc=some { cls:=.type "list",data:=.seq its.toArray n })(hv:Vals ys its)(hz:ys.length<=sizeLine):Inv X pins σ (upd H acc (.lst ys)) s:=by
 obtain⟨j,a,l,i,d,g⟩:=k;have ne:∀b u,H b=some u->b≠acc:=λb u e=>aF e j;refine I.step (h':=s.heap) (g':=s.gens) (t':=s.toks) (d':=s.drawn) (ch:=[acc]) (λb hb=>?_) (λ_ _ _ _ _ e _=>e) (λb o _ _ _ e _=>⟨o.slots,e⟩) (λb o hb e h0=>?_) (λb o _ e=>⟨o,e⟩)
  (λb f e=>by rw[aB (ne b _ e)];exact e) (λb o u e=>by rw[aB (ne b _ e)];exact e) (λb p e=>⟨#[],by rw[aB (ne b _ e),e];simp⟩) (λm hm=>hm) (λb u e=>?_) I.bare
 ·have e:b=acc:=by simpa using hb
  subst e;exact⟨i,a,d,g⟩
 ·have e:b≠acc:=by simpa using hb
  rw[aB e];exact h0
 ·by_cases hb:b=acc
  ·subst hb;rw[ao]at e;cases e;exact⟨hz,its,n,hv,h⟩
  ·rw[aB hb]at e;exact(I.hok b u e).stay (λ_ _ _ q=>q) (λc q=>by rw[aB (ne c _ q)];exact q) λc f q=>by rw[aB (ne c _ q)];exact q
theorem disown(I:Inv X pins σ (upd H acc (.lst ys)) s)(l:pR X pins H acc):Inv X pins σ H s:=by
 obtain⟨k,d,n,i,f,h⟩:=l;have back:∀b u,upd H acc (.lst ys) b=some u->u≠.lst ys->H b=some u:=λb u e a=>by
  by_cases hb:b=acc
  ·subst hb;rw[ao]at e;cases e;exact absurd rfl a
  ·rw[aB hb]at e;exact e
 refine I.step (h':=s.heap) (g':=s.gens) (t':=s.toks) (d':=s.drawn) (ch:=[acc]) (λb hb=>?_) (λ_ _ _ _ _ e _=>e) (λb o _ _ _ e _=>⟨o.slots,e⟩) (λb o hb e h0=>?_) (λb o _ e=>⟨o,e⟩)
  (λb g e=>back b _ e av) (λb o u e=>back b _ e av) (λb p e=>⟨#[],by rw[back b _ e av];simp⟩) (λm hm=>hm) (λb u e=>?_) I.bare
 ·have e:b=acc:=by simpa using hb
  subst e;exact⟨i,d,f,h⟩
 ·have e:b≠acc:=by simpa using hb
  rw[aB e]at h0;exact h0
 ·have hb:b≠acc:=aF e k;have j:upd H acc (.lst ys) b=some u:=by rw[aB hb];exact e
  exact(I.hok b u j).stay (λ_ _ _ q=>q) (λc q=>back c _ q av) λc g q=>back c _ q av
end
def PF(X:Cx)(a:AG)(t:TT):Prop:=
 ∀(pins:At) (s:AK) (σ:L2.St) (H:Hp) (Q:Bool->Hp->Prop),Inv X pins σ H s->t σ H Q->
  wpAny υ X.A (forIn a true λc r=>if r=true then do let ok <- isTrue c X.env (eval c X.env);pure (ForInStep.yield ok)else pure (ForInStep.yield r)) (TP X pins σ Q) X.xe s
theorem Ro{X:Cx}:PF X [] wZ:=λ_ _ _ H _ I h=>wpAny_tests_nil ⟨H,I,h⟩
theorem Rn{X:Cx}{c:AN}{t:TT}(h:PT X c t):PF X [c] t:=λpins s σ H Q I q=>wpAny_tests_one (h pins s σ H Q I q)
def Ug(X:Cx)(a:Scope)(cl:List (Str×AI))(N:AH)(C:AI)(s:AK)(H:Hp)(ex:AF)(pn:At):Cx:=
 { X with N:=N,s₀:=s,H₀:=H,env:=compEnvC a cl C X.env,outer:=X.stack,ex:=ex,fn:=λ_=>false,pn:=pn,xe:=λ_ _=>False }
def AllIn(cells:List (Str×AI)):List (Str×AI)->Prop
 | []=>True
 | p::r=>cells.lookup p.1=some p.2/\AllIn cells r
theorem AllIn.get{cells:List (Str×AI)}:∀{cl:List (Str×AI)},AllIn cells cl->∀{x:Str}{c:AI},cl.lookup x=some c->cells.lookup x=some c
 | [],_,x,c,h=>by cases h
 | (y,d)::r,a,x,c,h=>by
  cases e:(x == y)with
  | true=>
   rw[List.lookup_cons,e]at h;have b:x=y:=beq_iff_eq.mp e;subst b;cases h;exact a.1
  | false=>
   rw[List.lookup_cons,e]at h;exact AllIn.get a.2 h
def zA(X:Cx):AH->List Nat->Prop
 | [],[]=>True
 | y::r,j::js=>X.N[j]? =some y/\X.env.kindOf y=some .cell/\zA X r js
 | _,_=>False
theorem zA.len{X:Cx}:∀{ns:AH}{js:List Nat},zA X ns js->ns.length=js.length
 | [],[],_=>rfl
 | [],_::_,h=>h.elim
 | _::_,[],h=>h.elim
 | _::r,_::js,h=>by rw[List.length_cons,List.length_cons,zA.len h.2.2]
theorem zA.get{X:Cx}{σ:L2.St}:∀{ns:AH}{js:List Nat},zA X ns js->∀{i:Nat}{x:Str}{v:V},ns[i]? =some x->(js.map bp)[i]? =some (some v)->∃j:Nat,X.N[j]? =some x/\X.env.kindOf x=some .cell/\σ[j]? =some (some v)
 | [],_,_,i,x,v,h,_=>by simp at h
 | _::_,[],h,_,_,_,_,_=>h.elim
 | y::r,j::js,h,0,x,v,h1,h2=>by
  simp at h1 h2;subst h1;refine⟨j,h.1,h.2.1,?_⟩;unfold pick at h2;split at h2
  ·rename_i e;rw[e,h2]
  ·cases h2
 | y::r,j::js,h,i+1,x,v,h1,h2=>zA.get (i:=i) h.2.2 (by simpa using h1) (by simpa using h2)
theorem Zpc{x n:Str}{k:NameKind}{r:List (Str×NameKind)}(h:(x == n)=false):List.lookup x ((n,k)::r)=List.lookup x r:=by rw[List.lookup_cons,h]
theorem Zpd{x n:Str}{k:NameKind}{r:List (Str×NameKind)}(h:(x == n)=true):List.lookup x ((n,k)::r)=some k:=by rw[List.lookup_cons,h]
def QT(env:Env)(x:Str)(k:NameKind):NameKind:=if (k == NameKind.free && env.scope.kind == .function && env.kindOf x == some .cell)=true then .cell else k
theorem pK{env:Env}{x:Str}:∀{names:List (Str×NameKind)},
  (names.map λ(n,k)=>if (k == NameKind.free && env.scope.kind == .function && env.kindOf n == some .cell)then(n,NameKind.cell)else(n,k)).lookup x=(names.lookup x).map (QT env x)
 | []=>rfl
 | (n,a)::r=>by
  have ih:=@pK env x r;show List.lookup x ((if (a == NameKind.free && env.scope.kind == .function && env.kindOf n == some .cell)=true then(n,NameKind.cell)else(n,a))::r.map λ(n,k)=>if (k == NameKind.free && env.scope.kind == .function && env.kindOf n == some .cell)then(n,NameKind.cell)else(n,k))=_;cases hx:x == n with
  | true=>
   have e:=beq_iff_eq.mp hx;subst e;rw[Zpd (k:=a) hx]
   by_cases hc:(a == NameKind.free && env.scope.kind == .function && env.kindOf x == some .cell)=true
   ·rw[if_pos hc,Zpd hx];show some NameKind.cell=some (QT env x a);unfold QT;rw[if_pos hc]
   ·rw[if_neg hc,Zpd hx];show some a=some (QT env x a);unfold QT;rw[if_neg hc]
  | false=>
   rw[Zpc (k:=a) (r:=r) hx]
   by_cases hc:(a == NameKind.free && env.scope.kind == .function && env.kindOf n == some .cell)=true
   ·rw[if_pos hc,Zpc hx];exact ih
   ·rw[if_neg hc,Zpc hx];exact ih
theorem lookup_all{names:List (Str×NameKind)}{p:Str×NameKind->Bool}:∀{x:Str}{k:NameKind},names.all p=true->names.lookup x=some k->p (x,k)=true:=by
 induction names with
 | nil=>intro x k _ h;simp at h
 | cons y r ih=>
  intro x k ha h;obtain⟨n,c⟩:=y;rw[List.all_cons,Bool.and_eq_true]at ha;cases hx:x == n with
  | true=>
   rw[List.lookup_cons,hx]at h;have a:x=n:=beq_iff_eq.mp hx;have b:c=k:=Option.some.inj h;rw[a,<- b];exact ha.1
  | false=>
   rw[List.lookup_cons,hx]at h;exact ih ha.2 h
theorem Zfr{prog:AM}{w:AO}{A:Around}{R:Result->AK->Prop}{s:AK}{q a iter:AN}{p:AG}{b:Scope}{B:Pos}{C acc:AJ}{env:Env}(I:Nat->AK->Prop)
  (turn:∀n s,I n s->wpAny Ω A (pyNext C) (λr f=>match r with
   | none=>R (.ok .next) f
   | some v=>wpAny Ω A (letOwnedTupleGo a C v) (λ_ d=>wpAny Ω A (assign a env v) (λ_ o=>
     wpAny Ω A (forIn p true λc r=>if r=true then do let ok <- isTrue c env (eval c env);pure (ForInStep.yield ok)else pure (ForInStep.yield r)) (λok e=>
      if ok=true then wpAny Ω A (eval q env) (λx l=>
       wpAny Ω A (call (.builtin "list.append") [acc,x]) (λ_ k=>∃m,m<n/\I m k) (λ_ _=>False) l) (λ_ _=>False) e
      else ∃m,m<n/\I m e) (λ_ _=>False) o) (λ_ _=>False) d) (λ_ _=>False) f) (λ_ _=>False) s)
  (n:Nat) (h:I n s):
  codeAny Ω A (.compLoop (.ListComp q [⟨a,iter,p,0⟩] b B) 0 C acc env) R s:=by
 refine codeAny_loop rfl I (λn s D=>?_) n h;show wpAny _ A ((compTurn (.ListComp q [⟨a,iter,p,0⟩] b B) 0 C acc env).onRaise (λx=>do noteFrame x env;theTreesLotGoes x)) _ _ s;refine wpAny_noted ?_;rw[compTurn_list];refine wpAny_bind (wpAny_standAt (wpAny_bind (wpAny_mono (turn n s D) (λr f i=>?_) λ_ _ g=>g.elim)));cases r with
 | none=>exact wpAny_pure i
 | some v=>
  refine wpAny_bind (wpAny_mono i (λ_ d t=>?_) λ_ _ g=>g.elim);refine wpAny_bind (wpAny_mono t (λ_ o z=>wpAny_bind (wpAny_mono z (λok e j=>?_) λ_ _ g=>g.elim)) λ_ _ g=>g.elim);cases ok with
  | false=>exact wpAny_pure ⟨rfl,j⟩
  | true=>
   exact wpAny_bind (wpAny_bind (wpAny_mono j (λx l y=>wpAny_bind (wpAny_mono y (λ_ k u=>wpAny_pure (wpAny_pure ⟨rfl,u⟩)) λ_ _ g=>g.elim)) λ_ _ g=>g.elim))
theorem Zsp{X:Cx}{elt iter tg:AN}{pos:Pos}{ifs:AG}{f:Scope}{cl:List (Str×AI)}{wi:TI}{tc:TT}{te:TE}{cns:AH}{ns:AH}{gt:TG}{R:It->L2.St->Hp->VK->Prop}{use:Option (AJ->Sem Unit)}{Q0:Ap}{pins:At}{s:AK}{σ:L2.St}{H:Hp}{Q:VK}(t:List Nat)
  (hR:∀J σ H Q,R J σ H Q->∃W:Nat->Nat->List V->Hp->Prop,(∃m,W 0 m [] H)/\∀i m K H,W i m K H->
   (J.stop i H/\∀p,H p=none->Q (.ref p) (upd H p (.lst K)))\/
   (J.go i H/\K.length<sizeLine/\∀x H',J.yld i H x H'->∀vs:L2.St,vs.length=ns.length->∃us:L2.St,us.length=ns.length/\gt x (vs++t.map bp) H' (λσ2 H2=>σ2=us++t.map bp/\H2=H')/\tc (us++t.map bp) H' λk H2=>if k=true then te (us++t.map bp) H2 (λy H3=>∃m',m'<m/\W b9 m' (K++[y]) H3)else ∃m',m'<m/\W b9 m' K H2))
  (hi:PI X tg iter wi) (hg:∀C s H ex pn,PG (Ug X f cl (ns++cns) C s H ex pn) tg gt)
  (hf:∀C s H ex pn,PF (Ug X f cl (ns++cns) C s H ex pn) ifs tc) (he:∀C s H ex pn,PE (Ug X f cl (ns++cns) C s H ex pn) elt te) (hc:X.calm=true)
  (hclos:closureFor f X.env=pure cl) (hcl:AllIn X.env.cells cl) (hcap:zA X cns t)
  (U:f.kind=.function) (hcell:(f.names.all λp=>p.2 != .cell)=true) (hfree:(f.names.all λp=>p.2 != .free || (cl.lookup p.1).isSome)=true)
  (hcf:(cns.all λy=>f.names.lookup y == some .free)=true) (hnames:∀y∈f.names,y.2=.local->f.names.lookup y.1=some .local)
  (hs:∀v,foldedSetIterable iter X.env v=pure v)
  (I:Inv X pins σ H s) (h:wi σ H λJ H1=>R J σ H1 Q)
  (hend:∀(acc C:AI) (s6:AK) (m:As) r0,s6.heap.Ns C m->(∀{Hf:Hp},Hf C=none->pR X pins Hf C)->(∀h',Heap.SameBut C s6.heap h'->EP X pins σ (λv Hf=>Q v Hf/\Hf C=none) (.ref acc) { s6 with heap:=h' })->compPost υ X.A X.xe use Q0 (.ref acc) C (.ok r0) s6):
  wpAny υ X.A (comprehension (.ListComp elt [⟨tg,iter,ifs,0⟩] f pos) f X.env (firstIterPos [⟨tg,iter,ifs,0⟩] pos) (newList []) (firstAsync [⟨tg,iter,ifs,0⟩]) (firstIter [⟨tg,iter,ifs,0⟩] X.env) use) Q0 X.xe s:=by
 refine wpAny_comprehension_free rfl hs hclos U hnames (gw (hi pins s σ H _ I h) λxv s1 h1=>gw h1 λitv s2 h2=>?_);obtain⟨it,Z,tn,J,H2,rfl,E,T,st2,f2,hr⟩:=h2;obtain⟨W,⟨m0,w0⟩,turn⟩:=hR _ _ _ _ hr;have hne:∀y∈f.names,y.2≠.cell:=λy hy e=>by
  have:=List.all_eq_true.mp hcell y hy;rw[e]at this;simp at this
 refine wpAny_newObj_type (wpAny_newFunctionEnv hne (by intro y hy;simp at hy) (λh₁ P N=>?_) U);dsimp only at P N ⊢;generalize F:s2.heap.objs.size=acc;generalize hH3:s2.heap.push { cls:=.type "list",dict:=none,data:=.seq ([]:AC).toArray }=O at P N ⊢;have hC:O.objs.size=acc+1:=by rw[<- hH3,Heap.size_push,F]
 have D:∀b o,s2.heap.get? b=some o->O.get? b=some o:=λb o e=>hH3 ▸ Heap.get?_push_of_some _ e;have L:∀b o,O.get? b=some o->h₁.get? b=some o:=λb o e=>N.extBut b o (Nat.ne_of_lt (Heap.lt_size e)) (Heap.get?_push_of_some _ e);have ZA1:O.get? acc=some { cls:=.type "list",dict:=none,data:=.seq ([]:AC).toArray }:=by
  rw[<- hH3,<- F];exact Heap.get?_push_size _ rfl
 have I3:Inv X pins σ H2 { s2 with heap:=O }:=E.kept (t':=s2.toks) D;have Zx1:pR X pins H2 acc:=E.Zfb (Nat.le_of_eq F) (E.hok.fresh (Nat.le_of_eq F));have fpl:∀b∈Z,b<acc:=λb hb=>by
  obtain⟨o,e,_⟩:=T.obj _ _ st2 b hb;rw[<- F];exact Heap.lt_size e
 have Zmn:∀b∈acc::Z,pR X pins H2 b:=λb hb=>(List.mem_cons.mp hb).elim (λe=>e ▸ Zx1) (f2 b);have exC:∀b∈acc::Z,b≠O.objs.size:=λb hb=>by
  rcases List.mem_cons.mp hb with e | hb
  ·rw[hC,e];exact Nat.ne_of_lt (Nat.lt_succ_self _)
  ·rw[hC];exact Nat.ne_of_lt (Nat.lt_succ_of_lt (fpl b hb))
 have Zgo:∀b∈acc::Z,b∉frs X.stack:=λb hb hm=>by
  obtain⟨_,g1,g2,_⟩:=Zmn b hb;exact(List.mem_cons.mp (E.Jr b hm)).elim g1 g2
 let Y:Cx:=Ug X f cl (ns++cns) O.objs.size { s2 with heap:=O } H2 (acc::Z) (X.pn++pins)
 have g:∀y c,cl.lookup y=some c->X.env.cells.lookup y=some c:=λy c e=>hcl.get e;have Zk1:∀y k,Y.env.kindOf y=some k->(k=.cell\/k=.free)->∃c,cl.lookup y=some c:=λy k e hk=>by
  have e0:(f.names.lookup y).map (QT X.env y)=some k:=pK.symm.trans e;obtain⟨k0,e1,e2⟩:=Option.map_eq_some_iff.mp e0;have e3:=lookup_all hfree e1;have e4:=lookup_all hcell e1
  by_cases hf:k0=.free
  ·subst hf;rw[Bool.or_eq_true]at e3;rcases e3 with e3 | e3
   ·exact absurd rfl (bne_iff_ne.mp e3)
   ·exact Option.isSome_iff_exists.mp e3
  ·exfalso
   have e5:QT X.env y k0=k0:=by
    unfold QT;rw[if_neg];intro z;rw[Bool.and_eq_true,Bool.and_eq_true]at z;exact hf (beq_iff_eq.mp z.1.1)
   rw[e5]at e2;subst e2;rcases hk with rfl | rfl
   ·simp at e4
   ·exact hf rfl
 have okY:Y.Ok:={
  mod:=E.ok.mod
  kind:=U
  glob:=E.ok.glob
  blt:=E.ok.blt
  above:=Nat.le_refl _
  inj:=λa b c e1 e2=>E.ok.inj a b c (g _ _ e1) (g _ _ e2)
  has:=λy hy=>hy.elim (λe=>Zk1 y _ e (.inl rfl)) (λe=>Zk1 y _ e (.inr rfl))
  cab:=λy c e=>nomatch e
  hd:=E.ok.hd
  frames:=E.ok.frames
  stk:=.inl rfl
  exf:=λb hb=>⟨exC b hb,λy c e=>(Zmn b hb).2.2.2.2.1 y c (g _ _ e)⟩
  bs:=λb o e=>⟨D b o (E.bs b o e).1,(E.bs b o e).2⟩
  bsz:=by
   show X.base.objs.size<=O.objs.size;rw[hC,<- F];exact Nat.le_succ_of_le (Nat.le_trans E.ok.bsz E.sz)
  Zee:=λb o e hb=>by
   rcases(Zmn b hb).2.2.2.1 with z | z
   ·exact E.ok.Zee b o e z
   ·exact absurd (Nat.lt_of_lt_of_le (Heap.lt_size e) (Nat.le_trans E.ok.bsz z)) (Nat.lt_irrefl _)
  Zi2:=Zgo
  ue:=I3.stack
  frf:=I3.ZR }
 have ZA6:(List.replicate ns.length none++t.map bp:L2.St).length=(ns++cns).length:=by rw[List.length_append,List.length_append,List.length_replicate,aX,hcap.len]
 have I4:Inv Y [] (List.replicate ns.length none++t.map bp) H2 { s2 with heap:=h₁,toks:=s2.toks+([]:List (Str×AJ)).length }:={
  ok:=okY
  os:=rfl
  bare:=E.bare
  base:=Un.kept L
  loc:=by
   refine⟨_,P,λi y v e1 e2 e3=>?_⟩
   by_cases hlt:i<ns.length
   ·have e2:(List.replicate ns.length none++t.map bp:L2.St)[i]? =some (some v):=e2;rw[List.getElem?_append_left (by rw[List.length_replicate];exact hlt),List.getElem?_replicate,if_pos hlt]at e2;cases e2
   ·have e1':cns[i - ns.length]? =some y:=by
     have e1':(ns++cns)[i]? =some y:=e1;rw[List.getElem?_append_right δ]at e1';exact e1'
    have e2':(t.map bp:L2.St)[i - ns.length]? =some (some v):=by
     have e2:(List.replicate ns.length none++t.map bp:L2.St)[i]? =some (some v):=e2;rw[List.getElem?_append_right (by rw[List.length_replicate];omega),List.length_replicate]at e2;exact e2
    obtain⟨j,j1,j2,j3⟩:=hcap.get (σ:=σ) (i:=i - ns.length) (x:=y) (v:=v) e1' e2';obtain⟨m,hn,hl⟩:=E.loc;obtain⟨u,r,l⟩:=hl j y v j1 j3 (.inr (.inl j2));rcases l with ⟨l,_⟩ | ⟨_,c,l1,l2⟩
    ·rw[j2]at l;cases l
    ·refine⟨u,r,.inr ?_⟩;rcases e3 with e3 | e3 | e3
     ·exfalso
      have hm:y∈cns:=List.mem_of_getElem? e1';have hl:f.names.lookup y=some .free:=beq_iff_eq.mp (List.all_eq_true.mp hcf y hm);have e0:(f.names.lookup y).map (QT X.env y)=some .local:=pK.symm.trans e3;rw[hl]at e0;have e5:QT X.env y .free=.local:=Option.some.inj e0;unfold QT at e5;split at e5<;>cases e5
     ·obtain⟨c',hc'⟩:=Zk1 y _ e3 (.inl rfl);have:=g _ _ hc';rw[l1]at this;cases this;exact⟨.inl e3,c,hc',l2.keeps λb o e=>L _ _ (D _ _ e)⟩
     ·obtain⟨c',hc'⟩:=Zk1 y _ e3 (.inr rfl);have:=g _ _ hc';rw[l1]at this;cases this;exact⟨.inr e3,c,hc',l2.keeps λb o e=>L _ _ (D _ _ e)⟩
  cell:=λy c e=>by
   obtain⟨v,z⟩:=E.cell y c (g _ _ e);exact⟨v,z.keeps λb o e=>L _ _ (D _ _ e)⟩
  free:=E.hok.fresh (by rw[F];show acc<=O.objs.size;rw[hC];exact Nat.le_succ _)
  m6:=λy c e=>E.m6 y c (g _ _ e)
  pin:=λp hp=>by
   have hp2:p∈(X.pn++pins)++[]:=hp;have hp':p∈X.pn++pins:=by rw[List.append_nil]at hp2;exact hp2
   obtain⟨p1,p2,p3,p4,p5⟩:=E.pin p hp';refine⟨L _ _ (D _ _ p1),p2,?_,λhm=>(List.mem_cons.mp (E.Jr _ hm)).elim p3 p4,p5⟩;exact Nat.ne_of_lt (by show p.1<O.objs.size;exact Heap.lt_size (D _ _ p1))
  hok:=E.hok.kept λb u e=>L _ _ (D _ _ e)
  len:=ZA6 }
 have fpY:∀{H':Hp}{pl:At}{b:AI},b∈acc::Z->H' b=none->(∀p∈pl,p.1≠b)->pR Y pl H' b:=λ{H' pl b} hb hn hp=>
  ⟨hn,exC b hb,Zgo b hb,.inl hb,λy c e=>(Zmn b hb).2.2.2.2.1 y c (g _ _ e),λp hm=>(List.mem_append.mp hm).elim (λz=>(Zmn b hb).2.2.2.2.2 p z) (hp p)⟩
 have fin:∀{S:L2.St}{H':Hp}{M:AK}{K:List V}{B:AC}{kk:Nat}{pl:At},Inv Y pl S H' M->H' acc=none->Vals K B->K.length<=sizeLine->
   M.heap.get? acc=some { cls:=.type "list",data:=.seq B.toArray kk }->(∀p,H' p=none->Q (.ref p) (upd H' p (.lst K)))->
   ∀h',Heap.SameBut O.objs.size M.heap h'->EP X pins σ (λv Hf=>Q v Hf/\Hf O.objs.size=none) (.ref acc) { M with heap:=h' }:=λ{S H' M K B kk pl} J ha hv hz ho hq h' hs'=>by
  have Zz1:acc≠O.objs.size:=exC acc (List.mem_cons_self);have Zf1:∀b o,b≠O.objs.size->M.heap.get? b=some o->h'.get? b=some o:=λb o hb e=>hs'.extBut b o hb e;have ltC:∀b o,s2.heap.get? b=some o->b≠O.objs.size:=λb o e=>Nat.ne_of_lt (Heap.lt_size (D b o e));have Zhz:H' O.objs.size=none:=J.free;have un:Un (frs X.stack) (acc::Z) H2 H' s2.heap h':={
   keep:=λb o e n hb hx=>Zf1 b o (ltC b o e) (J.base.keep b o (D b o e) n hb hx)
   slot:=λb o e n hb hx=>by
    obtain⟨sl,q⟩:=J.base.slot b o (D b o e) n hb hx;exact⟨sl,Zf1 b _ (ltC b o e) q⟩
   free:=λb o e n hx=>J.base.free b o (D b o e) n hx
   there:=λb o e hx=>by
    obtain⟨o',q⟩:=J.base.there b o (D b o e) hx;exact⟨o',Zf1 b o' (ltC b o e) q⟩
   tups:=J.base.tups
   Dc:=J.base.Dc
   DK:=J.base.DK }
  have hok:zx X.prog X.w H' h':=λb u e=>by
   refine(J.hok b u e).stay (λc v hc q=>Zf1 c v ?_ q) (λ_ q=>q) λ_ _ q=>q;rintro rfl;rcases hc with rfl | hc
   ·rw[Zhz]at e;cases e
   ·rw[Zhz]at hc;cases hc
  have I5:Inv X pins σ H' { M with heap:=h' }:=E.call' (ch:=acc::Z) J.os un hok J.bare λb hb=>by
   obtain⟨g0,g1,g2,g3,g4,g5⟩:=Zmn b hb;exact⟨g3,g1,g4,g5⟩
  refine⟨.ref acc,_,adopt (acc:=acc) I5 ?_ (Zf1 _ _ Zz1 ho) hv hz,rfl,hq acc ha,by rw[aB Zz1.symm];exact Zhz⟩;obtain⟨g0,g1,g2,g3,g4,g5⟩:=Zx1;exact⟨ha,g1,g2,g3,g4,g5⟩
 have loop:codeAny υ X.A (.compLoop (.ListComp elt [⟨tg,iter,ifs,0⟩] f pos) 0 (.ref it) (.ref acc) Y.env) (compPost υ X.A X.xe use Q0 (.ref acc) O.objs.size)
   { s2 with heap:=h₁,toks:=s2.toks+([]:List (Str×AJ)).length }:=by
  refine Zfr (λn M=>∃(i:Nat) (v:L2.St) (K:List V) (B:AC) (kk:Nat) (H':Hp),v.length=ns.length/\Inv Y [] (v++t.map bp) H' M/\tn i M.heap/\(∀b∈Z,H' b=none)/\H' acc=none/\Vals K B/\K.length<=sizeLine/\
   M.heap.get? acc=some { cls:=.type "list",data:=.seq B.toArray kk }/\W i n K H') ?_ m0 ⟨0,List.replicate ns.length none,[],[],0,H2,List.length_replicate,I4,T.keep _ _ _ st2 (λb _ o e=>L _ _ (D _ _ e)),λb hb=>(f2 b hb).1,Zx1.1,.nil,Nat.zero_le _,L _ _ ZA1,w0⟩
  rintro n s5 ⟨i,v,K,B,kk,H5,lv,I5,st5,fr5,ha5,hv5,hz5,ho5,w5⟩;have Zxz:Inv Y [(acc,{ cls:=.type "list",data:=.seq B.toArray kk })] (v++t.map bp) H5 s5:=I5.Gb λp hp=>by
   have e:p=(acc,{ cls:=.type "list",data:=.seq B.toArray kk }):=by simpa using hp
   subst e;exact⟨ho5,ha5,exC acc List.mem_cons_self,Zgo acc List.mem_cons_self,λv=>by intro z;cases z⟩
  have fpA:∀{H':Hp},(∀b∈Z,H' b=none)->∀b∈Z,pR Y [(acc,{ cls:=.type "list",data:=.seq B.toArray kk })] H' b:=λhn b hb=>fpY (List.mem_cons_of_mem _ hb) (hn b hb) λp hp=>by
   have e:p=(acc,{ cls:=.type "list",data:=.seq B.toArray kk }):=by simpa using hp
   subst e;exact(Nat.ne_of_lt (fpl b hb)).symm
  rcases turn i n K H5 w5 with ⟨stop,qn⟩ | ⟨go,hlt,step⟩
  ·refine gw (T.done Y rfl rfl rfl hc i _ s5 _ H5 (λ_ _=>False) Zxz (fpA fr5) st5 stop) λr s6 qc=>?_;obtain⟨hr,I6⟩:=qc;subst hr;obtain⟨m,hm,_⟩:=I6.loc;have ho6:=(I6.pin (acc,{ cls:=.type "list",data:=.seq B.toArray kk }) (List.mem_append_right _ List.mem_cons_self)).1;exact hend acc O.objs.size s6 m _ hm (λhf=>E.Zfb (by rw[hC,F];exact Nat.le_succ _) hf) (fin I6 ha5 hv5 hz5 ho6 qn)
  ·refine gw (T.item Y rfl rfl rfl hc i _ s5 _ H5 (λ_ _=>False) Zxz (fpA fr5) st5 go) λr s6 qc=>?_;obtain⟨u,hr,h6⟩:=qc;subst hr;refine gw h6 λ_ s7 qc=>?_;obtain⟨z,H7,I7,r7,y7,st7,fr7⟩:=qc;have I7':=I7.pinned (fpA fr7) (T.obj _ _ st7);obtain⟨us,lu,hgt,step⟩:=step z H7 y7 v lv;have pg:PG Y tg gt:=hg _ _ _ _ _;refine gw (pg _ s7 _ H7 z u (λσ2 H2'=>σ2=us++t.map bp/\H2'=H7) I7' r7 hgt) λ_ s8 qc=>?_;obtain⟨σ8,H8,I8,e8,e8'⟩:=qc;subst e8 e8';refine gw (hf _ _ _ _ _ _ s8 _ H8 _ I8 step) λok s9 qc=>?_;obtain⟨H9,I9,q9⟩:=qc;have stat:∀{H':Hp}{M:AK}{S:L2.St},Inv Y ([(acc,{ cls:=.type "list",data:=.seq B.toArray kk })]++Cy Z s7.heap) S H' M->tn b9 M.heap/\(∀b∈Z,H' b=none)/\H' acc=none/\M.heap.get? acc=some { cls:=.type "list",data:=.seq B.toArray kk }:=λ{H' M S} J=>by
    have pa:=J.pin (acc,{ cls:=.type "list",data:=.seq B.toArray kk }) (List.mem_append_right _ (List.mem_append_left _ List.mem_cons_self));refine⟨T.keep _ _ _ st7 λb hb o e=>(J.pin (b,o) di).1,λb hb=>?_,pa.2.1,pa.1⟩;obtain⟨o,e,d⟩:=T.obj _ _ st7 b hb;exact(J.pin (b,o) di).2.1
   have Zuj:∀{H':Hp}{M:AK}{S:L2.St}{pl:At},Inv Y pl S H' M->Inv Y [] S H' M:=λJ=>J.Gb λp hp=>nomatch hp;cases ok with
   | false=>
    obtain⟨m',hm,w9⟩:=q9;obtain⟨t1,t2,t3,t4⟩:=stat I9;exact⟨m',hm,i+1,us,K,B,kk,H9,lu,Zuj I9,t1,t2,t3,hv5,hz5,t4,w9⟩
   | true=>
    show wpAny _ _ (eval elt Y.env) _ _ s9;refine gw (he _ _ _ _ _ _ s9 _ H9 _ I9 q9) λy s10 qc=>?_;obtain⟨yv,H10,I10,r10,m',hm,w10⟩:=qc;obtain⟨t1,t2,t3,t4⟩:=stat I10;have ZEc:Inv Y (Cy Z s7.heap) (us++t.map bp) H10 s10:=I10.Gb λp hp=>I10.pin p (List.mem_append_right _ (List.mem_append_right _ hp));have fA:pR Y (Cy Z s7.heap) H10 acc:=fpY List.mem_cons_self t3 λp hp=>Nat.ne_of_lt (fpl _ (Yy hp).1);have Ja:=adopt ZEc fA t4 hv5 hz5;refine gw (lN (X:=Y) _ s10 _ _ (.ref acc) [yv] (.ref acc) [y] (λ_ H'=>H'=upd (upd H10 acc (.lst K)) acc (.lst (K++[yv]))) Ja rfl (.cons r10 .nil) ⟨acc,K,yv,rfl,rfl,ao,hlt,rfl⟩) λ_ s11 qc=>?_;obtain⟨_,H11,I11,_,e11⟩:=qc;rw[dg]at e11;subst e11;obtain⟨ZB1,its',kk',ZB2,ZB5⟩:=I11.hok acc _ ao;have Jd:=disown I11 fA;have Zzx:tn b9 s11.heap:=T.keep _ _ _ st7 λb hb o e=>(Jd.pin (b,o) (List.mem_append_right _ (pG hb e))).1;exact⟨m',hm,i+1,us,K++[yv],its',kk',H10,lu,Zuj Jd,Zzx,t2,t3,ZB2,ZB1,ZB5,w10⟩
 exact codeAny_compStart_list loop (T.self X.A 0 _ _ _ (T.keep _ _ _ st2 (λb _ o e=>L _ _ (D _ _ e))) loop)
theorem Zoc{X:Cx}{n iter tg:AN}{u:Pos}{l:AG}{a:Scope}{cl:List (Str×AI)}{B:TI}{tc:TT}{D:TE}{cns:AH}{ns:AH}{gt:TG}{R:It->L2.St->Hp->VK->Prop}(b:List Nat)
  (M:∀J σ H Q,R J σ H Q->∃W:Nat->Nat->List V->Hp->Prop,(∃m,W 0 m [] H)/\∀i m o H,W i m o H->
   (J.stop i H/\∀p,H p=none->Q (.ref p) (upd H p (.lst o)))\/
   (J.go i H/\o.length<sizeLine/\∀x H',J.yld i H x H'->∀vs:L2.St,vs.length=ns.length->∃us:L2.St,us.length=ns.length/\gt x (vs++b.map bp) H' (λt r=>t=us++b.map bp/\r=H')/\tc (us++b.map bp) H' λk r=>if k=true then D (us++b.map bp) r (λy K=>∃q,q<m/\W b9 q (o++[y]) K)else ∃q,q<m/\W b9 q o r))
  (Z:PI X tg iter B) (U:∀C s H ex pn,PG (Ug X a cl (ns++cns) C s H ex pn) tg gt)
  (T:∀C s H ex pn,PF (Ug X a cl (ns++cns) C s H ex pn) l tc) (S:∀C s H ex pn,PE (Ug X a cl (ns++cns) C s H ex pn) n D) (hc:X.calm=true)
  (g:closureFor a X.env=pure cl) (w:AllIn X.env.cells cl) (j:zA X cns b)
  (f:a.kind=.function) (e:(a.names.all λp=>p.2 != .cell)=true) (d:(a.names.all λp=>p.2 != .free || (cl.lookup p.1).isSome)=true)
  (A:(cns.all λy=>a.names.lookup y == some .free)=true) (c:∀y∈a.names,y.2=.local->a.names.lookup y.1=some .local)
  (hs:∀v,foldedSetIterable iter X.env v=pure v):
  PE X (.ListComp n [⟨tg,iter,l,0⟩] a u) (λσ H Q=>B σ H λJ L=>R J σ L Q):=by
 intro E s σ H Q I h;rw[eval_ListComp];refine Zsp b M Z U T S hc g w j f e d A c hs I h λF C s6 m r0 hm fC fin=>⟨m,hm,λO z=>?_⟩;obtain⟨v,N,Y,rf,P,_⟩:=fin O z;exact⟨v,N,Y,rf,P⟩
theorem Ye{X:Cx}{o iter:AN}{x:Str}{B r:Pos}{n:AG}{a:Scope}{cl:List (Str×AI)}{w:TI}{tc:TT}{A:TE}{cns:AH}(b:List Nat)
  (I:PI X (.Name x B) iter w)
  (M:∀C s H ex pn,PF (Ug X a cl (x::cns) C s H ex pn) n tc) (K:∀C s H ex pn,PE (Ug X a cl (x::cns) C s H ex pn) o A) (hc:X.calm=true)
  (e:closureFor a X.env=pure cl) (t:AllIn X.env.cells cl) (k:zA X cns b)
  (d:a.kind=.function) (j:(a.names.all λp=>p.2 != .cell)=true) (f:(a.names.all λp=>p.2 != .free || (cl.lookup p.1).isSome)=true)
  (u:(cns.all λy=>a.names.lookup y == some .free)=true) (c:∀y∈a.names,y.2=.local->a.names.lookup y.1=some .local) (hx:a.names.lookup x=some .local) (q:(x::cns).Nodup)
  (hs:∀v,foldedSetIterable iter X.env v=pure v:=by intro _;rfl):
  PE X (.ListComp o [⟨.Name x B,iter,n,0⟩] a r) (tLC w b tc A):=by
 refine Zoc (ns:=[x]) (gt:=aO 0) b (λJ N H Q h=>?_) I (λC s H ex pn=>dI q rfl (.inl (lookup_relabel_local hx)) (.inr (lookup_relabel_local hx))) M K hc e t k d j f u c hs;obtain⟨W,w0,turn⟩:=h;refine⟨W,w0,λi m L H E=>(turn i m L H E).imp id λ⟨g,l,st⟩=>⟨g,l,λz D y F hv=>?_⟩⟩
 match F,hv with
 | [v],_=>exact⟨[some z],rfl,⟨rfl,rfl⟩,st z D y⟩
theorem JH{P:AM}{w:AO}{H:Hp}{h:Heap}{a:AI}{o:HO}(x:fZ P w H h a o):∃ob,h.get? a=some ob:=by
 induction o with
 | lst c=>obtain⟨_,_,_,_,e⟩:=x;exact⟨_,e⟩
 | tup c=>obtain⟨_,_,_,ob,e,_⟩:=x;exact⟨ob,e⟩
 | dK b=>obtain⟨_,_,_,_,ob,_,_,e,_⟩:=x;exact⟨ob,e⟩
 | dT b=>obtain⟨_,_,_,_,ob,_,_,e,_⟩:=x;exact⟨ob,e⟩
 | set S n=>obtain⟨ob,_,_,_,e,_⟩:=x;exact⟨ob,e⟩
 | ins C j fs=>obtain⟨_,_,_,e,_⟩:=x;exact⟨_,e⟩
 | own y=>exact x
 | xd fs=>obtain⟨_,⟨ob,_,_,e,_⟩,_⟩:=x;exact⟨ob,e⟩
 | rng lo d=>obtain⟨_,_,_,e⟩:=x;exact⟨_,e⟩
 | wB ob u ih=>exact⟨_,x.1⟩
 | Qk i=>exact⟨_,x⟩
 | met f y=>exact⟨_,x⟩
 | ext g=>obtain⟨_,e,_⟩:=x;exact e
theorem ZJ{P:AM}{w:AO}{fs:AF}{g c:Hp}{h0 h1 h2:Heap}(u:Un fs [] g c h0 h1)(ok:zx P w c h1)(k:∀b∈fs,c b=none)
  (kp:∀b o,h1.get? b=some o->((∃v,h0.get? b=some v)\/∃v,c b=some v)->b∉fs->h2.get? b=some o) (sl:∀b o,h1.get? b=some o->b∈fs->∃z,h2.get? b=some { o with slots:=z }):
  Un fs [] g c h0 h2/\zx P w c h2:=by
 refine⟨⟨λb o e n hb hx=>kp b o (u.keep b o e n hb hx) (.inl ⟨o,e⟩) hb,λb o e n hb hx=>?_,u.free,λb o e hx=>?_,u.tups,u.Dc,u.DK⟩,λa o e=>?_⟩
 ·obtain⟨z,d⟩:=u.slot b o e n hb hx;obtain⟨j,f⟩:=sl b _ d hb;exact⟨j,f⟩
 ·obtain⟨i,d⟩:=u.there b o e hx
  by_cases hb:b∈fs
  ·obtain⟨z,f⟩:=sl b _ d hb;exact⟨_,f⟩
  ·exact⟨i,kp b i d (.inl ⟨o,e⟩) hb⟩
 ·refine(ok a o e).stay (λb v hb q=>?_) (λ_ q=>q) λ_ _ q=>q;have hs:∃v,c b=some v:=by
   rcases hb with z | z
   ·exact⟨o,by rw[z];exact e⟩
   ·exact⟨_,z⟩
  refine kp b v q (.inr hs) λz=>?_;obtain⟨l,h⟩:=hs;rw[k b z]at h;cases h
def Dw(P:AM)(w:AO):CXT:=λouter H s E e s'=>
 ∃(c:AI) (a a0:AJ) (B:Heap) (H':Hp),e=.ref c/\s'.os=s.os/\AllBare s'.gens/\Un (frs outer) [] H H' s.heap s'.heap/\zx P w H' s'.heap/\Heap.FlyingW B outer c a a0 s'.heap/\
  (∀b o,s'.heap.get? b=some o->((∃v,s.heap.get? b=some v)\/∃v,H' b=some v)->b∉frs outer->B.get? b=some o)/\E a none H'
theorem cQ{P:AM}{w:AO}{X:Cx}:Passes (Dw P w) X E0:=λ_ _ _ _ _ _ _ h=>by
 obtain⟨_,_,_,_,_,_,_,_,_,_,_,_,z⟩:=h;exact z.elim
section
variable {P:AM}{w:AO}{K:aD}{mg:As}{base:Heap}{N:AH}{qual:Str}{scope:Scope}{f:AI}{cd:AJ}{A:Around}{outer:List Env}{s:AK}{H:Hp}{E:XK}
theorem Gf:Passes (Dw P w) (zV (Dw P w) P w K mg base N qual scope f cd A outer s H E) E:=by
 intro i x L y e j I h;obtain⟨r,m,a0,B,c,rfl,os,bare,un,ok,fl,D,C⟩:=h;have J:Inv (zV (Dw P w) P w K mg base N qual scope f cd A outer s H E) i x c j:=I.call' os un ok bare (λb z=>nomatch z);have p:∀b o,s.heap.get? b=some o->b≠(envOfC qual scope s.heap.objs.size f cd).locals:=λb o e=>Nat.ne_of_lt ba;have n:∀b,((∃v,s.heap.get? b=some v)\/∃v,c b=some v)->b∉frs outer->b∉frs (envOfC qual scope s.heap.objs.size f cd::outer):=λb hb hn hm=>by
  rcases List.mem_cons.mp (J.Jr b hm)with z | z
  ·rcases hb with ⟨v,e⟩ | ⟨v,e⟩
   ·exact p b v e z
   ·rw[z]at e;have:=J.free;rw[e]at this;cases this
  ·exact hn z
 have l:∀b,((∃v,s.heap.get? b=some v)\/∃v,c b=some v)->(∃v,y.heap.get? b=some v)\/∃v,c b=some v:=λb hb=>by
  rcases hb with ⟨v,e⟩ | hb
  ·exact .inl (I.base.there b v e av)
  ·exact .inr hb
 refine wpAny_leaves_onW I.ok.frames rfl fl λF a sm=>?_;have k:∀b o,j.heap.get? b=some o->b∈frs outer->∀t,o.data≠.fields t:=λb o e hb=>by
  obtain⟨_,M,g,hd⟩:=J.ue.mem hb;rw[e]at g;cases g;exact hd
 have d:∀b o,j.heap.get? b=some o->((∃v,s.heap.get? b=some v)\/∃v,c b=some v)->b∉frs outer->B.get? b=some o:=λb o e hb hn=>D b o e (l b hb) (n b hb hn);have U:=ZJ (P:=P) (w:=w) (h2:=F) J.base J.hok (λb hb=>by
   obtain⟨_,o,u,_⟩:=J.ok.ue.mem hb;exact J.base.free b o u (J.ok.frf b hb) av) (λb o e hb hn=>a.1 _ _ (d b o e hb hn)) λb o e hb=>sm b o e (k b o e hb)
 refine⟨r,m,a0,B,c,rfl,J.os,J.bare,U.1,U.2,a,λb o e hb hn=>?_,C⟩;have there:∃v,j.heap.get? b=some v:=by
  rcases hb with ⟨v,z⟩ | ⟨v,z⟩
  ·exact J.base.there b v z av
  ·exact JH (J.hok b v z)
 obtain⟨v,z⟩:=there;have q:=d b v z hb hn;have:=a.1 _ _ q;rw[e]at this;cases this;exact q
theorem Ri{pins:At}{σ:L2.St}{g:Hp}{a:AK}{C e:AI}{vs:AC}{h1:Heap}(I:Inv (zV (Dw P w) P w K mg base N qual scope f cd A outer s H E) pins σ g a)
  (hx:Heap.MadeExcOf a.heap h1 e (.ref C) vs) (p:E (.ref C) none g):(zV (Dw P w) P w K mg base N qual scope f cd A outer s H E).xe (.ref e) { a with heap:=h1 }:=by
 have k:∀b o,s.heap.get? b=some o->b≠(envOfC qual scope s.heap.objs.size f cd).locals:=λb o e=>Nat.ne_of_lt ba;have i:∀b,((∃v,s.heap.get? b=some v)\/∃v,g b=some v)->b∉frs outer->b∉frs (envOfC qual scope s.heap.objs.size f cd::outer):=λb hb hn hm=>by
  rcases List.mem_cons.mp (I.Jr b hm)with z | z
  ·rcases hb with ⟨v,e⟩ | ⟨v,e⟩
   ·exact k b v e z
   ·rw[z]at e;have:=I.free;rw[e]at this;cases this
  ·exact hn z
 have n:a.heap.FunFrames (W.hideAll a.heap (frs (envOfC qual scope s.heap.objs.size f cd::outer))) (envOfC qual scope s.heap.objs.size f cd::outer):=
  W.funFrames_hide I.stack λenv l b hb=>List.mem_filterMap.mpr ⟨env,l,hb⟩
 refine wpAny_leaves_madeW (s:={ a with heap:=h1 }) I.ok.frames rfl (λb o q=>W.of_hideAll _ q) n hx λr t fl _ _ sm=>?_;have c:∀b o,a.heap.get? b=some o->((∃v,s.heap.get? b=some v)\/∃v,g b=some v)->b∉frs outer->(W.hideAll a.heap (frs (envOfC qual scope s.heap.objs.size f cd::outer))).get? b=some o:=
  λb o e hb hn=>W.hideAll_get _ e (i b hb hn)
 have h:∀b o,a.heap.get? b=some o->b∈frs outer->∀vs,o.data≠.fields vs:=λb o e hb=>by
  obtain⟨_,u,d,hd⟩:=I.ue.mem hb;rw[e]at d;cases d;exact hd
 have U:=ZJ (P:=P) (w:=w) (h2:=r) I.base I.hok (λb hb=>by
   obtain⟨_,o,m,_⟩:=I.ok.ue.mem hb;exact I.base.free b o m (I.ok.frf b hb) av) (λb o e hb hn=>fl.1 _ _ (c b o e hb hn)) λb o e hb=>sm b o (hx.keeps b o e) (h b o e hb)
 refine⟨e,.ref C,.ref t,_,g,rfl,I.os,I.bare,U.1,U.2,fl,λb o q hb hn=>?_,p⟩;have there:∃v,a.heap.get? b=some v:=by
  rcases hb with ⟨v,z⟩ | ⟨v,z⟩
  ·exact I.base.there b v z av
  ·exact JH (I.hok b v z)
 obtain⟨v,z⟩:=there;have j:=c b v z hb hn;have:=fl.1 _ _ j;rw[q]at this;cases this;exact j
end
abbrev ZEd(K:aD)(C:AI):Prop:=W.excIn K C [.type "ValueError",.type "Exception",.type "BaseException",.type "object"] "ValueError.__new__"=true
theorem Ztf{K:aD}{h:Heap}{C:AI}{n:AC}{r:String}(X:K.In h)(q:W.excIn K C n r=true):
  ∃tl N nm E bs hd sn sub ab col dd c f e b d mN,h.get? C=some (excClassObj nm E C N bs tl hd sn sub ab col dd c f e b d r)/\h.Ns N mN/\mN "__init__"=none/\OwnTail h n tl:=by
 unfold W.excIn at q;split at q
 ·rename_i dd j a k
  split at q
  ·rename_i F tl c f e b n2 d em m
   simp only[Bool.and_eq_true,beq_iff_eq,Bool.not_eq_true']at q;obtain⟨⟨⟨⟨⟨t,v⟩,e3⟩,y⟩,i⟩,o⟩:=q;subst t v;obtain⟨B,D,I,p,u,A,w,x,z,g,s⟩:=j;dsimp only at em e3 i o;subst em e3;have l:a=#[c,f,e,b,some (.builtin n2),d]:=by
    obtain⟨H⟩:=a;simp only at m;rw[m]
   subst l;refine⟨tl,p,B,u,D,A,w,x,z,g,dd,c,f,e,b,d,h.nsMap p,X _ _ k,?_,W.nsMap_none_of_in X i o,W.tail_of_in X y⟩;exact .of_isNs (W.isNs_of_in X i)
  ·cases q
 ·cases q
section
variable {X:Cx}{x:Str}{C:AI}{np cpos pos:Pos}{e:AN}{es:AG}{ta:TA}{E:XK}
theorem xV(hc:X.calm=true)(j:Gl X x)(hm:X.mg x=↑C)(hx:ZEd X.K C)(ha:PA X (e::es) ta)
  (u:∀(pins:At) (σ:L2.St) (H:Hp) (s:AK) (b:AI) (vs:AC) (h1:Heap),Inv X pins σ H s->Heap.MadeExcOf s.heap h1 b (.ref C) vs->E (.ref C) none H->X.xe (.ref b) { s with heap:=h1 })
  (hs:starEach (e::es) X.env=(false,eval e X.env)::starEach es X.env:=by rfl) (f:(backTo cpos ec).any (·.1)=false:=by rfl) (hd:(x == ("__debug__":Str))=false:=by decide):
  PS X (.Raise (some (.Call (.Name x np) (e::es) [] cpos)) none pos) (Cr C E ta):=by
 intro pins s σ H D I h;obtain⟨tl,N,nm,o,bs,c,sn,sub,ab,col,dd,i,n,m,g,k,mN,p,l,d,T⟩:=Ztf I.ok.mod.kin hx;refine wpAny_Raise_call_subT (C:=C) (nm:=nm) (q:=o) (N:=N) (bs:=bs) (bm:=tl) (hdct:=c) (sn:=sn) (sub:=sub) (ab:=ab) (col:=col) (dd:=dd) (k0:=i) (k1:=n) (k2:=m) (k3:=g) (k5:=k) PySem.F.excBase_ValueError (mN:=mN)
  (T.hasType PySem.F.excBase_ValueError.hasBase) (I.ok.hd hc) ?_ d (fU I j hm ⟨rfl,?_⟩ hd)
 ·rw[hs];show(false || (backTo cpos (starEach es X.env)).any (·.1))=false;rw[f];rfl
 ·have q:=ha cpos pins s σ H _ I h;rw[hs]at q ⊢;refine Calls.evalArgs_plain (gw q λus t ⟨vs,H1,I1,r,l1,hE1⟩=>⟨rfl,?_,I1.bk _ _ p,l.keeps I1.bk,T.keeps I1.bk,λh1 b a=>u pins σ H1 t b _ h1 I1 a hE1⟩);rw[<- r.length];exact Nat.le_trans l1 ε
end
def Zz(CX:CXT)(X:Cx)(E:L2.St->XK):Prop:=∀(pins:At) (σ:L2.St) (H:Hp) (s:AK) (e:AJ) (s':AK),Inv X pins σ H s->CX X.stack H s (E σ) e s'->X.xe e s'
section
variable {X:Cx}{CX:CXT}{k:Nat}{f C:AI}{fd:AL}{ps:AH}{sp:Sp}{pW:List V}{ds:AC}{E:L2.St->XK}{x m:Str}{p pos apos:Pos}{e o:AN}{es:AG}{ta:TE}{t:TA}
theorem Zrq{pins:At}{σ:L2.St}{H:Hp}{s:AK}{Q:VK}{us:AC}{vs:List V}(F:pX X.prog X.w X.K X.mg X.base CX k f fd ps sp)(hr:Room k X.A)(hb:Binds X.K fd ps ds)(hd:Vals pW ds)(hx:Zz CX X E)
  (I:Inv X pins σ H s) (r:Vals vs us) (h:sp (vs++pW) H Q (E σ)):wpAny υ X.A (call (.ref f) us) dv X.xe s:=by
 have a:Vals (vs++pW) (us++ds):=r.append hd;have hl:(us++ds).length=ps.length:=by rw[<- a.length];exact F.len _ _ _ _ h
 refine wpAny_call (codeAny_mono (F.run X.A X.stack s H ⟨us,[]⟩ (us++ds) (vs++pW) Q (E σ) hr I.env0 (hb s us I.oM hl) a h) λr b hq=>?_);cases r with
 | error e=>exact hx pins σ H s e b I hq
 | ok fl=>
  cases fl with
  | ret u=>exact I.after hq
  | next=>exact False.elim hq
  | brk=>exact False.elim hq
  | cont=>exact False.elim hq
theorem Zdt(F:pX X.prog X.w X.K X.mg X.base CX k f fd ps sp)(hr:Room k X.A)(d:Gl X x)(hm:X.mg x=↑f)(hk:W.keepIn X.K (.ref f)=true)(hb:Binds X.K fd ps ds)(hd:Vals pW ds)(hx:Zz CX X E)
  (ha:PA X (e::es) t) (b:(x == ("__debug__":Str))=false:=by decide) (g:starEach (e::es) X.env=(false,eval e X.env)::starEach es X.env:=by rfl) (c:(backTo pos ec).any (·.1)=false:=by rfl):
  PE X (.Call (.Name x p) (e::es) [] pos) (ZP sp pW E t):=by
 intro a s i H Q I h;refine wpAny_Call_Name_kw (fU I d hm ?_ b);refine W.callWith_K (h₀:=X.base) I.ok.mod.kin hk eL g c;exact Zrq F hr hb hd hx I1 r q
end
abbrev cxB(X:Cx)(pn:At)(xe:Ap):Cx:={ X with pn:=pn,xe:=xe }
abbrev J7(X:Cx)(ea:AJ)(pn:At):Cx:={ X with A:=X.A.mark (some ea),calm:=false,pn:=pn,xe:=λ_ _=>False }
section
variable {X:Cx}{pins:At}{σ:L2.St}{H:Hp}{s:AK}
theorem Zvl(ok:X.Ok)(pn:At)(xe:Ap):(cxB X pn xe).Ok:=
 ⟨ok.mod,ok.kind,ok.glob,ok.blt,ok.above,ok.inj,ok.has,ok.cab,ok.hd,ok.frames,ok.stk,ok.exf,ok.bs,ok.bsz,ok.Zee,ok.Zi2,ok.ue,ok.frf⟩
theorem Zvk(ok:X.Ok)(a:AJ)(pn:At):(J7 X a pn).Ok:=
 ⟨ok.mod,ok.kind,ok.glob,ok.blt,ok.above,ok.inj,ok.has,ok.cab,λz=>(nomatch z),ok.frames,ok.stk,ok.exf,ok.bs,ok.bsz,ok.Zee,ok.Zi2,ok.ue,ok.frf⟩
theorem Znb(I:Inv X pins σ H s)(xe:Ap):Inv (cxB X (X.pn++pins) xe) [] σ H s:=
 ⟨Zvl I.ok _ _,I.os,I.bare,I.base,I.loc,I.cell,I.free,I.m6,λp hp=>I.pin p (by simpa using hp),I.hok,I.len⟩
theorem JG{xe:Ap}{pl:At}(ok:X.Ok)(I:Inv (cxB X (X.pn++pins) xe) pl σ H s):Inv X pins σ H s:=
 ⟨ok,I.os,I.bare,I.base,I.loc,I.cell,I.free,I.m6,λp hp=>I.pin p (List.mem_append_left _ hp),I.hok,I.len⟩
theorem jj(I:Inv X pins σ H s)(a:AJ):Inv (J7 X a (X.pn++pins)) [] σ H s:=
 ⟨Zvk I.ok _ _,I.os,I.bare,I.base,I.loc,I.cell,I.free,I.m6,λp hp=>I.pin p (by simpa using hp),I.hok,I.len⟩
theorem Zao{a:AJ}{pl:At}(ok:X.Ok)(I:Inv (J7 X a (X.pn++pins)) pl σ H s):Inv X pins σ H s:=
 ⟨ok,I.os,I.bare,I.base,I.loc,I.cell,I.free,I.m6,λp hp=>I.pin p (List.mem_append_left _ hp),I.hok,I.len⟩
theorem Znn{xe:Ap}{D:Ends}{f:Flow}(ok:X.Ok)(h:SP (cxB X (X.pn++pins) xe) [] D f s):SP X pins D f s:=by
 cases f with
 | next=>obtain⟨a,b,I,q⟩:=h;exact⟨a,b,JG ok I,q⟩
 | brk=>obtain⟨a,b,I,q⟩:=h;exact⟨a,b,JG ok I,q⟩
 | cont=>obtain⟨a,b,I,q⟩:=h;exact⟨a,b,JG ok I,q⟩
 | ret u=>obtain⟨v,a,b,I,r,q⟩:=h;exact⟨v,a,b,JG ok I,r,q⟩
theorem Qu{c:AJ}{D:Ends}{f:Flow}(ok:X.Ok)(h:SP (J7 X c (X.pn++pins)) [] D f s):SP X pins D f s:=by
 cases f with
 | next=>obtain⟨a,b,I,q⟩:=h;exact⟨a,b,Zao ok I,q⟩
 | brk=>obtain⟨a,b,I,q⟩:=h;exact⟨a,b,Zao ok I,q⟩
 | cont=>obtain⟨a,b,I,q⟩:=h;exact⟨a,b,Zao ok I,q⟩
 | ret u=>obtain⟨v,a,b,I,r,q⟩:=h;exact⟨v,a,b,Zao ok I,r,q⟩
theorem flown{h:AI}{g a0:AJ}{B:Heap}{d:Hp}{a:AK}{f:Heap}(I:Inv X pins σ H s)(os:a.os=s.os)(bare:AllBare a.gens)(un:Un (frs X.stack) [] H d s.heap a.heap)(ok:zx X.prog X.w d a.heap)
  (fl:Heap.FlyingW B X.stack h g a0 a.heap) (k:∀b o,a.heap.get? b=some o->((∃v,s.heap.get? b=some v)\/∃v,d b=some v)->b∉frs X.stack->B.get? b=some o)
  (st:B.StaysIn f) (sm:a.heap.UpToSlots f):Inv X pins σ d { a with heap:=f }:=by
 have j:∀b∈frs X.stack,d b=none:=λb hb=>by
  obtain⟨_,o,i,_⟩:=I.stack.mem hb;exact un.free b o i (I.ZR b hb) av
 have U:=ZJ (P:=X.prog) (w:=X.w) (h2:=f) un ok j (λb o e hb hn=>st _ _ (k b o e hb hn)) λb o e hb=>by
  obtain⟨_,l,c,hd⟩:=fl.2.2.1.mem hb;rw[e]at c;cases c;exact sm b o e hd
 exact I.call' (s':={ a with heap:=f }) (ch:=[]) os U.1 U.2 bare (λb z=>nomatch z)
end
section
variable {X:Cx}{x:Str}{C:AI}{np pos hpos:Pos}{body suite:List Stmt}{b₀:Stmt}{Mt:AJ->Prop}{tb:(L2.St->XK)->TS}{th:TS}
theorem Zxe{pins:At}{σ:L2.St}{H:Hp}{s:AK}{a:AI}{o:HO}(I:Inv X pins σ H s)(h0:H a=none)(hn:X.s₀.heap.get? a=none)(hl:a≠X.env.locals)(hc:∀y c,X.env.cells.lookup y=some c->c≠a)
  (hp:∀p∈X.pn++pins,p.1≠a) (ok:fZ X.prog X.w dz s.heap a o):Inv X pins σ dz s:=by
 have ne:∀b u,H b=some u->b≠a:=λb u e=>aF e h0;refine⟨I.ok,I.os,I.bare,⟨I.base.keep,I.base.slot,λb u e n hx=>?_,I.base.there,λb f e=>?_,λb u f e=>?_,λb j e=>?_⟩,I.loc,I.cell,?_,λy c e=>?_,λp hm=>?_,λb u e=>?_,I.len⟩
 ·have:b≠a:=λz=>by rw[z,hn]at e;cases e
  rw[aB this];exact I.base.free b u e n hx
 ·have:=I.base.tups b f e;rw[aB (ne _ _ this)];exact this
 ·have:=I.base.Dc b u f e;rw[aB (ne _ _ this)];exact this
 ·obtain⟨d,this⟩:=I.base.DK b j e;exact⟨d,by rw[aB (ne _ _ this)];exact this⟩
 ·rw[aB hl.symm];exact I.free
 ·rw[aB (hc y c e)];exact I.m6 y c e
 ·obtain⟨i,h,g⟩:=I.pin p hm;exact⟨i,by rw[aB (hp p hm)];exact h,g⟩
 ·by_cases z:b=a
  ·subst z;rw[ao]at e;cases e;exact ok
  ·rw[aB z]at e;exact(I.hok b u e).stay (λ_ _ _ q=>q) (λc q=>by rw[aB (ne _ _ q)];exact q) λc f q=>by rw[aB (ne _ _ q)];exact q
theorem PN{pins:At}{σ:L2.St}{H:Hp}{s:AK}{i:Nat}{x:Str}{pos:Pos}{M:Model}{A:Around}{E:Ap}{Q:Unit->AK->Prop}(I:Inv X pins σ H s)(F:X.N.Nodup)(D:X.N[i]? =some x)(hk:X.env.scope.names.lookup x=some .local)
  (h:∀s',Inv X pins (σ.set i none) H s'->Q () s'):wpAny M A (do bindName X.env x .none;unbindBehindTheSuite X.env x pos) Q E s:=by
 obtain⟨m,hn,hl⟩:=id I.loc;have r:(X.env.scope.kind == .class || (X.env.scope.kind == .module && X.env.locals != X.env.globals))=false:=by rw[I.ok.kind];rfl
 refine wpAny_nameGoes_keeps hk hn r λP v t hs=>h _ ?_;have a:∀b o,X.s₀.heap.get? b=some o->b≠X.env.locals:=λb o e=>Nat.ne_of_lt ba;refine⟨I.ok,I.os,I.bare,⟨λb o e n hb hx=>(hs.2 b (a b o e)).trans (I.base.keep b o e n hb hx),λb o e n hb hx=>?_,I.base.free,λb o e hx=>?_,I.base.tups,I.base.Dc,I.base.DK⟩,⟨_,t,λj y K f g e3=>?_⟩,λy c e=>?_,I.free,I.m6,λp hp=>?_,λb u e=>?_,by rw[List.length_set];exact I.len⟩
 ·obtain⟨sl,f⟩:=I.base.slot b o e n hb hx;exact⟨sl,(hs.2 b (a b o e)).trans f⟩
 ·obtain⟨L,f⟩:=I.base.there b o e hx;exact⟨L,(hs.2 b (a b o e)).trans f⟩
 ·by_cases w:i=j
  ·subst w
   by_cases l:i < σ.length
   ·rw[List.getElem?_set_self l]at g;cases g
   ·rw[List.getElem?_eq_none_iff.mpr (by rw[List.length_set];omega)]at g;cases g
  ·rw[List.getElem?_set_ne w]at g;obtain⟨O,C,q⟩:=hl j y K f g e3;refine⟨O,C,?_⟩;rcases q with ⟨k,e⟩ | ⟨k,c,e,z⟩
   ·refine .inl ⟨k,?_⟩;have:y≠x:=λe=>w (R0 F D (e ▸ f));simp[this,e]
   ·exact .inr ⟨k,c,e,z.sameBut hs (I.cne y c e)⟩
 ·obtain⟨B,z⟩:=I.cell y c e;exact⟨B,z.sameBut hs (I.cne y c e)⟩
 ·obtain⟨e,n,ne,J,d⟩:=I.pin p hp;exact⟨(hs.2 p.1 ne).trans e,n,ne,J,d⟩
 ·refine(I.hok b u e).stay (λc B hc q=>(hs.2 c ?_).trans q) (λ_ q=>q) λ_ _ q=>q;rintro rfl;rcases hc with rfl | hc
  ·rw[I.free]at e;cases e
  ·rw[I.free]at hc;cases hc
theorem Zo5{i:Nat}{nm:Str}(hex:X.ex=[])(j:X.stack=X.env::X.outer/\X.env.frame=some X.env.locals)(T:X.N.Nodup)(hi:X.N[i]? =some nm)(hk:X.env.scope.names.lookup nm=some .local)(hg:Gl X x)(hm:X.mg x=↑C)(hMt:∀c,Mt c->W.exmOne X.K c (.ref C)=some true)
  (hb:∀(E:L2.St->XK) (pn:At) (xe:Ap),Zz (Dw X.prog X.w) (cxB X pn xe) E->Qf (cxB X pn xe) body (tb E))
  (hs:∀(a:AJ) (pn:At),Qf (J7 X a pn) (b₀::suite) th) (hd:(x == ("__debug__":Str))=false:=by decide):
  PS X (.Try body [.ExceptHandler (some (.Name x np)) (some nm) (b₀::suite) hpos] [] [] pos) (Zgj Mt i tb th):=by
 intro b s P H D I h;refine wpAny_Try_except ?_
 let D':Ends:=⟨λg l=>D.nx (g.set i none) l,D.rt,λg l=>D.bk (g.set i none) l,λg l=>D.ct (g.set i none) l⟩
 have hx:Zz (Dw X.prog X.w) (cxB X (X.pn++b) λe s'=>∃ P H s,Inv X b P H s/\Dw X.prog X.w X.stack H s (λd _ V=>Mt d/\∀a,V a=none->th D' (P.set i (↑a)) (upd V a (Vd a d))) e s')
   (λσ' d _ V=>Mt d/\∀a,V a=none->th D' (σ'.set i (↑a)) (upd V a (Vd a d))):=
  λpl P H s e s' J z=>⟨P,H,s,JG I.ok J,z⟩
 refine wpAny_mono (hb _ _ _ hx [] s P H D (Znb I _) h) (λf s1 q=>?_) λe s1 q=>?_
 ·have q:=Znn I.ok q;cases f with
  | next=>exact wpAny_execs_nil q
  | ret v=>exact q
  | brk=>exact q
  | cont=>exact q
 ·obtain⟨σ1,H1,s0,J,a,d,a0,B,l,rfl,os,bare,un,ok,fl,hB,hM,hth⟩:=q;have Z:=fl;rw[j.1]at Z;refine wpAny_looks_onW (j.1 ▸ J.ok.frames) j.2 Z λh4 Zpx sm4=>?_;refine wpAny_landsW Zpx λh5 A sm5=>?_;have Zdd:s1.heap.UpToSlots h5:=sm4.trans sm5;have J5:=flown J os bare un ok fl hB A.1 Zdd;refine wpAny_handleBy_cons (codeAny_handlers_test (fU (X:=J7 X (.ref a) (X.pn++b)) (jj J5 (.ref a)) hg hm ?_ hd)) df;obtain⟨ob,hob,hoc⟩:=A.there;have LT:W.Looks υ h5 (typeOf (.ref a)) d:=hoc ▸ (W.Looks.ld hob).andThen .now;refine(W.exm_one J5.oM LT (hMt d hM)).here ?_;refine codeAny_handlers_suite_as ?_;refine lands_againW A λh6 t sm6=>?_;have J6:=flown J os bare un ok fl hB t.1 (Zdd.trans sm6);obtain⟨oe,vs,e1,e2,e3,_⟩:=t.first;have Q:a∉frs X.stack:=λz=>by
   obtain⟨_,o',R,hd'⟩:=t.2.2.1.mem (show a∈(X.env::X.outer).filterMap (·.frame) by rw[<- j.1];exact z);rw[e1]at R;cases R;exact hd' _ e3
  obtain⟨o1,U,_⟩:=fl.there;have Zsm:s0.heap.get? a=none:=by
   cases z:s0.heap.get? a with
   | none=>rfl
   | some v=>
    have:=hB a o1 U (.inl ⟨v,z⟩) Q;rw[fl.2.1]at this;cases this
  have o:l a=none:=by
   cases z:l a with
   | none=>rfl
   | some v=>
    have:=hB a o1 U (.inr ⟨v,z⟩) Q;rw[fl.2.1]at this;cases this
  have A6:Inv X b σ1 (upd l a (Vd a d)) { s1 with heap:=h6 }:=by
   refine Zxe J6 o ?_ ?_ ?_ ?_ ?_
   ·cases z:X.s₀.heap.get? a with
    | none=>rfl
    | some v=>
     obtain⟨o',e'⟩:=J.base.there a v z (λw=>by rw[hex]at w;cases w);rw[Zsm]at e';cases e'
   ·intro z;obtain⟨m,⟨ol,esl,epl,hol,S,_⟩,_⟩:=J6.loc;have n:h6.get? X.env.locals=some ol:=hol;rw[<- z,e1]at n;cases n;rw[e3]at S;cases S
   ·intro y c e z;obtain⟨w',oc,ZB4,hdc⟩:=J6.cell y c e;have Y:h6.get? c=some oc:=ZB4;rw[z,e1]at Y;cases Y;rw[e3]at hdc;cases hdc
   ·intro p hp z;have:=(J.pin p hp).1;rw[z,Zsm]at this;cases this
   ·exact⟨⟨oe,vs,e1,e2,e3⟩,⟨oe,e1⟩,(by rintro h1 h2 ⟨o2,v2,a1,a2,a3⟩ k;exact⟨o2,v2,k _ a1,a2,a3⟩)⟩
  refine Qn (X:=J7 X (.ref a) (X.pn++b)) (v:=.ref a) (i:=i) (jj A6 (.ref a)) T hi (.inl hk) rfl (λs7 I7=>?_) (.inr hk);refine wpAny_mono (hs (.ref a) (X.pn++b) [] s7 _ _ D' I7 (hth a o)) (λf s8 q=>?_) λ_ _ z=>z.elim;have q:=Qu I.ok q;cases f with
  | next=>
   obtain⟨F,M,O,q⟩:=q;exact PN O T hi hk λs9 L=>⟨_,M,L,q⟩
  | brk=>
   obtain⟨F,M,O,q⟩:=q;exact PN O T hi hk λs9 L=>⟨_,M,L,q⟩
  | cont=>
   obtain⟨F,M,O,q⟩:=q;exact PN O T hi hk λs9 L=>⟨_,M,L,q⟩
  | ret u=>
   obtain⟨v,F,M,O,r,q⟩:=q;exact PN O T hi hk λs9 L=>⟨v,_,M,L,r,q⟩
end
section
variable {P:AM}{w:AO}{K:aD}{mg:As}{base:Heap}{x qual:Str}{st:Stmt}{f:AI}{fd:AL}{N ps:AH}{k:Nat}{sp:Sp}
theorem fok(F:Fun K x qual st f fd)(S:aM N ps ez)(len:∀vs H Q E,sp vs H Q E->vs.length=ps.length)
  (b:∀(a:AJ) (A:Around) (outer:List Env) (s:AK) (H:Hp) (vs:List V) (Q:VK) (E:XK),Room k (A.deeper (envOfC qual ez s.heap.objs.size f a))->sp vs H Q E->
   ∃t,Qf (zV (Dw P w) P w K mg base N qual ez f a A outer s H E).nox (fV st) t/\t { nx:=λ_ H'=>Q .non H',rt:=Q } (start N vs) H):pX P w K mg base (Dw P w) dX f fd ps sp:=by
 obtain⟨oc,od,kV,g,i,j,a,ct,e,rfl,lk,c⟩:=F.ex;refine Zq8 lk c S len λA outer s H vs Q E hr d=>?_;obtain⟨t,h,q⟩:=b a A outer s H vs Q E hr d;exact⟨t,h.nox,q⟩
theorem ZBa(F:Fun K x qual st f fd)(S:aM N ps ez)(len:∀vs H Q E,sp vs H Q E->vs.length=ps.length)
  (b:∀(a:AJ) (A:Around) (outer:List Env) (s:AK) (H:Hp) (vs:List V) (Q:VK) (E:XK),Room k (A.deeper (envOfC qual ez s.heap.objs.size f a))->sp vs H Q E->
   ∃t,Qf (zV (Dw P w) P w K mg base N qual ez f a A outer s H E) (fV st) t/\t { nx:=λ_ H'=>Q .non H',rt:=Q } (start N vs) H):pX P w K mg base (Dw P w) dX f fd ps sp:=by
 obtain⟨oc,od,kV,g,h,i,a,ct,e,rfl,lk,c⟩:=F.ex;exact Zq8 lk c S len λA outer s H vs Q E hr d=>b a A outer s H vs Q E hr d
theorem Zz3(F:Zxm K x qual st f fd)(S:aM N ps ez)(len:∀vs H Q E,sp vs H Q E->vs.length=ps.length)
  (b:∀(a:AJ) (A:Around) (outer:List Env) (s:AK) (H:Hp) (vs:List V) (Q:VK) (E:XK),Room k (A.deeper (envOfC qual ez s.heap.objs.size f a))->sp vs H Q E->
   ∃t,Qf (zV (Dw P w) P w K mg base N qual ez f a A outer s H E) (fV st) t/\t { nx:=λ_ H'=>Q .non H',rt:=Q } (start N vs) H):pX P w K mg base (Dw P w) dX f fd ps sp:=by
 obtain⟨oc,od,dV,kV,g,h,i,a,ct,e,rfl,lk,c⟩:=F.ex;exact Zq8 lk c S len λA outer s H vs Q E hr d=>b a A outer s H vs Q E hr d
end
structure Dv(K:aD)(C:AI):Prop where
 ga:W.findIn K (.ref C) "__getattribute__"=some (some (.builtin "BaseException.__getattribute__"))
 no:W.findIn K (.ref C) "__getattr__"=some none
 cl:W.findIn K (.ref C) "__class__"=some (some (.builtin "object.__class__"))
 so:W.mroIn K C (.type "object")=some true
 sb:W.mroIn K C (.type "BaseException")=some true
 is:W.hasDictIn K C=true
section
variable {prog:AM}{w:AO}{A:Around}{E:Ap}{h:Heap}{g:Array GenState}{d:Drawn}{t:Nat}{os:OsState}{a:AI}{o:Obj}{C:AI}{K:aD}
theorem Zv0(X:K.In h)(F:Dv K C){M:Model}{Q:Bool->AK->Prop}(q:Q true ⟨h,g,d,t,os⟩):wpAny M A (isSubtype (.ref C) (.type (".".intercalate ("object.__class__".cutAt '.').dropLast))) Q E ⟨h,g,d,t,os⟩:=by
 rw[PySem.F.owner_object_class];exact(W.looks_mroIn X F.so).here q
theorem Zra(X:K.In h)(F:Dv K C){M:Model}{Q:Bool->AK->Prop}(q:Q true ⟨h,g,d,t,os⟩):wpAny M A (isSubtype (.ref C) (.type "BaseException")) Q E ⟨h,g,d,t,os⟩:=(W.looks_mroIn X F.sb).here q
theorem Zn3{n:Str}{r:AB}(X:K.In h)(e:W.findIn K (.ref C) n=some r){M:Model}{Q:AB->AK->Prop}(q:Q r ⟨h,g,d,t,os⟩):wpAny M A (typeLookup (.ref C) n) Q E ⟨h,g,d,t,os⟩:=(W.looks_findIn X e).here q
theorem Zv1{R:Result->AK->Prop}(X:K.In h)(F:Dv K C)(hx:h.get? a=some o)(hc:o.cls=.ref C)(hq:R (.ok (.ret (.ref C))) ⟨h,g,d,t,os⟩):
  codeAny Ω A (.call (.builtin "getset_descriptor.__get__") ⟨[.builtin "object.__class__",.ref a,.ref C],[]⟩) R ⟨h,g,d,t,os⟩:=by
 have b:(⟨h,g,d,t,os⟩:AK).TypeIs (.builtin "object.__class__") "getset_descriptor":=PySem.F.typeOf_object_class;refine codeAny_call_builtin PySem.F.slot_gs_get.plain PySem.F.entry_gs_get (PySem.F.slot_gs_get.check _ _ _ _ _ _ _ _ b (PySem.F.args_gs_get _ _ _) ?_)
 repeat any_goals (first | assumption | (with_reducible refine wpAny_loadPart_at hx ?_;rw[hc]) | with_reducible refine Zv0 X F ?_ | wp_step)
 refine⟨Code.quiet_builtin _ γ,codeAny_builtin PySem.F.entry_object_class ?_⟩
 repeat any_goals (first | assumption | (with_reducible refine wpAny_loadPart_at hx ?_;rw[hc]) | wp_step)
theorem Zn4{tk:Tok}{Q:Fin->AK->Prop}(X:K.In h)(F:Dv K C)(hx:h.get? a=some o)(hc:o.cls=.ref C)(hq:Q (.done (.ret (.ref C))) ⟨h,g,d,t,os⟩):
  wpAny Ω A (Builtin.«object.__getattribute__» ⟨[.ref a,.str "__class__" tk],[]⟩) Q E ⟨h,g,d,t,os⟩:=by
 have f:(⟨h,g,d,t,os⟩:AK).TypeIs (.builtin "object.__class__") "getset_descriptor":=PySem.F.typeOf_object_class;have b:=PySem.F.typeOf_object_class;have c:=PySem.F.slot_gs_get.lookup;have e:=PySem.F.slot_gs_set.lookup
 repeat any_goals (first | assumption | (with_reducible refine wpAny_loadPart_at hx ?_;rw[hc]) | with_reducible refine Zn3 X F.cl ?_ | wp_step)
 refine Zv1 X F hx hc ?_
 repeat any_goals (first | assumption | wp_step)
theorem Zn5{M:Model}{b:AJ}{Q:Unit->AK->Prop}(X:K.In h)(F:Dv K C)(hx:h.get? a=some o)(hc:o.cls=.ref C)(hq:Q () ⟨h,g,d,t,os⟩):wpAny M A (checkBuiltinCall "BaseException.__getattribute__" ⟨[.ref a,b],[]⟩) Q E ⟨h,g,d,t,os⟩:=by
 have c:builtinKind "BaseException.__getattribute__"=some .slot:=γ
 have e:splitId "BaseException.__getattribute__"=some ("BaseException","__getattribute__"):=γ
 have ha:=PySem.F.args_bexc_ga (.ref a) b;simp only[checkBuiltinCall,c,e];refine wpAny_bind ?_;unfold isInstance
 repeat (first | (with_reducible refine wpAny_loadPart_at hx ?_;rw[hc]) | with_reducible refine Zra X F ?_ | wp_step)
 exact hq
theorem Zxp{tk:Tok}{Q:Ap}(X:K.In h)(F:Dv K C)(hx:h.get? a=some o)(hc:o.cls=.ref C)(hq:Q (.ref C) ⟨h,g,d,t,os⟩):wpAny Ω A (getAttrBy (.ref a) (.str "__class__" tk) false) Q E ⟨h,g,d,t,os⟩:=by
 have c:=PySem.F.attr_ValueError.ga.bind (.ref a);have b:(onTheHeap (Value.ref C) && Value.builtin "BaseException.__getattribute__" == Value.builtin "object.__getattribute__")=false:=by
  rw[show(Value.builtin "BaseException.__getattribute__" == Value.builtin "object.__getattribute__")=false by decide +kernel];rfl
 repeat any_goals (first | assumption | (with_reducible refine wpAny_loadPart_at hx ?_;rw[hc]) | with_reducible refine Zn3 X F.ga ?_ | with_reducible refine Zn3 X F.no ?_ | wp_step)
 refine codeAny_call_builtin PySem.F.attr_ValueError.ga.plain PySem.F.entry_bexc_ga (Zn5 X F hx hc (Zn4 X F hx hc ?_))
 repeat any_goals (first | assumption | wp_step)
theorem Zrb{Q:AB->AK->Prop}(X:K.In h)(F:Dv K C)(hx:h.get? a=some o)(hc:o.cls=.ref C)(hq:Q (↑C) ⟨h,g,d,t+1,os⟩):wpAny Ω A (getAttr? (.ref a) "__class__") Q E ⟨h,g,d,t,os⟩:=by
 unfold getAttr? getAttrBy?
 repeat any_goals (first | assumption | with_reducible apply Zxp X F hx hc | wp_step)
end
def atX(a C:AI)(h:Heap):Prop:=∃o,h.get? a=some o/\o.cls=.ref C
theorem Zf0{K:aD}{a C:AI}(F:Dv K C):W.KitX K (.ref a) (.ref C) (atX a C) where
 ty:=λ_ _ _ ⟨o,h1,h2⟩=>h2 ▸ (W.Looks.ld h1).andThen .now
 it:=λ_ _ X _=>by
  obtain⟨i,hc,_⟩:=W.any_some F.is;unfold W.clsIn at hc;split at hc
  ·rename_i b
   intro m l j s' k q;unfold isType loadHead;exact wpAny_bind (wpAny_loadPart (k _ _ (X _ _ b)) (wpAny_pure q))
  ·cases hc
 ne:=λh tp dd f n sl X c=>by
  obtain⟨i,hc,_⟩:=W.any_some F.is;refine Bool.eq_false_iff.mpr λq=>?_;have e:C=tp:=Value.ref.inj (beq_iff_eq.mp q);subst e;unfold W.clsIn at hc;split at hc
  ·rename_i b
   have z:=(X _ _ b).symm.trans c;cases z
  ·cases hc
 ca:=λ{prog w A E Q s} X ⟨o,h1,h2⟩ k=>by
  obtain⟨h,g,d,t,os⟩:=s;exact Zrb X F h1 h2 k
theorem Zfx(K:aD)(t:AJ):∀cs:AC,Zmz (W.kitOne K) t cs=W.kitAny K t cs
 | []=>rfl
 | c::r=>by
  unfold Zmz W.kitAny;rw[Zfx K t r];cases W.kitOne K t c with
  | none=>rfl
  | some b=>cases b<;>rfl
theorem Xd:∀{Ds:AF}{us:AC},Vals (Ds.map V.ref) us->us=Ds.map Value.ref
 | [],_,.nil=>rfl
 | d::Ds,_,.cons r t=>by
  rw[Xd (Ds:=Ds) t,List.map_cons,show _=Value.ref d from r]
section
variable {X:Cx}
def Zj4(K:aD)(Cs:AF):Prop:=∀C∈Cs,Dv K C
theorem Zm{Cs:AF}(F:Zj4 X.K Cs):Cp X (.builtin "isinstance") (Zqy Cs (W.kitOne X.K)):=by
 intro j s y H x us Q I r h;obtain⟨a,c,C,k,⟨v,rfl,d⟩,p,ha,hk,q⟩:=h;obtain⟨u,f,rfl,l,g⟩:=vals2 r;obtain rfl:u=Value.ref a:=l;have m:f=c:=by
  cases v with
  | ref b=>exact(show f=Value.ref b from g).trans (show c=Value.ref b from d).symm
  | ty n=>exact(show f=Value.type n from g).trans (show c=Value.type n from d).symm
  | non=>exact(show f=Value.none from g).trans (show c=Value.none from d).symm
  | bl b=>exact(show f=Value.bool b from g).trans (show c=Value.bool b from d).symm
  | int i=>
   obtain⟨t1,e⟩:=(show ∃t,c=Value.int i t from d);subst e;exact absurd hk eD
  | str i=>
   obtain⟨t1,e⟩:=(show ∃t,c=Value.str i t from d);subst e;exact absurd hk eD
  | byt i=>
   obtain⟨t1,e⟩:=(show ∃t,c=Value.bytes i t from d);subst e;exact absurd hk eD
  | flt i=>
   obtain⟨t1,e⟩:=(show ∃t,c=Value.float i t from d);subst e;exact absurd hk eD
 subst m;obtain⟨⟨o,w,h1,h2,A⟩,_⟩:=I.hok a _ ha;exact W.kia_one (Zf0 (F C p)) I.oM ⟨o,h1,h2⟩ hk av λtk=>⟨.bl k,H,I.tok _,rfl,q⟩
theorem Zii{Cs:AF}(F:Zj4 X.K Cs):Cp X (.builtin "isinstance") (Zqx Cs (W.kitOne X.K)):=by
 intro c s B H y us Q I r h;obtain⟨a,tp,t,C,k,rfl,p,ha,v,hk,q⟩:=h;obtain⟨u,l,rfl,i,m⟩:=vals2 r;obtain rfl:u=Value.ref a:=i;obtain rfl:l=Value.ref tp:=m;obtain⟨⟨o,x,h1,h2,D⟩,_⟩:=I.hok a _ ha;obtain⟨_,n,b,⟨oc,od,e,j⟩,f,d,A,e3⟩:=(show fZ X.prog X.w H s.heap tp (.tup (t.map V.ref))from I.hok tp _ v);dsimp only at d e3;subst d e3;have g:=Xd b;subst g;rw[Zfx]at hk;exact W.kia_tup (Zf0 (F C p)) I.oM ⟨o,h1,h2⟩ f hk av λtk=>⟨.bl k,H,I.tok _,rfl,q⟩
theorem Pj:bootBuiltins "ValueError"=some (.type "ValueError"):=γ
theorem lU:Cp X (.type "list") (yN X.K):=by
 intro a s c H d us Q I r h;obtain⟨p,b,rfl,hs,q⟩:=h;exact Jb a s c H [.ref p] us Q I r ⟨p,b,rfl,.inl hs,q⟩
theorem Zmp{xs c:List V}{us g:AC}(f:Vals xs us)(m:Vals c g)(r:xs.all lB=true)(o:c.all lB=true)(hl:xs.length=c.length):
  (∀(A:Around) (s:AK) (j:Nat) (h1:j<us.toArray.size) (h2:j<g.toArray.size),SeqAt.EqAt A s us.toArray[j] g.toArray[j] (match xs[j]?,c[j]? with | some a,some b=>eqV a b | _,_=>false))/\
  (List.range us.toArray.size).all (λj=>match xs[j]?,c[j]? with | some a,some b=>eqV a b | _,_=>false)=eqL xs c:=by
 refine⟨λA s j h1 h2=>?_,?_⟩
 ·rw[List.size_toArray]at h1 h2;have x:=f.length;have v:=m.length;have l:xs[j]? =some xs[j]:=bG δ;have n:c[j]? =some c[j]:=bG δ;obtain⟨u,i,t⟩:=f.get l;obtain⟨w,k,q⟩:=m.get n;rw[bG h1]at i;rw[bG h2]at k;cases i;cases k;rw[l,n];exact uW t q (List.all_eq_true.mp r _ (List.getElem_mem δ)) (List.all_eq_true.mp o _ (List.getElem_mem δ))
 ·rw[List.size_toArray,<- f.length];unfold eqL;rw[beq_iff_eq.mpr hl,Bool.true_and,Bool.eq_iff_iff,List.all_eq_true,List.all_eq_true];constructor
  ·intro h p hp;obtain⟨j,d,e⟩:=List.getElem_of_mem hp;rw[List.length_zip]at d;have:=h j (List.mem_range.mpr δ);rw[bG (show j<xs.length by omega),bG (show j<c.length by omega)]at this;rw[List.getElem_zip]at e;rw[<- e];exact this
  ·intro h j d;have d:=List.mem_range.mp d;rw[bG (show j<xs.length by omega),bG (show j<c.length by omega)];have hz:j<(xs.zip c).length:=by rw[List.length_zip];omega
   have:=h _ (List.getElem_mem hz);rw[List.getElem_zip]at this;exact this
theorem Ztj{xs a:List V}(h:xs.length≠a.length):eqL xs a=false:=by
 unfold eqL;rw[show(xs.length == a.length)=false by simpa using h,Bool.false_and]
theorem Zop(hu:X.A.units+1<cLine):uz X (compareOp .Eq) (Zru X.K false):=by
 intro f s w H x y v u Q I k n h;obtain⟨p,r,m,o,rfl,rfl,hx,hy,g,q⟩:=h;cases k;cases n;obtain⟨us,e,c,_⟩:=I.list hx;obtain⟨t,d,b,_⟩:=I.list hy;have a:X.A.units<cLine:=δ
 by_cases hl:m.length=o.length
 ·obtain⟨i,l⟩:=Zmp e d (g hl).1 (g hl).2 hl;refine SeqAt.eq_listAt c.isList b.isList (by rw[List.size_toArray,List.size_toArray,<- e.length,<- d.length];exact hl) a (λj h1 h2=>i _ _ j h1 h2) ?_;rw[l];exact⟨.bl _,H,I,rfl,q⟩
 ·refine SeqAt.eq_list_lengthsAt c.isList b.isList ?_ a ?_
  ·rw[List.size_toArray,List.size_toArray,<- e.length,<- d.length];simpa using hl
  ·refine⟨.bl _,H,I,rfl,?_⟩;have:=q;rw[Ztj hl]at this;exact this
end
theorem Zow:fastBuiltinMro "NoneType"=some [.type "NoneType",.type "object"]:=γ
section
variable {K:aD}{A:Around}{a C:AI}{o:Obj}
theorem Zx4{M:Model}{E:Ap}{s:AK}{Q:Unit->AK->Prop}(d:W.Looks M s.heap (isInstance (.ref a) (.type "object")) true)(hq:Q () s):wpAny M A (checkBuiltinCall "object.__eq__" ⟨[.ref a,.none],[]⟩) Q E s:=by
 have ha:=PySem.F.cmpArgs_eq (.ref a) .none;simp only[checkBuiltinCall,PySem.F.cmpKind_eq,PySem.F.cmpSplit_eq];refine wpAny_bind (d.here ?_);simp only[Bool.not_true,Bool.false_eq_true,if_false];cases c:Manifest.signature? "object.__eq__" with
 | none=>exact wpAny_pure hq
 | some b=>
  simp only[argsOk,c]at ha;have h2:Bind.checkArgs "object.__eq__" b ⟨[.ref a,.none],[]⟩=pure ():=ha;show wpAny M A (Bind.checkArgs "object.__eq__" b ⟨[.ref a,.none],[]⟩) Q E _;rw[h2];exact wpAny_pure hq
theorem Zti{prog:AM}{w:AO}{E:Ap}{s:AK}{Q:Ap}(b:W.Looks Ω s.heap (isInstance (.ref a) (.type "object")) true)(hq:Q .notImplemented s):
  wpAny Ω A (call (.builtin "object.__eq__") [.ref a,.none]) Q E s:=by
 refine wpAny_call (codeAny_call_builtin PySem.F.cmp_object.eq.plain PySem.F.cmpEntry_eq (Zx4 b ?_));obtain⟨h,g,d,t,os⟩:=s;unfold Builtin.«object.__eq__»
 repeat (first | with_reducible refine wpAny_bind (m:=isSame (.ref a) .none) (wpAny_pure ?_) | wp_step)
 exact hq
theorem Zv6{prog:AM}{w:AO}{E:Ap}{s:AK}{Q:AB->AK->Prop}(X:K.In s.heap)(hx:s.heap.get? a=some o)(hc:o.cls=.ref C)(b:EqD K C)(hq:Q none s):
  wpAny Ω A (tryCompare (.ref a) "__eq__" .none) Q E s:=by
 have LT:W.Looks Ω s.heap (typeOf (.ref a)) (.ref C):=hc ▸ (W.Looks.ld hx).andThen .now;have d:W.Looks Ω s.heap (isInstance (.ref a) (.type "object")) true:=LT.andThen (W.looks_mroIn X b.ob);have c:W.Looks Ω s.heap (specialOf (.ref a) "__eq__") (some (.builtin "object.__eq__")):=LT.andThen (W.looks_findIn X b.eq);simp only[tryCompare];refine wpAny_bind ?_;simp only[callSpecialIfBound?,bindSpecialIfBound?];refine wpAny_holding (wpAny_bind (wpAny_bind (c.here ?_)));simp only[PySem.F.cmp_object.eq.bind];have fin:wpAny Ω A (call (.builtin "object.__eq__") ([.ref a]++[.none]) >>= λv=>pure (some v)) (λr e=>wpAny Ω A (match r with | some .notImplemented | none=>pure none | some v=>pure (some v)) Q E e) E s:=
  wpAny_bind (Zti d (wpAny_pure (wpAny_pure hq)))
 refine wpAny_bind (wpAny_askSetting (wpAny_ite ?_));split
 ·exact wpAny_bind (wpAny_pure (wpAny_pure fin))
 ·exact wpAny_tryCatch (wpAny_bind (wpAny_pure (wpAny_pure fin)))
theorem Zrr{s:AK}(X:K.In s.heap)(hx:s.heap.get? a=some o)(hc:o.cls=.ref C)(e:EqD K C)(hu:A.units<cLine):SeqAt.RcAt A s (.ref a) .none false:=λprog w E Q h=>by
 have LT:W.Looks Ω s.heap (typeOf (.ref a)) (.ref C):=hc ▸ (W.Looks.ld hx).andThen .now;have d:cmpInfo CmpOp.Eq=("==",("__eq__":Str),("__eq__":Str)):=rfl;have c:oneThing? .Eq (.ref a) .none=none:=rfl;simp only[richCompare,d,c]
 try with_reducible refine wpAny_holding ?_
 refine wpAny_bind (wpAny_cRoomFor_or (.inr hu) ?_);refine wpAny_bind (LT.here (wpAny_bind (m:=typeOf .none) (wpAny_pure ?_)));have b:(Value.ref C != Value.type "NoneType")=true:=ζ
 simp only[b,if_true];have hs:isSubtype (.type "NoneType") (.ref C)=pure false:=by
  rw[isSubtype_type,Zow];rfl
 refine wpAny_bind (wpAny_of_eq hs ?_);simp only[Bool.false_eq_true,if_false,Bool.not_false,if_true];refine wpAny_bind (m:=tryCompare (.ref a) _ .none) (Zv6 X hx hc e ?_);refine wpAny_bind (m:=tryCompare .none _ (.ref a)) (wpAny_tryCompare_declines (T:="NoneType") rfl PySem.F.slot_NoneType_eq_refl (call_gives PySem.F.slot_NoneType_eq_refl rfl PySem.F.entry_NoneType_eq (PySem.F.args_NoneType_eq_2 _ _) (SeqAt.NoneType___eq___none_ref_0 a) ⟨rfl,?_⟩));exact wpAny_bind (wpAny_rule (wpAny_bind (wpAny_of_eq (rfl:isSame (.ref a) .none=pure false) (wpAny_pure h))))
theorem Zth{s:AK}(X:K.In s.heap)(hx:s.heap.get? a=some o)(hc:o.cls=.ref C)(c:EqD K C)(hu:A.units<cLine):SeqAt.EqAt A s (.ref a) .none false:=λprog w E Q h=>by
 unfold eqBool;refine wpAny_holding ?_;refine wpAny_ite_split (λb=>absurd (eq_of_beq b) nofun) a8;exact wpAny_bind (Zrr X hx hc c hu prog w E _ (wpAny_truthy_bool h))
end
section
variable {X:Cx}
def yj(u:AJ):Bool:=match u with
 | .none=>true
 | _=>false
theorem Zed{H:Hp}{y:V}{u:AJ}(r:RelV y u)(h:y=.non\/∃a C dx fs,y=.ref a/\H a=some (.ins C dx fs)/\Pq X.K C/\EqD X.K C):yj u=decide (y=.non):=by
 rcases h with rfl | ⟨a,_,_,_,rfl,_⟩
 ·obtain rfl:u=Value.none:=r;rfl
 ·obtain rfl:u=Value.ref a:=r;rfl
theorem Zoy{pins:At}{σ:L2.St}{H:Hp}{s:AK}{A:Around}{y:V}{u:AJ}(I:Inv X pins σ H s)(hu:A.units<cLine)(r:RelV y u)(h:y=.non\/∃a C dx fs,y=.ref a/\H a=some (.ins C dx fs)/\Pq X.K C/\EqD X.K C):SeqAt.EqAt A s u .none (yj u):=by
 rcases h with rfl | ⟨a,C,dx,fs,rfl,ha,hc,b⟩
 ·obtain rfl:u=Value.none:=r;exact SeqAt.EqAt.same .none
 ·obtain rfl:u=Value.ref a:=r;obtain⟨_,_,_,e,_⟩:=(show fZ X.prog X.w H s.heap a (.ins C dx fs)from I.hok a _ ha);exact Zth I.oM e rfl b hu
theorem Zec{H:Hp}:∀{xs:List V}{us:AC},Vals xs us->OkN X.K H xs->us.any yj=decide (V.non∈xs)
 | _,_,.nil,_=>rfl
 | y::xs,u::us,.cons r t,h=>by
  rw[List.any_cons,Zec t λz hz=>h z (List.mem_cons_of_mem _ hz),Zed r (h y List.mem_cons_self),Bool.eq_iff_iff];simp only[Bool.or_eq_true,decide_eq_true_eq,List.mem_cons];constructor
  ·rintro(z | z)
   ·exact .inl z.symm
   ·exact .inr z
  ·rintro(z | z)
   ·exact .inl z.symm
   ·exact .inr z
theorem Zea{H:Hp}{pins:At}{σ:L2.St}{s:AK}{A:Around}{xs:List V}{us:AC}(I:Inv X pins σ H s)(hu:A.units<cLine)(r:Vals xs us)(h:OkN X.K H xs):∀u∈us,SeqAt.EqAt A s u .none (yj u):=by
 intro u hm;obtain⟨i,b,rfl⟩:=List.getElem_of_mem hm;have hl:=r.length;have hx:xs[i]? =some xs[i]:=bG δ;obtain⟨c,e,a⟩:=r.get hx;rw[bG b]at e;cases e;exact Zoy I hu a (h _ (List.getElem_mem δ))
theorem Zlp(hu:X.A.units+1<cLine):uz X (compareOp .NotIn) (Zvd X.K true):=by
 intro a s g H x y v u Q I c e h;obtain⟨p,f,rfl,rfl,hs,hk,q⟩:=h;obtain rfl:v=Value.none:=c;cases e;obtain⟨us,r,d,_⟩:=I.list hs;refine SeqAt.notIn_listAt yj d.isList (λw b=>Zea I (by show X.A.units+1<cLine;exact hu) r hk w (by simpa using b)) ⟨.bl _,H,I,rfl,?_⟩;rw[show us.toArray.any yj=us.any yj by simp,Zec r hk];exact q
theorem Zeb{H:Hp}{xs:List V}{us:AC}(r:Vals xs us)(h:OkN X.K H xs)(j:Nat)(b:j<us.length)(a:j<xs.length):yj us[j]=decide (xs[j]=V.non):=by
 obtain⟨d,e,c⟩:=r.get (bG a);rw[bG b]at e;cases e;exact Zed c (h _ (List.getElem_mem a))
theorem Zlt(hu:X.A.units+1<cLine):MtR X "list.index" (Zjl X.K):=by
 intro i s z H x xs v us Q I l rs h;obtain⟨p,a,rfl,rfl,hs,hk,hn,q⟩:=h;obtain rfl:v=Value.ref p:=l;obtain⟨u,rfl,m⟩:=Vals.one rs;obtain rfl:u=Value.none:=m;obtain⟨f,r,t,hz⟩:=I.list hs;obtain⟨⟨w,dd,g,sl⟩,k,hc,n,hd⟩:=t.isList;simp only at hc hd;subst hc hd;have hl:=r.length;have b:a.idxOf V.non<a.length:=List.idxOf_lt_length_iff.mpr hn;have o:a.length<2 ^ 62:=Nat.lt_of_le_of_lt hz ε;refine call_meets PySem.F.slot_list_index ⟨_,k,rfl⟩ PySem.F.entry_list_index (PySem.F.args_list_index_2 _ _)
  (SeqAt.list_indexAt p f.toArray n dd sl .none yj (a.idxOf V.non) (by simpa[hl]using b) δ ?_ ?_) ⟨k,λy hy=>Zea I (by show X.A.units+1<cLine;exact hu) r hk y (by simpa using hy),⟨.int _,H,I.tok _,⟨_,rfl⟩,q⟩⟩
 ·show yj f[a.idxOf V.non]=true;rw[Zeb r hk _ δ b,decide_eq_true_eq];exact List.getElem_idxOf b
 ·intro j c d;show yj f[j]=false;rw[Zeb r hk j (by simpa using c) δ,decide_eq_false_iff_not];intro e;have:=List.not_of_lt_findIdx (p:=(· == V.non)) (xs:=a) d;simp[e]at this
end
end G
namespace G
open PySem L2
def Jp(C:AI):TE:=λ_ H Q=>∀x dx,H x=none->H dx=none->dx≠x->Q (.ref x) (upd (upd H dx (.own x)) x (.ins C dx []))
theorem Zsx{C:AI}{σ:St}{H:Hp}{Q:VK}(h:∀x dx,H x=none->H dx=none->dx≠x->Q (.ref x) (upd (upd H dx (.own x)) x (.ins C dx []))):Jp C σ H Q:=h
def w6(t u:TE):TE:=λσ H Q=>t σ H Q\/u σ H Q
theorem BP{t u:TE}{σ:St}{H:Hp}{Q:VK}(h:t σ H Q):w6 t u σ H Q:=.inl h
theorem pL{t u:TE}{σ:St}{H:Hp}{Q:VK}(h:u σ H Q):w6 t u σ H Q:=.inr h
end G
namespace G
open PySem L2 PySem.Spec PyProof.Rows
section
variable {X:Cx}
theorem jK{e:AN}{t u:TE}(h1:PE X e t)(h2:PE X e u):PE X e (w6 t u):=by
 intro a s b H Q I h;rcases h with h | h
 ·exact h1 a s b H Q I h
 ·exact h2 a s b H Q I h
structure Mk0(K:aD)(C:AI):Prop where
 makes:W.makesIn K C=true
 init:W.findIn K (.ref C) "__init__"=some eK
 kp:W.keepIn K (.ref C)=true
theorem Zh0{C:AI}{pins:At}{σ:L2.St}{H:Hp}{s:AK}{Q:VK}(M:Mk0 X.K C)(I:Inv X pins σ H s)
  (h:∀x dx,H x=none->H dx=none->dx≠x->Q (.ref x) (upd (upd H dx (.own x)) x (.ins C dx []))):wpAny υ X.A (call (.ref C) []) dv X.xe s:=by
 have hq:=h ah s.heap.objs.size (I.hok.fresh (Nat.le_succ _)) (I.hok.fresh Γ) (Nat.ne_of_lt (Nat.lt_succ_self _));have c:=Inv.made (C:=C) I;have Y:=W.makes_of (M:=model X.prog X.w) I.oM M.makes;refine wpAny_call (Zlv I.oM M.makes M.init (λself=>W.Looks.of_pure (W.oi_bind self)) ?_);have a:((s.heap.push W.emptyDict).push cc).get? (s.heap.objs.size+1)=some cc:=by
  have:=Heap.get?_push_size (s.heap.push W.emptyDict) (o:=W.instObj C s.heap.objs.size) rfl;rw[Heap.size_push]at this;exact this
 have t1:W.Looks υ ((s.heap.push W.emptyDict).push cc) (typeOf (.ref ah)) (.ref C):=(W.Looks.ld a).andThen .now;have t2:W.Looks υ ((s.heap.push W.emptyDict).push cc) (isInstance (.ref ah) (.type "object")) true:=t1.andThen (Y.top.keeps λb o e=>Heap.get?_push_of_some _ (Heap.get?_push_of_some _ e));refine codeAny_call_builtin W.oi_plain W.entry_oi (@W.check_slot υ _ _ _ "object.__init__" "object" "__init__" (.ref ah) [] [] _ W.oi_kind W.oi_split t2 (W.oi_args (.ref ah)) ?_);rw[W.oi_run];exact wpAny_pure (And.intro rfl ⟨V.ref ah,_,c,rfl,hq⟩)
theorem Jz{C:AI}{x:Str}{p a:Pos}(M:Mk0 X.K C)(d:Gl X x)(hm:X.mg x=↑C)(b:(x == ("__debug__":Str))=false:=by decide):PE X (.Call (.Name x p) [] [] a) (Jp C):=by
 intro c s e H Q I h;refine wpAny_Call_Name_kw (fU I d hm ?_ b);exact W.callWith_K0 I.oM M.kp (Zh0 M I h)
structure ZEj(K:aD)(C:AI):Prop where
 pg:W.plainGet K C "__class__"=true
 hd:W.hasDictIn K C=true
 cl:W.findIn K (.ref C) "__class__"=some (some (.builtin "object.__class__"))
 sp:W.specialIn K (.builtin "object.__class__") "__get__"=some (some (.builtin "getset_descriptor.__get__"))
 tk:W.takesIn K (.builtin "object.__class__")=some true
 so:W.mroIn K C (.type "object")=some true
end
end G
namespace G
open PySem L2
end G
namespace G
open PySem L2 PySem.Spec PyProof.Rows
def Zg2(w:AO):List DictEntry->List (Str×AI)->Prop
 | [],[]=>True
 | e::a,p::t=>e.hash=hashStr w p.1/\(∃tk,e.key=.str p.1 tk)/\e.val=.ref p.2/\Zg2 w a t
 | _,_=>False
def Tab(K:aD)(w:AO)(mg:As)(nm:Str)(Qk:List (Str×AI)):Prop:=
 ∃dd o a b,mg nm=↑dd/\K.lookup dd=some o/\o.ExactDict/\o.data=.dict a b/\Zg2 w a.toList Qk
theorem Zg2.keys{prog:AM}{w:AO}:∀{a:List DictEntry}{Qk:List (Str×AI)},Zg2 w a Qk->∀e∈a,∃k,(strKind prog w).is k e.key=true/\e.hash=(strKind prog w).hash k
 | [],_,_=>λe b=>absurd b List.not_mem_nil
 | e::a,[],h=>h.elim
 | e::a,p::t,h=>λx hx=>by
  obtain⟨h1,⟨tk,h2⟩,_,c⟩:=h;rcases List.mem_cons.mp hx with rfl | hx
  ·refine⟨p.1,?_,h1⟩;rw[h2];show Value.isStrOf p.1 (.str p.1 tk)=true;simp[Value.isStrOf]
  ·exact Zg2.keys c x hx
theorem Zg2.find{w:AO}:∀{g:List DictEntry}{Qk:List (Str×AI)}{k:Str}{f:AI},Zg2 w g Qk->Qk.lookup k=some f->(g.find? λe=>Value.isStrOf k e.key).map (·.val)=↑f
 | [],[],_,_,_,h=>by cases h
 | [],_::_,_,_,h,_=>h.elim
 | _::_,[],_,_,h,_=>h.elim
 | e::g,p::t,k,f,h,hl=>by
  obtain⟨_,⟨tk,h2⟩,j,i⟩:=h;rw[List.find?_cons,h2]
  by_cases hk:k=p.1
  ·subst hk;have c:Value.isStrOf p.1 (.str p.1 tk)=true:=by simp[Value.isStrOf]
   rw[c];have d:List.lookup p.1 (p::t)=some p.2:=by
    obtain⟨a,b⟩:=p;simp[List.lookup]
   rw[d]at hl;cases hl;show some e.val=_;rw[j]
  ·have c:Value.isStrOf k (.str p.1 tk)=false:=by
    simp only[Value.isStrOf,beq_eq_false_iff_ne,ne_eq];exact λz=>hk z.symm
   rw[c];have d:List.lookup k (p::t)=List.lookup k t:=by
    obtain⟨a,b⟩:=p;simp only[List.lookup];rw[beq_eq_false_iff_ne.mpr hk]
   rw[d]at hl;exact Zg2.find i hl
def Zrj(Qk:List (Str×AI))(b:TE):TE:=λσ H Q=>b σ H λy a=>∃k f,y=.str k/\Qk.lookup k=some f/\Q (.ref f) a
theorem Zyf{Qk:List (Str×AI)}{a:TE}{σ:L2.St}{H:Hp}{Q:VK}(h:a σ H λy b=>∃k f,y=.str k/\Qk.lookup k=some f/\Q (.ref f) b):Zrj Qk a σ H Q:=h
theorem Zo9{X:Cx}{nm:Str}{Qk:List (Str×AI)}{i:AN}{j:TE}{p c:Pos}(T:Tab X.K X.w X.mg nm Qk)(r:Gl X nm)(t:PE X i j)(hs:Ztz i)(hd:(nm == ("__debug__":Str))=false:=by decide):
  PE X (.Subscript (.Name nm p) i c) (Zrj Qk j):=by
 intro a s z H Q I h;obtain⟨dd,o,d,q,hm,hk,m,b,g⟩:=T;refine Zj9 PySem.F.slot_dict_getitem.lookup hs (fU I r hm ?_ hd);refine gw (t a s z H _ I h) λiv A qc=>?_;obtain⟨y,H2,I2,ry,k,f,ey,l,q2⟩:=qc;subst ey;have n:=I2.oM dd o hk;refine⟨⟨o,n,m.1⟩,?_⟩;obtain⟨tk,rfl⟩:∃tk,iv=.str k tk:=ry;refine wpAny_getItem_of (knd:=strKind X.prog X.w) (k:=k) (f:=λk=>findBy Value.isStrOf d k) (by show Value.isStrOf k (.str k tk)=true;simp[Value.isStrOf]) ⟨o,d,q,n,m,b,λe u=>g.keys e (by simpa using u),λ_=>rfl⟩ (v:=.ref f) ?_ ⟨.ref f,H2,I2.tok _,rfl,q2⟩;show Option.map (λx=>x.val) (Array.find? (λe=>Value.isStrOf k e.key) d)=_;rw[<- Array.find?_toList];exact g.find l
def Vc(P:AM)(w:AO)(K:aD)(mg:As)(base:Heap)(CX:CXT)(k:Nat)(ps:AH)(L:List (AI×Sp)):Prop:=
 ∀f sp,(f,sp)∈L->∃a fd,a<=k/\pX P w K mg base CX a f fd ps sp/\W.keepIn K (.ref f)=true/\L2.Binds K fd ps []
theorem Vc.nil{P:AM}{w:AO}{K:aD}{mg:As}{base:Heap}{CX:CXT}{k:Nat}{ps:AH}:Vc P w K mg base CX k ps []:=λ_ _ h=>absurd h List.not_mem_nil
theorem Vc.cons{P:AM}{w:AO}{K:aD}{mg:As}{base:Heap}{CX:CXT}{k a:Nat}{ps:AH}{L:List (AI×Sp)}{f:AI}{fd:AL}{sp:Sp}(hk:a<=k)(F:pX P w K mg base CX a f fd ps sp)(hb:L2.Binds K fd ps [])(hp:W.keepIn K (.ref f)=true)(t:Vc P w K mg base CX k ps L):Vc P w K mg base CX k ps ((f,sp)::L):=λg b h=>by
 rcases List.mem_cons.mp h with e | h
 ·cases e;exact⟨a,fd,hk,F,hp,hb⟩
 ·exact t g b h
def ZQ(i:Nat)(L:List (AI×Sp))(E:XK)(t:TA):TE:=λσ H Q=>∃f sp,σ[i]? =some (↑f)/\(f,sp)∈L/\t σ H λvs a=>sp vs a Q E
theorem iZ{i:Nat}{L:List (AI×Sp)}{E:XK}{t:TA}{σ:L2.St}{H:Hp}{Q:VK}{f:AI}(sp:Sp)(b:σ[i]? =some (↑f))(hm:(f,sp)∈L)(h:t σ H λvs a=>sp vs a Q E):ZQ i L E t σ H Q:=⟨f,sp,b,hm,h⟩
theorem Zdu{X:Cx}{CX:CXT}{k i:Nat}{ps:AH}{L:List (AI×Sp)}{x:Str}{E:XK}{e:AN}{c:AG}{t:TA}{p b:Pos}(F:Vc X.prog X.w X.K X.mg X.base CX k ps L)(hr:Room k X.A)(n:X.N[i]? =some x)(hv:Vis X.env.scope x)(hx:Passes CX X E)
  (ha:PA X (e::c) t) (hd:(x == ("__debug__":Str))=false:=by decide) (d:(x == ("__classdict__":Str))=false:=by decide) (o:starEach (e::c) X.env=(false,eval e X.env)::starEach c X.env:=by rfl) (g:(backTo b (starEach c X.env)).any (·.1)=false:=by rfl):
  PE X (.Call (.Name x p) (e::c) [] b) (ZQ i L E t):=by
 intro a s j H Q I h;obtain⟨f,sp,q,hm,h⟩:=h;obtain⟨C,fd,hk,m,hp,hb⟩:=F f sp hm;refine wpAny_Call_Name_kw (gw (Zo8 n hv hd d a s j H (λv l=>v=.ref f/\l=H) I ⟨_,q,rfl,rfl⟩) λu y qc=>?_);obtain⟨v,H1,I1,r,e1,e2⟩:=qc;subst e1 e2;obtain rfl:u=Value.ref f:=r;refine W.callWith_K (h₀:=X.base) I1.ok.mod.kin hp (gw (ha b a y j H1 _ I1 h) λus z ⟨B,H2,I2,r2,q2⟩=>⟨I2.oM,?_⟩) o g;refine Za3 (pW:=[]) m (hr.mono hk) hb .nil hx I2 r2 ?_;rw[List.append_nil];exact q2
section
variable {σ:L2.St}{H:Hp}{Q:VK}{td ty tv:TE}{n bk ct:L2.St->Hp->Prop}{r:VK}
theorem Zwr(h:td σ H λx c=>ty σ c λy b=>∃a v,x=.ref a/\U6 b a y (some v)/\Q v b):Zd6 td ty σ H Q:=h
theorem Zps(h:ty σ H λy c=>td σ c λx b=>∃a o,x=.ref a/\U6 b a y o/\Q (.bl (!o.isSome)) b):ZM ty td σ H Q:=h
theorem Zwp(h:tv σ H λv c=>td σ c λx d=>ty σ d λy e=>∃a b,x=.ref a/\Zga e a y v b/\n σ b):Zjf td ty tv ⟨n,r,bk,ct⟩ σ H:=h
theorem Zqr{a:AI}{b:List (L2.Key×V)}{z:Str}(e:H a=some (.dK b)):U6 H a (.str z) (nD b (Sum.inr z)):=U6.k (k:=Sum.inr z) e
theorem Zz8{a:AI}{b:List (L2.Key×V)}{z:Str}{v:V}(e:H a=some (.dK b))(hl:b.length<sizeLine):Zga H a (.str z) v (upd H a (.dK (putK b (Sum.inr z) v))):=Zga.k (k:=Sum.inr z) e hl
end
def Zr8(K:aD)(J:It)(b:List Nat)(tc:TT)(f:TE)(σ:L2.St)(h:Hp)(Q:VK):Prop:=∃W:Nat->Nat->List V->Hp->Prop,(∃m,W 0 m [] h)/\∀i m c H,W i m c H->
 (J.stop i H/\∀p,H p=none->Q (.ref p) (upd H p (.lst c)))\/
 (J.go i H/\c.length<sizeLine/\∀x H',J.yld i H x H'->∃a u v,x=.ref a/\dU K H' a [u,v]/\tc (some u::some v::b.map bp) H' λk e=>if k=true then f (some u::some v::b.map bp) e (λy g=>∃d,d<m/\W b9 d (c++[y]) g)else ∃d,d<m/\W b9 d c e)
def Zl7(K:aD)(c:TI)(a:List Nat)(tc:TT)(d:TE):TE:=λσ H Q=>c σ H λJ b=>Zr8 K J a tc d σ b Q
theorem Zwj{K:aD}{b:TI}{a:List Nat}{tc:TT}{c:TE}{σ:L2.St}{H:Hp}{Q:VK}(h:b σ H λJ d=>Zr8 K J a tc c σ d Q):Zl7 K b a tc c σ H Q:=h
def Zzw(K:aD)(b:TE):TE:=λσ H Q=>∃a u v r,σ=↑a::r/\dU K H a [u,v]/\b (some u::some v::r) H Q
theorem Zjy{K:aD}{J:It}{b:List Nat}{c:TE}{σ:L2.St}{H:Hp}{Q:VK}(h:LCg J b wZ (Zzw K c) σ H Q):Zr8 K J b wZ c σ H Q:=by
 obtain⟨W,w0,step⟩:=h;refine⟨W,w0,λi m j H f=>?_⟩;rcases step i m j H f with z | ⟨g,l,st⟩
 ·exact .inl z
 ·refine .inr ⟨g,l,λx d y=>?_⟩;have h1:=st x d y;simp only[wZ,↓reduceIte]at h1;obtain⟨a,u,v,r,e,hs,q⟩:=h1;cases e;refine⟨a,u,v,rfl,hs,?_⟩;simp only[wZ,↓reduceIte];exact q
theorem Zab{X:Cx}{q iter:AN}{x y:Str}{F A pt r:Pos}{D:Nat}{n:AG}{a:Scope}{cl:List (Str×AI)}{B:TI}{tc:TT}{E:TE}{cns:AH}(b:List Nat)
  (O:PI X (.Tuple [.Name x F,.Name y A] D pt) iter B)
  (V:∀C s H ex pn,PF (Ug X a cl (x::y::cns) C s H ex pn) n tc) (P:∀C s H ex pn,PE (Ug X a cl (x::y::cns) C s H ex pn) q E) (hc:X.calm=true)
  (e:closureFor a X.env=pure cl) (t:AllIn X.env.cells cl) (k:zA X cns b)
  (d:a.kind=.function) (j:(a.names.all λp=>p.2 != .cell)=true) (f:(a.names.all λp=>p.2 != .free || (cl.lookup p.1).isSome)=true)
  (u:(cns.all λy=>a.names.lookup y == some .free)=true) (c:∀y∈a.names,y.2=.local->a.names.lookup y.1=some .local) (hx:a.names.lookup x=some .local) (hy:a.names.lookup y=some .local) (o:(x::y::cns).Nodup)
  (hs:∀v,foldedSetIterable iter X.env v=pure v:=by intro _;rfl):
  PE X (.ListComp q [⟨.Tuple [.Name x F,.Name y A] D pt,iter,n,0⟩] a r) (Zl7 X.K B b tc E):=by
 refine Zoc (ns:=[x,y]) (gt:=Zbz X.K 2 (m5 (aO 0) (m5 (aO 1) Zc0))) b (λJ Z H Q h=>?_) O (λC s H ex pn=>Cz hc (gO (dI o rfl (.inl (lookup_relabel_local hx)) (.inr (lookup_relabel_local hx))) (gO (dI o rfl (.inl (lookup_relabel_local hy)) (.inr (lookup_relabel_local hy))) uJ))) V P hc e t k d j f u c hs;obtain⟨W,w0,turn⟩:=h;refine⟨W,w0,λi m U H L=>(turn i m U H L).imp id λ⟨g,l,st⟩=>⟨g,l,λz I y M hv=>?_⟩⟩;obtain⟨T,N,R,S,w,st⟩:=st z I y
 match M,hv with
 | [v,Y],_=>exact⟨[some N,some R],rfl,⟨T,_,S,w,rfl,_,_,rfl,_,_,rfl,rfl,rfl,rfl⟩,st⟩
end G
namespace G
open PySem L2
def Ite(K:aD)(a:AI):It:=
 ⟨λi H=>∃xs x,cA K H a xs/\xs[i]? =some x,λi H x H'=>∃t v,x=.ref t/\H t=none/\H'=upd H t (.tup [.int i,v])/\∀xs,cA K H a xs->xs[i]? =some v,λi H=>∃xs,cA K H a xs/\xs.length<=i⟩
def BR(K:aD)(c:TA):TI:=λσ H R=>c σ H λvs b=>∃a,vs=[.ref a]/\(∃xs,cA K b a xs)/\R (Ite K a) b
theorem ZAq{K:aD}{c:TA}{σ:L2.St}{H:Hp}{R:It->Hp->Prop}(h:c σ H λvs b=>∃a,vs=[.ref a]/\(∃xs,cA K b a xs)/\R (Ite K a) b):BR K c σ H R:=h
theorem ZAn{K:aD}{tl:TE}{σ:L2.St}{H:Hp}{R:It->Hp->Prop}(h:tl σ H λx b=>∃a,x=.ref a/\(∃xs,dU K b a xs)/\R (Itt K a) b):Zwv K tl σ H R:=h
def JW(v d:AI):HO:=.ext λh=>h.IsItemsView v d
def Zgk(d:TE):TE:=λσ H Q=>d σ H λx b=>∃a c,x=.ref a/\Rd b a (.dK c)/\∀v,b v=none->Q (.ref v) (upd b v (JW v a))
theorem Zt0{d:TE}{σ:L2.St}{H:Hp}{Q:VK}(h:d σ H λx b=>∃a c,x=.ref a/\Rd b a (.dK c)/\∀v,b v=none->Q (.ref v) (upd b v (JW v a))):Zgk d σ H Q:=h
def Zg7(H:Hp):AF->List eJ->Prop
 | [],[]=>True
 | t::ts,kv::a=>H t=some (.tup [kV kv.1,kv.2])/\Zg7 H ts a
 | _,_=>False
def Zij:List V->Hp->VK->Prop:=λxs H Q=>∃v a b,xs=[.ref v]/\H v=some (JW v a)/\Rd H a (.dK b)/\∀l ts H',H l=none->bA H H'->H' l=some (.lst cn)->Zg7 H' ts b->Q (.ref l) H'
theorem Zsz{H:Hp}{Q:VK}{v a:AI}{b:List eJ}(h1:H v=some (JW v a))(h2:Rd H a (.dK b))(h:∀l ts H',H l=none->bA H H'->H' l=some (.lst cn)->Zg7 H' ts b->Q (.ref l) H'):Zij [.ref v] H Q:=⟨v,a,b,rfl,h1,h2,h⟩
def Zt9(a:List eJ):V->Option Bool
 | .int i=>some (nD a (.inl i)).isSome
 | .str x=>some (nD a (.inr x)).isSome
 | .non=>some false
 | _=>none
def Zng(d:Bool)(ty g:TE):TE:=λσ H Q=>ty σ H λy f=>g σ f λx e=>∃a c b,x=.ref a/\Rd e a (.dK c)/\Zt9 c y=some b/\Q (.bl (if d then !b else b)) e
theorem Zwq{d:Bool}{ty f:TE}{σ:L2.St}{H:Hp}{Q:VK}(h:ty σ H λy g=>f σ g λx e=>∃a c b,x=.ref a/\Rd e a (.dK c)/\Zt9 c y=some b/\Q (.bl (if d then !b else b)) e):Zng d ty f σ H Q:=h
section
variable {K:aD}{a:AI}{g:TG}{tb:TS}{σ:L2.St}{H:Hp}{n:L2.St->Hp->Prop}{r:VK}
theorem Zq7(xs:List V)(Pv:Nat->L2.St->Hp->Prop)(h0:Pv 0 σ H)(hl:∀i σ H,i<=xs.length->Pv i σ H->cA K H a xs)
  (hs:∀i x t σ H,xs[i]? =some x->Pv i σ H->H t=none->g (.ref t) σ (upd H t (.tup [.int i,x])) λb d=>tb ⟨Pv b9,r,n,Pv b9⟩ b d) (hd:∀ σ H,Pv xs.length σ H->n σ H):
  ∃W:Nat->Nat->L2.St->Hp->Prop,(∃m,W 0 m σ H)/\∀i m σ H,W i m σ H->
   ((Ite K a).stop i H/\n σ H)\/((Ite K a).go i H/\∃N:L2.St->Hp->Prop,(∀ c H',N c H'->∃f,f<m/\W b9 f c H')/\∀x H',(Ite K a).yld i H x H'->g x σ H' λb d=>tb ⟨N,r,n,N⟩ b d):=by
 refine⟨λi m σ H=>i<=xs.length/\m=xs.length - i/\Pv i σ H,⟨xs.length,Nat.zero_le _,rfl,h0⟩,?_⟩;rintro i m σ H ⟨h,rfl,p⟩;have hq:=hl i σ H h p
 by_cases hk:i=xs.length
 ·subst hk;exact .inl ⟨⟨xs,hq,Nat.le_refl _⟩,hd σ H p⟩
 ·have e:i<xs.length:=δ
  have hx:xs[i]? =some xs[i]:=bG e;refine .inr ⟨⟨xs,_,hq,hx⟩,Pv b9,λc H' k=>⟨xs.length - b9,δ,δ,rfl,k⟩,?_⟩;rintro x H' ⟨t,v,rfl,j,rfl,hv⟩;exact hs i v t σ H (hv xs hq) p j
theorem ZB8(xs:List V)(Pv:Nat->L2.St->Hp->Prop)(h0:Pv 0 σ H)(hl:∀i σ H,i<=xs.length->Pv i σ H->dU K H a xs)
  (hs:∀i x σ H,xs[i]? =some x->Pv i σ H->g x σ H λb d=>tb ⟨Pv b9,r,n,Pv b9⟩ b d) (hd:∀ σ H,Pv xs.length σ H->n σ H):
  ∃W:Nat->Nat->L2.St->Hp->Prop,(∃m,W 0 m σ H)/\∀i m σ H,W i m σ H->
   ((Itt K a).stop i H/\n σ H)\/((Itt K a).go i H/\∃N:L2.St->Hp->Prop,(∀ c H',N c H'->∃f,f<m/\W b9 f c H')/\∀x H',(Itt K a).yld i H x H'->g x σ H' λb d=>tb ⟨N,r,n,N⟩ b d):=by
 refine⟨λi m σ H=>i<=xs.length/\m=xs.length - i/\Pv i σ H,⟨xs.length,Nat.zero_le _,rfl,h0⟩,?_⟩;rintro i m σ H ⟨h,rfl,p⟩;have hq:=hl i σ H h p
 by_cases hk:i=xs.length
 ·subst hk;exact .inl ⟨⟨xs,hq,Nat.le_refl _⟩,hd σ H p⟩
 ·have e:i<xs.length:=δ
  have hx:xs[i]? =some xs[i]:=bG e;refine .inr ⟨⟨xs,_,hq,hx⟩,Pv b9,λc H' j=>⟨xs.length - b9,δ,δ,rfl,j⟩,?_⟩;rintro x H' ⟨rfl,hv⟩;exact hs i x σ H' (hv xs hq) p
theorem Zk0{d:List Nat}{tc:TT}{l:TE}{Q:VK}{xs:List V}(hs:cA K H a xs)(hz:xs.length<=1000000)(W:Nat->List V->Hp->Prop)(h0:W 0 [] H)(h:∀i c b,W i c b->bA H b/\c.length<=i)
  (step:∀i x c b t (C:List V->Hp->Prop),(∀f e,W b9 f e->C f e)->xs[i]? =some x->W i c b->b t=none->tc (some (.int i)::some x::d.map bp) (upd b t (.tup [.int i,x])) λk j=>if k=true then l (some (.int i)::some x::d.map bp) j (λy e=>C (c++[y]) e)else C c j)
  (q:∀c b,W xs.length c b->∀p,b p=none->Q (.ref p) (upd b p (.lst c))):Zr8 K (Ite K a) d tc l σ H Q:=by
 refine⟨λi m c b=>i<=xs.length/\m=xs.length - i/\W i c b,⟨xs.length,Nat.zero_le _,rfl,h0⟩,?_⟩;rintro i m c b ⟨u,rfl,w⟩;obtain⟨sm,hl⟩:=h i c b w;have hq:cA K b a xs:=sm.seq hs
 by_cases hk:i=xs.length
 ·subst hk;exact .inl ⟨⟨xs,hq,Nat.le_refl _⟩,q c b w⟩
 ·have g:i<xs.length:=δ
  refine .inr ⟨⟨xs,_,hq,bG g⟩,Nat.lt_of_le_of_lt (show c.length<=1000000 by omega) (show 1000000<sizeLine by decide),?_⟩;rintro x s ⟨t,v,rfl,r,rfl,hv⟩;exact⟨t,_,_,rfl,dU.of ao,step i v c b t (λf e=>∃n,n<xs.length - i/\i+1<=xs.length/\n=xs.length - (i+1)/\W b9 f e) (λf e o=>⟨xs.length - b9,δ,δ,rfl,o⟩) (hv xs hq) w r⟩
end
end G
namespace G
open PySem L2 PySem.Spec PyProof.Rows
theorem Zm2{X:Cx}{pins:At}{σ:L2.St}{H:Hp}{s:AK}{h':Heap}{t':Nat}{e a:AI}(I:Inv X pins σ H s)(k:∀b u,b≠e->b≠a->s.heap.get? b=some u->h'.get? b=some u)(f:pR X pins H e)(d:pR X pins H a):
  Inv X pins σ H { s with heap:=h',toks:=t' }:=by
 have ne:∀b u,H b=some u->b≠e:=λb u q z=>by rw[z,f.1]at q;cases q
 have g:∀b u,H b=some u->b≠a:=λb u q z=>by rw[z,d.1]at q;cases q
 have nm:∀b,b∉[e,a]->b≠e/\b≠a:=λb hb=>⟨λz=>hb (by simp[z]),λz=>hb (by simp[z])⟩;refine I.step (g':=s.gens) (d':=s.drawn) (ch:=[e,a]) (λb hb=>?_) (λb o _ _ hc q _=>k b o (nm b hc).1 (nm b hc).2 q) (λb o _ _ hc q _=>⟨o.slots,k b o (nm b hc).1 (nm b hc).2 q⟩) (λ_ _ _ _ n=>n)
  (λb o hc q=>⟨o,k b o (nm b hc).1 (nm b hc).2 q⟩) (λ_ _ q=>q) (λ_ _ _ q=>q) (λb p q=>⟨#[],by rw[q];simp⟩) (λm hm=>?_) (λb u q=>?_) I.bare
 ·rcases List.mem_cons.mp hb with z | z
  ·rw[z];exact⟨f.2.2.2.1,f.2.1,f.2.2.2.2.1,f.2.2.2.2.2⟩
  ·have i:b=a:=by simpa using z
   rw[i];exact⟨d.2.2.2.1,d.2.1,d.2.2.2.2.1,d.2.2.2.2.2⟩
 ·obtain⟨o,j,h,l,r⟩:=hm;exact⟨o,j,h,k _ o (Ne.symm f.2.1) (Ne.symm d.2.1) l,r⟩
 ·refine(I.hok b u q).stay (λc v hc z=>?_) (λ_ z=>z) λ_ _ z=>z;rcases hc with y | y
  ·rw[y]at z ⊢;exact k b v (ne b u q) (g b u q) z
  ·exact k c v (ne c _ y) (g c _ y) z
theorem Tr{X:Cx}{pins:At}{σ:L2.St}{H:Hp}{s:AK}{h':Heap}{t':Nat}{e d a:AI}{o:HO}(I:Inv X pins σ H s)(k:∀b u,b≠e->b≠d->s.heap.get? b=some u->h'.get? b=some u)(g:pR X pins H e)(f:pR X pins H d)
  (ha:s.heap.objs.size<=a) (new:fZ X.prog X.w dz h' a o):Inv X pins σ dz { s with heap:=h',toks:=t' }:=by
 have hn:=I.hok.fresh ha;have ne:∀b u,H b=some u->b≠e:=λb u q z=>by rw[z,g.1]at q;cases q
 have i:∀b u,H b=some u->b≠d:=λb u q z=>by rw[z,f.1]at q;cases q
 have nm:∀b,b∉[e,d]->b≠e/\b≠d:=λb hb=>⟨λz=>hb (by simp[z]),λz=>hb (by simp[z])⟩;have p:∀b u,s.heap.get? b=some u->b≠a:=λb u q=>Nat.ne_of_lt (Nat.lt_of_lt_of_le (Heap.lt_size q) ha);refine I.step (g':=s.gens) (d':=s.drawn) (ch:=[e,d]) (λb hb=>?_) (λb o _ _ hc q _=>k b o (nm b hc).1 (nm b hc).2 q) (λb o _ _ hc q _=>⟨o.slots,k b o (nm b hc).1 (nm b hc).2 q⟩) (λb u _ q n=>(aB (p b u q)).trans n)
  (λb o hc q=>⟨o,k b o (nm b hc).1 (nm b hc).2 q⟩) (λb h q=>(aB (aF q hn)).trans q) (λb o h q=>(aB (aF q hn)).trans q) (λb A q=>⟨#[],by rw[aB (aF q hn),q];simp⟩) (λm hm=>?_) (λb u q=>?_) I.bare
 ·rcases List.mem_cons.mp hb with z | z
  ·rw[z];exact⟨g.2.2.2.1,g.2.1,g.2.2.2.2.1,g.2.2.2.2.2⟩
  ·have l:b=d:=by simpa using z
   rw[l];exact⟨f.2.2.2.1,f.2.1,f.2.2.2.2.1,f.2.2.2.2.2⟩
 ·obtain⟨o,t,j,x,r⟩:=hm;exact⟨o,t,j,k _ o (Ne.symm g.2.1) (Ne.symm f.2.1) x,r⟩
 ·by_cases hb:b=a
  ·subst hb;rw[ao]at q;cases q;exact new
  ·rw[aB hb]at q;refine(I.hok b u q).stay (λc v hc z=>?_) (λc z=>by rw[aB (aF z hn)];exact z) λc h z=>by rw[aB (aF z hn)];exact z
   rcases hc with y | y
   ·rw[y]at z ⊢;exact k b v (ne b u q) (i b u q) z
   ·exact k c v (ne c _ y) (i c _ y) z
theorem Zl4{P:AM}{w:AO}{K:aD}{r:AG}{x1:Nat}{pt:Pos}(a e f:AI)(C:e≠f):
    Turn P w K (.Tuple r x1 pt) (Ite K a) [e,f] e (λi h=>(∃old,IsEnum h e f ((i:Nat):Int) old)/\h.IsListIter f a i) where
  mem:=ζ
  obj:=λi h st b hb=>by
    obtain⟨⟨old,j⟩,o,ho,c,d⟩:=st;rcases List.mem_cons.mp hb with z | z
    · rw[z];exact⟨_,j,λv z=>by cases z⟩
    · have L:b=f:=by simpa using z
      rw[L];exact⟨o,ho,λv z=>by rw[d]at z;cases z⟩
  keep:=λi h h' st k=>⟨let ⟨old,j⟩:=st.1;⟨old,k e ζ _ j⟩,st.2.at λo q=>k f ζ o q⟩
  item:=by
    intro X W D S hc i m s σ H E I y st F;subst W D S;obtain⟨xs,x,hq,hx⟩:=F;obtain⟨R,V,p,hz⟩:=I.list hq;obtain⟨u,hu,ru⟩:=V.get hx;obtain⟨⟨old,j⟩,l⟩:=st;have Z:=y e ζ;have Y:=y f ζ;have t:e<s.heap.objs.size:=Heap.lt_size j;have T:f<s.heap.objs.size:=by obtain⟨o,q,_⟩:=l;exact Heap.lt_size q
    refine wpAny_pyNext_enum_item j l p.isList (x:=u) (by simpa using hu) C λh1 J B M hz1 U=>?_;refine⟨_,rfl,wpAny_letOwnedTupleGo_enum (s:={ s with heap:=h1,toks:=s.toks+1 }) J λh2 O g=>?_⟩
    replace g:Heap.SameBut e h1 h2:=g
    have hn:H s.heap.objs.size=none:=I.hok.fresh Γ;have I2:Inv X m σ (upd H s.heap.objs.size (.tup [.int ((i:Nat):Int),x])) { s with heap:=h2,toks:=s.toks+1 }:=by
      refine Tr I (λb v hb n q=>g.extBut b v hb (U b v hb n q)) Z Y Γ ?_;refine⟨by show 2<=sizeLine;decide,[.int ((i:Nat):Int) s.toks,u],.cons ⟨_,rfl⟩ (.cons ru .nil),⟨_,g.extBut _ _ (Nat.ne_of_gt t) M,rfl,_,rfl⟩⟩
    refine⟨.ref s.heap.objs.size,_,I2,rfl,⟨_,x,rfl,hn,rfl,λys hy=>by rw[I.Zem hy hq];exact hx⟩,⟨⟨u,?_⟩,B.extBut g.extBut (Ne.symm C)⟩,λb hb=>?_⟩
    · have e1:(((i+1:Nat)):Int)=(i:Int)+1:=δ
      show IsEnum h2 e f (((i+1:Nat)):Int) u;rw[e1];exact O
    · rcases List.mem_cons.mp hb with z | z
      · rw[z,aB (Nat.ne_of_lt t)];exact Z.1
      · have L:b=f:=by simpa using z
        rw[L,aB (Nat.ne_of_lt T)];exact Y.1
  done:=by
    intro X W D S hc i m s σ H E I y st F;subst W D S;obtain⟨xs,hq,hx⟩:=F;obtain⟨R,V,p,hz⟩:=I.list hq;obtain⟨⟨old,j⟩,l⟩:=st;have hl:=V.length;exact wpAny_pyNext_enum_end (I.ok.hd hc) j l p.isList (by simp;omega) λh' N=>⟨rfl,Zm2 (t':=s.toks) I (λb o _ n q=>N b o n q) (y e ζ) (y f ζ)⟩
  self:=λA i s Q E st h=>let ⟨_,j⟩:=st.1;wpAny_pyIter_enum j h
theorem uI{X:Cx}{f:AG}{x:Nat}{pt:Pos}{l:AN}{k:TA}{p g:Pos}(u:Gl X "enumerate")(hm:X.mg "enumerate"=none)(ha:PA X [l] k)(hs:starEach [l] X.env=[(false,eval l X.env)]:=by rfl):
  PI X (.Tuple f x pt) (.Call (.Name "enumerate" p) [l] [] g) (BR X.K k):=by
 intro c s m H R I h;refine Call_ (SN I u hm boot_enumerate (PyProof.Rows.callWith_type1 (gw (ha g c s m H _ I h) λus d qc=>?_) hs rfl));obtain⟨C,H1,I1,r1,q1⟩:=qc;obtain⟨a,e,⟨D,hq⟩,q⟩:=q1;subst e;cases r1 with
 | cons r y=>
  cases y;obtain rfl:_=Value.ref a:=r;obtain⟨w,E,v,hz⟩:=I1.list hq;refine call_enumerate_list v.isList λn j i t hk=>?_;have A:Inv X c m H1 { d with heap:=n }:=I1.kept (t':=d.toks) hk
  refine wpAny_pyIter_enum (s:={ d with heap:=n }) j ?_;have o:∀b,d.heap.objs.size<=b->pR X c H1 b:=λb hb=>I1.Zfb hb (I1.hok.fresh hb);refine⟨_,[d.heap.objs.size+1,d.heap.objs.size],_,_,H1,rfl,A,Zl4 a _ _ (Nat.succ_ne_self _),⟨⟨_,j⟩,i⟩,λb hb=>?_,q⟩;rcases List.mem_cons.mp hb with z | z
  ·rw[z];exact o _ (Nat.le_succ _)
  ·have B:b=d.heap.objs.size:=by simpa using z
   rw[B];exact o _ Γ
theorem Zm3{X:Cx}{pins:At}{σ:L2.St}{H:Hp}{s:AK}{a:AI}{o:HO}(I:Inv X pins σ H s)(f:pR X pins H a)(new:fZ X.prog X.w dz s.heap a o):Inv X pins σ dz s:=by
 have hn:=f.1;have r:Inv X pins σ dz { s with heap:=s.heap,gens:=s.gens,drawn:=s.drawn,toks:=s.toks }:=by
  refine I.step (g':=s.gens) (t':=s.toks) (d':=s.drawn) (ch:=[a]) (λb hb=>?_) (λb u _ _ _ q _=>q) (λb u _ _ _ q _=>⟨u.slots,q⟩) (λb u hc q n=>(aB (λz=>hc (by simp[z]))).trans n) (λb u _ q=>⟨u,q⟩)
   (λb d q=>(aB (aF q hn)).trans q) (λb u d q=>(aB (aF q hn)).trans q) (λb e q=>⟨#[],by rw[aB (aF q hn),q];simp⟩) (λm hm=>hm) (λb u q=>?_) I.bare
  ·have z:b=a:=by simpa using hb
   rw[z];exact⟨f.2.2.2.1,f.2.1,f.2.2.2.2.1,f.2.2.2.2.2⟩
  ·by_cases hb:b=a
   ·subst hb;rw[ao]at q;cases q;exact new
   ·rw[aB hb]at q;exact(I.hok b u q).stay (λc v _ z=>z) (λc z=>by rw[aB (aF z hn)];exact z) λc d z=>by rw[aB (aF z hn)];exact z
 exact r
theorem Zi1{X:Cx}{pins:At}{H:Hp}{a b:AI}{o:HO}(f:pR X pins H b)(h:b≠a):pR X pins dz b:=⟨(aB h).trans f.1,f.2⟩
theorem Zya{P:AM}{w:AO}{k:Key}{u:AJ}(h:(dD P w).is k u=true):RelV (kV k) u:=by
 rcases dF h with ⟨i,t,rfl,rfl⟩ | ⟨x,t,rfl,rfl⟩
 ·exact⟨t,rfl⟩
 ·exact⟨t,rfl⟩
theorem Zod{X:Cx}{o:AN}{l:TE}{d c:Pos}(j:PE X o l)(f:attributeBase o "items" X.env (eval o X.env)=eval o X.env:=by rfl)(g:(d.endLine == c.line)=true:=by rfl):
  PE X (.Call (.Attribute o "items" d) [] [] c) (Zgk l):=by
 intro i s p H Q I h;refine wpAny_Call_method0_late f g (gw (j i s p H _ I h) λu m qc=>?_);obtain⟨x,H1,I1,rx,a,kvs,ex,rd,q⟩:=qc;subst ex;obtain rfl:u=Value.ref a:=rx;obtain⟨t1,t2,hd⟩:=Zpm I1 (.inl ⟨kvs,rd⟩);obtain⟨z,_,n,rel,dd⟩:=IK I1.hok rd;refine⟨"dict","dict.items",PySem.F.plainAttrs_dict,PySem.F.slot_dict_items,PySem.F.type_dict_items,t1,t2,Calls.callWith_builtin rfl (PySem.evalArgs_none ?_)⟩;refine call_meetsIn PySem.F.slot_dict_items t1 PySem.F.entry_dict_items (PySem.F.args_dict_items_1 _) (meets_dict_items (dD X.prog X.w) a hd) ⟨⟨n,dd⟩,?_⟩;have hn:=I1.hok.fresh Γ;refine⟨.ref m.heap.objs.size,_,I1.laid (t':=m.toks) (λb u e=>Heap.get?_push_of_some _ e) Γ ?_,rfl,q _ hn⟩;exact⟨⟨_,Heap.get?_push_size _ rfl,rfl,rfl⟩,⟨_,Heap.get?_push_size _ rfl⟩,(by rintro h1 h2 ⟨o,j,r⟩ k;exact⟨o,k o j,r⟩)⟩
theorem Ku{X:Cx}{pins:At}{σ:L2.St}{s:AK}:∀(f:AF) (c:List eJ) (vs:List (Key×AJ)) (H:Hp),Inv X pins σ H s->f.Nodup->(∀a∈f,pR X pins H a)->f.length=c.length->KV c vs->
  (∀(j:Nat) (a:AI),f[j]? =some a->∃d k x,vs[j]? =some (k,x)/\(dD X.prog X.w).is k d=true/\s.heap.get? a=some { cls:=.type "tuple",data:=.seq #[d,x] })->
  ∃H',Inv X pins σ H' s/\bA H H'/\Zg7 H' f c
 | [],[],_,H,I,_,_,_,_,_=>⟨H,I,λ_ _ h=>h,trivial⟩
 | [],_::_,_,_,_,_,_,hl,_,_=>by simp at hl
 | _::_,[],_,_,_,_,_,hl,_,_=>by simp at hl
 | a::f,g::c,vs,H,I,nd,l,hl,r,m=>by
  cases r with
  | cons E rs=>
   rename_i q D
   obtain⟨d,k,x,e,hk,v⟩:=m 0 a rfl;have B:q=(k,x):=by simpa using e
   subst B;obtain⟨u,p⟩:=E;have n:=l a ζ;have y:a∉f:=(List.nodup_cons.mp nd).1;have i:g.1=k:=u;have A:Inv X pins σ (L2.upd H a (.tup [kV g.1,g.2])) s:=Zm3 I n ⟨by show 2<=sizeLine;decide,[d,x],.cons (by rw[i];exact Zya hk) (.cons p .nil),⟨_,v,rfl,_,rfl⟩⟩;obtain⟨H',t,sm,C⟩:=Ku f c D _ A (List.nodup_cons.mp nd).2 (λb hb=>Zi1 (l b (by simp[hb])) λz=>y (z ▸ hb)) (by simpa using hl) rs (λj b hb=>by simpa using m (j+1) b (by simpa using hb));refine⟨H',t,λb o hb=>sm b o ?_,sm _ _ ao,C⟩;rw[aB (aF hb n.1)];exact hb
theorem X8:∀a:AF,Vals (a.map V.ref) (a.map Value.ref)
 | []=>.nil
 | _::a=>.cons rfl (X8 a)
theorem Zih{X:Cx}(hc:X.calm=true):Cp X (.type "list") Zij:=by
 intro f s B H F us Q I r h;obtain⟨v,a,m,rfl,hv,rd,q⟩:=h;obtain⟨u,rfl,t⟩:=Vals.one r;obtain rfl:u=Value.ref v:=t;have k:s.heap.IsItemsView v a:=(show fZ X.prog X.w H s.heap v (JW v a)from I.hok v _ hv).1;obtain⟨z,hd,x,rel,dd⟩:=IK I.hok rd;obtain⟨E,hm⟩:=dd.dictAt;have hl:=rel.length;refine W.kdx_call (I.ok.hd hc) k hm (by rw[<- hl];exact z) λD tk l c d hk A e i g=>?_;have hn:=I.hok.fresh (Nat.le_refl s.heap.objs.size);have y:Inv X f B (upd H s.heap.objs.size (.lst (d.map V.ref))) { s with heap:=D,toks:=tk }:=by
  refine I.laid hk Γ ⟨by rw[aX,e,<- hl];exact z,l.toList,c,by rw[g];exact X8 d,by rw[Array.toArray_toList];exact A⟩
 have nd:d.Nodup:=i.rise.imp λh=>Nat.ne_of_lt h;obtain⟨n,p,sm,C⟩:=Ku d m x _ y nd (λb hb=>Zi1 (I.Zfb (Nat.le_of_lt (i.above b hb)) (I.hok.fresh (Nat.le_of_lt (i.above b hb)))) (Nat.ne_of_gt (i.above b hb))) (by rw[e,hl]) rel (λj b hb=>i.pairs j b hb);refine⟨.ref s.heap.objs.size,n,p,rfl,q _ d n hn (λb o hb=>sm b o ?_) (sm _ _ ao) C⟩;rw[aB (aF hb hn)];exact hb
theorem Zq5{X:Cx}{pins:At}{σ:L2.St}{H:Hp}{s:AK}{a:AI}{o:Obj}{d:List eJ}(I:Inv X pins σ H s)(h:H a=some (.dK d))(f:s.heap.get? a=some o):Inv X pins σ (upd H a (.wB o (.dK d))) s:=by
 have ne:∀b u,H b=some u->u≠.dK d->b≠a:=λb u q n z=>n (by rw[z,h]at q;exact(Option.some.inj q).symm);have r:Inv X pins σ (upd H a (.wB o (.dK d))) { s with heap:=s.heap,gens:=s.gens,drawn:=s.drawn,toks:=s.toks }:=by
  refine I.step (g':=s.gens) (t':=s.toks) (d':=s.drawn) (ch:=[]) (λb hb=>nomatch hb) (λb u _ _ _ q _=>q) (λb u _ _ _ q _=>⟨u.slots,q⟩) (λb u hc q n=>(aB (λz=>by rw[z,h]at n;cases n)).trans n) (λb u _ q=>⟨u,q⟩)
   (λb e q=>(aB (ne b _ q aS)).trans q) (λb u e q=>(aB (ne b _ q aS)).trans q) (λb g q=>⟨#[],by rw[aB (ne b _ q aS),q];simp⟩) (λm hm=>hm) (λb u q=>?_) I.bare
  have hs:∀c u,H c=some u->u≠.dK d->upd H a (.wB o (.dK d)) c=some u:=λc u z n=>by rw[aB (ne c u z n)];exact z
  by_cases hb:b=a
  ·subst hb;rw[ao]at q;cases q;exact⟨f,(I.hok b _ h).stay (λc v _ z=>z) (λc z=>hs c _ z (λy=>by cases y)) λc e z=>hs c _ z (λy=>by cases y)⟩
  ·rw[aB hb]at q;exact(I.hok b u q).stay (λc v _ z=>z) (λc z=>hs c _ z (λy=>by cases y)) λc e z=>hs c _ z (λy=>by cases y)
 exact r
def Zw7:Option Key->AJ->Bool
 | none,.none=>true
 | none,_=>false
 | some k,v=>Ho k v
theorem iK{k:Option Key}{v:AJ}(h:Zw7 k v=true):(k=none/\v=.none)\/∃j,k=some j/\Ho j v=true:=by
 cases k with
 | none=>cases v<;>first | exact .inl ⟨rfl,rfl⟩ | cases h
 | some j=>exact .inr ⟨j,rfl,h⟩
theorem S6{j:Key}(h:Ho j Value.none=true):False:=by
 rcases dF h with ⟨i,t,_,e⟩ | ⟨x,t,_,e⟩<;>cases e
def Zvv(P:AM)(w:AO):PySem.KeyKind P w (Option Key) where
  is:=Zw7
  hash:=λk=>match k with | none=>reduceHash 0xFCA86420 | some k=>Zy9 w k
  inj:=λv a b ha hb=>by
    rcases iK ha with ⟨rfl,rfl⟩ | ⟨i,rfl,h1⟩
    · rcases iK hb with ⟨rfl,_⟩ | ⟨j,rfl,h2⟩
      · rfl
      · exact(S6 h2).elim
    · rcases iK hb with ⟨rfl,rfl⟩ | ⟨j,rfl,h2⟩
      · exact(S6 h1).elim
      · rw[(dD P w).inj v i j h1 h2]
  byValue:=λk v h=>by
    rcases iK h with ⟨rfl,rfl⟩ | ⟨i,rfl,h1⟩
    · rfl
    · exact(dD P w).byValue i v h1
  pyHash:=λ{A E s k v Q} hv h=>by
    rcases iK hv with ⟨rfl,rfl⟩ | ⟨i,rfl,h1⟩
    · exact W.pyHash_slot (T:="NoneType") rfl F.slot_NoneType_hash F.entry_NoneType_hash (F.args_NoneType_hash_1 _) (beq_builtin_none _) (.inl rfl) (wpAny_bind (wpAny_pure (wpAny_bind (wpAny_mkInt (wpAny_pure ⟨_,_,rfl,h⟩)))))
    · exact(dD P w).pyHash h1 h
  eqBool:=λ{A E s a b u v Q} hu hv h=>by
    rcases iK hu with ⟨rfl,rfl⟩ | ⟨i,rfl,h1⟩
    · rcases iK hv with ⟨rfl,rfl⟩ | ⟨j,rfl,h2⟩
      · exact uW (A:=A) (s:=s) (y:=.non) (x:=.non) rfl rfl rfl rfl P w E Q h
      · rcases dF h2 with ⟨n,t,rfl,rfl⟩ | ⟨x,t,rfl,rfl⟩
        · exact uW (A:=A) (s:=s) (y:=.non) (x:=.int n) rfl ⟨t,rfl⟩ rfl rfl P w E Q h
        · exact uW (A:=A) (s:=s) (y:=.non) (x:=.str x) rfl ⟨t,rfl⟩ rfl rfl P w E Q h
    · rcases iK hv with ⟨rfl,rfl⟩ | ⟨j,rfl,h2⟩
      · rcases dF h1 with ⟨n,t,rfl,rfl⟩ | ⟨x,t,rfl,rfl⟩
        · exact uW (A:=A) (s:=s) (y:=.int n) (x:=.non) ⟨t,rfl⟩ rfl rfl rfl P w E Q h
        · exact uW (A:=A) (s:=s) (y:=.str x) (x:=.non) ⟨t,rfl⟩ rfl rfl rfl P w E Q h
      · refine(dD P w).eqBool h1 h2 ?_
        have e:decide (i=j)=decide (some i=some j):=by
          by_cases z:i=j
          · subst z;simp
          · rw[decide_eq_false z,decide_eq_false (λy=>z (Option.some.inj y))]
        rw[e];exact h
  «strs»:=λk x t v h=>by
    rcases iK h with ⟨_,e⟩ | ⟨i,rfl,h1⟩
    · cases e
    · exact(dD P w).strs i x t v h1
theorem Zox{P:AM}{w:AO}{h:Heap}{a:AI}{vs:List (Key×AJ)}(dd:h.DictOf (dD P w) a vs):∃f,h.MapOf (Zvv P w) a f/\f none=none:=by
 obtain⟨o,c,d,g,hc,hd,hk,hp,hn⟩:=dd;refine⟨λk=>findBy (Zvv P w).is c k,⟨o,c,d,g,hc,hd,λe b=>?_,λ_=>rfl⟩,?_⟩
 ·obtain⟨k,h1,h2⟩:=hk e b;exact⟨some k,h1,h2⟩
 ·show Option.map (λx=>x.val) (Array.find? (λe=>Zw7 none e.key) c)=none;rw[Option.map_eq_none_iff,Array.find?_eq_none];intro e b;obtain⟨k,h1,_⟩:=hk e b;rcases dF h1 with ⟨n,t,_,z⟩ | ⟨x,t,_,z⟩<;>rw[z]<;>exact λy=>nomatch y
section
variable {X:Cx}{i o:AN}{ty td:TE}
theorem Zhy{a:List eJ}{y:V}{b:Bool}(h:Zt9 a y=some b):(∃k,y=kV k/\b=(nD a k).isSome)\/(y=.non/\b=false):=by
 cases y<;>simp only[Zt9,Option.some.injEq]at h<;>first | cases h
 ·exact .inr ⟨rfl,rfl⟩
 ·exact .inl ⟨.inl _,rfl,rfl⟩
 ·exact .inl ⟨.inr _,rfl,rfl⟩
theorem Zh8(hu:X.A.units+1<cLine)(g:PE X i ty)(l:PE X o td):PC X .NotIn i o (Zng true ty td):=by
 intro c s d H Q I h;refine gw (g c s d H _ I h) λiv m qc=>?_;obtain⟨y,H1,I1,ry,h1⟩:=qc;refine gw (l c m d H1 _ I1 h1) λj p qc=>?_;obtain⟨x,H2,I2,rx,a,kvs,b,ex,rd,hb,q⟩:=qc;subst ex;obtain rfl:j=Value.ref a:=rx;rcases Zhy hb with ⟨k,rfl,rfl⟩ | ⟨rfl,rfl⟩
 ·exact Zkm hu I2 (.inl ⟨kvs,k,rd,rfl,rfl⟩) ry λt e=>⟨.bl _,H2,e,rfl,q⟩
 ·obtain rfl:iv=Value.none:=ry;obtain⟨z,hd,r,rel,dd⟩:=IK I2.hok rd;obtain⟨f,hm,n⟩:=Zox dd;refine wpAny_notIn_of (knd:=Zvv X.prog X.w) (k:=none) rfl hd hm ?_;rw[n];exact⟨.bl _,H2,I2.tok _,rfl,q⟩
end
section
variable {X:Cx}
end
def Znd(M1 M2 d e:AJ->Prop)(tb:(L2.St->XK)->TS)(t1 t2 c f:TS):TS:=λD σ H=>tb (λb a _ H'=>(M1 a/\t1 D b H')\/(M2 a/\t2 D b H')\/(d a/\c D b H')\/(e a/\f D b H')) D σ H
theorem Zpo{M1 M2 e i:AJ->Prop}{tb:(L2.St->XK)->TS}{t1 t2 g f:TS}{σ:L2.St}{H:Hp}{n:L2.St->Hp->Prop}{r:VK}{b c:L2.St->Hp->Prop}(h:tb (λa d _ H'=>(M1 d/\t1 ⟨n,r,b,c⟩ a H')\/(M2 d/\t2 ⟨n,r,b,c⟩ a H')\/(e d/\g ⟨n,r,b,c⟩ a H')\/(i d/\f ⟨n,r,b,c⟩ a H')) ⟨n,r,b,c⟩ σ H):Znd M1 M2 e i tb t1 t2 g f ⟨n,r,b,c⟩ σ H:=h
section
variable {X:Cx}{x1 x2 x3 x4:Str}{C1 C2 C3 C4:AI}{pos np1 np2 np3 np4 hp1 hp2 hp3 hp4:Pos}{body su1 su2 su3 su4:List Stmt}{b1 b2 b3 b4:Stmt}{M1 M2 M3 M4:AJ->Prop}{tb:(L2.St->XK)->TS}{t1 t2 t3 t4:TS}
theorem Zs3(L:X.stack=X.env::X.outer/\X.env.frame=some X.env.locals)(u:Gl X x1)(o:X.mg x1=↑C1)(N:Gl X x2)(C:X.mg x2=↑C2)(O:Gl X x3)(P:X.mg x3=↑C3)(hg4:Gl X x4)(hm4:X.mg x4=↑C4)(hM1:∀c,M1 c->W.exmOne X.K c (.ref C1)=some true)(hM2:∀c,M2 c->W.exmOne X.K c (.ref C1)=some false/\W.exmOne X.K c (.ref C2)=some true)(hM3:∀c,M3 c->W.exmOne X.K c (.ref C1)=some false/\W.exmOne X.K c (.ref C2)=some false/\W.exmOne X.K c (.ref C3)=some true)(hM4:∀c,M4 c->W.exmOne X.K c (.ref C1)=some false/\W.exmOne X.K c (.ref C2)=some false/\W.exmOne X.K c (.ref C3)=some false/\W.exmOne X.K c (.ref C4)=some true)
  (hb:∀(E:L2.St->XK) (pn:At) (xe:Ap),Zz (Dw X.prog X.w) (cxB X pn xe) E->Qf (cxB X pn xe) body (tb E))
  (Z:∀(b:AJ) (pn:At),Qf (J7 X b pn) (b1::su1) t1) (hs2:∀(b:AJ) (pn:At),Qf (J7 X b pn) (b2::su2) t2) (hs3:∀(b:AJ) (pn:At),Qf (J7 X b pn) (b3::su3) t3) (hs4:∀(b:AJ) (pn:At),Qf (J7 X b pn) (b4::su4) t4) (y:(x1 == ("__debug__":Str))=false:=by decide) (F:(x2 == ("__debug__":Str))=false:=by decide) (S:(x3 == ("__debug__":Str))=false:=by decide) (hd4:(x4 == ("__debug__":Str))=false:=by decide):
  PS X (.Try body [.ExceptHandler (some (.Name x1 np1)) none (b1::su1) hp1,.ExceptHandler (some (.Name x2 np2)) none (b2::su2) hp2,.ExceptHandler (some (.Name x3 np3)) none (b3::su3) hp3,.ExceptHandler (some (.Name x4 np4)) none (b4::su4) hp4] [] [] pos) (Znd M1 M2 M3 M4 tb t1 t2 t3 t4):=by
 intro a s r H D I h;refine wpAny_Try_except ?_;have hx:Zz (Dw X.prog X.w) (cxB X (X.pn++a) λe s'=>∃ r H s,Inv X a r H s/\Dw X.prog X.w X.stack H s (λd _ x=>(M1 d/\t1 D r x)\/(M2 d/\t2 D r x)\/(M3 d/\t3 D r x)\/(M4 d/\t4 D r x)) e s') (λn d _ x=>(M1 d/\t1 D n x)\/(M2 d/\t2 D n x)\/(M3 d/\t3 D n x)\/(M4 d/\t4 D n x)):=
  λpl r H s e s' J z=>⟨r,H,s,JG I.ok J,z⟩
 refine wpAny_mono (hb _ _ _ hx [] s r H D (Znb I _) h) (λf s1 q=>?_) λe s1 q=>?_
 ·have q:=Znn I.ok q;cases f with
  | next=>exact wpAny_execs_nil q
  | ret v=>exact q
  | brk=>exact q
  | cont=>exact q
 ·obtain⟨t,H1,s0,J,b,d,a0,B,U,rfl,os,bare,un,ok,fl,T,p⟩:=q;have R:=fl;rw[L.1]at R;refine wpAny_looks_onW (L.1 ▸ J.ok.frames) L.2 R λh4 V sm4=>?_;refine wpAny_landsW V λh5 l sm5=>?_;have m:s1.heap.UpToSlots h5:=sm4.trans sm5;have g:=flown J os bare un ok fl T l.1 m;obtain⟨ob,Y,hoc⟩:=id l.there;have LT:W.Looks υ h5 (typeOf (.ref b)) d:=hoc ▸ (W.Looks.ld Y).andThen .now;rcases p with ⟨p,i⟩ | ⟨p,i⟩ | ⟨p,i⟩ | ⟨p,i⟩
  ·have A:=hM1 d p;refine wpAny_handleBy_cons b5 df;refine(W.exm_one g.oM LT A).here ?_;refine codeAny_handlers_suite ?_;refine lands_againW l λh6 j k=>?_;have M:=flown J os bare un ok fl T j.1 (m.trans k);refine wpAny_mono (Z (.ref b) (X.pn++a) [] _ t U D (jj M (.ref b)) i) (λf s2 q=>Qu I.ok q) λ_ _ z=>z.elim
  ·obtain⟨A,Q⟩:=hM2 d p;refine wpAny_handleBy_cons b5 df;refine(W.exm_one g.oM LT A).here ?_;refine wpAny_handleBy_cons dC df;refine(W.exm_one g.oM LT Q).here ?_;refine codeAny_handlers_suite ?_;refine lands_againW l λh6 j k=>?_;have M:=flown J os bare un ok fl T j.1 (m.trans k);refine wpAny_mono (hs2 (.ref b) (X.pn++a) [] _ t U D (jj M (.ref b)) i) (λf s2 q=>Qu I.ok q) λ_ _ z=>z.elim
  ·obtain⟨A,Q,m3⟩:=hM3 d p;refine wpAny_handleBy_cons b5 df;refine(W.exm_one g.oM LT A).here ?_;refine wpAny_handleBy_cons dC df;refine(W.exm_one g.oM LT Q).here ?_;refine wpAny_handleBy_cons (codeAny_handlers_test (fU (X:=J7 X (.ref b) (X.pn++a)) (jj g (.ref b)) O P ?_ S)) df;refine(W.exm_one g.oM LT m3).here ?_;refine codeAny_handlers_suite ?_;refine lands_againW l λh6 j k=>?_;have M:=flown J os bare un ok fl T j.1 (m.trans k);refine wpAny_mono (hs3 (.ref b) (X.pn++a) [] _ t U D (jj M (.ref b)) i) (λf s2 q=>Qu I.ok q) λ_ _ z=>z.elim
  ·obtain⟨A,Q,m3,m4⟩:=hM4 d p;refine wpAny_handleBy_cons b5 df;refine(W.exm_one g.oM LT A).here ?_;refine wpAny_handleBy_cons dC df;refine(W.exm_one g.oM LT Q).here ?_;refine wpAny_handleBy_cons (codeAny_handlers_test (fU (X:=J7 X (.ref b) (X.pn++a)) (jj g (.ref b)) O P ?_ S)) df;refine(W.exm_one g.oM LT m3).here ?_;refine wpAny_handleBy_cons (codeAny_handlers_test (fU (X:=J7 X (.ref b) (X.pn++a)) (jj g (.ref b)) hg4 hm4 ?_ hd4)) df;refine(W.exm_one g.oM LT m4).here ?_;refine codeAny_handlers_suite ?_;refine lands_againW l λh6 j k=>?_;have M:=flown J os bare un ok fl T j.1 (m.trans k);refine wpAny_mono (hs4 (.ref b) (X.pn++a) [] _ t U D (jj M (.ref b)) i) (λf s2 q=>Qu I.ok q) λ_ _ z=>z.elim
end
end G
namespace G
open PySem L2
end G
namespace G
open PySem L2 PySem.Spec PyProof.Rows
def Ks(v d:AI):HO:=.ext λh=>h.IsValuesView v d
def Znc(d:TE):TE:=λσ H Q=>d σ H λx b=>∃a c,x=.ref a/\Rd b a (.dK c)/\∀v,b v=none->Q (.ref v) (upd b v (Ks v a))
theorem Zwa{d:TE}{σ:L2.St}{H:Hp}{Q:VK}(h:d σ H λx b=>∃a c,x=.ref a/\Rd b a (.dK c)/\∀v,b v=none->Q (.ref v) (upd b v (Ks v a))):Znc d σ H Q:=h
theorem Zln{X:Cx}{o:AN}{l:TE}{d c:Pos}(j:PE X o l)(f:attributeBase o "values" X.env (eval o X.env)=eval o X.env:=by rfl)(g:(d.endLine == c.line)=true:=by rfl):
  PE X (.Call (.Attribute o "values" d) [] [] c) (Znc l):=by
 intro i s p H Q I h;refine wpAny_Call_method0_late f g (gw (j i s p H _ I h) λu m qc=>?_);obtain⟨x,H1,I1,rx,a,kvs,ex,rd,q⟩:=qc;subst ex;obtain rfl:u=Value.ref a:=rx;obtain⟨t1,t2,hd⟩:=Zpm I1 (.inl ⟨kvs,rd⟩);obtain⟨z,_,n,rel,dd⟩:=IK I1.hok rd;refine⟨"dict","dict.values",PySem.F.plainAttrs_dict,PySem.F.slot_dict_values,PySem.F.type_dict_values,t1,t2,Calls.callWith_builtin rfl (PySem.evalArgs_none ?_)⟩;refine call_meetsIn PySem.F.slot_dict_values t1 PySem.F.entry_dict_values (PySem.F.args_dict_values_1 _) (meets_dict_values (dD X.prog X.w) a hd) ⟨⟨n,dd⟩,?_⟩;have hn:=I1.hok.fresh Γ;refine⟨.ref m.heap.objs.size,_,I1.laid (t':=m.toks) (λb u e=>Heap.get?_push_of_some _ e) Γ ?_,rfl,q _ hn⟩;exact⟨⟨_,Heap.get?_push_size _ rfl,rfl,rfl⟩,⟨_,Heap.get?_push_size _ rfl⟩,(by rintro h1 h2 ⟨o,j,r⟩ k;exact⟨o,k o j,r⟩)⟩
def Itv(a:AI)(o:Obj)(b:List eJ):It:=
 ⟨λi H=>H a=some (.wB o (.dK b))/\i<b.length,λi H x H'=>H'=H/\∃kv,b[i]? =some kv/\x=kv.2,λi H=>H a=some (.wB o (.dK b))/\b.length<=i⟩
def Zpt(d:TE):TI:=λσ H R=>d σ H λx c=>∃v a b,x=.ref v/\c v=some (Ks v a)/\c a=some (.dK b)/\∀o,R (Itv a o b) (upd c a (.wB o (.dK b)))
theorem ZAm{d:TE}{σ:L2.St}{H:Hp}{R:It->Hp->Prop}(h:d σ H λx c=>∃v a b,x=.ref v/\c v=some (Ks v a)/\c a=some (.dK b)/\∀o,R (Itv a o b) (upd c a (.wB o (.dK b)))):Zpt d σ H R:=h
theorem Yg{c a:Type}{R:c->a->Prop}:∀{xs:List c}{b:List a},Paired R xs b->∀(i:Nat) x y,xs[i]? =some x->b[i]? =some y->R x y
 | _,_,.nil,_,_,_,h,_=>by simp at h
 | _,_,.cons r rs,0,_,_,h1,h2=>by
  cases h1;cases h2;exact r
 | _,_,.cons r rs,i+1,_,_,h1,h2=>Yg rs i _ _ (by simpa using h1) (by simpa using h2)
theorem Zl2{P:AM}{w:AO}{K:aD}{tg:AN}(a p:AI)(o:Obj)(f:List eJ)(y:Nat)(x:∃N,o.data=.dict N y):Turn P w K tg (Itv a o f) [p] p (λi h=>h.IsValIter p a i f.length y) where
  mem:=ζ
  obj:=λi h st b hb=>by
    have e:b=p:=by simpa using hb
    subst e;obtain⟨o,e,c,d⟩:=st;exact⟨o,e,λv z=>by rw[d]at z;cases z⟩
  keep:=λi h B st k=>by
    obtain⟨o,e,r⟩:=st;exact⟨o,k p ζ o e,r⟩
  item:=by
    intro X U D R hc i m s Y H E I A st J;subst U D R;obtain⟨hz,W⟩:=J;obtain⟨O,z,hd,g,rel,dd⟩:s.heap.get? a=some o/\f.length<=sizeLine/\(a == sysModules)=false/\∃g,KV f g/\s.heap.DictOf (dD X.prog X.w) a g:=I.hok a _ hz;obtain⟨q,hm⟩:=dd.dictAt;obtain⟨N,n⟩:=x;have M:q=y:=by
      obtain⟨o',C,j,_,l,_⟩:=id hm;rw[O]at j;cases j;rw[n]at l;injection l with _ e;exact e.symm
    subst M;have hl:=rel.length;have hv:g[i]? =some g[i]:=bG δ;have t:f[i]? =some f[i]:=bG W;have hk:RelV f[i].2 g[i].2:=(Yg rel i _ _ t hv).2;obtain⟨T,F,f2,S,L,Q⟩:=A p ζ;rw[hl]at st;refine wpAny_pyNext_values_item st hm (k:=g[i].1) (v:=g[i].2) (by rw[hv]) λB u sb=>?_;have Z:Inv X m Y H { s with heap:=B }:=I.turned (t':=s.toks) (λb o hb e=>(sb.2 b hb).trans e) T F S L Q;obtain⟨oi,e,c,d⟩:=id u;exact⟨_,rfl,Zk8 (s:={ s with heap:=B }) e c d ε ⟨f[i].2,H,Z,hk,⟨rfl,_,t,rfl⟩,by rw[hl];exact u,λb hb=>(A b hb).1⟩⟩
  done:=by
    intro X U D R hc i m s Y H E I A st J;subst U D R;obtain⟨hz,W⟩:=J;obtain⟨O,z,hd,g,rel,dd⟩:s.heap.get? a=some o/\f.length<=sizeLine/\(a == sysModules)=false/\∃g,KV f g/\s.heap.DictOf (dD X.prog X.w) a g:=I.hok a _ hz;obtain⟨q,hm⟩:=dd.dictAt;obtain⟨N,n⟩:=x;have M:q=y:=by
      obtain⟨o',C,j,_,l,_⟩:=id hm;rw[O]at j;cases j;rw[n]at l;injection l with _ e;exact e.symm
    subst M;have hl:=rel.length;obtain⟨T,F,f2,S,L,Q⟩:=A p ζ;rw[hl]at st;exact wpAny_pyNext_values_end (I.ok.hd hc) st hm (by rw[List.getElem?_eq_none];omega) λB eb=>⟨rfl,I.turned (t':=s.toks) (λb o hb e=>eb b o hb e) T F S L Q⟩
  self:=λ_ _ _ _ _ st h=>wpAny_pyIter_valiter st h
theorem Zs5{X:Cx}{tg:AN}{e:AN}{k:TE}(n:PE X e k):PI X tg e (Zpt k):=by
 intro d s r H R I h;refine gw (n d s r H _ I h) λu c qc=>?_;obtain⟨x,H1,I1,r1,q1⟩:=qc;obtain⟨v,a,i,e,hv,hq,q⟩:=q1;subst e;obtain rfl:u=Value.ref v:=r1;have g:c.heap.IsValuesView v a:=(I1.hok v _ hv).1;obtain⟨z,hs,w,rel,dd⟩:=Zuu I1.hok hq;obtain⟨m,hm⟩:=dd.dictAt;obtain⟨o,p,l,_,f,_⟩:=id hm;refine wpAny_pyIter_values g hm ?_;have t:=Zq5 I1 hq l;have j:c.heap.objs.size≠a:=Nat.ne_of_gt (Heap.lt_size l);refine⟨c.heap.objs.size,[c.heap.objs.size],_,_,_,rfl,t.kept (t':=c.toks) λb o e=>Heap.get?_push_of_some _ e,Zl2 a _ o i m ⟨p,f⟩,?_,λb hb=>?_,q o⟩
 ·rw[rel.length];exact⟨_,Heap.get?_push_size _ rfl,rfl,rfl⟩
 ·have e:b=c.heap.objs.size:=by simpa using hb
  subst e;exact Zi1 (I1.Zfb Γ (I1.hok.fresh Γ)) j
theorem Zl6{X:Cx}{pins:At}{σ:L2.St}{H:Hp}{s:AK}{a:AI}{o:Obj}{d:List eJ}(I:Inv X pins σ H s)(h:H a=some (.wB o (.dK d)))(hn:∀J u,X.H₀ a≠some (.wB J u)):Inv X pins σ (upd H a (.dK d)) s:=by
 have ne:∀b u,H b=some u->u≠.wB o (.dK d)->b≠a:=λb u q n z=>n (by rw[z,h]at q;exact(Option.some.inj q).symm);have j:∀b,H b=none->upd H a (.dK d) b=none:=λb q=>(aB (λz=>by rw[z,h]at q;cases q)).trans q;have hs:∀c u,H c=some u->u≠.wB o (.dK d)->upd H a (.dK d) c=some u:=λc u z n=>by rw[aB (ne c u z n)];exact z
 obtain⟨B,E,A,f,F,m,t,w,r,i,l⟩:=I;refine⟨B,E,A,⟨f.keep,f.slot,λb ob e n hx=>j b (f.free b ob e n hx),f.there,λb k e=>hs b _ (f.tups b k e) aS,λb ob u e=>(aB (a:=a) (b:=b) (λz=>hn ob u (by rw[<- z];exact e))).trans (f.Dc b ob u e),λb L e=>?_⟩,F,m,j _ t,λx c e=>j _ (w x c e),λp hp=>?_,λb u q=>?_,l⟩
 ·obtain⟨g,q⟩:=f.DK b L e;exact⟨g,hs b _ q aS⟩
 ·obtain⟨K,D,C⟩:=r p hp;exact⟨K,j _ D,C⟩
 ·by_cases hb:b=a
  ·subst hb;rw[ao]at q;cases q;exact(i b _ h).2.stay (λc v _ z=>z) (λc z=>hs c _ z (λy=>by cases y)) λc k z=>hs c _ z (λy=>by cases y)
  ·rw[aB hb]at q;exact(i b u q).stay (λc v _ z=>z) (λc z=>hs c _ z (λy=>by cases y)) λc k z=>hs c _ z (λy=>by cases y)
def Zne(e:Hp)(f:TE):TE:=λσ H Q=>f σ H λx c=>∃a o b,c a=some (.wB o (.dK b))/\(∀d u,e a≠some (.wB d u))/\Q x (upd c a (.dK b))
theorem Zwb{d:Hp}{e:TE}{σ:L2.St}{H:Hp}{Q:VK}(h:e σ H λx c=>∃a o b,c a=some (.wB o (.dK b))/\(∀f u,d a≠some (.wB f u))/\Q x (upd c a (.dK b))):Zne d e σ H Q:=h
theorem Zs6{X:Cx}{e:AN}{c:TE}(d:PE X e c):PE X e (Zne X.H₀ c):=by
 intro b s f H Q I h;refine gw (d b s f H _ I h) λu g qc=>?_;obtain⟨x,H1,I1,r1,a,o,kvs,ha,hn,q⟩:=qc;exact⟨x,_,Zl6 I1 ha hn,r1,q⟩
def Zri(K:aD)(a:TE):TT:=λσ H Q=>a σ H λx H'=>∃k,Zio K x H' k/\Q k H'
theorem Zun{K:aD}{a:TE}{σ:L2.St}{H:Hp}{Q:Bool->Hp->Prop}(h:a σ H λx H'=>∃k,Zio K x H' k/\Q k H'):Zri K a σ H Q:=h
theorem Zxr{K:aD}{H:Hp}{a:AI}{xs:List V}{P:Bool->Prop}(h:cA K H a xs)(q:P (!xs.isEmpty)):∃k,Zio K (.ref a) H k/\P k:=⟨_,.inl ⟨xs,h,rfl⟩,q⟩
def Zqw(K:aD):List V->Hp->VK->Prop:=λxs H Q=>∃p a,xs=[.ref p]/\(cA K H p a\/dU K H p a)/\∀l,H l=none->Q (.ref l) (upd H l (.lst a))
theorem Zsy{K:aD}{H:Hp}{Q:VK}{p:AI}{a:List V}(h1:dU K H p a)(h:∀l,H l=none->Q (.ref l) (upd H l (.lst a))):Zqw K [.ref p] H Q:=⟨p,a,rfl,.inr h1,h⟩
def Dq(K:aD)(H:Hp):Nat->V->V->Prop
 | 0,x,y=>x=y/\lB x=true
 | d+1,x,y=>(x=y/\lB x=true)\/∃a b,x=.ref a/\y=.ref b/\(a=b\/∃xs c,((cA K H a xs/\cA K H b c)\/(dU K H a xs/\dU K H b c))/\Al (Dq K H d) xs c)
theorem Ztk{K:aD}{H:Hp}{d:Nat}{x:V}(h:lB x=true):Dq K H d x x:=by
 cases d with
 | zero=>exact⟨rfl,h⟩
 | succ d=>exact .inl ⟨rfl,h⟩
theorem Zfl{K:aD}{H:Hp}{d:Nat}:∀{xs:List V},xs.all lB=true->Al (Dq K H d) xs xs
 | [],_=>.nil
 | x::xs,h=>by
  rw[List.all_cons,Bool.and_eq_true]at h;exact .cons (Ztk h.1) (Zfl h.2)
def Zh6(K:aD)(d:Bool):R2:=λx y H Q=>∃a b xs c,x=.ref a/\y=.ref b/\((cA K H a xs/\cA K H b c)\/(dU K H a xs/\dU K H b c))/\Al (Dq K H 6) xs c/\Q (.bl (!d)) H
section
variable {X:Cx}
theorem Zfe:∀{x:V},lB x=true->eqV x x=true
 | .non,_=>rfl
 | .bl b,_=>by cases b<;>rfl
 | .int i,_=>by simp[eqV]
 | .str z,_=>by simp[eqV]
theorem Zz7{pins:At}{σ:L2.St}{H:Hp}{s:AK}(I:Inv X pins σ H s):∀(d:Nat) {A:Around}{x y:V}{u v:AJ},A.units+d<cLine->RelV x u->RelV y v->Dq X.K H d x y->SeqAt.EqAt A s u v true:=by
 intro d
 induction d with
 | zero=>
  intro A x y u v hu n o h;obtain⟨rfl,l⟩:=h;have:=uW (A:=A) (s:=s) n o l l;rw[Zfe l]at this;exact this
 | succ d ih=>
  intro A x y u v hu n o h;rcases h with ⟨rfl,l⟩ | ⟨a,b,rfl,rfl,h⟩
  ·have:=uW (A:=A) (s:=s) n o l l;rw[Zfe l]at this;exact this
  ·obtain rfl:u=Value.ref a:=n;obtain rfl:v=Value.ref b:=o
   by_cases e:a=b
   ·subst e;exact SeqAt.EqAt.same _
   rcases h with rfl | ⟨p,q,hs,al⟩
   ·exact absurd rfl e
   ·refine SeqAt.EqAt.of_refs e ?_;have hl:=al.length;have m:A.units<cLine:=δ
    have item:∀{us g:AC},Vals p us->Vals q g->∀(j:Nat) (h1:j<us.toArray.size) (h2:j<g.toArray.size),SeqAt.EqAt A.in1 s us.toArray[j] g.toArray[j] true:=by
     intro us g f c j h1 h2;rw[List.size_toArray]at h1 h2;have M:=f.length;have F:=c.length;have w:p[j]? =some p[j]:=bG δ;have z:q[j]? =some q[j]:=bG δ;obtain⟨N,r,E⟩:=f.get w;obtain⟨L,t,D⟩:=c.get z;rw[bG h1]at r;rw[bG h2]at t;cases r;cases t;obtain⟨J,e3,B⟩:=al.get z;rw[w]at e3;cases e3;exact ih (A:=A.in1) (by show A.units+1+d<cLine;omega) E D B
    rcases hs with ⟨ha,hb⟩ | ⟨ha,hb⟩
    ·obtain⟨us,f,k,_⟩:=I.list ha;obtain⟨g,c,i,_⟩:=I.list hb;have:=SeqAt.RcAt.lists (A:=A) (e:=λ_=>true) k.isList i.isList (by rw[List.size_toArray,List.size_toArray,<- f.length,<- c.length];exact hl) m (λj h1 h2=>item f c j h1 h2);rw[show(List.range us.toArray.size).all (λ_=>true)=true from by rw[List.all_eq_true];intros;rfl]at this;exact this
    ·obtain⟨us,f,k,_⟩:=I.tuple ha;obtain⟨g,c,i,_⟩:=I.tuple hb;have C:us.toArray.size=g.toArray.size:=by rw[List.size_toArray,List.size_toArray,<- f.length,<- c.length];exact hl
     have:=SeqAt.RcAt.tuples (A:=A) (e:=λ_=>true) k i m (λj h1 h2=>item f c j h1 h2);rw[show(List.range (min us.toArray.size g.toArray.size)).all (λ_=>true)=true from by rw[List.all_eq_true];intros;rfl,C]at this;simpa using this
theorem zM{pins:At}{σ:L2.St}{H:Hp}{s:AK}(I:Inv X pins σ H s){A:Around}(hu:A.units+8<cLine){xs a:List V}{us b:AC}(al:Al (Dq X.K H 6) xs a)(g:Vals xs us)(c:Vals a b)(j:Nat)(h1:j<us.toArray.size)(h2:j<b.toArray.size):SeqAt.EqAt A.in1 s us.toArray[j] b.toArray[j] true:=by
 rw[List.size_toArray]at h1 h2;have p:=g.length;have m:=c.length;have f:xs[j]? =some xs[j]:=bG δ;have h:a[j]? =some a[j]:=bG δ;obtain⟨q,d,l⟩:=g.get f;obtain⟨o,e,k⟩:=c.get h;rw[bG h1]at d;rw[bG h2]at e;cases d;cases e;obtain⟨n,e3,i⟩:=al.get h;rw[f]at e3;cases e3;exact Zz7 I 6 (A:=A.in1) (by show A.units+1+6<cLine;omega) l k i
theorem Zoo(hu:X.A.units+64<cLine):uz X (compareOp .Eq) (Zh6 X.K false):=by
 intro g s o H x y v u Q I i l h;obtain⟨p,j,m,n,rfl,rfl,hs,al,q⟩:=h;obtain rfl:v=Value.ref p:=i;obtain rfl:u=Value.ref j:=l;have hl:=al.length;rcases hs with ⟨ha,hb⟩ | ⟨ha,hb⟩
 ·obtain⟨us,d,b,_⟩:=I.list ha;obtain⟨f,c,a,_⟩:=I.list hb;refine SeqAt.eq_listAt (e:=λ_=>true) b.isList a.isList (by rw[List.size_toArray,List.size_toArray,<- d.length,<- c.length];exact hl) δ (zM I δ al d c) ?_;rw[show(List.range us.toArray.size).all (λ_=>true)=true from by rw[List.all_eq_true];intros;rfl];exact⟨.bl _,H,I,rfl,q⟩
 ·obtain⟨us,d,b,_⟩:=I.tuple ha;obtain⟨f,c,a,_⟩:=I.tuple hb;have k:us.toArray.size=f.toArray.size:=by rw[List.size_toArray,List.size_toArray,<- d.length,<- c.length];exact hl
  refine SeqAt.eq_tupleAt (e:=λ_=>true) b a δ (zM I δ al d c) ?_;rw[show(List.range (min us.toArray.size f.toArray.size)).all (λ_=>true)=true from by rw[List.all_eq_true];intros;rfl,k];simp only[beq_self_eq_true,Bool.and_self];exact⟨.bl _,H,I,rfl,q⟩
theorem Zha(hu:X.A.units+64<cLine):uz X (compareOp .NotEq) (Zh6 X.K true):=by
 intro g s o H x y v u Q I i l h;obtain⟨p,j,m,n,rfl,rfl,hs,al,q⟩:=h;obtain rfl:v=Value.ref p:=i;obtain rfl:u=Value.ref j:=l;have hl:=al.length;rcases hs with ⟨ha,hb⟩ | ⟨ha,hb⟩
 ·obtain⟨us,d,b,_⟩:=I.list ha;obtain⟨f,c,a,_⟩:=I.list hb;have:=SeqAt.RcNeAt.lists (A:=X.A) (s:=s) (e:=λ_=>true) b.isList a.isList (by rw[List.size_toArray,List.size_toArray,<- d.length,<- c.length];exact hl) δ (zM I δ al d c);rw[show(List.range us.toArray.size).all (λ_=>true)=true from by rw[List.all_eq_true];intros;rfl]at this;exact this _ _ _ _ ⟨.bl _,H,I,rfl,q⟩
 ·obtain⟨us,d,b,_⟩:=I.tuple ha;obtain⟨f,c,a,_⟩:=I.tuple hb;have k:us.toArray.size=f.toArray.size:=by rw[List.size_toArray,List.size_toArray,<- d.length,<- c.length];exact hl
  have:=SeqAt.RcNeAt.tuples (A:=X.A) (s:=s) (e:=λ_=>true) b a δ (zM I δ al d c);rw[show(List.range (min us.toArray.size f.toArray.size)).all (λ_=>true)=true from by rw[List.all_eq_true];intros;rfl,k]at this;simp only[beq_self_eq_true,Bool.and_self]at this;exact this _ _ _ _ ⟨.bl _,H,I,rfl,q⟩
end
structure FnH(P:AM)(w:AO)(K:aD)(mg:As)(base:Heap)(CX:CXT)(k:Nat)(f:AI)(fd:AL)(ps:AH)(sp:Sp):Prop where
 len:∀vs H Q E,sp vs H Q E->vs.length=ps.length
 run:∀(A:Around) (ea:AJ) (outer:List Env) (s:AK) (H:Hp) (args:Args) (us:AC) (vs:List V) (Q:VK) (E:XK),Room k A->Zd0 P w K mg base (A.mark (some ea)) outer s H->BindsTo s fd args (ps.zip us)->Vals vs us->sp vs H Q E->
  codeAny (model P w) (A.mark (some ea)) (.call (.ref f) args) (CR CX outer P w H s Q E) s
structure HhH(P:AM)(w:AO)(K:aD)(mg:As)(base:Heap)(n:Nat)(f:AI)(fd:AL)(ps:AH)(sp:Sp):Prop where
 g:FnH P w K mg base (Dw P w) n f fd ps sp
 b:Binds K fd ps []
 k:W.keepIn K (.ref f)=true
theorem ZBb{P:AM}{w:AO}{K:aD}{mg:As}{base:Heap}{x a:Str}{st:Stmt}{f:AI}{fd:AL}{N ps:AH}{k:Nat}{sp:Sp}(F:Fun K x a st f fd)(S:aM N ps ez)(len:∀vs H Q E,sp vs H Q E->vs.length=ps.length)
  (j:∀(c i:AJ) (A:Around) (outer:List Env) (s:AK) (H:Hp) (vs:List V) (Q:VK) (E:XK),Room k (A.deeper (envOfC a ez s.heap.objs.size f c))->sp vs H Q E->
   ∃t,Qf (J7 (zV (Dw P w) P w K mg base N a ez f c A outer s H E) i []) (fV st) t/\t { nx:=λ_ H'=>Q .non H',rt:=Q } (start N vs) H):FnH P w K mg base (Dw P w) dX f fd ps sp:=by
 obtain⟨oc,od,kV,M,X,Y,c,ct,U,rfl,lk,z⟩:=F.ex;refine⟨len,λA i outer s H D us vs Q E hr d hb r l=>?_⟩;have hl:=len _ _ _ _ l;have L:K.In s.heap:=d.mod.kin.keeps λb o e=>(d.bs b o e).1;have p:s.heap.NoLimit:=d.mod.nolimit.keeps λb o e=>(d.bs b o e).1;have h:∀y∈ps.zip us,(aC st).names.lookup y.1=some .local\/((aC st).names.lookup y.1=some .cell/\((cellsFrom ah (aC st).names []).lookup y.1).isSome=true):=λ⟨n,v⟩ hy=>by
  rcases S.par n (List.of_mem_zip hy).1 with q | q
  ·exact .inl q
  ·exact .inr ⟨q,W.cellsFrom_some _ _ _ (.inl q)⟩
 refine codeAny_call_function (show(A.mark (some i)).depth<recursionLimit from hr.depth) (L _ _ lk) rfl S.co S.gen rfl (W.codeRec_of L z) (hb _ _ _ _ ?_);refine wpAny_newFunctionEnv_cells S.kind h λenv R C y=>?_;subst R;refine⟨p.keeps y.toInCall.keep,codeAny_func ?_⟩;obtain⟨t,O,hq⟩:=j c i A outer s H vs Q E (hr.deeper _) l;have T:Zd0 P w K mg base A outer s H:=⟨d.frames,d.mod,d.bs,d.bsz,d.ue,d.frf,d.hok,d.bare⟩;have I:Inv (J7 (zV (Dw P w) P w K mg base N a ez f c A outer s H E) i []) [] (start N vs) H C:=jj (pins:=[]) (YS S hr.hd T hl r y) i;refine wpAny_mono (O [] C (start N vs) H _ I hq) (λfl m hs=>?_) λe m hs=>hs.elim;have fin:∀{g:L2.St}{H':Hp}{v:V}{u:AJ},Inv (J7 (zV (Dw P w) P w K mg base N a ez f c A outer s H E) i []) [] g H' m->RelV v u->Q v H'->CE outer P w H s Q u m:=
  λ{g H' v u} J B q=>⟨v,H',J.os,J.bare,J.base,J.hok,B,q⟩
 cases fl with
 | ret u=>
  obtain⟨v,g,H',J,B,q⟩:=hs;exact fin J B q
 | next=>
  obtain⟨g,H',J,q⟩:=hs;exact fin (v:=V.non) (u:=Value.none) J rfl q
 | brk=>
  obtain⟨_,_,_,q⟩:=hs;exact False.elim q
 | cont=>
  obtain⟨_,_,_,q⟩:=hs;exact False.elim q
theorem Ge{X:Cx}{n k:Nat}{f:AI}{fd:AL}{ps:AH}{sp:Sp}{x:Str}{p c:Pos}{e:AN}{d:AG}{t:TA}{i:AJ}{pn:At}(F:HhH X.prog X.w X.K X.mg X.base n f fd ps sp)(hr:Room k X.A)(hm:X.mg x=↑f)
  (ha:PA (J7 X i pn) (e::d) t) (hn:n<=k:=by decide) (z:X.env.kindOf x=some .globalImplicit:=by rfl) (j:(x == ("__debug__":Str))=false:=by decide) (B:starEach (e::d) X.env=(false,eval e X.env)::starEach d X.env:=by rfl) (m:(backTo c (starEach d X.env)).any (·.1)=false:=by rfl):
  PE (J7 X i pn) (.Call (.Name x p) (e::d) [] c) (aR sp [] E0 t):=by
 intro a s y H Q I h;refine wpAny_Call_Name_kw (fU I z hm ?_ j);refine W.callWith_K (h₀:=X.base) I.ok.mod.kin F.k (gw (ha c a s y H _ I h) λus l ⟨v,H1,I1,r,q⟩=>⟨I1.oM,?_⟩) B m;have o:Vals (v++[]) (us++[]):=r.append .nil;have hl:(us++[]).length=ps.length:=by rw[<- o.length];exact F.g.len _ _ _ _ q
 refine wpAny_call (codeAny_mono (F.g.run X.A i X.stack l H1 ⟨us,[]⟩ (us++[]) (v++[]) _ E0 (hr.mono hn) I1.env0 (F.b l us I1.oM hl) o q) λr C hq=>?_);cases r with
 | error e=>exact cQ (X:=J7 X i pn) a y H1 l e C I1 hq
 | ok fl=>
  cases fl with
  | ret u=>exact I1.after hq
  | next=>exact False.elim hq
  | brk=>exact False.elim hq
  | cont=>exact False.elim hq
end G
local macro_rules|`(tactic|walk_at"g2")=>`(tactic|with_reducible first|refine G.ZAn ?_|refine G.Zt0 ?_|refine G.Zwq ?_)
local macro_rules|`(tactic|walk_at"g2")=>`(tactic|with_reducible first|refine G.Zpo ?_|refine G.Zwa ?_|refine G.ZAm ?_|refine G.Zwb ?_|refine G.Zun ?_|refine G.ZAq ?_)
local macro_rules|`(tactic|walk_at"g2")=>`(tactic|with_reducible first|refine G.Zps ?_|refine G.Zwp ?_|refine G.Zwj ?_|refine G.Zhx ?_|refine G.Zf6 ?_|refine G.Zhw ?_)
local macro_rules|`(tactic|walk_at"g2")=>`(tactic|with_reducible first|refine G.Zt5 ?_|refine G.Zss ?_|refine G.Zwn ?_|refine G.Zsx ?_|refine G.Zyf ?_|refine G.Zwr ?_)
local macro_rules|`(tactic|walk_at"g2")=>`(tactic|with_reducible first|refine G.ZAt ?_|refine G.ZAs ?_|refine G.ZAr ?_|refine G.J3 ?_|refine G.Zt4 ?_|refine G.Zst ?_)
local macro_rules|`(tactic|walk_at"g2")=>`(tactic|with_reducible first|refine G.ZAa ?_|refine G.ZAx ?_|refine G.Zyo ?_|refine G.ZAw ?_|refine G.ZAv ?_|refine G.ZAu ?_)
local macro_rules|`(tactic|walk_at"g2")=>`(tactic|with_reducible first|refine G.ZAg ?_|refine G.ZAf ?_|refine G.ZAe ?_|refine G.ZAd ?_|refine G.ZAc ?_|refine G.ZAb ?_)
local macro_rules|`(tactic|walk_at"g2")=>`(tactic|with_reducible first|refine G.ZAy ?_|refine G.Zyp ?_|refine G.ZAp ?_|refine G.ZAo ?_|refine G.ZAi ?_|refine G.ZAh ?_)
local macro_rules|`(tactic|walk_at"g2")=>`(tactic|with_reducible first|refine G.Zwd ?_|refine G.Zwh ?_|refine G.Zpq ?_|refine G.Zwe ?_|refine G.ZAl ?_|refine G.ZAk ?_)
local macro_rules|`(tactic|walk_at"g2")=>`(tactic|with_reducible first|refine G.Zyl ?_|refine G.Zye ?_|refine G.Zwt ?_|refine G.ZB0 ?_|refine G.Zwi ?_|refine G.Zyq ?_)
local macro_rules|`(tactic|walk_at"g2")=>`(tactic|with_reducible first|refine G.Zhv ?_|refine G.Zbt ?_|refine G.Zt1 ?_|refine G.Zt2 ?_|refine G.Zyi ?_|refine G.Zws ?_)
local macro_rules|`(tactic|walk_at"g2")=>`(tactic|with_reducible first|refine G.Zwm ?_|refine G.Zwl ?_|refine G.Zwk ?_|refine G.Zsw ?_|refine G.Zsv ?_|refine G.Zsu ?_)
local macro_rules|`(tactic|walk_at"g2")=>`(tactic|with_reducible first|refine G.ZAz ?_|refine G.i_U ?_|refine G.Zys ?_|refine G.Zyr ?_|refine G.Zyk ?_|refine G.Zyj ?_)
local macro_rules|`(tactic|walk_at"g2")=>`(tactic|with_reducible first|refine G.Zyt ?_|refine G.Zyh ?_|refine G.Zuo ?_|refine G.Zwu ?_|refine G.Zwg ?_|refine G.Zyn ?_)
local macro_rules|`(tactic|walk_at"g2")=>`(tactic|with_reducible first|refine G.i_C ?_|refine G.Zwf ?_|refine G.ZAj ?_|refine G.i_B ?_|refine G.Zwc ?_|refine G.Zyg ?_)
local macro_rules|`(tactic|walk_at"g2")=>`(tactic|with_reducible first|refine G.Zbs ?_|refine G.Zt6 ?_|refine G.Zwo ?_|refine G.M5 ?_|refine G.Zt3 ?_|refine G.Zk5 ?_)
local macro_rules|`(tactic|walk_at"g1")=>`(tactic|walk_at"g2")
local macro_rules|`(tactic|walk_at"g1")=>`(tactic|with_reducible refine G.yD ?_)
local macro_rules | `(tactic| walk_at "ne")=>`(tactic| first | assumption | (exact Ne.symm (by assumption)) | exact L2.aF (by assumption) (by assumption) | exact Ne.symm (L2.aF (by assumption) (by assumption)) | exact Nat.ne_of_lt (by assumption))
local macro_rules | `(tactic| walk_at "hp")=>`(tactic| first | assumption | exact L2.ao | (refine Eq.trans (L2.aB ?hne) ?_;(case hne=>walk_at "ne");walk_at "hp"))
local macro_rules | `(tactic| walk_at"d")=>`(tactic| first | omega | decide | (show (_:Int)<_;decide) | exact ⟨ε,ε⟩ | exact ⟨ε,ε,ε⟩ | (unfold L2.zZ;omega) | exact .inl (by unfold L2.zZ;omega))
local macro_rules | `(tactic| walk_at"e")=>`(tactic| repeat (first | walk_at "g1" | ((with_reducible refine G.i_I ?hc ?_);(case hc=>walk_at"d"))))
local macro_rules | `(tactic| walk_at"s")=>`(tactic| repeat (first | walk_at "g2" | ((with_reducible refine G.i_I ?hc ?_);(case hc=>walk_at"d"))))
local macro_rules | `(tactic| walk_at"c")=>`(tactic| simp only [List.map_cons,List.map_nil,G.pick,List.getElem?_cons_zero,List.getElem?_cons_succ])
local macro_rules | `(tactic| apply $e)=>`(tactic| (walk_at"e";refine $e))
local macro_rules | `(tactic| exists $e,*)=>`(tactic| (walk_at"e";refine⟨$e,*, ?_⟩))
local macro_rules | `(tactic| ext)=>`(tactic| walk_at"e")
local macro_rules | `(tactic| left)=>`(tactic| walk_at"s")
local macro_rules | `(tactic| right)=>`(tactic| (have h2:=(Except.ok.inj h);rw[<- (Prod.mk.inj h2).2]))
namespace W7
open PySem L2 G
def jr(birth:Int)(bulk:Int)(tone:Int)(load:Int)(fa:AI):List (Str×V):=[("birth",.int birth),("bulk",.int bulk),("tone",.int tone),("load",.int load),("fields",.ref fa)]
theorem fK{birth:Int}{bulk:Int}{tone:Int}{load:Int}{fa:AI}:List.lookup ("birth":Str) b7=some (.int birth:V):=rfl
theorem WM{birth:Int}{bulk:Int}{tone:Int}{load:Int}{fa:AI}:List.lookup ("bulk":Str) b7=some (.int bulk:V):=rfl
theorem WL{birth:Int}{bulk:Int}{tone:Int}{load:Int}{fa:AI}:List.lookup ("tone":Str) b7=some (.int tone:V):=rfl
theorem Ck{birth:Int}{bulk:Int}{tone:Int}{load:Int}{fa:AI}:List.lookup ("load":Str) b7=some (.int load:V):=rfl
theorem iT{birth:Int}{bulk:Int}{tone:Int}{load:Int}{fa:AI}:List.lookup ("fields":Str) b7=some (.ref fa:V):=rfl
theorem Uh{birth:Int}{bulk:Int}{tone:Int}{load:Int}{fa:AI}(y:Int):bM "tone" (.int y) b7=jr birth bulk y load fa:=rfl
theorem Ui{birth:Int}{bulk:Int}{tone:Int}{load:Int}{fa:AI}(y:Int):bM "load" (.int y) b7=jr birth bulk tone y fa:=rfl
theorem Zqu{birth:Int}{bulk:Int}{tone:Int}{load:Int}{fa:AI}:(bM "fields" (.ref fa) (bM "load" (.int load) (bM "tone" (.int tone) (bM "bulk" (.int bulk) (bM "birth" (.int birth) [])))))=jr birth bulk tone load fa:=rfl
theorem pP{birth:Int}{bulk:Int}{tone:Int}{load:Int}{fa:AI}:List.lookup ("units":Str) b7=none:=rfl
theorem De{birth:Int}{bulk:Int}{tone:Int}{load:Int}{fa:AI}:List.lookup ("has_field":Str) b7=none:=rfl
def iG(room:Int)(ca:AI)(used:Int)(born:Int):List (Str×V):=[("room",.int room),("cells",.ref ca),("used",.int used),("born",.int born)]
theorem Wy{room:Int}{ca:AI}{used:Int}{born:Int}:List.lookup ("room":Str) ck=some (.int room:V):=rfl
theorem bU{room:Int}{ca:AI}{used:Int}{born:Int}:List.lookup ("cells":Str) ck=some (.ref ca:V):=rfl
theorem rO{room:Int}{ca:AI}{used:Int}{born:Int}:List.lookup ("used":Str) ck=some (.int used:V):=rfl
theorem Wz{room:Int}{ca:AI}{used:Int}{born:Int}:List.lookup ("born":Str) ck=some (.int born:V):=rfl
theorem yE{room:Int}{ca:AI}{used:Int}{born:Int}(y:Int):bM "used" (.int y) ck=iG room ca y born:=rfl
theorem Tw{room:Int}{ca:AI}{used:Int}{born:Int}(y:Int):bM "born" (.int y) ck=iG room ca used y:=rfl
theorem Zpy{room:Int}{ca:AI}{used:Int}{born:Int}:(bM "born" (.int born) (bM "used" (.int used) (bM "cells" (.ref ca) (bM "room" (.int room) []))))=iG room ca used born:=rfl
theorem Wv{room:Int}{ca:AI}{used:Int}{born:Int}:List.lookup ("make":Str) ck=none:=rfl
theorem Zbx{room:Int}{ca:AI}{used:Int}{born:Int}:List.lookup ("lay":Str) ck=none:=rfl
theorem Wx{room:Int}{ca:AI}{used:Int}{born:Int}:List.lookup ("back":Str) ck=none:=rfl
theorem Ww{room:Int}{ca:AI}{used:Int}{born:Int}:List.lookup ("free":Str) ck=none:=rfl
theorem TF{room:Int}{ca:AI}{used:Int}{born:Int}:List.lookup ("there":Str) ck=none:=rfl
def S5(lk:AI)(tl:Int):List (Str×V):=[("looking",.ref lk),("tells",.int tl)]
theorem cT{lk:AI}{tl:Int}:List.lookup ("looking":Str) (S5 lk tl)=some (.ref lk:V):=rfl
theorem fD{lk:AI}{tl:Int}:List.lookup ("tells":Str) (S5 lk tl)=some (.int tl:V):=rfl
theorem Zpk{lk:AI}{tl:Int}:(bM "tells" (.int tl) (bM "looking" (.ref lk) []))=S5 lk tl:=rfl
def Zk7(nm:Str)(sa:AI):List (Str×V):=[("name",.str nm),("slots",.ref sa)]
theorem kJ{nm:Str}{sa:AI}:List.lookup ("slots":Str) (Zk7 nm sa)=some (.ref sa:V):=rfl
theorem Zpz{nm:Str}{sa:AI}:(bM "slots" (.ref sa) (bM "name" (.str nm) []))=Zk7 nm sa:=rfl
def wX(hp:AI)(ki:AI)(hl:AI)(nm:AI)(sw:AI):List (Str×V):=[("heap",.ref hp),("kind",.ref ki),("hands",.ref hl),("names",.ref nm),("sweeper",.ref sw)]
theorem bI{hp:AI}{ki:AI}{hl:AI}{nm:AI}{sw:AI}:List.lookup ("heap":Str) (wX hp ki hl nm sw)=some (.ref hp:V):=rfl
theorem iu{hp:AI}{ki:AI}{hl:AI}{nm:AI}{sw:AI}:List.lookup ("kind":Str) (wX hp ki hl nm sw)=some (.ref ki:V):=rfl
theorem dj{hp:AI}{ki:AI}{hl:AI}{nm:AI}{sw:AI}:List.lookup ("hands":Str) (wX hp ki hl nm sw)=some (.ref hl:V):=rfl
theorem iR{hp:AI}{ki:AI}{hl:AI}{nm:AI}{sw:AI}:List.lookup ("names":Str) (wX hp ki hl nm sw)=some (.ref nm:V):=rfl
theorem aV{hp:AI}{ki:AI}{hl:AI}{nm:AI}{sw:AI}:List.lookup ("sweeper":Str) (wX hp ki hl nm sw)=some (.ref sw:V):=rfl
theorem Zl1{hp:AI}{ki:AI}{hl:AI}{nm:AI}{sw:AI}:(bM "sweeper" (.ref sw) (bM "names" (.ref nm) (bM "hands" (.ref hl) (bM "kind" (.ref ki) (bM "heap" (.ref hp) [])))))=wX hp ki hl nm sw:=rfl
def bT(c:Int)(ph:Str)(gr:AI)(lo:Int)(a:Int)(at_:Int)(st:Int)(b:Int)(d:Int)(e:Int)(f:V):List (Str×V):=[("sense",.int c),("phase",.str ph),("grey",.ref gr),("looked",.int lo),("turn",.int a),("at",.int at_),("stop",.int st),("walks",.int b),("looks",.int d),("passes",.int e),("loss",f)]
theorem jH{a:Int}{ph:Str}{gr:AI}{lo:Int}{b:Int}{at_:Int}{st:Int}{c:Int}{d:Int}{e:Int}{f:V}:List.lookup ("sense":Str) (bT a ph gr lo b at_ st c d e f)=some (.int a:V):=rfl
theorem cR{c:Int}{ph:Str}{gr:AI}{lo:Int}{a:Int}{at_:Int}{st:Int}{b:Int}{d:Int}{e:Int}{f:V}:List.lookup ("phase":Str) aE=some (.str ph:V):=rfl
theorem oY{c:Int}{ph:Str}{gr:AI}{lo:Int}{a:Int}{at_:Int}{st:Int}{b:Int}{d:Int}{e:Int}{f:V}:List.lookup ("grey":Str) aE=some (.ref gr:V):=rfl
theorem gk{c:Int}{ph:Str}{gr:AI}{lo:Int}{a:Int}{at_:Int}{st:Int}{b:Int}{d:Int}{e:Int}{f:V}:List.lookup ("looked":Str) aE=some (.int lo:V):=rfl
theorem oX{c:Int}{ph:Str}{gr:AI}{lo:Int}{a:Int}{at_:Int}{st:Int}{b:Int}{d:Int}{e:Int}{f:V}:List.lookup ("turn":Str) aE=some (.int a:V):=rfl
theorem DN{c:Int}{ph:Str}{gr:AI}{lo:Int}{a:Int}{at_:Int}{st:Int}{b:Int}{d:Int}{e:Int}{f:V}:List.lookup ("at":Str) aE=some (.int at_:V):=rfl
theorem Ql{c:Int}{ph:Str}{gr:AI}{lo:Int}{a:Int}{at_:Int}{st:Int}{b:Int}{d:Int}{e:Int}{f:V}:List.lookup ("stop":Str) aE=some (.int st:V):=rfl
theorem vC{c:Int}{ph:Str}{gr:AI}{lo:Int}{b:Int}{at_:Int}{st:Int}{a:Int}{d:Int}{e:Int}{f:V}:List.lookup ("walks":Str) (bT c ph gr lo b at_ st a d e f)=some (.int a:V):=rfl
theorem nF{d:Int}{ph:Str}{gr:AI}{lo:Int}{b:Int}{at_:Int}{st:Int}{c:Int}{a:Int}{e:Int}{f:V}:List.lookup ("looks":Str) (bT d ph gr lo b at_ st c a e f)=some (.int a:V):=rfl
theorem rY{d:Int}{ph:Str}{gr:AI}{lo:Int}{b:Int}{at_:Int}{st:Int}{c:Int}{e:Int}{a:Int}{f:V}:List.lookup ("passes":Str) (bT d ph gr lo b at_ st c e a f)=some (.int a:V):=rfl
theorem Qm{d:Int}{ph:Str}{gr:AI}{lo:Int}{b:Int}{at_:Int}{st:Int}{c:Int}{e:Int}{f:Int}{a:V}:List.lookup ("loss":Str) (bT d ph gr lo b at_ st c e f a)=some (a:V):=rfl
theorem Jq{f:Int}{ph:Str}{gr:AI}{lo:Int}{a:Int}{at_:Int}{st:Int}{b:Int}{c:Int}{d:Int}{e:V}(y:Int):bM "sense" (.int y) (bT f ph gr lo a at_ st b c d e)=bT y ph gr lo a at_ st b c d e:=rfl
theorem ju{c:Int}{ph:Str}{gr:AI}{lo:Int}{a:Int}{at_:Int}{st:Int}{b:Int}{d:Int}{e:Int}{f:V}(y:Str):bM "phase" (.str y) aE=bT c y gr lo a at_ st b d e f:=rfl
theorem Oc{c:Int}{ph:Str}{gr:AI}{lo:Int}{a:Int}{at_:Int}{st:Int}{b:Int}{d:Int}{e:Int}{f:V}(y:AI):bM "grey" (.ref y) aE=bT c ph y lo a at_ st b d e f:=rfl
theorem qb{c:Int}{ph:Str}{gr:AI}{lo:Int}{a:Int}{at_:Int}{st:Int}{b:Int}{d:Int}{e:Int}{f:V}(y:Int):bM "looked" (.int y) aE=bT c ph gr y a at_ st b d e f:=rfl
theorem N8{b:Int}{ph:Str}{gr:AI}{lo:Int}{f:Int}{at_:Int}{st:Int}{a:Int}{c:Int}{d:Int}{e:V}(y:Int):bM "turn" (.int y) (bT b ph gr lo f at_ st a c d e)=bT b ph gr lo y at_ st a c d e:=rfl
theorem z6{c:Int}{ph:Str}{gr:AI}{lo:Int}{a:Int}{at_:Int}{st:Int}{b:Int}{d:Int}{e:Int}{f:V}(y:Int):bM "at" (.int y) aE=bT c ph gr lo a y st b d e f:=rfl
theorem Oa{c:Int}{ph:Str}{gr:AI}{lo:Int}{a:Int}{at_:Int}{st:Int}{b:Int}{d:Int}{e:Int}{f:V}(y:Int):bM "stop" (.int y) aE=bT c ph gr lo a at_ y b d e f:=rfl
theorem rW{b:Int}{ph:Str}{gr:AI}{lo:Int}{a:Int}{at_:Int}{st:Int}{f:Int}{c:Int}{d:Int}{e:V}(y:Int):bM "walks" (.int y) (bT b ph gr lo a at_ st f c d e)=bT b ph gr lo a at_ st y c d e:=rfl
theorem lC{c:Int}{ph:Str}{gr:AI}{lo:Int}{a:Int}{at_:Int}{st:Int}{b:Int}{f:Int}{d:Int}{e:V}(y:Int):bM "looks" (.int y) (bT c ph gr lo a at_ st b f d e)=bT c ph gr lo a at_ st b y d e:=rfl
theorem p8{c:Int}{ph:Str}{gr:AI}{lo:Int}{a:Int}{at_:Int}{st:Int}{b:Int}{d:Int}{f:Int}{e:V}(y:Int):bM "passes" (.int y) (bT c ph gr lo a at_ st b d f e)=bT c ph gr lo a at_ st b d y e:=rfl
theorem Ob{c:Int}{ph:Str}{gr:AI}{lo:Int}{a:Int}{at_:Int}{st:Int}{b:Int}{d:Int}{e:Int}{f:V}(y:V):bM "loss" (y) aE=bT c ph gr lo a at_ st b d e y:=rfl
theorem Zla{c:Int}{ph:Str}{gr:AI}{lo:Int}{a:Int}{at_:Int}{st:Int}{b:Int}{d:Int}{e:Int}{f:V}:(bM "loss" (f) (bM "passes" (.int e) (bM "looks" (.int d) (bM "walks" (.int b) (bM "stop" (.int st) (bM "at" (.int at_) (bM "turn" (.int a) (bM "looked" (.int lo) (bM "grey" (.ref gr) (bM "phase" (.str ph) (bM "sense" (.int c) [])))))))))))=bT c ph gr lo a at_ st b d e f:=rfl
def nH(rm:Int)(a:AI)(hd:AI)(rw:AI):List (Str×V):=[("room",.int rm),("kind",.ref a),("hands",.ref hd),("rows",.ref rw)]
theorem Qz{rm:Int}{a:AI}{hd:AI}{rw:AI}:List.lookup ("room":Str) (nH rm a hd rw)=some (.int rm:V):=rfl
theorem kj{rm:Int}{a:AI}{hd:AI}{rw:AI}:List.lookup ("kind":Str) (nH rm a hd rw)=some (.ref a:V):=rfl
theorem nG{rm:Int}{a:AI}{hd:AI}{rw:AI}:List.lookup ("hands":Str) (nH rm a hd rw)=some (.ref hd:V):=rfl
theorem xm{rm:Int}{a:AI}{hd:AI}{rw:AI}:List.lookup ("rows":Str) (nH rm a hd rw)=some (.ref rw:V):=rfl
theorem Zlh{rm:Int}{a:AI}{hd:AI}{rw:AI}:(bM "rows" (.ref rw) (bM "hands" (.ref hd) (bM "kind" (.ref a) (bM "room" (.int rm) []))))=nH rm a hd rw:=rfl
def Yd:TS:=
 (bw (bu dS (bu (rI U8 λi j=>.int (i * 2 ^ j.toNat)) τ ρ) τ))
def nT:TS:=
 (bw ς)
def mH:TS:=
 (bw ς)
def sU:TS:=
 (bw (tC (.bl true)))
def Ba:TS:=
 (bw (tC (.str "first")))
def xR:TS:=
 (bw τ)
def qj(a:Sp):TS:=
 (bw (aR a [] E0 bf))
def Ga:TS:=
 (bw (tC (.str "each")))
def Bb:TS:=
 (bw (bu (iB λi j=>.int (Builtin.bitOr i j)) τ ar))
def qm:TS:=
 (aN (rT (M6 cy) ee
   (cZ (bJ (bu (qw) (bu a9 (bu eC χ dE) τ) ς)) (bw (bu (rI U8 λi j=>.int (i * 2 ^ j.toNat)) τ dE)) bR))
   (bw ς))
def FP:TS:=
 (bw (tC (.str "last")))
def Av:TS:=
 (bw ar)
def qi(a:Sp):TS:=
 (bw (aR a [] E0 cy))
def Ar:TS:=
 (bw (tC (.bl false)))
def sV(K:aD):TS:=
 (aN (dM K ρ χ "looking")
   (dM K ρ ac "tells"))
def Aw(K:aD)(b d a:AI)(e c f:Sp):TS:=
 (aN (bC (G.w6 (fP d "needs" c [] E0 (aZ K ρ "looking") aG) (G.w6 (fP b "needs" e [] E0 (aZ K ρ "looking") aG) (fP a "needs" f [] E0 (aZ K ρ "looking") aG))) (aO 1))
   (bw (bu (qw) (bu a9 (aZ K ρ "tells") χ) χ)))
def sY(K:aD):TS:=
 (aN (dM K ρ χ "birth")
   (aN (dM K ρ dE "bulk")
   (aN (dM K ρ cw "tone")
   (aN (dM K ρ ς "load")
   (dM K ρ (bu (Zvc) (eU (aj cq aG)) ac) "fields")))))
def Bc(K:aD):TS:=
 (bw (bu Δ (bu Δ τ (oU (G.gD K) (aj (aZ K ρ "fields") aG))) (aZ K ρ "bulk")))
def qp(K:aD):TS:=
 (bw (Zgm (iB λi j=>.bl (decide (i<=j))) a5 ς χ (oU (G.gD K) (aj (aZ K ρ "fields") aG))))
def sW(K:aD):TS:=
 (aN (dM K ρ χ "room")
   (aN (dM K ρ eS "cells")
   (aN (dM K ρ ς "used")
   (dM K ρ ς "born"))))
def FQ(K:aD)(a e c:AI)(f d g b:Sp)(E:XK):TS:=
 (aN (bC (rR a f [] E0 (aj (bu Δ (aZ K ρ "born") τ) (aj χ (aj ac aT)))) (aO 4))
   (aN (cZ (bJ (bu eu (fP a "units" d [] E0 cw aG) (fP c "free" g [] E0 ρ aG))) (G.Cr e E (aj (tC (.str "the room does not suffice")) aG)) bR)
   (aN (dM K ρ (aZ K cw "birth") "born")
   (aN (dM K ρ (bu Δ (aZ K ρ "used") (fP a "units" d [] E0 cw aG)) "used")
   (bw (fP c "lay" b [] E0 ρ (aj cw aG)))))))
def Lg(K:aD):TS:=
 (aN (cZ (bJ (bu (G.Zvd K true) cq ef)) (aN (iW (tBM K "list" uG ef bf))
   (bw (bu dS (oU (G.gD K) (aj ef aG)) τ))) bR)
   (aN (bC (tBM K "list" (G.Zjl K) ef (aj cq aG)) eA)
   (aN (bC χ (TQ ef ac Be))
   (bw ac))))
def FZ(K:aD)(a:AI)(b:Sp):TS:=
 (aN (bC (bu (jf K) ef χ) eA)
   (aN (dM K ρ (bu dS (aZ K ρ "used") (fP a "units" b [] E0 ac aG)) "used")
   (aN (bC cq (TQ ef χ Be))
   (bw (aZ K ac "birth")))))
def FW(K:aD):TS:=
 (bw (bu dS (aZ K ρ "room") (aZ K ρ "used")))
def rH(K:aD):TS:=
 (bw (G.tLC (M6 (aj (oU (G.gD K) (aj ef aG)) aG)) [0] (bJ (bu (G.qt) (bu (jf K) (aZ K χ "cells") ρ) cq)) ρ))
def Rh(K:aD):TS:=
 (aN (cZ ((U9 (bJ (bu (G.Vy) χ cq)) (U9 (bJ (bu a5 χ ς)) (bJ (bu (iB λi j=>.bl (decide (j<=i))) χ (oU (G.gD K) (aj ef aG))))))) (bw cq) bR)
   (bw (bu (jf K) ef χ)))
def Le(K:aD)(a:Sp):TS:=
 (aN (bC (aR a [] E0 (aj ρ bf)) eA)
   (aN (cZ (bJ (bu (G.Vy) ac cq)) (bw cq) bR)
   (bw (aZ K ac "birth"))))
def sX(K:aD):TS:=
 (aN (dM K ρ χ "name")
   (dM K ρ (bu (Zvc) (eU (aj cq aG)) ac) "slots"))
def nR(K:aD):TS:=
 (aN (dM K ρ ς "sense")
   (aN (dM K ρ (tC (.str "rest")) "phase")
   (aN (dM K ρ eS "grey")
   (aN (dM K ρ ς "looked")
   (aN (dM K ρ ς "turn")
   (aN (dM K ρ ς "at")
   (aN (dM K ρ ς "stop")
   (aN (dM K ρ ς "walks")
   (aN (dM K ρ ς "looks")
   (aN (dM K ρ ς "passes")
   (dM K ρ cq "loss")))))))))))
def qe(K:aD)(a d b:AI)(f e c:Sp):TS:=
 (aN (dM K ρ (rR d e [] E0 bf) "heap")
   (aN (dM K ρ ac "kind")
   (aN (dM K ρ (G.Zl7 K (pM K dE) [] G.wZ (rR a f [] E0 (aj ρ bf))) "hands")
   (aN (dM K ρ (Zgl) "names")
   (dM K ρ (rR b c [] E0 aG) "sweeper")))))
def Za5(K:aD):TS:=
 (bw (G.tLC (pM K (aZ K ρ "hands")) [] G.wZ (oU (G.yN K) (aj (aZ K ρ "slots") aG))))
def pq(K:aD)(a:Sp):TS:=
 (bw (G.tLC (pM K (aZ K ρ "hands")) [0] G.wZ (aR a [] E0 (aj (aZ K χ "heap") (aj (aZ K ρ "slots") aG)))))
def Fp(K:aD)(a:Sp):TS:=
 (bw (G.tLC (pM K χ) [0] G.wZ (aR a [] E0 (aj χ a7))))
def Fg(K:aD):TS:=
 (bw (bu (qw) (bu a9 (bu eC (aZ K ag "looked") χ) τ) τ))
def Fj(K:aD):TS:=
 (bw (bu (qw) (aZ K χ "tone") (aZ K ag "sense")))
def Aj(K:aD):TS:=
 (bw (bu (rIn K false) eg (cP (aj (tC (.str "walk")) (aj dL aG)))))
def Zdo(K:aD)(d e c:AI)(b a:Sp):TS:=
 (aN (bC ag (aO 1))
   (aN (dM K χ (bu dS τ (aZ K χ "sense")) "sense")
   (aN (dM K χ (bu Δ (aZ K χ "turn") τ) "turn")
   (aN (dM K χ (tC (.str "walk")) "phase")
   (aN (dM K χ eS "grey")
   (aN (dM K χ (G.w6 (fP e "at_begin" b [] E0 (aZ K (aZ K ρ "kind") "looking") bd) (G.w6 (fP d "at_begin" a [] E0 (aZ K (aZ K ρ "kind") "looking") bd) (fP c "at_begin" a [] E0 (aZ K (aZ K ρ "kind") "looking") bd))) "looked")
   (aN (dM K χ ς "walks")
   (aN (dM K χ ς "looks")
   (dM K χ ς "passes")))))))))
def Zjj(K:aD)(a b:Sp):TS:=
 (aN (bC ag eA)
   (aN (bC (aR a [] E0 (aj be bf)) ee)
   (aN (cZ ((U9 (bJ (bu (rNe) (aZ K ac "phase") (tC (.str "walk")))) (U9 (bJ (bu (G.Vy) dE cq)) (tB (aR b [] E0 (aj ρ aT)))))) (bw cq) bR)
   (aN (dM K dE (aZ K ac "sense") "tone")
   (aN (iW (tBM K "list" uG (aZ K ac "grey") bf))
   (bw (aZ K dE "birth")))))))
def La(K:aD)(a:Sp):TS:=
 (aN (bC eS eA)
   (aN (rT (pM K χ) ee
   (aN (bC (aR a [] E0 (aj ρ aT)) (aO 4))
   (cZ (bJ (bu (G.qt) cw cq)) (iW (tBM K "list" uG ac (aj cw aG))) bR)))
   (bw ac)))
def Zjk(K:aD)(a b:Sp):TS:=
 (aN (bC (aR a [] E0 (aj be bf)) ee)
   (aN (cZ ((U9 (bJ (bu (G.Vy) dE cq)) (bJ (bu (rNe) (aZ K dE "birth") ac)))) (bw (tC (.bl true))) bR)
   (bw ((Xx (bu (qw) eg (tC (.str "give"))) (Zj8 (aR b [] E0 (aj ρ aT))))))))
def Zdn(K:aD)(b a:Sp)(c:Hp):TS:=
 (bw (bu (Ow) (aR b [] E0 a7) (eU (aj (G.Zne c (G.Zl7 K (G.Zpt (G.Znc (aZ K ρ "names"))) [0] G.wZ (aR a [] E0 (aj ac (aj ρ bf))))) aG))))
def QX(K:aD)(b c a:Sp):TS:=
 (aN (cZ (tB (aR b [] E0 (aj ρ (aj χ cy)))) (bw cq) bR)
   (aN (cZ ((Zl8 (tB dQ) (zQ (tB (aR c [] E0 (aj ρ (aj (bu (jf K) (aZ K be "cells") χ) aG))))))) (bw cq) bR)
   (bw χ)))
def K9(K:aD):TS:=
 (bw (aZ K (bu (jf K) (aZ K ρ "hands") χ) "slots"))
def Rb(K:aD)(b:AI)(a c:Sp)(E:XK):TS:=
 (aN (bC (aR a [] E0 (aj be (aj (bu (jf K) (aR c [] E0 (aj ρ bf)) ac) aG))) ee)
   (aN (cZ (bJ (bu (G.Vy) dE cq)) (G.Cr b E (aj (tC (.str "the slot holds no cell")) aG)) bR)
   (bw dE)))
def Fl(K:aD)(a d:AI)(c b:Sp)(E:XK):TS:=
 (aN (bC (aR b [] E (aj ρ (aj χ cy))) (aO 4))
   (aN (cZ (zQ (tB (fP a "has_field" c [] E0 cw aT))) (G.Cr d E (aj (tC (.str "the cell does not have the field")) aG)) bR)
   (bw (aZ K cw "fields"))))
def xM(K:aD):TS:=
 (aN (cZ (bJ (bu (qw) (bu a9 (aZ K (aZ K ρ "kind") "tells") τ) ς)) (bw eS) bR)
   (bw (eU bf)))
def xN(K:aD)(a:Sp):TS:=
 (aN (cZ ((U9 (bJ (bu (qw) (bu a9 (aZ K (aZ K ρ "kind") "tells") ar) ς)) (tB (aR a [] E0 (aj ρ bf))))) (bw eS) bR)
   (bw (eU cy)))
def Q6(K:aD)(b:AI)(a c d:Sp)(E:XK):TS:=
 (aN (bC (aR d [] E0 (aj ρ (aj eM aG))) eA)
   (aN (bC (bu cv χ am) ee)
   (aN (bC (bu cv χ (tC (.int 4))) (aO 4))
   (aN (bC (fP b "make" a [] E be (aj dE (aj cw (aj (aZ K ag "sense") aG)))) (aO 5))
   (aN (bC (ak 5) (TQ ac (bu cv χ ar) Be))
   (bw (cP (aj (tC (.str "made")) (aj (aR c [] E0 (aj be (aj (ak 5) aG))) (aj eS aG))))))))))
def Yc(K:aD)(b a c:Sp)(E:XK):TS:=
 (aN (bC eM eA)
   (aN (bC (bu cv χ am) ee)
   (aN (bC (bu cv χ (tC (.int 4))) (aO 4))
   (aN (bC (bu (jf K) (aR a [] E (aj ρ (aj ac (aj dE (aj cw aG))))) cw) (aO 5))
   (aN (bC (ak 5) (TQ (aR c [] E0 (aj ρ cy)) (bu cv χ ar) Be))
   (bw (cP (aj (tC (.str "got")) (aj (aR b [] E0 (aj be (aj (ak 5) aG))) (aj eS aG))))))))))
def Yb(K:aD)(e d c f a b:Sp)(E:XK):TS:=
 (aN (bC eM eA)
   (aN (bC (bu cv χ am) ee)
   (aN (bC (aR d [] E (aj ρ (aj ac (aj (bu cv χ ar) aT)))) (aO 4))
   (aN (bC (bu (jf K) cw dE) (aO 5))
   (aN (bC (bu (jf K) (aR f [] E0 (aj ρ cy)) (bu cv χ (tC (.int 4)))) (aO 6))
   (aN (bC (ak 6) (TQ cw dE Be))
   (aN (bC (aR c [] E0 (aj ρ (aj (bu (Ow) (aR b [] E0 (aj ρ (aj (ak 5) aG))) (aR a [] E0 (aj ρ (aj ac (aj (ak 6) aG))))) aG))) (aO 7))
   (bw (cP (aj (tC (.str "put")) (aj (aR e [] E0 (aj be (aj (ak 5) aG))) (aj (ak 7) aG))))))))))))
def Q9(K:aD)(a b:Sp):TS:=
 (aN (bC (aR b [] E0 (aj ρ (aj eM aG))) eA)
   (aN (bC (bu (jf K) ac (bu cv χ am)) ee)
   (aN (bC dE (TQ ac (bu cv χ ar) Be))
   (bw (cP (aj (tC (.str "copied")) (aj (aR a [] E0 (aj be aT)) (aj eS aG))))))))
def Q8(K:aD)(a b:Sp):TS:=
 (aN (bC (aR b [] E0 (aj ρ (aj eM aG))) eA)
   (aN (bC (bu (jf K) ac (bu cv χ ar)) ee)
   (aN (bC cq (TQ ac (bu cv χ ar) Be))
   (bw (cP (aj (tC (.str "dropped")) (aj (aR a [] E0 (aj be aT)) (aj eS aG))))))))
def Q7(K:aD)(d c a b:Sp):TS:=
 (aN (bC eM eA)
   (aN (bC (bu cv χ am) ee)
   (aN (bC (bu (jf K) (aR a [] E0 (aj ρ cy)) (bu cv χ ar)) (aO 4))
   (aN (bC cw (TQ (aR a [] E0 (aj ρ aT)) (bu cv χ (tC (.int 4))) Be))
   (aN (bC (aR c [] E0 (aj ρ (aj (aR b [] E0 (aj ρ (aj ac (aj cw aG)))) aG))) (aO 5))
   (bw (cP (aj (tC (.str "given")) (aj (aR d [] E0 (aj be (aj cw aG))) (aj (ak 5) aG))))))))))
def Ld(K:aD)(a:Sp)(E:XK):TS:=
 (aN (bC (aR a [] E (aj ρ (aj eM (aj (bu cv χ ar) aG)))) eA)
   (aN (bC (aZ K ac "load") ee)
   (aN (dM K ac (bu cv χ am) "load")
   (bw (cP (aj (tC (.str "wrote")) (aj dE (aj eS aG))))))))
def Q4(K:aD)(a:Sp)(E:XK):TS:=
 (aN (bC (aR a [] E (aj ρ (aj eM (aj (bu cv χ ar) aG)))) eA)
   (bw (cP (aj (tC (.str "read")) (aj (aZ K ac "load") (aj eS aG))))))
def Q5(K:aD)(a b:Sp)(E:XK):TS:=
 (aN (bC eM eA)
   (aN (bC (bu cv χ ar) ee)
   (aN (bC (aZ K (aR a [] E (aj ρ (aj ac aT))) "birth") (aO 4))
   (aN (Zjf (aZ K ρ "names") (bu cv χ am) (cP (aj (bu (jf K) (aR b [] E0 (aj ρ cy)) dE) (aj cw aG))))
   (bw (cP (aj (tC (.str "named")) (aj cw (aj eS aG)))))))))
def Q3(K:aD)(c b a d:Sp)(E:XK):TS:=
 (aN (bC (aR a [] E (aj ρ (aj (bu cv χ am) aG))) eA)
   (aN (bC ac (TQ (aR d [] E0 (aj ρ (aj eM aG))) (bu cv χ ar) Be))
   (aN (bC (aR b [] E0 (aj ρ (aj (eU cy) aG))) ee)
   (bw (cP (aj (tC (.str "sought")) (aj (aR c [] E0 (aj be cy)) aT)))))))
def xO(K:aD)(a:AI)(b:Sp)(E:XK):TS:=
 (aN (cZ (tB (ZM χ (aZ K ρ "names"))) (G.Cr a E (aj (tC (.str "the weak name was never given")) aG)) bR)
   (aN (bC (bu cv (Zd6 (aZ K ρ "names") χ) ς) eA)
   (aN (bC (bu cv (Zd6 (aZ K ρ "names") χ) τ) ee)
   (aN (cZ (tB (aR b [] E0 (aj ρ (aj ac aT)))) (bw cq) bR)
   (bw ac)))))
def Znw(K:aD)(k m q r o l p n s t:AI)(c i f b j d g e a h:Sp)(E:XK):TS:=
 (aN (bC (G.Zrj [("make",o),("get",q),("put",p),("copy",k),("drop",m),("give",r),("write",t),("read",n),("name",l),("seek",s)] (bu cv χ ς)) eA)
   (bw (G.ZQ 2 [(o,j),(q,f),(p,g),(k,c),(m,i),(r,b),(t,h),(n,e),(l,d),(s,a)] E (aj ρ bf))))
def qg(K:aD):TS:=
 (aN (dM K ρ χ "room")
   (aN (dM K ρ ac "kind")
   (aN (dM K ρ (oU (G.yN K) aT) "hands")
   (dM K ρ (oU (G.yN K) (aj cw aG)) "rows"))))
def K8(K:aD)(a:AI)(b:Sp):TS:=
 (bw (rR a b [] E0 (aj (aZ K ρ "room") (aj (aZ K ρ "kind") (aj (aZ K ρ "hands") aG)))))
def Cw(K:aD)(a:Sp):TS:=
 (aN (bC eS eA)
   (aN (rT (G.BR K bf) (Zbz K 2 (m5 ee (m5 (aO 4) Zc0)))
   (iW (tBM K "list" uF ac (aj (aR a [] E0 (aj ρ (aj cw (aj (cP aT) aG)))) aG))))
   (aN (bC (Zgl) (aO 5))
   (aN (bC ς (aO 6))
   (aN (ZL (bJ (bu a5 (ak 6) (oU (G.gD K) cy))) (aN (bC (bu cv (bu (jf K) ac (ak 6)) ς) (aO 7))
   (aN (bC (bu cv (bu (jf K) ac (ak 6)) τ) (aO 8))
   (aN (bC (bu Δ (ak 6) τ) (aO 6))
   (cZ (tB (G.Zng true (ak 7) (ak 5))) (aN (Zjf (ak 5) (ak 7) (ak 8))
   (iW (tBM K "list" uF ac (aj (aR a [] E0 (aj ρ (aj (aZ K (bu (jf K) ef (ak 7)) "fields") (aj (ak 8) aG)))) aG)))) bR)))))
   (bw (oU (G.Zij) (aj (G.Zgk (ak 5)) aG))))))))
def zB(K:aD)(a:Sp):TS:=
 (bw (G.Zl7 K (G.BR K bf) [0,2] (bJ (bu (G.qt) (aR a [] E0 (aj ac bf)) cq)) (cP (aj χ (aj (bu (Zua K) dE (cP a7)) aG)))))
def Ai(K:aD)(a:Sp):TS:=
 (aN (bC eS eA)
   (aN (rT (G.BR K (aj (aZ K ρ "hands") aG)) (Zbz K 2 (m5 ee (m5 (aO 4) Zc0)))
   (cZ (bJ (bu (qw) (bu a9 (bu eC χ dE) τ) τ)) (iW (tBM K "list" uF ac (aj (aR a [] E0 (aj ρ (aj (aZ K cw "slots") aG))) aG))) bR))
   (bw ac)))
def vP(K:aD)(a b:Sp):TS:=
 (aN (iW dQ)
   (aN (bC (aR b [] E0 (aj ρ (aj (aZ K ag "looked") aG))) (aO 1))
   (bw (cP (aj (tC (.str "begin")) (aj (aZ K ag "turn") bf))))))
def vN(K:aD)(b a:Sp):TS:=
 (aN (cZ (G.Zri K (aZ K ag "grey")) (bw dQ) bR)
   (bw (aR b [] E0 a7)))
def Zji(K:aD)(a:Sp):TS:=
 (aN (bC ag (aO 1))
   (aN (bC (bu (jf K) (aZ K be "cells") (tBM K "list" Znz (aZ K χ "grey") (aj ς aG))) eA)
   (aN (dM K χ (bu Δ (aZ K χ "walks") τ) "walks")
   (bw (cP (aj (tC (.str "walk")) (aj (aZ K ac "birth") (aj (aR a [] E0 (aj ρ (aj (aZ K ac "fields") aG))) aG))))))))
def jD(K:aD)(e f c:AI)(d a b g:Sp):TS:=
 (aN (bC (aR g [] E0 (aj ρ aT)) (aO 4))
   (aN (cZ ((U9 (bJ (bu (qw) dE ς)) (zQ ((U9 (tB (G.w6 (fP f "stays" a [] E0 ac aG) (G.w6 (fP e "stays" a [] E0 ac aG) (fP c "stays" d [] E0 ac aG)))) (G.Zri K cw)))))) (bw (aR b [] E0 a7)) bR)
   (aN (dM K χ (bu Δ (aZ K χ "looks") τ) "looks")
   (aN (cZ (tB (G.w6 (fP f "stays" a [] E0 ac aG) (G.w6 (fP e "stays" a [] E0 ac aG) (fP c "stays" d [] E0 ac aG)))) (dM K χ (bu (iB λi j=>.int (Builtin.bitOr i j)) (aZ K χ "looked") dE) "looked") bR)
   (bw (cP (aj (tC (.str "look")) (aj dE (aj cw aG)))))))))
def xP(K:aD)(c d b:AI)(f g h j i a e:Sp):TS:=
 (aN (bC ag (aO 1))
   (aN (bC (aZ K (aZ K ρ "kind") "looking") eA)
   (aN (bC (G.w6 (fP d "next_look" j [] E0 ac (aj (aZ K χ "looked") bd)) (G.w6 (fP c "next_look" f [] E0 ac (aj (aZ K χ "looked") bd)) (fP b "next_look" g [] E0 ac (aj (aZ K χ "looked") bd)))) ee)
   (jD K c d b h i a e))))
def Znx(K:aD)(b d a c:Sp):TS:=
 (aN (bC ag (aO 1))
   (aN (dM K χ (oU (G.gD K) (aj (aZ K be "cells") aG)) "stop")
   (aN (dM K χ ς "at")
   (aN (bC (aR d [] E0 a7) eA)
   (aN (cZ (bJ (bu (G.qt) ac cq)) (aN (dM K χ dL "phase")
   (aN (dM K χ ac "loss")
   (bw (aR c [] E0 cy)))) bR)
   (aN (dM K χ (tC (.str "give")) "phase")
   (aN (bC (aR b [] E0 (aj be (aj dQ aG))) ee)
   (bw (cP (aj (tC (.str "cut")) (aj (oU (G.gD K) aT) aT)))))))))))
def Ak(K:aD)(c b a:Sp):TS:=
 (aN (rT (pM K (aR b [] E0 (aj be (aj dQ aG)))) (Zbz K 2 (m5 (aO 1) (m5 eA Zc0)))
   (aN (bC (bu (jf K) (aZ K be "cells") χ) ee)
   (cZ (zQ (tB (aR c [] E0 (aj ρ aT)))) (bw (cP (aj dL (aj (aZ K dE "birth") (aj (oU (G.Zqw K) cy) aG))))) bR)))
   (bw cq))
def xQ(K:aD)(b:AI)(a c:Sp):TS:=
 (aN (bC be (aO 1))
   (bw (G.tLC (pM K (fP b "there" a [] E0 χ aG)) [0,1] (zQ (tB (aR c [] E0 (aj χ (aj (bu (jf K) (aZ K ac "cells") ρ) aG))))) ρ)))
def Af(K:aD):TS:=
 (bw (cP (aj (bu cv ρ ς) (aj (bu cv ρ τ) (aj (oU (G.yN K) (aj (bu cv ρ ar) aG)) aG)))))
def vO(K:aD)(a b:Sp):TS:=
 (aN (cZ (bJ (bu a5 (aZ K ag "at") (aZ K ag "stop"))) (bw (aR b [] E0 a7)) bR)
   (bw dQ))
def Ah(K:aD)(b:AI)(a c d:Sp):TS:=
 (aN (bC ag (aO 1))
   (aN (bC (aZ K χ "at") eA)
   (aN (dM K χ (bu Δ ac τ) "at")
   (aN (dM K χ (bu Δ (aZ K χ "passes") τ) "passes")
   (aN (bC (aR c [] E0 (aj be cy)) ee)
   (aN (cZ ((U9 (bJ (bu (G.Vy) dE cq)) (tB (aR d [] E0 (aj ρ aT))))) (bw (cP (aj (tC (.str "pass")) (aj ac (aj eS aG))))) bR)
   (bw (cP (aj (tC (.str "back")) (aj (fP b "back" a [] E0 be cy) (aj (eU cy) aG)))))))))))
def Znv(K:aD):TS:=
 (aN (bC ag (aO 1))
   (aN (dM K χ (tC (.str "rest")) "phase")
   (bw (cP (aj (tC (.str "end")) (aj (aZ K χ "turn") (aj (eU (aj (aZ K χ "walks") (aj (aZ K χ "looks") (aj (aZ K χ "passes") aG)))) aG)))))))
def qd(K:aD)(a:Sp):TS:=
 (bw (aR a [] E0 (aj (aZ K ag "loss") aG)))
def Za4(K:aD)(d a c b:AI)(e f g h:Sp):TS:=
 (aN (bC (G.Zrj [("rest",d),("walk",c),("give",a),("lost",b)] eg) (aO 1))
   (bw (G.ZQ 1 [(d,e),(c,g),(a,f),(b,h)] E0 a7)))
def QW(K:aD)(a:Sp):TS:=
 (aN (bC ς (aO 1))
   (aN (ZL (bJ (bu (rIn K true) eg (cP (aj (tC (.str "rest")) (aj dL aG))))) (aN (iW dQ)
   (bC (bu Δ χ τ) (aO 1))))
   (bw χ)))
def QV(K:aD)(a b:Sp):TS:=
 (aN (cZ (bJ (bu (qw) (bu cv χ ς) bq)) (bw (aR a [] E0 (aj ρ (aj eM aG)))) bR)
   (bw (eU (aj (aR b [] E0 (aj ρ bf)) aG))))
def Ff(K:aD)(a b:Sp):TS:=
 (aN (bC eS eA)
   (aN (ZL ((Zl8 (bJ (bu a5 (oU (G.gD K) cy) χ)) (zQ (tB (aR b [] E0 cy))))) (iW (tBM K "list" uG ac (aj dQ aG))))
   (bw ac)))
def Ag(K:aD):TS:=
 (bw ((Xx (bu eu (oU (G.gD K) a7) ς) (bu (qw) (bu cv (bu (jf K) ρ (tUn (rU λi=>.int (-i)) τ)) ς) dL))))
def rE(f d e g:AI)(c b:Sp):TS:=
 (G.Znd (λa=>a=Value.ref f) (λa=>a=Value.ref e) (λa=>a=Value.ref d) (λa=>a=Value.ref g) (λEx=>(bw (G.ZP c [] Ex (aj ρ bf)))) (bw (aR b [] E0 (aj (tC (.str "empty")) aG))) (bw (aR b [] E0 (aj (tC (.str "field")) aG))) (bw (aR b [] E0 (aj (tC (.str "full")) aG))) (bw (aR b [] E0 (aj (tC (.str "name")) aG))))
def QZ:TS:=
 (bw (cP (aj (tC (.str "refused")) (aj ρ (aj eS aG)))))
def uE(K:aD)(e b:AI)(a d f g c:Sp)(E:XK):TS:=
 (aN (cZ (G.Zri K (fP e "sound" a [] E0 (aZ K ρ "kind") aG)) (G.Cr b E (aj (tC (.str "no weave of a sound kind leads to a loss")) aG)) bR)
   (aN (bC (aR c [] E0 a7) (aO 1))
   (aN (bC (aR g [] E0 bf) eA)
   (aN (cZ (bJ (bu (qw) (aZ K (aZ K χ "sweeper") "phase") dL)) (bw ac) bR)
   (aN (iW (tBM K "list" uF ac (aj (aR d [] E0 bf) aG)))
   (aN (iW (tBM K "list" uF ac (aj (aR f [] E0 (aj (aZ K ρ "kind") bd)) aG)))
   (bw ac)))))))
def vM(K:aD)(b c a:Sp):TS:=
 (aN (bC dQ (aO 1))
   (aN (rT (pM K (aZ K ρ "rows")) eA
   (cZ (tB (aR b [] E0 (aj (aR c [] E0 (aj χ cy)) aG))) (Zgn) bR))
   (bw χ)))
def vQ(a:Sp):TS:=
 (aN (bC dQ (aO 1))
   (bw (tIf (bJ (bu eu χ ς)) (eU (aj (cP (aj bq bf)) aG)) eS)))
def sS(K:aD)(a c b d:Sp):TS:=
 (aN (bC dQ (aO 1))
   (aN (rT (pM K χ) eA
   (iW (aR d [] E0 (aj ρ cy))))
   (aN (iW (aR c [] E0 a7))
   (bw (bu (Ow) χ (eU (aj (cP (aj bq (aj (bu Δ τ (aR b [] E0 a7)) aG))) aG)))))))
def Lb(K:aD)(a:Sp):TS:=
 (aN (bC eS (aO 1))
   (aN (rT (G.BR K (aj dQ aG)) (Zbz K 2 (m5 eA (m5 ee Zc0)))
   (iW (tBM K "list" uF χ (aj (G.Zl7 K (G.BR K aT) [2] (bJ (bu (G.qt) χ cq)) (cP (aj (tC (.str "drop")) (aj ac a7)))) aG))))
   (bw χ)))
def vR(K:aD)(d e a:AI)(h g b f c:Sp):TS:=
 (aN (bC (G.w6 (fP e "word" g [] E0 (aZ K ρ "looking") aG) (G.w6 (fP d "word" h [] E0 (aZ K ρ "looking") aG) (fP a "word" b [] E0 (aZ K ρ "looking") aG))) eA)
   (aN (cZ ((Zl8 (bJ (bu (qw) (bu a9 (aZ K ρ "tells") τ) ς)) (bJ (bu (rNe) ac (tC (.str "last")))))) (bw (aR c [] E0 (aj ac bf))) bR)
   (bw (aR f [] E0 (aj ac bf)))))
def kW:TS:=
 (bw (eU (aj da (aj db (aj (cP (aj (tC (.str "put")) (aj ς (aj ς (aj ς (aj τ aG)))))) (aj (cP (aj (tC (.str "drop")) (aj ς (aj τ aG)))) (aj (cP (aj bq (aj (tIf (bJ (bu (qw) ρ (tC (.str "each")))) ar τ) aG))) (aj (cP (aj (tC (.str "get")) (aj ς (aj τ (aj ς (aj ς aG)))))) (aj (cP (aj (tC (.str "put")) (aj ς (aj ς (aj ς (aj ar aG)))))) (aj (cP (aj bq (aj (tIf (bJ (bu (qw) ρ (tC (.str "each")))) (bu Δ χ τ) ar) aG))) aG))))))))))
def kY:TS:=
 (bw (eU (aj db (aj (cP (aj bq (aj τ aG))) (aj da (aj (cP (aj (tC (.str "put")) (aj ς (aj ς (aj ς (aj τ aG)))))) (aj (cP (aj (tC (.str "drop")) (aj ς (aj τ aG)))) (aj (cP (aj bq (aj (tIf (bJ (bu (qw) ρ (tC (.str "each")))) (bu Δ χ τ) τ) aG))) aG))))))))
def FN(K:aD):TS:=
 (aN (cZ (bJ (bu a5 χ (oU (G.gD K) a7))) (bw (bu (jf K) ρ χ)) bR)
   (bw ς))
def FJ:TS:=
 (aN (bC (bu Δ (bu ο ρ χ) (tC (.int 11))) ee)
   (bw (bu ο (bu ο (bu bb (bu ο (bu bb dE dE) χ) (tC (.int 16807))) χ) ac)))
def Aq(K:aD):TS:=
 (aN (bC (tC (.str "abcdefghijklmnopqrstuvwxyz")) (aO 1))
   (aN (bC eS eA)
   (aN (rT (M6 (aj (bu Δ τ (bu ο ρ (tC (.int 5)))) aG)) ee
   (aN (bC (bu (Zo0) χ (bu ο (bu Δ (bu af ρ (tC (.int 5))) (bu bb (tC (.int 5)) dE)) (tC (.int 26)))) (aO 4))
   (aN (bC (bu (G.Zdq) (bu (G.Zdq) (tSl (G.Zli) (tC (.str "loom")) pZ (vB (bu ο (bu af ρ (tC (.int 7))) (tC (.int 5))))) cw) (tSl (G.Zli) (tC (.str "fernway")) pZ (vB (bu ο (bu af ρ (tC (.int 11))) (tC (.int 8)))))) (aO 5))
   (iW (tBM K "list" uG ac (aj (cP (aj (ak 5) (aj (bu Δ am (bu bb (bu ο (bu Δ (bu af ρ am) (bu bb (bu bb ar dE) dE)) (tC (.int 7))) (bu ο (bu af ρ (tC (.int 17))) ar))) aG))) aG))))))
   (bw ac))))
def Fx:TS:=
 (aN (cZ (bJ (bu (qw) (bu ο ρ am) ς)) (bw (bu Δ (tC (.int 4)) (bu ο (bu af ρ am) (tC (.int 60))))) bR)
   (aN (cZ (bJ (bu (qw) (bu ο ρ am) τ)) (bw (bu dS (bu c8 (tC (.int 10)) (tC (.int 15))) (bu ο (bu af ρ am) (bu c8 (tC (.int 10)) (tC (.int 12)))))) bR)
   (bw (bu Δ (tC (.int 4)) (bu ο (bu ο (bu bb ρ (tC (.int 48271))) (tC (.int 1000000000000037))) (bu dS (bu c8 (tC (.int 10)) (tC (.int 15))) am))))))
def Fv:TS:=
 (aN (cZ (bJ (bu (qw) (bu ο ρ (tC (.int 5))) ς)) (bw (bu ο (bu af ρ (tC (.int 5))) χ)) bR)
   (bw (bu ο (bu af ρ (tC (.int 5))) am)))
def Fq:TS:=
 (aN (bC (tC (.str "abcdefghijklmnopqrstuvwxyz")) eA)
   (aN (bC (bu (Zo0) ac (bu ο (bu Δ (bu af ρ am) (bu bb (tC (.int 7)) χ)) (tC (.int 26)))) ee)
   (bw (bu (G.Zdq) (bu (G.Zdq) (tSl (G.Zli) (tC (.str "knot")) pZ (vB (bu ο ρ (tC (.int 5))))) dE) (tSl (G.Zli) (tC (.str "ted")) pZ (vB (bu ο (bu af ρ (tC (.int 5))) (tC (.int 4)))))))))
def Fy(K:aD)(a:Sp):TS:=
 (aN (bC (bu (jf K) (eU (aj τ (aj τ (aj τ (aj ar (aj ar (aj ar (aj ar (aj am (aj ς (aj (tC (.int 8)) aG))))))))))) (aR a [] E0 (aj ρ (aj (tC (.int 998717)) (aj (tC (.int 10)) aG))))) ee)
   (aN (bC (bu ο ρ am) (aO 4))
   (aN (cZ (bJ (bu (qw) (aR a [] E0 (aj ρ (aj (tC (.int 998749)) (aj (tC (.int 8)) aG)))) τ)) (bC (bu ο ρ (bu Δ (bu c8 (tC (.int 10)) (tC (.int 12))) τ)) (aO 4)) bR)
   (bw (cP (aj (tC (.str "make")) (aj χ (aj ac (aj dE (aj cw aG))))))))))
def Am(a:Sp):TS:=
 (aN (bC (aR a [] E0 (aj ρ (aj (tC (.int 998759)) (aj (tC (.int 1000)) aG)))) eA)
   (aN (cZ (bJ (bu (qw) (bu ο ac ar) ς)) (bw (cP (aj bq (aj (bu Δ τ (bu ο (bu af ac ar) (tC (.int 4)))) aG)))) bR)
   (bw (cP (aj bq (aj (bu Δ τ (bu ο (bu af ac ar) χ)) aG))))))
def Ao(K:aD)(a c b:Sp):TS:=
 (aN (bC (bu ο ρ (tC (.int 16))) (aO 5))
   (aN (bC (aR b [] E0 (aj cw (aj (aR a [] E0 (aj ρ (aj (tC (.int 998779)) (aj am aG)))) aG))) (aO 6))
   (aN (cZ (bJ (bu (qw) (ak 5) (tC (.int 9)))) (aN (bC (aR a [] E0 (aj ρ (aj (tC (.int 998813)) (aj (oU (G.gD K) aT) aG)))) (aO 7))
   (aN (bC (bu cv (bu (jf K) dE (ak 7)) τ) (aO 8))
   (bw (cP (aj (tC (.str "give")) (aj χ (aj ac (aj (ak 7) (aj (aR c [] E0 (aj (aR a [] E0 (aj ρ (aj (tC (.int 998819)) (aj (tC (.int 5000)) aG)))) (aj (ak 8) aG))) aG))))))))) bR)
   (aN (cZ (bJ (bu (qw) (ak 5) (tC (.int 10)))) (bw (cP (aj (tC (.str "name")) (aj χ (aj ac (aj (ak 6) aG)))))) bR)
   (aN (cZ (bJ (bu (qw) (ak 5) (tC (.int 11)))) (bw (cP (aj (tC (.str "seek")) (aj χ (aj ac (aj (ak 6) aG)))))) bR)
   (aN (cZ (bJ (bu (qw) (bu ο (bu af ρ (tC (.int 16))) am) ς)) (bw (cP (aj (tC (.str "read")) (aj χ cy)))) bR)
   (aN (cZ (bJ (bu (qw) (bu ο (bu af ρ (tC (.int 16))) am) τ)) (bw (cP (aj (tC (.str "write")) (aj χ (aj ac (aj (bu ο ρ (bu c8 (tC (.int 10)) (tC (.int 60)))) aG)))))) bR)
   (bw (cP (aj (tC (.str "write")) (aj χ (aj ac (aj (tUn (rU λi=>.int (-i)) (bu ο (bu bb ρ (tC (.int 48271))) (bu c8 (tC (.int 10)) (tC (.int 60))))) aG)))))))))))))
def Lf(K:aD)(a d e b c:Sp):TS:=
 (aN (bC (aR a [] E0 (aj ρ (aj (tC (.int 999983)) (aj (oU (G.gD K) bf) aG)))) (aO 4))
   (aN (bC (aR b [] E0 (aj (aR a [] E0 (aj ρ (aj (tC (.int 1000003)) (aj (tC (.int 5000)) aG)))) (aj (bu cv (bu (jf K) χ cw) τ) aG))) (aO 5))
   (aN (bC (aR b [] E0 (aj (aR a [] E0 (aj ρ (aj (tC (.int 1000033)) (aj (tC (.int 5000)) aG)))) (aj (bu cv (bu (jf K) χ cw) τ) aG))) (aO 6))
   (aN (bC (aR a [] E0 (aj ρ (aj (tC (.int 1000037)) (aj am aG)))) (aO 7))
   (aN (bC (bu ο ρ (tC (.int 16))) (aO 8))
   (aN (cZ (bJ (bu a5 (ak 8) am)) (bw (aR d [] E0 (aj ρ (aj cw (aj (ak 5) aG))))) bR)
   (aN (cZ (bJ (bu a5 (ak 8) (tC (.int 5)))) (bw (cP (aj (tC (.str "get")) (aj cw (aj (ak 5) (aj (ak 6) (aj (ak 7) aG))))))) bR)
   (aN (cZ (bJ (bu a5 (ak 8) (tC (.int 7)))) (bw (cP (aj (tC (.str "put")) (aj cw (aj (ak 5) (aj (ak 7) (aj (ak 6) aG))))))) bR)
   (aN (cZ (bJ (bu (qw) (ak 8) (tC (.int 7)))) (bw (cP (aj (tC (.str "drop")) (aj cw (aj (ak 5) aG))))) bR)
   (aN (cZ (bJ (bu (qw) (ak 8) (tC (.int 8)))) (bw (cP (aj (tC (.str "copy")) (aj cw (aj (ak 5) (aj (ak 6) aG)))))) bR)
   (aN (cZ (bJ (bu eu (ak 8) (tC (.int 12)))) (bw (aR c [] E0 (aj ρ aT))) bR)
   (bw (aR e [] E0 (aj ρ (aj cw (aj (ak 5) (aj χ cy)))))))))))))))))
def Fw(K:aD)(a:Sp):TS:=
 (aN (bC eS (aO 4))
   (aN (rT (G.BR K a7) (Zbz K 2 (m5 (aO 5) (m5 (aO 6) Zc0)))
   (iW (tBM K "list" uG cw (aj (aR a [] E0 (aj (bu Δ (ak 6) (bu bb (bu bb (tC (.int 10007)) (ak 5)) (ak 5))) (aj χ (aj ac aT)))) aG))))
   (bw cw)))
def Fz(d e a c:AI)(b:Sp):TS:=
 (aN (bC (bu ο (bu af ρ am) (tC (.int 4))) (aO 1))
   (aN (cZ (bJ (bu (qw) (bu ο ρ am) ς)) (bw (rR a b [] E0 (aj (G.Jp e) bf))) bR)
   (aN (cZ (bJ (bu (qw) (bu ο ρ am) τ)) (bw (rR a b [] E0 (aj (G.Jp d) bf))) bR)
   (bw (rR a b [] E0 (aj (G.Jp c) bf))))))
def rF:TS:=
 (bw ((Xx (oU (G.Zc8) (aj ρ (aj (tC (.ty "int")) aG))) (Zj8 (oU (G.Zc8) (aj ρ (aj (tC (.ty "bool")) aG)))))))
def An(K:aD):TS:=
 (aN (bC (bu (jf K) (eU (aj τ (aj am (aj ar aG)))) (bu ο ρ am)) (aO 1))
   (bw (bu (qw) (bu a9 (bu ο (bu af ρ am) (tC (.int 4))) χ) χ)))
def nJ(K:aD)(e b d f c h:AI)(i:Sp)(g:AJ->AJ->Option Bool):TS:=
 (aN (bC cq (aO 1))
   (aN (G.Zgj (λa=>a=Value.ref e\/a=Value.ref b\/a=Value.ref d\/a=Value.ref f\/a=Value.ref c) 2 (λEx=>(iW (G.ZP i [] Ex a7))) (aN (bC (oU (G.Zqx [e,b,d,f,c] g) (aj ac (aj (cP (aj (tC (.ref e)) (aj (tC (.ref b)) (aj (tC (.ref d)) (aj (tC (.ref f)) (aj (tC (.ref h)) aG)))))) aG))) ee)
   (bC (eU (aj (oU (G.Zqy [e,b,d,f,c] g) (aj ac (aj (tC (.ref c)) aG))) (aj (oU (G.Zqy [e,b,d,f,c] g) (aj ac (aj (tC (.ty "ValueError")) aG))) aT))) (aO 1))))
   (bw (bu (G.Zru K false) χ (eU (aj (tC (.bl true)) (aj (tC (.bl true)) (aj (tC (.bl false)) aG))))))))
def rG(K:aD)(a:Sp):TS:=
 (aN (cZ ((U9 (zQ (tB (oU (G.Zc8) (aj ρ (aj (tC (.ty "tuple")) aG))))) (U9 (bJ (bu a5 (oU (G.gD K) a7) ar)) (zQ (tB (oU (G.Zc8) (aj (bu cv ρ ς) (aj (tC (.ty "str")) aG)))))))) dr bR)
   (aN (rT (Zwv K (tSl (Zxx K) ρ (vB τ) pZ)) (aO 1)
   (cZ (zQ (tB (aR a [] E0 bf))) dr bR))
   (bw (tC (.bl true)))))
def vU(K:aD)(a:Sp):TS:=
 (aN (cZ ((U9 (bJ (bu (rNe) (bu cv χ ς) bq)) (U9 (bJ (bu (rNe) (oU (G.gD K) bf) ar)) (bJ (bu a5 eM τ))))) dr bR)
   (aN (rT (M6 (aj eM aG)) eA
   (aN (cZ ((Zl8 (bJ (bu eu ac ς)) (bJ (bu (rIn K false) eg (cP (aj (tC (.str "rest")) (aj dL aG))))))) dr bR)
   (iW dQ)))
   (bw (bu (rIn K false) eg (cP (aj (tC (.str "rest")) (aj dL aG)))))))
def Ft:TS:=
 (aN (bC (eU (aj (cP (aj (tC (.str "put")) (aj ς (aj ς (aj ς (aj τ aG)))))) (aj (cP (aj (tC (.str "drop")) (aj ς (aj τ aG)))) aG))) eA)
   (aN (cZ ((U9 (bJ (bu (qw) (bu ο ρ am) ar)) (bJ (bu (qw) (bu ο (bu af ρ am) ar) τ)))) (aN (bC τ ee)
   (aN (cZ (bJ (bu (qw) (bu ο ρ am) τ)) (bC (bu Δ χ τ) ee) bR)
   (bw (bu (Ow) (bu (Ow) (eU (aj db (aj (cP (aj bq (aj τ aG))) (aj da aG)))) ac) (eU (aj (cP (aj bq aT)) aG)))))) bR)
   (aN (bC ar ee)
   (aN (cZ (bJ (bu (qw) (bu ο ρ am) τ)) (bC (bu Δ χ τ) ee) bR)
   (aN (bC (eU (aj da (aj db aG))) (aO 4))
   (aN (bC (eU (aj (cP (aj bq (aj (bu Δ τ (bu ο ρ am)) aG))) (aj (cP (aj (tC (.str "get")) (aj ς (aj τ (aj ς (aj ς aG)))))) (aj (cP (aj (tC (.str "put")) (aj ς (aj ς (aj ς (aj ar aG)))))) aG)))) (aO 5))
   (bw (bu (Ow) (bu (Ow) (bu (Ow) cw ac) (ak 5)) (eU (aj (cP (aj bq aT)) aG))))))))))
def pA(K:aD)(a b c:Sp):TS:=
 (aN (bC ς ee)
   (aN (cZ (bJ (bu (rNe) eg (tC (.str "rest")))) (aN (cZ ((U9 (bJ (bu (G.Zru K false) χ eS)) (zQ (tB (aR a [] E0 (aj ρ (aj (bu (jf K) χ ς) aG))))))) dr bR)
   (bC τ ee)) bR)
   (aN (cZ (bJ (bu (qw) eg dL)) (bw (bu (qw) (oU (G.gD K) bf) τ)) bR)
   (aN (bC eS (aO 4))
   (aN (rT (G.BR K (aj (aR b [] E0 a7) aG)) (Zbz K 2 (m5 (aO 5) (m5 (aO 6) Zc0)))
   (bC ei (aO 4)))
   (aN (cZ (bJ (bu (G.Zh6 K true) (tSl (Zrt K) χ (vB dE) (vB (bu Δ dE (oU (G.gD K) (aj cw aG))))) cw)) dr bR)
   (aN (rT (pM K cw) (aO 7)
   (iW (aR c [] E0 (aj ρ (aj (ak 7) aG)))))
   (aN (bC (bu Δ dE (oU (G.gD K) (aj cw aG))) ee)
   (aN (cZ ((U9 (bJ (bu (iB λi j=>.bl (decide (j<=i))) dE (oU (G.gD K) bf))) (zQ (tB (aR a [] E0 (aj ρ (aj (bu (jf K) χ dE) aG))))))) dr bR)
   (bw ((Xx (bu (qw) eg (tC (.str "rest"))) (bu (G.Zh6 K false) (tSl (Zrt K) χ (vB (bu Δ dE τ)) pZ) ac)))))))))))))
def Zh5(K:aD)(n:AI)(k i a m o g c d f b l j h e:Sp):TS:=
 (aN (bC (aR a [] E0 (aj ρ (aj ς aG))) (aO 1))
   (aN (bC (aR m [] E0 (aj (aR a [] E0 (aj ρ (aj τ aG))) aG)) eA)
   (aN (bC (aR d [] E0 (aj (tSl (Zrt K) ρ (vB am) (vB (tC (.int 53)))) (aj ac (aj (aR a [] E0 (aj ρ (aj ar aG))) (aj (tC (.int 18)) aG))))) ee)
   (aN (bC (rR n k [] E0 (aj (aR c [] E0 (aj (aR a [] E0 (aj ρ (aj ar aG))) aG)) (aj (aR o [] E0 bf) (aj (oU (G.yN K) cy) (aj (oU (G.yN K) aT) aG))))) (aO 4))
   (aN (cZ (tB (aR f [] E0 bf)) (bw (aR g [] E0 (aj cw aG))) bR)
   (aN (bC (aR h [] E0 (aj cw aG)) (aO 5))
   (aN (cZ ((U9 (zQ (tB (oU (G.Zc8) (aj (ak 5) (aj (tC (.ty "list")) aG))))) (U9 (bJ (bu (G.Zh6 K true) (aZ K cw "rows") dE)) (bJ (bu (G.Zh6 K true) (aZ K cw "hands") ac))))) dr bR)
   (aN (rT (pM K (ak 5)) (aO 6)
   (cZ (zQ (tB (aR i [] E0 (aj (ak 6) aG)))) dr bR))
   (aN (bC (aR e [] E0 (aj cw aG)) (aO 7))
   (aN (rT (pM K dE) (aO 6)
   (aN (iW (aR j [] E0 (aj (ak 7) (aj (ak 6) aG))))
   (cZ (bJ (bu (qw) (aZ K (aZ K (ak 7) "sweeper") "phase") dL)) (bw (bu (G.Zh6 K false) (ak 5) eS)) bR)))
   (bw (aR l [] E0 (aj (ak 7) (aj (ak 5) (aj (aR b [] E0 (aj χ (aj (oU (G.gD K) cy) aG))) aG)))))))))))))))
structure TxC(K:aD)(cj bW:AI):Prop where
 dJ:Pq K cj
 eE:cJ K cj "birth"
 qN:cJ K cj "bulk"
 mV:cJ K cj "tone"
 jQ:cJ K cj "load"
 gj:cJ K cj "fields"
 cX:Pq K bW
 qM:cJ K bW "room"
 bZ:cJ K bW "cells"
 iD:cJ K bW "used"
 mU:cJ K bW "born"
 PX:EqD K cj
structure zy(CC:AI)(H:Hp)(p fa:AI)(birth bulk tone load:Int)(fl:List V):Prop where
 o:∃dx,H p=some (.ins CC dx b7)
 f:H fa=some (.lst fl)
theorem zy.same{a:AI}{H H':Hp}{p fa:AI}{birth bulk tone load:Int}{fl:List V}(h:zy a H p fa birth bulk tone load fl)(s:bA H H'):zy a H' p fa birth bulk tone load fl:=by
 obtain⟨⟨b,h1⟩,h2⟩:=h;exact⟨⟨b,s _ _ h1⟩,s _ _ h2⟩
structure HpO(CH:AI)(H:Hp)(hp ca:AI)(room used born:Int)(cs:List V):Prop where
 o:∃dx,H hp=some (.ins CH dx ck)
 c:H ca=some (.lst cs)
theorem Uj{a b c d e f g:Int}{x y:AI}:jr a b c d x≠iG e y f g:=λz=>by
 have:=congrArg List.length z;cases this
inductive za(CC:AI)(p:AI)(birth:Int)(many:Int)(bulk:Int)(tone:Int)(H:Hp)(Q:VK):Prop
 | mk (dx) (_:H p=some (.ins CC dx [])) (_:0<=many) (_:many<=1000) (_:∀fa H',H fa=none->H' p=some (.ins CC dx (jr birth bulk tone 0 fa))->H' fa=some (.lst (List.replicate many.toNat V.non))->(∀b o,H b=some o->b≠p->H' b=some o)->Q .non H'):za CC p birth many bulk tone H Q
def N5(b:AI):Sp:=λvs H Q E=>∃p birth a bulk tone,vs=[.ref p,.int birth,.int a,.int bulk,.int tone]/\za b p birth a bulk tone H Q
def vz(a:AI):Sp:=λvs H Q E=>∃p,vs=[.ref p]/\∃fa birth bulk tone load fl,zy a H p fa birth bulk tone load fl/\Q (.int (1+fl.length+bulk)) H
def NQ(a:AI):Sp:=λvs H Q E=>∃p room,vs=[.ref p,.int room]/\∃dx,H p=some (.ins a dx [])/\
 ∀ca H',H ca=none->H' p=some (.ins a dx (iG room ca 0 0))->H' ca=some (.lst [])->(∀b o,H b=some o->b≠p->H' b=some o)->Q .non H'
def NT(a:AI):Sp:=λvs H Q E=>∃hp,vs=[.ref hp]/\∃ca room used born cs,HpO a H hp ca room used born cs/\Q (.int (room - used)) H
def plc(cs:List V):AE:=((List.range cs.length).filter λi=>!decide (cs[i]? =some V.non)).map λ(i:Nat)=>(i:Int)
inductive vh(CH:AI)(hp:AI)(H:Hp)(Q:VK):Prop
 | mk (ca room used born cs) (_:HpO CH H hp ca room used born cs) (_:cs.length<=1000) (_:∀l,H l=none->Q (.ref l) (upd H l (.lst ((plc cs).map V.int)))):vh CH hp H Q
def vq(a:AI):Sp:=λvs H Q E=>∃hp,vs=[.ref hp]/\vh a hp H Q
def putN(cs:List V)(v:V):List V:=if V.non∈cs then cs.set (cs.idxOf V.non) v else cs++[v]
inductive Dm(K:aD)(CH:AI)(hp:AI)(v:V)(H:Hp)(Q:VK):Prop
 | mk (ca room used born cs) (_:HpO CH H hp ca room used born cs) (_:OkN K H cs) (_:cs.length<=1000) (_:Q (.int (cs.idxOf V.non)) (upd H ca (.lst (putN cs v)))):Dm K CH hp v H Q
def U4(K:aD)(a:AI):Sp:=λvs H Q E=>∃hp v,vs=[.ref hp,v]/\Dm K a hp v H Q
inductive yX(CC:AI)(CH:AI)(hp:AI)(i:Int)(H:Hp)(Q:VK):Prop
 | mk (ca dx room used born cs p fa birth bulk tone load fl) (_:0<=i) (_:H hp=some (.ins CH dx (iG room ca used born))) (_:H ca=some (.lst cs)) (_:cs[i.toNat]? =↑p) (_:zy CC H p fa birth bulk tone load fl) (_:Q (.int birth) (upd (upd H hp (.ins CH dx (iG room ca (used - (1+fl.length+bulk)) born))) ca (.lst (cs.set i.toNat V.non)))):yX CC CH hp i H Q
def zm(b a:AI):Sp:=λvs H Q E=>∃hp i,vs=[.ref hp,.int i]/\yX b a hp i H Q
inductive yW(K:aD)(CC:AI)(CH:AI)(CF:AI)(hp:AI)(many:Int)(bulk:Int)(tone:Int)(H:Hp)(Q:VK)(E:XK):Prop
 | mk (ca dx room used born cs) (_:H hp=some (.ins CH dx (iG room ca used born))) (_:H ca=some (.lst cs)) (_:OkN K H cs) (_:cs.length<=1000) (_:0<=many) (_:many<=1000) (_:(room - used<1+many+bulk->∀H',bA H H'->E (.ref CF) none H')) (_:(1+many+bulk<=room - used->∀p fa H',H p=none->H fa=none->Fm [hp,ca] H H'->H' hp=some (.ins CH dx (iG room ca (used+(1+many+bulk)) (born+1)))->H' ca=some (.lst (putN cs (.ref p)))->
  zy CC H' p fa (born+1) bulk tone 0 (List.replicate many.toNat V.non)->Q (.int (cs.idxOf V.non)) H')):yW K CC CH CF hp many bulk tone H Q E
def NP(K:aD)(c b d:AI):Sp:=λvs H Q E=>∃hp a bulk tone,vs=[.ref hp,.int a,.int bulk,.int tone]/\yW K c b d hp a bulk tone H Q E
section
variable {K:aD}{cj bW bY:AI}{H:Hp}{Q:VK}{E:XK}{n:ν}{bk ct:ν}
theorem Xb{p:AI}(T:TxC K cj bW)(q:∃fa birth bulk tone load fl,zy cj H p fa birth bulk tone load fl/\Q (.int (1+fl.length+bulk)) H):Bc K ξ [↑p] H:=by
 obtain⟨fa,birth,bulk,tone,load,fl,⟨⟨a,h1⟩,h2⟩,h⟩:=q;unfold Bc;apply aH h1 T.dJ T.gj iT ?_;apply eV (cA.of h2) ?_;apply aH h1 T.dJ T.qN WM ?_;apply h
theorem Kr{p:AI}{birth a bulk tone:Int}(T:TxC K cj bW)(q:za cj p birth a bulk tone H Q):
  sY K ⟨λ_ H'=>Q .non H',Q,bk,ct⟩ [↑p,some (.int birth),some (.int a),some (.int bulk),some (.int tone)] H:=by
 obtain⟨f,hp,h0,h1,h⟩:=q;unfold sY;exists p,cj,f,[],rfl,hp,T.dJ,T.eE,ε;apply⟨p,cj,f,_,rfl,ao,T.dJ,T.qN,by show 1<1000;decide,?_⟩;rw[dg];apply⟨p,cj,f,_,rfl,ao,T.dJ,T.mV,by show 2<1000;decide,?_⟩;rw[dg];apply⟨p,cj,f,_,rfl,ao,T.dJ,T.jQ,by show 3<1000;decide,?_⟩;rw[dg];apply⟨ε,λn i=>?_⟩;apply⟨n,a,_,rfl,rfl,ao,δ,δ,?_,λj d=>?_⟩
 ·show 1 * a.toNat<=sizeLine;exact bD δ
 have g:p≠n:=aF ao i;have c:p≠j:=aF ((aB g).trans ao) d;apply⟨p,cj,f,_,rfl,(aB c).trans ((aB g).trans ao),T.dJ,T.gj,by show 4<1000;decide,?_⟩;have r:H j=none:=by
  have e:=d;have n1:j≠n:=λz=>by rw[z,ao]at e;cases e
  rw[aB n1,aB c.symm]at e;exact e
 refine h j _ r (ao.trans (congrArg (λl=>some (HO.ins cj f l)) Zqu)) ?_ λb o hb m=>?_
 ·rw[aB c.symm,ao];have e:(List.replicate a.toNat [V.non]).flatten=List.replicate a.toNat V.non:=by
   generalize a.toNat=k
   induction k with
   | zero=>rfl
   | succ k ih=>rw[List.replicate_succ,List.replicate_succ,List.flatten_cons,ih];rfl
  rw[e]
 ·have s:upd H p (HO.ins cj f (bM "load" (V.int 0) (bM "tone" (V.int tone) (bM "bulk" (V.int bulk) (bM "birth" (V.int birth) []))))) b=some o:=(aB m).trans hb;have n1:b≠n:=aF s i;have n2:b≠j:=aF ((aB n1).trans s) d;rw[aB m,aB n2,aB n1];exact s
theorem Kp{p:AI}{room:Int}(T:TxC K cj bW)(q:∃dx,H p=some (.ins bW dx [])/\
 ∀ca H',H ca=none->H' p=some (.ins bW dx (iG room ca 0 0))->H' ca=some (.lst [])->(∀b o,H b=some o->b≠p->H' b=some o)->Q .non H'):
  sW K ⟨λ_ H'=>Q .non H',Q,bk,ct⟩ [↑p,some (.int room)] H:=by
 obtain⟨dx,hp,h⟩:=q;unfold sW;exists p,bW,dx,[],rfl,hp,T.cX,T.qM,ε;apply⟨ε,λca a=>?_⟩;ext;have c:p≠ca:=aF ao a;refine⟨p,bW,dx,_,rfl,(aB c).trans ao,T.cX,T.bZ,by show 1<1000;decide,?_⟩;apply⟨p,bW,dx,_,rfl,ao,T.cX,T.iD,by show 2<1000;decide,?_⟩;rw[dg];apply⟨p,bW,dx,_,rfl,ao,T.cX,T.mU,by show 3<1000;decide,?_⟩;rw[dg];have f:H ca=none:=by
  have e:=a;rw[aB c.symm]at e;exact e
 refine h ca _ f (ao.trans (congrArg (λl=>some (HO.ins bW dx l)) Zpy)) ?_ λb o hb d=>?_
 ·rw[aB c.symm,ao]
 ·rw[aB d,aB (aF ((aB d).trans hb) a),aB d];exact hb
theorem Zcy{hp:AI}(T:TxC K cj bW)(q:∃ca room used born cs,HpO bW H hp ca room used born cs/\Q (.int (room - used)) H):FW K ξ [↑hp] H:=by
 obtain⟨ca,room,used,born,cs,⟨⟨a,h1⟩,h2⟩,h⟩:=q;unfold FW;apply aH h1 T.cX T.qM Wy ?_;apply aH h1 T.cX T.iD rO ?_;apply h
theorem W8{hp:AI}(T:TxC K cj bW)(q:vh bW hp H Q):rH K ξ [↑hp] H:=by
 obtain⟨ca,room,used,born,cs,⟨⟨b,h1⟩,h2⟩,hl,h⟩:=q;unfold rH;apply YT ?_;apply aH h1 T.cX T.bZ bU ?_;apply eV (cA.of h2) ?_;exists _,rfl,δ,δ;refine Zph (n:=cs.length) δ (p:=λi=>!decide (cs[i]? =some V.non)) (f:=λi=>.int i) δ ?_ ?_ ?_
 ·intro i a k hk;walk_at"c";apply aH h1 T.cX T.bZ bU ?_;apply gQ (cA.of h2) (fW (bG a)) ?_;apply Zhu ?_;rw[bG a]at hk;ext;simpa using hk
 ·intro i a _ k hk;walk_at"c";apply hk
 ·have e:((plc cs).map V.int)=((List.range cs.length).filter λi=>!decide (cs[i]? =some V.non)).map λ(i:Nat)=>V.int i:=by
   unfold plc;rw[List.map_map];rfl
  rw[<- e];exact h
theorem Zg9{hp:AI}{v:V}(T:TxC K cj bW)(q:Dm K bW hp v H Q):Lg K ξ [↑hp,some v,none] H:=by
 obtain⟨ca,room,used,born,cs,⟨⟨f,h1⟩,h2⟩,c,hl,h⟩:=q;unfold Lg;apply aH h1 T.cX T.bZ bU ?_;apply Zpp (cA.of h2) c ?_;apply Wu (λhn=>?_) (λhn=>?_)
 ·apply aH h1 T.cX T.bZ bU ?_;refine⟨.inl ⟨rfl,_,cA.of h2⟩,?_⟩;exists ca,cs,v,rfl,rfl,h2,Nat.lt_of_le_of_lt hl ε;ext;have b:hp≠ca:=kE h1 h2 aS;refine aH ((aB b).trans h1) T.cX T.bZ bU ?_;apply eV (cA.of ao) ?_;ext;have d:(((cs++[v]).length:Int) - 1)=(cs.idxOf V.non:Nat):=by
   rw[List.length_append,List.idxOf_eq_length hn];simp
  have a:putN cs v=cs++[v]:=by unfold putN;rw[if_neg hn]
  rw[d,<- a];exact h
 ·apply aH h1 T.cX T.bZ bU ?_;refine⟨.inl ⟨rfl,_,cA.of h2⟩,?_⟩;exists ca,cs,rfl,rfl,cA.of h2,c,hn;apply aH h1 T.cX T.bZ bU ?_;ext;have e:cs.idxOf V.non<cs.length:=List.idxOf_lt_length_iff.mpr hn;refine⟨ca,cs,_,_,rfl,rfl,h2,oN e,?_⟩;have a:putN cs v=cs.set (cs.idxOf V.non) v:=by unfold putN;rw[if_pos hn]
  rw[<- a];apply h
theorem Zcz{hp:AI}{i:Int}(T:TxC K cj bW)(q:yX cj bW hp i H Q):FZ K cj (vz cj) ξ [↑hp,some (.int i),none] H:=by
 obtain⟨ca,dx,room,used,born,cs,p,f,birth,bulk,tone,load,fl,h0,h1,h2,e,co,h⟩:=q;obtain⟨⟨dp,b⟩,g⟩:=id co;unfold FZ;apply aH h1 T.cX T.bZ bU ?_;apply gQ (cA.of h2) (je h0 e) ?_;apply aH h1 T.cX T.iD rO ?_;exists p,dp,_,rfl,b,pP;exists p,rfl,f,birth,bulk,tone,load,fl,co;apply⟨hp,bW,dx,_,rfl,h1,T.cX,T.iD,by show 4<1000;decide,?_⟩;rw[yE];have d:hp≠ca:=kE h1 h2 aS;apply aH ao T.cX T.bZ bU ?_;ext;have c:i.toNat<cs.length:=(cL e).1;refine⟨ca,cs,_,_,rfl,rfl,(aB d.symm).trans h2,Zsr h0 c,?_⟩;apply aH (C:=cj) (a:=p) (dx:=dp) (fs:=jr birth bulk tone load f) ?_ T.dJ T.eE fK ?_
 ·have n1:p≠ca:=kE b h2 aS;have n2:p≠hp:=kE b h1 (λz=>by injection z with _ _ z;exact Uj z);rw[aB n1,aB n2];exact b
 exact h
theorem Zcx{hp:AI}{c bulk tone:Int}(T:TxC K cj bW)(q:yW K cj bW bY hp c bulk tone H Q E):
  FQ K cj bY bW (N5 cj) (vz cj) (NT bW) (U4 K bW) E ξ [↑hp,some (.int c),some (.int bulk),some (.int tone),none] H:=by
 obtain⟨ca,i,room,used,born,cs,h1,h2,F,hl,B,D,N,M⟩:=q;have k:hp≠ca:=kE h1 h2 aS;unfold FQ;apply aH h1 T.cX T.mU Wz ?_;ext;intro p dp j r I;refine⟨p,_,c,_,_,rfl,dp,ao,B,D,λf s l h m J=>⟨rfl,?_⟩⟩;have g:H f=none:=by
  have e:=l
  by_cases v:f=p
  ·rw[v,ao]at e;cases e
  ·rw[aB v]at e
   by_cases t:f=dp
   ·rw[t,ao]at e;cases e
   ·rw[aB t]at e;exact e
 have sm:bA H s:=λb o hb=>by
  refine J b o ?_ (aF hb j);rw[aB (aF hb j),aB (aF hb r)];exact hb
 have co:zy cj s p f (born+1) bulk tone 0 (List.replicate c.toNat V.non):=⟨⟨dp,h⟩,m⟩;have w:((List.replicate c.toNat V.non).length:Int)=c:=by rw[List.length_replicate];omega
 exists p,dp,_,rfl,h,pP;exists p,rfl,f,_,_,_,_,_,co;exists hp,i,_,rfl,sm _ _ h1,Ww;exists hp,rfl,ca,room,used,born,cs,⟨⟨i,sm _ _ h1⟩,sm _ _ h2⟩;ext;rw[w];refine lR (λx=>?_) (λx=>?_)
 ·apply⟨ε,N x s sm⟩
 ·apply aH h T.dJ T.eE fK ?_;apply⟨hp,bW,i,_,rfl,sm _ _ h1,T.cX,T.mU,by show 4<1000;decide,?_⟩;rw[Tw];apply aH ao T.cX T.iD rO ?_;ext;have n1:p≠hp:=(aF h1 j).symm;have n2:f≠hp:=(aF h1 g).symm;have n3:p≠ca:=(aF h2 j).symm;have n4:f≠ca:=(aF h2 g).symm;refine⟨p,dp,_,rfl,(aB n1).trans h,pP,?_⟩;exists p,rfl,f,_,_,_,_,_,⟨⟨dp,(aB n1).trans h⟩,(aB n2).trans m⟩;ext;rw[w];refine⟨hp,bW,i,_,rfl,ao,T.cX,T.iD,by show 4<1000;decide,?_⟩;rw[yE,dg];exists hp,i,_,rfl,ao,Zbx;exists hp,.ref p,rfl,ca,room,_,_,cs,⟨⟨i,ao⟩,(aB k.symm).trans (sm _ _ h2)⟩,?_,hl
  ·intro y hy;rcases F y hy with e | ⟨a,C,d,fs,e,ha,hc,u⟩
   ·exact .inl e
   ·refine .inr ?_
    by_cases z:a=hp
    ·rw[z]at ha e;rw[h1]at ha;cases ha;exact⟨hp,_,_,_,e,ao,hc,u⟩
    ·exact⟨a,C,d,fs,e,(aB z).trans (sm _ _ ha),hc,u⟩
  ·refine M δ p f _ j g ?_ ((aB k).trans ao) ao ⟨⟨dp,?_⟩,?_⟩
   ·intro b o hb hn;have L:b≠hp:=λz=>hn (by rw[z];exact List.mem_cons_self);have A:b≠ca:=λz=>hn (by rw[z];exact List.mem_cons_of_mem _ List.mem_cons_self);rw[aB A,aB L];exact sm _ _ hb
   ·rw[aB n3,aB n1];exact h
   ·rw[aB n4,aB n2];exact m
end
structure Ce where
 birth:Int
 bulk:Int
 tone:Int
 load:Int
 fl:Au
 deriving DecidableEq
structure Sw where
 sense:Int
 phase:Str
 grey:AE
 looked:Int
 turn:Int
 at':Int
 stop:Int
 walks:Int
 looks:Int
 passes:Int
 loss:V
structure Wm where
 room:Int
 used:Int
 born:Int
 cells:List (Option Ce)
 hands:List (Str×Au)
 names:List cx
 w:Int
 tells:Int
 sw:Sw
structure Wa where
 wo:AI
 hp:AI
 ca:AI
 ki:AI
 lk:AI
 hl:AI
 nm:AI
 sw:AI
 gr:AI
 hs:List (AI×AI)
 cs:List (Option (AI×AI))
 ns:AF
def oV:AA->V
 | none=>.non
 | some i=>.int i
def pV:Option (AI×AI)->V
 | none=>.non
 | some p=>.ref p.1
structure rQ(s:Nat)(t0:Nat->Prop)(H H':Hp)(T T':Tg):Prop where
 kp:∀b o,H b=some o->(T b).1=s->¬ t0 (T b).2->H' b=some o
 tg:∀b o,H b=some o->T' b=T b
section
variable {CHd CC:AI}{H H':Hp}{T T':Tg}{s j i:Nat}{t0:Nat->Prop}
theorem rQ.at{a:AI}{o:HO}{m:Nat}(f:rQ s t0 H H' T T')(b:T a=(s,m))(n:¬ t0 m)(h:H a=some o):H' a=some o:=f.kp a o h (by rw[b]) (by rw[b];exact n)
theorem rQ.tag{a:AI}{o:HO}{x:Nat×Nat}(f:rQ s t0 H H' T T')(h:H a=some o)(b:T a=x):T' a=x:=(f.tg a o h).trans b
theorem rQ.yh{a:AI}{o:HO}{m:Nat}(c:T a=(s,m)):rQ s (·=m) H dz T T:=⟨λb u h e n=>by
  have:b≠a:=λz=>n (by rw[z,c]);rw[aB this];exact h,λ_ _ _=>rfl⟩
theorem rQ.of_same(e:bA H H'):rQ s (λ_=>False) H H' T T:=⟨λb o h _ _=>e b o h,λ_ _ _=>rfl⟩
theorem rQ.Zou{s':Nat}(e:cY s' H H' T T')(n:s≠s'):rQ s (λ_=>False) H H' T T':=⟨λb o h z _=>e.kp b o h (by rw[z];exact n),e.tg⟩
structure HdO(CHd:AI)(H:Hp)(T:Tg)(s j:Nat)(p:AI×AI)(m:Str×Au):Prop where
 t1:T p.1=(s,20+2 * j)
 t2:T p.2=(s,21+2 * j)
 o1:∃dx,H p.1=some (.ins CHd dx (Zk7 m.1 p.2))
 o2:H p.2=some (.lst (m.2.map oV))
theorem HdO.mv{p:AI×AI}{m:Str×Au}(h:HdO CHd H T s j p m)(f:rQ s t0 H H' T T')(n1:¬ t0 (20+2 * j))(n2:¬ t0 (21+2 * j)):HdO CHd H' T' s j p m:=by
 obtain⟨d,c,⟨e,a⟩,b⟩:=h;exact⟨f.tag a d,f.tag b c,⟨e,f.at d n1 a⟩,f.at c n2 b⟩
structure CeO(CC:AI)(H:Hp)(T:Tg)(s i:Nat)(p:AI×AI)(c:Ce):Prop where
 t1:T p.1=(s,100+2 * i)
 t2:T p.2=(s,101+2 * i)
 o1:∃dx,H p.1=some (.ins CC dx (jr c.birth c.bulk c.tone c.load p.2))
 o2:H p.2=some (.lst (c.fl.map oV))
theorem CeO.mv{p:AI×AI}{c:Ce}(h:CeO CC H T s i p c)(f:rQ s t0 H H' T T')(n1:¬ t0 (100+2 * i))(n2:¬ t0 (101+2 * i)):CeO CC H' T' s i p c:=by
 obtain⟨e,d,⟨g,a⟩,b⟩:=h;exact⟨f.tag a e,f.tag b d,⟨g,f.at e n1 a⟩,f.at d n2 b⟩
def CeP(CC:AI)(H:Hp)(T:Tg)(s i:Nat):Option (AI×AI)->Option Ce->Prop
 | none,none=>True
 | some p,some c=>CeO CC H T s i p c
 | _,_=>False
theorem CeP.mv{p:Option (AI×AI)}{c:Option Ce}(h:CeP CC H T s i p c)(f:rQ s t0 H H' T T')(n1:¬ t0 (100+2 * i))(n2:¬ t0 (101+2 * i)):CeP CC H' T' s i p c:=by
 cases p with
 | none=>cases c with
  | none=>trivial
  | some c=>exact h.elim
 | some p=>cases c with
  | none=>exact h.elim
  | some c=>exact CeO.mv h f n1 n2
end
def NmO(H:Hp)(T:Tg)(t:AI)(m:Str×(Int×Int)):Prop:=T t=(0,0)/\H t=some (.tup [.int m.2.1,.int m.2.2])
structure Cs where
 W:AI
 H:AI
 C:AI
 K:AI
 D:AI
 S:AI
 F:AI
 E:AI
 L:AI
structure WB(X:Cs)(H:Hp)(T:Tg)(s:Nat)(A:Wa)(w tells:Int):Prop where
 tw:T A.wo=(s,0)
 tk:T A.ki=(0,0)
 tl:T A.lk=(0,0)
 tn:T A.hl=(s,5)
 ow:∃dx,H A.wo=some (.ins X.W dx (wX A.hp A.ki A.hl A.nm A.sw))
 ok:∃dx,H A.ki=some (.ins X.K dx (S5 A.lk tells))
 ol:∃dx,(w=0/\H A.lk=some (.ins X.F dx []))\/(w=1/\H A.lk=some (.ins X.E dx []))\/(w=2/\H A.lk=some (.ins X.L dx []))
 on:H A.hl=some (.lst (A.hs.map λp=>V.ref p.1))
structure WH(X:Cs)(H:Hp)(T:Tg)(s:Nat)(A:Wa)(room used born:Int):Prop where
 th:T A.hp=(s,1)
 tc:T A.ca=(s,2)
 oh:∃dx,H A.hp=some (.ins X.H dx (iG room A.ca used born))
 oc:H A.ca=some (.lst dy)
def wQ(M:List cx)(ns:AF):List ((Int ⊕ Str)×V):=List.zipWith (λ(m:Str×(Int×Int)) (t:AI)=>(Sum.inr m.1,V.ref t)) M ns
structure WN(H:Hp)(T:Tg)(s:Nat)(A:Wa)(names:List cx):Prop where
 tm:T A.nm=(s,6)
 om:H A.nm=some (.dK (wQ names A.ns))
 nms:Al (NmO H T) A.ns names
structure WS(X:Cs)(H:Hp)(T:Tg)(s:Nat)(A:Wa)(S:Sw):Prop where
 ts:T A.sw=(s,7)
 tg:T A.gr=(s,8)
 os:∃dx,H A.sw=some (.ins X.S dx bt)
 og:H A.gr=some (.lst (S.grey.map V.int))
structure WD(X:Cs)(H:Hp)(T:Tg)(s:Nat)(hs:List (AI×AI))(hands:List (Str×Au)):Prop where
 lh:hs.length=hands.length
 l5:hs.length<=30
 hd:∀(j:Nat) p m,hs[j]? =some p->hands[j]? =some m->HdO X.D H T s j p m
structure WC(X:Cs)(H:Hp)(T:Tg)(s:Nat)(cs:List (Option (AI×AI)))(cells:List (Option Ce)):Prop where
 lc:cs.length=cells.length
 ce:∀(i:Nat) p c,cs[i]? =some p->cells[i]? =some c->CeP X.C H T s i p c
structure WJ(X:Cs)(H:Hp)(T:Tg)(s:Nat)(A:Wa)(M:Wm):Prop where
 jb:WB X H T s A M.w M.tells
 jh:WH X H T s A M.room M.used M.born
 jn:WN H T s A M.names
 js:WS X H T s A M.sw
 jd:WD X H T s A.hs M.hands
 jc:WC X H T s A.cs M.cells
section
variable {X:Cs}{H H':Hp}{T T':Tg}{s:Nat}{t0:Nat->Prop}{A:Wa}{M:Wm}
theorem WB.mv{w tells:Int}(j:WB X H T s A w tells)(f:rQ s t0 H H' T T')(a:∀b o,H b=some o->T b=(0,0)->H' b=some o)(h:¬ t0 0)(n5:¬ t0 5):WB X H' T' s A w tells:=by
 obtain⟨tw,tk,tl,tn,⟨d1,ow⟩,⟨d3,ok⟩,⟨d4,ol⟩,on⟩:=j;have d:∃o,H A.lk=some o:=by
  rcases ol with ⟨_,e⟩ | ⟨_,e⟩ | ⟨_,e⟩
  ·exact⟨_,e⟩
  ·exact⟨_,e⟩
  ·exact⟨_,e⟩
 obtain⟨g,c⟩:=d;refine⟨f.tag ow tw,f.tag ok tk,f.tag c tl,f.tag on tn,⟨d1,f.at tw h ow⟩,⟨d3,a _ _ ok tk⟩,⟨d4,?_⟩,f.at tn n5 on⟩;rcases ol with ⟨z,e⟩ | ⟨z,e⟩ | ⟨z,e⟩
 ·exact .inl ⟨z,a _ _ e tl⟩
 ·exact .inr (.inl ⟨z,a _ _ e tl⟩)
 ·exact .inr (.inr ⟨z,a _ _ e tl⟩)
theorem WH.mv{room used born:Int}(j:WH X H T s A room used born)(f:rQ s t0 H H' T T')(n1:¬ t0 1)(n2:¬ t0 2):WH X H' T' s A room used born:=by
 obtain⟨th,tc,⟨d,oh⟩,oc⟩:=j;exact⟨f.tag oh th,f.tag oc tc,⟨d,f.at th n1 oh⟩,f.at tc n2 oc⟩
theorem WN.mv{names:List cx}(j:WN H T s A names)(f:rQ s t0 H H' T T')(c:∀b o,H b=some o->T b=(0,0)->H' b=some o)(n6:¬ t0 6):WN H' T' s A names:=by
 obtain⟨tm,om,nms⟩:=j;exact⟨f.tag om tm,f.at tm n6 om,nms.mono (by rintro t m ⟨a,z2⟩;exact⟨f.tag z2 a,c _ _ z2 a⟩)⟩
theorem WS.mv{S:Sw}(j:WS X H T s A S)(f:rQ s t0 H H' T T')(n7:¬ t0 7)(n8:¬ t0 8):WS X H' T' s A S:=by
 obtain⟨ts,tg,⟨d,os⟩,og⟩:=j;exact⟨f.tag os ts,f.tag og tg,⟨d,f.at ts n7 os⟩,f.at tg n8 og⟩
theorem WD.mv{hs:List (AI×AI)}{hands:List (Str×Au)}(j:WD X H T s hs hands)(f:rQ s t0 H H' T T')(n:∀k,20<=k->k<100->¬ t0 k):WD X H' T' s hs hands:=by
 obtain⟨lh,l5,hd⟩:=j;refine⟨lh,l5,λj p m a b=>?_⟩;have hl:j<hs.length:=(cL a).1;exact(hd j p m a b).mv f (n _ δ δ) (n _ δ δ)
theorem WC.mv{cs:List (Option (AI×AI))}{cells:List (Option Ce)}(j:WC X H T s cs cells)(f:rQ s t0 H H' T T')(n:∀k,100<=k->¬ t0 k):WC X H' T' s cs cells:=by
 obtain⟨lc,ce⟩:=j;exact⟨lc,λi p c a b=>(ce i p c a b).mv f (n _ δ) (n _ δ)⟩
theorem WJ.mv(j:WJ X H T s A M)(f:rQ s (λ_=>False) H H' T T')(a:∀b o,H b=some o->T b=(0,0)->H' b=some o):WJ X H' T' s A M:=
 ⟨j.jb.mv f a id id,j.jh.mv f id id,j.jn.mv f a id,j.js.mv f id id,j.jd.mv f λ_ _ _=>id,j.jc.mv f λ_ _=>id⟩
theorem WJ.same(j:WJ X H T s A M)(e:bA H H'):WJ X H' T s A M:=j.mv (rQ.of_same e) λb o h _=>e b o h
theorem WJ.other{s':Nat}(j:WJ X H T s A M)(e:cY s' H H' T T')(n:s≠s')(a:s'≠0):WJ X H' T' s A M:=j.mv (rQ.Zou e n) λb o h t=>e.kp b o h (by rw[t];exact λz=>a z.symm)
theorem jO{a:AI}{d:HO}{m:Nat}(h0:s≠0)(c:T a=(s,m)):∀b o,H b=some o->T b=(0,0)->upd H a d b=some o:=λb o e t=>by
 rw[aB (R3 t c eH)];exact e
theorem WJ.slot(j:WJ X H T s A M)(w:WT H T)(h0:s≠0){h k:Nat}{p:AI×AI}{m:Str×Au}{x:AA}(hp:A.hs[h]? =some p)(hm:M.hands[h]? =some m):
  cY s H (upd H p.2 (.lst ((m.2.map oV).set k (oV x)))) T T/\WJ X (upd H p.2 (.lst ((m.2.map oV).set k (oV x)))) T s A { M with hands:=M.hands.set h (m.1,m.2.set k x) }:=by
 have hl:=j.jd.l5;have o:h<A.hs.length:=(cL hp).1;have c:h<M.hands.length:=(cL hm).1;have d:=j.jd.hd h p m hp hm;refine⟨cY.upd w d.o2 (by rw[d.t2]),?_⟩;have f:rQ s (·=21+2 * h) H (upd H p.2 (.lst ((m.2.map oV).set k (oV x)))) T T:=rQ.yh d.t2;have i:upd H p.2 (.lst ((m.2.map oV).set k (oV x))) p.2=some (.lst ((m.2.set k x).map oV)):=by rw[ao,List.map_set]
 refine⟨j.jb.mv f (jO h0 d.t2) δ δ,j.jh.mv f δ δ,j.jn.mv f (jO h0 d.t2) δ,j.js.mv f δ δ,⟨by rw[List.length_set];exact j.jd.lh,hl,λg n l b a=>?_⟩,j.jc.mv f λ_ _=>δ⟩
 by_cases e:g=h
 ·subst e;dsimp only at a;rw[List.getElem?_set_self c]at a;rw[hp]at b;cases b;cases a;obtain⟨dd,o1⟩:=d.o1;exact⟨d.t1,d.t2,⟨dd,f.at d.t1 δ o1⟩,i⟩
 ·dsimp only at a;rw[List.getElem?_set_ne (λz=>e z.symm)]at a;exact(j.jd.hd g n l b a).mv f δ δ
theorem WC.at(j:WC X H T s A.cs M.cells){i:Nat}{c:Ce}(h:M.cells[i]? =some (some c)):∃p,A.cs[i]? =some (some p)/\CeO X.C H T s i p c:=by
 have hl:i<A.cs.length:=by rw[j.lc];exact(cL h).1
 have e:=j.ce i _ _ (bG hl) h;cases a:A.cs[i]with
 | none=>rw[a]at e;exact e.elim
 | some g=>rw[a]at e;exact⟨g,by rw[bG hl,a],e⟩
theorem WC.at0(j:WC X H T s A.cs M.cells){i:Nat}(h:M.cells[i]? =some none):A.cs[i]? =some none:=by
 have hl:i<A.cs.length:=by rw[j.lc];exact(cL h).1
 have e:=j.ce i _ _ (bG hl) h;cases a:A.cs[i]with
 | none=>rw[bG hl,a]
 | some g=>rw[a]at e;exact e.elim
theorem WC.chg(j:WC X H T s A.cs M.cells){i:Nat}{p:AI×AI}{c':Ce}(f:rQ s t0 H H' T T')(hp:A.cs[i]? =some (some p))(n:∀k,100<=k->k≠100+2 * i->k≠101+2 * i->¬ t0 k)(e:CeO X.C H' T' s i p c'):
  WC X H' T' s A.cs (M.cells.set i (some c')):=by
 have hl:i<A.cs.length:=(cL hp).1;refine⟨by rw[List.length_set];exact j.lc,λk g c b a=>?_⟩
 by_cases hk:k=i
 ·subst hk;rw[List.getElem?_set_self (by rw[<- j.lc];exact hl)]at a;rw[hp]at b;cases b;cases a;exact e
 ·rw[List.getElem?_set_ne (λz=>hk z.symm)]at a;exact(j.ce k g c b a).mv f (n _ δ δ δ) (n _ δ δ δ)
theorem WJ.field(j:WJ X H T s A M)(w:WT H T)(h0:s≠0){i k:Nat}{p:AI×AI}{c:Ce}{x:AA}(hp:A.cs[i]? =some (some p))(e:CeO X.C H T s i p c):
  cY s H (upd H p.2 (.lst ((c.fl.map oV).set k (oV x)))) T T/\WJ X (upd H p.2 (.lst ((c.fl.map oV).set k (oV x)))) T s A { M with cells:=M.cells.set i (some { c with fl:=c.fl.set k x }) }:=by
 refine⟨cY.upd w e.o2 (by rw[e.t2]),?_⟩;have f:rQ s (·=101+2 * i) H (upd H p.2 (.lst ((c.fl.map oV).set k (oV x)))) T T:=rQ.yh e.t2;have a:upd H p.2 (.lst ((c.fl.map oV).set k (oV x))) p.2=some (.lst ((c.fl.set k x).map oV)):=by rw[ao,List.map_set]
 obtain⟨dd,o1⟩:=e.o1;exact⟨j.jb.mv f (jO h0 e.t2) δ δ,j.jh.mv f δ δ,j.jn.mv f (jO h0 e.t2) δ,j.js.mv f δ δ,j.jd.mv f λ_ _ _=>δ,
  j.jc.chg f hp (λk _ _ n2 z=>n2 z) ⟨e.t1,e.t2,⟨dd,f.at e.t1 δ o1⟩,a⟩⟩
theorem WJ.cell(j:WJ X H T s A M)(w:WT H T)(h0:s≠0){i:Nat}{p:AI×AI}{c:Ce}{dx:AI}{tone load:Int}(hp:A.cs[i]? =some (some p))(e:CeO X.C H T s i p c):
  cY s H (upd H p.1 (.ins X.C dx (jr c.birth c.bulk tone load p.2))) T T/\WJ X (upd H p.1 (.ins X.C dx (jr c.birth c.bulk tone load p.2))) T s A { M with cells:=M.cells.set i (some { c with tone:=tone,load:=load }) }:=by
 obtain⟨dd,o1⟩:=e.o1;refine⟨cY.upd w o1 (by rw[e.t1]),?_⟩;have f:rQ s (·=100+2 * i) H (upd H p.1 (.ins X.C dx (jr c.birth c.bulk tone load p.2))) T T:=rQ.yh e.t1;exact⟨j.jb.mv f (jO h0 e.t1) δ δ,j.jh.mv f δ δ,j.jn.mv f (jO h0 e.t1) δ,j.js.mv f δ δ,j.jd.mv f λ_ _ _=>δ,
  j.jc.chg f hp (λk _ n1 _ z=>n1 z) ⟨e.t1,e.t2,⟨dx,ao⟩,f.at e.t2 δ e.o2⟩⟩
theorem WJ.sweep(j:WJ X H T s A M)(w:WT H T)(h0:s≠0){dx:AI}(S:Sw)(a:S.grey=M.sw.grey):
  cY s H (upd H A.sw (.ins X.S dx bt)) T T/\
  WJ X (upd H A.sw (.ins X.S dx bt)) T s A { M with sw:=S }:=by
 obtain⟨ts,tg,⟨dd,os⟩,og⟩:=j.js;refine⟨cY.upd w os (by rw[ts]),?_⟩;have f:rQ s (·=7) H (upd H A.sw (.ins X.S dx bt)) T T:=rQ.yh ts;exact⟨j.jb.mv f (jO h0 ts) δ δ,j.jh.mv f δ δ,j.jn.mv f (jO h0 ts) δ,⟨ts,tg,⟨dx,ao⟩,by rw[a];exact f.at tg δ og⟩,j.jd.mv f λ_ _ _=>δ,j.jc.mv f λ_ _=>δ⟩
theorem WJ.Zup(j:WJ X H T s A M)(w:WT H T)(h0:s≠0){g:AE}:cY s H (upd H A.gr (.lst (g.map V.int))) T T/\WJ X (upd H A.gr (.lst (g.map V.int))) T s A { M with sw:={ M.sw with grey:=g } }:=by
 obtain⟨ts,tg,⟨dd,os⟩,og⟩:=j.js;refine⟨cY.upd w og (by rw[tg]),?_⟩;have f:rQ s (·=8) H (upd H A.gr (.lst (g.map V.int))) T T:=rQ.yh tg;exact⟨j.jb.mv f (jO h0 tg) δ δ,j.jh.mv f δ δ,j.jn.mv f (jO h0 tg) δ,⟨ts,tg,⟨dd,f.at ts δ os⟩,ao⟩,j.jd.mv f λ_ _ _=>δ,j.jc.mv f λ_ _=>δ⟩
theorem WJ.back(j:WJ X H T s A M)(w:WT H T)(h0:s≠0){i:Nat}{dx:AI}{used':Int}(v:i<A.cs.length)(H':Hp)(kp:∀b o,H b=some o->b≠A.hp->b≠A.ca->H' b=some o)(x:H' A.hp=some (.ins X.H dx (iG M.room A.ca used' M.born)))(D:H' A.ca=some (.lst ((A.cs.map pV).set i V.non))):
  cY s H H' T T/\WJ X H' T s { A with cs:=A.cs.set i none } { M with used:=used',cells:=M.cells.set i none }:=by
 obtain⟨th,tc,⟨dd,oh⟩,oc⟩:=j.jh;have al:∀b o,H b=some o->∃C,H' b=some C:=λb o h=>by
  by_cases y:b=A.hp
  ·exact⟨_,by rw[y];exact x⟩
  ·by_cases r:b=A.ca
   ·exact⟨_,by rw[r];exact D⟩
   ·exact⟨o,kp b o h y r⟩
 have f:rQ s (λk=>k=1\/k=2) H H' T T:=⟨λb o h e n=>kp b o h (λz=>n (.inl (by rw[z,th]))) (λz=>n (.inr (by rw[z,tc]))),λ_ _ _=>rfl⟩;have B:∀b o,H b=some o->T b=(0,0)->H' b=some o:=λb o h t=>kp b o h (R3 t th eH) (R3 t tc eH);refine⟨⟨λb o h n=>kp b o h (λz=>n (by rw[z,th])) (λz=>n (by rw[z,tc])),al,λ_ _ _=>rfl,λb h=>w b ?_⟩,?_⟩
 ·cases z:H b with
  | none=>rfl
  | some o=>obtain⟨C,u⟩:=al b o z;rw[h]at u;cases u
 ·refine⟨?_,⟨th,tc,⟨dx,x⟩,by rw[List.map_set];exact D⟩,?_,?_,j.jd.mv f λ_ _ _=>δ,⟨by rw[List.length_set,List.length_set];exact j.jc.lc,λk g c a d=>?_⟩⟩
  ·obtain⟨p,l,m,q,E,F,I,J⟩:=j.jb.mv f B δ δ;exact⟨p,l,m,q,E,F,I,J⟩
  ·obtain⟨p,l,m⟩:=j.jn.mv f B δ;exact⟨p,l,m⟩
  ·obtain⟨p,l,m,q⟩:=j.js.mv f δ δ;exact⟨p,l,m,q⟩
  ·by_cases hk:k=i
   ·subst hk;dsimp only at a d;rw[List.getElem?_set_self v]at a;rw[List.getElem?_set_self (by rw[<- j.jc.lc];exact v)]at d;cases a;cases d
    trivial
   ·dsimp only at a d;rw[List.getElem?_set_ne (λz=>hk z.symm)]at a d;exact(j.jc.ce k g c a d).mv f δ δ
end
def gZ{a:Type}:List (Option a)->Nat
 | []=>0
 | none::_=>0
 | some _::l=>gZ l+1
def jG{a:Type}(l:List (Option a))(x:a):List (Option a):=if gZ l<l.length then l.set (gZ l) (some x)else l++[some x]
theorem Zc1{b:Type}(l:List (Option b)):gZ l<=l.length:=by
 induction l with
 | nil=>exact Nat.le_refl _
 | cons a l ih=>cases a with
  | none=>exact Nat.zero_le _
  | some a=>exact Nat.succ_le_succ ih
theorem Zte{b:Type}{l:List (Option b)}(h:gZ l<l.length):l[gZ l]? =some none:=by
 induction l with
 | nil=>exact absurd h (Nat.lt_irrefl _)
 | cons a l ih=>cases a with
  | none=>rfl
  | some a=>exact ih (Nat.lt_of_succ_lt_succ h)
theorem Zfa{d:Type}{f:Option d->V}(c:∀x,f x=V.non↔x=none)(l:List (Option d)):(l.map f).idxOf V.non=gZ l/\(V.non∈l.map f↔gZ l<l.length):=by
 induction l with
 | nil=>exact⟨rfl,⟨λz=>(nomatch z),λz=>absurd z (Nat.lt_irrefl _)⟩⟩
 | cons a l ih=>
  rw[List.map_cons,List.idxOf_cons];cases a with
  | none=>
   have e:f none=V.non:=(c none).mpr rfl;rw[e];exact⟨rfl,⟨λ_=>Nat.zero_lt_succ _,λ_=>List.mem_cons_self⟩⟩
  | some a=>
   have e:f (some a)≠V.non:=λz=>by cases (c (some a)).mp z
   have b:(f (some a) == V.non)=false:=beq_eq_false_iff_ne.mpr e;rw[b];refine⟨congrArg (· + 1) ih.1,?_⟩;show _↔gZ l+1<l.length+1;rw[List.mem_cons,ih.2];constructor
   ·rintro(z | z)
    ·exact absurd z.symm e
    ·omega
   ·intro z;exact .inr δ
theorem Zo1{a:Type}{f:Option a->V}(d:∀x,f x=V.non↔x=none)(l:List (Option a))(x:a):putN (l.map f) (f (some x))=(jG l x).map f:=by
 obtain⟨c,b⟩:=Zfa d l;unfold putN jG
 by_cases z:gZ l<l.length
 ·rw[if_pos z,if_pos (b.mpr z),List.map_set];exact congrArg (λk=>(l.map f).set k (f (some x))) c
 ·rw[if_neg z,if_neg (λw=>z (b.mp w)),List.map_append];rfl
theorem Zoi(p:Option (AI×AI)):pV p=V.non↔p=none:=by cases p<;>simp[pV]
theorem Py{a:Type}(l:List (Option a))(x:a):(jG l x)[gZ l]? =some (some x):=by
 unfold jG
 by_cases z:gZ l<l.length
 ·rw[if_pos z,List.getElem?_set_self z]
 ·have e:gZ l=l.length:=Nat.le_antisymm (Zc1 l) δ;rw[if_neg z,e,List.getElem?_append_right Γ,Nat.sub_self];rfl
theorem Zjm{a:Type}{l:List (Option a)}{x:a}{i:Nat}{y:Option a}(b:i≠gZ l)(h:(jG l x)[i]? =some y):l[i]? =some y:=by
 unfold jG at h
 by_cases z:gZ l<l.length
 ·rw[if_pos z,List.getElem?_set_ne (λw=>b w.symm)]at h;exact h
 ·rw[if_neg z]at h;have e:gZ l=l.length:=Nat.le_antisymm (Zc1 l) δ;have hl:=(cL h).1;rw[List.length_append,List.length_singleton]at hl;rw[List.getElem?_append_left δ]at h;exact h
theorem Zo2{b a:Type}{l:List (Option b)}{m:List (Option a)}{x:b}{y:a}(hl:l.length=m.length)(c:gZ l=gZ m):(jG l x).length=(jG m y).length:=by
 unfold jG
 by_cases z:gZ l<l.length
 ·rw[if_pos z,if_pos δ,List.length_set,List.length_set];exact hl
 ·rw[if_neg z,if_neg δ,List.length_append,List.length_append,hl];rfl
theorem Zrx{a:Type}(l:List (Option a))(x:a):(jG l x).length<=l.length+1:=by
 unfold jG
 by_cases z:gZ l<l.length
 ·rw[if_pos z,List.length_set];omega
 ·rw[if_neg z,List.length_append];exact Nat.le_refl _
theorem Ztd{d f:Type}:∀(l:List (Option d)) (m:List (Option f)),l.length=m.length->(∀(i:Nat) x y,l[i]? =some x->m[i]? =some y->(x=none↔y=none))->gZ l=gZ m:=by
 intro l
 induction l with
 | nil=>
  intro m hl _;cases m with
  | nil=>rfl
  | cons b m=>simp at hl
 | cons a l ih=>
  intro m hl h;cases m with
  | nil=>simp at hl
  | cons b m=>
   have c:=ih m (by simpa using hl) λi x y h1 h2=>h b9 x y (by simpa using h1) (by simpa using h2);have e:=h 0 a b rfl rfl;cases a with
   | none=>rw[e.mp rfl];rfl
   | some a=>cases b with
    | none=>exact absurd (e.mpr rfl) aS
    | some b=>exact congrArg (· + 1) c
section
variable {X:Cs}{H H':Hp}{T T':Tg}{s:Nat}{A:Wa}{M:Wm}
theorem WC.fst(j:WC X H T s A.cs M.cells):gZ A.cs=gZ M.cells:=Ztd _ _ j.lc λi p c a b=>by
 have e:=j.ce i p c a b;cases p with
 | none=>cases c with
  | none=>exact⟨λ_=>rfl,λ_=>rfl⟩
  | some c=>exact e.elim
 | some p=>cases c with
  | none=>exact e.elim
  | some c=>exact⟨λz=>(by cases z),λz=>(by cases z)⟩
theorem WJ.put(j:WJ X H T s A M)(w:WT H T)(h0:s≠0){dx:AI}{used':Int}{p fa:AI}{c:Ce}(kp:∀b o,H b=some o->b≠A.hp->b≠A.ca->H' b=some o)(D:H' A.hp=some (.ins X.H dx (iG M.room A.ca used' (M.born+1))))(K:H' A.ca=some (.lst (putN dy (.ref p))))
  (n1:H p=none) (n2:H fa=none) (N:p≠fa) (o1:∃dx,H' p=some (.ins X.C dx (jr c.birth c.bulk c.tone c.load fa))) (o2:H' fa=some (.lst (c.fl.map oV))):
  ∃T',cY s H H' T T'/\WJ X H' T' s { A with cs:=jG A.cs (p,fa) } { M with used:=used',born:=M.born+1,cells:=jG M.cells c }:=by
 obtain⟨th,tc,⟨dd,oh⟩,oc⟩:=j.jh;have x:=j.jc.fst
 let k:=gZ A.cs
 let T':Tg:=fL (fL T p (s,100+2 * k)) fa (s,101+2 * k)
 have a:∀b o,H b=some o->T' b=T b:=λb o h=>by
  show fL _ _ _ b=_;rw[gF (aF h n2),gF (aF h n1)]
 have t1:T' p=(s,100+2 * k):=by show fL _ _ _ p=_;rw[gF N,eF]
 have t2:T' fa=(s,101+2 * k):=by show fL _ _ _ fa=_;rw[eF]
 have al:∀b o,H b=some o->∃J,H' b=some J:=λb o h=>by
  by_cases E:b=A.hp
  ·exact⟨_,by rw[E];exact D⟩
  ·by_cases y:b=A.ca
   ·exact⟨_,by rw[y];exact K⟩
   ·exact⟨o,kp b o h E y⟩
 have f:rQ s (λk=>k=1\/k=2) H H' T T':=⟨λb o h e n=>kp b o h (λz=>n (.inl (by rw[z,th]))) (λz=>n (.inr (by rw[z,tc]))),a⟩;have I:∀b o,H b=some o->T b=(0,0)->H' b=some o:=λb o h t=>kp b o h (R3 t th eH) (R3 t tc eH);refine⟨T',⟨λb o h F=>kp b o h (λz=>F (by rw[z,th])) (λz=>F (by rw[z,tc])),al,a,λb h=>?_⟩,?_⟩
 ·have m:b≠p:=λe=>by obtain⟨d,z⟩:=o1;rw[e,z]at h;cases h
  have l:b≠fa:=λe=>by rw[e,o2]at h;cases h
  have hb:H b=none:=by
   cases z:H b with
   | none=>rfl
   | some o=>obtain⟨J,B⟩:=al b o z;rw[h]at B;cases B
  show fL _ _ _ b=_;rw[gF l,gF m];exact w b hb
 ·refine⟨?_,⟨f.tag oh th,f.tag oc tc,⟨dx,D⟩,?_⟩,?_,?_,j.jd.mv f λ_ _ _=>δ,⟨Zo2 j.jc.lc x,λi g Q r u=>?_⟩⟩
  ·obtain⟨m,l,q,v,L,O,P,R⟩:=j.jb.mv f I δ δ;exact⟨m,l,q,v,L,O,P,R⟩
  ·show H' A.ca=some (.lst ((jG A.cs (p,fa)).map pV));rw[<- Zo1 Zoi];exact K
  ·obtain⟨m,l,q⟩:=j.jn.mv f I δ;exact⟨m,l,q⟩
  ·obtain⟨m,l,q,v⟩:=j.js.mv f δ δ;exact⟨m,l,q,v⟩
  ·dsimp only at r u
   by_cases hk:i=gZ A.cs
   ·subst hk;rw[Py]at r;rw[x,Py]at u;cases r;cases u;exact⟨t1,t2,o1,o2⟩
   ·exact(j.jc.ce i g Q (Zjm hk r) (Zjm (by rw[<- x];exact hk) u)).mv f δ δ
end
def cellAt(M:Wm)(x:Int):Option Ce:=if 0<=x then(M.cells[x.toNat]?).join else none
def wW(M:Wm):AA->AA
 | none=>none
 | some x=>(cellAt M x).map (·.birth)
def aY(M:Wm)(h k:Nat):AA:=((M.hands[h]?).bind λm=>m.2[k]?).join
def setSlot(M:Wm)(h k:Nat)(x:AA):Wm:={ M with hands:=M.hands.modify h λm=>(m.1,m.2.set k x) }
def setCell(M:Wm)(i:Int)(c:Ce):Wm:={ M with cells:=M.cells.set i.toNat (some c) }
def bK(M:Wm):AA->AA×Wm
 | none=>(none,M)
 | some i=>match cellAt M i with
  | none=>(none,M)
  | some c=>if M.sw.phase="walk"/\c.tone≠M.sw.sense then(some c.birth,{ setCell M i { c with tone:=M.sw.sense }with sw:={ M.sw with grey:=M.sw.grey++[i] } })else(none,M)
def cU(M:Wm)(h:Nat):Bool:=decide (M.sw.looked / 2 ^ h % 2=1)
def lA(M:Wm)(a birth:Int):Bool:=match cellAt M a with
 | none=>true
 | some c=>if c.birth=birth then decide (M.sw.phase="give"/\c.tone≠M.sw.sense)else true
def nU(l:List cx)(k:Str)(v:Int×Int):List cx:=if (l.any λm=>decide (m.1=k))=true then l.map (λm=>if m.1=k then(m.1,v)else m)else l++[(k,v)]
def yF(l:List cx)(k:Str):Option (Int×Int):=(l.find? λm=>decide (m.1=k)).map (·.2)
def TgO(s:Nat)(t:Nat×Nat):Prop:=t.1=0\/t.1=s+1
theorem TgO.ne{s:Nat}{t:Nat×Nat}(h:TgO s t)(a:s≠0):t.1≠s:=by unfold TgO at h;omega
inductive Rf where
 | full | empty | jL | CP
 deriving DecidableEq
structure Ev where
 word:Str
 thing:AA
 notes:AE
inductive kh where
 | make (h s:Nat) (many bulk:Int)
 | get (h s t f:Nat)
 | put (h t f s:Nat)
 | copy (h s t:Nat)
 | drop (h s:Nat)
 | give (h s g t:Nat)
 | write (h t:Nat) (load:Int)
 | read (h t:Nat)
 | name (h t:Nat) (word:Str)
 | seek (h s:Nat) (word:Str)
def old?(M:Wm):Bool:=decide (M.tells % 2=1)
def mR(M:Wm):Bool:=decide (M.tells / 2 % 2=1)
def VR:AA->AE
 | none=>[]
 | some b=>[b]
def aP(M:Wm):Au->AE×Wm
 | []=>([],M)
 | x::l=>(VR (bK M x).1++(aP (bK M x).2 l).1,(aP (bK M x).2 l).2)
def jM(M:Wm):kh->Except Rf (Ev×Wm)
 | .make h s a bulk=>
  if M.used+(1+a+bulk)<=M.room then
   .ok (⟨"made",some (M.born+1),[]⟩,setSlot { M with used:=M.used+(1+a+bulk),born:=M.born+1,cells:=jG M.cells ⟨M.born+1,bulk,M.sw.sense,0,List.replicate a.toNat none⟩ } h s (some (gZ M.cells)))
  else .error .full
 | .get h s t f=>match aY M h t with
  | none=>.error .empty
  | some x=>match cellAt M x with
   | none=>.error .empty
   | some c=>match c.fl[f]? with
    | none=>.error .jL
    | some v=>.ok (⟨"got",wW M v,[]⟩,setSlot M h s v)
 | .put h t f s=>match aY M h t with
  | none=>.error .empty
  | some x=>match cellAt M x with
   | none=>.error .empty
   | some c=>match c.fl[f]? with
    | none=>.error .jL
    | some v=>
     let M1:=setCell M x { c with fl:=c.fl.set f (aY M h s) }
     let r:=aP M1 ((if old? M=true then [v]else [])++if (mR M && !cU M h)=true then [aY M h s]else [])
     .ok (⟨"put",wW M v,r.1⟩,r.2)
 | .copy h s t=>.ok (⟨"copied",wW M (aY M h t),[]⟩,setSlot M h s (aY M h t))
 | .drop h s=>.ok (⟨"dropped",wW M (aY M h s),[]⟩,setSlot M h s none)
 | .give h s g t=>
  let r:=aP (setSlot M g t (aY M h s)) (if (mR M && !cU M h)=true then [aY M h s]else [])
  .ok (⟨"given",wW M (aY M h s),r.1⟩,r.2)
 | .write h t load=>match aY M h t with
  | none=>.error .empty
  | some x=>match cellAt M x with
   | none=>.error .empty
   | some c=>.ok (⟨"wrote",some c.load,[]⟩,setCell M x { c with load:=load })
 | .read h t=>match aY M h t with
  | none=>.error .empty
  | some x=>match cellAt M x with
   | none=>.error .empty
   | some c=>.ok (⟨"read",some c.load,[]⟩,M)
 | .name h t word=>match aY M h t with
  | none=>.error .empty
  | some x=>match cellAt M x with
   | none=>.error .empty
   | some c=>.ok (⟨"named",some c.birth,[]⟩,{ M with names:=nU M.names word (x,c.birth) })
 | .seek h s word=>match yF M.names word with
  | none=>.error .CP
  | some (p,b)=>
   if lA M p b=true then .ok (⟨"sought",none,[]⟩,setSlot M h s none)
   else
    let r:=aP (setSlot M h s (some p)) [some p]
    .ok (⟨"sought",some b,r.1⟩,r.2)
def dV:kh->List V
 | .make h s a bulk=>[.str "make",.int h,.int s,.int a,.int bulk]
 | .get h s t f=>[.str "get",.int h,.int s,.int t,.int f]
 | .put h t f s=>[.str "put",.int h,.int t,.int f,.int s]
 | .copy h s t=>[.str "copy",.int h,.int s,.int t]
 | .drop h s=>[.str "drop",.int h,.int s]
 | .give h s g t=>[.str "give",.int h,.int s,.int g,.int t]
 | .write h t load=>[.str "write",.int h,.int t,.int load]
 | .read h t=>[.str "read",.int h,.int t]
 | .name h t word=>[.str "name",.int h,.int t,.str word]
 | .seek h s word=>[.str "seek",.int h,.int s,.str word]
def zH(M:Wm)(h s:Nat):Prop:=∃m,M.hands[h]? =some m/\s<m.2.length
def okD(M:Wm):kh->Prop
 | .make h s a bulk=>zH M h s/\0<=a/\a<=1000/\0<=bulk
 | .get h s t _=>zH M h s/\zH M h t
 | .put h t _ s=>zH M h t/\zH M h s
 | .copy h s t=>zH M h s/\zH M h t
 | .drop h s=>zH M h s
 | .give h s g t=>zH M h s/\zH M g t
 | .write h t _=>zH M h t
 | .read h t=>zH M h t
 | .name h t _=>zH M h t
 | .seek h s _=>zH M h s
structure Ok(M:Wm):Prop where
 sl:∀m∈M.hands,∀x,some x∈m.2->∃c,cellAt M x=some c
 fl:∀c,some c∈M.cells->∀x,some x∈c.fl->∃d,cellAt M x=some d
 tn:∀c,some c∈M.cells->c.tone=0\/c.tone=1
def Va(a d b c:AI):Rf->AI
 | .full=>a
 | .empty=>d
 | .jL=>b
 | .CP=>c
def EvN(b H:Hp)(T:Tg)(s:Nat)(a:AI)(e:Ev):Prop:=∃l,(b l=none/\TgO s (T l)/\TgO s (T a))/\H a=some (.tup [.str e.word,oV e.thing,.ref l])/\H l=some (.lst (e.notes.map V.int))
theorem rB{H:Hp}{T:Tg}{s:Nat}{l:AI}(w:WT H T)(a:s≠0)(n:H l=none):H l=none/\TgO s (T l):=⟨n,by rw[w l n];exact .inl rfl⟩
inductive uy(X:Cs)(rf:Rf->AI)(P:kh->Prop)(wo dd:AI)(H:Hp)(Q:VK)(E:XK):Prop
 | mk (T s A M d) (_:P d) (_:WT H T) (_:s≠0) (_:WJ X H T s A M) (_:A.wo=wo) (_:H dd=some (.tup (dV d))) (_:okD M d) (_:M.cells.length<=900) (_:(M.sw.phase="walk"->M.sw.grey.length<=10000)) (_:(0<=M.tells/\M.tells<4)) (_:M.names.length<=1000) (_:(∀r,jM M d=.error r->∀H',bA H H'->E (.ref (rf r)) none H')) (_:(∀e M',jM M d=.ok (e,M')->∀H' T' A' a,cY s H H' T T'->WJ X H' T' s A' M'->A'.wo=wo->EvN H H' T' s a e->Q (.ref a) H')):uy X rf P wo dd H Q E
def cI(X:Cs)(a:Rf->AI)(P:kh->Prop):Sp:=λvs H Q E=>∃wo dd,vs=[.ref wo,.ref dd]/\uy X a P wo dd H Q E
abbrev Zzl(X:Cs)(rf:Rf->AI):Sp:=cI X rf λ_=>True
theorem Zlj{b:Type}{l:List (Option b)}{x a:b}{i:Nat}(h:l[i]? =some (some a)):(jG l x)[i]? =some (some a):=by
 have hl:=(cL h).1;unfold jG
 by_cases z:gZ l<l.length
 ·have c:i≠gZ l:=λe=>by rw[e,Zte z]at h;cases h
  rw[if_pos z,List.getElem?_set_ne (λw=>c w.symm)];exact h
 ·rw[if_neg z,List.getElem?_append_left hl];exact h
theorem cB{M:Wm}{x:Int}{c:Ce}:cellAt M x=some c↔0<=x/\M.cells[x.toNat]? =some (some c):=by
 unfold cellAt
 by_cases z:0<=x
 ·rw[if_pos z];cases e:M.cells[x.toNat]? with
  | none=>simp
  | some y=>cases y with
   | none=>simp
   | some d=>simp[z]
 ·rw[if_neg z];simp[z]
theorem uY{M:Wm}{x:Int}{c:Ce}(h:cellAt M x=some c):some c∈M.cells:=List.mem_of_getElem? (cB.mp h).2
theorem Ul{M:Wm}{x u b:Int}{c d:Ce}(h:cellAt M x=some d):cellAt { M with used:=u,born:=b,cells:=jG M.cells c } x=some d:=by
 obtain⟨h0,h1⟩:=cB.mp h;exact cB.mpr ⟨h0,Zlj h1⟩
theorem Um{M:Wm}{u b:Int}{c:Ce}:cellAt { M with used:=u,born:=b,cells:=jG M.cells c } (gZ M.cells)=some c:=
 cB.mpr ⟨δ,by rw[Int.toNat_natCast];exact Py _ _⟩
theorem Zp6{a:Type}{l:List (Option a)}{x:a}{y:Option a}(h:y∈jG l x):y∈l\/y=some x:=by
 unfold jG at h
 by_cases z:gZ l<l.length
 ·rw[if_pos z]at h;rcases List.mem_or_eq_of_mem_set h with h | h
  ·exact .inl h
  ·exact .inr h
 ·rw[if_neg z]at h;rcases List.mem_append.mp h with h | h
  ·exact .inl h
  ·exact .inr (List.mem_singleton.mp h)
theorem Zle{M:Wm}{h k:Nat}{m:Str×Au}{x:AA}(hm:M.hands[h]? =some m)(hk:m.2[k]? =some x):aY M h k=x:=by
 unfold aY;rw[hm];show(m.2[k]?).join=x;rw[hk];rfl
theorem Ze5{M:Wm}{h k:Nat}(o:zH M h k):∃m,M.hands[h]? =some m/\m.2[k]? =some (aY M h k)/\k<m.2.length:=by
 obtain⟨m,hm,hk⟩:=o;refine⟨m,hm,?_,hk⟩;rw[Zle hm (bG hk)];exact bG hk
theorem Vx{M:Wm}{h k:Nat}{x:AA}{m:Str×Au}(hm:M.hands[h]? =some m):(setSlot M h k x).hands=M.hands.set h (m.1,m.2.set k x):=by
 show M.hands.modify h _=_;refine List.ext_getElem? ?_;intro i;rw[List.getElem?_modify]
 by_cases e:h=i
 ·subst e;rw[List.getElem?_set_self (cL hm).1,hm];simp
 ·rw[List.getElem?_set_ne e];simp[e]
theorem jZ{M:Wm}{h k:Nat}{x:AA}{y:AA}:wW (setSlot M h k x) y=wW M y:=by cases y<;>rfl
def rowsOf(M:Wm):List Au:=M.hands.map λm=>m.2.map (wW M)
theorem RX{M:Wm}(h:M.sw.phase≠"walk")(x:AA):bK M x=(none,M):=by
 cases x with
 | none=>rfl
 | some x=>
  unfold bK;dsimp only;cases cellAt M x with
  | none=>rfl
  | some c=>
   dsimp only;rw[if_neg (λz=>h z.1)]
theorem Mg:∀{l:Au}{M:Wm},M.sw.phase≠"walk"->aP M l=([],M)
 | [],_,_=>rfl
 | x::l,M,h=>by
  show(VR (bK M x).1++(aP (bK M x).2 l).1,(aP (bK M x).2 l).2)=_;rw[RX h];show(VR none++(aP M l).1,(aP M l).2)=_;rw[Mg h];rfl
theorem Zfo{M:Wm}{h s:Nat}{a bulk:Int}(b:M.used+(1+a+bulk)<=M.room):jM M (.make h s a bulk)=.ok (⟨"made",some (M.born+1),[]⟩,setSlot { M with used:=M.used+(1+a+bulk),born:=M.born+1,cells:=jG M.cells ⟨M.born+1,bulk,M.sw.sense,0,List.replicate a.toNat none⟩ } h s (some (gZ M.cells))):=by
 show(if _ then _ else _)=_;rw[if_pos b]
structure j6(K:aD)(X:Cs):Prop where
 c:TxC K X.C X.H
 cW:Pq K X.W
 Vb:cJ K X.W "heap"
 nWk:cJ K X.W "kind"
 nWd:cJ K X.W "hands"
 nWn:cJ K X.W "names"
 JN:cJ K X.W "sweeper"
 cD:Pq K X.D
 nDn:cJ K X.D "name"
 nDs:cJ K X.D "slots"
 cK:Pq K X.K
 nKl:cJ K X.K "looking"
 nKt:cJ K X.K "tells"
 cS:Pq K X.S
 n1:cJ K X.S "sense"
 n2:cJ K X.S "phase"
 n3:cJ K X.S "grey"
 n4:cJ K X.S "looked"
 n5:cJ K X.S "turn"
 n6:cJ K X.S "at"
 n7:cJ K X.S "stop"
 n8:cJ K X.S "walks"
 n9:cJ K X.S "looks"
 n10:cJ K X.S "passes"
 n11:cJ K X.S "loss"
structure WJ0(X:Cs)(H:Hp)(T:Tg)(s:Nat)(A:Wa)(M:Wm):Prop where
 jb:WB X H T s A M.w M.tells
 jh:WH X H T s A M.room M.used M.born
 js:WS X H T s A M.sw
 jd:WD X H T s A.hs M.hands
 jc:WC X H T s A.cs M.cells
theorem WJ.w0{X:Cs}{H:Hp}{T:Tg}{s:Nat}{A:Wa}{M:Wm}(j:WJ X H T s A M):WJ0 X H T s A M:=⟨j.jb,j.jh,j.js,j.jd,j.jc⟩
theorem WJ.names{X:Cs}{H:Hp}{T:Tg}{s:Nat}{A:Wa}{M:Wm}{o:HO}(j:WJ X H T s A M)(h0:s≠0):WJ0 X (upd H A.nm o) T s A M:=by
 have f:rQ s (·=6) H (upd H A.nm o) T T:=rQ.yh j.jn.tm;exact⟨j.jb.mv f (jO h0 j.jn.tm) δ δ,j.jh.mv f δ δ,j.js.mv f δ δ,j.jd.mv f λ_ _ _=>δ,j.jc.mv f λ_ _=>δ⟩
theorem WJ0.same{X:Cs}{H H':Hp}{T:Tg}{s:Nat}{A:Wa}{M:Wm}(j:WJ0 X H T s A M)(e:bA H H'):WJ0 X H' T s A M:=by
 have f:rQ s (λ_=>False) H H' T T:=rQ.of_same e;exact⟨j.jb.mv f (λb o h _=>e b o h) id id,j.jh.mv f id id,j.js.mv f id id,j.jd.mv f λ_ _ _=>id,j.jc.mv f λ_ _=>id⟩
def atO(cs:List V):V->V
 | .int i=>if 0<=i then(cs[i.toNat]?).getD .non else .non
 | _=>.non
inductive Kf(CH:AI)(hp:AI)(pl:V)(H:Hp)(Q:VK):Prop
 | mk (_:(pl=.non\/∃i,pl=.int i)) (ca room used born cs) (_:HpO CH H hp ca room used born cs) (_:Q (atO cs pl) H):Kf CH hp pl H Q
def iV(a:AI):Sp:=λvs H Q E=>∃hp pl,vs=[.ref hp,pl]/\Kf a hp pl H Q
def cO(M:Wm)(x:AA):Option Ce:=x.bind (cellAt M)
inductive Dl(X:Cs)(hp:AI)(pl:V)(H:Hp)(Q:VK):Prop
 | mk (x) (_:pl=oV x) (T s A M) (_:WJ X H T s A M) (_:A.hp=hp) (_:Q (oV (wW M x)) H):Dl X hp pl H Q
def iQ(X:Cs):Sp:=λvs H Q E=>∃hp pl,vs=[.ref hp,pl]/\Dl X hp pl H Q
inductive yS(X:Cs)(p:AI)(f:Int)(H:Hp)(Q:VK):Prop
 | mk (T s i q c) (_:CeO X.C H T s i q c) (_:q.1=p) (_:Q (.bl (decide (0<=f) && decide (f<c.fl.length))) H):yS X p f H Q
def NK(X:Cs):Sp:=λvs H Q E=>∃p f,vs=[.ref p,.int f]/\yS X p f H Q
inductive Dh(X:Cs)(wo:AI)(h:Int)(H:Hp)(Q:VK):Prop
 | mk (T s A M k p) (_:WJ X H T s A M) (_:A.wo=wo) (_:h=((k:Nat):Int)) (_:A.hs[k]? =some p) (_:Q (.ref p.2) H):Dh X wo h H Q
def gY(X:Cs):Sp:=λvs H Q E=>∃wo h,vs=[.ref wo,.int h]/\Dh X wo h H Q
inductive yR(X:Cs)(wo:AI)(p:AI)(H:Hp)(Q:VK):Prop
 | mk (T s A M i q c) (_:WJ0 X H T s A M) (_:A.wo=wo) (_:CeO X.C H T s i q c) (_:q.1=p) (_:Q (.bl (decide (c.tone=M.sw.sense))) H):yR X wo p H Q
def iI(X:Cs):Sp:=λvs H Q E=>∃wo p,vs=[.ref wo,.ref p]/\yR X wo p H Q
inductive yQ(X:Cs)(wo:AI)(h:Int)(H:Hp)(Q:VK):Prop
 | mk (T s A M k) (_:WJ X H T s A M) (_:A.wo=wo) (_:h=((k:Nat):Int)) (_:Q (.bl (cU M k)) H):yQ X wo h H Q
def NB(X:Cs):Sp:=λvs H Q E=>∃wo h,vs=[.ref wo,.int h]/\yQ X wo h H Q
inductive Df(X:Cs)(wo:AI)(v:V)(H:Hp)(Q:VK):Prop
 | mk (T s A M) (_:WJ X H T s A M) (_:A.wo=wo) (_:(0<=M.tells/\M.tells<4)) (_:∀l,H l=none->Q (.ref l) (upd H l (.lst (if old? M=true then [v]else [])))):Df X wo v H Q
def Uy(X:Cs):Sp:=λvs H Q E=>∃wo v,vs=[.ref wo,v]/\Df X wo v H Q
inductive Dg(X:Cs)(wo:AI)(h:Int)(v:V)(H:Hp)(Q:VK):Prop
 | mk (T s A M k) (_:WJ X H T s A M) (_:A.wo=wo) (_:(0<=M.tells/\M.tells<4)) (_:h=((k:Nat):Int)) (_:∀l,H l=none->Q (.ref l) (upd H l (.lst (if (mR M && !cU M k)=true then [v]else [])))):Dg X wo h v H Q
def Dn(X:Cs):Sp:=λvs H Q E=>∃wo h v,vs=[.ref wo,.int h,v]/\Dg X wo h v H Q
inductive Ke(X:Cs)(CE:AI)(wo:AI)(h:Int)(t:Int)(H:Hp)(Q:VK)(E:XK):Prop
 | mk (T s A M hn tn) (_:WJ X H T s A M) (_:A.wo=wo) (_:h=((hn:Nat):Int)) (_:t=((tn:Nat):Int)) (_:zH M hn tn) (_:(cO M (aY M hn tn)=none->E (.ref CE) none H)) (_:(∀i c p,aY M hn tn=some i->0<=i->cellAt M i=some c->A.cs[i.toNat]? =some (some p)->CeO X.C H T s i.toNat p c->Q (.ref p.1) H)):Ke X CE wo h t H Q E
def ux(X:Cs)(CE:AI):Sp:=λvs H Q E=>∃wo h t,vs=[.ref wo,.int h,.int t]/\Ke X CE wo h t H Q E
inductive yU(X:Cs)(CE:AI)(CF:AI)(wo:AI)(h:Int)(t:Int)(f:Int)(H:Hp)(Q:VK)(E:XK):Prop
 | mk (T s A M hn tn fn) (_:WJ X H T s A M) (_:A.wo=wo) (_:h=((hn:Nat):Int)) (_:t=((tn:Nat):Int)) (_:f=((fn:Nat):Int)) (_:zH M hn tn) (_:(cO M (aY M hn tn)=none->E (.ref CE) none H)) (_:(∀i c,aY M hn tn=some i->0<=i->cellAt M i=some c->c.fl[fn]? =none->E (.ref CF) none H)) (_:(∀i c p,aY M hn tn=some i->0<=i->cellAt M i=some c->A.cs[i.toNat]? =some (some p)->CeO X.C H T s i.toNat p c->fn<c.fl.length->Q (.ref p.2) H)):yU X CE CF wo h t f H Q E
def zf(X:Cs)(CE a:AI):Sp:=λvs H Q E=>∃wo h t f,vs=[.ref wo,.int h,.int t,.int f]/\yU X CE a wo h t f H Q E
inductive Zir(X:Cs)(wo:AI)(pl:V)(H:Hp)(Q:VK):Prop
 | mk (x) (_:pl=oV x) (T s A M) (_:WT H T) (_:s≠0) (_:WJ X H T s A M) (_:A.wo=wo) (_:(M.sw.phase="walk"->M.sw.grey.length<=20000)) (_:∀H',cY s H H' T T->WJ X H' T s A (bK M x).2->Q (oV (bK M x).1) H'):Zir X wo pl H Q
def Zr5(X:Cs):Sp:=λvs H Q E=>∃wo pl,vs=[.ref wo,pl]/\Zir X wo pl H Q
def PlO(H:Hp)(T:Tg)(A:Wa)(M:Wm)(pl:AI)(xs:Au):Prop:=(H pl=some (.lst (xs.map oV))/\T pl=(0,0))\/(∃(k:Nat) (p:AI×AI) (m:Str×Au),A.hs[k]? =some p/\M.hands[k]? =some m/\pl=p.2/\xs=m.2)\/(∃(k:Nat) (p:AI×AI) (c:Ce),A.cs[k]? =some (some p)/\M.cells[k]? =some (some c)/\pl=p.2/\xs=c.fl)
theorem PlO.get{X:Cs}{H:Hp}{T:Tg}{s:Nat}{A:Wa}{M:Wm}{pl:AI}{xs:Au}(h:PlO H T A M pl xs)(j:WJ X H T s A M):H pl=some (.lst (xs.map oV)):=by
 rcases h with ⟨h,_⟩ | ⟨k,p,m,h1,h2,rfl,rfl⟩ | ⟨k,p,c,h1,h2,rfl,rfl⟩
 ·exact h
 ·exact(j.jd.hd k p m h1 h2).o2
 ·have e:=j.jc.ce k _ _ h1 h2;exact(show CeO X.C H T s k p c from e).o2
inductive Dj(X:Cs)(wo:AI)(pl:AI)(H:Hp)(Q:VK):Prop
 | mk (xs T s A M) (_:WT H T) (_:s≠0) (_:WJ X H T s A M) (_:A.wo=wo) (_:PlO H T A M pl xs) (_:xs.length<=100) (_:(M.sw.phase="walk"->M.sw.grey.length<=10000)) (_:∀H' T' l,cY s H H' T T'->WJ X H' T' s A (aP M xs).2->H' l=some (.lst ((aP M xs).1.map V.int))->(H l=none/\TgO s (T' l))->Q (.ref l) H'):Dj X wo pl H Q
def lV(X:Cs):Sp:=λvs H Q E=>∃wo pl,vs=[.ref wo,.ref pl]/\Dj X wo pl H Q
inductive Ziu(X:Cs)(wo:AI)(p:Int)(b:Int)(H:Hp)(Q:VK):Prop
 | mk (T s A M) (_:WJ0 X H T s A M) (_:A.wo=wo) (_:Q (.bl (lA M p b)) H):Ziu X wo p b H Q
def Zj0(X:Cs):Sp:=λvs H Q E=>∃wo p b,vs=[.ref wo,.int p,.int b]/\Ziu X wo p b H Q
inductive rP(X:Cs)(CN:AI)(wo:AI)(z:Str)(H:Hp)(Q:VK)(E:XK):Prop
 | mk (T s A M) (_:WJ X H T s A M) (_:A.wo=wo) (_:(yF M.names z=none->E (.ref CN) none H)) (_:(∀p b,yF M.names z=some (p,b)->Q (if lA M p b=true then .non else .int p) H)):rP X CN wo z H Q E
def Cm(X:Cs)(a:AI):Sp:=λvs H Q E=>∃wo z,vs=[.ref wo,.str z]/\rP X a wo z H Q E
theorem tV(x:AA):oV x=.non\/∃i,oV x=.int i:=by cases x with
 | none=>exact .inl rfl
 | some i=>exact .inr ⟨i,rfl⟩
section
variable {X:Cs}{H H':Hp}{T T':Tg}{s:Nat}{A:Wa}{M:Wm}
theorem WJ0.hpO(j:WJ0 X H T s A M):HpO X.H H A.hp A.ca M.room M.used M.born dy:=⟨j.jh.oh,j.jh.oc⟩
theorem WJ0.look(j:WJ0 X H T s A M)(x:AA):(cO M x=none/\atO dy (oV x)=.non)\/∃i c p,x=some i/\0<=i/\cellAt M i=some c/\M.cells[i.toNat]? =some (some c)/\A.cs[i.toNat]? =some (some p)/\atO dy (oV x)=.ref p.1/\CeO X.C H T s i.toNat p c:=by
 cases x with
 | none=>exact .inl ⟨rfl,rfl⟩
 | some i=>
  show(cellAt M i=none/\atO _ (.int i)=_)\/_
  by_cases h0:0<=i
  ·cases hc:M.cells[i.toNat]? with
   | none=>
    have hl:A.cs[i.toNat]? =none:=by
     rw[List.getElem?_eq_none_iff]at hc ⊢;rw[j.jc.lc];exact hc
    refine .inl ⟨by unfold cellAt;rw[if_pos h0,hc];rfl,?_⟩;show(if 0<=i then _ else _)=_;rw[if_pos h0,bV,hl];rfl
   | some y=>cases y with
    | none=>
     refine .inl ⟨by unfold cellAt;rw[if_pos h0,hc];rfl,?_⟩;show(if 0<=i then _ else _)=_;rw[if_pos h0,bV,j.jc.at0 hc];rfl
    | some c=>
     obtain⟨p,hp,e⟩:=j.jc.at hc;refine .inr ⟨i,c,p,rfl,h0,by unfold cellAt;rw[if_pos h0,hc];rfl,hc,hp,?_,e⟩;show(if 0<=i then _ else _)=_;rw[if_pos h0,bV,hp];rfl
  ·refine .inl ⟨by unfold cellAt;rw[if_neg h0],?_⟩;show(if 0<=i then _ else _)=_;rw[if_neg h0]
theorem WJ.hpO(j:WJ X H T s A M):HpO X.H H A.hp A.ca M.room M.used M.born dy:=j.w0.hpO
theorem WJ.look(j:WJ X H T s A M)(x:AA):(cO M x=none/\atO dy (oV x)=.non)\/∃i c p,x=some i/\0<=i/\cellAt M i=some c/\M.cells[i.toNat]? =some (some c)/\A.cs[i.toNat]? =some (some p)/\atO dy (oV x)=.ref p.1/\CeO X.C H T s i.toNat p c:=j.w0.look x
theorem WJ.hand(j:WJ X H T s A M){k:Nat}{p:AI×AI}(hp:A.hs[k]? =some p):∃m,M.hands[k]? =some m/\HdO X.D H T s k p m:=by
 have hl:k<M.hands.length:=by rw[<- j.jd.lh];exact(cL hp).1
 exact⟨_,bG hl,j.jd.hd k p _ hp (bG hl)⟩
theorem WJ.handOf(j:WJ X H T s A M){h t:Nat}(o:zH M h t):∃p m,A.hs[h]? =some p/\M.hands[h]? =some m/\m.2[t]? =some (aY M h t)/\t<m.2.length/\HdO X.D H T s h p m:=by
 obtain⟨m,hm,hk,hl⟩:=Ze5 o;have a:h<A.hs.length:=by rw[j.jd.lh];exact(cL hm).1
 exact⟨_,m,bG a,hm,hk,hl,j.jd.hd h _ m (bG a) hm⟩
theorem WJ.fresh(j:WJ X H T s A M){l:AI}{o:HO}{v:Nat×Nat}(h:H l=none):WJ X (upd H l o) (fL T l v) s A M:=
 j.mv (H':=upd H l o) (T':=fL T l v) ⟨λb u e _ _=>by rw[aB (aF e h)];exact e,λb u e=>gF (aF e h)⟩ λb u e _=>by rw[aB (aF e h)];exact e
end
theorem Zzi{t:Int}(h:0<=t/\t<4):Builtin.bitAnd t 1=t % 2/\(Builtin.bitAnd t 2=0↔¬ t / 2 % 2=1):=by
 have:t=0\/t=1\/t=2\/t=3:=δ
 rcases this with rfl | rfl | rfl | rfl<;>decide
section
variable {K:aD}{X:Cs}{H:Hp}{Q:VK}{E:XK}{n:ν}{bk ct:ν}
theorem Zig{hp:AI}{pl:V}(T:j6 K X)(q:Kf X.H hp pl H Q):Rh K ξ [↑hp,some pl] H:=by
 obtain⟨a,ca,room,used,born,cs,⟨⟨b,h1⟩,h2⟩,q⟩:=q;unfold Rh;rcases a with rfl | ⟨i,rfl⟩
 ·apply q
 ·apply lR ci ci
  ·ext;rw[show atO cs (.int i)=.non from if_neg δ]at q;exact q
  ·rw[show atO cs (.int i)=(cs[i.toNat]?).getD .non from if_pos δ]at q;apply aH h1 T.c.cX T.c.bZ bU ?_;apply eV (cA.of h2) ?_;apply lR (λy=>?_) (λy=>?_)
   ·ext;rw[List.getElem?_eq_none_iff.mpr δ]at q;exact q
   ·apply aH h1 T.c.cX T.c.bZ bU ?_;ext;have hl:i.toNat<cs.length:=δ
    refine gQ (cA.of h2) (je δ (bG hl)) ?_;rw[bG hl]at q;exact q
theorem Zfv{hp:AI}{pl:V}(T:j6 K X)(q:Dl X hp pl H Q):Le K (iV X.H) ξ [↑hp,some pl,none] H:=by
 obtain⟨x,rfl,Tg,s,A,M,j,rfl,q⟩:=q;unfold Le;exists _,_,rfl,tV x,_,_,_,_,_,j.hpO;rcases j.look x with ⟨b,a⟩ | ⟨i,c,p,rfl,h0,d,_,_,a,⟨t1,t2,⟨e,o1⟩,o2⟩⟩
 ·rw[a];have:wW M x=none:=by
   cases x with
   | none=>rfl
   | some i=>show(cellAt M i).map _=none;rw[show cellAt M i=none from b];rfl
  rw[this]at q;apply q
 ·rw[a];have:wW M (some i)=some c.birth:=by show(cellAt M i).map _=_;rw[d];rfl
  rw[this]at q;apply aH o1 T.c.dJ T.c.eE fK ?_;exact q
theorem Jo{p:AI}{f:Int}(T:j6 K X)(q:yS X p f H Q):qp K ξ [↑p,some (.int f)] H:=by
 obtain⟨Tg,s,i,r,c,⟨t1,t2,⟨a,o1⟩,o2⟩,rfl,q⟩:=q;unfold qp;apply lR ci ci
 ·rw[decide_eq_true z,Bool.true_and]at q;apply aH o1 T.c.dJ T.c.gj iT ?_;apply eV (cA.of o2) ?_;ext;rw[aX];exact q
 ·rw[decide_eq_false z,Bool.false_and]at q;apply q
theorem Zde{wo:AI}{h:Int}(T:j6 K X)(q:Dh X wo h H Q):K9 K ξ [↑wo,some (.int h)] H:=by
 obtain⟨Tg,s,A,M,k,p,j,rfl,rfl,hp,q⟩:=q;obtain⟨d1,ow⟩:=j.jb.ow;obtain⟨m,hm,⟨t1,t2,⟨a,o1⟩,o2⟩⟩:=j.hand hp;unfold K9;apply aH ow T.cW T.nWd dj ?_;apply gQ (cA.of j.jb.on) (fW (v:=.ref p.1) (by rw[bV,hp];rfl)) ?_;refine aH o1 T.cD T.nDs kJ ?_;exact q
theorem Zby{wo p:AI}(T:j6 K X)(q:yR X wo p H Q):Fj K ξ [↑wo,↑p] H:=by
 obtain⟨Tg,s,A,M,i,r,c,j,rfl,⟨t1,t2,⟨a,o1⟩,o2⟩,rfl,q⟩:=q;obtain⟨d1,ow⟩:=j.jb.ow;obtain⟨d2,os⟩:=j.js.os;unfold Fj;apply aH o1 T.c.dJ T.c.mV WL ?_;apply aH ow T.cW T.JN aV ?_;apply aH os T.cS T.n1 jH ?_;apply q
end
theorem Zxb{y:Int}:Builtin.bitAnd y 1=y % 2:=by
 unfold Builtin.bitAnd
 by_cases h:0<=y
 ·rw[decide_eq_true h,decide_eq_true (show(0:Int)<=1 by decide)];show((y.toNat &&& 1:Nat):Int)=_;rw[Nat.and_one_is_mod];omega
 ·rw[decide_eq_false h,decide_eq_true (show(0:Int)<=1 by decide)];show(1:Int) - ((1 &&& (Builtin.bitNot y).toNat:Nat):Int)=_;rw[Nat.and_comm,Nat.and_one_is_mod];unfold Builtin.bitNot;omega
section
variable {K:aD}{X:Cs}{H:Hp}{Q:VK}{E:XK}{n:ν}{bk ct:ν}{CE CF CN:AI}
theorem Zb1{wo:AI}{h:Int}(T:j6 K X)(q:yQ X wo h H Q):Fg K ξ [↑wo,some (.int h)] H:=by
 obtain⟨Tg,s,A,M,k,j,rfl,rfl,q⟩:=q;obtain⟨d1,ow⟩:=j.jb.ow;obtain⟨d2,os⟩:=j.js.os;unfold Fg;apply aH ow T.cW T.JN aV ?_;apply aH os T.cS T.n4 gk ?_;ext;rw[Zxb,Int.toNat_natCast];exact q
theorem Qi{wo:AI}{v:V}(T:j6 K X)(q:Df X wo v H Q):
  xM K ξ [↑wo,some v] H:=by
 obtain⟨Tg,s,A,M,j,rfl,b,q⟩:=q;obtain⟨d1,ow⟩:=j.jb.ow;obtain⟨d2,ok⟩:=j.jb.ok;obtain⟨a,_⟩:=Zzi b;unfold xM;apply aH ow T.cW T.nWk iu ?_;apply aH ok T.cK T.nKt fD ?_;ext;rw[a];refine lR ci ci
 ·apply⟨bD ζ,λl hl=>?_⟩;have:=q l hl;rw[if_neg (by unfold old?;rw[decide_eq_true_iff];omega)]at this;exact this
 ·apply⟨bD ζ,λl hl=>?_⟩;have:=q l hl;rw[if_pos (by unfold old?;rw[decide_eq_true_iff];omega)]at this;exact this
theorem Qj{wo:AI}{h:Int}{v:V}(T:j6 K X)(q:Dg X wo h v H Q):
  xN K (NB X) ξ [↑wo,some (.int h),some v] H:=by
 obtain⟨Tg,s,A,M,k,j,rfl,b,rfl,q⟩:=q;obtain⟨d1,ow⟩:=j.jb.ow;obtain⟨d2,ok⟩:=j.jb.ok;obtain⟨_,a⟩:=Zzi b;unfold xN;apply aH ow T.cW T.nWk iu ?_;apply aH ok T.cK T.nKt fD ?_;apply lR ci ci
 ·apply⟨bD ζ,λl hl=>?_⟩;have:=q l hl;have e:mR M=false:=by unfold mR;exact decide_eq_false (a.mp z)
  rw[e,Bool.false_and,if_neg ε]at this;exact this
 ·have e:mR M=true:=by unfold mR;exact decide_eq_true (Decidable.not_not.mp λw=>z (a.mpr w))
  rw[e,Bool.true_and]at q;exists _,_,rfl,Tg,s,A,M,k,j,rfl,rfl;cases hl:cU M k with
  | true=>
   rw[hl]at q;apply⟨bD ζ,λl hl=>?_⟩;exact q l hl
  | false=>
   rw[hl]at q;apply⟨bD ζ,λl hl=>?_⟩;exact q l hl
theorem Zif{wo:AI}{h t:Int}(T:j6 K X)(q:Ke X CE wo h t H Q E):
  Rb K CE (iV X.H) (gY X) E ξ [↑wo,some (.int h),some (.int t),none] H:=by
 obtain⟨Tg,s,A,M,hn,tn,j,rfl,rfl,rfl,ok,k,g⟩:=q;obtain⟨d1,ow⟩:=j.jb.ow;obtain⟨p,m,hp,hm,hs,hl,⟨t1,t2,o1,o2⟩⟩:=j.handOf ok;unfold Rb;apply aH ow T.cW T.Vb bI ?_;exists _,_,rfl,Tg,s,A,M,hn,p,j,rfl,rfl,hp;apply gQ (cA.of o2) (fW (v:=oV (aY M hn tn)) (by rw[bV,hs];rfl)) ?_;exists _,_,rfl,tV _,_,_,_,_,_,j.hpO;rcases j.look (aY M hn tn)with ⟨d,b⟩ | ⟨i,c,l,f,h0,e,_,a,b,ce⟩
 ·rw[b];apply⟨ε,k d⟩
 ·rw[b];apply g i c l f h0 e a ce
theorem Zc3{wo:AI}{h t f:Int}(T:j6 K X)(q:yU X CE CF wo h t f H Q E):
  Fl K X.C CF (NK X) (ux X CE) E ξ [↑wo,some (.int h),some (.int t),some (.int f),none] H:=by
 obtain⟨Tg,s,A,M,hn,tn,fn,j,rfl,rfl,rfl,rfl,ok,g,d,e⟩:=q;unfold Fl;apply⟨_,_,_,rfl,Tg,s,A,M,hn,tn,j,rfl,rfl,rfl,ok,g,λi c p b h0 a hp ce=>?_⟩;obtain⟨t1,t2,⟨k,o1⟩,o2⟩:=id ce;exists p.1,k,_,rfl,o1,De;exists _,_,rfl,Tg,s,_,p,c,ce,rfl
 by_cases z:fn<c.fl.length
 ·rw[show(decide ((0:Int)<=(fn:Int)) && decide ((fn:Int)<c.fl.length))=true from by simp;omega];apply aH o1 T.c.dJ T.c.gj iT ?_;exact e i c p b h0 a hp ce z
 ·rw[show(decide ((0:Int)<=(fn:Int)) && decide ((fn:Int)<c.fl.length))=false from by simp;omega];apply⟨ε,d i c b h0 a (List.getElem?_eq_none_iff.mpr δ)⟩
theorem Ztb{wo:AI}{pl b:Int}(T:j6 K X)(q:Ziu X wo pl b H Q):Zjk K (iV X.H) (iI X) ξ [↑wo,some (.int pl),some (.int b),none] H:=by
 obtain⟨Tg,s,A,M,j,rfl,q⟩:=q;obtain⟨d1,ow⟩:=j.jb.ow;obtain⟨d2,os⟩:=j.js.os;unfold Zjk;apply aH ow T.cW T.Vb bI ?_;exists _,_,rfl,tV (some pl),_,_,_,_,_,j.hpO;unfold lA at q;rcases j.look (some pl)with ⟨d,a⟩ | ⟨i,c,p,e,h0,f,_,hp,a,ce⟩
 ·rw[show atO dy (.int pl)=.non from a];rw[show cellAt M pl=none from d]at q;apply q
 ·cases e;rw[show atO dy (.int pl)=.ref p.1 from a];rw[f]at q;dsimp only at q;obtain⟨t1,t2,⟨g,o1⟩,o2⟩:=id ce;apply aH o1 T.c.dJ T.c.eE fK ?_;apply Wu ci ci
  ·rw[if_neg z]at q;apply q
  ·rw[if_pos z]at q;apply aH ow T.cW T.JN aV ?_;apply aH os T.cS T.n2 cR ?_;apply lR (λy=>?_) (λy=>?_)
   ·exists _,_,rfl,Tg,s,A,M,_,p,c,j,rfl,ce,rfl;ext;have:decide (M.sw.phase="give"/\c.tone≠M.sw.sense)=!decide (c.tone=M.sw.sense):=by simp[y]
    rw[this]at q;exact q
   ·have:decide (M.sw.phase="give"/\c.tone≠M.sw.sense)=false:=decide_eq_false λw=>y w.1;rw[this]at q;exact q
theorem Zsi{wo:AI}{pl:V}(T:j6 K X)(q:Zir X wo pl H Q):Zjj K (iV X.H) (iI X) ξ [↑wo,some pl,none,none] H:=by
 obtain⟨x,rfl,Tg,s,A,M,w,u,j,rfl,E,q⟩:=q;obtain⟨d1,ow⟩:=j.jb.ow;obtain⟨d2,os⟩:=j.js.os;unfold Zjj;apply aH ow T.cW T.JN aV ?_;apply aH ow T.cW T.Vb bI ?_;exists _,_,rfl,tV x,_,_,_,_,_,j.hpO;apply aH os T.cS T.n2 cR ?_;ext;have stay:bK M x=(none,M)->Q .non H:=λe=>by
  have:=q H (cY.refl w);rw[e]at this;exact this j
 refine Wu ci ci
 ·apply stay (RX z x)
 ·rcases j.look x with ⟨B,m⟩ | ⟨i,c,p,rfl,h0,t,hc,hp,m,ce⟩
  ·rw[m];apply stay ?_;cases x with
   | none=>rfl
   | some i=>unfold bK;dsimp only;rw[show cellAt M i=none from B]
  ·rw[m];obtain⟨t1,t2,⟨dx,o1⟩,o2⟩:=id ce;exists _,_,rfl,Tg,s,A,M,_,p,c,j.w0,rfl,ce,rfl
   by_cases y:c.tone=M.sw.sense
   ·rw[decide_eq_true y];apply stay ?_;unfold bK;dsimp only;rw[t];dsimp only;rw[if_neg λw=>w.2 y]
   ·rw[decide_eq_false y];have I:bK M (some i)=(some c.birth,{ setCell M i { c with tone:=M.sw.sense }with sw:={ M.sw with grey:=M.sw.grey++[i] } }):=by
     unfold bK;dsimp only;rw[t];dsimp only;rw[if_pos ⟨z,y⟩]
    rw[I]at q;apply aH os T.cS T.n1 jH ?_;apply⟨p.1,X.C,dx,_,rfl,o1,T.c.dJ,T.c.mV,by show 5<1000;decide,?_⟩;rw[Uh];obtain⟨a,b⟩:=j.cell w u (dx:=dx) (tone:=M.sw.sense) (load:=c.load) hp ce;generalize upd H p.1 (.ins X.C dx (jr c.birth c.bulk M.sw.sense c.load p.2))=v at a b ⊢;obtain⟨d3,k⟩:=b.js.os;obtain⟨P,d,D⟩:=b.jc.at (i:=i.toNat) (c:={ c with tone:=M.sw.sense,load:=c.load }) (by rw[List.getElem?_set_self (cL hc).1]);rw[hp]at d;cases d;apply aH k T.cS T.n3 oY ?_;ext;have r:=E z;refine⟨.inl ⟨rfl,_,cA.of b.js.og⟩,?_⟩;exists _,_,_,rfl,rfl,b.js.og,?_
    ·rw[aX];exact Nat.lt_of_le_of_lt r ε
    obtain⟨h,l⟩:=b.Zup a.wt u (g:=M.sw.grey++[i]);have N:(M.sw.grey.map V.int++[V.int i])=(M.sw.grey++[i]).map V.int:=by rw[List.map_append];rfl
    show bw _ _ _ (upd v A.gr (.lst (M.sw.grey.map V.int++[oV (some i)])));rw[show(M.sw.grey.map V.int++[oV (some i)])=(M.sw.grey++[i]).map V.int from N];generalize upd v A.gr (.lst ((M.sw.grey++[i]).map V.int))=F at h l ⊢;obtain⟨O,f,o⟩:=l.jc.at (i:=i.toNat) (c:={ c with tone:=M.sw.sense,load:=c.load }) (by show(M.cells.set _ _)[_]? =_;rw[List.getElem?_set_self (cL hc).1]);rw[hp]at f;cases f;obtain⟨_,_,⟨L,J⟩,_⟩:=o;apply aH J T.c.dJ T.c.eE fK ?_;exact q F (a.trans h) l
theorem Zvr{Tg:Tg}{z:Str}:∀{ns:AF}{names:List cx},Al (NmO H Tg) ns names->(yF names z=none/\nD (wQ names ns) (Sum.inr z)=none)\/∃p b t,yF names z=some (p,b)/\nD (wQ names ns) (Sum.inr z)=↑t/\H t=some (.tup [.int p,.int b])/\Tg t=(0,0):=by
 intro ns names h
 induction h with
 | nil=>exact .inl ⟨rfl,rfl⟩
 | @cons t m ns names h1 _ ih=>
  by_cases e:m.1=z
  ·refine .inr ⟨m.2.1,m.2.2,t,?_,?_,h1.2,h1.1⟩
   ·unfold yF;rw[List.find?_cons_of_pos (by simpa using e)];rfl
   ·show(List.find? _ ((Sum.inr m.1,V.ref t)::wQ names ns)).map _=_;rw[List.find?_cons_of_pos (by simpa using e)];rfl
  ·have g:yF (m::names) z=yF names z:=by unfold yF;rw[List.find?_cons_of_neg (by simpa using e)]
   have v:nD (wQ (m::names) (t::ns)) (Sum.inr z)=nD (wQ names ns) (Sum.inr z):=by
    show(List.find? _ ((Sum.inr m.1,V.ref t)::wQ names ns)).map _=_;rw[List.find?_cons_of_neg (by simpa using e)];rfl
   rw[g,v];exact ih
theorem Rm{wo:AI}{z:Str}(T:j6 K X)(q:rP X CN wo z H Q E):
  xO K CN (Zj0 X) E ξ [↑wo,some (.str z),none,none] H:=by
 obtain⟨Tg,s,A,M,j,rfl,g,f⟩:=q;obtain⟨d1,ow⟩:=j.jb.ow;obtain⟨tm,om,nms⟩:=j.jn;unfold xO;apply aH ow T.cW T.nWn iR ?_;refine⟨_,_,rfl,Zqr om,?_⟩;rcases Zvr (z:=z) nms with ⟨c,a⟩ | ⟨p,b,t,c,a,e,_⟩
 ·rw[a];apply⟨ε,g c⟩
 ·rw[a,show(!(some (V.ref t)).isSome)=false from rfl];apply aH ow T.cW T.nWn iR ?_;apply⟨_,_,rfl,by have:=Zqr (z:=z) om;rw[a]at this;exact this,?_⟩;exists t,_,0,_,rfl,rfl,dU.of e,rfl;apply aH ow T.cW T.nWn iR ?_;apply⟨_,_,rfl,by have:=Zqr (z:=z) om;rw[a]at this;exact this,?_⟩;exists t,_,1,_,rfl,rfl,dU.of e,rfl;exists _,_,_,rfl,Tg,s,A,M,j.w0,rfl;have:=f p b c;cases d:lA M p b with
  | true=>
   rw[d]at this;apply this
  | false=>
   rw[d]at this;apply this
theorem cY.new{s:Nat}{H a:Hp}{T c:Tg}{l:AI}{o d:HO}(e:cY s H a T c)(hl:H l=none)(hx:a l=some d):cY s H (upd a l o) T c where
 kp:=λb u h z=>by rw[aB (aF h hl)];exact e.kp b u h z
 al:=λb u h=>by rw[aB (aF h hl)];exact e.al b u h
 tg:=e.tg
 wt:=λb h=>e.wt b (by
  by_cases z:b=l
  ·rw[z,ao]at h;cases h
  ·rw[aB z]at h;exact h)
theorem cY.fresh{s:Nat}{H:Hp}{T:Tg}{l:AI}{o:HO}{v:Nat×Nat}(w:WT H T)(hl:H l=none):cY s H (upd H l o) T (fL T l v) where
 kp:=λb u h z=>by rw[aB (aF h hl)];exact h
 al:=λb u h=>⟨u,by rw[aB (aF h hl)];exact h⟩
 tg:=λb u h=>gF (aF h hl)
 wt:=λb h=>by
  by_cases z:b=l
  ·rw[z,ao]at h;cases h
  ·rw[aB z]at h;rw[gF z];exact w b h
theorem Zhf{M:Wm}{x:AA}:(bK M x).2.sw.phase=M.sw.phase/\(bK M x).2.sw.grey.length<=M.sw.grey.length+1/\(bK M x).2.tells=M.tells/\(bK M x).2.names=M.names:=by
 cases x with
 | none=>exact⟨rfl,Nat.le_succ _,rfl,rfl⟩
 | some i=>
  unfold bK;dsimp only;cases cellAt M i with
  | none=>exact⟨rfl,Nat.le_succ _,rfl,rfl⟩
  | some c=>
   dsimp only
   by_cases z:M.sw.phase="walk"/\c.tone≠M.sw.sense
   ·rw[if_pos z];exact⟨rfl,by show(M.sw.grey++[i]).length<=_;rw[List.length_append];exact Nat.le_refl _,rfl,rfl⟩
   ·rw[if_neg z];exact⟨rfl,Nat.le_succ _,rfl,rfl⟩
theorem Mh{M:Wm}{x:AA}:(bK M x).2.hands=M.hands:=by
 cases x with
 | none=>rfl
 | some i=>
  unfold bK;dsimp only;cases cellAt M i with
  | none=>rfl
  | some c=>
   dsimp only;split<;>rfl
theorem Zhg{M:Wm}{x:AA}{k:Nat}{c:Ce}(h:M.cells[k]? =some (some c)):∃c',(bK M x).2.cells[k]? =some (some c')/\c'.fl=c.fl/\c'.birth=c.birth/\c'.bulk=c.bulk/\c'.load=c.load:=by
 cases x with
 | none=>exact⟨c,h,rfl,rfl,rfl,rfl⟩
 | some i=>
  unfold bK;dsimp only;cases hc:cellAt M i with
  | none=>exact⟨c,h,rfl,rfl,rfl,rfl⟩
  | some d=>
   dsimp only;split
   ·show ∃c',(M.cells.set i.toNat _)[k]? =_/\_
    by_cases z:i.toNat=k
    ·subst z;obtain⟨_,hd⟩:=cB.mp hc;rw[h]at hd;cases hd;exact⟨_,List.getElem?_set_self (cL h).1,rfl,rfl,rfl,rfl⟩
    ·rw[List.getElem?_set_ne z];exact⟨c,h,rfl,rfl,rfl,rfl⟩
   ·exact⟨c,h,rfl,rfl,rfl,rfl⟩
theorem gU:∀{l:Au}{M:Wm}{x:AA},aP M (l++[x])=((aP M l).1++VR (bK (aP M l).2 x).1,(bK (aP M l).2 x).2)
 | [],M,x=>by
  show(VR (bK M x).1++[],(bK M x).2)=([]++VR (bK M x).1,(bK M x).2);rw[List.append_nil,List.nil_append]
 | y::l,M,x=>by
  show(VR (bK M y).1++(aP (bK M y).2 (l++[x])).1,(aP (bK M y).2 (l++[x])).2)=_;rw[gU];show _=((VR (bK M y).1++(aP (bK M y).2 l).1)++_,_);rw[List.append_assoc];rfl
theorem qL:∀{l:Au}{M:Wm},(aP M l).2.sw.phase=M.sw.phase/\(aP M l).2.sw.grey.length<=M.sw.grey.length+l.length
 | [],M=>⟨rfl,Nat.le_refl _⟩
 | y::l,M=>by
  obtain⟨a,b,_⟩:=Zhf (M:=M) (x:=y);obtain⟨c,d⟩:=qL (l:=l) (M:=(bK M y).2);refine⟨c.trans a,?_⟩;show(aP (bK M y).2 l).2.sw.grey.length<=_;rw[List.length_cons];omega
theorem lK:∀{l:Au}{M:Wm},(aP M l).1.length<=l.length
 | [],M=>Nat.le_refl _
 | y::l,M=>by
  have:=lK (l:=l) (M:=(bK M y).2);show(VR (bK M y).1++(aP (bK M y).2 l).1).length<=_;rw[List.length_append,List.length_cons];have:(VR (bK M y).1).length<=1:=by cases (bK M y).1<;>simp[VR]
  omega
theorem Ze6{wo pl:AI}(T:j6 K X)(q:Dj X wo pl H Q):La K (Zr5 X) ξ [↑wo,↑pl,none,none,none] H:=by
 obtain⟨d,Tg,s,A,M,w,s0,j,rfl,I,hx,hg,q⟩:=q;have D:=I.get j;unfold La;apply⟨bD ζ,λl hl=>?_⟩;have f:pl≠l:=aF D hl;have r:cY s H eI Tg (fL Tg l (s+1,0)):=cY.fresh w hl;have R:WJ X eI (fL Tg l (s+1,0)) s A M:=j.fresh hl;have g1:upd H l (.lst []) l=some (.lst []):=ao;have tl:fL Tg l (s+1,0) l=(s+1,0):=eF;have u:PlO eI (fL Tg l (s+1,0)) A M pl d:=by
  rcases I with ⟨h1,h2⟩ | h
  ·exact .inl ⟨(aB f).trans h1,(gF f).trans h2⟩
  ·exact .inr h
 have C:upd H l (.lst []) pl=some (.lst (d.map oV)):=(aB f).trans D;generalize upd H l (.lst [])=H1 at r R g1 C u ⊢;generalize fL Tg l (s+1,0)=B at r R tl u;apply⟨pl,rfl,⟨_,cA.of C⟩,forL (d.map oV) (λi S t=>∃P O,S=[↑A.wo,↑pl,↑l,P,O]/\cY s H t Tg B/\WJ X t B s A (aP M (d.take i)).2/\t l=some (.lst ((aP M (d.take i)).1.map V.int))/\PlO t B A (aP M (d.take i)).2 pl d) ⟨_,_,rfl,r,R,g1,u⟩ (by rintro _ _ _ _ ⟨_,_,_,_,j,_,e⟩;exact cA.of (e.get j)) ?_ ?_⟩
 ·rintro i x S t hi ⟨P,O,rfl,o,N,L,J⟩;obtain⟨y,hy,rfl⟩:∃y,d[i]? =some y/\oV y=x:=by
   rw[bV]at hi;obtain⟨y,a,b⟩:=Option.map_eq_some_iff.mp hi;exact⟨y,a,b⟩
  have il:=(cL hy).1;have v:d.take b9=d.take i++[y]:=by
   rw[List.take_add_one,hy];rfl
  obtain⟨gp,gl⟩:=qL (l:=d.take i) (M:=M);have nl:=lK (l:=d.take i) (M:=M);have tk:(d.take i).length<=100:=by rw[List.length_take];omega
  apply⟨_,_,rfl,y,rfl,B,s,A,_,o.wt,s0,N,rfl,λz=>?_,λHy g Y=>?_⟩
  ·have:=hg (gp.symm.trans z);omega
  have F:Hy l=some (.lst ((aP M (d.take i)).1.map V.int)):=g.kp _ _ L (by rw[tl];show s+1≠s;omega);have Z:PlO Hy B A (bK (aP M (d.take i)).2 y).2 pl d:=by
   rcases J with ⟨h1,h2⟩ | ⟨k,p,m,h1,h2,W,U⟩ | ⟨k,p,c,h1,h2,W,U⟩
   ·exact .inl ⟨g.kp _ _ h1 (by rw[h2];exact λz=>s0 z.symm),h2⟩
   ·exact .inr (.inl ⟨k,p,m,h1,by rw[Mh];exact h2,W,U⟩)
   ·obtain⟨c',e1,e2,_⟩:=Zhg (x:=y) h2;exact .inr (.inr ⟨k,p,c',h1,e1,W,by rw[e2];exact U⟩)
  have E:=o.trans g;ext;cases hn:(bK (aP M (d.take i)).2 y).1 with
  | none=>
   dsimp only[oV];apply⟨_,_,rfl,E,?_,?_,by rw[v,gU];exact Z⟩
   ·rw[v,gU];exact Y
   ·rw[v,gU];show Hy l=some (.lst (((aP M (d.take i)).1++VR (bK (aP M (d.take i)).2 y).1).map V.int));rw[hn];show Hy l=some (.lst (((aP M (d.take i)).1++[]).map V.int));rw[List.append_nil];exact F
  | some b=>
   dsimp only[oV];exists .inl ⟨rfl,_,cA.of F⟩;exists _,_,_,rfl,rfl,F,?_
   ·rw[aX];exact Nat.lt_of_le_of_lt (show _<=100 by omega) ε
   exists _,_,rfl,cY.new E hl F,?_,?_
   ·rw[v,gU];exact Y.other (s':=s+1) (cY.upd g.wt F (by rw[tl])) δ δ
   ·rw[v,gU,ao];show some (HO.lst _)=some (HO.lst (((aP M (d.take i)).1++VR (bK (aP M (d.take i)).2 y).1).map V.int));rw[hn,List.map_append];rfl
   ·rw[v,gU];rcases Z with ⟨h1,h2⟩ | h
    ·exact .inl ⟨by rw[aB f];exact h1,h2⟩
    ·exact .inr h
 ·rintro S t ⟨P,O,rfl,o,N,L,J⟩;ext;rw[show(d.map oV).length=d.length from aX _,List.take_length]at N L;exact q t B l o N L ⟨hl,by rw[tl];exact .inr rfl⟩
end
theorem lE{M:Wm}{h k:Nat}{x:AA}{m:Str×Au}(hm:M.hands[h]? =some m):{ M with hands:=M.hands.set h (m.1,m.2.set k x) }=setSlot M h k x:=by
 have e:=Vx (k:=k) (x:=x) hm;show _={ M with hands:=_ };rw[show(M.hands.modify h λm=>(m.1,m.2.set k x))=M.hands.set h (m.1,m.2.set k x)from e]
def S9(d:kh):Prop:=∃h s a bulk,d=.make h s a bulk
def Zf5(d:kh):Prop:=∃h s t f,d=.get h s t f
def Zf2(d:kh):Prop:=∃h t f s,d=.put h t f s
def Tq(d:kh):Prop:=∃h s t,d=.copy h s t
def Tp(d:kh):Prop:=∃h s,d=.drop h s
def Tj(d:kh):Prop:=∃h s g t,d=.give h s g t
def Hr(d:kh):Prop:=∃h t load,d=.write h t load
def S8(d:kh):Prop:=∃h t,d=.read h t
def isName(d:kh):Prop:=∃h t word,d=.name h t word
def S7(d:kh):Prop:=∃h s word,d=.seek h s word
section
variable {X:Cs}{H Hx:Hp}{T Tx:Tg}{s:Nat}{A Ax:Wa}{M M':Wm}{d:kh}{e:Ev}{wo:AI}{Q:VK}
theorem cY.free{s:Nat}{H Hx:Hp}{T Tx:Tg}{l:AI}(e:cY s H Hx T Tx)(h:Hx l=none):H l=none:=by
 cases z:H l with
 | none=>rfl
 | some o=>obtain⟨b,a⟩:=e.al l o z;rw[h]at a;cases a
theorem ev0(f:s≠0)(k:∀e M',jM M d=.ok (e,M')->∀H' T' g a,cY s H H' T T'->WJ X H' T' s g M'->g.wo=wo->EvN H H' T' s a e->Q (.ref a) H')(i:jM M d=.ok (e,M'))(hn:e.notes=[])(st:cY s H Hx T Tx)(j:WJ X Hx Tx s Ax M')(aw:Ax.wo=wo){l a:AI}(hl:Hx l=none)(ha:upd Hx l (.lst []) a=none):
  Q (.ref a) (upd (upd Hx l (.lst [])) a (.tup [.str e.word,oV e.thing,.ref l])):=by
 have h:=aL hl (.lst []);have b:=aL ha (.tup [.str e.word,oV e.thing,.ref l]);have c:=h.trans b;refine k e M' i _ Tx Ax a (st.trans (cY.same st.wt c)) (j.same c) aw ⟨l,⟨cY.free st hl,(rB st.wt f hl).2,(rB st.wt f (h.free ha)).2⟩,ao,?_⟩;rw[hn];exact b _ _ ao
theorem ev1(i:s≠0){l a:AI}(b:H l=none/\TgO s (Tx l))(h:∀e M',jM M d=.ok (e,M')->∀H' T' f a,cY s H H' T T'->WJ X H' T' s f M'->f.wo=wo->EvN H H' T' s a e->Q (.ref a) H')(g:jM M d=.ok (e,M'))(st:cY s H Hx T Tx)(j:WJ X Hx Tx s Ax M')(aw:Ax.wo=wo)(hl:Hx l=some (.lst (e.notes.map V.int)))(ha:Hx a=none):
  Q (.ref a) (upd Hx a (.tup [.str e.word,oV e.thing,.ref l])):=by
 have c:=aL ha (.tup [.str e.word,oV e.thing,.ref l]);exact h e M' g _ Tx Ax a (st.trans (cY.same st.wt c)) (j.same c) aw ⟨l,⟨b.1,b.2,(rB st.wt i ha).2⟩,ao,c _ _ hl⟩
end
theorem Kv{M:Wm}{i:Int}{c c':Ce}(h:cellAt M i=some c)(hb:c'.birth=c.birth)(x:AA):wW (setCell M i c') x=wW M x:=by
 cases x with
 | none=>rfl
 | some y=>
  obtain⟨h0,h1⟩:=cB.mp h;show(cellAt (setCell M i c') y).map _=(cellAt M y).map _
  by_cases e:y=i
  ·subst e;rw[h,show cellAt (setCell M y c') y=some c' from cB.mpr ⟨h0,by show(M.cells.set _ _)[_]? =_;rw[List.getElem?_set_self (cL h1).1]⟩];show some c'.birth=some c.birth;rw[hb]
  ·have:cellAt (setCell M i c') y=cellAt M y:=by
    unfold cellAt setCell
    by_cases z:0<=y
    ·rw[if_pos z,if_pos z];show((M.cells.set _ _)[_]?).join=_;rw[List.getElem?_set_ne δ]
    ·rw[if_neg z,if_neg z]
   rw[this]
theorem Zls{M:Wm}{y:AA}(x:AA):wW (bK M y).2 x=wW M x:=by
 cases y with
 | none=>rfl
 | some i=>
  unfold bK;dsimp only;cases hc:cellAt M i with
  | none=>rfl
  | some c=>
   dsimp only
   by_cases z:M.sw.phase="walk"/\c.tone≠M.sw.sense
   ·rw[if_pos z];have e:=Kv (M:=M) (i:=i) (c:=c) (c':={ c with tone:=M.sw.sense }) hc rfl x;cases x with
    | none=>rfl
    | some y=>exact e
   ·rw[if_neg z]
theorem uQ:∀{l:Au}{M:Wm} (x:AA),wW (aP M l).2 x=wW M x
 | [],_,_=>rfl
 | y::l,M,x=>(uQ (l:=l) (M:=(bK M y).2) x).trans (Zls x)
theorem Zpn{b:Bool}{x:AA}:(if b=true then [oV x]else [])=(if b=true then [x]else []).map oV:=by cases b<;>rfl
section
variable {K:aD}{X:Cs}{H:Hp}{Q:VK}{E:XK}{n:ν}{bk ct:ν}{rf:Rf->AI}
theorem Zia{wo dd:AI}(T:j6 K X)(q:uy X rf Tq wo dd H Q E):Q9 K (iQ X) (gY X) ξ [↑wo,↑dd,none,none] H:=by
 obtain⟨Tg,s,A,M,_,⟨h,sl,t,rfl⟩,w,g,j,rfl,od,⟨o1,o2⟩,hc,o,u,hn,y,i⟩:=q;obtain⟨p,m,hp,hm,hs,hl,hd⟩:=j.handOf o2;obtain⟨z,b,_,f⟩:=Ze5 o1;rw[hm]at b;cases b;unfold Q9;exists dd,_,1,_,rfl,rfl,dU.of od,rfl;exists _,_,rfl,Tg,s,A,M,h,p,j,rfl,rfl,hp;exists dd,_,3,_,rfl,rfl,dU.of od,rfl;refine gQ (cA.of hd.o2) (fW (v:=oV (aY M h t)) (by rw[bV,hs];rfl)) ?_;exists dd,_,2,_,rfl,rfl,dU.of od,rfl;refine⟨p.2,_,_,sl,rfl,rfl,hd.o2,oN (by rw[aX];exact f),?_⟩;obtain⟨e,c⟩:=j.slot w g (k:=sl) (x:=aY M h t) hp hm;rw[lE hm]at c;generalize upd H p.2 (.lst ((m.2.map oV).set sl (oV (aY M h t))))=r at e c ⊢;obtain⟨d1,ow⟩:=c.jb.ow;apply aH ow T.cW T.Vb bI ?_;exists _,_,rfl,aY M h t,rfl,Tg,s,A,_,c,rfl;rw[jZ];apply⟨bD ζ,λl hl=>⟨bD ζ,λa ha=>?_⟩⟩;exact ev0 g i (d:=.copy h sl t) rfl rfl e c rfl hl ha
theorem Zi9{wo dd:AI}(T:j6 K X)(q:uy X rf Tp wo dd H Q E):Q8 K (iQ X) (gY X) ξ [↑wo,↑dd,none,none] H:=by
 obtain⟨Tg,s,A,M,_,⟨h,sl,rfl⟩,w,e,j,rfl,od,o1,hc,g,o,hn,r,f⟩:=q;obtain⟨p,m,hp,hm,hs,hl,hd⟩:=j.handOf o1;unfold Q8;exists dd,_,1,_,rfl,rfl,dU.of od,rfl;exists _,_,rfl,Tg,s,A,M,h,p,j,rfl,rfl,hp;exists dd,_,2,_,rfl,rfl,dU.of od,rfl;refine gQ (cA.of hd.o2) (fW (v:=oV (aY M h sl)) (by rw[bV,hs];rfl)) ?_;exists dd,_,2,_,rfl,rfl,dU.of od,rfl;refine⟨p.2,_,_,sl,rfl,rfl,hd.o2,oN (by rw[aX];exact hl),?_⟩;obtain⟨c,b⟩:=j.slot w e (k:=sl) (x:=none) hp hm;rw[lE hm]at b;show bw _ _ _ (upd H p.2 (.lst ((m.2.map oV).set sl (oV none))));generalize upd H p.2 (.lst ((m.2.map oV).set sl (oV none)))=i at c b ⊢;obtain⟨d1,ow⟩:=b.jb.ow;apply aH ow T.cW T.Vb bI ?_;exists _,_,rfl,aY M h sl,rfl,Tg,s,A,_,b,rfl;rw[jZ];apply⟨bD ζ,λl hl=>⟨bD ζ,λa ha=>?_⟩⟩;exact ev0 e f (d:=.drop h sl) rfl rfl c b rfl hl ha
theorem Zi8{wo dd:AI}(T:j6 K X)(q:uy X rf Tj wo dd H Q E):Q7 K (iQ X) (lV X) (gY X) (Dn X) ξ [↑wo,↑dd,none,none,none,none] H:=by
 obtain⟨Tg,s,A,M,_,⟨h,sl,g,t,rfl⟩,w,y,j,rfl,od,⟨o1,o2⟩,hc,D,P,hn,Y,O⟩:=q;obtain⟨p,m,hp,hm,hs,hl,hd⟩:=j.handOf o1;obtain⟨C,S,c,e,J,u,B⟩:=j.handOf o2;unfold Q7;exists dd,_,1,_,rfl,rfl,dU.of od,rfl;exists dd,_,3,_,rfl,rfl,dU.of od,rfl;exists _,_,rfl,Tg,s,A,M,h,p,j,rfl,rfl,hp;exists dd,_,2,_,rfl,rfl,dU.of od,rfl;refine gQ (cA.of hd.o2) (fW (v:=oV (aY M h sl)) (by rw[bV,hs];rfl)) ?_;exists _,_,rfl,Tg,s,A,M,g,C,j,rfl,rfl,c;exists dd,_,4,_,rfl,rfl,dU.of od,rfl;refine⟨C.2,_,_,t,rfl,rfl,B.o2,oN (by rw[aX];exact u),?_⟩;obtain⟨b,l⟩:=j.slot w y (k:=t) (x:=aY M h sl) c e;rw[lE e]at l;generalize upd H C.2 (.lst ((S.2.map oV).set t (oV (aY M h sl))))=N at b l ⊢;apply⟨_,_,_,rfl,Tg,s,A,_,h,l,rfl,P,rfl,λL f=>?_⟩;rw[show(mR (setSlot M g t (aY M h sl)) && !cU (setSlot M g t (aY M h sl)) h)=(mR M && !cU M h)from rfl,Zpn];generalize R:upd N L _=H2;obtain⟨o,I⟩:=nwO f R;apply⟨_,_,rfl,_,Tg,s,A,_,b.wt.same o,y,l.same o,rfl,.inl ⟨I,b.wt _ f⟩,by cases (mR M && !cU M h)<;>simp,D,λV U W z r F i=>?_⟩;obtain⟨d1,ow⟩:=r.jb.ow;apply aH ow T.cW T.Vb bI ?_;exists _,_,rfl,aY M h sl,rfl,U,s,A,_,r,rfl;rw[uQ,jZ];apply⟨bD ζ,λa ha=>?_⟩;exact ev1 y ⟨cY.free b (o.free i.1),i.2⟩ O (d:=.give h sl g t) rfl (b.trans ((cY.same b.wt o).trans z)) r rfl F ha
theorem Zi7{wo dd U:AI}(T:j6 K X)(hF:rf .full=U)(q:uy X rf S9 wo dd H Q E):Q6 K X.H (NP K X.C X.H U) (iQ X) (gY X) E ξ [↑wo,↑dd,none,none,none,none] H:=by
 obtain⟨Tg,s,A,M,_,⟨h,sl,f,bulk,rfl⟩,w,N,j,rfl,od,⟨o1,m0,m1,b0⟩,hc,hg,ht,hn,hE,hQ⟩:=q;obtain⟨p,m,hp,hm,hs,hl,hd⟩:=j.handOf o1;obtain⟨d1,ow⟩:=j.jb.ow;obtain⟨d2,os⟩:=j.js.os;obtain⟨th,tc,⟨d3,oh⟩,oc⟩:=j.jh;have hcs:A.cs.length<=900:=by rw[j.jc.lc];exact hc
 unfold Q6;exists dd,_,1,_,rfl,rfl,dU.of od,rfl;exists _,_,rfl,Tg,s,A,M,h,p,j,rfl,rfl,hp;exists dd,_,3,_,rfl,rfl,dU.of od,rfl;exists dd,_,4,_,rfl,rfl,dU.of od,rfl;apply aH ow T.cW T.Vb bI ?_;refine⟨A.hp,d3,_,rfl,oh,Wv,?_⟩;apply aH ow T.cW T.JN aV ?_;apply aH os T.cS T.n1 jH ?_;apply⟨_,_,_,_,rfl,A.ca,d3,_,_,_,_,oh,oc,?_,by rw[aX];omega,m0,m1,λhf H' sm=>?_,λhf R fa D B F W a1 a2 co=>?_⟩
 ·intro y hy;obtain⟨o,ho,rfl⟩:=List.mem_map.mp hy;cases o with
  | none=>exact .inl rfl
  | some g=>
   obtain⟨i,P,I⟩:=List.getElem_of_mem ho;have e:=j.jc.ce i _ _ (bG P) (bG (by rw[<- j.jc.lc];exact P));rw[I]at e;cases u:M.cells[i]'(by rw[<- j.jc.lc];exact P)with
   | none=>rw[u]at e;exact e.elim
   | some c=>
    rw[u]at e;obtain⟨_,_,⟨dx,o1⟩,_⟩:=(show CeO X.C H Tg s i g c from e);exact .inr ⟨g.1,X.C,dx,_,rfl,o1,T.c.dJ,T.c.PX⟩
 ·rw[<- hF];refine hE .full ?_ H' sm;show(if _ then _ else _)=_;rw[if_neg δ]
 ·obtain⟨⟨dp,Z⟩,Y⟩:=co;have J:R≠fa:=kE Z Y aS;obtain⟨T1,r,S⟩:=j.put w N (H':=D) (dx:=d3) (used':=M.used+(1+f+bulk)) (p:=R) (fa:=fa) (c:=⟨M.born+1,bulk,M.sw.sense,0,List.replicate f.toNat none⟩)
   (λb o hb n1 n2=>W b o hb (by simp[n1,n2])) a1 a2 B F J ⟨dp,Z⟩ (by rw[Y,List.map_replicate];rfl)
  have I:((A.cs.map pV).idxOf V.non:Int)=(gZ M.cells:Nat):=by rw[(Zfa Zoi A.cs).1,j.jc.fst]
  ext;rw[I];refine⟨dd,_,2,_,rfl,rfl,dU.of (W _ _ od ?_),rfl,?_⟩
  ·intro z;rcases List.mem_cons.mp z with z | z
   ·rw[z,oh]at od;cases od
   ·rw[List.mem_singleton.mp z,oc]at od;cases od
  have L:=S.jd.hd h p m hp hm;refine⟨p.2,_,_,sl,rfl,rfl,L.o2,oN (by rw[aX];exact hl),?_⟩;obtain⟨t,v⟩:=S.slot r.wt N (k:=sl) (x:=some (gZ M.cells:Nat)) hp hm;rw[lE (M:={ M with used:=M.used+(1+f+bulk),born:=M.born+1,cells:=jG M.cells ⟨M.born+1,bulk,M.sw.sense,0,List.replicate f.toNat none⟩ }) hm]at v;show bw _ _ _ (upd D p.2 (.lst ((m.2.map oV).set sl (oV (some (gZ M.cells:Nat))))));generalize upd D p.2 (.lst ((m.2.map oV).set sl (oV (some (gZ M.cells:Nat)))))=H2 at t v ⊢;obtain⟨d5,O⟩:=v.jb.ow;apply aH O T.cW T.Vb bI ?_;exists _,_,rfl,some (gZ M.cells:Nat),rfl,T1,s,_,_,v,rfl;rw[jZ];rw[show wW { M with used:=M.used+(1+f+bulk),born:=M.born+1,cells:=jG M.cells ⟨M.born+1,bulk,M.sw.sense,0,List.replicate f.toNat none⟩ } (some (gZ M.cells:Nat))=some (M.born+1)from by
   show(cellAt _ _).map _=_;rw[Um];rfl]
  apply⟨bD ζ,λl hl=>⟨bD ζ,λa ha=>?_⟩⟩;exact ev0 N hQ (d:=.make h sl f bulk) (Zfo δ) rfl (r.trans t) v rfl hl ha
end
theorem Zmv{M:Wm}{h s t f:Nat}(e:cO M (aY M h t)=none):jM M (.get h s t f)=.error .empty:=by
 show(match aY M h t with | none=>_ | some x=>_)=_;cases hs:aY M h t with
 | none=>rfl
 | some x=>
  rw[hs]at e;show(match cellAt M x with | none=>_ | some c=>_)=_;rw[show cellAt M x=none from e]
theorem Zmt{M:Wm}{h s t f:Nat}(e:cO M (aY M h t)=none):jM M (.put h t f s)=.error .empty:=by
 show(match aY M h t with | none=>_ | some x=>_)=_;cases hs:aY M h t with
 | none=>rfl
 | some x=>
  rw[hs]at e;show(match cellAt M x with | none=>_ | some c=>_)=_;rw[show cellAt M x=none from e]
theorem Zfp{M:Wm}{h t:Nat}{l:Int}(e:cO M (aY M h t)=none):jM M (.write h t l)=.error .empty:=by
 show(match aY M h t with | none=>_ | some x=>_)=_;cases hs:aY M h t with
 | none=>rfl
 | some x=>
  rw[hs]at e;show(match cellAt M x with | none=>_ | some c=>_)=_;rw[show cellAt M x=none from e]
theorem Zic{M:Wm}{h t:Nat}(e:cO M (aY M h t)=none):jM M (.read h t)=.error .empty:=by
 show(match aY M h t with | none=>_ | some x=>_)=_;cases hs:aY M h t with
 | none=>rfl
 | some x=>
  rw[hs]at e;show(match cellAt M x with | none=>_ | some c=>_)=_;rw[show cellAt M x=none from e]
theorem Zid{M:Wm}{h t:Nat}{z:Str}(e:cO M (aY M h t)=none):jM M (.name h t z)=.error .empty:=by
 show(match aY M h t with | none=>_ | some x=>_)=_;cases hs:aY M h t with
 | none=>rfl
 | some x=>
  rw[hs]at e;show(match cellAt M x with | none=>_ | some c=>_)=_;rw[show cellAt M x=none from e]
theorem Zqp{M:Wm}{h s t f:Nat}{i:Int}{c:Ce}(a:aY M h t=some i)(d:cellAt M i=some c)(b:c.fl[f]? =none):jM M (.get h s t f)=.error .jL:=by
 show(match aY M h t with | none=>_ | some x=>_)=_;rw[a];show(match cellAt M i with | none=>_ | some c=>_)=_;rw[d];show(match c.fl[f]? with | none=>_ | some v=>_)=_;rw[b]
theorem Zqn{M:Wm}{h s t f:Nat}{i:Int}{c:Ce}(a:aY M h t=some i)(d:cellAt M i=some c)(b:c.fl[f]? =none):jM M (.put h t f s)=.error .jL:=by
 show(match aY M h t with | none=>_ | some x=>_)=_;rw[a];show(match cellAt M i with | none=>_ | some c=>_)=_;rw[d];show(match c.fl[f]? with | none=>_ | some v=>_)=_;rw[b]
theorem Zqo{M:Wm}{h s t f:Nat}{i:Int}{c:Ce}{v:AA}(a:aY M h t=some i)(d:cellAt M i=some c)(b:c.fl[f]? =some v):jM M (.get h s t f)=.ok (⟨"got",wW M v,[]⟩,setSlot M h s v):=by
 show(match aY M h t with | none=>_ | some x=>_)=_;rw[a];show(match cellAt M i with | none=>_ | some c=>_)=_;rw[d];show(match c.fl[f]? with | none=>_ | some v=>_)=_;rw[b]
def putL(M:Wm)(h s:Nat)(v:AA):Au:=(if old? M=true then [v]else [])++if (mR M && !cU M h)=true then [aY M h s]else []
theorem Zqm{M:Wm}{h s t f:Nat}{i:Int}{c:Ce}{v:AA}(a:aY M h t=some i)(d:cellAt M i=some c)(b:c.fl[f]? =some v):jM M (.put h t f s)=.ok (⟨"put",wW M v,(aP (setCell M i { c with fl:=c.fl.set f (aY M h s) }) (putL M h s v)).1⟩,(aP (setCell M i { c with fl:=c.fl.set f (aY M h s) }) (putL M h s v)).2):=by
 show(match aY M h t with | none=>_ | some x=>_)=_;rw[a];show(match cellAt M i with | none=>_ | some c=>_)=_;rw[d];show(match c.fl[f]? with | none=>_ | some v=>_)=_;rw[b];rfl
theorem Zib{M:Wm}{h t:Nat}{l i:Int}{c:Ce}(a:aY M h t=some i)(b:cellAt M i=some c):jM M (.write h t l)=.ok (⟨"wrote",some c.load,[]⟩,setCell M i { c with load:=l }):=by
 show(match aY M h t with | none=>_ | some x=>_)=_;rw[a];show(match cellAt M i with | none=>_ | some c=>_)=_;rw[b]
theorem Zms{M:Wm}{h t:Nat}{i:Int}{c:Ce}(a:aY M h t=some i)(b:cellAt M i=some c):jM M (.read h t)=.ok (⟨"read",some c.load,[]⟩,M):=by
 show(match aY M h t with | none=>_ | some x=>_)=_;rw[a];show(match cellAt M i with | none=>_ | some c=>_)=_;rw[b]
theorem Zmu{M:Wm}{h t:Nat}{z:Str}{i:Int}{c:Ce}(a:aY M h t=some i)(b:cellAt M i=some c):jM M (.name h t z)=.ok (⟨"named",some c.birth,[]⟩,{ M with names:=nU M.names z (i,c.birth) }):=by
 show(match aY M h t with | none=>_ | some x=>_)=_;rw[a];show(match cellAt M i with | none=>_ | some c=>_)=_;rw[b]
section
variable {X:Cs}{H H':Hp}{T T':Tg}{s:Nat}{A:Wa}{M:Wm}
theorem Zvq{z:Str}{v:Int×Int}{t:AI}(f:NmO H T t (z,v)):∀{ns:AF}{names:List cx},Al (NmO H T) ns names->(∃b,(wQ names ns).map (λkv=>if kv.1=Sum.inr z then(kv.1,V.ref t)else kv)=wQ (names.map λm=>if m.1=z then(m.1,v)else m) b/\Al (NmO H T) b (names.map λm=>if m.1=z then(m.1,v)else m))/\
  ((wQ names ns).any λkv=>decide (kv.1=Sum.inr z))=(names.any λm=>decide (m.1=z))/\wQ names ns++[(Sum.inr z,V.ref t)]=wQ (names++[(z,v)]) (ns++[t])/\Al (NmO H T) (ns++[t]) (names++[(z,v)]):=by
 intro ns names h
 induction h with
 | nil=>exact⟨⟨[],rfl,.nil⟩,rfl,rfl,.cons f .nil⟩
 | @cons a m ns names h1 _ ih=>
  obtain⟨⟨b,c,d⟩,e3,i,g⟩:=ih;refine⟨?_,?_,?_,.cons h1 g⟩
  ·by_cases e:m.1=z
   ·refine⟨t::b,?_,?_⟩
    ·show(if (Sum.inr m.1:Int ⊕ Str)=Sum.inr z then _ else _)::_=_;rw[if_pos (by rw[e]),List.map_cons,if_pos e];show _::_=(Sum.inr m.1,V.ref t)::wQ _ b;rw[<- c];rfl
    ·rw[List.map_cons,if_pos e];exact .cons (by rw[e];exact f) d
   ·refine⟨a::b,?_,?_⟩
    ·show(if (Sum.inr m.1:Int ⊕ Str)=Sum.inr z then _ else _)::_=_;rw[if_neg (λw=>e (Sum.inr.inj w)),List.map_cons,if_neg e];show _::_=(Sum.inr m.1,V.ref a)::wQ _ b;rw[<- c];rfl
    ·rw[List.map_cons,if_neg e];exact .cons h1 d
  ·show(decide ((Sum.inr m.1:Int ⊕ Str)=Sum.inr z) || (wQ names ns).any _)=(decide (m.1=z) || names.any _);rw[e3];congr 1
   by_cases e:m.1=z<;>simp[e]
  ·show(Sum.inr m.1,V.ref a)::(wQ names ns++_)=(Sum.inr m.1,V.ref a)::wQ (names++_) (ns++_);rw[i]
theorem Zp0{ns:AF}{names:List cx}(h:Al (NmO H T) ns names):(wQ names ns).length=names.length:=by
 induction h with
 | nil=>rfl
 | @cons a m ns names h1 _ ih=>show(_::wQ names ns).length=_;rw[List.length_cons,List.length_cons,ih]
theorem WJ.named(j:WJ X H T s A M)(w:WT H T)(h0:s≠0){z:Str}{v:Int×Int}{t:AI}(B:NmO H T t (z,v)):∃a,cY s H bE T T/\
  WJ X bE T s { A with ns:=a } { M with names:=nU M.names z v }:=by
 obtain⟨tm,om,nms⟩:=j.jn;obtain⟨⟨n1,l,q⟩,e3,u,o⟩:=Zvq B nms;have f:rQ s (·=6) H bE T T:=rQ.yh tm;have g:∀{ns:AF}{names:List cx},Al (NmO H T) ns names->Al (NmO bE T) ns names:=λh=>h.mono (by rintro t m ⟨i,z2⟩;exact⟨i,jO h0 tm _ _ z2 i⟩);have go:∀a,putK (wQ M.names A.ns) (Sum.inr z) (.ref t)=wQ (nU M.names z v) a->Al (NmO H T) a (nU M.names z v)->WJ X bE T s { A with ns:=a } { M with names:=nU M.names z v }:=λa p k=>by
  refine⟨?_,?_,⟨tm,by show upd _ A.nm _ A.nm=_;rw[ao,p],g k⟩,?_,j.jd.mv f λ_ _ _=>δ,j.jc.mv f λ_ _=>δ⟩
  ·obtain⟨e,b,c,d,n,r,x,C⟩:=j.jb.mv f (jO h0 tm) δ δ;exact⟨e,b,c,d,n,r,x,C⟩
  ·obtain⟨e,b,c,d⟩:=j.jh.mv f δ δ;exact⟨e,b,c,d⟩
  ·obtain⟨e,b,c,d⟩:=j.js.mv f δ δ;exact⟨e,b,c,d⟩
 by_cases ha:(M.names.any λm=>decide (m.1=z))=true
 ·refine⟨n1,cY.upd w om (by rw[tm]),go n1 ?_ ?_⟩
  ·unfold putK nU;rw[if_pos (e3.trans ha),if_pos ha,l]
  ·unfold nU;rw[if_pos ha];exact q
 ·refine⟨A.ns++[t],cY.upd w om (by rw[tm]),go _ ?_ ?_⟩
  ·unfold putK nU;rw[if_neg (λy=>ha (e3.symm.trans y)),if_neg ha,u]
  ·unfold nU;rw[if_neg ha];exact o
end
section
variable {K:aD}{X:Cs}{H:Hp}{Q:VK}{E:XK}{n:ν}{bk ct:ν}{rf:Rf->AI}{CE CF CN:AI}
theorem Zmr{wo dd:AI}(T:j6 K X)(y:rf .empty=CE)(u:rf .jL=CF)(q:uy X rf Zf5 wo dd H Q E):Yc K (iQ X) (zf X CE CF) (gY X) E ξ [↑wo,↑dd,none,none,none,none] H:=by
 obtain⟨Tg,s,A,M,_,⟨h,sl,t,f,rfl⟩,w,B,j,rfl,od,⟨o1,o2⟩,hc,I,N,hn,C,F⟩:=q;obtain⟨p,m,hp,hm,hs,hl,hd⟩:=j.handOf o1;unfold Yc;exists dd,_,1,_,rfl,rfl,dU.of od,rfl;exists dd,_,3,_,rfl,rfl,dU.of od,rfl;exists dd,_,4,_,rfl,rfl,dU.of od,rfl;apply⟨_,_,_,_,rfl,Tg,s,A,M,h,t,f,j,rfl,rfl,rfl,rfl,o2,λe=>?_,λi c r h0 o z=>?_,λi c J r h0 o D ce z=>?_⟩
 ·rw[<- y];exact C .empty (Zmv e) H (bA.refl _)
 ·rw[<- u];exact C .jL (Zqp r o z) H (bA.refl _)
 ·have hv:=bG z;apply gQ (cA.of ce.o2) (fW (v:=oV (c.fl[f])) (by rw[bV,hv];rfl)) ?_;exists _,_,rfl,Tg,s,A,M,h,p,j,rfl,rfl,hp;exists dd,_,2,_,rfl,rfl,dU.of od,rfl;refine⟨p.2,_,_,sl,rfl,rfl,hd.o2,oN (by rw[aX];exact hl),?_⟩;obtain⟨g,b⟩:=j.slot w B (k:=sl) (x:=c.fl[f]) hp hm;rw[lE hm]at b;generalize upd H p.2 (.lst ((m.2.map oV).set sl (oV c.fl[f])))=L at g b ⊢;obtain⟨d1,ow⟩:=b.jb.ow;apply aH ow T.cW T.Vb bI ?_;exists _,_,rfl,c.fl[f],rfl,Tg,s,A,_,b,rfl;rw[jZ];apply⟨bD ζ,λl hl=>⟨bD ζ,λa ha=>?_⟩⟩;exact ev0 B F (d:=.get h sl t f) (Zqo r o hv) rfl g b rfl hl ha
theorem Zmq{wo dd:AI}(T:j6 K X)(S:rf .empty=CE)(P:rf .jL=CF)(q:uy X rf Zf2 wo dd H Q E):Yb K (iQ X) (zf X CE CF) (lV X) (gY X) (Dn X) (Uy X) E ξ [↑wo,↑dd,none,none,none,none,none,none] H:=by
 obtain⟨Tg,s,A,M,_,⟨h,t,f,sl,rfl⟩,w,N,j,rfl,od,⟨o2,o1⟩,hc,hg,Z,hn,hE,hQ⟩:=q;obtain⟨p,m,hp,hm,hs,hl,hd⟩:=j.handOf o1;unfold Yb;exists dd,_,1,_,rfl,rfl,dU.of od,rfl;exists dd,_,3,_,rfl,rfl,dU.of od,rfl;exists dd,_,2,_,rfl,rfl,dU.of od,rfl;apply⟨_,_,_,_,rfl,Tg,s,A,M,h,t,f,j,rfl,rfl,rfl,rfl,o2,λe=>?_,λi c L h0 y z=>?_,λi c V L h0 y C ce z=>?_⟩
 ·rw[<- S];exact hE .empty (Zmt e) H (bA.refl _)
 ·rw[<- P];exact hE .jL (Zqn L y z) H (bA.refl _)
 ·have hv:=bG z;apply gQ (cA.of ce.o2) (fW (v:=oV (c.fl[f])) (by rw[bV,hv];rfl)) ?_;exists _,_,rfl,Tg,s,A,M,h,p,j,rfl,rfl,hp;exists dd,_,4,_,rfl,rfl,dU.of od,rfl;refine gQ (cA.of hd.o2) (fW (v:=oV (aY M h sl)) (by rw[bV,hs];rfl)) ?_;exists V.2,_,_,f,rfl,rfl,ce.o2,oN (by rw[aX];exact z);obtain⟨b,l⟩:=j.field w N (k:=f) (x:=aY M h sl) C ce;have l:WJ X _ Tg s A (setCell M i { c with fl:=c.fl.set f (aY M h sl) }):=l;generalize upd H V.2 (.lst ((c.fl.map oV).set f (oV (aY M h sl))))=H1 at b l ⊢;apply⟨_,_,rfl,Tg,s,A,_,l,rfl,Z,λW J=>?_⟩;rw[show old? (setCell M i { c with fl:=c.fl.set f (aY M h sl) })=old? M from rfl,Zpn];generalize r:upd H1 W _=H2;obtain⟨R,g1⟩:=nwO J r;apply⟨_,_,_,rfl,Tg,s,A,_,h,l.same R,rfl,Z,rfl,λU O=>?_⟩;rw[show(mR (setCell M i { c with fl:=c.fl.set f (aY M h sl) }) && !cU (setCell M i { c with fl:=c.fl.set f (aY M h sl) }) h)=(mR M && !cU M h)from rfl,Zpn];generalize r:upd H2 U _=H3;obtain⟨B,g2⟩:=nwO O r;apply⟨W,U,_,_,rfl,rfl,B _ _ g1,g2,?_,λY u=>?_⟩
  ·refine bD ?_;cases old? M<;>cases (mR M && !cU M h)<;>simp
  rw[<- List.map_append];generalize r:upd H3 Y _=H4;obtain⟨s3,F⟩:=nwO u r;have F:H4 Y=some (.lst ((putL M h sl c.fl[f]).map oV)):=F;have g:=R.trans (B.trans s3);apply⟨_,_,rfl,putL M h sl c.fl[f],Tg,s,A,_,b.wt.same g,N,l.same g,rfl,.inl ⟨F,(b.wt.same (R.trans B)) _ u⟩,?_,hg,λH5 T5 l5 D I g5 o=>?_⟩
  ·unfold putL;cases old? M<;>cases (mR M && !cU M h)<;>simp
  obtain⟨d1,ow⟩:=I.jb.ow;apply aH ow T.cW T.Vb bI ?_;exists _,_,rfl,c.fl[f],rfl,T5,s,A,_,I,rfl;rw[uQ,Kv (c':={ c with fl:=c.fl.set f (aY M h sl) }) y rfl];apply⟨bD ζ,λa ha=>?_⟩;exact ev1 N ⟨cY.free b (g.free o.1),o.2⟩ hQ (d:=.put h t f sl) (Zqm L y hv) (b.trans ((cY.same b.wt g).trans D)) I rfl g5 ha
theorem Zfn{wo dd:AI}(T:j6 K X)(m:rf .empty=CE)(q:uy X rf Hr wo dd H Q E):Ld K (ux X CE) E ξ [↑wo,↑dd,none,none] H:=by
 obtain⟨Tg,s,A,M,_,⟨h,t,load,rfl⟩,w,o,j,rfl,od,o1,hc,z,D,hn,y,x⟩:=q;unfold Ld;exists dd,_,1,_,rfl,rfl,dU.of od,rfl;exists dd,_,2,_,rfl,rfl,dU.of od,rfl;apply⟨_,_,_,rfl,Tg,s,A,M,h,t,j,rfl,rfl,rfl,o1,λe=>?_,λi c k v h0 r g ce=>?_⟩
 ·rw[<- m];exact y .empty (Zfp e) H (bA.refl _)
 ·obtain⟨t1,t2,⟨dx,f⟩,u⟩:=id ce;apply aH f T.c.dJ T.c.jQ Ck ?_;exists dd,_,3,_,rfl,rfl,dU.of od,rfl;apply⟨k.1,X.C,dx,_,rfl,f,T.c.dJ,T.c.jQ,by show 5<1000;decide,?_⟩;rw[Ui];obtain⟨b,p⟩:=j.cell w o (dx:=dx) (tone:=c.tone) (load:=load) g ce;generalize upd H k.1 (.ins X.C dx (jr c.birth c.bulk c.tone load k.2))=B at b p ⊢;apply⟨bD ζ,λl hl=>⟨bD ζ,λa ha=>?_⟩⟩;exact ev0 o x (d:=.write h t load) (Zib v r) rfl b p rfl hl ha
theorem Zi5{wo dd:AI}(T:j6 K X)(b:rf .empty=CE)(q:uy X rf S8 wo dd H Q E):Q4 K (ux X CE) E ξ [↑wo,↑dd,none] H:=by
 obtain⟨Tg,s,A,M,_,⟨h,t,rfl⟩,w,p,j,rfl,od,o1,hc,v,y,hn,u,r⟩:=q;unfold Q4;exists dd,_,1,_,rfl,rfl,dU.of od,rfl;exists dd,_,2,_,rfl,rfl,dU.of od,rfl;apply⟨_,_,_,rfl,Tg,s,A,M,h,t,j,rfl,rfl,rfl,o1,λe=>?_,λi c x o h0 k g ce=>?_⟩
 ·rw[<- b];exact u .empty (Zic e) H (bA.refl _)
 ·obtain⟨t1,t2,⟨z,f⟩,m⟩:=id ce;apply aH f T.c.dJ T.c.jQ Ck ?_;apply⟨bD ζ,λl hl=>⟨bD ζ,λa ha=>?_⟩⟩;exact ev0 p r (d:=.read h t) (Zms o k) rfl (cY.refl w) j rfl hl ha
theorem Zi6{wo dd:AI}(T:j6 K X)(r:rf .empty=CE)(q:uy X rf isName wo dd H Q E):Q5 K (ux X CE) (gY X) E ξ [↑wo,↑dd,none,none,none] H:=by
 obtain⟨Tg,s,A,M,_,⟨h,t,z,rfl⟩,w,B,j,rfl,od,o1,hc,P,U,hn,O,L⟩:=q;obtain⟨p,m,hp,hm,hs,hl,hd⟩:=j.handOf o1;unfold Q5;exists dd,_,1,_,rfl,rfl,dU.of od,rfl;exists dd,_,2,_,rfl,rfl,dU.of od,rfl;apply⟨_,_,_,rfl,Tg,s,A,M,h,t,j,rfl,rfl,rfl,o1,λe=>?_,λi c S y h0 F D ce=>?_⟩
 ·rw[<- r];exact O .empty (Zid e) H (bA.refl _)
 ·obtain⟨t1,t2,⟨V,u⟩,I⟩:=id ce;apply aH u T.c.dJ T.c.eE fK ?_;exists _,_,rfl,Tg,s,A,M,h,p,j,rfl,rfl,hp;apply gQ (cA.of hd.o2) (fW (v:=oV (aY M h t)) (by rw[bV,hs];rfl)) ?_;rw[y];apply⟨bD ζ,λtp b=>?_⟩;generalize N:upd H tp _=H1;obtain⟨k,o⟩:=nwO b N;have o:H1 tp=some (.tup [.int i,.int c.birth]):=o;have g:=j.same k;have C:=w.same k;obtain⟨d1,ow⟩:=g.jb.ow;apply aH ow T.cW T.nWn iR ?_;exists dd,_,3,_,rfl,rfl,dU.of (k _ _ od),rfl;refine⟨_,_,rfl,Zz8 g.jn.om (by rw[Zp0 g.jn.nms];exact Nat.lt_of_le_of_lt hn ε),?_⟩;obtain⟨J,f,x⟩:=g.named C B (z:=z) (v:=(i,c.birth)) (t:=tp) ⟨w _ b,o⟩;generalize upd H1 A.nm (.dK (putK (wQ M.names A.ns) (Sum.inr z) (.ref tp)))=R at f x ⊢;apply⟨bD ζ,λl hl=>⟨bD ζ,λa ha=>?_⟩⟩;exact ev0 B L (d:=.name h t z) (Zmu y F) rfl ((cY.same w k).trans f) x rfl hl ha
theorem Zi4{wo dd:AI}(T:j6 K X)(F:rf .CP=CN)(q:uy X rf S7 wo dd H Q E):Q3 K (iQ X) (lV X) (Cm X CN) (gY X) E ξ [↑wo,↑dd,none,none] H:=by
 obtain⟨Tg,s,A,M,_,⟨h,sl,z,rfl⟩,w,C,j,rfl,od,o1,hc,J,Z,hn,S,P⟩:=q;obtain⟨p,m,hp,hm,hs,hl,hd⟩:=j.handOf o1;unfold Q3;exists dd,_,3,_,rfl,rfl,dU.of od,rfl;apply⟨_,_,rfl,Tg,s,A,M,j,rfl,λe=>?_,λi b e=>?_⟩
 ·rw[<- F];refine S .CP ?_ H (bA.refl _);show(match yF M.names z with | none=>_ | some (p,b)=>_)=_;rw[e]
 ·let x:AA:=if lA M i b=true then none else some i
  have ex:(if lA M i b=true then V.non else .int i)=oV x:=by
   show _=oV (if _ then _ else _);cases lA M i b<;>rfl
  rw[ex];have N:jM M (.seek h sl z)=.ok (⟨"sought",wW M x,(aP (setSlot M h sl x) [x]).1⟩,(aP (setSlot M h sl x) [x]).2):=by
   show(match yF M.names z with | none=>_ | some (p,b)=>_)=_;rw[e];dsimp only;cases f:lA M i b with
   | true=>
    have:x=none:=by show(if _ then _ else _)=_;rw[f];rfl
    rw[this];rfl
   | false=>
    have hx:x=some i:=by show(if _ then _ else _)=_;rw[f];rfl
    have:wW M (some i)=some b:=by
     unfold lA at f;show(cellAt M i).map _=_;cases l:cellAt M i with
     | none=>rw[l]at f;cases f
     | some c=>
      rw[l]at f;dsimp only at f
      by_cases y:c.birth=b
      ·rw[<- y];rfl
      ·rw[if_neg y]at f;cases f
    rw[hx,this];rfl
  clear_value x;exists dd,_,1,_,rfl,rfl,dU.of od,rfl;exists _,_,rfl,Tg,s,A,M,h,p,j,rfl,rfl,hp;exists dd,_,2,_,rfl,rfl,dU.of od,rfl;refine⟨p.2,_,_,sl,rfl,rfl,hd.o2,oN (by rw[aX];exact hl),?_⟩;obtain⟨g,B⟩:=j.slot w C (k:=sl) (x:=x) hp hm;rw[lE hm]at B;generalize upd H p.2 (.lst ((m.2.map oV).set sl (oV x)))=O at g B ⊢;apply⟨bD ζ,λI o=>?_⟩;generalize R:upd O I _=H2;obtain⟨t,v⟩:=nwO o R;have v:H2 I=some (.lst ([x].map oV)):=v;apply⟨_,_,rfl,[x],Tg,s,A,_,g.wt.same t,C,B.same t,rfl,.inl ⟨v,g.wt _ o⟩,ζ,J,λW U Y D u L r=>?_⟩;obtain⟨d1,ow⟩:=u.jb.ow;apply aH ow T.cW T.Vb bI ?_;exists _,_,rfl,x,rfl,U,s,A,_,u,rfl;rw[uQ,jZ];apply⟨bD ζ,λa ha=>?_⟩;exact ev1 C ⟨cY.free g (t.free r.1),r.2⟩ P (d:=.seek h sl z) N (g.trans ((cY.same g.wt t).trans D)) u rfl L ha
end
section
variable {K:aD}{X:Cs}{H:Hp}{Q:VK}{E:XK}{n:ν}{bk ct:ν}{rf:Rf->AI}{f1 f2 f3 f4 f5 f6 f7 f8 f9 f10:AI}
theorem Zza{wo dd:AI}(T:j6 K X)(q:uy X rf (λ_=>True) wo dd H Q E):
  Znw K f1 f2 f3 f4 f5 f6 f7 f8 f9 f10 (cI X rf Tq) (cI X rf Tp) (cI X rf Zf5) (cI X rf Tj) (cI X rf S9) (cI X rf isName) (cI X rf Zf2) (cI X rf S8) (cI X rf S7) (cI X rf Hr) E ξ [↑wo,↑dd,none] H:=by
 obtain⟨Tg,s,A,M,d,_,w,e,j,rfl,od,k,a,m,c,i,l,b⟩:=q;unfold Znw;cases d with
 | make h o p bulk=>
  exists dd,_,0,_,rfl,rfl,dU.of od,rfl;refine⟨_,f5,rfl,rfl,?_⟩;apply iZ (cI X rf S9) rfl ζ ?_;apply⟨_,_,rfl,Tg,s,A,M,_,⟨_,_,_,_,rfl⟩,w,e,j,rfl,od,k,a,m,c,i,l,b⟩
 | get h o t f=>
  exists dd,_,0,_,rfl,rfl,dU.of od,rfl;refine⟨_,f3,rfl,rfl,?_⟩;apply iZ (cI X rf Zf5) rfl ζ ?_;apply⟨_,_,rfl,Tg,s,A,M,_,⟨_,_,_,_,rfl⟩,w,e,j,rfl,od,k,a,m,c,i,l,b⟩
 | put h t f o=>
  exists dd,_,0,_,rfl,rfl,dU.of od,rfl;refine⟨_,f7,rfl,rfl,?_⟩;apply iZ (cI X rf Zf2) rfl ζ ?_;apply⟨_,_,rfl,Tg,s,A,M,_,⟨_,_,_,_,rfl⟩,w,e,j,rfl,od,k,a,m,c,i,l,b⟩
 | copy h o t=>
  exists dd,_,0,_,rfl,rfl,dU.of od,rfl;refine⟨_,f1,rfl,rfl,?_⟩;apply iZ (cI X rf Tq) rfl ζ ?_;apply⟨_,_,rfl,Tg,s,A,M,_,⟨_,_,_,rfl⟩,w,e,j,rfl,od,k,a,m,c,i,l,b⟩
 | drop h o=>
  exists dd,_,0,_,rfl,rfl,dU.of od,rfl;refine⟨_,f2,rfl,rfl,?_⟩;apply iZ (cI X rf Tp) rfl ζ ?_;apply⟨_,_,rfl,Tg,s,A,M,_,⟨_,_,rfl⟩,w,e,j,rfl,od,k,a,m,c,i,l,b⟩
 | give h o g t=>
  exists dd,_,0,_,rfl,rfl,dU.of od,rfl;refine⟨_,f4,rfl,rfl,?_⟩;apply iZ (cI X rf Tj) rfl ζ ?_;apply⟨_,_,rfl,Tg,s,A,M,_,⟨_,_,_,_,rfl⟩,w,e,j,rfl,od,k,a,m,c,i,l,b⟩
 | write h t load=>
  exists dd,_,0,_,rfl,rfl,dU.of od,rfl;refine⟨_,f10,rfl,rfl,?_⟩;apply iZ (cI X rf Hr) rfl ζ ?_;apply⟨_,_,rfl,Tg,s,A,M,_,⟨_,_,_,rfl⟩,w,e,j,rfl,od,k,a,m,c,i,l,b⟩
 | read h t=>
  exists dd,_,0,_,rfl,rfl,dU.of od,rfl;refine⟨_,f8,rfl,rfl,?_⟩;apply iZ (cI X rf S8) rfl ζ ?_;apply⟨_,_,rfl,Tg,s,A,M,_,⟨_,_,rfl⟩,w,e,j,rfl,od,k,a,m,c,i,l,b⟩
 | name h t z=>
  exists dd,_,0,_,rfl,rfl,dU.of od,rfl;refine⟨_,f6,rfl,rfl,?_⟩;apply iZ (cI X rf isName) rfl ζ ?_;apply⟨_,_,rfl,Tg,s,A,M,_,⟨_,_,_,rfl⟩,w,e,j,rfl,od,k,a,m,c,i,l,b⟩
 | seek h o z=>
  exists dd,_,0,_,rfl,rfl,dU.of od,rfl;refine⟨_,f9,rfl,rfl,?_⟩;apply iZ (cI X rf S7) rfl ζ ?_;apply⟨_,_,rfl,Tg,s,A,M,_,⟨_,_,_,rfl⟩,w,e,j,rfl,od,k,a,m,c,i,l,b⟩
end
inductive yV(X:Cs)(hp:AI)(sl:AI)(H:Hp)(Q:VK):Prop
 | mk (T s A M) (xs:Au) (_:WJ X H T s A M) (_:A.hp=hp) (_:H sl=some (.lst (xs.map oV))) (_:xs.length<=1000) (_:∀l,H l=none->Q (.ref l) (upd H l (.lst ((xs.map (wW M)).map oV)))):yV X hp sl H Q
def rA(X:Cs):Sp:=λvs H Q E=>∃hp sl,vs=[.ref hp,.ref sl]/\yV X hp sl H Q
inductive Uu(X:Cs)(wo:AI)(H:Hp)(Q:VK):Prop
 | mk (T s A M) (_:WJ X H T s A M) (_:A.wo=wo) (_:M.cells.length<=1000) (_:(∀m∈M.hands,m.2.length<=1000)) (_:∀(l:AI) (ls:AF) H',bA H H'->H l=none->(∀r∈ls,H r=none)->H' l=some (.lst (ls.map V.ref))->ls.length=(rowsOf M).length->(∀(j:Nat) r x,ls[j]? =some r->(rowsOf M)[j]? =some x->H' r=some (.lst (x.map oV)))->Q (.ref l) H'):Uu X wo H Q
def Zg6(X:Cs):Sp:=λvs H Q E=>∃wo,vs=[.ref wo]/\Uu X wo H Q
section
variable {K:aD}{X:Cs}{H:Hp}{Q:VK}{E:XK}{n:ν}{bk ct:ν}
theorem Zc9{hp sl:AI}(T:j6 K X)(q:yV X hp sl H Q):
  Fp K (iQ X) ξ [↑hp,↑sl] H:=by
 obtain⟨Tg,s,A,M,b,j,rfl,o,hx,q⟩:=q;unfold Fp;apply YT ?_;exists _,rfl,⟨_,cA.of o⟩;refine Zjz (cA.of o) (λi=>(b[i]?).map λx=>oV (wW M x)) (by rw[aX];omega) (λi x hx=>?_) ?_
 ·rw[bV]at hx;obtain⟨y,hy,rfl⟩:=Option.map_eq_some_iff.mp hx;refine⟨λq hq=>?_,λz q hz hq=>?_⟩
  ·rw[hy]at hq;exact J3 hq
  ·rw[hy]at hz;cases hz;walk_at"c";apply⟨_,_,rfl,y,rfl,Tg,s,A,M,j,rfl,hq⟩
 ·intro p hp;have:(List.range (b.map oV).length).filterMap (λi=>(b[i]?).map λx=>oV (wW M x))=(b.map (wW M)).map oV:=by
   rw[aX,List.map_map];clear q o hx
   induction b with
   | nil=>rfl
   | cons a l ih=>
    rw[List.length_cons,List.range_succ_eq_map,List.filterMap_cons];simp only[List.getElem?_cons_zero,Option.map_some,List.map_cons,List.filterMap_map];congr 1
  rw[this];exact q p hp
theorem Up{wo:AI}(T:j6 K X)(q:Uu X wo H Q):
  pq K (rA X) ξ [↑wo] H:=by
 obtain⟨Tg,s,A,M,j,rfl,hc,v,q⟩:=q;obtain⟨d1,ow⟩:=j.jb.ow;have l5:=j.jd.l5;unfold pq;apply YT ?_;apply aH ow T.cW T.nWd dj ?_;refine⟨_,rfl,⟨_,cA.of j.jb.on⟩,?_⟩;refine Zen (cA.of j.jb.on) (by rw[aX];omega) (λi r t=>∃x,(rowsOf M)[i]? =some x/\t r=some (.lst (x.map oV))) (by rintro _ _ _ _ ⟨x,e,z⟩ s;exact⟨x,e,s _ _ z⟩) (by rintro _ _ _ ⟨_,_,z⟩;exact⟨_,z⟩) (λx o q hq=>J3 hq) (λi x o f a B hq=>?_) ?_
 ·rw[bV]at f;obtain⟨p,hp,rfl⟩:=Option.map_eq_some_iff.mp f;have c:=j.same a;obtain⟨m,hm,hd⟩:=c.hand hp;obtain⟨C,o1⟩:=hd.o1;obtain⟨d2,b⟩:=c.jb.ow;walk_at"c";apply aH b T.cW T.Vb bI ?_;apply aH o1 T.cD T.nDs kJ ?_;apply⟨_,_,rfl,Tg,s,A,M,m.2,c,rfl,hd.o2,v m (List.mem_of_getElem? hm),λl hl=>?_⟩;exact hq l _ (aL hl _) hl ⟨_,by unfold rowsOf;rw[bV,hm];rfl,ao⟩
 ·intro rs w a hl _ u hr p hp;have d:=aL hp (.lst (rs.map V.ref));refine q p rs _ (a.trans d) (a.free hp) u ao ?_ λk r x g h=>?_
  ·rw[hl,aX];unfold rowsOf;rw[aX,j.jd.lh]
  ·obtain⟨y,e3,z⟩:=hr k r g;rw[h]at e3;cases e3;exact d _ _ z
end
inductive yZ(CD:AI)(p:AI)(nm:Str)(many:Int)(H:Hp)(Q:VK):Prop
 | mk (dx) (_:H p=some (.ins CD dx [])) (_:0<=many) (_:many<=1000) (_:∀sa H',H sa=none->H' p=some (.ins CD dx (Zk7 nm sa))->H' sa=some (.lst (List.replicate many.toNat V.non))->(∀b o,H b=some o->b≠p->H' b=some o)->Q .non H'):yZ CD p nm many H Q
def NZ(b:AI):Sp:=λvs H Q E=>∃p nm a,vs=[.ref p,.str nm,.int a]/\yZ b p nm a H Q
def zg(a:AI):Sp:=λvs H Q E=>∃p,vs=[.ref p]/\∃dx,H p=some (.ins a dx [])/\
 ∀gr H',H gr=none->H' p=some (.ins a dx (bT 0 "rest" gr 0 0 0 0 0 0 0 .non))->H' gr=some (.lst [])->(∀b o,H b=some o->b≠p->H' b=some o)->Q .non H'
section
variable {K:aD}{X:Cs}{H:Hp}{Q:VK}{E:XK}{n:ν}{bk ct:ν}
theorem Kq{p:AI}{nm:Str}{a:Int}(T:j6 K X)(q:yZ X.D p nm a H Q):
  sX K ⟨λ_ H'=>Q .non H',Q,bk,ct⟩ [↑p,some (.str nm),some (.int a)] H:=by
 obtain⟨r,hp,h0,h1,h⟩:=q;unfold sX;exists p,X.D,r,[],rfl,hp,T.cD,T.nDn,ε;apply⟨ε,λl g=>?_⟩;apply⟨l,a,_,rfl,rfl,ao,δ,δ,?_,λj c=>?_⟩
 ·show 1 * a.toNat<=sizeLine;exact bD δ
 have d:p≠l:=aF ao g;have f:p≠j:=aF (by rw[aB d];exact ao) c;have i:H j=none:=by
  by_cases z:j=l
  ·rw[z,ao]at c;cases c
  ·rw[aB z,aB (λe=>f e.symm)]at c;exact c
 have m:H l=none:=by rw[aB (λe=>d e.symm)]at g;exact g
 apply⟨p,X.D,r,_,rfl,by rw[aB f,aB d];exact ao,T.cD,T.nDs,by show 1<1000;decide,?_⟩;refine h j _ i ?_ ?_ λb o hb n=>?_
 ·rw[ao,Zpz]
 ·rw[aB f.symm,ao];congr 2;generalize a.toNat=k
  induction k with
  | zero=>rfl
  | succ k ih=>rw[List.replicate_succ,List.replicate_succ,List.flatten_cons,ih];rfl
 ·rw[aB n,aB (aF hb i),aB (aF hb m),aB n];exact hb
theorem zW{p:AI}(T:j6 K X)(q:∃dx,H p=some (.ins X.S dx [])/\
 ∀gr H',H gr=none->H' p=some (.ins X.S dx (bT 0 "rest" gr 0 0 0 0 0 0 0 .non))->H' gr=some (.lst [])->(∀b o,H b=some o->b≠p->H' b=some o)->Q .non H'):
  nR K ⟨λ_ H'=>Q .non H',Q,bk,ct⟩ [↑p] H:=by
 obtain⟨dx,hp,h⟩:=q;unfold nR;exists p,X.S,dx,[],rfl,hp,T.cS,T.n1,ε;apply⟨p,X.S,dx,_,rfl,ao,T.cS,T.n2,by show 1<1000;decide,?_⟩;rw[dg];apply⟨ε,λgr a=>?_⟩;have c:p≠gr:=aF ao a;have d:H gr=none:=by rw[aB c.symm]at a;exact a
 apply⟨p,X.S,dx,_,rfl,by rw[aB c];exact ao,T.cS,T.n3,by show 2<1000;decide,?_⟩;apply⟨p,X.S,dx,_,rfl,ao,T.cS,T.n4,by show 3<1000;decide,?_⟩;rw[dg];apply⟨p,X.S,dx,_,rfl,ao,T.cS,T.n5,by show 4<1000;decide,?_⟩;rw[dg];apply⟨p,X.S,dx,_,rfl,ao,T.cS,T.n6,by show 5<1000;decide,?_⟩;rw[dg];apply⟨p,X.S,dx,_,rfl,ao,T.cS,T.n7,by show 6<1000;decide,?_⟩;rw[dg];apply⟨p,X.S,dx,_,rfl,ao,T.cS,T.n8,by show 7<1000;decide,?_⟩;rw[dg];apply⟨p,X.S,dx,_,rfl,ao,T.cS,T.n9,by show 8<1000;decide,?_⟩;rw[dg];apply⟨p,X.S,dx,_,rfl,ao,T.cS,T.n10,by show 9<1000;decide,?_⟩;rw[dg];apply⟨p,X.S,dx,_,rfl,ao,T.cS,T.n11,by show 10<1000;decide,?_⟩;rw[dg];refine h gr _ d ?_ ?_ λb o hb e=>?_
 ·rw[ao,Zla]
 ·rw[aB c.symm,ao]
 ·rw[aB e,aB (aF hb d),aB e];exact hb
end
def wd(w:Int):Str:=if w=0 then "first" else if w=1 then "each" else "last"
def tlS(t:Int):Str:=if t=0 then "" else if t=1 then " old" else if t=2 then " new" else " old new"
def words(w t:Int):Str:=wd w++tlS t
structure KdO(X:Cs)(H:Hp)(ki lk:AI)(w t:Int):Prop where
 ok:∃dx,H ki=some (.ins X.K dx (S5 lk t))
 ol:∃dx,(w=0/\H lk=some (.ins X.F dx []))\/(w=1/\H lk=some (.ins X.E dx []))\/(w=2/\H lk=some (.ins X.L dx []))
theorem KdO.same{X:Cs}{H H':Hp}{ki lk:AI}{w t:Int}(k:KdO X H ki lk w t)(s:bA H H'):KdO X H' ki lk w t:=by
 obtain⟨⟨d1,a⟩,⟨d2,b⟩⟩:=k;refine⟨⟨d1,s _ _ a⟩,⟨d2,?_⟩⟩;rcases b with ⟨z,e⟩ | ⟨z,e⟩ | ⟨z,e⟩
 ·exact .inl ⟨z,s _ _ e⟩
 ·exact .inr (.inl ⟨z,s _ _ e⟩)
 ·exact .inr (.inr ⟨z,s _ _ e⟩)
def O1(room:Int)(hands:List (Str×Int))(w t:Int):Wm:=⟨room,0,0,[],hands.map λm=>(m.1,List.replicate m.2.toNat none),[],w,t,⟨0,"rest",[],0,0,0,0,0,0,0,.non⟩⟩
inductive vf(X:Cs)(p:AI)(room:Int)(ki:AI)(hl0:AI)(H:Hp)(Q:VK):Prop
 | mk (dx T s lk w t) (ts:AF) (hands) (_:H p=some (.ins X.W dx [])) (_:WT H T) (_:s≠0) (_:KdO X H ki lk w t) (_:T ki=(0,0)) (_:T lk=(0,0)) (_:ki≠p) (_:lk≠p) (_:H hl0=some (.lst (ts.map V.ref))) (_:Al (λ(t:AI) (m:Str×Int)=>H t=some (.tup [.str m.1,.int m.2])/\0<=m.2/\m.2<=1000) ts hands) (_:hands.length<=30) (_:∀H' T' A,(∀b o,H b=some o->b≠p->H' b=some o)->(∀b o,H b=some o->b≠p->T' b=T b)->WT H' T'->A.wo=p->WJ X H' T' s A (O1 room hands w t)->Q .non H'):vf X p room ki hl0 H Q
def Jj(X:Cs):Sp:=λvs H Q E=>∃p room ki a,vs=[.ref p,.int room,.ref ki,.ref a]/\vf X p room ki a H Q
def zj(a:AI):Sp:=λvs H Q E=>∃p l t,vs=[.ref p,.ref l,.int t]/\∃dx,H p=some (.ins a dx [])/\∀H',H' p=some (.ins a dx (S5 l t))->(∀b o,H b=some o->b≠p->H' b=some o)->Q .non H'
def gW(v:V):Sp:=λvs H Q E=>∃a,vs=[.ref a]/\Q v H
section
variable {K:aD}{X:Cs}{H:Hp}{Q:VK}{E:XK}{n:ν}{bk ct:ν}
theorem W9{a:AI}(T:j6 K X)(q:Q (.str "first") H):Ba ξ [↑a] H:=by
 unfold Ba;apply q
theorem Zd1{a:AI}(T:j6 K X)(q:Q (.str "each") H):Ga ξ [↑a] H:=by
 unfold Ga;apply q
theorem Zcw{a:AI}(T:j6 K X)(q:Q (.str "last") H):FP ξ [↑a] H:=by
 unfold FP;apply q
theorem Ko{p l:AI}{t:Int}(T:j6 K X)(q:∃dx,H p=some (.ins X.K dx [])/\∀H',H' p=some (.ins X.K dx (S5 l t))->(∀b o,H b=some o->b≠p->H' b=some o)->Q .non H'):
  sV K ⟨λ_ H'=>Q .non H',Q,bk,ct⟩ [↑p,↑l,some (.int t)] H:=by
 obtain⟨dx,hp,h⟩:=q;unfold sV;exists p,X.K,dx,[],rfl,hp,T.cK,T.nKl,ε;apply⟨p,X.K,dx,_,rfl,ao,T.cK,T.nKt,by show 1<1000;decide,?_⟩;rw[dg];refine h _ ?_ λb o hb a=>?_
 ·rw[ao,Zpk]
 ·rw[aB a];exact hb
theorem w0{w:Int}(a:w=0\/w=1\/w=2):words w 0=wd w:=by rcases a with rfl | rfl | rfl<;>decide +kernel
theorem w3{w:Int}(a:w=0\/w=1\/w=2):words w 3=(wd w++" old")++" new":=by rcases a with rfl | rfl | rfl<;>decide +kernel
end
structure Ex(p:AI)(H H':Hp)(T T':Tg):Prop where
 kp:∀b o,H b=some o->b≠p->H' b=some o
 al:∀b o,H b=some o->∃o',H' b=some o'
 tg:∀b o,H b=some o->T' b=T b
 wt:WT H' T'
section
variable {p:AI}{H H1 H2 H':Hp}{T T1 T2 T':Tg}
theorem Ex.trans(a:Ex p H H1 T T1)(b:Ex p H1 H2 T1 T2):Ex p H H2 T T2 where
 kp:=λx o h n=>b.kp x o (a.kp x o h n) n
 al:=λx o h=>by obtain⟨o1,h1⟩:=a.al x o h;exact b.al x o1 h1
 tg:=λx o h=>by obtain⟨o1,h1⟩:=a.al x o h;rw[b.tg x o1 h1,a.tg x o h]
 wt:=b.wt
theorem Zxq(w:WT H T)(al:∀b o,H b=some o->∃a,H' b=some a):WT H' T:=λb h=>w b (by
 cases z:H b with
 | none=>rfl
 | some o=>obtain⟨a,e⟩:=al b o z;rw[h]at e;cases e)
theorem Zgc{a:AI}{o:HO}{v:Nat×Nat}(w:WT H T)(h:H a=some o):WT H (fL T a v):=λb hb=>by
 rw[gF (λe=>by rw[e,h]at hb;cases hb)];exact w b hb
theorem Ex.Zn7{o a:HO}(w:WT H T)(h:H p=some a):Ex p H (upd H p o) T T where
 kp:=λx u hx n=>by rw[aB n];exact hx
 al:=λx u hx=>by
  by_cases e:x=p
  ·exact⟨o,by rw[e,ao]⟩
  ·exact⟨u,by rw[aB e];exact hx⟩
 tg:=λ_ _ _=>rfl
 wt:=Zxq w λx u hx=>by
  by_cases e:x=p
  ·exact⟨o,by rw[e,ao]⟩
  ·exact⟨u,by rw[aB e];exact hx⟩
theorem Ex.news{vs:List (AI×(Nat×Nat))}(w:WT H T)(s:bA H H')(hn:∀v∈vs,H v.1=none/\∃o,H' v.1=some o):Ex p H H' T (vs.foldr cr T):=by
 have tg:∀b o,H b=some o->(vs.foldr cr T) b=T b:=by
  intro b o hb
  induction vs with
  | nil=>rfl
  | cons v vs ih=>
   show fL _ v.1 v.2 b=_;rw[gF (aF hb (hn v List.mem_cons_self).1)];exact ih λu hu=>hn u (List.mem_cons_of_mem _ hu)
 refine⟨λb o hb _=>s _ _ hb,λb o hb=>⟨o,s _ _ hb⟩,tg,?_⟩;clear tg
 induction vs with
 | nil=>exact w.same s
 | cons v vs ih=>
  obtain⟨o,a⟩:=(hn v List.mem_cons_self).2;exact Zgc (ih λu hu=>hn u (List.mem_cons_of_mem _ hu)) a
end
section
variable {K:aD}{X:Cs}{H:Hp}{Q:VK}{E:XK}{n:ν}{bk ct:ν}
theorem Jf{p ki hl0:AI}{room:Int}(T:j6 K X)(q:vf X p room ki hl0 H Q):
  qe K X.D X.H X.S (NZ X.D) (NQ X.H) (zg X.S) ⟨λ_ H'=>Q .non H',Q,bk,ct⟩ [↑p,some (.int room),↑ki,↑hl0] H:=by
 obtain⟨f,T0,s,lk,w,t,ts,hands,hp,wt0,s0,kd,tki,tlk,nki,N,oh0,al,hn,hQ⟩:=q;have x0:WT H (fL T0 p (s,0)):=Zgc wt0 hp;have tp:fL T0 p (s,0) p=(s,0):=eF;have R:∀b o,H b=some o->b≠p->fL T0 p (s,0) b=T0 b:=λb _ _ hb=>gF hb;generalize hT:fL T0 p (s,0)=Ta at x0 tp R;unfold qe;ext;intro hq dh nh ndh neh;refine⟨hq,room,rfl,dh,ao,λca H1 l L M k1=>⟨rfl,?_⟩⟩;have Zvu:H ca=none:=by
  by_cases z:ca=hq
  ·rw[z,ao]at l;cases l
  ·rw[aB z]at l
   by_cases y:ca=dh
   ·rw[y,ao]at l;cases l
   ·rw[aB y]at l;exact l
 have sm1:bA H H1:=λb o hb=>k1 b o (by rw[aB (aF hb nh),aB (aF hb ndh)];exact hb) (aF hb nh);have e1:Ex p H H1 Ta _:=Ex.news (vs:=[(hq,(s,1)),(ca,(s,2))]) x0 sm1 (by
  intro v hv;simp only[List.mem_cons,List.not_mem_nil,or_false]at hv;rcases hv with rfl | rfl
  ·exact⟨nh,_,L⟩
  ·exact⟨Zvu,_,M⟩)
 have nhc:hq≠ca:=kE L M aS;have th1:([(hq,(s,1)),(ca,(s,2))].foldr cr Ta) hq=(s,1):=eF;have tc1:([(hq,(s,1)),(ca,(s,2))].foldr cr Ta) ca=(s,2):=(gF nhc.symm).trans eF;generalize ([(hq,(s,1)),(ca,(s,2))]:List (AI×(Nat×Nat))).foldr cr Ta=Tb at e1 th1 tc1;have hp1:=sm1 _ _ hp;have nph:hq≠p:=λz=>by rw[z,hp]at nh;cases nh
 have npc:ca≠p:=λz=>by rw[z,hp]at Zvu;cases Zvu
 clear k1 l;exists p,X.W,f,[],rfl,hp1,T.cW,T.Vb,ε;have e2:=e1.trans (Ex.Zn7 (o:=.ins X.W f bg) e1.wt hp1);have g2:upd H1 p (.ins X.W f bg) p=some (.ins X.W f bg):=ao;have L:=(aB (o:=.ins X.W f bg) nph).trans L;have M:=(aB (o:=.ins X.W f bg) npc).trans M;generalize upd H1 p (.ins X.W f bg)=H2 at e2 g2 L M ⊢;apply⟨p,X.W,f,_,rfl,g2,T.cW,T.nWk,by show 1<1000;decide,?_⟩;have e3:=e2.trans (Ex.Zn7 (o:=.ins X.W f (bM "kind" (.ref ki) bg)) e2.wt g2);have g3:upd H2 p (.ins X.W f (bM "kind" (.ref ki) bg)) p=some (.ins X.W f (bM "kind" (.ref ki) bg)):=ao;have L:=(aB (o:=.ins X.W f (bM "kind" (.ref ki) bg)) nph).trans L;have M:=(aB (o:=.ins X.W f (bM "kind" (.ref ki) bg)) npc).trans M;generalize upd H2 p (.ins X.W f (bM "kind" (.ref ki) bg))=H3 at e3 g3 L M ⊢;generalize P:(bM "kind" (.ref ki) bg)=u at g3 ⊢;have lF3:u.length=2:=by rw[<- P];rfl
 have oh3:H3 hl0=some (.lst cn):=e3.kp _ _ oh0 (λz=>by rw[z,hp]at oh0;cases oh0);have ltl:ts.length=hands.length:=al.length;have Zzp:∀(i:Nat) a,ts[i]? =some a->∃m,hands[i]? =some m/\H3 a=some (.tup [.str m.1,.int m.2])/\0<=m.2/\m.2<=1000:=λi a ha=>by
  have hl:i<hands.length:=by rw[<- ltl];exact(cL ha).1
  obtain⟨a',ha',A,C,z3⟩:=al.get (bG hl);rw[ha]at ha';cases ha';exact⟨_,bG hl,e3.kp _ _ A (λz=>by rw[z,hp]at A;cases A),C,z3⟩
 have lo:=e3.wt;apply⟨_,rfl,⟨_,cA.of oh3⟩,Zjy ?_⟩;refine⟨λi m ys Hx=>i<=ts.length/\m=ts.length - i/\∃(hs:List (AI×AI)) (Tx:Tg),ys=hs.map (λq=>V.ref q.1)/\hs.length=i/\bA H3 Hx/\Ex p H3 Hx Tb Tx/\∀(j:Nat) q m,hs[j]? =some q->hands[j]? =some m->HdO X.D Hx Tx s j q (m.1,List.replicate m.2.toNat none)/\q.1≠p/\q.2≠p,
  ⟨ts.length,Nat.zero_le _,rfl,[],Tb,rfl,rfl,bA.refl _,⟨λ_ _ h _=>h,λ_ o h=>⟨o,h⟩,λ_ _ _=>rfl,lo⟩,λj q m e=>by simp at e⟩,?_⟩
 rintro i m ys Hx ⟨hi,rfl,hs,Tx,rfl,hl,sx,ex,hds⟩
 by_cases hk:i=ts.length
 ·refine .inl ⟨⟨_,cA.of (sx _ _ oh3),by rw[aX];omega⟩,λd F=>?_⟩;have ZEi:H3 d=none:=sx.free F;have s4:=aL F (.lst (hs.map λq=>V.ref q.1));have e4:Ex p Hx _ Tx _:=Ex.news (p:=p) (vs:=[(d,(s,5))]) ex.wt s4 (by
   intro v hv;rw[List.mem_singleton.mp hv];exact⟨F,_,ao⟩)
  have t4:([(d,(s,5))].foldr cr Tx) d=(s,5):=eF;have o4:upd Hx d (.lst (hs.map λq=>V.ref q.1)) d=some (.lst (hs.map λq=>V.ref q.1)):=ao;have J:=sx _ _ g3;have nhp:d≠p:=λz=>by rw[z,J]at F;cases F
  have hp4:=s4 _ _ J;generalize upd Hx d (.lst (hs.map λq=>V.ref q.1))=H4 at s4 e4 o4 hp4 ⊢;generalize ([(d,(s,5))]:List (AI×(Nat×Nat))).foldr cr Tx=T4 at e4 t4;apply⟨p,X.W,f,_,rfl,hp4,T.cW,T.nWd,by rw[lF3];decide,?_⟩;have e5:=Ex.Zn7 (p:=p) (o:=.ins X.W f (bM "hands" (.ref d) u)) e4.wt hp4;have hp5:upd H4 p (.ins X.W f (bM "hands" (.ref d) u)) p=some (.ins X.W f (bM "hands" (.ref d) u)):=ao;generalize upd H4 p (.ins X.W f (bM "hands" (.ref d) u))=H5 at e5 hp5 ⊢;ext;intro nm Y;have nnp:nm≠p:=λz=>by rw[z,hp5]at Y;cases Y
  have s6:=aL Y (.dK []);have e6:Ex p H5 _ T4 _:=Ex.news (p:=p) (vs:=[(nm,(s,6))]) e5.wt s6 (by
   intro v hv;rw[List.mem_singleton.mp hv];exact⟨Y,_,ao⟩)
  have t6:([(nm,(s,6))].foldr cr T4) nm=(s,6):=eF;have o6:upd H5 nm (.dK []) nm=some (.dK []):=ao;have hp6:=s6 _ _ hp5;generalize upd H5 nm (.dK [])=H6 at s6 e6 o6 hp6 ⊢;generalize ([(nm,(s,6))]:List (AI×(Nat×Nat))).foldr cr T4=T6 at e6 t6;apply⟨p,X.W,f,_,rfl,hp6,T.cW,T.nWn,by rw[<- P];show 3<1000;decide,?_⟩;have e7:=Ex.Zn7 (p:=p) (o:=.ins X.W f bi) e6.wt hp6;have U:upd H6 p (.ins X.W f bi) p=some (.ins X.W f bi):=ao;generalize upd H6 p (.ins X.W f bi)=H7 at e7 U ⊢;ext;intro sw ds I nds nes;refine⟨sw,rfl,ds,ao,λgr H8 n b1 b2 k8=>⟨rfl,?_⟩⟩;have Zvs:H7 gr=none:=by
   by_cases z:gr=sw
   ·rw[z,ao]at n;cases n
   ·rw[aB z]at n
    by_cases y:gr=ds
    ·rw[y,ao]at n;cases n
    ·rw[aB y]at n;exact n
  have s8:bA H7 H8:=λb o hb=>k8 b o (by rw[aB (aF hb I),aB (aF hb nds)];exact hb) (aF hb I);have e8:Ex p H7 H8 T6 _:=Ex.news (p:=p) (vs:=[(sw,(s,7)),(gr,(s,8))]) e7.wt s8 (by
   intro v hv;simp only[List.mem_cons,List.not_mem_nil,or_false]at hv;rcases hv with rfl | rfl
   ·exact⟨I,_,b1⟩
   ·exact⟨Zvs,_,b2⟩)
  have nsg:sw≠gr:=kE b1 b2 aS;have ts8:([(sw,(s,7)),(gr,(s,8))].foldr cr T6) sw=(s,7):=eF;have tg8:([(sw,(s,7)),(gr,(s,8))].foldr cr T6) gr=(s,8):=(gF nsg.symm).trans eF;generalize ([(sw,(s,7)),(gr,(s,8))]:List (AI×(Nat×Nat))).foldr cr T6=T8 at e8 ts8 tg8;have hp8:=s8 _ _ U;have nsp:sw≠p:=λz=>by rw[z,U]at I;cases I
  have ngp:gr≠p:=λz=>by rw[z,U]at Zvs;cases Zvs
  clear k8 n;apply⟨p,X.W,f,_,rfl,hp8,T.cW,T.JN,by rw[<- P];show 4<1000;decide,?_⟩;have e9:=Ex.Zn7 (p:=p) (o:=.ins X.W f (bM "sweeper" (.ref sw) bi)) e8.wt hp8;have hp9:upd H8 p (.ins X.W f (bM "sweeper" (.ref sw) bi)) p=some (.ins X.W f (wX hq ki d nm sw)):=by
   rw[ao,<- P,Zl1]
  generalize upd H8 p (.ins X.W f (bM "sweeper" (.ref sw) bi))=H9 at e9 hp9 ⊢;have O:=e9;have f69:=e7.trans (e8.trans e9);have f49:=e5.trans (e6.trans f69);have B:=e4.trans f49;have E:=ex.trans B;have g:=e3.trans E;obtain⟨⟨dk,ok⟩,⟨dl,ol⟩⟩:=kd;have hlk:∃o,H lk=some o:=by
   rcases ol with ⟨_,z⟩ | ⟨_,z⟩ | ⟨_,z⟩
   ·exact⟨_,z⟩
   ·exact⟨_,z⟩
   ·exact⟨_,z⟩
  obtain⟨olk,elk⟩:=hlk;refine hQ H9 T8 ⟨p,hq,ca,ki,lk,d,nm,sw,gr,hs,[],[]⟩ g.kp (λb o hb nb=>(g.tg b o hb).trans (R b o hb nb)) g.wt rfl ⟨⟨(g.tg _ _ hp).trans tp,(g.tg _ _ ok).trans ((R _ _ ok nki).trans tki),(g.tg _ _ elk).trans ((R _ _ elk N).trans tlk),(f49.tg _ _ o4).trans t4,⟨f,hp9⟩,⟨dk,g.kp _ _ ok nki⟩,⟨dl,?_⟩,f49.kp _ _ o4 nhp⟩,
   ⟨(E.tg _ _ L).trans th1,(E.tg _ _ M).trans tc1,⟨dh,E.kp _ _ L nph⟩,E.kp _ _ M npc⟩,⟨(f69.tg _ _ o6).trans t6,f69.kp _ _ o6 nnp,.nil⟩,
   ⟨(O.tg _ _ b1).trans ts8,(O.tg _ _ b2).trans tg8,⟨ds,O.kp _ _ b1 nsp⟩,O.kp _ _ b2 ngp⟩,⟨?_,by show hs.length<=30;rw[hl,hk,ltl];exact hn,?_⟩,⟨rfl,λi q c z=>by simp at z⟩⟩
  ·rcases ol with ⟨z,y⟩ | ⟨z,y⟩ | ⟨z,y⟩
   ·exact .inl ⟨z,g.kp _ _ y N⟩
   ·exact .inr (.inl ⟨z,g.kp _ _ y N⟩)
   ·exact .inr (.inr ⟨z,g.kp _ _ y N⟩)
  ·show hs.length=(hands.map _).length;rw[aX,hl,hk,ltl]
  ·intro j q m A C;have C:(hands.map λm=>(m.1,List.replicate m.2.toNat none))[j]? =some m:=C;rw[bV]at C;obtain⟨m0,y1,rfl⟩:=Option.map_eq_some_iff.mp C;obtain⟨⟨u1,u2,⟨du,u3⟩,u4⟩,v1,v2⟩:=hds j q m0 A y1;exact⟨(B.tg _ _ u3).trans u1,(B.tg _ _ u4).trans u2,⟨du,B.kp _ _ u3 v1⟩,B.kp _ _ u4 v2⟩
 ·have Z:i<ts.length:=δ
  refine .inr ⟨⟨_,_,cA.of (sx _ _ oh3),by rw[bV,bG Z];rfl⟩,?_,λx H' y=>?_⟩
  ·rw[aX,hl];exact Nat.lt_of_lt_of_le Z (bD δ)
  obtain⟨y1,y2⟩:=y;subst y1;have ey:=y2 _ (cA.of (sx _ _ oh3));rw[bV,bG Z]at ey;have ey:x=.ref ts[i]:=(Option.some.inj ey).symm;subst ey;obtain⟨m,hm,ot,m0,m1⟩:=Zzp i _ (bG Z);refine J3 (Zbg ⟨ts[i],.str m.1,.int m.2,_,rfl,dU.of (sx _ _ ot),?_⟩);walk_at"c";ext;intro q1 dq nq ndq neq;refine⟨q1,m.1,m.2,rfl,dq,ao,m0,m1,λsa Hy r b1 b2 k=>⟨rfl,?_⟩⟩;have Zvn:H' sa=none:=by
   by_cases z:sa=q1
   ·rw[z,ao]at r;cases r
   ·rw[aB z]at r
    by_cases y:sa=dq
    ·rw[y,ao]at r;cases r
    ·rw[aB y]at r;exact r
  have sy:bA H' Hy:=λb o hb=>k b o (by rw[aB (aF hb nq),aB (aF hb ndq)];exact hb) (aF hb nq);have ey:Ex p H' Hy Tx _:=Ex.news (p:=p) (vs:=[(q1,(s,20+2 * i)),(sa,(s,21+2 * i))]) ex.wt sy (by
   intro v hv;simp only[List.mem_cons,List.not_mem_nil,or_false]at hv;rcases hv with rfl | rfl
   ·exact⟨nq,_,b1⟩
   ·exact⟨Zvn,_,b2⟩)
  have nqs:q1≠sa:=kE b1 b2 aS;have J:=sx _ _ g3;refine⟨ts.length - b9,δ,δ,rfl,hs++[(q1,sa)],_,by rw[List.map_append];rfl,by rw[List.length_append,hl];rfl,sx.trans sy,ex.trans ey,λj q m' A C=>?_⟩
  by_cases hj:j<hs.length
  ·rw[List.getElem?_append_left hj]at A;obtain⟨⟨u1,u2,⟨du,u3⟩,u4⟩,v1,v2⟩:=hds j q m' A C;exact⟨⟨(ey.tg _ _ u3).trans u1,(ey.tg _ _ u4).trans u2,⟨du,sy _ _ u3⟩,sy _ _ u4⟩,v1,v2⟩
  ·have hj':=(cL A).1;rw[List.length_append,List.length_singleton]at hj';have ej:j=hs.length:=δ
   subst ej;rw[List.getElem?_append_right Γ,Nat.sub_self]at A;cases A;rw[hl]at C ⊢;rw[hm]at C;cases C;exact⟨⟨eF,(gF nqs.symm).trans eF,⟨dq,b1⟩,by rw[b2,List.map_replicate];rfl⟩,(λz=>by rw[show q1=p from z,J]at nq;cases nq),(λz=>by rw[show sa=p from z,J]at Zvn;cases Zvn)⟩
end
section
variable {K:aD}{X:Cs}{H:Hp}{Q:VK}{E:XK}{T:Tg}{s:Nat}{A:Wa}{M:Wm}
theorem Zmk{i:Nat}{c:Ce}(j:WJ X H T s A M)(w:WT H T)(h0:s≠0)(hc:M.cells[i]? =some (some c))
  (k:∀H' l,cY s H H' T T->WJ X H' T s l { M with used:=M.used - (1+c.fl.length+c.bulk),cells:=M.cells.set i none }->l.wo=A.wo->Q (.int c.birth) H'):
  zm X.C X.H [.ref A.hp,.int i] H Q E:=by
 obtain⟨th,tc,⟨g,oh⟩,oc⟩:=j.jh;obtain⟨h,a,ce⟩:=j.jc.at hc;obtain⟨_,_,⟨m,o1⟩,e⟩:=id ce;have hl:=(cL hc).1;refine⟨A.hp,i,rfl,A.ca,g,M.room,M.used,M.born,A.cs.map pV,h.1,h.2,c.birth,c.bulk,c.tone,c.load,c.fl.map oV,δ,oh,oc,by rw[Int.toNat_natCast,bV,a];rfl,⟨⟨m,o1⟩,e⟩,?_⟩;rw[Int.toNat_natCast,aX];have f:A.hp≠A.ca:=kE oh oc aS;obtain⟨d,n⟩:=j.back w h0 (i:=i) (used':=M.used - (1+c.fl.length+c.bulk)) (by rw[j.jc.lc];exact hl) (upd (upd H A.hp (.ins X.H g (iG M.room A.ca (M.used - (1+c.fl.length+c.bulk)) M.born))) A.ca (.lst ((A.cs.map pV).set i V.non)))
  (λb o hb n1 n2=>by rw[aB n2,aB n1];exact hb) (by rw[aB f];exact ao) ao
 exact k _ _ d n rfl
end
def heldOf(M:Wm):List Au:=M.hands.map (·.2)
inductive Zit(X:Cs)(wo:AI)(H:Hp)(Q:VK):Prop
 | mk (T s A M) (_:WJ X H T s A M) (_:A.wo=wo) (_:M.hands.length<=1000) (_:∀(l:AI) (ls:AF) H',bA H H'->H l=none->H' l=some (.lst (ls.map V.ref))->ls.length=(heldOf M).length->ls.Nodup->(∀r∈ls,H r=none)->l∉ls->(∀(j:Nat) r x,ls[j]? =some r->(heldOf M)[j]? =some x->H' r=some (.lst (x.map oV)))->Q (.ref l) H'):Zit X wo H Q
def UJ(X:Cs):Sp:=λvs H Q E=>∃wo,vs=[.ref wo]/\Zit X wo H Q
section
variable {K:aD}{X:Cs}{H:Hp}{Q:VK}{E:XK}{n:ν}{bk ct:ν}
theorem Zt8{wo:AI}(T:j6 K X)(q:Zit X wo H Q):
  Za5 K ξ [↑wo] H:=by
 obtain⟨Tg,s,A,M,j,rfl,hl,q⟩:=q;obtain⟨w,ow⟩:=j.jb.ow;unfold Za5;apply YT ?_;apply aH ow T.cW T.nWd dj ?_;have l5:=j.jd.l5;refine⟨_,rfl,⟨_,cA.of j.jb.on⟩,?_⟩;refine Zen (cA.of j.jb.on) (by rw[aX];omega) (λi r v=>∃x,(heldOf M)[i]? =some x/\v r=some (.lst (x.map oV))) (by rintro _ _ _ _ ⟨x,e,z⟩ s;exact⟨x,e,s _ _ z⟩) (by rintro _ _ _ ⟨_,_,z⟩;exact⟨_,z⟩) (λx t q hq=>J3 hq) (λi x t c a C hq=>?_) ?_
 ·rw[bV]at c;obtain⟨p,hp,rfl⟩:=Option.map_eq_some_iff.mp c;have o:=j.same a;obtain⟨m,hm,hd⟩:=o.hand hp;obtain⟨w,o1⟩:=hd.o1;walk_at"c";apply aH o1 T.cD T.nDs kJ ?_;apply PL (cA.of hd.o2) λl hl=>?_;exact hq l _ (aL hl _) hl ⟨_,by unfold heldOf;rw[bV,hm];rfl,ao⟩
 ·intro rs B a hl nd u hr p hp;have b:=aL hp (.lst (rs.map V.ref));refine q p rs _ (a.trans b) (a.free hp) ao ?_ nd u ci λh r x f g=>?_
  ·rw[hl,aX];unfold heldOf;rw[aX,j.jd.lh]
  ·obtain⟨k,hk,e⟩:=List.getElem_of_mem z;obtain⟨_,_,d⟩:=hr k p (by rw[bG hk,e]);rw[hp]at d;cases d
  ·obtain⟨y,e3,z⟩:=hr h r f;rw[g]at e3;cases e3;exact b _ _ z
end
def gH(w:Int)(h:Nat):Int:=if w=0 then 2 ^ h - 1 else 0
def pQ(M:Wm):Wm:={ M with sw:={ M.sw with sense:=1 - M.sw.sense,phase:="walk",grey:=[],looked:=gH M.w M.hands.length,turn:=M.sw.turn+1,walks:=0,looks:=0,passes:=0 } }
def U0:Sp:=λvs H Q E=>∃h,vs=[.int h]/\0<=h/\h<=30/\Q (.int (2 ^ h.toNat - 1)) H
def vo(k:Nat):Sp:=λvs H Q E=>∃a h,vs=[.ref a,.int h]/\0<=h/\h<=30/\Q (.int (if k=0 then 2 ^ h.toNat - 1 else 0)) H
inductive Zcr(X:Cs)(wo:AI)(H:Hp)(Q:VK):Prop
 | mk (T s A M) (_:WT H T) (_:s≠0) (_:WJ X H T s A M) (_:A.wo=wo) (_:∀H' T' A',cY s H H' T T'->WJ X H' T' s A' (pQ M)->A'.wo=wo->Q .non H'):Zcr X wo H Q
def Zkx(X:Cs):Sp:=λvs H Q E=>∃wo,vs=[.ref wo]/\Zcr X wo H Q
section
variable {X:Cs}{H H':Hp}{T T':Tg}{s:Nat}{A:Wa}{M:Wm}
theorem WJ.Zsl(j:WJ X H T s A M)(w:WT H T)(h0:s≠0){dx l:AI}(S:Sw)(hl:H l=none)(v:S.grey=[]):
  cY s H bv T (fL T l (s,8))/\
  WJ X bv (fL T l (s,8)) s { A with gr:=l } { M with sw:=S }:=by
 obtain⟨ts,tg,⟨dd,os⟩,og⟩:=id j.js;have e:l≠A.sw:=(aF os hl).symm;have i:WT eI (fL T l (s,8)):=Zgc (w.same (aL hl _)) ao;have g:cY s H eI T (fL T l (s,8)):=⟨λb o h _=>(aL hl _) _ _ h,λb o h=>⟨o,(aL hl _) _ _ h⟩,λb o h=>gF (aF h hl),i⟩;have c:WJ X eI (fL T l (s,8)) s A M:=j.fresh hl;obtain⟨a,C,⟨x,d⟩,F⟩:=id c.js;refine⟨g.trans (cY.upd i d (by rw[a])),?_⟩;have f:rQ s (·=7) eI bv (fL T l (s,8)) (fL T l (s,8)):=rQ.yh a;have K:=c.jb.mv f (jO h0 a) δ δ;have k:=c.jh.mv f δ δ;have u:=c.jn.mv f (jO h0 a) δ;have r:=c.jd.mv f λ_ _ _=>δ
 have E:=c.jc.mv f λ_ _=>δ
 obtain⟨J,N,p,t,m,P,O,L⟩:=K;obtain⟨y,D,n,B⟩:=k;obtain⟨I,q,z⟩:=u;exact⟨⟨J,N,p,t,m,P,O,L⟩,⟨y,D,n,B⟩,⟨I,q,z⟩,⟨a,eF,⟨dx,ao⟩,by rw[aB e,ao,v];rfl⟩,r,E⟩
end
section
variable {K:aD}{X:Cs}{H:Hp}{Q:VK}{E:XK}{n:ν}{bk ct:ν}
theorem Zux{j:Int}(h0:0<=j)(h1:j<=1000):U8 1 j:=⟨h0,δ,ε⟩
theorem Zn0{h:Int}(q:0<=h/\h<=30/\Q (.int (2 ^ h.toNat - 1)) H):Yd ξ [some (.int h)] H:=by
 obtain⟨h0,h1,q⟩:=q;unfold Yd;exists _,_,rfl,rfl,Zux h0 δ;ext;rw[Int.one_mul];exact q
theorem zY{a:AI}{h:Int}(q:0<=h/\h<=30/\Q (.int (if (1:Nat)=0 then 2 ^ h.toNat - 1 else 0)) H):nT ξ [↑a,some (.int h)] H:=by
 unfold nT;apply q.2.2
theorem Jl{a:AI}{h:Int}(q:0<=h/\h<=30/\Q (.int (if (0:Nat)=0 then 2 ^ h.toNat - 1 else 0)) H):qj U0 ξ [↑a,some (.int h)] H:=by
 obtain⟨h0,h1,q⟩:=q;unfold qj;apply⟨h,rfl,h0,h1,q⟩
theorem Zr0{wo:AI}(c:j6 K X)(q:Zcr X wo H Q):
  Zdo K X.E X.F X.L (vo 0) (vo 1) ⟨λ_ H'=>Q .non H',Q,bk,ct⟩ [↑wo,none] H:=by
 obtain⟨T,s,A,M,w,h0,j,rfl,q⟩:=q;obtain⟨U,ow⟩:=j.jb.ow;obtain⟨g,os⟩:=j.js.os;obtain⟨R,ok⟩:=j.jb.ok;obtain⟨dl,ol⟩:=j.jb.ol;have on:=j.jb.on;have lh:=j.jd.lh;have l5:=j.jd.l5;unfold Zdo;apply aH ow c.cW c.JN aV ?_;apply aH os c.cS c.n1 jH ?_;apply⟨A.sw,X.S,g,_,rfl,os,c.cS,c.n1,by show 11<1000;decide,?_⟩;rw[Jq];apply aH ao c.cS c.n5 oX ?_;apply⟨A.sw,X.S,g,_,rfl,ao,c.cS,c.n5,by show 11<1000;decide,?_⟩;rw[N8,dg];apply⟨A.sw,X.S,g,_,rfl,ao,c.cS,c.n2,by show 11<1000;decide,?_⟩;rw[ju,dg];apply⟨ε,λgr n=>?_⟩;have B:A.sw≠gr:=aF ao n;have t:H gr=none:=by rw[aB B.symm]at n;exact n
 apply⟨A.sw,X.S,g,_,rfl,by rw[aB B];exact ao,c.cS,c.n3,by show 11<1000;decide,?_⟩;rw[Oc];have D:∀(a b:HO) (o:HO),upd (upd (upd H A.sw a) gr o) A.sw b=upd (upd H gr o) A.sw b:=λa b o=>by
  funext x
  by_cases z:x=A.sw
  ·rw[z,ao,ao]
  ·rw[aB z,aB z]
   by_cases y:x=gr
   ·rw[y,ao,ao]
   ·rw[aB y,aB y,aB z]
 rw[D];have fin:∀{lo:Int}{J:St},J=[↑A.wo,↑A.sw]->lo=gH M.w M.hands.length->∀(u:Hp),u=upd (upd H gr (.lst [])) A.sw (.ins X.S g b6)->
   (∃a C dx fs,V.ref A.sw=.ref a/\u a=some (.ins C dx fs)/\Pq K C/\cJ K C "looked"/\fs.length<1000/\(aN (dM K χ ς "walks") (aN (dM K χ ς "looks") (dM K χ ς "passes"))) ⟨λ_ H'=>Q .non H',Q,bk,ct⟩ J (upd u a (.ins C dx (bM "looked" (.int lo) fs)))):=by
  rintro lo J rfl N u rfl;refine⟨A.sw,X.S,g,_,rfl,ao,c.cS,c.n4,by show 11<1000;decide,?_⟩;rw[qb,dg];apply⟨A.sw,X.S,g,_,rfl,ao,c.cS,c.n8,by show 11<1000;decide,?_⟩;rw[rW,dg];apply⟨A.sw,X.S,g,_,rfl,ao,c.cS,c.n9,by show 11<1000;decide,?_⟩;rw[lC,dg];apply⟨A.sw,X.S,g,_,rfl,ao,c.cS,c.n10,by show 11<1000;decide,?_⟩;rw[p8,dg];obtain⟨st,P⟩:=j.Zsl w h0 (dx:=g) (l:=gr) { M.sw with sense:=1 - M.sw.sense,phase:="walk",grey:=[],looked:=gH M.w M.hands.length,turn:=M.sw.turn+1,walks:=0,looks:=0,passes:=0 } t rfl;subst N;exact q _ _ _ st P rfl
 have kp:∀b o,H b=some o->b≠A.sw->upd (upd H gr (.lst [])) A.sw (.ins X.S g b6) b=some o:=λb o hb O=>by
  rw[aB O,aB (aF hb t)];exact hb
 have v:∀{a:AI}{C d:AI}{fs:List (Str×V)},H a=some (.ins C d fs)->fs.length<11->a≠A.sw:=λe hl z=>by
  rw[z,os]at e;have:=Option.some.inj e
  injection this with _ _ e3
  rw[<- e3]at hl;exact absurd hl (by show ¬ 11<11;decide)
 have f:=kp _ _ ow (v ow (by show 5<11;decide));have h:=kp _ _ ok (v ok (by show 2<11;decide));have i:=kp _ _ on (kE on os aS);generalize m:upd (upd H gr (.lst [])) A.sw (.ins X.S g b6)=u at kp f h i ⊢;have k:((A.hs.map λp=>V.ref p.1).length:Int)=(M.hands.length:Int):=by rw[aX,lh]
 refine yD ?_;left;rcases ol with ⟨I,o⟩ | ⟨I,o⟩ | ⟨I,o⟩
 ·have r:=kp _ _ o (v o (by show 0<11;decide));refine BP ?_;left;refine aH f c.cW c.nWk iu ?_;refine aH h c.cK c.nKl cT ?_;left;refine⟨A.lk,dl,_,rfl,r,rfl,?_⟩;left;refine aH f c.cW c.nWd dj ?_;left;refine eV (cA.of i) ?_;rw[k];left;refine⟨A.lk,_,rfl,δ,δ,?_⟩;left;exact fin rfl (by unfold gH;rw[if_pos I,if_pos rfl,Int.toNat_natCast]) _ m.symm
 ·have r:=kp _ _ o (v o (by show 0<11;decide));refine pL (BP ?_);left;refine aH f c.cW c.nWk iu ?_;refine aH h c.cK c.nKl cT ?_;left;refine⟨A.lk,dl,_,rfl,r,rfl,?_⟩;left;refine aH f c.cW c.nWd dj ?_;left;refine eV (cA.of i) ?_;rw[k];left;refine⟨A.lk,_,rfl,δ,δ,?_⟩;left;exact fin rfl (by unfold gH;rw[if_neg (show ¬ (1:Nat)=0 by decide),if_neg δ]) _ m.symm
 ·have r:=kp _ _ o (v o (by show 0<11;decide));refine pL (pL ?_);left;refine aH f c.cW c.nWk iu ?_;refine aH h c.cK c.nKl cT ?_;left;refine⟨A.lk,dl,_,rfl,r,rfl,?_⟩;left;refine aH f c.cW c.nWd dj ?_;left;refine eV (cA.of i) ?_;rw[k];left;refine⟨A.lk,_,rfl,δ,δ,?_⟩;left;exact fin rfl (by unfold gH;rw[if_neg (show ¬ (1:Nat)=0 by decide),if_neg δ]) _ m.symm
end
def Xc(M:Wm):Bool:=decide (M.sw.phase="walk"\/M.sw.phase="lost")
def K7(M:Wm)(p b:Int):AA:=if lA M p b=true then none else match cellAt M p with
 | none=>none
 | some c=>if Xc M=true/\¬ c.tone=M.sw.sense then none else some p
inductive u9(X:Cs)(wo:AI)(H:Hp)(Q:VK):Prop
 | mk (T s A M) (_:WJ0 X H T s A M) (_:A.wo=wo) (_:∀H',bA H H'->Q (.bl (Xc M)) H'):u9 X wo H Q
def Jh(X:Cs):Sp:=λvs H Q E=>∃wo,vs=[.ref wo]/\u9 X wo H Q
inductive Kd(X:Cs)(wo:AI)(p:Int)(b:Int)(H:Hp)(Q:VK):Prop
 | mk (T s A M) (_:WJ0 X H T s A M) (_:A.wo=wo) (_:∀H',bA H H'->Q (oV (K7 M p b)) H'):Kd X wo p b H Q
def Zw(X:Cs):Sp:=λvs H Q E=>∃wo p b,vs=[.ref wo,.int p,.int b]/\Kd X wo p b H Q
section
variable {K:aD}{X:Cs}{H:Hp}{Q:VK}{E:XK}{n:ν}{bk ct:ν}
theorem Wc{wo:AI}(T:j6 K X)(q:u9 X wo H Q):Aj K ξ [↑wo] H:=by
 obtain⟨Tg,s,A,M,j,rfl,q⟩:=q;obtain⟨d1,ow⟩:=j.jb.ow;obtain⟨d2,os⟩:=j.js.os;unfold Aj;apply aH ow T.cW T.JN aV ?_;apply aH os T.cS T.n2 cR ?_;apply⟨bD ζ,λtp a=>?_⟩;generalize e:upd H tp _=H1;obtain⟨f,c⟩:=nwO a e;refine⟨tp,_,rfl,.inr (dU.of c),rfl,rfl,?_⟩;have q:=q H1 f;rw[show Xc M=(if false=true then !inV (V.str M.sw.phase) [V.str "walk",.str "lost"]else inV (V.str M.sw.phase) [V.str "walk",.str "lost"])from by
  rw[if_neg Bool.false_ne_true];unfold Xc inV
  by_cases h1:M.sw.phase="walk"
  ·simp[h1,eqV]
  ·by_cases h2:M.sw.phase="lost"
   ·simp[h2,eqV]
   ·have b:¬ ("walk":Str)=M.sw.phase:=λz=>h1 z.symm;have d:¬ ("lost":Str)=M.sw.phase:=λz=>h2 z.symm;simp[h1,h2,b,d,eqV]]at q
 exact q
theorem Zh1{wo:AI}{p b:Int}(T:j6 K X)(q:Kd X wo p b H Q):QX K (Zj0 X) (iI X) (Jh X) ξ [↑wo,some (.int p),some (.int b)] H:=by
 obtain⟨Tg,s,A,M,j,rfl,q⟩:=q;unfold QX;exists _,_,_,rfl,Tg,s,A,M,j,rfl;have h:∀c,cellAt M p=some c->lA M p b=false->K7 M p b=if Xc M=true/\¬ c.tone=M.sw.sense then none else some p:=λc hc a=>by
  unfold K7;rw[a,if_neg Bool.false_ne_true,hc]
 cases a:lA M p b with
 | true=>
  ext;have:=q H (bA.refl _);rw[show K7 M p b=none from if_pos a]at this;exact this
 | false=>
  apply⟨_,rfl,Tg,s,A,M,j,rfl,λu o=>?_⟩;obtain⟨c,hc⟩:∃c,cellAt M p=some c:=by
   cases e:cellAt M p with
   | none=>
    have:lA M p b=true:=by unfold lA;rw[e]
    rw[this]at a;cases a
   | some c=>exact⟨c,rfl⟩
  have q:=q u o;rw[h c hc a]at q;have d:=j.same o;cases k:Xc M with
  | false=>
   ext;rw[if_neg (λz=>by rw[k]at z;cases z.1)]at q;exact q
  | true=>
   ext;obtain⟨d1,ow⟩:=d.jb.ow;obtain⟨w,oh⟩:=d.jh.oh;rcases d.look (some p)with ⟨f,_⟩ | ⟨i,x,m,r,h0,l,t,hp,_,ce⟩
   ·have f:cellAt M p=none:=f;rw[hc]at f;cases f
   cases r;rw[hc]at l;cases l;refine aH ow T.cW T.Vb bI ?_;apply aH oh T.c.cX T.c.bZ bU ?_;apply gQ (cA.of d.jh.oc) (je (v:=.ref m.1) h0 (by rw[bV,hp];rfl)) ?_;exists _,_,rfl,Tg,s,A,M,_,m,c,d,rfl,ce,rfl;ext
   by_cases g:c.tone=M.sw.sense
   ·rw[if_neg (λz=>z.2 g)]at q;refine Wu (λz=>absurd g z) a8;apply q
   ·rw[if_pos ⟨k,g⟩]at q;refine Wu a8 (λz=>absurd z g);apply q
end
def mG(M:Wm):Au:=M.names.map λm=>K7 M m.2.1 m.2.2
def g8(M:Wm):List Au:=heldOf M++[mG M]
inductive Zcq(X:Cs)(wo:AI)(H:Hp)(Q:VK):Prop
 | mk (T s A M) (_:s≠0) (_:WJ X H T s A M) (_:A.wo=wo) (_:M.hands.length<=1000) (_:M.names.length<=1000) (_:∀(l:AI) (ls:AF) H',bA H H'->H l=none->H' l=some (.lst (ls.map V.ref))->ls.length=(g8 M).length->(∀r∈ls,H r=none)->l∉ls->(∀(j:Nat) r x,ls[j]? =some r->(g8 M)[j]? =some x->H' r=some (.lst (x.map oV)))->Q (.ref l) H'):Zcq X wo H Q
def Zkv(X:Cs):Sp:=λvs H Q E=>∃wo,vs=[.ref wo]/\Zcq X wo H Q
section
variable {K:aD}{X:Cs}{H:Hp}{Q:VK}{E:XK}{n:ν}{bk ct:ν}
theorem Zy5{T:Tg}{ns:AF}{names:List cx}(h:Al (NmO H T) ns names):∀{i:Nat}{kv:L2.Key×V},(wQ names ns)[i]? =some kv->∃t m,names[i]? =some m/\kv.2=.ref t/\H t=some (.tup [.int m.2.1,.int m.2.2])/\T t=(0,0):=by
 induction h with
 | nil=>intro i kv e;simp[wQ]at e
 | cons h0 h ih=>
  intro i kv e;cases i with
  | zero=>cases e;exact⟨_,_,rfl,rfl,h0.2,h0.1⟩
  | succ i=>exact ih (i:=i) (kv:=kv) (by simpa[wQ]using e)
theorem Znu{wo:AI}(T:j6 K X)(q:Zcq X wo H Q):
  Zdn K (UJ X) (Zw X) H ξ [↑wo] H:=by
 obtain⟨Tg,s,A,M,h0,j,rfl,hh,hn,q⟩:=q;unfold Zdn;apply⟨_,rfl,Tg,s,A,M,j,rfl,hh,λl1 a H1 s1 nl1 ol1 F nd1 Z ZEh g1=>?_⟩;have Y:=j.same s1;obtain⟨dw,ow⟩:=Y.jb.ow;have om:=Y.jn.om;apply aH ow T.cW T.nWn iR ?_;refine⟨_,_,rfl,.inl om,λvv nvv=>?_⟩;generalize zz:upd H1 vv _=H2;obtain⟨P,g2⟩:=nwO nvv zz;have W:=Y.same P;have v:=W.jn.om;refine⟨_,_,_,rfl,g2,v,λo=>?_⟩;have lnm:(wQ M.names A.ns).length=M.names.length:=Zp0 W.jn.nms;have w3:=W.names (o:=.wB o (.dK (wQ M.names A.ns))) h0;have d:∀b u,H2 b=some u->b≠A.nm->upd H2 A.nm (.wB o (.dK (wQ M.names A.ns))) b=some u:=λb u hb nb=>by rw[aB nb];exact hb
 have R:upd H2 A.nm (.wB o (.dK (wQ M.names A.ns))) A.nm=some (.wB o (.dK (wQ M.names A.ns))):=ao;generalize upd H2 A.nm (.wB o (.dK (wQ M.names A.ns)))=H3 at w3 d R ⊢;have nmn:∀t xs,H2 t=some (.tup xs)->t≠A.nm:=λt xs z=>kE z v (λy=>by cases y);refine Zjy ?_;refine Zw0 M.names.length δ (λi y _=>∃m,M.names[i]? =some m/\y=oV (K7 M m.2.1 m.2.2)) (λ_ _ _ _ h _=>h) (λH' s=>⟨s _ _ R,δ⟩) (λi H' U s=>⟨s _ _ R,δ⟩) (λi x H4 S U w y=>?_) ?_
 ·obtain⟨rfl,kv,ekv,rfl⟩:=y;obtain⟨t,m,em,et,ot,tt⟩:=Zy5 W.jn.nms ekv;refine⟨rfl,λq hq=>J3 hq,λq hq=>?_⟩;have ot4:=w _ _ (d _ _ ot (nmn _ _ ot));refine⟨t,_,_,_,by rw[et],dU.of ot4,?_⟩;walk_at"c";apply⟨_,_,_,rfl,Tg,s,A,M,w3.same w,rfl,λH6 f=>hq _ _ f ⟨m,em,rfl⟩⟩
 ·intro ys H4 w ly hy p O;have ey:ys=(mG M).map oV:=by
   refine List.ext_getElem? λi=>?_
   by_cases U:i<ys.length
   ·obtain⟨m,g,l⟩:=hy i ys[i] (bG U);rw[bG U,l];unfold mG;rw[bV,bV,g];rfl
   ·rw[List.getElem?_eq_none δ,List.getElem?_eq_none];unfold mG;rw[aX,aX];omega
  subst ey;have g5:=w _ _ R;have D:p≠A.nm:=λz=>by rw[z,g5]at O;cases O
  refine⟨A.nm,o,_,by rw[aB D.symm];exact g5,(λo' u z=>by rw[j.jn.om]at z;cases z),?_⟩;generalize B:upd (upd H4 p (.lst ((mG M).map oV))) A.nm (.dK (wQ M.names A.ns))=S;have E:bA H2 S:=λb u hb=>by
   rw[<- B]
   by_cases z:b=A.nm
   ·subst z;rw[ao];rw[v]at hb;exact hb
   ·have h3:=d b u hb z;rw[aB z,aB (aF (w _ _ h3) O)];exact w _ _ h3
  have np2:H2 p=none:=by
   cases z:H2 p with
   | none=>rfl
   | some u=>
    have:=w _ _ (d p u z D);rw[O]at this;cases this
  have J:S p=some (.lst ((mG M).map oV)):=by rw[<- B,aB D];exact ao
  clear B;have I:=s1.trans (P.trans E);have C:=P.trans E;apply⟨bD ζ,λl2 nl2=>?_⟩;generalize zz:upd S l2 _=H6;obtain⟨f,g6⟩:=nwO nl2 zz;refine⟨l1,l2,_,_,rfl,rfl,f _ _ (C _ _ ol1),g6,?_,λl3 c=>?_⟩
  ·rw[aX];have:(heldOf M).length=M.hands.length:=by unfold heldOf;rw[aX]
   exact bD (by simp;omega)
  have N:=aL c (.lst (a.map V.ref++[.ref p]));have L:=I.trans (f.trans N);have e7:a.map V.ref++[V.ref p]=(a++[p]).map V.ref:=by rw[List.map_append];rfl
  rw[e7]at N L ⊢;have fp:H p=none:=s1.free (P.free np2);refine q l3 (a++[p]) _ L (I.free (f.free c)) ao ?_ (λr hr=>?_) (λhr=>?_) λk r x g l=>?_
  ·unfold g8;rw[List.length_append,List.length_append,F];rfl
  ·rcases List.mem_append.mp hr with hr | hr
   ·exact Z r hr
   ·rw[List.mem_singleton.mp hr];exact fp
  ·rcases List.mem_append.mp hr with hr | hr
   ·obtain⟨k,hk,e⟩:=List.getElem_of_mem hr;have:=g1 k l3 (heldOf M)[k] (by rw[bG hk,e]) (bG δ);rw[f _ _ (C _ _ this)]at c;cases c
   ·rw[List.mem_singleton.mp hr,f _ _ J]at c;cases c
  ·unfold g8 at l
   by_cases hk:k<a.length
   ·rw[List.getElem?_append_left hk]at g;rw[List.getElem?_append_left δ]at l;exact N _ _ (f _ _ (C _ _ (g1 k r x g l)))
   ·have hk2:=(cL g).1;rw[List.length_append,List.length_singleton]at hk2;have ek:k=a.length:=δ
    rw[List.getElem?_append_right δ]at g l;rw[ek,Nat.sub_self]at g;rw[ek,F,Nat.sub_self]at l;cases g;cases l;exact N _ _ (f _ _ J)
end
namespace KB
abbrev Fd:=List (Option Au)
def M7(F:Fd)(p:Int):Option Au:=if 0<=p then(F[p.toNat]?).join else none
def nxt(F:Fd)(pl:AA)(f:Int):AA:=match pl with
 | none=>none
 | some p=>match M7 F p with
  | none=>none
  | some fl=>if 0<=f then(fl[f.toNat]?).join else none
abbrev Rw:=List Au
def slt(R:Rw)(r s:Int):AA:=((R[r.toNat]?).bind λx=>x[s.toNat]?).join
def Zaf(F:Fd)(w:AE)(x:AA×Nat):Option cm:=match x.1 with
 | none=>none
 | some q=>if (M7 F q).isSome then some (q,w++[(x.2:Int)])else none
def onw(F:Fd)(w:AE)(n:Nat)(ps:Au):List cm:=(ps.zipIdx n).filterMap (Zaf F w)
def q0(F:Fd)(n:Nat)(R:Rw):List cm:=(R.zipIdx n).flatMap λx=>onw F [(x.2:Int)] 0 x.1
structure Good(F:Fd)(R:Rw)(p:Int)(w:AE):Prop where
 ex:∃r s fs row,w=r::s::fs/\0<=r/\0<=s/\R[r.toNat]? =some row/\s.toNat<row.length/\(∀f∈fs,0<=f)/\fs.foldl (nxt F) (slt R r s)=some p
 there:(M7 F p).isSome=true
theorem zK{F:Fd}{w:AE}{n:Nat}{ps:Au}{q:Int}{v:AE}(h:(q,v)∈onw F w n ps):∃k,ps[k]? =some (some q)/\v=w++[((n+k:Nat):Int)]/\(M7 F q).isSome=true:=by
 obtain⟨⟨x,m⟩,hm,e⟩:=List.mem_filterMap.mp h;obtain⟨b,a⟩:=List.mem_zipIdx_iff_le_and_getElem?_sub.mp hm;unfold Zaf at e;cases x with
 | none=>cases e
 | some c=>
  simp only at e;split at e
  ·rename_i hs
   cases e;refine⟨m - n,a,?_,hs⟩;have:n+(m - n)=m:=by have:=b;simp only at this;omega
   rw[this]
  ·cases e
theorem Zq1{F:Fd}{R:Rw}{p q:Int}{w v:AE}{fl:Au}(g:Good F R p w)(b:M7 F p=some fl)(h:(q,v)∈onw F w 0 fl):Good F R q v:=by
 obtain⟨k,hk,rfl,hs⟩:=zK h;obtain⟨⟨r,s,fs,a,rfl,h1,h2,e,d,c,i⟩,_⟩:=g;refine⟨⟨r,s,fs++[((0+k:Nat):Int)],a,rfl,h1,h2,e,d,λf b=>?_,?_⟩,hs⟩
 ·rcases List.mem_append.mp b with z | z
  ·exact c f z
  ·have:f=((0+k:Nat):Int):=by simpa using z
   omega
 ·rw[List.foldl_append,i];show nxt F (some p) _=some q;unfold nxt;simp only[b];rw[if_pos δ];have:(((0+k:Nat):Int)).toNat=k:=δ
  rw[this,hk];rfl
theorem Zta{F:Fd}{R:Rw}{q:Int}{v:AE}(h:(q,v)∈q0 F 0 R):Good F R q v:=by
 obtain⟨⟨a,n⟩,hm,h⟩:=List.mem_flatMap.mp h;have hr:R[n]? =some a:=List.mem_zipIdx_iff_getElem?.mp hm;obtain⟨k,hk,rfl,hs⟩:=zK h;refine⟨⟨(n:Int),((0+k:Nat):Int),[],a,rfl,δ,δ,by simpa using hr,?_,(λf d=>by cases d),?_⟩,hs⟩
 ·have:k<a.length:=(cL hk).1;omega
 ·show slt R _ _=some q;unfold slt;have b:((n:Int)).toNat=n:=δ
  have c:(((0+k:Nat):Int)).toNat=k:=δ
  rw[b,c,hr];simp only[Option.bind_some,hk,Option.join_some]
inductive Cq(F:Fd)(R:Rw):List cm->Nat->List cm->Prop
 | start:Cq F R (q0 F 0 R) 0 []
 | old {q k l p w}:Cq F R q k l->q[k]? =some (p,w)->p∈l.map (·.1)->Cq F R q (k+1) l
 | new {q k l p w fl}:Cq F R q k l->q[k]? =some (p,w)->p∉l.map (·.1)->M7 F p=some fl->Cq F R (q++onw F w 0 fl) (k+1) (l++[(p,w)])
theorem Cq.good{F:Fd}{R:Rw}{q l:List cm}{k:Nat}(b:Cq F R q k l):(∀x∈q,Good F R x.1 x.2)/\∀x∈l,Good F R x.1 x.2:=by
 induction b with
 | start=>exact⟨λx hx=>Zta hx,λx hx=>nomatch hx⟩
 | old _ _ _ ih=>exact ih
 | new b hq hn c ih=>
  have g:=ih.1 _ (List.mem_of_getElem? hq);refine⟨λx hx=>?_,λx hx=>?_⟩
  ·rcases List.mem_append.mp hx with z | z
   ·exact ih.1 x z
   ·exact Zq1 g c z
  ·rcases List.mem_append.mp hx with z | z
   ·exact ih.2 x z
   ·have a:=List.mem_singleton.mp z;rw[a];exact g
def wgt:Option Au->Nat
 | none=>0
 | some fl=>fl.length
def Zgh(F:Fd)(l:List cm):Nat:=((F.zipIdx).map λx=>if (x.2:Int)∈l.map (·.1)then 0 else wgt x.1).sum
theorem Znj{a:Type}(f g:a->Nat):∀(xs:List a),(∀x∈xs,g x<=f x)->(xs.map g).sum<=(xs.map f).sum
 | [],_=>Nat.le_refl _
 | x::xs,h=>by
  have h1:=h x ζ;have h2:=Znj f g xs λy hy=>h y (by simp[hy]);simp only[List.map_cons,List.sum_cons];omega
theorem Zd7{b:Type}(f g:b->Nat)(d:Nat):∀(xs:List b) (a:b),a∈xs->(∀x∈xs,g x<=f x)->g a+d<=f a->(xs.map g).sum+d<=(xs.map f).sum
 | [],_,h,_,_=>nomatch h
 | x::xs,a,ha,h,hd=>by
  have h1:=h x ζ;have h2:=Znj f g xs λy hy=>h y (by simp[hy]);simp only[List.map_cons,List.sum_cons];rcases List.mem_cons.mp ha with z | z
  ·subst z;omega
  ·have c:=Zd7 f g d xs a z (λy hy=>h y (by simp[hy])) hd;omega
theorem Pz{F:Fd}{w:AE}{n:Nat}{ps:Au}:(onw F w n ps).length<=ps.length:=by
 unfold onw;have:=List.length_filterMap_le (Zaf F w) (ps.zipIdx n);rw[List.length_zipIdx]at this;exact this
theorem Zna{F:Fd}{l:List cm}{p:Int}{w:AE}{fl:Au}(hn:p∉l.map (·.1))(a:M7 F p=some fl):Zgh F (l++[(p,w)])+fl.length<=Zgh F l:=by
 unfold M7 at a;split at a
 ·rename_i h0
  have hp:F[p.toNat]? =some (some fl):=by
   cases e:F[p.toNat]? with
   | none=>rw[e]at a;cases a
   | some x=>rw[e]at a;simp only[Option.join_some]at a;rw[a]
  unfold Zgh;refine Zd7 _ _ fl.length _ (some fl,p.toNat) (List.mem_zipIdx_iff_getElem?.mpr hp) (λx _=>?_) ?_
  ·simp only[List.map_append,List.map_cons,List.map_nil,List.mem_append]
   by_cases h1:(x.2:Int)∈l.map (·.1)
   ·simp only[h1,true_or,↓reduceIte,Nat.le_refl]
   ·simp only[h1,false_or];split
    ·exact Nat.zero_le _
    ·exact Nat.le_refl _
  ·have e:((p.toNat:Nat):Int)=p:=δ
   simp only[List.map_append,List.map_cons,List.map_nil,List.mem_append,e];rw[if_pos (.inr ζ),if_neg hn];show 0+fl.length<=wgt (some fl);show 0+fl.length<=fl.length;omega
 ·cases a
def total(F:Fd)(R:Rw):Nat:=(q0 F 0 R).length+Zgh F []
theorem Cq.bound{F:Fd}{R:Rw}{q l:List cm}{k:Nat}(b:Cq F R q k l):q.length+Zgh F l<=total F R:=by
 induction b with
 | start=>exact Nat.le_refl _
 | old _ _ _ ih=>exact ih
 | new b hq hn a ih=>
  have h2:=@Pz F;rw[List.length_append];refine Nat.le_trans ?_ ih
  rename_i w fl
  have d:=h2 (w:=w) (n:=0) (ps:=fl);have c:=Zna (w:=w) hn a;omega
end KB
def Ztt(cs:List V)(i:Int):V:=if 0<=i then(cs[i.toNat]?).getD .non else .non
def CO(a:AI)(H:Hp)(cs:List V)(i:Nat):Option Au->Prop
 | none=>cs[i]? =some .non
 | some fl=>∃p fa b u t l,cs[i]? =↑p/\zy a H p fa b u t l (fl.map oV)
structure HV(CC CH:AI)(H:Hp)(hp:AI)(F:KB.Fd):Prop where
 ex:∃ca room used born cs,HpO CH H hp ca room used born cs/\cs.length=F.length/\∀(i:Nat) x,F[i]? =some x->CO CC H cs i x
theorem HpO.same{a:AI}{H H':Hp}{hp ca:AI}{room used born:Int}{cs:List V}(h:HpO a H hp ca room used born cs)(s:bA H H'):HpO a H' hp ca room used born cs:=by
 obtain⟨⟨b,h1⟩,h2⟩:=h;exact⟨⟨b,s _ _ h1⟩,s _ _ h2⟩
theorem CO.same{a:AI}{H H':Hp}{cs:List V}{i:Nat}{x:Option Au}(h:CO a H cs i x)(s:bA H H'):CO a H' cs i x:=by
 cases x with
 | none=>exact h
 | some fl=>
  obtain⟨p,d,b,u,t,l,e,c⟩:=h;exact⟨p,d,b,u,t,l,e,c.same s⟩
theorem HV.same{b a:AI}{H H':Hp}{hp:AI}{F:KB.Fd}(h:HV b a H hp F)(s:bA H H'):HV b a H' hp F:=by
 obtain⟨ca,room,used,born,cs,o,l,e⟩:=h;exact⟨ca,room,used,born,cs,o.same s,l,λi x hx=>(e i x hx).same s⟩
theorem Zqa{d:AI}{H:Hp}{cs:List V}{F:KB.Fd}(hl:cs.length=F.length)(e:∀(i:Nat) x,F[i]? =some x->CO d H cs i x)(i:Int):
  (KB.M7 F i=none/\Ztt cs i=.non)\/∃fl p fa b u t l,KB.M7 F i=some fl/\Ztt cs i=.ref p/\cs[i.toNat]? =↑p/\0<=i/\zy d H p fa b u t l (fl.map oV):=by
 unfold KB.M7 Ztt
 by_cases h0:0<=i
 ·simp only[h0,↓reduceIte];cases f:F[i.toNat]? with
  | none=>
   have:cs[i.toNat]? =none:=by rw[List.getElem?_eq_none_iff]at f ⊢;omega
   exact .inl ⟨rfl,by rw[this];rfl⟩
  | some x=>
   have c:=e _ _ f;cases x with
   | none=>exact .inl ⟨rfl,by rw[show cs[i.toNat]? =some V.non from c];rfl⟩
   | some fl=>
    obtain⟨p,fa,b,u,t,l,a,g⟩:=c;exact .inr ⟨fl,p,fa,b,u,t,l,rfl,by rw[a];rfl,a,trivial,g⟩
 ·simp only[h0,↓reduceIte];exact .inl ⟨trivial,trivial⟩
def Dy(H:Hp):AF->List cm->Prop
 | [],[]=>True
 | t::ts,x::b=>(∃a,H t=some (.tup [.int x.1,.ref a])/\H a=some (.tup (x.2.map V.int)))/\Dy H ts b
 | _,_=>False
theorem Dy.same{H H':Hp}(s:bA H H'):∀{ts:AF}{b:List cm},Dy H ts b->Dy H' ts b
 | [],[],_=>trivial
 | [],_::_,h=>h.elim
 | _::_,[],h=>h.elim
 | _::_,_::_,⟨⟨a,h1,h2⟩,c⟩=>⟨⟨a,s _ _ h1,s _ _ h2⟩,Dy.same s c⟩
theorem Dy.app{H:Hp}:∀{ts us:AF}{a rs:List cm},Dy H ts a->Dy H us rs->Dy H (ts++us) (a++rs)
 | [],_,[],_,_,h=>h
 | [],_,_::_,_,h,_=>h.elim
 | _::_,_,[],_,h,_=>h.elim
 | _::_,_,_::_,_,⟨h1,b⟩,h=>⟨h1,Dy.app b h⟩
theorem Dy.len{H:Hp}:∀{ts:AF}{a:List cm},Dy H ts a->ts.length=a.length
 | [],[],_=>rfl
 | [],_::_,h=>h.elim
 | _::_,[],h=>h.elim
 | _::_,_::_,⟨_,b⟩=>by rw[List.length_cons,List.length_cons,Dy.len b]
theorem Dy.at{H:Hp}:∀{ts:AF}{b:List cm}{i:Nat}{x:Int×AE},Dy H ts b->b[i]? =some x->∃t a,ts[i]? =some t/\H t=some (.tup [.int x.1,.ref a])/\H a=some (.tup (x.2.map V.int))
 | [],[],_,_,_,e=>by simp at e
 | [],_::_,_,_,h,_=>h.elim
 | _::_,[],_,_,h,_=>h.elim
 | t::_,_::_,0,_,⟨⟨a,h1,h2⟩,_⟩,e=>by cases e;exact⟨t,a,rfl,h1,h2⟩
 | _::_,_::_,i+1,_,⟨_,c⟩,e=>Dy.at (i:=i) c e
def UG(K:aD)(c b:AI):Sp:=λvs H Q E=>∃hp a wt F ps w,vs=[.ref hp,.ref a,.ref wt]/\HV c b H hp F/\cA K H a (ps.map oV)/\dU K H wt (w.map V.int)/\w≠[]/\w.length<=100000/\ps.length<=1000/\
 ∀l ts H',H l=none->bA H H'->H' l=some (.lst cn)->Dy H' ts (KB.onw F w 0 ps)->Q (.ref l) H'
def Du(K:aD)(H:Hp):AF->KB.Rw->Prop
 | [],[]=>True
 | a::b,r::R=>cA K H a (r.map oV)/\Du K H b R
 | _,_=>False
theorem Du.same{K:aD}{H H':Hp}(s:bA H H'):∀{a:AF}{R:KB.Rw},Du K H a R->Du K H' a R
 | [],[],_=>trivial
 | [],_::_,h=>h.elim
 | _::_,[],h=>h.elim
 | _::_,_::_,⟨h1,b⟩=>⟨s.seq h1,Du.same s b⟩
theorem Du.len{K:aD}{H:Hp}:∀{a:AF}{R:KB.Rw},Du K H a R->a.length=R.length
 | [],[],_=>rfl
 | [],_::_,h=>h.elim
 | _::_,[],h=>h.elim
 | _::_,_::_,⟨_,b⟩=>by rw[List.length_cons,List.length_cons,Du.len b]
theorem Du.at{K:aD}{H:Hp}:∀{b:AF}{R:KB.Rw}{i:Nat}{a:AI},Du K H b R->b[i]? =some a->∃r,R[i]? =some r/\cA K H a (r.map oV)
 | [],[],_,_,_,e=>by simp at e
 | [],_::_,_,_,h,_=>h.elim
 | _::_,[],_,_,h,_=>h.elim
 | _::_,r::_,0,_,⟨h1,_⟩,e=>by cases e;exact⟨r,rfl,h1⟩
 | _::_,_::_,i+1,_,⟨_,c⟩,e=>Du.at (i:=i) c e
structure Few(F:KB.Fd)(R:KB.Rw):Prop where
 f:F.length<=1000
 g:∀p fl,KB.M7 F p=some fl->fl.length<=1000
 r:R.length<=1000
 s:∀x∈R,x.length<=1000
 t:KB.total F R<=90000
def Zx(K:aD)(d c:AI):Sp:=λvs H Q E=>∃hp b F rs R,vs=[.ref hp,.ref b]/\HV d c H hp F/\cA K H b (rs.map V.ref)/\Du K H rs R/\Few F R/\
 ∀l ts q a H',KB.Cq F R q q.length a->H l=none->bA H H'->H' l=some (.lst cn)->Dy H' ts a->Q (.ref l) H'
theorem Zzh{f e hp:AI}{H:Hp}{Q:VK}{E:XK}{pl:AA}{F:KB.Fd}(v:HV f e H hp F)(g:pl.bind (KB.M7 F)=none->Q .non H)(j:∀fl p fa b u t l,pl.bind (KB.M7 F)=some fl->zy f H p fa b u t l (fl.map oV)->Q (.ref p) H):iV e [.ref hp,oV pl] H Q E:=by
 obtain⟨ca,room,used,born,cs,o,hl,h⟩:=v;refine⟨hp,oV pl,rfl,tV pl,ca,room,used,born,cs,o,?_⟩;cases pl with
 | none=>exact g rfl
 | some i=>
  show Q (Ztt cs i) H;rcases Zqa hl h i with ⟨a,d⟩ | ⟨fl,p,fa,b,u,t,l,a,d,_,_,c⟩
  ·rw[d];exact g a
  ·rw[d];exact j fl p fa b u t l a c
theorem Ze1(F:KB.Fd)(w:AE)(n:Nat)(ps:Au)(x:AA):KB.onw F w n (ps++[x])=KB.onw F w n ps++(KB.Zaf F w (x,n+ps.length)).toList:=by
 unfold KB.onw;rw[List.zipIdx_append,List.filterMap_append];congr 1
theorem take_snoc{a:Type}{xs:List a}{i:Nat}{x:a}(h:xs[i]? =some x):xs.take b9=xs.take i++[x]:=by
 rw[List.take_add_one,h];rfl
theorem iw{H:Hp}{a:AI}{o:HO}(h:H a=none):bA H dz:=λb u q=>by rw[aB (aF q h)];exact q
section
variable {K:aD}{cj bW bY:AI}{H:Hp}{Q:VK}{E:XK}{n:ν}{bk ct:ν}
theorem Zhb{hp a wt:AI}{F:KB.Fd}{ps:Au}{w:AE}(v:HV cj bW H hp F)(ha:cA K H a (ps.map oV))(Y:dU K H wt (w.map V.int))(L:w≠[])(S:w.length<=100000)(W:ps.length<=1000)
  (Zvb:∀{H':Hp},bA H H'->dU K H' wt (w.map V.int))
  (q:∀l ts H',H l=none->bA H H'->H' l=some (.lst cn)->Dy H' ts (KB.onw F w 0 ps)->Q (.ref l) H'):
  zB K (iV bW) ξ [↑hp,↑a,↑wt] H:=by
 unfold zB;apply⟨a,rfl,⟨_,ha⟩,Zk0 ha (by rw[aX];omega) (λi s f=>bA H f/\i<=ps.length/\∃ts,s=ts.map V.ref/\Dy f ts (KB.onw F w 0 (ps.take i))) ⟨bA.refl _,Nat.zero_le _,[],rfl,trivial⟩ ?_ ?_ ?_⟩
 ·rintro i s f ⟨sm,R,ts,rfl,g⟩;refine⟨sm,?_⟩;rw[aX,g.len];refine Nat.le_trans KB.Pz ?_;rw[List.length_take];omega
 ·rintro i x s f t C O hx ⟨sm,R,ts,rfl,g⟩ U;walk_at"c";rw[bV]at hx;obtain⟨y,hy,rfl⟩:=Option.map_eq_some_iff.mp hx;have r:i<ps.length:=(cL hy).1;have m:0+(ps.take i).length=i:=by rw[List.length_take];omega
  have J:bA f (upd f t (.tup [.int i,oV y])):=iw U;have j:=sm.trans J;apply Zzh (v.same j) (λe=>?_) (λfl p fa b u Z l e c=>?_)
  ·refine Zhu ?_;apply Hq (O _ _ ⟨j,r,ts,rfl,?_⟩);rw[take_snoc hy,Ze1,m];have A:KB.Zaf F w (y,i)=none:=by
    unfold KB.Zaf;cases y with
    | none=>rfl
    | some d=>simp only;rw[show KB.M7 F d=none from e];rfl
   rw[A];simp only[Option.toList_none,List.append_nil];exact g.same J
  ·refine Zhu ?_;apply Zbg ?_;obtain⟨d,rfl⟩:∃d,y=some d:=by
    cases y with
    | none=>cases e
    | some d=>exact⟨d,rfl⟩
   have T:KB.M7 F d=some fl:=e;apply⟨(by show 1<=sizeLine;decide),λt2 I=>?_⟩;have N:=J.trans (iw (o:=.tup [.int i]) I);refine⟨wt,t2,w.map V.int,[.int i],rfl,rfl,Zvb (sm.trans N),dU.of ao,by simpa using L,by rw[aX];exact bD (by simp only[List.length_cons,List.length_nil];omega),av,(λ_ h D=>?_)⟩;have P:=N.trans (iw (o:=.tup (w.map V.int++[.int i])) D);apply⟨(by show 2<=sizeLine;decide),λB k=>?_⟩;have M:=P.trans (iw (o:=.tup [oV (some d),.ref h]) k);have E:h≠B:=aF ao k;have X:upd (upd (upd (upd f t (.tup [.int i,oV (some d)])) t2 (.tup [.int i])) h (.tup (w.map V.int++[.int i]))) B (.tup [oV (some d),.ref h]) h=some (.tup (w.map V.int++[.int i])):=by
    rw[aB E,ao]
   apply O _ _ ⟨sm.trans M,r,ts++[B],ζ,?_⟩;rw[take_snoc hy,Ze1,m];have A:KB.Zaf F w (some d,i)=some (d,w++[(i:Int)]):=by
    unfold KB.Zaf;simp only[T,Option.isSome_some,↓reduceIte]
   rw[A];refine(g.same M).app ⟨⟨h,ao,?_⟩,trivial⟩;rw[X,List.map_append];rfl
 ·rintro s f ⟨sm,_,ts,rfl,g⟩ l hl;ext;rw[aX,List.take_length]at g;exact q l ts _ (sm.free hl) (sm.trans (iw hl)) ao (g.same (iw hl))
end
theorem Zvb{K:aD}{H H':Hp}{a:AI}{xs:List V}(e:bA H H')(h:dU K H a xs):dU K H' a xs:=by
 rcases h with (h | ⟨o,h⟩) | h
 ·exact .inl (.inl (e _ _ h))
 ·exact .inl (.inr ⟨o,e _ _ h⟩)
 ·exact .inr h
def TK(H H':Hp):Prop:=∀b xs,H b=some (.tup xs)->H' b=some (.tup xs)
theorem TK.same{H H':Hp}(s:bA H H'):TK H H':=λb _ h=>s b _ h
theorem TK.upd{H:Hp}{a:AI}{o:HO}(h:∀xs,H a≠some (.tup xs)):TK H (L2.upd H a o):=λb xs q=>by
 have n:b≠a:=λz=>h xs (by rw[<- z];exact q);rw[aB n];exact q
theorem TK.trans{H d e:Hp}(a:TK H d)(b:TK d e):TK H e:=λc xs h=>b c xs (a c xs h)
theorem Dy.tk{H H':Hp}(s:TK H H'):∀{ts:AF}{b:List cm},Dy H ts b->Dy H' ts b
 | [],[],_=>trivial
 | [],_::_,h=>h.elim
 | _::_,[],h=>h.elim
 | _::_,_::_,⟨⟨a,h1,h2⟩,c⟩=>⟨⟨a,s _ _ h1,s _ _ h2⟩,Dy.tk s c⟩
def ZC(H:Hp):List eJ->List cm->Prop
 | [],[]=>True
 | kv::b,x::c=>(kv.1=Sum.inl x.1/\∃a,kv.2=.ref a/\H a=some (.tup (x.2.map V.int)))/\ZC H b c
 | _,_=>False
theorem ZC.tk{H H':Hp}(s:TK H H'):∀{b:List eJ}{c:List cm},ZC H b c->ZC H' b c
 | [],[],_=>trivial
 | [],_::_,h=>h.elim
 | _::_,[],h=>h.elim
 | _::_,_::_,⟨⟨h0,a,h1,h2⟩,d⟩=>⟨⟨h0,a,h1,s _ _ h2⟩,ZC.tk s d⟩
theorem ZC.app{H:Hp}:∀{c a:List eJ}{b rs:List cm},ZC H c b->ZC H a rs->ZC H (c++a) (b++rs)
 | [],_,[],_,_,h=>h
 | [],_,_::_,_,h,_=>h.elim
 | _::_,_,[],_,h,_=>h.elim
 | _::_,_,_::_,_,⟨h1,d⟩,h=>⟨h1,ZC.app d h⟩
theorem ZC.len{H:Hp}:∀{ts:List eJ}{a:List cm},ZC H ts a->ts.length=a.length
 | [],[],_=>rfl
 | [],_::_,h=>h.elim
 | _::_,[],h=>h.elim
 | _::_,_::_,⟨_,b⟩=>by rw[List.length_cons,List.length_cons,ZC.len b]
theorem ZC.val{H:Hp}(p:Int):∀{a:List eJ}{b:List cm},ZC H a b->(nD a (Sum.inl p)).isSome=decide (p∈b.map (·.1))
 | [],[],_=>by simp[nD]
 | [],_::_,h=>h.elim
 | _::_,[],h=>h.elim
 | kv::a,x::b,⟨⟨h0,_⟩,d⟩=>by
  by_cases e:x.1=p
  ·rw[Dz (by rw[h0,e])];simp[e]
  ·rw[DG (by rw[h0];exact λz=>e (Sum.inl.inj z)),ZC.val p d];simp only[List.map_cons,List.mem_cons];have c:¬ p=x.1:=λz=>e z.symm;simp only[c,false_or]
theorem ZC.prs{H:Hp}:∀{ts:AF}{b:List eJ}{c:List cm},ZC H b c->Zg7 H ts b->Dy H ts c
 | [],[],[],_,_=>trivial
 | _,[],_::_,h,_=>h.elim
 | _,_::_,[],h,_=>h.elim
 | [],_::_,_::_,_,h=>h.elim
 | _::_,[],[],_,h=>h.elim
 | t::ts,kv::b,x::c,⟨⟨h0,a,h1,h2⟩,f⟩,⟨e,d⟩=>⟨⟨a,by rw[e,h0,h1];rfl,h2⟩,ZC.prs f d⟩
theorem Zrw(F:KB.Fd)(R:KB.Rw)(i:Nat)(r:Au)(h:R[i]? =some r):KB.q0 F 0 (R.take b9)=KB.q0 F 0 (R.take i)++KB.onw F [(i:Int)] 0 r:=by
 unfold KB.q0;rw[take_snoc h,List.zipIdx_append,List.flatMap_append];have hl:(R.take i).length=i:=by
  have:=(cL h).1;rw[List.length_take];omega
 rw[hl];simp only[List.zipIdx_cons,List.zipIdx_nil,List.flatMap_cons,List.flatMap_nil,List.append_nil,Nat.zero_add]
structure RS(K:aD)(CC CH:AI)(H0 H:Hp)(ql d:AI)(F:KB.Fd)(R:KB.Rw)(q qs:List cm)(k:Nat):Prop where
 sm:bA H0 H
 nq:H0 ql=none
 b:KB.Cq F R q k qs
 hk:k<=q.length
 oq:∃ts,H ql=some (.lst cn)/\Dy H ts q
 od:∃kvs,H d=some (.dK kvs)/\ZC H kvs qs
 nd:H0 d=none
theorem Zpa{H:Hp}{a:AI}{xs:List V}{o:HO}(h:H a=some (.lst xs)):TK H dz:=TK.upd λb z=>by rw[h]at z;cases z
theorem Zzb{H:Hp}{a:AI}{xs:List eJ}{o:HO}(h:H a=some (.dK xs)):TK H dz:=TK.upd λb z=>by rw[h]at z;cases z
theorem QB{c H:Hp}{a:AI}{o:HO}(s:bA c H)(h:c a=none):bA c dz:=λb u q=>by rw[aB (aF q h)];exact s b u q
theorem Zu3{F:KB.Fd}{R:KB.Rw}{q l:List cm}{k:Nat}(b:KB.Cq F R q k l):l.length<=k:=by
 induction b with
 | start=>exact Nat.le_refl _
 | old _ _ _ ih=>omega
 | new _ _ _ _ ih=>rw[List.length_append];simp only[List.length_cons,List.length_nil];omega
theorem Zgb{F:KB.Fd}{R:KB.Rw}{q l:List cm}{k:Nat}(b:KB.Cq F R q k l):∀x∈q,x.2.length<=k+2:=by
 induction b with
 | start=>
  intro x hx;obtain⟨⟨a,n⟩,hm,h⟩:=List.mem_flatMap.mp hx;obtain⟨j,_,e,_⟩:=KB.zK (q:=x.1) (v:=x.2) h;rw[e];simp
 | old _ _ _ ih=>intro x hx;have:=ih x hx;omega
 | new b hq _ _ ih=>
  intro x hx;rcases List.mem_append.mp hx with z | z
  ·have:=ih x z;omega
  ·obtain⟨j,_,e,_⟩:=KB.zK (q:=x.1) (v:=x.2) z;have:=ih _ (List.mem_of_getElem? hq);rw[e,List.length_append];simp only[List.length_cons,List.length_nil];simp only at this;omega
theorem Zve(F:KB.Fd):∀(R S:KB.Rw) (n:Nat),(KB.q0 F n R).length<=(KB.q0 F n (R++S)).length:=λR S n=>by
 unfold KB.q0;rw[List.zipIdx_append,List.flatMap_append,List.length_append];omega
theorem Zrv(F:KB.Fd)(R:KB.Rw)(i:Nat):(KB.q0 F 0 (R.take i)).length<=KB.total F R:=by
 have:=Zve F (R.take i) (R.drop i) 0;rw[List.take_append_drop]at this;unfold KB.total;omega
section
variable {K:aD}{cj bW bY:AI}{H:Hp}{Q:VK}{E:XK}{n:ν}{bk ct:ν}
theorem Zdm{hp Y:AI}{F:KB.Fd}{rs:AF}{R:KB.Rw}{v2 v3 v4 v5 v6 J I:Option V}(T:TxC K cj bW)(v:HV cj bW H hp F)(hr:cA K H Y (rs.map V.ref))(rw':Du K H rs R)(U:Few F R)
  (q:∀l ts q O H',KB.Cq F R q q.length O->H l=none->bA H H'->H' l=some (.lst cn)->Dy H' ts O->Q (.ref l) H'):
  Cw K (UG K cj bW) ξ [↑hp,↑Y,v2,v3,v4,v5,v6,J,I] H:=by
 have hrl:=rw'.len;have f1:=U.r;unfold Cw;apply⟨(by show 0<=sizeLine;decide),λA M=>?_⟩;apply⟨Y,rfl,⟨_,(iw M).seq hr⟩,Zq7 (rs.map V.ref) (λi P N=>i<=rs.length/\bA H N/\(∃ts,N A=some (.lst cn)/\Dy N ts (KB.q0 F 0 (R.take i)))/\∃x y,P=[↑hp,↑Y,↑A,x,y,v5,v6,J,I])
  ⟨Nat.zero_le _,iw M,⟨[],ao,trivial⟩,_,_,rfl⟩ (by rintro i P N _ ⟨_,sm,_⟩;exact sm.seq hr) ?_ ?_⟩
 ·rintro i x t P N hx ⟨hi,sm,⟨ts,f,D⟩,y,z,rfl⟩ ht;rw[bV]at hx;obtain⟨r,er,rfl⟩:=Option.map_eq_some_iff.mp hx;obtain⟨row,eR,hrow⟩:=rw'.at er;have hil:i<rs.length:=(cL er).1;have C:=iw (o:=.tup [.int i,.ref r]) ht;refine⟨t,_,rfl,dU.of ao,rfl,.int i,_,rfl,?_⟩;exists .ref r,_,rfl;exists rfl;exists .inl ⟨rfl,_,cA.of (C _ _ f)⟩;apply⟨(by show 1<=sizeLine;decide),λt2 ht2=>?_⟩;have B:=C.trans (iw (o:=.tup [.int i]) ht2);apply⟨hp,r,t2,F,row,[(i:Int)],rfl,v.same (sm.trans B),(sm.trans B).seq hrow,dU.of ao,av,(by show 1<=100000;decide),U.s _ (List.mem_of_getElem? eR),λl us H' hl s3 hl' qa'=>?_⟩;have s4:=B.trans s3;have hq':H' A=some (.lst cn):=s4 _ _ f;ext;have hlen:ts.length<=100000:=by
   rw[D.len];exact Nat.le_trans (Nat.le_trans (Zrv F R i) U.t) ε
  have hlen2:us.length<=1000:=by
   rw[qa'.len];exact Nat.le_trans KB.Pz (U.s _ (List.mem_of_getElem? eR))
  refine⟨A,l,_,_,rfl,rfl,hq',hl',by rw[aX,aX];exact bD δ,?_⟩;apply⟨hil,QB (sm.trans s4) M,⟨ts++us,by rw[ao,List.map_append],?_⟩,_,_,rfl⟩;rw[Zrw F R i row eR];exact((D.same s4).app qa').tk (Zpa hq')
 ·rintro P N ⟨hi,sm,⟨ts,f,D⟩,y,z,rfl⟩;rw[aX,hrl,List.take_length]at D;ext;intro d hd;ext;have ndq:d≠A:=λe=>by rw[e,f]at hd;cases hd
  refine⟨λm P N=>∃q O k x y J I,m=KB.total F R - k/\P=[↑hp,↑Y,↑A,x,y,↑d,some (.int (k:Nat)),J,I]/\RS K cj bW H N A d F R q O k,⟨_,KB.q0 F 0 R,[],0,_,_,_,_,rfl,rfl,?_⟩,?_⟩
  ·exact⟨sm.trans (iw hd),M,.start,Nat.zero_le _,⟨ts,by rw[aB ndq.symm];exact f,D.same (iw hd)⟩,⟨[],ao,trivial⟩,sm.free hd⟩
  ·rintro m P Hy ⟨q',O,k,x,y,J,I,rfl,rfl,rs'⟩;obtain⟨E,nq,b,hk,⟨ts,f,D⟩,⟨h,j,la⟩,nd⟩:=rs';have hlq:=D.len;apply eV (cA.of f) ?_;ext;have hb:=b.bound;refine lR ci ci
   ·rw[aX]at z;have W:k<q'.length:=δ
    have hq:q'[k]? =some q'[k]:=bG W;obtain⟨t,a,et,ht,S⟩:=D.at hq;generalize hx:q'[k]=pw at hq ht S;obtain⟨p,w⟩:=pw;refine⟨λσ' H'=>∃q2 X x y J I,σ'=[↑hp,↑Y,↑A,x,y,↑d,some (.int ((k:Int)+1)),J,I]/\RS K cj bW H H' A d F R q2 X dX,?_,?_⟩
    ·rintro σ' H' ⟨q2,X,x,y,J,I,rfl,r2⟩;exact⟨KB.total F R - dX,δ,q2,X,k+1,x,y,J,I,rfl,by rw[show((k+1:Nat):Int)=(k:Int)+1 from δ],r2⟩
    have hix:atI cn ((k:Nat):Int)=↑t:=fW (by rw[bV,et];rfl);apply gQ (cA.of f) hix ?_;exists t,_,0,.int p,rfl,rfl,dU.of ht,je ε rfl;apply gQ (cA.of f) hix ?_;exists t,_,1,.ref a,rfl,rfl,dU.of ht,je ε rfl;exists d,h,_,rfl,.inl j,rfl;ext;have gd:=b.good.1 _ (List.mem_of_getElem? hq);refine Zw8 (λy=>?_) (λy=>?_)
    ·have hno:nD h (Sum.inl p)=none:=by
      cases e:nD h (Sum.inl p)with
      | none=>rfl
      | some _=>rw[e]at y;simp at y
     have hnp:p∉O.map (·.1):=by
      have:=la.val p;rw[hno]at this;simpa using this
     obtain⟨fl,L⟩:∃fl,KB.M7 F p=some fl:=Option.isSome_iff_exists.mp gd.there;exists d,_,rfl,Zga.k (k:=Sum.inl p) j ?_
     ·have h2:=la.len;have h3:=Zu3 b;have h4:=U.t;exact Nat.lt_of_le_of_lt (show h.length<=1000000 by omega) (show 1000000<sizeLine by decide)
     rw[Zo3 _ hno];have nd':A≠d:=kE f j aS;have C:bA H (upd Hy d (.dK (h++[(Sum.inl p,.ref a)]))):=QB E nd;have k1:TK Hy (upd Hy d (.dK (h++[(Sum.inl p,.ref a)]))):=Zzb j;have q1:upd Hy d (.dK (h++[(Sum.inl p,.ref a)])) A=some (.lst cn):=(aB nd').trans f;exists .inl ⟨rfl,_,cA.of q1⟩;ext;obtain⟨ca,room,used,born,cs,ho,hl,he⟩:=(v.same C).ex;have ho':=ho;obtain⟨⟨dx,o1⟩,o2⟩:=ho';refine aH o1 T.cX T.bZ bU ?_;ext;rcases Zqa hl he p with ⟨e1,_⟩ | ⟨fl',p',fa,b',u,t',l,e1,_,e3,e4,c⟩
     ·rw[L]at e1;cases e1
     rw[L]at e1;cases e1;refine gQ (cA.of o2) (je e4 e3) ?_;obtain⟨⟨dc,c1⟩,c2⟩:=c;refine aH c1 T.dJ T.gj iT ?_;ext;have hw:=Zgb b _ (List.mem_of_getElem? hq);have hgt:=U.t;refine⟨hp,fa,a,F,fl,w,rfl,v.same C,cA.of c2,dU.of (k1 _ _ S),?_,?_,U.g p fl L,λl2 us Z hl2 B hl2' qa2=>?_⟩
     ·obtain⟨r0,s0,fs0,_,e0,_⟩:=gd.ex;intro z;rw[show w=(p,w).2 from rfl,e0]at z;cases z
     ·simp only at hw;omega
     have hq2:Z A=some (.lst cn):=B _ _ q1;have hd2:Z d=some (.dK (h++[(Sum.inl p,.ref a)])):=B _ _ ao;have k2:=k1.trans (TK.same B);have k3:TK Z (upd Z A (.lst (ts.map V.ref++us.map V.ref))):=Zpa hq2;have b2:=KB.Cq.new b hq hnp L;have hb2:=b2.bound;rw[List.length_append,<- qa2.len,<- hlq]at hb2;apply⟨A,l2,_,_,rfl,rfl,hq2,hl2',by rw[aX,aX];exact bD δ,?_⟩;apply⟨_,_,_,_,_,_,rfl,⟨QB (C.trans B) nq,nq,b2,by rw[List.length_append];omega,⟨ts++us,by rw[ao,List.map_append],(((D.tk k2).app qa2).tk k3)⟩,⟨_,by rw[aB nd'.symm];exact hd2,((la.tk k2).app ?_).tk k3⟩,nd⟩⟩;exact⟨⟨rfl,a,rfl,k2 _ _ S⟩,trivial⟩
    ·have hin:p∈O.map (·.1):=by
      have:=la.val p;cases e:nD h (Sum.inl p)with
      | none=>rw[e]at y;simp at y
      | some _=>rw[e]at this;simpa using this.symm
     apply⟨_,_,_,_,_,_,rfl,⟨E,nq,.old b hq hin,δ,⟨ts,f,D⟩,⟨h,j,la⟩,nd⟩⟩
   ·rw[aX]at z;have W:k=q'.length:=δ
    subst W;apply⟨d,h,rfl,.inl j,λvw hvw=>?_⟩;ext;have C:=iw (o:=JW vw d) hvw;refine Zsz ao (.inl (C _ _ j)) λl us Z hl B hl2 pa=>?_;apply q l us q' O Z b ((E.trans C).free hl) ((E.trans C).trans B) hl2 ((la.tk (TK.same (C.trans B))).prs pa)
end
def fdOf(M:Wm):KB.Fd:=M.cells.map λo=>o.map (·.fl)
theorem WJ0.hv{X:Cs}{H:Hp}{T:Tg}{s:Nat}{A:Wa}{M:Wm}(j:WJ0 X H T s A M):HV X.C X.H H A.hp (fdOf M):=by
 have hl:=j.jc.lc;refine⟨A.ca,M.room,M.used,M.born,A.cs.map pV,j.hpO,by unfold fdOf;rw[aX,aX];exact hl,λi x hx=>?_⟩;unfold fdOf at hx;rw[bV]at hx;obtain⟨o,a,rfl⟩:=Option.map_eq_some_iff.mp hx;cases o with
 | none=>
  show(A.cs.map pV)[i]? =some .non;rw[bV,j.jc.at0 a];rfl
 | some c=>
  obtain⟨p,hp,ce⟩:=j.jc.at a;obtain⟨_,_,o1,o2⟩:=ce;exact⟨p.1,p.2,c.birth,c.bulk,c.tone,c.load,by rw[bV,hp];rfl,⟨o1,o2⟩⟩
theorem Zc4{M:Wm}(x:Int):KB.M7 (fdOf M) x=(cellAt M x).map (·.fl):=by
 unfold KB.M7 fdOf cellAt
 by_cases h:0<=x
 ·rw[if_pos h,if_pos h,bV];cases M.cells[x.toNat]? with
  | none=>rfl
  | some o=>cases o<;>rfl
 ·rw[if_neg h,if_neg h];rfl
section
variable {K:aD}{X:Cs}{H:Hp}{Q:VK}{E:XK}{n:ν}{bk ct:ν}
theorem Zlq{hp a wt:AI}{F:KB.Fd}{ps:Au}{w:AE}(q:HV X.C X.H H hp F/\cA K H a (ps.map oV)/\dU K H wt (w.map V.int)/\w≠[]/\w.length<=100000/\ps.length<=1000/\∀l ts H',H l=none->bA H H'->H' l=some (.lst cn)->Dy H' ts (KB.onw F w 0 ps)->Q (.ref l) H'):
  zB K (iV X.H) ξ [↑hp,↑a,↑wt] H:=by
 obtain⟨v,h1,h2,c,b,d,q⟩:=q;exact Zhb v h1 h2 c b d (λe=>Zvb e h2) q
theorem Zh4{hp b:AI}{F:KB.Fd}{rs:AF}{R:KB.Rw}(T:j6 K X)(q:HV X.C X.H H hp F/\cA K H b (rs.map V.ref)/\Du K H rs R/\Few F R/\∀l ts q a H',KB.Cq F R q q.length a->H l=none->bA H H'->H' l=some (.lst cn)->Dy H' ts a->Q (.ref l) H'):
  Cw K (UG K X.C X.H) ξ [↑hp,↑b,none,none,none,none,none,none,none] H:=by
 obtain⟨v,h1,h2,d,q⟩:=q;exact Zdm T.c v h1 h2 d q
end
def fu(a:Int):List (Str×Au)->Nat->Wm->AE×Wm
 | [],_,M=>([],M)
 | m::l,k,M=>if a / 2 ^ k % 2=1 then((aP M m.2).1++(fu a l dX (aP M m.2).2).1,(fu a l dX (aP M m.2).2).2)else fu a l dX M
def lsE(x:Int):Nat->Nat->Int
 | _,0=>0
 | i,n+1=>if x / 2 ^ i % 2=0 then 2 ^ i else lsE x b9 n
def yl(k:Nat)(lo:Int)(n:Nat):Int:=if k=0 then 0 else if k=1 then lsE lo 0 n else 2 ^ n - 1
theorem R1(b:Int)(m:Str×Au):∀(l:List (Str×Au)) (k:Nat) (M:Wm),fu b (l++[m]) k M=if b / 2 ^ (k+l.length) % 2=1 then((fu b l k M).1++(aP (fu b l k M).2 m.2).1,(aP (fu b l k M).2 m.2).2)else fu b l k M
 | [],k,M=>by
  show(if b / 2 ^ k % 2=1 then((aP M m.2).1++[],(aP M m.2).2)else([],M))=_;rw[List.append_nil];rfl
 | a::l,k,M=>by
  have e:k+(a::l).length=k+1+l.length:=by rw[List.length_cons];omega
  rw[e,List.cons_append];show(if b / 2 ^ k % 2=1 then((aP M a.2).1++(fu b (l++[m]) dX (aP M a.2).2).1,(fu b (l++[m]) dX (aP M a.2).2).2)else fu b (l++[m]) dX M)=_;show _=if b / 2 ^ (k+1+l.length) % 2=1 then(((if b / 2 ^ k % 2=1 then((aP M a.2).1++(fu b l dX (aP M a.2).2).1,(fu b l dX (aP M a.2).2).2)else fu b l dX M)).1++(aP (if b / 2 ^ k % 2=1 then((aP M a.2).1++(fu b l dX (aP M a.2).2).1,(fu b l dX (aP M a.2).2).2)else fu b l dX M).2 m.2).1,(aP (if b / 2 ^ k % 2=1 then((aP M a.2).1++(fu b l dX (aP M a.2).2).1,(fu b l dX (aP M a.2).2).2)else fu b l dX M).2 m.2).2)else(if b / 2 ^ k % 2=1 then((aP M a.2).1++(fu b l dX (aP M a.2).2).1,(fu b l dX (aP M a.2).2).2)else fu b l dX M)
  by_cases h:b / 2 ^ k % 2=1
  ·simp only[if_pos h];rw[R1 b m l dX]
   by_cases h2:b / 2 ^ (k+1+l.length) % 2=1
   ·simp only[if_pos h2,List.append_assoc]
   ·simp only[if_neg h2]
  ·simp only[if_neg h];rw[R1 b m l dX]
theorem Gy:∀{l:Au}{M:Wm},(aP M l).2.hands=M.hands
 | [],_=>rfl
 | x::l,M=>by
  show(aP (bK M x).2 l).2.hands=_;rw[Gy,Mh]
theorem pF(a:Int)(B:Nat):∀(l:List (Str×Au)) (k:Nat) (M:Wm),(∀m∈l,m.2.length<=B)->(fu a l k M).2.sw.phase=M.sw.phase/\(fu a l k M).2.sw.grey.length<=M.sw.grey.length+l.length * B/\(fu a l k M).1.length<=l.length * B/\(fu a l k M).2.hands=M.hands
 | [],_,_,_=>by simp[fu]
 | m::l,k,M,h=>by
  have hm:=h m ζ;have e:(m::l).length * B=l.length * B+B:=by rw[List.length_cons,Nat.succ_mul]
  unfold fu
  by_cases z:a / 2 ^ k % 2=1
  ·rw[if_pos z];obtain⟨c,g,d,b⟩:=pF a B l dX (aP M m.2).2 λx hx=>h x (by simp[hx]);obtain⟨f,i⟩:=qL (l:=m.2) (M:=M);have j:=lK (l:=m.2) (M:=M);exact⟨c.trans f,by show(fu a l dX (aP M m.2).2).2.sw.grey.length<=_;omega,by show((aP M m.2).1++_).length<=_;rw[List.length_append];omega,b.trans Gy⟩
  ·rw[if_neg z];obtain⟨c,g,d,b⟩:=pF a B l dX M λx hx=>h x (by simp[hx]);exact⟨c,δ,δ,b⟩
structure NtR(M M':Wm):Prop where
 rm:M'.room=M.room
 us:M'.used=M.used
 bn:M'.born=M.born
 hd:M'.hands=M.hands
 nm:M'.names=M.names
 ww:M'.w=M.w
 tl:M'.tells=M.tells
 sw:∃g,M'.sw={ M.sw with grey:=g }
 ce:M'.cells.map (λo=>o.map λc=>{ c with tone:=0 })=M.cells.map (λo=>o.map λc=>{ c with tone:=0 })
theorem NtR.refl(M:Wm):NtR M M:=⟨rfl,rfl,rfl,rfl,rfl,rfl,rfl,⟨_,rfl⟩,rfl⟩
theorem NtR.trans{M M1 M2:Wm}(a:NtR M M1)(b:NtR M1 M2):NtR M M2:=by
 obtain⟨q,u,p,m,h,d,k,⟨g,i⟩,j⟩:=a;obtain⟨r,c,f,n,e,o,s,⟨t,v⟩,l⟩:=b;exact⟨r.trans q,c.trans u,f.trans p,n.trans m,e.trans h,o.trans d,s.trans k,⟨t,by rw[v,i]⟩,l.trans j⟩
theorem Ze7(M:Wm)(x:AA):NtR M (bK M x).2:=by
 cases x with
 | none=>exact NtR.refl M
 | some i=>
  unfold bK;dsimp only;cases hc:cellAt M i with
  | none=>exact NtR.refl M
  | some c=>
   dsimp only;split
   ·obtain⟨h0,h1⟩:=cB.mp hc;refine⟨rfl,rfl,rfl,rfl,rfl,rfl,rfl,⟨_,rfl⟩,?_⟩;show(M.cells.set i.toNat _).map _=_;rw[List.map_set];refine List.ext_getElem? λk=>?_
    by_cases z:i.toNat=k
    ·subst z;rw[List.getElem?_set_self (by rw[aX];exact(cL h1).1),bV,h1];rfl
    ·rw[List.getElem?_set_ne z]
   ·exact NtR.refl M
theorem lJ:∀(l:Au) (M:Wm),NtR M (aP M l).2
 | [],M=>NtR.refl M
 | x::l,M=>(Ze7 M x).trans (lJ l _)
theorem JK(a:Int):∀(l:List (Str×Au)) (k:Nat) (M:Wm),NtR M (fu a l k M).2
 | [],_,M=>NtR.refl M
 | m::l,k,M=>by
  unfold fu;split
  ·exact(lJ m.2 M).trans (JK a l dX _)
  ·exact JK a l dX M
theorem Zp1(a:Int)(l:List (Str×Au))(k:Nat)(M:Wm):(fu a l k M).2.sw.turn=M.sw.turn/\(fu a l k M).2.sw.looked=M.sw.looked/\(fu a l k M).2.sw.looks=M.sw.looks:=by
 obtain⟨g,e⟩:=(JK a l k M).sw;rw[e];exact⟨rfl,rfl,rfl⟩
theorem Zlr{M:Wm}{x:AA}(h:(bK M x).1=none):(bK M x).2=M:=by
 cases x with
 | none=>rfl
 | some i=>
  unfold bK at h ⊢;dsimp only at h ⊢;cases hc:cellAt M i with
  | none=>rfl
  | some c=>
   rw[hc]at h;dsimp only at h ⊢;split
   ·rename_i z
    rw[if_pos z]at h;cases h
   ·rfl
theorem RV:∀{l:Au}{M:Wm},(aP M l).1=[]->(aP M l).2=M
 | [],_,_=>rfl
 | x::l,M,h=>by
  have h:VR (bK M x).1++(aP (bK M x).2 l).1=[]:=h;obtain⟨h1,h2⟩:=List.append_eq_nil_iff.mp h;have a:(bK M x).1=none:=by
   cases e:(bK M x).1 with
   | none=>rfl
   | some b=>rw[e]at h1;cases h1
  show(aP (bK M x).2 l).2=M;rw[RV h2,Zlr a]
theorem Zar(a:Int):∀{l:List (Str×Au)}{k:Nat}{M:Wm},(fu a l k M).1=[]->(fu a l k M).2=M
 | [],_,_,_=>rfl
 | m::l,k,M,h=>by
  unfold fu at h ⊢;split
  ·rename_i z
   rw[if_pos z]at h;obtain⟨h1,h2⟩:=List.append_eq_nil_iff.mp h;show(fu a l dX (aP M m.2).2).2=M;rw[Zar a h2,RV h1]
  ·rename_i z
   rw[if_neg z]at h;exact Zar a h
theorem Zef:∀(l:List (Str×Au)) (k:Nat) (M:Wm),fu 0 l k M=([],M)
 | [],_,_=>rfl
 | m::l,k,M=>by
  unfold fu;rw[if_neg ζ,Zef l dX M]
inductive u6(X:Cs)(wo:AI)(bits:Int)(H:Hp)(Q:VK):Prop
 | mk (T s A M) (_:WT H T) (_:s≠0) (_:WJ X H T s A M) (_:A.wo=wo) (_:(∀m∈M.hands,m.2.length<=100)) (_:(M.sw.phase="walk"->M.sw.grey.length<=5000)) (_:∀H' T' l,cY s H H' T T'->WJ X H' T' s A (fu bits M.hands 0 M).2->H' l=some (.lst ((fu bits M.hands 0 M).1.map V.int))->(H l=none/\TgO s (T' l))->Q (.ref l) H'):u6 X wo bits H Q
def oR(X:Cs):Sp:=λvs H Q E=>∃wo a,vs=[.ref wo,.int a]/\u6 X wo a H Q
def j7(k:Nat):Sp:=λvs H Q E=>∃a lo h,vs=[.ref a,.int lo,.int h]/\0<=h/\h<=30/\Q (.int (yl k lo h.toNat)) H
section
variable {K:aD}{X:Cs}{H:Hp}{Q:VK}{E:XK}{n:ν}{bk ct:ν}
theorem Km{a:AI}(q:Q (.bl true) H):sU ξ [↑a] H:=by
 unfold sU;apply q
theorem W4{a:AI}(q:Q (.bl false) H):Ar ξ [↑a] H:=by
 unfold Ar;apply q
theorem zp{a:AI}{lo h:Int}(q:0<=h/\h<=30/\Q (.int (yl 0 lo h.toNat)) H):mH ξ [↑a,some (.int lo),some (.int h)] H:=by
 unfold mH;apply q.2.2
theorem Jk{a:AI}{lo h:Int}(q:0<=h/\h<=30/\Q (.int (yl 2 lo h.toNat)) H):qi U0 ξ [↑a,some (.int lo),some (.int h)] H:=by
 obtain⟨h0,h1,q⟩:=q;unfold qi;apply⟨h,rfl,h0,h1,q⟩
theorem Jm{a:AI}{lo h:Int}(q:0<=h/\h<=30/\Q (.int (yl 1 lo h.toNat)) H):qm ξ [↑a,some (.int lo),some (.int h),none] H:=by
 obtain⟨h0,h1,q⟩:=q;have q:Q (.int (lsE lo 0 h.toNat)) H:=q;unfold qm;exists h,rfl,δ,δ;refine forR (λi d c=>∃v,d=[↑a,some (.int lo),some (.int h),v]/\c=H/\(i<=h.toNat->lsE lo 0 h.toNat=lsE lo i (h.toNat - i))) ⟨none,rfl,rfl,λ_=>rfl⟩ ?_ ?_
 ·rintro i d c j ⟨v,rfl,rfl,b⟩;have b:=b δ;have f:h.toNat - i=(h.toNat - b9)+1:=δ
  rw[f]at b;have g:lsE lo i (h.toNat - (i+1)+1)=if lo / 2 ^ i % 2=0 then 2 ^ i else lsE lo b9 (h.toNat - b9):=rfl
  rw[g]at b;have e:((0:Int)+(i:Int)).toNat=i:=δ
  ext;rw[e,Zxb];refine lR ci ci
  ·rw[if_pos z]at b;apply i_I (Zux δ δ) ?_;rw[e,Int.one_mul,<- b];exact q
  ·rw[if_neg z]at b;apply⟨_,rfl,rfl,λ_=>b⟩
 ·rintro d c ⟨v,rfl,rfl,b⟩;have b:=b Γ;rw[Nat.sub_self]at b;have b:lsE lo 0 h.toNat=0:=b;ext;rw[b]at q;exact q
theorem V0{wo:AI}{a:Int}(E:j6 K X)(q:u6 X wo a H Q):
  Ai K (lV X) ξ [↑wo,some (.int a),none,none,none] H:=by
 obtain⟨T,s,A,M,w,s0,j,rfl,hs,hg,q⟩:=q;have lh:=j.jd.lh;have l5:=j.jd.l5;unfold Ai;apply⟨bD ζ,λl hl=>?_⟩;have e:cY s H eI T (fL T l (s+1,1)):=cY.fresh w hl;have k:WJ X eI (fL T l (s+1,1)) s A M:=j.fresh hl;have Y:upd H l (.lst []) l=some (.lst []):=ao;have tl:fL T l (s+1,1) l=(s+1,1):=eF;generalize upd H l (.lst [])=H1 at e k Y ⊢;generalize fL T l (s+1,1)=T1 at e k tl;obtain⟨dw,ow⟩:=k.jb.ow;apply aH ow E.cW E.nWd dj ?_;apply⟨A.hl,rfl,⟨_,cA.of k.jb.on⟩,Zq7 (A.hs.map λp=>V.ref p.1) (λi J f=>∃L S R,J=[↑A.wo,some (.int a),↑l,S,R]/\cY s H f T L/\L l=(s+1,1)/\WJ X f L s A (fu a (M.hands.take i) 0 M).2/\f l=some (.lst ((fu a (M.hands.take i) 0 M).1.map V.int))) ⟨T1,_,_,rfl,e,tl,k,Y⟩ (by rintro _ _ _ _ ⟨_,_,_,_,_,_,z,_⟩;exact cA.of z.jb.on) ?_ ?_⟩
 ·rintro i x t J f hx ⟨B,S,R,rfl,d,b,D,C⟩ ht;rw[bV]at hx;obtain⟨p,hp,rfl⟩:=Option.map_eq_some_iff.mp hx;have hil:i<A.hs.length:=(cL hp).1;obtain⟨m,hm⟩:∃m,M.hands[i]? =some m:=⟨_,bG δ⟩;have O:M.hands.take b9=M.hands.take i++[m]:=by rw[List.take_add_one,hm];rfl
  have u:(M.hands.take i).length=i:=by rw[List.length_take];omega
  obtain⟨n1,n2,n3,n4⟩:=pF a 100 (M.hands.take i) 0 M λx hx=>hs x (List.mem_of_mem_take hx);have h:=R1 a m (M.hands.take i) 0 M;rw[<- O,Nat.zero_add,u]at h;generalize zz:upd f t _=H3;obtain⟨P,N⟩:=nwO ht zz;have F:=D.same P;have g:=d.trans (cY.same (s:=s) d.wt P);have v:=P _ _ C;refine⟨t,_,rfl,dU.of N,rfl,.int i,_,rfl,?_⟩;exists .ref p.1,_,rfl;exists rfl;ext;rw[Zxb,Int.toNat_natCast];refine lR ci ci
  ·rw[if_pos z]at h;exists .inl ⟨rfl,_,cA.of v⟩;have o:(fu a (M.hands.take i) 0 M).2.hands[i]? =some m:=by rw[n4];exact hm
   have hd:=F.jd.hd i p m hp o;obtain⟨dx,o1⟩:=hd.o1;have U:=hs m (List.mem_of_getElem? hm);have hB:(M.hands.take i).length * 100<=3000:=by rw[u];omega
   apply aH o1 E.cD E.nDs kJ ?_;apply⟨_,_,rfl,m.2,B,s,A,_,g.wt,s0,F,rfl,.inr (.inl ⟨i,p,m,hp,o,rfl,rfl⟩),U,λy=>?_,λZ W l4 c j4 g4 nl4=>?_⟩
   ·have:=hg (n1.symm.trans y);omega
   have I:Z l=some (.lst ((fu a (M.hands.take i) 0 M).1.map V.int)):=c.kp _ _ v (by rw[b];show s+1≠s;omega);have nl:=lK (l:=m.2) (M:=(fu a (M.hands.take i) 0 M).2);apply⟨l,l4,_,_,rfl,rfl,I,g4,by rw[aX,aX];exact bD δ,?_⟩;ext;have r:W l=(s+1,1):=(c.tg _ _ v).trans b;refine⟨W,_,_,rfl,cY.new (g.trans c) hl I,r,?_,?_⟩
   ·rw[h];exact j4.other (s':=s+1) (cY.upd c.wt I (by rw[r])) δ δ
   ·rw[h,ao,List.map_append]
  ·rw[if_neg z]at h;apply⟨B,_,_,rfl,g,b,by rw[h];exact F,by rw[h];exact v⟩
 ·rintro J f ⟨B,S,R,rfl,d,b,D,C⟩;ext;rw[aX,lh,List.take_length]at D C;exact q f B l d D C ⟨hl,by rw[b];exact .inr rfl⟩
end
structure Zg3(M:Wm):Prop where
 cl:M.cells.length<=900
 hl:∀m∈M.hands,m.2.length<=100
 fl:∀c,some c∈M.cells->c.fl.length<=50
 nl:M.names.length<=900
 gl:M.sw.phase="walk"->M.sw.grey.length<=900
 gc:M.sw.phase="walk"->∀x∈M.sw.grey,∃c,cellAt M x=some c
 ph:M.sw.phase="rest"\/M.sw.phase="walk"\/M.sw.phase="give"\/M.sw.phase="lost"
 a0:0<=M.sw.at'
inductive Zky(H:Hp)(T:Tg)(M:Wm)(b:Int)(w:AE):Prop
 | mk (a wl) (_:M.sw.loss=.ref a) (_:T a=(0,0)) (_:H a=some (.tup [.str "lost",.int b,.ref wl])) (_:T wl=(0,0)) (_:H wl=some (.lst (w.map V.int))):Zky H T M b w
inductive Zkz(H0 H:Hp)(T:Tg)(fr:Prop)(M:Wm)(b:Int)(w:AE)(ev:AI):Prop
 | mk (a wl) (_:M.sw.loss=.ref a) (_:T a=(0,0)) (_:H a=some (.tup [.str "lost",.int b,.ref wl])) (_:T wl=(0,0)) (_:H wl=some (.lst (w.map V.int))) (_:(∀x y l,H ev=some (.tup [x,y,.ref l])->wl≠l)) (_:(fr->H0 wl=none)):Zkz H0 H T fr M b w ev
def qC(M:Wm)(i:Nat):Option Ce:=((M.cells[i]?).join).bind λc=>if c.tone=M.sw.sense then none else some c
def pB(M:Wm):AE:=(List.range M.cells.length).filterMap λi=>(qC M i).map λ_=>(i:Int)
def nO(M:Wm):AE:=(List.range M.cells.length).filterMap λi=>(qC M i).map (·.birth)
def fO(M:Wm):Wm:={ M with sw:={ M.sw with stop:=M.cells.length,at':=0 } }
def bH(M:Wm):Int:=yl M.w.toNat M.sw.looked M.hands.length
def uX(M:Wm):Prop:=bH M=0\/(M.w=2/\(fu bc M.hands 0 M).1=[])
inductive eO(lb:Int)(lw:AE)(M:Wm):Ev->Wm->Prop
 | begin:M.sw.phase="rest"->eO lb lw M ⟨"begin",some (M.sw.turn+1),(fu (gH M.w M.hands.length) M.hands 0 (pQ M)).1⟩ (fu (gH M.w M.hands.length) M.hands 0 (pQ M)).2
 | walk (x:Int) (g:AE) (c:Ce):M.sw.phase="walk"->M.sw.grey=x::g->cellAt M x=some c->eO lb lw M ⟨"walk",some c.birth,(aP { M with sw:={ M.sw with grey:=g,walks:=M.sw.walks+1 } } c.fl).1⟩ (aP { M with sw:={ M.sw with grey:=g,walks:=M.sw.walks+1 } } c.fl).2
 | look (N:Wm):M.sw.phase="walk"->M.sw.grey=[]->¬ uX M->N=(fu (bH M) M.hands 0 M).2->eO lb lw M ⟨"look",some (bH M),(fu (bH M) M.hands 0 M).1⟩ { N with sw:={ N.sw with looks:=N.sw.looks+1,looked:=if M.w=2 then N.sw.looked else Builtin.bitOr N.sw.looked (bH M) } }
 | cut (q qs:List (Int×AE)):M.sw.phase="walk"->M.sw.grey=[]->uX M->KB.Cq (fdOf M) (g8 M) q q.length qs->(∀x∈qs,∀c,cellAt M x.1=some c->c.tone=M.sw.sense)->eO lb lw M ⟨"cut",some (nO M).length,nO M⟩ { fO M with sw:={ (fO M).sw with phase:="give" } }
 | lost (q qs:List (Int×AE)) (i:Nat) (x:Int×AE) (c:Ce) (v:V):M.sw.phase="walk"->M.sw.grey=[]->uX M->KB.Cq (fdOf M) (g8 M) q q.length qs->qs[i]? =some x->(∀(k:Nat) y d,k<i->qs[k]? =some y->cellAt M y.1=some d->d.tone=M.sw.sense)->cellAt M x.1=some c->c.tone≠M.sw.sense->eO lb lw M ⟨"lost",some c.birth,x.2⟩ { fO M with sw:={ (fO M).sw with phase:="lost",loss:=v } }
 | pass:M.sw.phase="give"->M.sw.at'<M.sw.stop->(∀c,cellAt M M.sw.at'=some c->c.tone=M.sw.sense)->eO lb lw M ⟨"pass",some M.sw.at',[]⟩ { M with sw:={ M.sw with at':=M.sw.at'+1,passes:=M.sw.passes+1 } }
 | back (c:Ce):M.sw.phase="give"->M.sw.at'<M.sw.stop->cellAt M M.sw.at'=some c->c.tone≠M.sw.sense->eO lb lw M ⟨"back",some c.birth,[M.sw.at']⟩ { M with used:=M.used - (1+c.fl.length+c.bulk),cells:=M.cells.set M.sw.at'.toNat none,sw:={ M.sw with at':=M.sw.at'+1,passes:=M.sw.passes+1 } }
 | fin:M.sw.phase="give"->¬ M.sw.at'<M.sw.stop->eO lb lw M ⟨"end",some M.sw.turn,[M.sw.walks,M.sw.looks,M.sw.passes]⟩ { M with sw:={ M.sw with phase:="rest" } }
 | again:M.sw.phase="lost"->eO lb lw M ⟨"lost",some lb,lw⟩ M
inductive wI(X:Cs)(P:Wm->Prop)(wo:AI)(H:Hp)(Q:VK):Prop
 | mk (T s A M lb lw) (_:WT H T) (_:s≠0) (_:WJ X H T s A M) (_:A.wo=wo) (_:Zg3 M) (_:P M) (_:(M.sw.phase="lost"->Zky H T M lb lw)) (_:∀e M',eO lb lw M e M'->∀H' T' A' a,cY s H H' T T'->WJ X H' T' s A' M'->A'.wo=wo->EvN H H' T' s a e->(M'.sw.phase="lost"->∃b,e.thing=some b/\Zkz H H' T' (M.sw.phase≠"lost") M' b e.notes a)->Q (.ref a) H'):wI X P wo H Q
def cC(X:Cs)(P:Wm->Prop):Sp:=λvs H Q E=>∃wo,vs=[.ref wo]/\wI X P wo H Q
def Zoh(M:Wm):Prop:=M.sw.phase="walk"/\M.sw.grey≠[]
def Zok(M:Wm):Prop:=M.sw.phase="walk"/\M.sw.grey=[]
def Zol(M:Wm):Prop:=M.sw.phase="walk"/\M.sw.grey=[]/\uX M
def Zoj(M:Wm):Prop:=M.sw.phase="give"/\M.sw.at'<M.sw.stop
def pEnd(M:Wm):Prop:=M.sw.phase="give"/\¬ M.sw.at'<M.sw.stop
def Ys(z:Str)(M:Wm):Prop:=M.sw.phase=z
def Zdz(_:Wm):Prop:=True
inductive u5(K:aD)(ev:AI)(H:Hp)(Q:VK):Prop
 | mk (z b l) (ns:AE) (_:H ev=some (.tup [.str z,.int b,.ref l])) (_:H l=some (.lst (ns.map V.int))) (_:∀a l' H',bA H H'->H a=none->H l'=none->H' a=some (.tup [.str z,.int b,.ref l'])->H' l'=some (.lst (ns.map V.int))->Q (.ref a) H'):u5 K ev H Q
def vm(K:aD):Sp:=λvs H Q E=>∃ev,vs=[.ref ev]/\u5 K ev H Q
inductive Dk(X:Cs)(wo:AI)(H:Hp)(Q:VK):Prop
 | mk (T s A M) (_:WJ X H T s A M) (_:A.wo=wo) (_:M.cells.length<=900) (_:∀l H',bA H H'->H l=none->H' l=some (.lst ((pB M).map V.int))->Q (.ref l) H'):Dk X wo H Q
def UL(X:Cs):Sp:=λvs H Q E=>∃wo,vs=[.ref wo]/\Dk X wo H Q
section
variable {K:aD}{X:Cs}{H:Hp}{Q:VK}{E:XK}{n:ν}{bk ct:ν}
theorem Vf{ev:AI}(q:u5 K ev H Q):
  Af K ξ [↑ev] H:=by
 obtain⟨z,b,l,ns,o1,o2,q⟩:=q;unfold Af;exists ev,_,0,_,rfl,rfl,dU.of o1,rfl;exists ev,_,1,_,rfl,rfl,dU.of o1,rfl;exists ev,_,2,_,rfl,rfl,dU.of o1,rfl;apply PL (cA.of o2) λd c=>?_;generalize h:upd H d _=H1;obtain⟨g,i⟩:=nwO c h;apply⟨bD ζ,λa f=>?_⟩;have e:=aL f (.tup [.str z,.int b,.ref d]);exact q a d _ (g.trans e) (g.free f) c ao (e _ _ i)
theorem HJ{a b:Type}{f g:a->Option b}:∀{l:List a},(∀x∈l,f x=g x)->l.filterMap f=l.filterMap g
 | [],_=>rfl
 | x::l,h=>by
  rw[List.filterMap_cons,List.filterMap_cons,h x ζ,HJ λy hy=>h y (by simp[hy])]
theorem Zdp{a b:Type}(f:a->Option b):∀(xs:List a),(List.range xs.length).filterMap (λi=>(xs[i]?).bind f)=xs.filterMap f
 | []=>rfl
 | x::xs=>by
  rw[List.length_cons,List.range_succ_eq_map,List.filterMap_cons];simp only[List.getElem?_cons_zero,Option.bind_some,List.filterMap_map,List.filterMap_cons];have e:((λi=>((x::xs)[i]?).bind f) ∘ Nat.succ)=λi=>(xs[i]?).bind f:=by
   funext i
   simp
  rw[e,Zdp f xs]
theorem Zlm{A:Wa}{M:Wm}{T:Tg}{s:Nat}(j:WJ X H T s A M)(f:V->Option V)(g:∀(i:Nat) (c:Ce),M.cells[i]? =some (some c)->f (.int i)=(qC M i).map λ_=>V.int i):((plc dy).map V.int).filterMap f=(pB M).map V.int:=by
 unfold plc pB;rw[List.filterMap_map,List.filterMap_map,List.filterMap_filter,List.map_filterMap,aX,j.jc.lc];refine HJ λi d=>?_;have a:=List.mem_range.mp d;have e:(A.cs.map pV)[i]? =some V.non↔M.cells[i]? =some none:=by
  constructor
  ·intro z;cases hc:M.cells[i]with
   | none=>rw[bG a,hc]
   | some c=>
    obtain⟨p,hp,_⟩:=j.jc.at (i:=i) (c:=c) (by rw[bG a,hc]);rw[bV,hp]at z;cases z
  ·intro z;rw[bV,j.jc.at0 z];rfl
 by_cases z:M.cells[i]? =some none
 ·rw[if_neg (by simp[e.mpr z])];unfold qC;rw[z];rfl
 ·have b:¬ (A.cs.map pV)[i]? =some V.non:=λy=>z (e.mp y);rw[if_pos (by simp only[b,decide_false,Bool.not_false])];cases hc:M.cells[i]with
  | none=>exact absurd (by rw[bG a,hc]) z
  | some c=>
   show f (.int (i:Int))=_;rw[g i c (by rw[bG a,hc]),Option.map_map];rfl
theorem Zf8{wo:AI}(e:j6 K X)(q:Dk X wo H Q):
  xQ K X.H (vq X.H) (iI X) ξ [↑wo,none] H:=by
 obtain⟨T,s,A,M,j,rfl,hc,q⟩:=q;obtain⟨N,ow⟩:=j.jb.ow;obtain⟨E,oh⟩:=j.jh.oh;unfold xQ;apply aH ow e.cW e.Vb bI ?_;apply YT ?_;exists A.hp,E,_,rfl,oh,TF;apply⟨_,rfl,A.ca,M.room,M.used,M.born,_,j.hpO,by rw[aX,j.jc.lc];omega,λlt m=>?_⟩;generalize J:upd H lt _=H1;obtain⟨o,w⟩:=nwO m J;have d:=j.same o;have L:(plc dy).length<=900:=by
  unfold plc;rw[aX];refine Nat.le_trans (List.length_filter_le _ _) ?_;rw[List.length_range,aX,j.jc.lc];exact hc
 refine⟨lt,rfl,⟨_,cA.of w⟩,?_⟩
 let f:V->Option V:=λv=>match v with
  | .int p=>(qC M p.toNat).map λ_=>V.int p
  | _=>none
 refine Zjz (cA.of w) (λi=>(((plc dy).map V.int)[i]?).bind f) (by rw[aX];omega) (λi x u=>?_) ?_
 ·rw[bV]at u;obtain⟨p,hp,rfl⟩:=Option.map_eq_some_iff.mp u;have hm:=List.mem_of_getElem? hp;unfold plc at hm;obtain⟨k,hk,rfl⟩:=List.mem_map.mp hm;obtain⟨r,l⟩:=List.mem_filter.mp hk;have b:k<M.cells.length:=by
   have:=List.mem_range.mp r;rw[aX,j.jc.lc]at this;exact this
  obtain⟨c,a⟩:∃c,M.cells[k]? =some (some c):=by
   cases D:M.cells[k]with
   | none=>
    exfalso
    have:(A.cs.map pV)[k]? =some V.non:=by rw[bV,j.jc.at0 (i:=k) (by rw[bG b,D])];rfl
    simp[this]at l
   | some c=>exact⟨c,by rw[bG b,D]⟩
  obtain⟨C,g,ce⟩:=d.jc.at a;have B:(((plc dy).map V.int)[i]?).bind f=(qC M k).map λ_=>V.int (k:Int):=by
   rw[bV,hp];show(qC M (Int.toNat k)).map _=_;rw[Int.toNat_natCast]
  have F:(qC M k)=if c.tone=M.sw.sense then none else some c:=by unfold qC;rw[a];rfl
  obtain⟨I,h⟩:=d.jh.oh;refine⟨λq hq=>?_,λy q hy hq=>?_⟩
  ·rw[B,F]at hq;walk_at"c";apply aH h e.c.cX e.c.bZ bU ?_;apply gQ (cA.of d.jh.oc) (fW (v:=.ref C.1) (by rw[bV,g];rfl)) ?_;exists _,_,rfl,T,s,A,M,_,C,c,d.w0,rfl,ce,rfl;ext
   by_cases z:c.tone=M.sw.sense
   ·rw[if_pos z]at hq;rw[decide_eq_true z];exact hq
   ·rw[if_neg z]at hq;rw[decide_eq_false z];exact hq
  ·rw[B]at hy;obtain⟨_,_,rfl⟩:=Option.map_eq_some_iff.mp hy;walk_at"c";apply hq
 ·intro p t;rw[Zdp f,Zlm j f (λi c hc=>by show(qC M (Int.toNat i)).map _=_;rw[Int.toNat_natCast])];exact q p _ (o.trans (aL t _)) (o.free t) ao
theorem Og{wo:AI}(c:j6 K X)(q:wI X (Ys "rest") wo H Q):vP K (Zkx X) (oR X) ξ [↑wo,none] H:=by
 obtain⟨T,s,A,M,E,lw,w,r,j,rfl,ok,ph,lo,q⟩:=q;unfold vP;apply⟨_,rfl,T,s,A,M,w,r,j,rfl,λI C m d p b=>?_⟩;obtain⟨D,ow⟩:=p.jb.ow;obtain⟨F,os⟩:=p.js.os;rw[b]at ow;apply aH ow c.cW c.JN aV ?_;apply aH os c.cS c.n4 gk ?_;apply⟨_,_,rfl,C,s,m,_,d.wt,r,p,b,ok.hl,λ_=>Nat.zero_le _,λu x l e g i f=>?_⟩;have g:WJ X u x s m (fu (gH M.w M.hands.length) M.hands 0 (pQ M)).2:=g;have i:u l=some (.lst ((fu (gH M.w M.hands.length) M.hands 0 (pQ M)).1.map V.int)):=i;obtain⟨y,h⟩:=g.jb.ow;obtain⟨B,o⟩:=g.js.os;rw[b]at h;have t:=Zp1 (gH M.w M.hands.length) M.hands 0 (pQ M);apply aH h c.cW c.JN aV ?_;apply aH o c.cS c.n5 oX ?_;apply⟨bD ζ,λa v=>?_⟩;rw[t.1];have k:=aL v (.tup [.str "begin",.int (M.sw.turn+1),.ref l]);refine q _ _ (.begin ph) _ x m a (d.trans (e.trans (cY.same e.wt k))) (g.same k) b ⟨l,⟨cY.free d f.1,f.2,(rB e.wt r v).2⟩,ao,k _ _ i⟩ λz=>?_;have:=(pF (gH M.w M.hands.length) 100 M.hands 0 (pQ M) ok.hl).1;rw[this]at z;exact absurd z (show ¬ ("walk":Str)="lost" by decide)
end
inductive vd(X:Cs)(wo:AI)(H:Hp)(Q:VK):Prop
 | mk (T s A M) (_:WT H T) (_:s≠0) (_:WJ X H T s A M) (_:A.wo=wo) (_:Zg3 M) (_:(∀q qs H',KB.Cq (fdOf M) (g8 M) q q.length qs->(∀x∈qs,∀c,cellAt M x.1=some c->c.tone=M.sw.sense)->bA H H'->Q .non H')) (_:(∀q qs (i:Nat) x c a wl H',KB.Cq (fdOf M) (g8 M) q q.length qs->qs[i]? =some x->(∀(k:Nat) y d,k<i->qs[k]? =some y->cellAt M y.1=some d->d.tone=M.sw.sense)->cellAt M x.1=some c->c.tone≠M.sw.sense->bA H H'->H a=none->H wl=none->H' a=some (.tup [.str "lost",.int c.birth,.ref wl])->H' wl=some (.lst (x.2.map V.int))->Q (.ref a) H')):vd X wo H Q
def Ji(X:Cs):Sp:=λvs H Q E=>∃wo,vs=[.ref wo]/\vd X wo H Q
section
variable {K:aD}{X:Cs}{H:Hp}{Q:VK}{E:XK}{n:ν}{bk ct:ν}
theorem Znk{a:Type}(f:a->Nat)(B:Nat):∀(xs:List a),(∀x∈xs,f x<=B)->(xs.map f).sum<=xs.length * B
 | [],_=>ζ
 | x::xs,h=>by
  have h1:=h x ζ;have h2:=Znk f B xs λy hy=>h y (by simp[hy]);rw[List.map_cons,List.sum_cons,List.length_cons,Nat.succ_mul];omega
theorem Zuq{a b:Type}(f:a->List b)(B:Nat):∀(xs:List a),(∀x∈xs,(f x).length<=B)->(xs.flatMap f).length<=xs.length * B
 | [],_=>ζ
 | x::xs,h=>by
  have h1:=h x ζ;have h2:=Zuq f B xs λy hy=>h y (by simp[hy]);rw[List.flatMap_cons,List.length_append,List.length_cons,Nat.succ_mul];omega
theorem Zq9{M:Wm}{T:Tg}{s:Nat}{A:Wa}(j:WJ X H T s A M)(ok:Zg3 M):Few (fdOf M) (g8 M):=by
 have l5:=j.jd.l5;have lh:=j.jd.lh;have hl:(heldOf M).length=M.hands.length:=by unfold heldOf;rw[aX]
 have hr:(g8 M).length<=31:=by unfold g8;rw[List.length_append,hl,<- lh];simp;omega
 have a:∀x∈g8 M,x.length<=900:=λx hx=>by
  unfold g8 at hx;rcases List.mem_append.mp hx with hx | hx
  ·obtain⟨m,hm,rfl⟩:=List.mem_map.mp hx;exact Nat.le_trans (ok.hl m hm) ε
  ·rw[List.mem_singleton.mp hx];unfold mG;rw[aX];exact ok.nl
 have f:(fdOf M).length=M.cells.length:=by unfold fdOf;rw[aX]
 have b:=ok.cl;have d:∀(i:Nat) x,(fdOf M)[i]? =some x->KB.wgt x<=50:=λi x hx=>by
  unfold fdOf at hx;rw[bV]at hx;obtain⟨o,e,rfl⟩:=Option.map_eq_some_iff.mp hx;cases o with
  | none=>exact Nat.zero_le _
  | some c=>exact ok.fl c (List.mem_of_getElem? e)
 refine⟨δ,λp fl hp=>?_,δ,λx hx=>by have:=a x hx;omega,?_⟩
 ·rw[Zc4]at hp;obtain⟨c,hc,rfl⟩:=Option.map_eq_some_iff.mp hp;have:=ok.fl c (uY hc);omega
 ·unfold KB.total;have h1:(KB.q0 (fdOf M) 0 (g8 M)).length<=31 * 900:=by
   unfold KB.q0;refine Nat.le_trans (Zuq _ 900 _ λx hx=>?_) (by rw[List.length_zipIdx];exact Nat.mul_le_mul_right _ hr);refine Nat.le_trans KB.Pz (a x.1 ?_);obtain⟨_,h2⟩:=List.mem_zipIdx_iff_le_and_getElem?_sub.mp hx;exact List.mem_of_getElem? h2
  have h2:KB.Zgh (fdOf M) []<=900 * 50:=by
   unfold KB.Zgh;refine Nat.le_trans (Znk _ 50 _ λx hx=>?_) (by rw[List.length_zipIdx,f];exact Nat.mul_le_mul_right _ b);obtain⟨_,h2⟩:=List.mem_zipIdx_iff_le_and_getElem?_sub.mp hx;simp only[List.map_nil,List.not_mem_nil,↓reduceIte];exact d _ _ h2
  omega
theorem Zjg{M:Wm}:∀{a:List Au}{b:AF},b.length=a.length->(∀(j:Nat) r x,b[j]? =some r->a[j]? =some x->H r=some (.lst (x.map oV)))->Du K H b a
 | [],[],_,_=>trivial
 | [],_::_,h,_=>by simp at h
 | _::_,[],h,_=>by simp at h
 | x::a,r::b,h,g=>⟨cA.of (g 0 r x rfl rfl),Zjg (M:=M) (by simpa using h) λj r x c d=>g (j+1) r x (by simpa using c) (by simpa using d)⟩
theorem WK{wo:AI}(g:j6 K X)(q:vd X wo H Q):
  Ak K (iI X) (Zx K X.C X.H) (Zkv X) ξ [↑wo,none,none,none] H:=by
 obtain⟨T,s,A,M,w,s0,j,rfl,ok,q1,q2⟩:=q;obtain⟨dw,ow⟩:=j.jb.ow;have l5:=j.jd.l5;have lh:=j.jd.lh;have nl:=ok.nl;unfold Ak;apply aH ow g.cW g.Vb bI ?_;apply⟨_,rfl,T,s,A,M,s0,j,rfl,δ,δ,λra rs H1 s1 nra U J nrs nrl g1=>?_⟩;apply⟨A.hp,ra,fdOf M,rs,g8 M,rfl,(j.same s1).w0.hv,cA.of U,Zjg (M:=M) J g1,Zq9 j ok,λl ts q m H2 N nl2 s2 ol qa=>?_⟩;have b:=s1.trans s2;have D:=j.same b;have good:=N.good.2;have p:=qa.len;obtain⟨dw2,W⟩:=D.jb.ow;obtain⟨dh2,L⟩:=D.jh.oh;refine⟨l,rfl,⟨_,cA.of ol⟩,forL cn (λi I r=>∃O S v3,I=[↑A.wo,O,S,v3]/\r=H2/\∀(k:Nat) y d,k<i->m[k]? =some y->cellAt M y.1=some d->d.tone=M.sw.sense) ⟨_,_,_,rfl,rfl,λk y d hk=>absurd hk (Nat.not_lt_zero _)⟩ (by rintro _ _ _ _ ⟨_,_,_,_,z,_⟩;rw[z];exact cA.of ol) ?_ ?_⟩
 ·rintro i x I r hi ⟨O,S,v3,rfl,rfl,f⟩;rw[bV]at hi;obtain⟨t,ht,rfl⟩:=Option.map_eq_some_iff.mp hi;have o:i<m.length:=by rw[<- p];exact(cL ht).1
  obtain⟨t',wa,et,ot,u⟩:=qa.at (bG o);rw[ht]at et;cases et;have hx:m[i]? =some m[i]:=bG o;generalize m[i]=x at hx ot u;obtain⟨fl,E⟩:=Option.isSome_iff_exists.mp (good x (List.mem_of_getElem? hx)).there;rw[Zc4]at E;obtain⟨c,hc,_⟩:=Option.map_eq_some_iff.mp E;obtain⟨x0,P⟩:=cB.mp hc;obtain⟨pp,R,ce⟩:=D.jc.at P;obtain⟨_,_,⟨dc,oc⟩,_⟩:=id ce;refine⟨t,_,rfl,dU.of ot,rfl,?_⟩;refine⟨_,_,rfl,?_⟩;exists _,_,rfl;exists rfl;apply aH W g.cW g.Vb bI ?_;refine aH L g.c.cX g.c.bZ bU ?_;apply gQ (cA.of D.jh.oc) (je (v:=.ref pp.1) x0 (by rw[bV,R];rfl)) ?_;exists _,_,rfl,T,s,A,M,_,pp,c,D.w0,rfl,ce,rfl;apply Wu ci ci
  ·apply aH oc g.c.dJ g.c.eE fK ?_;apply Zsy (dU.of u) λF B=>?_;generalize zz:upd r F _=H3;obtain⟨s3,g3⟩:=nwO B zz;apply⟨bD ζ,λa na=>?_⟩;have s4:=aL na (.tup [.str "lost",.int c.birth,.ref F]);exact q2 q m i x c a F _ N hx f hc z (b.trans (s3.trans s4)) (b.free (s3.free na)) (b.free B) ao (s4 _ _ g3)
  ·apply⟨_,_,_,rfl,rfl,λk y d hk Y Z=>?_⟩
   by_cases h:k<i
   ·exact f k y d h Y Z
   ·have:k=i:=δ
    subst this;rw[hx]at Y;cases Y;rw[hc]at Z;cases Z;exact z
 ·rintro I r ⟨O,S,v3,rfl,rfl,f⟩;rw[aX,p]at f;apply q1 q m r N (λx hx c hc=>?_) b;obtain⟨k,hk,e⟩:=List.getElem_of_mem hx;exact f k x c hk (by rw[bG hk,e]) hc
theorem Zad{M:Wm}:((pB M).map some).map (wW M)=(nO M).map some:=by
 unfold pB nO;rw[List.map_map,List.map_filterMap,List.map_filterMap];refine HJ λi b=>?_;rw[Option.map_map,Option.map_map];cases hp:qC M i with
 | none=>rfl
 | some c=>
  unfold qC at hp;obtain⟨d,hd,e⟩:=Option.bind_eq_some_iff.mp hp;have a:d=c:=by
   split at e
   ·cases e
   ·exact Option.some.inj e
  subst a;show some (wW M (some (i:Int)))=some (some d.birth);have:cellAt M (i:Int)=some d:=by
   unfold cellAt;rw[if_pos δ,Int.toNat_natCast,hd]
  show some ((cellAt M (i:Int)).map _)=_;rw[this];rfl
theorem Rq{M:Wm}(h:M.cells.length<=900):(nO M).length<=900/\(pB M).length<=900:=by
 unfold nO pB;have h1:=List.length_filterMap_le (λi=>(qC M i).map (·.birth)) (List.range M.cells.length);have h2:=List.length_filterMap_le (λ(i:Nat)=>(qC M i).map λ_=>(i:Int)) (List.range M.cells.length);rw[List.length_range]at h1 h2;exact⟨δ,δ⟩
theorem Zx9{wo:AI}(f:j6 K X)(q:wI X Zol wo H Q):Znx K (rA X) (Ji X) (UL X) (vm K) ξ [↑wo,none,none,none] H:=by
 obtain⟨T,s,A,M,lb,lw,w,p,j,rfl,ok,⟨ph,gr,cd⟩,lo,q⟩:=q;obtain⟨dw,ow⟩:=j.jb.ow;obtain⟨P,os⟩:=j.js.os;obtain⟨dh,oh⟩:=j.jh.oh;have J:=ok.cl;unfold Znx;apply aH ow f.cW f.JN aV ?_;apply aH ow f.cW f.Vb bI ?_;refine aH oh f.c.cX f.c.bZ bU ?_;apply eV (cA.of j.jh.oc) ?_;rw[aX,j.jc.lc];apply⟨A.sw,X.S,P,_,rfl,os,f.cS,f.n7,by show 11<1000;decide,?_⟩;rw[Oa];apply⟨A.sw,X.S,P,_,rfl,ao,f.cS,f.n6,by show 11<1000;decide,?_⟩;rw[z6,dg];obtain⟨b,u⟩:=j.sweep w p (dx:=P) { M.sw with stop:=M.cells.length,at':=0 } rfl;have u:WJ X _ T s A (fO M):=u;generalize upd H A.sw (.ins X.S P (bT M.sw.sense M.sw.phase A.gr M.sw.looked M.sw.turn 0 M.cells.length M.sw.walks M.sw.looks M.sw.passes M.sw.loss))=H1 at b u ⊢;have W:Zg3 (fO M):=⟨ok.cl,ok.hl,ok.fl,ok.nl,ok.gl,ok.gc,ok.ph,Int.le_refl _⟩;apply⟨_,rfl,T,s,A,fO M,b.wt,p,u,rfl,W,λq' qs I Z r m=>?_,λq' qs i x c a D I Z hx r hc ht m R N oa E=>?_⟩
 ·have v:=u.same m;obtain⟨dw2,ow2⟩:=v.jb.ow;obtain⟨e,h⟩:=v.js.os;apply⟨A.sw,X.S,e,_,rfl,h,f.cS,f.n2,by show 11<1000;decide,?_⟩;rw[ju];obtain⟨d,g⟩:=v.sweep (b.wt.same m) p (dx:=e) { (fO M).sw with phase:="give" } rfl;have g:WJ X _ T s A { fO M with sw:={ (fO M).sw with phase:="give" } }:=g;generalize upd I A.sw (.ins X.S e (bT (fO M).sw.sense "give" A.gr (fO M).sw.looked (fO M).sw.turn (fO M).sw.at' (fO M).sw.stop (fO M).sw.walks (fO M).sw.looks (fO M).sw.passes (fO M).sw.loss))=H3 at d g ⊢;obtain⟨dw3,Y⟩:=g.jb.ow;obtain⟨ob,ol⟩:=Rq J;apply aH Y f.cW f.Vb bI ?_;apply⟨_,rfl,T,s,A,_,g,rfl,J,λl4 H4 k nl4 g4=>?_⟩;have e4:(pB { fO M with sw:={ (fO M).sw with phase:="give" } }).map V.int=((pB M).map some).map oV:=by
   rw[List.map_map];rfl
  rw[e4]at g4;apply⟨A.hp,l4,rfl,T,s,A,_,(pB M).map some,g.same k,rfl,g4,by rw[aX];omega,λl5 O=>?_⟩;have e5:(((pB M).map some).map (wW { fO M with sw:={ (fO M).sw with phase:="give" } })).map oV=(nO M).map V.int:=by
   have:wW { fO M with sw:={ (fO M).sw with phase:="give" } }=wW M:=by funext x;cases x<;>rfl
   rw[this,Zad,List.map_map];rfl
  rw[e5];generalize zz:upd H4 l5 _=H5;obtain⟨s5,g5⟩:=nwO O zz;apply eV (cA.of g5) ?_;rw[aX];apply⟨bD ζ,λa R=>?_⟩;have s6:=aL R (.tup [.str "cut",.int (nO M).length,.ref l5]);have F:=k.trans (s5.trans s6);have L:H l5=none:=cY.free b (m.free (cY.free d (k.free O)));exact q _ _ (.cut q' qs ph gr cd Z r) _ T A a (b.trans ((cY.same b.wt m).trans (d.trans (cY.same d.wt F)))) (g.same F) rfl ⟨l5,⟨L,(rB w p L).2,(rB d.wt p ((k.trans s5).free R)).2⟩,ao,s6 _ _ g5⟩ λz=>absurd z (show ¬ ("give":Str)="lost" by decide)
 ·have v:=u.same m;have w2:=b.wt.same m;obtain⟨e,h⟩:=v.js.os;apply⟨A.sw,X.S,e,_,rfl,h,f.cS,f.n2,by show 11<1000;decide,?_⟩;rw[ju];apply⟨A.sw,X.S,e,_,rfl,ao,f.cS,f.n11,by show 11<1000;decide,?_⟩;rw[Ob,dg];obtain⟨d,g⟩:=v.sweep w2 p (dx:=e) { (fO M).sw with phase:="lost",loss:=.ref a } rfl;have g:WJ X _ T s A { fO M with sw:={ (fO M).sw with phase:="lost",loss:=.ref a } }:=g;have ta:T a=(0,0):=b.wt _ R;have tw:T D=(0,0):=b.wt _ N;have t:upd I A.sw (.ins X.S e a6) a=some (.tup [.str "lost",.int c.birth,.ref D]):=(aB (kE oa h aS)).trans oa;have o:upd I A.sw (.ins X.S e a6) D=some (.lst (x.2.map V.int)):=(aB (kE E h aS)).trans E;generalize upd I A.sw (.ins X.S e a6)=H3 at d g t o ⊢;apply⟨a,rfl,"lost",c.birth,D,x.2,t,o,λa' l' H4 k U B C ol'=>?_⟩;have L:H l'=none:=cY.free b (m.free (cY.free d B));exact q _ _ (.lost q' qs i x c (.ref a) ph gr cd Z hx r hc ht) _ T A a' (b.trans ((cY.same b.wt m).trans (d.trans (cY.same d.wt k)))) (g.same k) rfl ⟨l',⟨L,(rB w p L).2,(rB d.wt p U).2⟩,C,ol'⟩ λ_=>⟨c.birth,rfl,a,D,rfl,ta,k _ _ t,tw,k _ _ o,(λx y l z=>by rw[C]at z;cases z;exact aF o B),λ_=>cY.free b N⟩
end
theorem toN{x:Int}(h:0<=x):∃k:Nat,x=k:=⟨x.toNat,δ⟩
section
variable {K:aD}{X:Cs}{H:Hp}{Q:VK}{E:XK}{n:ν}{bk ct:ν}
theorem Zrg{wo:AI}(b:j6 K X)(q:wI X Zoh wo H Q):Zji K (lV X) ξ [↑wo,none,none] H:=by
 obtain⟨T,s,A,M,lb,lw,w,B,j,rfl,ok,⟨ph,gr⟩,lo,q⟩:=q;obtain⟨Y,ow⟩:=j.jb.ow;obtain⟨ds,os⟩:=j.js.os;obtain⟨W,oh⟩:=j.jh.oh;have og:=j.js.og;cases p:M.sw.grey with
 | nil=>exact absurd p gr
 | cons x g=>
  obtain⟨c,hc⟩:=ok.gc ph x (by rw[p];simp);obtain⟨P,f⟩:=cB.mp hc;have E:=ok.gl ph;have R:=ok.fl c (uY hc);rw[p]at og;unfold Zji;apply aH ow b.cW b.JN aV ?_;apply aH ow b.cW b.Vb bI ?_;refine aH oh b.c.cX b.c.bZ bU ?_;apply aH os b.cS b.n3 oY ?_;exists .inl ⟨rfl,_,cA.of og⟩;exists A.gr,_,0,0,.int x,rfl,rfl,og,ε,ε,by simp[seqIndex?],rfl;obtain⟨d,u⟩:=j.Zup w B (g:=g);show jf K _ _ (upd H A.gr (.lst (g.map V.int))) _;generalize upd H A.gr (.lst (g.map V.int))=H1 at d u ⊢;obtain⟨I,h,ce⟩:=u.jc.at (i:=x.toNat) (c:=c) f;refine gQ (cA.of u.jh.oc) (je (v:=.ref I.1) P (by rw[bV,h];rfl)) ?_;obtain⟨m,o⟩:=u.js.os;apply aH o b.cS b.n8 vC ?_;apply⟨A.sw,X.S,m,_,rfl,o,b.cS,b.n8,by show 11<1000;decide,?_⟩;rw[rW];obtain⟨e,t⟩:=u.sweep d.wt B (dx:=m) { M.sw with grey:=g,walks:=M.sw.walks+1 } rfl;have t:WJ X _ T s A { M with sw:={ M.sw with grey:=g,walks:=M.sw.walks+1 } }:=t;generalize upd H1 A.sw _=H2 at e t ⊢;obtain⟨O,r,D⟩:=t.jc.at (i:=x.toNat) (c:=c) f;rw[h]at r;cases r;obtain⟨_,_,⟨Z,oc⟩,L⟩:=id D;apply aH oc b.c.dJ b.c.eE fK ?_;apply aH oc b.c.dJ b.c.gj iT ?_;apply⟨_,_,rfl,c.fl,T,s,A,_,e.wt,B,t,rfl,.inr (.inr ⟨x.toNat,I,c,h,f,rfl,rfl⟩),δ,λ_=>?_,λH3 U l k J N y=>?_⟩
  ·show g.length<=10000;rw[p,List.length_cons]at E;omega
  apply⟨bD ζ,λa F=>?_⟩;have C:=aL F (.tup [.str "walk",.int c.birth,.ref l]);refine q _ _ (.walk x g c ph p hc) _ U A a (d.trans (e.trans (k.trans (cY.same k.wt C)))) (J.same C) rfl ⟨l,⟨cY.free d (cY.free e y.1),y.2,(rB k.wt B F).2⟩,ao,C _ _ N⟩ λz=>?_;rw[(qL (l:=c.fl) (M:={ M with sw:={ M.sw with grey:=g,walks:=M.sw.walks+1 } })).1]at z;exact absurd ap (show ¬ ("walk":Str)="lost" by decide)
theorem Vz{wo:AI}(e:j6 K X)(q:wI X Zoj wo H Q):Ah K X.H (zm X.C X.H) (iV X.H) (iI X) ξ [↑wo,none,none,none] H:=by
 obtain⟨T,s,A,M,lb,lw,w,r,j,rfl,ok,⟨ph,lt⟩,lo,q⟩:=q;obtain⟨dw,ow⟩:=j.jb.ow;obtain⟨L,os⟩:=j.js.os;unfold Ah;apply aH ow e.cW e.JN aV ?_;apply aH os e.cS e.n6 DN ?_;apply⟨A.sw,X.S,L,_,rfl,os,e.cS,e.n6,by show 11<1000;decide,?_⟩;rw[z6];apply aH ao e.cS e.n10 rY ?_;apply⟨A.sw,X.S,L,_,rfl,ao,e.cS,e.n10,by show 11<1000;decide,?_⟩;rw[p8,dg];obtain⟨b,o⟩:=j.sweep w r (dx:=L) { M.sw with at':=M.sw.at'+1,passes:=M.sw.passes+1 } rfl;generalize upd H A.sw _=N at b o ⊢;obtain⟨W,t⟩:=o.jb.ow;obtain⟨I,F⟩:=o.jh.oh;apply aH t e.cW e.Vb bI ?_;exists _,_,rfl,tV (some M.sw.at'),_,_,_,_,_,o.hpO;have u:(∀c,cellAt M M.sw.at'=some c->c.tone=M.sw.sense)->∀l a p,N a=none->N l=none->bA N p->p a=some (.tup [.str "pass",.int M.sw.at',.ref l])->p l=some (.lst [])->Q (.ref a) p:=λhp l a p g nl h oa ol=>
  q _ _ (.pass ph lt hp) _ T A a (b.trans (cY.same b.wt h)) (o.same h) rfl ⟨l,⟨cY.free b nl,(rB b.wt r nl).2,(rB b.wt r g).2⟩,oa,ol⟩ λz=>absurd ap (show ¬ ("give":Str)="lost" by decide)
 rcases o.look (some M.sw.at')with ⟨E,J⟩ | ⟨i,c,V,Z,h0,D,v,hpp,J,ce⟩
 ·have E:cellAt M M.sw.at'=none:=E;rw[show atO dy (.int M.sw.at')=.non from J];apply⟨bD ζ,λl nl=>⟨bD ζ,λa g=>?_⟩⟩;have h:=aL nl (.lst []);have m:=aL g (.tup [.str "pass",.int M.sw.at',.ref l]);exact u (λc hc=>by rw[E]at hc;cases hc) l a _ (h.free g) nl (h.trans m) ao (m _ _ ao)
 ·cases Z;have D:cellAt M M.sw.at'=some c:=D;rw[show atO dy (.int M.sw.at')=.ref V.1 from J];exists _,_,rfl,T,s,A,_,_,V,c,o.w0,rfl,ce,rfl
  by_cases z:c.tone=M.sw.sense
  ·rw[decide_eq_true (show c.tone=({ M.sw with at':=M.sw.at'+1,passes:=M.sw.passes+1 }:Sw).sense from z)];apply⟨bD ζ,λl nl=>⟨bD ζ,λa g=>?_⟩⟩;have h:=aL nl (.lst []);have m:=aL g (.tup [.str "pass",.int M.sw.at',.ref l]);exact u (λd hd=>by rw[D]at hd;cases hd;exact z) l a _ (h.free g) nl (h.trans m) ao (m _ _ ao)
  ·rw[decide_eq_false (show ¬ c.tone=({ M.sw with at':=M.sw.at'+1,passes:=M.sw.passes+1 }:Sw).sense from z)];obtain⟨k,B⟩:=toN h0;have hk:M.cells[k]? =some (some c):=by rw[B,Int.toNat_natCast]at v;exact v
   apply aH t e.cW e.Vb bI ?_;exists A.hp,I,_,rfl,F,Wx;ext;rw[B];refine Zmk o b.wt r hk λp Y f R O=>?_;apply⟨bD ζ,λl nl=>⟨bD ζ,λa g=>?_⟩⟩;have m:=aL nl (.lst [.int (k:Int)]);have P:=aL g (.tup [.str "back",.int c.birth,.ref l]);have x:=m.trans P;have U:=eO.back (lb:=lb) (lw:=lw) (M:=M) c ph lt D z;rw[B,Int.toNat_natCast]at U;rw[B]at R;exact q _ _ U _ T Y a (b.trans (f.trans (cY.same f.wt x))) (R.same x) O ⟨l,⟨cY.free b (cY.free f nl),(rB f.wt r nl).2,(rB f.wt r (m.free g)).2⟩,ao,P _ _ ao⟩ λy=>absurd (ph.symm.trans y) (show ¬ ("give":Str)="lost" by decide)
theorem Zx5{wo:AI}(c:j6 K X)(q:wI X pEnd wo H Q):Znv K ξ [↑wo,none] H:=by
 obtain⟨T,s,A,M,r,lw,w,g,j,rfl,ok,⟨ph,lt⟩,lo,q⟩:=q;obtain⟨p,ow⟩:=j.jb.ow;obtain⟨m,os⟩:=j.js.os;unfold Znv;apply aH ow c.cW c.JN aV ?_;apply⟨A.sw,X.S,m,_,rfl,os,c.cS,c.n2,by show 11<1000;decide,?_⟩;rw[ju];obtain⟨b,f⟩:=j.sweep w g (dx:=m) { M.sw with phase:="rest" } rfl;generalize upd H A.sw _=t at b f ⊢;obtain⟨o,d⟩:=f.js.os;apply aH d c.cS c.n5 oX ?_;apply aH d c.cS c.n8 vC ?_;apply aH d c.cS c.n9 nF ?_;apply aH d c.cS c.n10 rY ?_;apply⟨bD ζ,λl nl=>⟨bD ζ,λa k=>?_⟩⟩;have h:=aL nl (.lst [.int M.sw.walks,.int M.sw.looks,.int M.sw.passes]);have i:=aL k (.tup [.str "end",.int M.sw.turn,.ref l]);have e:=h.trans i;exact q _ _ (.fin ph lt) _ T A a (b.trans (cY.same b.wt e)) (f.same e) rfl ⟨l,⟨cY.free b nl,(rB b.wt g nl).2,(rB b.wt g (h.free k)).2⟩,ao,i _ _ ao⟩ λz=>absurd z (show ¬ ("rest":Str)="lost" by decide)
theorem Oe{wo:AI}(a:j6 K X)(q:wI X (Ys "give") wo H Q):vO K (cC X pEnd) (cC X Zoj) ξ [↑wo] H:=by
 obtain⟨T,s,A,M,b,lw,w,c,j,rfl,ok,ph,lo,q⟩:=q;obtain⟨d,ow⟩:=j.jb.ow;obtain⟨e,os⟩:=j.js.os;unfold vO;apply aH ow a.cW a.JN aV ?_;apply aH os a.cS a.n6 DN ?_;apply aH ow a.cW a.JN aV ?_;apply aH os a.cS a.n7 Ql ?_;apply lR ci ci
 ·apply⟨_,rfl,T,s,A,M,b,lw,w,c,j,rfl,ok,⟨ph,z⟩,lo,q⟩
 ·apply⟨_,rfl,T,s,A,M,b,lw,w,c,j,rfl,ok,⟨ph,z⟩,lo,q⟩
theorem Od{wo:AI}(a:j6 K X)(q:wI X (Ys "walk") wo H Q):vN K (cC X Zok) (cC X Zoh) ξ [↑wo] H:=by
 obtain⟨T,s,A,M,c,lw,w,d,j,rfl,ok,ph,lo,q⟩:=q;obtain⟨e,ow⟩:=j.jb.ow;obtain⟨f,os⟩:=j.js.os;unfold vN;apply aH ow a.cW a.JN aV ?_;apply aH os a.cS a.n3 oY ?_;refine Zxr (cA.of j.js.og) ?_;cases b:M.sw.grey with
 | nil=>
  refine Zbt ?_;apply⟨_,rfl,T,s,A,M,c,lw,w,d,j,rfl,ok,⟨ph,b⟩,lo,q⟩
 | cons x g=>
  refine Zhv ?_;apply⟨_,rfl,T,s,A,M,c,lw,w,d,j,rfl,ok,⟨ph,by rw[b];simp⟩,lo,q⟩
theorem DP{wo:AI}(c:j6 K X)(q:wI X (Ys "lost") wo H Q):qd K (vm K) ξ [↑wo] H:=by
 obtain⟨T,s,A,M,f,lw,w,g,j,rfl,ok,ph,lo,q⟩:=q;obtain⟨m,ow⟩:=j.jb.ow;obtain⟨o,os⟩:=j.js.os;obtain⟨e,h,d,t1,o1,t2,o2⟩:=lo ph;rw[d]at os;unfold qd;apply aH ow c.cW c.JN aV ?_;apply aH os c.cS c.n11 Qm ?_;apply⟨e,rfl,"lost",f,h,lw,o1,o2,λa l p b k nl i ol=>?_⟩;exact q _ _ (.again ph) _ T A a (cY.same w b) (j.same b) rfl ⟨l,⟨nl,(rB w g nl).2,(rB w g k).2⟩,i,ol⟩ λ_=>⟨f,rfl,e,h,d,t1,b _ _ o1,t2,b _ _ o2,(λx y l z=>by rw[i]at z;cases z;exact aF o2 nl),λz=>absurd ph z⟩
theorem Zrk{wo d g f e:AI}(c:j6 K X)(q:wI X Zdz wo H Q):Za4 K d g f e (cC X (Ys "rest")) (cC X (Ys "give")) (cC X (Ys "walk")) (cC X (Ys "lost")) ξ [↑wo,none] H:=by
 obtain⟨T,s,A,M,a,lw,w,b,j,rfl,ok,_,lo,q⟩:=q;obtain⟨h,ow⟩:=j.jb.ow;obtain⟨i,os⟩:=j.js.os;unfold Za4;apply aH ow c.cW c.JN aV ?_;apply aH os c.cS c.n2 cR ?_;rcases ok.ph with ph | ph | ph | ph
 ·rw[ph];refine⟨_,d,rfl,rfl,?_⟩;apply iZ (cC X (Ys "rest")) rfl ζ ?_;apply⟨_,rfl,T,s,A,M,a,lw,w,b,j,rfl,ok,ph,lo,q⟩
 ·rw[ph];refine⟨_,f,rfl,rfl,?_⟩;apply iZ (cC X (Ys "walk")) rfl ζ ?_;apply⟨_,rfl,T,s,A,M,a,lw,w,b,j,rfl,ok,ph,lo,q⟩
 ·rw[ph];refine⟨_,g,rfl,rfl,?_⟩;apply iZ (cC X (Ys "give")) rfl ζ ?_;apply⟨_,rfl,T,s,A,M,a,lw,w,b,j,rfl,ok,ph,lo,q⟩
 ·rw[ph];refine⟨_,e,rfl,rfl,?_⟩;apply iZ (cC X (Ys "lost")) rfl ζ ?_;apply⟨_,rfl,T,s,A,M,a,lw,w,b,j,rfl,ok,ph,lo,q⟩
end
section
variable {K:aD}{X:Cs}{H:Hp}{Q:VK}{E:XK}{n:ν}{bk ct:ν}
theorem Qp{A:Wa}{w:Int}{σ:St}{b:TE}{q:Bool->Hp->Prop}(ol:∃dx,(w=0/\H A.lk=some (.ins X.F dx []))\/(w=1/\H A.lk=some (.ins X.E dx []))\/(w=2/\H A.lk=some (.ins X.L dx [])))(a:∀d:VK,d (.ref A.lk) H->b σ H d)(h:q (decide (w≠2)) H):
  tB (G.w6 (fP X.F "stays" (gW (.bl true)) [] E0 b aG) (G.w6 (fP X.E "stays" (gW (.bl true)) [] E0 b aG) (fP X.L "stays" (gW (.bl false)) [] E0 b aG))) σ H q:=by
 refine Zyg ?_;obtain⟨dl,⟨c,o⟩ | ⟨c,o⟩ | ⟨c,o⟩⟩:=ol
 ·rw[show decide (w≠2)=true from decide_eq_true δ]at h;refine BP ?_;left;refine a _ ?_;refine⟨A.lk,dl,_,rfl,o,rfl,?_⟩;left;exact⟨_,rfl,i_B h⟩
 ·rw[show decide (w≠2)=true from decide_eq_true δ]at h;refine pL (BP ?_);left;refine a _ ?_;refine⟨A.lk,dl,_,rfl,o,rfl,?_⟩;left;exact⟨_,rfl,i_B h⟩
 ·rw[show decide (w≠2)=false from decide_eq_false δ]at h;refine pL (pL ?_);left;refine a _ ?_;refine⟨A.lk,dl,_,rfl,o,rfl,?_⟩;left;exact⟨_,rfl,i_B h⟩
theorem Zlw{T:Tg}{s:Nat}{A:Wa}{M:Wm}{lb:Int}{lw:AE}(k:j6 K X)(w:WT H T)(C:s≠0)(j:WJ X H T s A M)(ok:Zg3 M)(ph:M.sw.phase="walk")(gr:M.sw.grey=[])
  (q:∀e y,eO lb lw M e y->∀H' T' R a,cY s H H' T T'->WJ X H' T' s R y->R.wo=A.wo->EvN H H' T' s a e->(y.sw.phase="lost"->∃b,e.thing=some b/\Zkz H H' T' (M.sw.phase≠"lost") y b e.notes a)->Q (.ref a) H'):
  jD K X.E X.F X.L (gW (.bl false)) (gW (.bl true)) (cC X Zol) (oR X) ξ [↑A.wo,↑A.sw,↑A.lk,some (.int bc),none] H:=by
 unfold jD;apply⟨_,_,rfl,T,s,A,M,w,C,j,rfl,ok.hl,λ_=>by rw[gr];exact Nat.zero_le _,λD O l g t I nl=>?_⟩;have nt:=JK bc M.hands 0 M;have ww:=nt.ww;have ol:=t.jb.ol;rw[ww]at ol;have N:uX M->cC X Zol [.ref A.wo] D Q E0:=λcd=>by
  have e:(fu bc M.hands 0 M).2=M:=by
   rcases cd with z | ⟨_,z⟩
   ·rw[z,Zef]
   ·exact Zar _ z
  rw[e]at t;refine⟨_,rfl,O,s,A,M,lb,lw,g.wt,C,t,rfl,ok,⟨ph,gr,cd⟩,λz=>absurd ap ε,λe' y r H' T' R a st' j' aw' W Z=>?_⟩;obtain⟨l',J,o1,o2⟩:=W;exact q e' y r H' T' R a (g.trans st') j' aw' ⟨l',⟨cY.free g J.1,J.2⟩,o1,o2⟩ λz=>let ⟨b,h0,a0,wl,h1,h2,h3,h4,h5,h6,h7⟩:=Z z;⟨b,h0,a0,wl,h1,h2,h3,h4,h5,h6,λf=>cY.free g (h7 f)⟩
 have u:¬ uX M->∀(lo:Int),lo=(if M.w=2 then(fu bc M.hands 0 M).2.sw.looked else Builtin.bitOr (fu bc M.hands 0 M).2.sw.looked bc)->∀o,cY s D o O O->WJ X o O s A { (fu bc M.hands 0 M).2 with sw:={ (fu bc M.hands 0 M).2.sw with looks:=(fu bc M.hands 0 M).2.sw.looks+1,looked:=lo } }->o l=some (.lst ((fu bc M.hands 0 M).1.map V.int))->∀a,o a=none->Q (.ref a) (upd o a (.tup [.str "look",.int bc,.ref l])):=λP lo elo o d p v a B=>by
  have Y:=aL B (.tup [.str "look",.int bc,.ref l]);subst elo;refine q _ _ (.look _ ph gr P rfl) _ O A a (g.trans (d.trans (cY.same d.wt Y))) (p.same Y) rfl ⟨l,⟨nl.1,nl.2,(rB d.wt C B).2⟩,ao,Y _ _ v⟩ λz=>?_;have:=(pF bc 100 M.hands 0 M ok.hl).1;have z:(fu bc M.hands 0 M).2.sw.phase="lost":=z;rw[this]at z;exact absurd ap ε
 apply lR (λhz=>?_) (λhz=>?_)
 ·apply N (.inl hz)
 ·refine Zuo ?_;refine Zyh ?_;refine Qp ol (λQ' h=>by left;exact h) ?_
  by_cases U:M.w=2
  ·rw[show decide (M.w≠2)=false from decide_eq_false δ];refine Zbt ?_;refine Zun ?_;left;refine Zxr (cA.of I) ?_;cases hn:(fu bc M.hands 0 M).1 with
   | nil=>
    refine Zhv ?_;apply N (.inr ⟨U,hn⟩)
   | cons b bs=>
    have P:¬ uX M:=λz=>by
     rcases z with z | ⟨_,z⟩
     ·exact hz z
     ·rw[hn]at z;cases z
    have u:=u P _ rfl;rw[if_pos U]at u;obtain⟨c,i⟩:=t.js.os;refine Zbt ?_;apply aH i k.cS k.n9 nF ?_;apply⟨A.sw,X.S,c,_,rfl,i,k.cS,k.n9,by show 11<1000;decide,?_⟩;rw[lC];obtain⟨d,p⟩:=t.sweep g.wt C (dx:=c) { (fu bc M.hands 0 M).2.sw with looks:=(fu bc M.hands 0 M).2.sw.looks+1 } rfl;have v:upd D A.sw (.ins X.S c (bT (fu bc M.hands 0 M).2.sw.sense (fu bc M.hands 0 M).2.sw.phase A.gr (fu bc M.hands 0 M).2.sw.looked (fu bc M.hands 0 M).2.sw.turn (fu bc M.hands 0 M).2.sw.at' (fu bc M.hands 0 M).2.sw.stop (fu bc M.hands 0 M).2.sw.walks ((fu bc M.hands 0 M).2.sw.looks+1) (fu bc M.hands 0 M).2.sw.passes (fu bc M.hands 0 M).2.sw.loss)) l=some (.lst ((fu bc M.hands 0 M).1.map V.int)):=(aB (kE I i aS)).trans I;generalize upd D A.sw _=o at d p v ⊢;have m:=p.jb.ol;have x:({ (fu bc M.hands 0 M).2 with sw:={ (fu bc M.hands 0 M).2.sw with looks:=(fu bc M.hands 0 M).2.sw.looks+1 } }:Wm).w=M.w:=ww;rw[x]at m;refine yD ?_;refine Zt3 ?_;refine Qp m (λQ' h=>by left;exact h) ?_;rw[show decide (M.w≠2)=false from decide_eq_false δ];apply⟨bD ζ,λa B=>u o d p v a B⟩
  ·rw[show decide (M.w≠2)=true from decide_eq_true δ];have P:¬ uX M:=λz=>by
    rcases z with z | ⟨z,_⟩
    ·exact hz z
    ·exact U z
   have u:=u P _ rfl;rw[if_neg U]at u;obtain⟨c,i⟩:=t.js.os;apply aH i k.cS k.n9 nF ?_;apply⟨A.sw,X.S,c,_,rfl,i,k.cS,k.n9,by show 11<1000;decide,?_⟩;rw[lC];obtain⟨ZEf,j1b⟩:=t.sweep g.wt C (dx:=c) { (fu bc M.hands 0 M).2.sw with looks:=(fu bc M.hands 0 M).2.sw.looks+1 } rfl;have m:=j1b.jb.ol;have x:({ (fu bc M.hands 0 M).2 with sw:={ (fu bc M.hands 0 M).2.sw with looks:=(fu bc M.hands 0 M).2.sw.looks+1 } }:Wm).w=M.w:=ww;rw[x]at m;refine yD ?_;refine Zt3 ?_;refine Qp m (λQ' h=>by left;exact h) ?_;rw[show decide (M.w≠2)=true from decide_eq_true δ];apply aH ao k.cS k.n4 gk ?_;apply⟨A.sw,X.S,c,_,rfl,ao,k.cS,k.n4,by show 11<1000;decide,?_⟩;rw[qb,dg];obtain⟨d,p⟩:=t.sweep g.wt C (dx:=c) { (fu bc M.hands 0 M).2.sw with looks:=(fu bc M.hands 0 M).2.sw.looks+1,looked:=Builtin.bitOr (fu bc M.hands 0 M).2.sw.looked bc } rfl;have v:upd D A.sw (.ins X.S c (bT (fu bc M.hands 0 M).2.sw.sense (fu bc M.hands 0 M).2.sw.phase A.gr (Builtin.bitOr (fu bc M.hands 0 M).2.sw.looked bc) (fu bc M.hands 0 M).2.sw.turn (fu bc M.hands 0 M).2.sw.at' (fu bc M.hands 0 M).2.sw.stop (fu bc M.hands 0 M).2.sw.walks ((fu bc M.hands 0 M).2.sw.looks+1) (fu bc M.hands 0 M).2.sw.passes (fu bc M.hands 0 M).2.sw.loss)) l=some (.lst ((fu bc M.hands 0 M).1.map V.int)):=(aB (kE I i aS)).trans I;generalize upd D A.sw _=o at d p v ⊢;apply⟨bD ζ,λa B=>u o d p v a B⟩
theorem SM{wo:AI}(a:j6 K X)(q:wI X Zok wo H Q):xP K X.E X.F X.L (j7 1) (j7 2) (gW (.bl false)) (j7 0) (gW (.bl true)) (cC X Zol) (oR X) ξ [↑wo,none,none,none,none] H:=by
 obtain⟨T,s,A,M,k,lw,w,g,j,rfl,ok,⟨ph,gr⟩,lo,q⟩:=q;obtain⟨i,ow⟩:=j.jb.ow;obtain⟨l,os⟩:=j.js.os;obtain⟨h,f⟩:=j.jb.ok;have on:=j.jb.on;have lh:=j.jd.lh;have l5:=j.jd.l5;have c:((A.hs.map λp=>V.ref p.1).length:Int)=(M.hands.length:Int):=by rw[aX,lh]
 have b:=Zlw (n:=n) (bk:=bk) (ct:=ct) a w g j ok ph gr q;obtain⟨dl,ol⟩:=j.jb.ol;unfold xP;apply aH ow a.cW a.JN aV ?_;apply aH ow a.cW a.nWk iu ?_;refine aH f a.cK a.nKl cT ?_;refine Zyo ?_;refine yD ?_;left;rcases ol with ⟨d,o⟩ | ⟨d,o⟩ | ⟨d,o⟩
 ·have e:bH M=yl 0 M.sw.looked M.hands.length:=by unfold bH;rw[d];rfl
  refine BP ?_;left;refine⟨A.lk,dl,_,rfl,o,rfl,?_⟩;left;refine aH os a.cS a.n4 gk ?_;left;refine aH ow a.cW a.nWd dj ?_;left;refine eV (cA.of on) ?_;rw[c];left;refine⟨A.lk,_,_,rfl,δ,δ,?_⟩;rw[Int.toNat_natCast,<- e];left;exact b
 ·have e:bH M=yl 1 M.sw.looked M.hands.length:=by unfold bH;rw[d];rfl
  refine pL (BP ?_);left;refine⟨A.lk,dl,_,rfl,o,rfl,?_⟩;left;refine aH os a.cS a.n4 gk ?_;left;refine aH ow a.cW a.nWd dj ?_;left;refine eV (cA.of on) ?_;rw[c];left;refine⟨A.lk,_,_,rfl,δ,δ,?_⟩;rw[Int.toNat_natCast,<- e];left;exact b
 ·have e:bH M=yl 2 M.sw.looked M.hands.length:=by unfold bH;rw[d];rfl
  refine pL (pL ?_);left;refine⟨A.lk,dl,_,rfl,o,rfl,?_⟩;left;refine aH os a.cS a.n4 gk ?_;left;refine aH ow a.cW a.nWd dj ?_;left;refine eV (cA.of on) ?_;rw[c];left;refine⟨A.lk,_,_,rfl,δ,δ,?_⟩;rw[Int.toNat_natCast,<- e];left;exact b
end
abbrev zu:=List (Str×Int)
structure ZD(hs:zu):Prop where
 n1:1<=hs.length
 n5:hs.length<=5
 sb:∀m∈hs,3<=m.2/\m.2<=9
def okH(hs:zu)(h s:Nat):Prop:=∃m,hs[h]? =some m/\(s:Int)<m.2
def okR(hs:zu):kh->Prop
 | .make h s a bulk=>okH hs h s/\0<=a/\a<=8/\0<=bulk
 | .get h s t _=>okH hs h s/\okH hs h t
 | .put h t _ s=>okH hs h t/\okH hs h s
 | .copy h s t=>okH hs h s/\okH hs h t
 | .drop h s=>okH hs h s
 | .give h s g t=>okH hs h s/\okH hs g t
 | .write h t _=>okH hs h t
 | .read h t=>okH hs h t
 | .name h t _=>okH hs h t
 | .seek h s _=>okH hs h s
def Zxl(M:Wm):Prop:=M.sw.phase="walk"->M.sw.grey.Nodup/\∀x∈M.sw.grey,∃c,cellAt M x=some c/\c.tone=M.sw.sense
structure KW(M:Wm)(hs:zu)(k:Nat):Prop where
 hl:M.hands.length=hs.length
 hn:∀(i:Nat) m n,M.hands[i]? =some m->hs[i]? =some n->m.2.length=n.2.toNat
 cl:M.cells.length<=k
 nl:M.names.length<=k
 fl:∀c,some c∈M.cells->c.fl.length<=8
 gr:Zxl M
 ph:M.sw.phase="rest"\/M.sw.phase="walk"\/M.sw.phase="give"\/M.sw.phase="lost"
 a0:0<=M.sw.at'
 tl:0<=M.tells/\M.tells<4
section
variable {M:Wm}{hs:zu}{k:Nat}
theorem Gz:∀(n:Nat) (l:AE),l.Nodup->(∀x∈l,0<=x/\x<n)->l.length<=n
 | 0,l,_,h=>by
  cases l with
  | nil=>exact Nat.le_refl _
  | cons x l=>have:=h x ζ;omega
 | n+1,l,nd,h=>by
  have h1:(l.erase (n:Int)).length<=n:=Gz n _ (nd.erase _) λx hx=>by
   have h2:=h x (List.mem_of_mem_erase hx);have c:x≠(n:Int):=((nd.mem_erase_iff).mp hx).1
   push_cast at h2
   omega
  have b:=List.length_erase (a:=(n:Int)) (l:=l);split at b<;>omega
theorem uv{x:Int}{c:Ce}(h:cellAt M x=some c):0<=x/\x<M.cells.length:=by
 obtain⟨h0,h1⟩:=cB.mp h;have:=(cL h1).1;omega
theorem KW.ok(p:KW M hs k)(hb:ZD hs)(hk:k<=900):Zg3 M:=by
 have d:=p.cl;have f:=p.nl;refine⟨δ,λm hm=>?_,λc hc=>by have:=p.fl c hc;omega,δ,λph=>?_,λph x hx=>?_,p.ph,p.a0⟩
 ·obtain⟨i,b,e⟩:=List.getElem_of_mem hm;have a:i<hs.length:=by rw[<- p.hl];exact b
  have h1:=p.hn i m _ (by rw[bG b,e]) (bG a);have h2:=hb.sb _ (List.getElem_mem a);omega
 ·obtain⟨nd,h1⟩:=p.gr ph;refine Nat.le_trans (Gz M.cells.length _ nd λx hx=>?_) δ;obtain⟨c,hc,_⟩:=h1 x hx;exact uv hc
 ·obtain⟨c,hc,_⟩:=(p.gr ph).2 x hx;exact⟨c,hc⟩
theorem KW.zH(p:KW M hs k){h s:Nat}(o:okH hs h s):zH M h s:=by
 obtain⟨m,hm,b⟩:=o;have a:h<M.hands.length:=by rw[p.hl];exact(cL hm).1
 refine⟨_,bG a,?_⟩;have:=p.hn h _ m (bG a) hm;omega
theorem KW.okD(p:KW M hs k){d:kh}(o:okR hs d):okD M d:=by
 cases d with
 | make h s a bulk=>exact⟨p.zH o.1,o.2.1,by have:=o.2.2.1;omega,o.2.2.2⟩
 | get h s t f=>exact⟨p.zH o.1,p.zH o.2⟩
 | put h t f s=>exact⟨p.zH o.1,p.zH o.2⟩
 | copy h s t=>exact⟨p.zH o.1,p.zH o.2⟩
 | drop h s=>exact p.zH o
 | give h s g t=>exact⟨p.zH o.1,p.zH o.2⟩
 | write h t l=>exact p.zH o
 | read h t=>exact p.zH o
 | name h t z=>exact p.zH o
 | seek h s z=>exact p.zH o
theorem KW.mono{a:Nat}(p:KW M hs k)(h:k<=a):KW M hs a:=by
 obtain⟨i,f,j,l,b,e,g,c,d⟩:=p;exact⟨i,f,δ,δ,b,e,g,c,d⟩
theorem KW.slot(p:KW M hs k)(h s:Nat)(x:AA):KW (setSlot M h s x) hs k:=by
 obtain⟨r,d,q,o,f,e,l,g,j⟩:=p;refine⟨by show(M.hands.modify h _).length=_;rw[List.length_modify];exact r,λi m n a c=>?_,q,o,f,e,l,g,j⟩;have a:(M.hands.modify h λm=>(m.1,m.2.set s x))[i]? =some m:=a;rw[List.getElem?_modify]at a;cases em:M.hands[i]? with
 | none=>rw[em]at a;cases a
 | some b=>
  rw[em]at a
  by_cases z:h=i
  ·have e3:(b.1,b.2.set s x)=m:=by simpa[z]using a
   rw[<- e3];show(b.2.set s x).length=_;rw[List.length_set];exact d i b n em c
  ·have e3:b=m:=by simpa[z]using a
   rw[<- e3];exact d i b n em c
theorem jt{i:Int}{c c':Ce}(h:cellAt M i=some c)(x:Int):cellAt (setCell M i c') x=if x=i then some c' else cellAt M x:=by
 obtain⟨h0,h1⟩:=cB.mp h;unfold cellAt;show(if 0<=x then((M.cells.set i.toNat (some c'))[x.toNat]?).join else none)=_
 by_cases e:x=i
 ·subst e;rw[if_pos h0,if_pos rfl,List.getElem?_set_self (cL h1).1];rfl
 ·rw[if_neg e]
  by_cases a:0<=x
  ·rw[if_pos a,if_pos a,List.getElem?_set_ne δ]
  ·rw[if_neg a,if_neg a]
theorem KW.cell(p:KW M hs k){i:Int}{c c':Ce}(h:cellAt M i=some c)(r:c'.tone=c.tone)(s:c'.fl.length=c.fl.length):KW (setCell M i c') hs k:=by
 have h8:=p.fl c (uY h);obtain⟨o,q,n,m,f,b,l,g,j⟩:=p;refine⟨o,q,by show(M.cells.set _ _).length<=_;rw[List.length_set];exact n,m,λd hd=>?_,λph=>?_,l,g,j⟩
 ·rcases List.mem_or_eq_of_mem_set (show some d∈M.cells.set _ _ from hd)with hd | hd
  ·exact f d hd
  ·cases hd;omega
 ·obtain⟨nd,h1⟩:=b ph;refine⟨nd,λx hx=>?_⟩;obtain⟨d,hd,a⟩:=h1 x hx;rw[jt h]
  by_cases e:x=i
  ·subst e;rw[h]at hd;cases hd;exact⟨c',by rw[if_pos rfl],by rw[r];exact a⟩
  ·exact⟨d,by rw[if_neg e];exact hd,a⟩
theorem KW.note(p:KW M hs k)(x:AA):KW (bK M x).2 hs k:=by
 cases x with
 | none=>exact p
 | some i=>
  unfold bK;dsimp only;cases hc:cellAt M i with
  | none=>exact p
  | some c=>
   dsimp only;split
   ·rename_i z
    obtain⟨u,h⟩:=z;have h8:=p.fl c (uY hc);obtain⟨t,v,s,r,l,j,o,m,n⟩:=p;obtain⟨nd,h1⟩:=j u;have f:i∉M.sw.grey:=λq=>by
     obtain⟨d,hd,g⟩:=h1 i q;rw[hc]at hd;cases hd;exact h g
    refine⟨t,v,by show(M.cells.set _ _).length<=_;rw[List.length_set];exact s,r,λd hd=>?_,λ_=>⟨?_,λx hx=>?_⟩,o,m,n⟩
    ·rcases List.mem_or_eq_of_mem_set (show some d∈M.cells.set _ _ from hd)with hd | hd
     ·exact l d hd
     ·cases hd;exact h8
    ·show(M.sw.grey++[i]).Nodup;rw[List.nodup_append];exact⟨nd,ζ,λa ha b hb e=>f (by rw[List.mem_singleton.mp hb]at e;rw[<- e];exact ha)⟩
    ·have e:=jt (c':={ c with tone:=M.sw.sense }) hc x;show ∃d,cellAt (setCell M i { c with tone:=M.sw.sense }) x=some d/\d.tone=M.sw.sense;rw[e]
     by_cases ex:x=i
     ·exact⟨_,by rw[if_pos ex],rfl⟩
     ·rcases List.mem_append.mp (show x∈M.sw.grey++[i]from hx)with hx | hx
      ·obtain⟨d,hd,g⟩:=h1 x hx;exact⟨d,by rw[if_neg ex];exact hd,g⟩
      ·exact absurd (List.mem_singleton.mp hx) ex
   ·exact p
theorem KW.notes:∀{l:Au}{M:Wm},KW M hs k->KW (aP M l).2 hs k
 | [],_,p=>p
 | x::l,_,p=>KW.notes (l:=l) (p.note x)
theorem KW.nh(a:Int):∀{l:List (Str×Au)}{j:Nat}{M:Wm},KW M hs k->KW (fu a l j M).2 hs k
 | [],_,_,p=>p
 | m::l,j,M,p=>by
  unfold fu;split
  ·exact KW.nh a (l:=l) (KW.notes p)
  ·exact KW.nh a (l:=l) p
theorem KW.put(p:KW M hs k){u b:Int}{c:Ce}(m:c.fl.length<=8):KW { M with used:=u,born:=b,cells:=jG M.cells c } hs dX:=by
 obtain⟨i,l,o,n,e,a,h,f,g⟩:=p;refine⟨i,l,?_,by show M.names.length<=_;omega,λd hd=>?_,λph=>?_,h,f,g⟩
 ·have:=Zrx M.cells c;show(jG M.cells c).length<=_;omega
 ·rcases Zp6 hd with hd | hd
  ·exact e d hd
  ·cases hd;exact m
 ·obtain⟨nd,h1⟩:=a ph;refine⟨nd,λx hx=>?_⟩;obtain⟨d,hd,j⟩:=h1 x hx;exact⟨d,Ul hd,j⟩
theorem Zlk{l:List cx}{z:Str}{v:Int×Int}:(nU l z v).length<=l.length+1:=by
 unfold nU;split
 ·rw[aX];omega
 ·rw[List.length_append];simp
theorem KW.name(p:KW M hs k){z:Str}{v:Int×Int}:KW { M with names:=nU M.names z v } hs dX:=by
 obtain⟨g,e,h,i,a,d,f,b,c⟩:=p;refine⟨g,e,by show M.cells.length<=_;omega,?_,a,d,f,b,c⟩;have:=Zlk (l:=M.names) (z:=z) (v:=v);show(nU M.names z v).length<=_;omega
theorem KW.deed(p:KW M hs k){d:kh}{e:Ev}{i:Wm}(o:okR hs d)(h:jM M d=.ok (e,i)):KW i hs dX:=by
 have le:k<=k+1:=δ
 cases d with
 | make a s b bulk=>
  simp only[jM]at h;split at h
  ·right;refine KW.slot (KW.put p ?_) _ _ _;show(List.replicate b.toNat none).length<=8;rw[List.length_replicate];have:=o.2.2.1;omega
  ·cases h
 | get a s t f=>
  simp only[jM]at h;split at h
  ·cases h
  ·split at h
   ·cases h
   ·split at h
    ·cases h
    ·right;exact(p.slot _ _ _).mono le
 | put a t f s=>
  simp only[jM]at h;split at h
  ·cases h
  ·split at h
   ·cases h
   ·rename_i c hc
    split at h
    ·cases h
    ·right;exact(KW.notes (p.cell (c':={ c with fl:=c.fl.set f (aY M a s) }) hc rfl (by show(List.set _ _ _).length=_;rw[List.length_set]))).mono le
 | copy a s t=>
  right;exact(p.slot _ _ _).mono le
 | drop a s=>
  right;exact(p.slot _ _ _).mono le
 | give a s g t=>
  right;exact(KW.notes (p.slot _ _ _)).mono le
 | write a t l=>
  simp only[jM]at h;split at h
  ·cases h
  ·split at h
   ·cases h
   ·rename_i c hc
    right;exact(p.cell (c':={ c with load:=l }) hc rfl rfl).mono le
 | read a t=>
  simp only[jM]at h;split at h
  ·cases h
  ·split at h
   ·cases h
   ·right;exact p.mono le
 | name a t z=>
  simp only[jM]at h;split at h
  ·cases h
  ·split at h
   ·cases h
   ·right;exact p.name
 | seek a s z=>
  simp only[jM]at h;split at h
  ·cases h
  ·split at h
   ·right;exact(p.slot _ _ _).mono le
   ·right;exact(KW.notes (p.slot _ _ _)).mono le
theorem KW.step(p:KW M hs k){lb:Int}{lw:AE}{e:Ev}{u:Wm}(h:eO lb lw M e u):KW u hs k:=by
 cases h with
 | begin ph=>
  refine KW.nh _ ?_;obtain⟨l,m,j,f,a,r,o,n,b⟩:=p;exact⟨l,m,j,f,a,λ_=>⟨List.nodup_nil,λx hx=>(nomatch hx)⟩,.inr (.inl rfl),n,b⟩
 | walk x g c ph s hc=>
  refine KW.notes ?_;obtain⟨l,m,j,f,a,r,o,n,b⟩:=p;refine⟨l,m,j,f,a,λ_=>?_,o,n,b⟩;obtain⟨nd,h1⟩:=r ph;rw[s]at nd h1;exact⟨(List.nodup_cons.mp nd).2,λy hy=>h1 y (List.mem_cons_of_mem _ hy)⟩
 | look N ph s F w=>
  have E:KW N hs k:=by rw[w];exact KW.nh _ p
  obtain⟨l,m,j,f,a,r,o,n,b⟩:=E;exact⟨l,m,j,f,a,r,o,n,b⟩
 | cut q A ph s B D t=>
  obtain⟨l,m,j,f,a,r,o,n,b⟩:=p;exact⟨l,m,j,f,a,λz=>absurd z (show ¬ ("give":Str)="walk" by decide),.inr (.inr (.inl rfl)),Int.le_refl _,b⟩
 | lost q A i x c v ph s B D hx t hc C=>
  obtain⟨l,m,j,f,a,r,o,n,b⟩:=p;exact⟨l,m,j,f,a,λz=>absurd z (show ¬ ("lost":Str)="walk" by decide),.inr (.inr (.inr rfl)),Int.le_refl _,b⟩
 | pass ph lt hp=>
  obtain⟨l,m,j,f,a,r,o,n,b⟩:=p;exact⟨l,m,j,f,a,r,o,by show 0<=M.sw.at'+1;omega,b⟩
 | back c ph lt hc C=>
  obtain⟨l,m,j,f,a,r,o,n,b⟩:=p;refine⟨l,m,by show(M.cells.set _ _).length<=_;rw[List.length_set];exact j,f,λd hd=>?_,λz=>absurd ap ε,o,by show 0<=M.sw.at'+1;omega,b⟩;rcases List.mem_or_eq_of_mem_set (show some d∈M.cells.set _ _ from hd)with hd | hd
  ·exact a d hd
  ·cases hd
 | fin ph lt=>
  obtain⟨l,m,j,f,a,r,o,n,b⟩:=p;exact⟨l,m,j,f,a,λz=>absurd z (show ¬ ("rest":Str)="walk" by decide),.inl rfl,n,b⟩
 | again ph=>exact p
theorem KW.new{room:Int}{w t:Int}(h0:0<=t)(h1:t<4):KW (O1 room hs w t) hs 0:=by
 refine⟨by show(hs.map _).length=_;rw[aX],λi m n a b=>?_,Nat.le_refl _,Nat.le_refl _,λc hc=>(nomatch hc),λz=>absurd z (show ¬ ("rest":Str)="walk" by decide),.inl rfl,Int.le_refl _,⟨h0,h1⟩⟩;have a:(hs.map λm=>(m.1,List.replicate m.2.toNat (none:AA)))[i]? =some m:=a;rw[bV,b]at a;cases a;exact List.length_replicate
end
abbrev Rz:=Str×V×AE
def rfS:Rf->Str
 | .full=>"full"
 | .empty=>"empty"
 | .jL=>"field"
 | .CP=>"name"
def Zh2:Except Rf (Ev×Wm)->Rz
 | .ok x=>(x.1.word,oV x.1.thing,x.1.notes)
 | .error r=>("refused",.str (rfS r),[])
def stM(M:Wm):Except Rf (Ev×Wm)->Wm
 | .ok x=>x.2
 | .error _=>M
def evz(e:Ev):Rz:=(e.word,oV e.thing,e.notes)
def gP(a:List Rz):Bool:=match a.getLast? with
 | some x=>decide (x.1=("lost":Str))
 | none=>false
theorem Sy(a:List Rz)(x:Rz):gP (a++[x])=decide (x.1=("lost":Str)):=by
 unfold gP;rw[List.getLast?_concat]
inductive kO where
 | sw (n:Nat)
 | dd (d:kh)
def rV:kO->List V
 | .sw n=>[.str "sweep",.int n]
 | .dd d=>dV d
inductive Zv:Wm->Nat->List Rz->Wm->Prop
 | stop (M:Wm):Zv M 0 [] M
 | lost {M M':Wm}{n:Nat}{e:Ev}:eO 0 [] M e M'->e.word=("lost":Str)->Zv M (n+1) [evz e] M'
 | go {M N M':Wm}{n:Nat}{e:Ev}{es:List Rz}:eO 0 [] M e N->e.word≠("lost":Str)->Zv N n es M'->Zv M (n+1) (evz e::es) M'
def W3(M:Wm):kO->List Rz->Wm->Prop
 | .sw n,a,b=>Zv M n a b
 | .dd d,a,b=>a=[Zh2 (jM M d)]/\b=stM M (jM M d)
inductive Kl:Wm->List kO->List (List Rz)->Wm->Prop
 | nil (M:Wm):Kl M [] [] M
 | lost {M M':Wm}{r:kO}{rs:List kO}{es:List Rz}:W3 M r es M'->gP es=true->Kl M (r::rs) [es] M'
 | go {M N M':Wm}{r:kO}{rs:List kO}{es:List Rz}{lg:List (List Rz)}:W3 M r es N->gP es=false->Kl N rs lg M'->Kl M (r::rs) (es::lg) M'
def Nl(M:Wm):Prop:=M.sw.phase≠("lost":Str)/\M.sw.loss=.non
section
variable {F:KB.Fd}{R:KB.Rw}
theorem q8:∀(k:Nat) {q l i j:List cm},KB.Cq F R q k l->KB.Cq F R i k j->q=i/\l=j
 | 0,_,_,_,_,.start,.start=>⟨rfl,rfl⟩
 | k+1,_,_,_,_,.old b e m,g=>by
  cases g with
  | old c a d=>
   exact q8 k b c
  | new c a d h=>
   obtain⟨rfl,rfl⟩:=q8 k b c;rw[e]at a;cases a;exact absurd m d
 | k+1,_,_,_,_,.new b e m f,g=>by
  cases g with
  | old c a d=>
   obtain⟨rfl,rfl⟩:=q8 k b c;rw[e]at a;cases a;exact absurd d m
  | new c a d h=>
   obtain⟨rfl,rfl⟩:=q8 k b c;rw[e]at a;cases a;rw[f]at h;cases h;exact⟨rfl,rfl⟩
theorem Ztp{k:Nat}{q l:List cm}(b:KB.Cq F R q k l):∀(j:Nat),j<=k->∃a c,KB.Cq F R a j c/\(j<k->∃x,a[j]? =some x):=by
 induction b with
 | start=>
  intro j h;obtain rfl:j=0:=δ
  exact⟨_,_,.start,λz=>absurd z δ⟩
 | @old q k l p w b e m ih=>
  intro j h
  by_cases i:j<=k
  ·obtain⟨a,c,d,g⟩:=ih j i;refine⟨a,c,d,λ_=>?_⟩
   by_cases z:j<k
   ·exact g z
   ·obtain rfl:j=k:=δ
    obtain⟨rfl,rfl⟩:=q8 _ b d;exact⟨_,e⟩
  ·obtain rfl:j=k+1:=δ
   exact⟨_,_,.old b e m,λz=>absurd z δ⟩
 | @new q k l p w fl b e m f ih=>
  intro j h
  by_cases i:j<=k
  ·obtain⟨a,c,d,g⟩:=ih j i;refine⟨a,c,d,λ_=>?_⟩
   by_cases z:j<k
   ·exact g z
   ·obtain rfl:j=k:=δ
    obtain⟨rfl,rfl⟩:=q8 _ b d;exact⟨_,e⟩
  ·obtain rfl:j=k+1:=δ
   exact⟨_,_,.new b e m f,λz=>absurd z δ⟩
theorem Zca{q l a c:List cm}(b:KB.Cq F R q q.length l)(d:KB.Cq F R a a.length c):l=c:=by
 have le:∀{q l a c:List cm},KB.Cq F R q q.length l->KB.Cq F R a a.length c->¬ q.length<a.length:=λ{q l a c} b d h=>by
  obtain⟨j,i,f,g⟩:=Ztp d q.length δ;obtain⟨rfl,rfl⟩:=q8 _ b f;obtain⟨x,hx⟩:=g h;rw[List.getElem?_eq_none Γ]at hx;cases hx
 have e:q.length=a.length:=by
  have h1:=le b d;have h2:=le d b;omega
 rw[e]at b;exact(q8 _ b d).2
end
theorem Zkh{M a:Wm}{d:kh}{e:Ev}(h:jM M d=.ok (e,a)):∃g,a.sw={ M.sw with grey:=g }:=by
 cases d<;>simp only[jM]at h<;>(repeat' split at h)<;>first | (cases h;done) | (cases h;exact⟨_,rfl⟩) | (cases h;exact(lJ _ _).sw)
section
variable {M M' M2 N:Wm}{e e2:Ev}{a c:Int}{b d:AE}
theorem Nl.keep(n:Nl M)(h:∃g,M'.sw={ M.sw with grey:=g }):Nl M':=by
 obtain⟨g,h⟩:=h;exact⟨by rw[h];exact n.1,by rw[h];exact n.2⟩
theorem Nl.deed(n:Nl M)(d:kh):Nl (stM M (jM M d)):=by
 cases z:jM M d with
 | error r=>exact n
 | ok x=>exact n.keep (Zkh (e:=x.1) (by rw[z];rfl))
theorem Nl.step(n:Nl M)(h:eO a b M e M'):(e.word=("lost":Str)/\M'.sw.phase=("lost":Str))\/(e.word≠("lost":Str)/\Nl M'):=by
 cases h with
 | begin ph=>
  obtain⟨g,h⟩:=(JK (gH M.w M.hands.length) M.hands 0 (pQ M)).sw;exact .inr ⟨by show ¬("begin":Str)="lost";decide,by rw[h];show ¬("walk":Str)="lost";decide,by rw[h];exact n.2⟩
 | walk x g c ph d hc=>
  obtain⟨m,h⟩:=(lJ c.fl { M with sw:={ M.sw with grey:=g,walks:=M.sw.walks+1 } }).sw;exact .inr ⟨by show ¬("walk":Str)="lost";decide,by rw[h];exact n.1,by rw[h];exact n.2⟩
 | look N ph d r j=>
  obtain⟨m,h⟩:=(JK bc M.hands 0 M).sw;subst j;exact .inr ⟨by show ¬("look":Str)="lost";decide,by show(fu bc M.hands 0 M).2.sw.phase≠_;rw[h];exact n.1,by show(fu bc M.hands 0 M).2.sw.loss=_;rw[h];exact n.2⟩
 | cut q k ph d l p f=>exact .inr ⟨by show ¬("cut":Str)="lost";decide,by show ¬("give":Str)="lost";decide,n.2⟩
 | lost q k i x c v ph d l p hx f hc o=>exact .inl ⟨rfl,rfl⟩
 | pass ph lt hp=>exact .inr ⟨by show ¬("pass":Str)="lost";decide,n⟩
 | back c ph lt hc o=>exact .inr ⟨by show ¬("back":Str)="lost";decide,n⟩
 | fin ph lt=>exact .inr ⟨by show ¬("end":Str)="lost";decide,by show ¬("rest":Str)="lost";decide,n.2⟩
 | again ph=>exact absurd ph n.1
theorem rZ(n:Nl M)(h:eO a b M e M')(h2:eO c d M e2 M2):e=e2/\(e.word≠("lost":Str)->M'=M2):=by
 have k:∀{p q:Str},M.sw.phase=p->M.sw.phase=q->p≠q->False:=λh1 h2 W=>W (h1.symm.trans h2);have o:¬("rest":Str)="walk":=ε
 have E:¬("rest":Str)="give":=ε
 have wg:¬("walk":Str)="give":=ε
 cases h with
 | begin ph=>
  cases h2 with
  | begin=>exact⟨rfl,λ_=>rfl⟩
  | walk _ _ _ f=>exact(k ph f o).elim
  | look _ f=>exact(k ph f o).elim
  | cut _ _ f=>exact(k ph f o).elim
  | lost _ _ _ _ _ _ f=>exact(k ph f o).elim
  | pass f=>exact(k ph f E).elim
  | back _ f=>exact(k ph f E).elim
  | fin f=>exact(k ph f E).elim
  | again f=>exact absurd f n.1
 | walk x g ce ph u hc=>
  cases h2 with
  | begin f=>exact(k f ph o).elim
  | walk K O r f j l=>
   rw[u]at j;cases j;rw[hc]at l;cases l;exact⟨rfl,λ_=>rfl⟩
  | look _ f j=>rw[u]at j;cases j
  | cut _ _ f j=>rw[u]at j;cases j
  | lost _ _ _ _ _ _ f j=>rw[u]at j;cases j
  | pass f=>exact(k ph f wg).elim
  | back _ f=>exact(k ph f wg).elim
  | fin f=>exact(k ph f wg).elim
  | again f=>exact absurd f n.1
 | look N ph u R U=>
  cases h2 with
  | begin f=>exact(k f ph o).elim
  | walk K O r f j l=>rw[u]at j;cases j
  | look Q f j y D=>subst U D;exact⟨rfl,λ_=>rfl⟩
  | cut _ _ f j C=>exact absurd C R
  | lost _ _ _ _ _ _ f j C=>exact absurd C R
  | pass f=>exact(k ph f wg).elim
  | back _ f=>exact(k ph f wg).elim
  | fin f=>exact(k ph f wg).elim
  | again f=>exact absurd f n.1
 | cut q V ph u C L B=>
  cases h2 with
  | begin f=>exact(k f ph o).elim
  | walk K O r f j l=>rw[u]at j;cases j
  | look Q f j y D=>exact absurd C y
  | cut=>exact⟨rfl,λ_=>rfl⟩
  | lost S I i x ce v f j J s hx hn hc F=>
   rw[<- Zca L s]at hx;exact absurd (B x (List.mem_of_getElem? hx) ce hc) F
  | pass f=>exact(k ph f wg).elim
  | back _ f=>exact(k ph f wg).elim
  | fin f=>exact(k ph f wg).elim
  | again f=>exact absurd f n.1
 | lost q V i x ce v ph u C L hx B hc F=>
  cases h2 with
  | begin f=>exact(k f ph o).elim
  | walk K O r f j l=>rw[u]at j;cases j
  | look Q f j y D=>exact absurd C y
  | cut S I f j J s w=>
   rw[Zca L s]at hx;exact absurd (w x (List.mem_of_getElem? hx) ce hc) F
  | lost S I P K r X f j J s A w l t=>
   rw[<- Zca L s]at A w;have T:i=P:=by
    rcases Nat.lt_trichotomy i P with z | z | z
    ·exact absurd (w i x ce z hx hc) F
    ·exact z
    ·exact absurd (B P K r z A l) t
   subst T;rw[hx]at A;cases A;rw[hc]at l;cases l;exact⟨rfl,λz=>absurd rfl z⟩
  | pass f=>exact(k ph f wg).elim
  | back _ f=>exact(k ph f wg).elim
  | fin f=>exact(k ph f wg).elim
  | again f=>exact absurd f n.1
 | pass ph lt hp=>
  cases h2 with
  | begin f=>exact(k f ph E).elim
  | walk _ _ _ f=>exact(k f ph wg).elim
  | look _ f=>exact(k f ph wg).elim
  | cut _ _ f=>exact(k f ph wg).elim
  | lost _ _ _ _ _ _ f=>exact(k f ph wg).elim
  | pass=>exact⟨rfl,λ_=>rfl⟩
  | back ce f m l t=>exact absurd (hp ce l) t
  | fin f m=>exact absurd lt m
  | again f=>exact absurd f n.1
 | back ce ph lt hc F=>
  cases h2 with
  | begin f=>exact(k f ph E).elim
  | walk _ _ _ f=>exact(k f ph wg).elim
  | look _ f=>exact(k f ph wg).elim
  | cut _ _ f=>exact(k f ph wg).elim
  | lost _ _ _ _ _ _ f=>exact(k f ph wg).elim
  | pass f m H=>exact absurd (H ce hc) F
  | back r f m l t=>rw[hc]at l;cases l;exact⟨rfl,λ_=>rfl⟩
  | fin f m=>exact absurd lt m
  | again f=>exact absurd f n.1
 | fin ph lt=>
  cases h2 with
  | begin f=>exact(k f ph E).elim
  | walk _ _ _ f=>exact(k f ph wg).elim
  | look _ f=>exact(k f ph wg).elim
  | cut _ _ f=>exact(k f ph wg).elim
  | lost _ _ _ _ _ _ f=>exact(k f ph wg).elim
  | pass f m H=>exact absurd m lt
  | back r f m l t=>exact absurd m lt
  | fin=>exact⟨rfl,λ_=>rfl⟩
  | again f=>exact absurd f n.1
 | again ph=>exact absurd ph n.1
end
theorem CV(x:Rz){a:List Rz}(h:a≠[]):gP (x::a)=gP a:=by
 unfold gP;rw[List.getLast?_cons_of_ne_nil h]
theorem Zv.det{M d:Wm}{n:Nat}{b:List Rz}(h:Zv M n b d):Nl M->∀{a M2},Zv M n a M2->b=a/\(gP b=false->d=M2/\Nl d)/\(gP b=true->d.sw.phase=("lost":Str))/\b.length<=n/\(n≠0->b≠[]):=by
 induction h with
 | stop M=>intro n a M2 h2;cases h2;exact⟨rfl,λ_=>⟨rfl,n⟩,λz=>(by cases z),Nat.le_refl _,λz=>absurd rfl z⟩
 | @lost M d k e s l=>
  intro n a M2 h2;have hl:gP [evz e]=true:=decide_eq_true l;have hp:d.sw.phase=("lost":Str):=by
   rcases n.step s with z | z
   ·exact z.2
   ·exact absurd l z.1
  cases h2 with
  | lost c f=>obtain⟨rfl,_⟩:=rZ n s c;exact⟨rfl,λz=>(by rw[hl]at z;cases z),λ_=>hp,Nat.succ_le_succ (Nat.zero_le _),λ_ z=>(by cases z)⟩
  | go c f h2=>obtain⟨rfl,_⟩:=rZ n s c;exact absurd l f
 | @go M N d k e b s l h ih=>
  intro n a M2 h2;have j:Nl N:=by
   rcases n.step s with z | z
   ·exact absurd z.1 l
   ·exact z.2
  cases h2 with
  | lost c f=>obtain⟨rfl,_⟩:=rZ n s c;exact absurd f l
  | @go _ p _ _ q i c f h2=>
   obtain⟨rfl,e⟩:=rZ n s c;obtain rfl:=e l;obtain⟨rfl,g,o,m,r⟩:=ih j h2;refine⟨rfl,λz=>?_,λz=>?_,Nat.succ_le_succ m,λ_ z=>by cases z⟩
   ·by_cases hz:b=[]
    ·subst hz;exact g rfl
    ·rw[CV _ hz]at z;exact g z
   ·by_cases hz:b=[]
    ·subst hz;exact absurd (of_decide_eq_true z) l
    ·rw[CV _ hz]at z;exact o z
theorem Zdl(M:Wm)(d:kh):(Zh2 (jM M d)).1≠("lost":Str):=by
 cases d<;>simp only[jM]<;>(repeat' split)<;>(simp only[Zh2];decide)
theorem W3.det{M c:Wm}{r:kO}{b:List Rz}(h:W3 M r b c)(n:Nl M){a:List Rz}{M2:Wm}(h2:W3 M r a M2):b=a/\(gP b=false->c=M2/\Nl c)/\(gP b=true->c.sw.phase=("lost":Str)):=by
 cases r with
 | sw k=>obtain⟨h1,h2,e,_⟩:=Zv.det h n h2;exact⟨h1,h2,e⟩
 | dd d=>
  obtain⟨rfl,rfl⟩:=h;obtain⟨rfl,rfl⟩:=h2;exact⟨rfl,λ_=>⟨rfl,n.deed d⟩,λz=>absurd (of_decide_eq_true z) (Zdl M d)⟩
def HsO(H:Hp)(l:AI)(hs:zu):Prop:=∃ts:AF,H l=some (.lst cn)/\Al (λ(a:AI) (m:Str×Int)=>H a=some (.tup [.str m.1,.int m.2])) ts hs
theorem HsO.same{H H':Hp}{l:AI}{hs:zu}(h:HsO H l hs)(s:bA H H'):HsO H' l hs:=by
 obtain⟨ts,h1,h2⟩:=h;exact⟨ts,s _ _ h1,h2.mono λa m z=>s _ _ z⟩
theorem HsO.at{H:Hp}{l:AI}{hs:zu}(h:HsO H l hs){i:Nat}{m:Str×Int}(hm:hs[i]? =some m):∃ts:AF,∃t,H l=some (.lst cn)/\ts[i]? =some t/\H t=some (.tup [.str m.1,.int m.2]):=by
 obtain⟨ts,h1,h2⟩:=h;obtain⟨t,e,z⟩:=h2.get hm;exact⟨ts,t,h1,e,z⟩
theorem Zkr{e d:Type}{P:e->d->Prop}:∀{xs:List e}{c:List d},xs.length=c.length->(∀(i:Nat) x y,xs[i]? =some x->c[i]? =some y->P x y)->Al P xs c
 | [],[],_,_=>.nil
 | [],_::_,h,_=>by simp at h
 | _::_,[],h,_=>by simp at h
 | x::xs,y::c,h,p=>.cons (p 0 x y rfl rfl) (Zkr (by simpa using h) λi a b h1 h2=>p b9 a b (by simpa using h1) (by simpa using h2))
inductive Ziw(K:aD)(a:AI)(k:Int)(H:Hp)(Q:VK):Prop
 | mk (ns:AE) (_:cA K H a (ns.map V.int)) (_:0<=k) (_:∀z:Int,Q (.int z) H):Ziw K a k H Q
def Zj1(K:aD):Sp:=λvs H Q E=>∃a k,vs=[.ref a,.int k]/\Ziw K a k H Q
inductive Ziv(c:Int)(p:Int)(m:Int)(H:Hp)(Q:VK):Prop
 | mk (_:0<p) (_:p<2 ^ 32) (_:0<m) (_:∀z:Int,0<=z->z<m->Q (.int z) H):Ziv c p m H Q
def UT:Sp:=λvs H Q E=>∃c p m,vs=[.int c,.int p,.int m]/\Ziv c p m H Q
def Zcu:Sp:=λvs H Q E=>∃c,vs=[.int c]/\∀l hs H',bA H H'->H l=none->HsO H' l hs->ZD hs->Q (.ref l) H'
def Ziz:Sp:=λvs H Q E=>∃c,vs=[.int c]/\∀z:Int,Q (.int z) H
def Ziy:Sp:=λvs H Q E=>∃d n,vs=[.int d,.int n]/\3<=n/\∀z:Nat,(z:Int)<n->Q (.int z) H
def Zr3:Sp:=λvs H Q E=>∃c w,vs=[.int c,.int w]/\0<=w/\w<=1000/\∀z:Str,Q (.str z) H
def okW(hs:zu):kO->Prop
 | .sw n=>1<=n/\n<=200
 | .dd d=>okR hs d
def Zr7(hs:zu)(H:Hp)(Q:VK):Prop:=∀a r H',bA H H'->H' a=some (.tup (rV r))->okW hs r->Q (.ref a) H'
inductive Zis(c:Int)(h:Int)(s:Int)(H:Hp)(Q:VK):Prop
 | mk (hn sn:Nat) (hs:zu) (_:h=(hn:Int)) (_:s=(sn:Int)) (_:okH hs hn sn) (_:Zr7 hs H Q):Zis c h s H Q
def Zr6:Sp:=λvs H Q E=>∃c h s,vs=[.int c,.int h,.int s]/\Zis c h s H Q
inductive Us(c:Int)(m:Int)(H:Hp)(Q:VK):Prop
 | mk (_:1<=m) (_:m<=200) (hs) (_:Zr7 hs H Q):Us c m H Q
def Zg4:Sp:=λvs H Q E=>∃c m,vs=[.int c,.int m]/\Us c m H Q
inductive Ut(c:Int)(h:Int)(s:Int)(l:AI)(d:Int)(H:Hp)(Q:VK):Prop
 | mk (hn sn:Nat) (hs:zu) (_:h=(hn:Int)) (_:s=(sn:Int)) (_:okH hs hn sn) (_:HsO H l hs) (_:ZD hs) (_:Zr7 hs H Q):Ut c h s l d H Q
def Zg5:Sp:=λvs H Q E=>∃c h s l d,vs=[.int c,.int h,.int s,.ref l,.int d]/\Ut c h s l d H Q
inductive Ziq(c:Int)(l:AI)(d:Int)(m:Int)(H:Hp)(Q:VK):Prop
 | mk (hs:zu) (_:HsO H l hs) (_:ZD hs) (_:1<=m) (_:m<=200) (_:Zr7 hs H Q):Ziq c l d m H Q
def Zr4:Sp:=λvs H Q E=>∃c l d m,vs=[.int c,.ref l,.int d,.int m]/\Ziq c l d m H Q
def RwL(H:Hp)(l:AI)(rs:List kO):Prop:=∃b:AF,H l=some (.lst eN)/\b.length=rs.length/\∀(i:Nat) a,b[i]? =some a->∃r,rs[i]? =some r/\H a=some (.tup (rV r))
inductive Zcp(K:aD)(a:AI)(l:AI)(d:Int)(m:Int)(H:Hp)(Q:VK):Prop
 | mk (ns:AE) (hs:zu) (_:cA K H a (ns.map V.int)) (_:ns.length<=100) (_:HsO H l hs) (_:ZD hs) (_:1<=m) (_:m<=200) (_:∀p rs H',bA H H'->H p=none->RwL H' p rs->rs.length=ns.length->(∀r∈rs,okW hs r)->Q (.ref p) H'):Zcp K a l d m H Q
def Zcs(K:aD):Sp:=λvs H Q E=>∃a l d m,vs=[.ref a,.ref l,.int d,.int m]/\Zcp K a l d m H Q
def Zct(X:Cs):Sp:=λvs H Q E=>∃c,vs=[.int c]/\∀ki lk w t H',0<=t->t<4->w=c % 3->t=c / 3 % 4->bA H H'->H ki=none->H lk=none->KdO X H' ki lk w t->Q (.ref ki) H'
theorem Zja(c:Nat):(⟨#[c]⟩:Str).length=1:=rfl
theorem Zu7(a b:Str):(a++b).length=a.length+b.length:=by
 show(a.cps++b.cps).size=_;rw[Array.size_append];rfl
variable {K:aD}{X:Cs}{rf:Rf->AI}{H:Hp}{Q:VK}{E:XK}{n:ν}{bk ct:ν}
section
theorem Zcn{a:AI}{k:Int}(q:Ziw K a k H Q):FN K ξ [↑a,some (.int k)] H:=by
 obtain⟨ns,b,h0,h⟩:=q;unfold FN;apply eV b ?_;apply lR (λh1=>?_) (λh1=>?_)
 ·ext;rw[aX]at h1;have hk:k.toNat<ns.length:=δ
  exact gQ b (je h0 (by rw[bV,bG hk]<;>rfl)) (h _)
 ·apply h _
theorem Zcm{c p m:Int}(q:Ziv c p m H Q):FJ ξ [some (.int c),some (.int p),some (.int m),none] H:=by
 obtain⟨a,e,b,q⟩:=q;have h1:=Int.emod_nonneg c (show p≠0 by omega);have h2:=Int.emod_lt_of_pos c a;unfold FJ;ext;generalize c % p+11=d at *;have g:=Int.emod_nonneg (d * d) (show p≠0 by omega);have f:=Int.emod_lt_of_pos (d * d) a;apply q _ (Int.emod_nonneg _ δ) (Int.emod_lt_of_pos _ b)
theorem Zch{d m:Int}(q:3<=m/\∀z:Nat,(z:Int)<m->Q (.int z) H):Fv ξ [some (.int d),some (.int m)] H:=by
 obtain⟨a,q⟩:=q;unfold Fv;apply lR a8 a8
 ·ext;obtain⟨k,hk⟩:=Int.eq_ofNat_of_zero_le (Int.emod_nonneg (d / 5) (show m≠0 by omega));have:=Int.emod_lt_of_pos (d / 5) (show 0<m by omega);rw[hk]at this ⊢;exact q k this
 ·ext;obtain⟨k,hk⟩:=Int.eq_ofNat_of_zero_le (Int.emod_nonneg (d / 5) (show(3:Int)≠0 by decide));have:=Int.emod_lt_of_pos (d / 5) (show(0:Int)<3 by decide);rw[hk]at this ⊢;exact q k δ
theorem Zcj{c:Int}(q:∀z:Int,Q (.int z) H):Fx ξ [some (.int c)] H:=by
 unfold Fx;apply lR a8 a8
 ·apply q _
 ·apply lR a8 a8
  ·apply q _
  ·apply q _
theorem Zcf{c w:Int}(q:0<=w/\w<=1000/\∀z:Str,Q (.str z) H):Fq ξ [some (.int c),some (.int w),none,none] H:=by
 obtain⟨w0,b,q⟩:=q;unfold Fq;apply Zpr ε (Int.emod_nonneg _ ε) (Int.emod_lt_of_pos _ ε) λg=>?_;ext;have f:=nu "knot" none (some (c % 5));have e:=nu "ted" none (some (c / 5 % 4));have a:("knot":Str).length=4:=rfl;have d:("ted":Str).length=3:=rfl;refine Zk4 ε ?_;apply Zbu (by rw[Zja];exact bD δ) ?_;apply Zk4 ε ?_;apply Zbu (by rw[Zu7,Zja];exact bD δ) ?_;exact q _
theorem W0{c:Int}(q:∀l hs H',bA H H'->H l=none->HsO H' l hs->ZD hs->Q (.ref l) H'):Aq K ξ [some (.int c),none,none,none,none,none] H:=by
 unfold Aq;apply⟨ε,λl nl=>?_⟩;generalize D:upd H l _=H1;obtain⟨R,s⟩:=nwO nl D;have s:H1 l=some (.lst (([]:AF).map V.ref)):=s;ext;have W:=Int.emod_nonneg c (show(5:Int)≠0 by decide);have z1:=Int.emod_lt_of_pos c (show(0:Int)<5 by decide);refine⟨_,rfl,δ,δ,?_⟩;refine forR (λk E d=>∃(ts:AF) (hs:zu) (w v B:Option V),E=[some (.int c),some (.str "abcdefghijklmnopqrstuvwxyz"),↑l,w,v,B]/\bA H d/\d l=some (.lst cn)/\Al (λ(a:AI) (m:Str×Int)=>d a=some (.tup [.str m.1,.int m.2])) ts hs/\hs.length=k/\∀m∈hs,3<=m.2/\m.2<=9) ⟨[],[],none,none,none,rfl,R,s,.nil,rfl,λm hm=>by cases hm⟩ ?_ ?_
 ·rintro k E d hk ⟨ts,hs,w,v,B,rfl,p,j,al,hl,hb⟩;have O:k<5:=δ
  have C:=al.length;apply Zpr ε (Int.emod_nonneg _ ε) (Int.emod_lt_of_pos _ ε) λS=>?_;ext;have Y:=nu "loom" none (some (c / 7 % 5));have T:=nu "fernway" none (some (c / 11 % 8));have Z:("loom":Str).length=4:=rfl;have k2:("fernway":Str).length=7:=rfl;refine Zk4 ε ?_;apply Zbu (by rw[Zja];exact bD δ) ?_;apply Zk4 ε ?_;apply Zbu (by rw[Zu7,Zja];exact bD δ) ?_;generalize Zc6 "loom" none (some (c / 7 % 5))++⟨#[S]⟩++Zc6 "fernway" none (some (c / 11 % 8))=wd;exists .inl ⟨rfl,_,cA.of j⟩;ext;have M:=Int.emod_nonneg (c / 3+2 * ((0:Int)+k) * ((0:Int)+k)) (show(7:Int)≠0 by decide);have P:=Int.emod_lt_of_pos (c / 3+2 * ((0:Int)+k) * ((0:Int)+k)) (show(0:Int)<7 by decide);have X:=Int.emod_nonneg (c / 17) (show(2:Int)≠0 by decide);have y2:=Int.emod_lt_of_pos (c / 17) (show(0:Int)<2 by decide);have J:3<=3+(c / 3+2 * ((0:Int)+k) * ((0:Int)+k)) % 7 * (c / 17 % 2)/\3+(c / 3+2 * ((0:Int)+k) * ((0:Int)+k)) % 7 * (c / 17 % 2)<=9:=by
   generalize (c / 3+2 * ((0:Int)+k) * ((0:Int)+k)) % 7=u at M P ⊢;rcases(by omega:c / 17 % 2=0\/c / 17 % 2=1)with e | e<;>rw[e]<;>omega
  generalize 3+(c / 3+2 * ((0:Int)+k) * ((0:Int)+k)) % 7 * (c / 17 % 2)=g at J ⊢;refine⟨bD ζ,λt nt=>?_⟩;generalize D:upd d t _=H3;obtain⟨r,L⟩:=nwO nt D;have I:=r _ _ j;exists l,_,_,rfl,rfl,I,?_
  ·rw[aX];exact Nat.lt_of_le_of_lt (show _<=1000 by omega) ε
  rw[show ts.map V.ref++[V.ref t]=(ts++[t]).map V.ref from by rw[List.map_append];rfl];have F:∀b A,H3 b=some (.tup A)->upd H3 l (.lst ((ts++[t]).map V.ref)) b=some (.tup A):=λb A hb=>by
   rw[aB (kE hb I aS)];exact hb
  apply⟨ts++[t],hs++[(wd,g)],_,_,_,rfl,λb o hb=>by rw[aB (aF hb nl)];exact r _ _ (p _ _ hb),ao,?_,by rw[List.length_append,hl];rfl,λm hm=>?_⟩
  ·refine Zkr (by rw[List.length_append,List.length_append,C];rfl) λi x y f h=>?_
   by_cases N:i<ts.length
   ·rw[List.getElem?_append_left N]at f;rw[List.getElem?_append_left δ]at h;obtain⟨U,e3,z⟩:=al.get h;rw[f]at e3;cases e3;exact F _ _ (r _ _ z)
   ·have h1:=(cL f).1;rw[List.length_append,List.length_singleton]at h1;rw[List.getElem?_append_right δ]at f h;rw[show i - ts.length=0 by omega]at f;rw[show i - hs.length=0 by omega]at h;cases f;cases h;exact F _ _ L
  ·rcases List.mem_append.mp hm with hm | hm
   ·exact hb m hm
   ·rw[List.mem_singleton.mp hm];exact J
 ·rintro E d ⟨ts,hs,w,v,B,rfl,p,j,al,hl,hb⟩;apply q l hs d p nl ⟨ts,j,al⟩ ⟨δ,δ,hb⟩
theorem Zck{c h s:Int}(q:Zis c h s H Q):Fy K UT ξ [some (.int c),some (.int h),some (.int s),none,none] H:=by
 obtain⟨hn,e,hs,rfl,rfl,oh,q⟩:=q;unfold Fy;apply⟨by show 10<=sizeLine;decide,λp g=>?_⟩;generalize j:upd H p _=H1;obtain⟨f,i⟩:=nwO g j;apply⟨_,_,_,rfl,ε,ε,ε,λz l o=>?_⟩;obtain⟨a,hm,b,d⟩:∃a:Int,atI [V.int 1,.int 1,.int 1,.int 2,.int 2,.int 2,.int 2,.int 3,.int 0,.int 8] z=some (.int a)/\0<=a/\a<=8:=by
  rcases(by omega:z=0\/z=1\/z=2\/z=3\/z=4\/z=5\/z=6\/z=7\/z=8\/z=9)with rfl | rfl | rfl | rfl | rfl | rfl | rfl | rfl | rfl | rfl<;>exact⟨_,rfl,ε,ε⟩
 refine gQ (cA.of i) hm ?_;apply⟨_,_,_,rfl,ε,ε,ε,λy k m=>?_⟩;apply lR a8 a8
 ·apply⟨by show 5<=sizeLine;decide,λt nt=>?_⟩;exact q t (.dd (.make hn e a _)) _ (f.trans (aL nt _)) ao ⟨oh,b,d,Int.emod_nonneg _ ε⟩
 ·apply⟨by show 5<=sizeLine;decide,λt nt=>?_⟩;exact q t (.dd (.make hn e a _)) _ (f.trans (aL nt _)) ao ⟨oh,b,d,Int.emod_nonneg _ ε⟩
end
section
theorem Xy{m:Int}{hs:zu}(g:0<=m)(h:m<200)(q:Zr7 hs H Q){e d a:Option V}{c:TE}(f:∀b:VK,b (.int (1+m)) H->c [e,d,a] H b):bw (cP (aj bq (aj c aG))) ξ [e,d,a] H:=by
 apply f _ ?_;apply⟨by show 2<=sizeLine;decide,λt nt=>?_⟩;obtain⟨k,rfl⟩:=Int.eq_ofNat_of_zero_le g;exact q t (.sw dX) _ (aL nt _) (by rw[ao];show _=some (HO.tup [V.str "sweep",V.int ((k+1:Nat):Int)]);rw[show(1+(k:Int))=((k+1:Nat):Int) by omega]) ⟨δ,δ⟩
theorem WW{c m:Int}(q:Us c m H Q):Am UT ξ [some (.int c),some (.int m),none] H:=by
 obtain⟨f,d,hs,q⟩:=q;unfold Am;apply⟨_,_,_,rfl,ε,ε,ε,λz b g=>?_⟩;apply lR a8 a8
 ·exact Xy (m:=z / 2 % 4) (Int.emod_nonneg _ ε) δ q λa h=>by apply h
 ·refine yD ?_;have a0:=Int.emod_nonneg (z / 2) (show m≠0 by omega);have e:=Int.emod_lt_of_pos (z / 2) (show 0<m by omega);refine Zbs ?_;exact Xy (m:=z / 2 % m) a0 δ q λa h=>by apply h
theorem WY{c h s d:Int}{l:AI}(q:Ut c h s l d H Q):Ao K UT Ziy Zr3 ξ [some (.int c),some (.int h),some (.int s),↑l,some (.int d),none,none,none,none] H:=by
 obtain⟨hn,b,hs,rfl,rfl,oh,f,hb,q⟩:=q;have n1:=hb.n1;have n5:=hb.n5;unfold Ao;apply⟨_,_,_,rfl,ε,ε,ε,λz C F=>?_⟩;apply⟨_,_,rfl,δ,δ,λwd=>?_⟩;ext;obtain⟨A,o,r⟩:=id f;refine lR a8 a8
 ·apply eV (cA.of o) ?_;rw[aX,r.length];apply⟨_,_,_,rfl,ε,ε,δ,λg x E=>?_⟩;obtain⟨g,rfl⟩:=Int.eq_ofNat_of_zero_le x;have e:g<hs.length:=δ
  have i:hs[g]? =some hs[g]:=bG e;obtain⟨ts,t,k,w,j⟩:=f.at i;have m:=hb.sb _ (List.getElem_mem e);apply gQ (v:=.ref t) (cA.of k) (fW (by rw[bV,w];rfl)) ?_;exists t,_,1,_,rfl,rfl,dU.of j,rfl;apply⟨_,_,_,rfl,ε,ε,ε,λy B D=>?_⟩;apply⟨_,_,rfl,m.1,λu hu=>?_⟩;apply⟨by show 5<=sizeLine;decide,λp a=>?_⟩;exact q p (.dd (.give hn b g u)) _ (aL a _) ao ⟨oh,_,i,hu⟩
 ·apply lR a8 a8
  ·apply⟨by show 4<=sizeLine;decide,λp a=>?_⟩;exact q p (.dd (.name hn b wd)) _ (aL a _) ao oh
  apply lR a8 a8
  ·apply⟨by show 4<=sizeLine;decide,λp a=>?_⟩;exact q p (.dd (.seek hn b wd)) _ (aL a _) ao oh
  apply lR a8 a8
  ·apply⟨by show 3<=sizeLine;decide,λp a=>?_⟩;exact q p (.dd (.read hn b)) _ (aL a _) ao oh
  apply lR a8 a8
  ·apply⟨by show 4<=sizeLine;decide,λp a=>?_⟩;exact q p (.dd (.write hn b _)) _ (aL a _) ao oh
  apply⟨by show 4<=sizeLine;decide,λp a=>?_⟩;exact q p (.dd (.write hn b _)) _ (aL a _) ao oh
theorem Zg1{c d m:Int}{l:AI}(q:Ziq c l d m H Q):Lf K UT Zr6 Zg5 Ziy Zg4 ξ [some (.int c),↑l,some (.int d),some (.int m),none,none,none,none,none] H:=by
 obtain⟨hs,h,hb,x,C,q⟩:=q;have n1:=hb.n1;have n5:=hb.n5;obtain⟨F,J,D⟩:=id h;unfold Lf;apply eV (cA.of J) ?_;rw[aX,D.length];apply⟨_,_,_,rfl,ε,ε,δ,λg E M=>?_⟩;obtain⟨g,rfl⟩:=Int.eq_ofNat_of_zero_le E;have o:g<hs.length:=δ
 have j:hs[g]? =some hs[g]:=bG o;obtain⟨ts,t,r,w,k⟩:=h.at j;have s:=hb.sb _ (List.getElem_mem o);apply⟨_,_,_,rfl,ε,ε,ε,λy z A=>?_⟩;apply gQ (v:=.ref t) (cA.of r) (fW (by rw[bV,w];rfl)) ?_;exists t,_,1,_,rfl,rfl,dU.of k,rfl;apply⟨_,_,rfl,s.1,λu hu=>?_⟩;apply⟨_,_,_,rfl,ε,ε,ε,λy z A=>?_⟩;apply gQ (v:=.ref t) (cA.of r) (fW (by rw[bV,w];rfl)) ?_;exists t,_,1,_,rfl,rfl,dU.of k,rfl;apply⟨_,_,rfl,s.1,λi B=>?_⟩;apply⟨_,_,_,rfl,ε,ε,ε,λf I L=>?_⟩;obtain⟨f,rfl⟩:=Int.eq_ofNat_of_zero_le I;have b:okH hs g u:=⟨_,j,hu⟩;have e:okH hs g i:=⟨_,j,B⟩;apply lR a8 a8
 ·apply⟨_,_,_,rfl,g,u,hs,rfl,rfl,b,q⟩
 apply lR a8 a8
 ·apply⟨by show 5<=sizeLine;decide,λp a=>?_⟩;exact q p (.dd (.get g u i f)) _ (aL a _) ao ⟨b,e⟩
 apply lR a8 a8
 ·apply⟨by show 5<=sizeLine;decide,λp a=>?_⟩;exact q p (.dd (.put g u f i)) _ (aL a _) ao ⟨b,e⟩
 apply lR a8 a8
 ·apply⟨by show 3<=sizeLine;decide,λp a=>?_⟩;exact q p (.dd (.drop g u)) _ (aL a _) ao b
 apply lR a8 a8
 ·apply⟨by show 4<=sizeLine;decide,λp a=>?_⟩;exact q p (.dd (.copy g u i)) _ (aL a _) ao ⟨b,e⟩
 apply lR a8 a8
 ·apply⟨_,_,rfl,x,C,hs,q⟩
 apply⟨_,_,_,l,_,rfl,g,u,hs,rfl,rfl,b,h,hb,q⟩
theorem RwL.add{H:Hp}{l b:AI}{rs:List kO}{r:kO}{d:AF}(h1:H l=some (.lst (d.map V.ref)))(h2:d.length=rs.length)(j:∀(i:Nat) a,d[i]? =some a->∃r,rs[i]? =some r/\H a=some (.tup (rV r)))(hb:H b=some (.tup (rV r))):RwL (upd H l (.lst (d.map V.ref++[.ref b]))) l (rs++[r]):=by
 have nt:∀{c:AI}{h:List V},H c=some (.tup h)->c≠l:=λhc e=>by rw[e,h1]at hc;cases hc
 refine⟨d++[b],by rw[ao,List.map_append];rfl,by rw[List.length_append,List.length_append,h2];rfl,λi a ha=>?_⟩
 by_cases f:i<d.length
 ·rw[List.getElem?_append_left f]at ha;obtain⟨y,g,hy⟩:=j i a ha;exact⟨y,by rw[List.getElem?_append_left δ];exact g,by rw[aB (nt hy)];exact hy⟩
 ·have hl:=(cL ha).1;rw[List.length_append,List.length_singleton]at hl;obtain rfl:i=d.length:=δ
  rw[List.getElem?_append_right Γ,Nat.sub_self]at ha;cases ha;exact⟨r,by rw[h2,List.getElem?_append_right Γ,Nat.sub_self];rfl,by rw[aB (nt hb)];exact hb⟩
theorem Zci{a l:AI}{d m:Int}(q:Zcp K a l d m H Q):Fw K Zr4 ξ [↑a,↑l,some (.int d),some (.int m),none,none,none] H:=by
 obtain⟨ns,hs,I,hn,R,hb,O,P,q⟩:=q;unfold Fw;apply⟨ε,λp y=>?_⟩;generalize E:upd H p _=H1;obtain⟨J,z⟩:=nwO y E;have z:H1 p=some (.lst (([]:AF).map V.ref)):=z;exists a,rfl,⟨_,J.seq I⟩;refine Zq7 (ns.map V.int) (λi u j=>∃rs D A,u=[↑a,↑l,some (.int d),some (.int m),↑p,D,A]/\bA H j/\RwL j p rs/\rs.length=i/\∀r∈rs,okW hs r) ⟨[],none,none,rfl,J,⟨[],z,rfl,λi a h=>by cases h⟩,rfl,λr hr=>by cases hr⟩ (by rintro i u j _ ⟨_,_,_,_,s,_⟩;exact s.seq I) ?_ ?_
 ·rintro i x t u j hx ⟨rs,D,A,rfl,k,g,hl,hok⟩ nt;rw[bV]at hx;obtain⟨c,hc,rfl⟩:=Option.map_eq_some_iff.mp hx;have U:=(cL hc).1;obtain⟨T,C,F,S⟩:=g;generalize E:upd j t _=H2;obtain⟨w,L⟩:=nwO nt E;refine⟨t,_,rfl,dU.of L,rfl,?_⟩;refine⟨_,_,rfl,?_⟩;exists _,_,rfl;exists rfl;exists .inl ⟨rfl,_,cA.of (w _ _ C)⟩;apply⟨_,l,_,_,rfl,hs,R.same (k.trans w),hb,O,P,λb r W M B v=>?_⟩;have f:=w.trans M;apply⟨p,_,_,rfl,rfl,f _ _ C,by rw[aX,F,hl,sizeLine_eq];omega,?_⟩;apply⟨rs++[r],_,_,rfl,λb o hb=>by rw[aB (aF hb y)];exact f _ _ (k _ _ hb),RwL.add (f _ _ C) F (λi a ha=>let ⟨r,e,q⟩:=S i a ha;⟨r,e,f _ _ q⟩) B,by rw[List.length_append,hl];rfl,λN hr=>?_⟩;rcases List.mem_append.mp hr with hr | hr
  ·exact hok N hr
  ·rw[List.mem_singleton.mp hr];exact v
 ·rintro u j ⟨rs,D,A,rfl,k,g,hl,hok⟩;rw[aX]at hl;apply q p rs j k y g hl hok
theorem SX{C:AI}{w t:Int}{σ:St}{p:TE}(z:∀(a:Hp) (r:VK),r (.int t) a->p σ a r)(v:∀{a:Hp}{lk dl:AI},a lk=some (.ins C dl [])->(w=0/\a lk=some (.ins X.F dl []))\/(w=1/\a lk=some (.ins X.E dl []))\/(w=2/\a lk=some (.ins X.L dl [])))
  (q:∀ki lk H',bA H H'->H ki=none->H lk=none->KdO X H' ki lk w t->Q (.ref ki) H'):rR X.K (zj X.K) [] E0 (aj (G.Jp C) (aj p aG)) σ H Q:=by
 ext;intro lk dl e k s;have f:bA H (upd (upd H dl (.own lk)) lk (.ins C dl [])):=λb o hb=>by rw[aB (aF hb e),aB (aF hb k)];exact hb
 have j:upd (upd H dl (.own lk)) lk (.ins C dl []) lk=some (.ins C dl []):=ao;generalize upd (upd H dl (.own lk)) lk (.ins C dl [])=a at f j ⊢;left;refine z a _ ?_;left;intro ki d c h y;have g:bA a (upd (upd a d (.own ki)) ki (.ins X.K d [])):=λb o hb=>by rw[aB (aF hb c),aB (aF hb h)];exact hb
 have l:upd (upd a d (.own ki)) ki (.ins X.K d []) ki=some (.ins X.K d []):=ao;generalize upd (upd a d (.own ki)) ki (.ins X.K d [])=A at g l ⊢;refine⟨ki,lk,t,rfl,d,l,λn x m=>⟨rfl,?_⟩⟩;have u:bA H n:=λb o hb=>m b o (g _ _ (f _ _ hb)) (aF (f _ _ hb) c);have i:lk≠ki:=aF j c;exact q ki lk n u (f.free c) e ⟨⟨d,x⟩,⟨dl,v (m _ _ (g _ _ j) i)⟩⟩
theorem Zcl{c:Int}(q:∀ki lk w t H',0<=t->t<4->w=c % 3->t=c / 3 % 4->bA H H'->H ki=none->H lk=none->KdO X H' ki lk w t->Q (.ref ki) H'):Fz X.E X.F X.K X.L (zj X.K) ξ [some (.int c),none] H:=by
 have b:=Int.emod_nonneg (c / 3) (show(4:Int)≠0 by decide);have t1:=Int.emod_lt_of_pos (c / 3) (show(0:Int)<4 by decide);have w0:=Int.emod_nonneg c (show(3:Int)≠0 by decide);have g:=Int.emod_lt_of_pos c (show(0:Int)<3 by decide);unfold Fz;apply lR ci ci
 ·refine M5 ?_;exact SX (λd f h=>by apply h) (λe=>.inl ⟨rfl,e⟩) λki lk H' s n1 n2 a=>q ki lk 0 (c / 3 % 4) H' b t1 z.symm rfl s n1 n2 a
 ·refine Zbs ?_;refine yD ?_;left;refine lR (λy=>?_) (λy=>?_)
  ·refine M5 ?_;exact SX (λd f h=>by apply h) (λe=>.inr (.inl ⟨rfl,e⟩)) λki lk H' s n1 n2 a=>q ki lk 1 (c / 3 % 4) H' b t1 y.symm rfl s n1 n2 a
  ·refine Zbs ?_;refine M5 ?_;exact SX (λd f h=>by apply h) (λe=>.inr (.inr ⟨rfl,e⟩)) λki lk H' s n1 n2 a=>q ki lk 2 (c / 3 % 4) H' b t1 δ rfl s n1 n2 a
end
def ZF(b H:Hp)(T:Tg)(s:Nat)(a:AI)(x:Rz):Prop:=∃l,b l=none/\H a=some (.tup [.str x.1,x.2.1,.ref l])/\H l=some (.lst (x.2.2.map V.int))/\TgO s (T a)/\TgO s (T l)/\x.2.2.length<=100000
theorem ZF.mv{d H H':Hp}{T T':Tg}{s:Nat}{a:AI}{x:Rz}(c:s≠0)(h:ZF d H T s a x)(st:cY s H H' T T'):ZF d H' T' s a x:=by
 obtain⟨l,f,h1,h2,t1,t2,b⟩:=h;exact⟨l,f,st.kp _ _ h1 (t1.ne c),st.kp _ _ h2 (t2.ne c),by rw[st.tg _ _ h1];exact t1,by rw[st.tg _ _ h2];exact t2,b⟩
theorem ZF.put{b H:Hp}{T:Tg}{s:Nat}{a p:AI}{x:Rz}{xs:List V}{o c:HO}(h:ZF b H T s a x)(hp:b p=some c)(hl:H p=some (.lst xs)):ZF b (upd H p o) T s a x:=by
 obtain⟨l,f,h1,h2,t⟩:=h;exact⟨l,f,by rw[aB λz=>by rw[z,hl]at h1;cases h1];exact h1,by rw[aB λz=>by rw[z,hp]at f;cases f];exact h2,t⟩
theorem ZF.base{b c H:Hp}{T:Tg}{s:Nat}{a:AI}{x:Rz}(h:ZF b H T s a x)(sm:bA c b):ZF c H T s a x:=by
 obtain⟨l,f,r⟩:=h;exact⟨l,sm.free f,r⟩
inductive Zg8(H:Hp)(T:Tg)(M:Wm)(es:List Rz)(as:AF):Prop
 | mk (b w a wl) (_:es.getLast? =some (("lost":Str),V.int b,w)) (_:M.sw.loss=.ref a) (_:T a=(0,0)) (_:H a=some (.tup [.str "lost",.int b,.ref wl])) (_:T wl=(0,0)) (_:H wl=some (.lst (w.map V.int))) (_:∀c∈as,∀x y l,H c=some (.tup [x,y,.ref l])->wl≠l):Zg8 H T M es as
def Zzn(X:Cs)(M:Wm)(r:kO)(hs:zu)(k:Nat)(T:Tg)(s:Nat)(wo:AI)(H:Hp)(Q:VK):Prop:=
 ∀a b d H' T' e p,W3 M r a d->a≠[]->a.length<=1000->KW d hs dX->cY s H H' T T'->WJ X H' T' s e d->e.wo=wo->Al (ZF H H' T' s) b a->H' p=some (.lst eN)->H p=none->TgO s (T' p)->(gP a=true->Zg8 H' T' d a b)->(∀c∈b,∀x y l,H' c=some (.tup [x,y,.ref l])->p≠l)->Q (.ref p) H'
inductive DnQ(X:Cs)(wo dd:AI)(H:Hp)(Q:VK):Prop
 | mk (T s A M r hs k) (_:WT H T) (_:s≠0) (_:WJ X H T s A M) (_:A.wo=wo) (_:H dd=some (.tup (rV r))) (_:okW hs r) (_:KW M hs k) (_:ZD hs) (_:k<=800) (_:Nl M) (_:Zzn X M r hs k T s wo H Q):DnQ X wo dd H Q
theorem Zie(M:Wm)(d:kh):(Zh2 (jM M d)).2.2.length<=2:=by
 cases d<;>simp only[jM]<;>(repeat' split)<;>first | exact Nat.zero_le _ | exact Nat.le_trans lK ζ
theorem Zu2{F:KB.Fd}{R:KB.Rw}{q l:List cm}{k:Nat}(b:KB.Cq F R q k l):∀x∈l,x∈q:=by
 induction b with
 | start=>exact λx hx=>nomatch hx
 | old _ _ _ ih=>exact ih
 | new b hq hn a ih=>
  intro x hx;rcases List.mem_append.mp hx with z | z
  ·exact List.mem_append.mpr (.inl (ih x z))
  ·rw[List.mem_singleton.mp z];exact List.mem_append.mpr (.inl (List.mem_of_getElem? hq))
theorem Qo{X:Cs}{H:Hp}{T:Tg}{s:Nat}{A:Wa}{N k:Wm}{e:Ev}{lb:Int}{lw:AE}(ok:Zg3 N)(j:WJ X H T s A N)(r:eO lb lw N e k)(h:lw.length<=100000):e.notes.length<=100000:=by
 have m:N.hands.length<=30:=by rw[<- j.jd.lh];exact j.jd.l5
 have f:=Zq9 j ok;cases r with
 | begin ph=>
  have:=(pF (gH N.w N.hands.length) 100 N.hands 0 (pQ N) ok.hl).2.2.1;show(fu (gH N.w N.hands.length) N.hands 0 (pQ N)).1.length<=_;omega
 | walk x g c ph b hc=>
  have h1:=lK (l:=c.fl) (M:={ N with sw:={ N.sw with grey:=g,walks:=N.sw.walks+1 } });have h2:c.fl.length<=50:=by
   unfold cellAt at hc;split at hc
   ·cases z:N.cells[x.toNat]? with
    | none=>rw[z]at hc;cases hc
    | some y=>rw[z]at hc;have hc:y=some c:=hc;subst hc;exact ok.fl c (List.mem_of_getElem? z)
   ·cases hc
  exact Nat.le_trans h1 δ
 | look C ph b B u=>
  have:=(pF (bH N) 100 N.hands 0 N ok.hl).2.2.1;show(fu (bH N) N.hands 0 N).1.length<=_;omega
 | cut q n ph b o a d=>exact Nat.le_trans (Rq ok.cl).1 ε
 | lost q n i x c v ph b o a hx d hc p=>
  have h1:=a.bound;have h2:=f.t;have D:=Zgb a x (Zu2 a x (List.mem_of_getElem? hx));show x.2.length<=100000;omega
 | pass ph lt hp=>exact Nat.zero_le _
 | back c ph lt hc p=>show 1<=100000;decide
 | fin ph lt=>show 3<=100000;decide
 | again ph=>exact h
def Kg:Sp:=λvs H Q E=>∃z,vs=[.str z]/\∀a l H',bA H H'->H a=none->H l=none->H' a=some (.tup [.str "refused",.str z,.ref l])->H' l=some (.lst [])->Q (.ref a) H'
inductive DdQ(X:Cs)(wo dd:AI)(H:Hp)(Q:VK):Prop
 | mk (T s A M d hs k) (_:WT H T) (_:s≠0) (_:WJ X H T s A M) (_:A.wo=wo) (_:H dd=some (.tup (dV d))) (_:okR hs d) (_:KW M hs k) (_:k<=800) (_:∀H' T' A' a,cY s H H' T T'->WJ X H' T' s A' (stM M (jM M d))->A'.wo=wo->ZF H H' T' s a (Zh2 (jM M d))->Q (.ref a) H'):DdQ X wo dd H Q
def Zkt(X:Cs):Sp:=λvs H Q E=>∃wo dd,vs=[.ref wo,.ref dd]/\DdQ X wo dd H Q
theorem KW.turn{M:Wm}{hs:zu}{k:Nat}(p:KW M hs k){d:kh}(o:okR hs d):KW (stM M (jM M d)) hs dX:=by
 cases e:jM M d with
 | ok x=>exact p.deed (e:=x.1) o (by rw[e];rfl)
 | error r=>exact p.mono (Nat.le_succ _)
theorem KW.grl{M:Wm}{hs:zu}{k:Nat}(p:KW M hs k)(hk:k<=800)(z:M.sw.phase="walk"):M.sw.grey.length<=800:=by
 obtain⟨nd,gr⟩:=p.gr z;have:=Gz M.cells.length M.sw.grey nd λx hx=>by
  obtain⟨c,hc,_⟩:=gr x hx;exact uv hc
 have:=p.cl;omega
theorem Ztl{X:Cs}{rf:Rf->AI}{wo dd:AI}{T:Tg}{s:Nat}{A:Wa}{M:Wm}{d:kh}{hs:zu}{k:Nat}{H:Hp}{Q:VK}{E:XK}(w:WT H T)(g:s≠0)(j:WJ X H T s A M)(aw:A.wo=wo)(f:H dd=some (.tup (dV d)))(o:okR hs d)(kw:KW M hs k)(hk:k<=800)
  (h1:∀r,jM M d=.error r->∀H',bA H H'->E (.ref (rf r)) none H') (h2:∀e b,jM M d=.ok (e,b)->∀H' T' c a,cY s H H' T T'->WJ X H' T' s c b->c.wo=wo->EvN H H' T' s a e->Q (.ref a) H'):Zzl X rf [.ref wo,.ref dd] H Q E:=
 ⟨wo,dd,rfl,T,s,A,M,d,trivial,w,g,j,aw,f,kw.okD o,by have:=kw.cl;omega,λz=>Nat.le_trans (kw.grl hk z) ε,kw.tl,by have:=kw.nl;omega,h1,h2⟩
section
theorem Zh3{z:Str}(q:∀a l H',bA H H'->H a=none->H l=none->H' a=some (.tup [.str "refused",.str z,.ref l])->H' l=some (.lst [])->Q (.ref a) H'):QZ ξ [some (.str z)] H:=by
 unfold QZ;apply⟨ε,λl nl=>?_⟩;refine⟨bD ζ,λa b=>?_⟩;exact q a l _ ((aL nl _).trans (aL b _)) ((aL nl _).free b) nl ao ((aL b _) _ _ ao)
theorem Ve{wo dd CE u v x:AI}(h1:rf .empty=CE)(h2:rf .full=u)(K:rf .jL=v)(L:rf .CP=x)(q:DdQ X wo dd H Q):
  rE CE u v x (Zzl X rf) Kg ξ [↑wo,↑dd] H:=by
 obtain⟨T,s,A,M,d,hs,k,w,m,j,aw,D,o,kw,hk,q⟩:=q;subst h1 h2 K L;have p:∀r,jM M d=.error r->∀b,bA H b->∀a l c,bA b c->b a=none->b l=none->c a=some (.tup [.str "refused",.str (rfS r),.ref l])->c l=some (.lst [])->Q (.ref a) c:=λr h b f a l c B I fl ha hl=>by
  have g:=f.trans B;refine q c T A a (cY.same w g) (by rw[h];exact j.same g) aw ?_;rw[h];exact⟨l,f.free fl,ha,hl,(rB w m (f.free I)).2,(rB w m (f.free fl)).2,Nat.zero_le _⟩
 unfold rE;apply Ztl w m j aw D o kw hk (λr h b f=>?_) λe N i b y J a st E t ev=>?_
 ·have z:=p r h b f;cases r with
  | full=>
   refine .inr (.inr (.inl ⟨rfl,?_⟩));apply⟨_,rfl,z⟩
  | empty=>
   refine .inl ⟨rfl,?_⟩;apply⟨_,rfl,z⟩
  | jL=>
   refine .inr (.inl ⟨rfl,?_⟩);apply⟨_,rfl,z⟩
  | CP=>
   refine .inr (.inr (.inr ⟨rfl,?_⟩));apply⟨_,rfl,z⟩
 ·ext;obtain⟨l,⟨fl,t1,t2⟩,C,F⟩:=ev;exact q b y J a st (by rw[i];exact E) t (by rw[i];exact⟨l,fl,C,F,t2,t1,by have:=Zie M d;rw[i]at this;exact Nat.le_trans this ε⟩)
end
def EvH(H:Hp)(a:AI)(x:Rz):Prop:=∃l,H a=some (.tup [.str x.1,x.2.1,.ref l])/\H l=some (.lst (x.2.2.map V.int))
theorem ZF.h{b H:Hp}{T:Tg}{s:Nat}{a:AI}{x:Rz}(h:ZF b H T s a x):EvH H a x:=by
 obtain⟨l,_,h1,h2,_⟩:=h;exact⟨l,h1,h2⟩
inductive Zco(p:AI)(H:Hp)(Q:VK):Prop
 | mk (as es) (_:H p=some (.lst (as.map V.ref))) (_:Al (EvH H) as es) (_:Q (.bl (gP es)) H):Zco p H Q
def Qd:Sp:=λvs H Q E=>∃p,vs=[.ref p]/\Zco p H Q
inductive SwQ(X:Cs)(wo:AI)(m:Int)(H:Hp)(Q:VK):Prop
 | mk (T s A M hs k) (n:Nat) (_:m=n) (_:WT H T) (_:s≠0) (_:WJ X H T s A M) (_:A.wo=wo) (_:KW M hs k) (_:ZD hs) (_:k<=800) (_:Nl M) (_:n<=1000) (_:∀es as M' H' T' A' p,Zv M n es M'->es.length<=n->KW M' hs k->cY s H H' T T'->WJ X H' T' s A' M'->A'.wo=wo->Al (ZF H H' T' s) as es->H' p=some (.lst (as.map V.ref))->H p=none->TgO s (T' p)->(gP es=true->Zg8 H' T' M' es as)->(∀c∈as,∀x y l,H' c=some (.tup [x,y,.ref l])->p≠l)->Q (.ref p) H'):SwQ X wo m H Q
inductive Zuz(H:Hp)(T:Tg)(M:Wm)(b:Int)(w:AE)(c:AI):Prop
 | mk (a wl) (_:M.sw.loss=.ref a) (_:T a=(0,0)) (_:H a=some (.tup [.str "lost",.int b,.ref wl])) (_:T wl=(0,0)) (_:H wl=some (.lst (w.map V.int))) (_:∀x y l,H c=some (.tup [x,y,.ref l])->wl≠l):Zuz H T M b w c
inductive SwL(X:Cs)(wo:AI)(n:Nat)(H:Hp)(Q:VK):Prop
 | mk (T s A M b w hs k) (_:1<=n) (_:WT H T) (_:s≠0) (_:WJ X H T s A M) (_:A.wo=wo) (_:KW M hs k) (_:ZD hs) (_:k<=800) (_:M.sw.phase=("lost":Str)) (_:Zky H T M b w) (_:w.length<=100000) (_:∀H' T' A' p a,cY s H H' T T'->WJ X H' T' s A' M->A'.wo=wo->ZF H H' T' s a (("lost":Str),V.int b,w)->H' p=some (.lst [.ref a])->H p=none->Zuz H' T' M b w a->(∀x y l,H' a=some (.tup [x,y,.ref l])->p≠l)->Q (.ref p) H'):SwL X wo n H Q
def Zku(X:Cs):Sp:=λvs H Q E=>∃wo m,vs=[.ref wo,.int m]/\(SwQ X wo m H Q\/∃n:Nat,m=n/\SwL X wo n H Q)
structure SwI(X:Cs)(M:Wm)(hs:zu)(k n:Nat)(s:Nat)(wo p:AI)(H H1:Hp)(T:Tg)(Hx:Hp)(es:List Rz)(as:AF)(N:Wm)(Tx:Tg)(Ax:Wa):Prop where
 st:cY s H Hx T Tx
 j:WJ X Hx Tx s Ax N
 aw:Ax.wo=wo
 kw:KW N hs k
 hp:Hx p=some (.lst (as.map V.ref))
 tp:(Tx p).1=s+1
 ev:Al (ZF H1 Hx Tx s) as es
 le:es.length<=n
 al:∀b o,H1 b=some o->∃o',Hx b=some o'
 go:(gP es=false/\Nl N/\∀n' es' M',Zv N n' es' M'->Zv M (es.length+n') (es++es') M')\/(gP es=true/\Zv M n es N/\Zg8 Hx Tx N es as)
theorem SwI.turn{X:Cs}{M:Wm}{hs:zu}{k n s:Nat}{wo p:AI}{H q:Hp}{T:Tg}{A:Hp}{d:List Rz}{f:AF}{N:Wm}{Y:Tg}{Ax:Wa}(i:SwI X M hs k n s wo p H q T A d f N Y Ax)(W:s≠0)(Q:H p=none)(t:∃o,q p=some o)(ok:Zg3 N)(lt:d.length<n)(nl:gP d=false)
  {e:Ev}{w:Wm} (r:eO 0 [] N e w) {Hy:Hp}{Ty:Tg}{P:Wa}{a:AI} (st:cY s A Hy Y Ty) (jy:WJ X Hy Ty s P w) (aw:P.wo=wo) (ev:EvN A Hy Ty s a e) (lo:w.sw.phase="lost"->∃b,e.thing=some b/\Zkz A Hy Ty (N.sw.phase≠"lost") w b e.notes a):
  Hy p=some (.lst (f.map V.ref))/\SwI X M hs k n s wo p H q T (upd Hy p (.lst (f.map V.ref++[.ref a]))) (d++[evz e]) (f++[a]) w Ty P:=by
 have g:Hy p=some (.lst (f.map V.ref)):=st.kp _ _ i.hp (by rw[i.tp];omega);have m:(Ty p).1=s+1:=by rw[st.tg _ _ i.hp];exact i.tp
 have u:cY (s+1) Hy (upd Hy p (.lst (f.map V.ref++[.ref a]))) Ty Ty:=cY.upd st.wt g m;have D:∀b,A b=none->q b=none:=λb hb=>by
  cases z:q b with
  | none=>rfl
  | some o=>obtain⟨o',e⟩:=i.al b o z;rw[hb]at e;cases e
 obtain⟨o1,t⟩:=t;obtain⟨l,⟨fl,t1,t2⟩,v1,v2⟩:=ev;have er:ZF q Hy Ty s a (evz e):=⟨l,D _ fl,v1,v2,t2,t1,Qo ok i.j r (Nat.zero_le _)⟩;have K:Al (ZF q (upd Hy p (.lst (f.map V.ref++[.ref a]))) Ty s) (f++[a]) (d++[evz e]):=((i.ev.mono λa x h=>h.mv W st).app er).mono λa x h=>h.put t g;have F:cY s H (upd Hy p (.lst (f.map V.ref++[.ref a]))) T Ty:=by
  have z:=i.st.trans st;exact⟨λb o hb nb=>by rw[aB (aF hb Q)];exact z.kp b o hb nb,λb o hb=>by rw[aB (aF hb Q)];exact z.al b o hb,z.tg,u.wt⟩
 refine⟨g,F,jy.other u δ δ,aw,i.kw.step r,by rw[ao,List.map_append];rfl,m,K,by rw[List.length_append];show _+1<=_;omega,λb o hb=>?_,?_⟩
 ·obtain⟨o2,h2⟩:=i.al b o hb;obtain⟨o3,h3⟩:=st.al b o2 h2;exact u.al b o3 h3
 rcases i.go with ⟨_,S,co⟩ | ⟨z,_⟩
 ·rw[Sy];rcases S.step r with ⟨v,ph⟩ | ⟨v,nM⟩
  ·refine .inr ⟨decide_eq_true v,?_,?_⟩
   ·have:=co (n - d.length) [evz e] w (by rw[show n - d.length=(n - d.length - 1)+1 by omega];exact .lost r v);rw[show d.length+(n - d.length)=n by omega]at this;exact this
   ·obtain⟨b,eb,a0,R,e1,e2,e3,J,e5,e6,e7⟩:=lo ph;have U:=e7 S.1;have C:R≠p:=λz=>by rw[z]at J;rw[J]at m;simp at m
    have E:a0≠p:=λz=>by rw[z,g]at e3;cases e3
    refine⟨b,e.notes,a0,R,?_,e1,e2,by rw[aB E];exact e3,J,by rw[aB C];exact e5,λc hc x y Z hl=>?_⟩
    ·rw[List.getLast?_concat];show some (e.word,oV e.thing,e.notes)=_;rw[v,eb];rfl
    ·have I:c≠p:=λz=>by rw[z,ao]at hl;cases hl
     rw[aB I]at hl;rcases List.mem_append.mp hc with hc | hc
     ·obtain⟨x',_,l0,f0,g1,g2,k3,_⟩:=i.ev.mem hc;have gy:=st.kp _ _ g1 (k3.ne W);rw[gy]at hl;cases hl;intro z;rw[z,g2]at U;cases U
     ·rw[List.mem_singleton.mp hc]at hl;exact e6 x y Z hl
  ·refine .inl ⟨decide_eq_false v,nM,λB O L h=>?_⟩;have:=co (B+1) (evz e::O) L (.go r v h);rw[List.length_append,List.append_assoc];rw[show d.length+(B+1)=d.length + [evz e].length+B by show _=d.length+1+B;omega]at this;exact this
 ·rw[nl]at z;cases z
def rz(X:Cs):Sp:=λvs H Q E=>∃wo dd,vs=[.ref wo,.ref dd]/\(DnQ X wo dd H Q\/∃n:Nat,H dd=some (.tup (rV (.sw n)))/\SwL X wo n H Q)
section
theorem Vg{p:AI}(q:Zco p H Q):Ag K ξ [↑p] H:=by
 obtain⟨c,f,hp,al,h⟩:=q;have hl:=al.length;unfold Ag;apply eV (cA.of hp) ?_;rw[aX];ext;rcases List.eq_nil_or_concat f with rfl | ⟨d,x,rfl⟩
 ·have:c=[]:=List.length_eq_zero_iff.mp hl;subst this;rw[if_neg ε];exact h
 ·rw[List.concat_eq_append]at hl al h;rcases List.eq_nil_or_concat c with rfl | ⟨bs,a,rfl⟩
  ·rw[List.length_append]at hl;cases hl
  rw[List.concat_eq_append]at hl al hp ⊢;rw[List.length_append,List.length_append]at hl;have j:[x].length=1:=rfl;have k:[a].length=1:=rfl;obtain⟨m,b,l,e,g⟩:=al.get (i:=d.length) (y:=x) (by rw[List.getElem?_append_right Γ,Nat.sub_self];rfl);rw[show d.length=bs.length by omega,List.getElem?_append_right Γ,Nat.sub_self]at b;cases b;rw[List.length_append,if_pos (decide_eq_true (by show(0:Int)<((bs.length+1:Nat):Int);omega))];apply gQ (v:=.ref a) (cA.of hp) (by rw[List.map_append];exact Zr1 _ _) ?_;exists a,_,0,_,rfl,rfl,dU.of e,rfl;ext;rw[Sy]at h;exact h
theorem SwI.fin{M:Wm}{hs:zu}{k nn s:Nat}{wo p:AI}{j:Hp}{T:Tg}{e:Hp}{b:List Rz}{d:AF}{N:Wm}{m:Tg}{n:Wa}(i:SwI X M hs k nn s wo p H j T e b d N m n)(sm:bA H j)(f:∃o,j p=some o)(z:b.length=nn\/gP b=true):Zv M nn b N/\Al (ZF H e m s) d b/\(gP b=true->Zg8 e m N b d)/\∀c∈d,∀x y l,e c=some (.tup [x,y,.ref l])->p≠l:=by
 refine⟨?_,i.ev.mono λa x h=>h.base sm,λz=>?_,λc hc x y l h=>?_⟩
 ·rcases i.go with ⟨g,_,co⟩ | ⟨_,h,_⟩
  ·rcases z with z | z
   ·have:=co 0 [] N (.stop N);rw[List.append_nil,Nat.add_zero,z]at this;exact this
   ·rw[g]at z;cases z
  ·exact h
 ·rcases i.go with ⟨g,_⟩ | ⟨_,_,h⟩
  ·rw[g]at z;cases z
  ·exact h
 ·obtain⟨u,_,v,r,t,_⟩:=i.ev.mem hc;rw[t]at h;cases h;obtain⟨o,q⟩:=f;exact aF q r
theorem SwI.new{M:Wm}{hs:zu}{k nn s:Nat}{wo p:AI}{T:Tg}{A:Wa}(w:WT H T)(e:s≠0)(j:WJ X H T s A M)(aw:A.wo=wo)(kw:KW M hs k)(nl:Nl M)(a:H p=none):SwI X M hs k nn s wo p H (upd H p (.lst [])) T (upd H p (.lst [])) [] [] M (fL T p (s+1,0)) A:=
 ⟨cY.fresh w a,j.other (cY.fresh (s:=s+1) (v:=(s+1,0)) (o:=.lst []) w a) δ δ,aw,kw,ao,by rw[eF],.nil,Nat.zero_le _,λb o hb=>⟨o,hb⟩,.inl ⟨rfl,nl,λf c d h=>by rw[List.length_nil,Nat.zero_add];exact h⟩⟩
theorem Zl9{wo:AI}{m:Int}(q:SwQ X wo m H Q):Ff K (cC X Zdz) Qd ξ [↑wo,some (.int m),none] H:=by
 obtain⟨T,s,A,M,hs,k,nn,rfl,w,u,j,aw,kw,hb,hk,nl,W,q⟩:=q;unfold Ff;apply⟨ε,λp l=>?_⟩;have sm:=aL l (.lst []);have F:=SwI.new (nn:=nn) w u j aw kw nl l;have v:upd H p (.lst []) p=some (.lst (([]:AF).map V.ref)):=ao;generalize upd H p (.lst [])=C at sm v F ⊢;have fin:∀{f b c N g d},SwI X M hs k nn s wo p H C T f b c N g d->(b.length=nn\/gP b=true)->Q (.ref p) f:=λ{f b c N g d} i z=>by
  obtain⟨I,Z,S,O⟩:=i.fin sm ⟨_,v⟩ z;exact q b c N f g d p I i.le i.kw i.st i.j i.aw Z i.hp l (.inr i.tp) S O
 exists λB D f=>∃b c N g d,D=[↑wo,some (.int nn),↑p]/\B=nn - b.length/\SwI X M hs k nn s wo p H C T f b c N g d,⟨_,[],[],M,_,A,rfl,rfl,F⟩;rintro B D f ⟨b,c,N,g,d,rfl,rfl,i⟩;have hl:=i.ev.length;apply eV (cA.of i.hp) ?_;rw[aX];apply lR (λlt=>?_) (λge=>?_)
 ·exists p,rfl,c,b,i.hp,i.ev.mono λa x h=>h.h;refine⟨gP b,rfl,?_⟩;cases z:gP b with
  | true=>
   apply fin i (.inr z)
  | false=>
   exists _,λ_ _ h=>h;exists .inl ⟨rfl,_,cA.of i.hp⟩;ext;have R:Nl N:=by
    rcases i.go with ⟨_,h,_⟩ | ⟨E,_⟩
    ·exact h
    ·rw[z]at E;cases E
   refine⟨wo,rfl,g,s,d,N,0,[],i.st.wt,u,i.j,i.aw,i.kw.ok hb δ,trivial,λy=>absurd y R.1,λe J r Hy Ty P a t L Y ev lo=>?_⟩;obtain⟨o,U⟩:=i.turn u l ⟨_,v⟩ (i.kw.ok hb δ) δ z r t L Y ev lo;apply⟨p,_,_,rfl,rfl,o,by rw[aX,sizeLine_eq];omega,?_⟩;apply⟨nn - (b++[evz e]).length,by rw[List.length_append];show nn - (b.length+1)<_;omega,b++[evz e],c++[a],J,Ty,P,rfl,rfl,U⟩
 ·apply fin i (.inl (by have:=i.le;omega))
theorem Znh{wo:AI}{m:Int}(q:SwQ X wo m H Q\/∃n:Nat,m=n/\SwL X wo n H Q):Ff K (cC X Zdz) Qd ξ [↑wo,some (.int m),none] H:=by
 rcases q with q | ⟨nn,rfl,T,s,A,M,b,w,hs,k,n1,wt,s0,j,aw,kw,hb,hk,ph,lo,R,q⟩
 ·exact Zl9 q
 unfold Ff;apply⟨ε,λp g=>?_⟩;have sm:=aL g (.lst []);have t:upd H p (.lst []) p=some (.lst []):=ao;have f:cY s H (upd H p (.lst [])) T (fL T p (s+1,0)):=cY.fresh wt g;have N:=j.other (cY.fresh (s:=s+1) (v:=(s+1,0)) (o:=.lst []) wt g) δ δ;have lo1:Zky (upd H p (.lst [])) (fL T p (s+1,0)) M b w:=by
  obtain⟨a,R,Z,e2,e3,I,O⟩:=lo;exact⟨a,R,Z,by rw[gF (aF e3 g)];exact e2,sm _ _ e3,by rw[gF (aF O g)];exact I,sm _ _ O⟩
 have u:(fL T p (s+1,0) p).1=s+1:=by rw[eF]
 generalize upd H p (.lst [])=H1 at sm t f N lo1 ⊢;generalize fL T p (s+1,0)=T1 at f N lo1 u;exists λμ σ E=>σ=[↑wo,some (.int nn),↑p]/\((μ=1/\E=H1)\/(μ=0/\Q (.ref p) E/\∃a,E p=some (.lst [.ref a])/\EvH E a (("lost":Str),V.int b,w))),⟨1,rfl,.inl ⟨rfl,rfl⟩⟩;rintro μ σ E ⟨rfl,z⟩;rcases z with ⟨rfl,rfl⟩ | ⟨rfl,qq,a,hp,ev⟩
 ·apply eV (cA.of t) ?_;apply lR (λlt=>?_) (λge=>absurd (by show(0:Int)<nn;omega) ge);exists p,rfl,[],[],t,.nil;refine⟨false,rfl,?_⟩;exists _,λ_ _ h=>h;exists .inl ⟨rfl,_,cA.of t⟩;apply⟨wo,rfl,T1,s,A,M,b,w,f.wt,s0,N,aw,kw.ok hb δ,trivial,λ_=>lo1,λe M' r Hy Ty Ay a d jy WQ ev lo=>?_⟩;have ok:=kw.ok hb (show k<=900 by omega);have sn:=Qo ok N r R;cases r with
  | again=>
   have c:Hy p=some (.lst []):=d.kp _ _ t (by rw[u];omega);have B:(Ty p).1=s+1:=by rw[d.tg _ _ t];exact u
   have J:cY (s+1) Hy (upd Hy p (.lst ([]++[.ref a]))) Ty Ty:=cY.upd d.wt c B;obtain⟨l,⟨fl,t1,t2⟩,U,v2⟩:=ev;have C:l≠p:=λz=>by rw[z,t]at fl;cases fl
   have D:a≠p:=λz=>by rw[z,c]at U;cases U
   have i:upd Hy p (.lst ([]++[.ref a])) a=some (.tup [.str "lost",.int b,.ref l]):=by rw[aB D];exact U
   have L:upd Hy p (.lst ([]++[.ref a])) l=some (.lst (w.map V.int)):=by rw[aB C];exact v2
   have S:cY s H (upd Hy p (.lst ([]++[.ref a]))) T Ty:=by
    have z:=f.trans d;exact⟨λb o hb nb=>by rw[aB (aF hb g)];exact z.kp b o hb nb,λb o hb=>by rw[aB (aF hb g)];exact z.al b o hb,z.tg,J.wt⟩
   obtain⟨b',Y,a0,F,Z,e2,e3,I,O,e6,_⟩:=lo ph;have Y:some b=some b':=Y;cases Y;have P:F≠p:=λz=>by rw[z]at I;rw[I]at B;simp at B
   have W:a0≠p:=λz=>by rw[z,c]at e3;cases e3
   apply⟨p,_,_,rfl,rfl,c,by show 0<sizeLine;decide,?_⟩;apply⟨0,ε,rfl,.inr ⟨rfl,q _ Ty Ay p a S (jy.other J δ δ) WQ ⟨l,sm.free fl,i,L,t2,t1,sn⟩ ao g ⟨a0,F,Z,e2,by rw[aB W];exact e3,I,by rw[aB P];exact O,λx y l' h=>?_⟩ (λx y l' h=>?_),a,ao,l,i,L⟩⟩
   ·rw[aB D]at h;exact e6 x y l' h
   ·rw[i]at h;cases h;exact C.symm
  | begin z=>exact absurd ap ε
  | walk _ _ _ z=>exact absurd ap ε
  | look _ z=>exact absurd ap ε
  | cut _ _ z=>exact absurd ap ε
  | lost _ _ _ _ _ _ z=>exact absurd ap ε
  | pass z=>exact absurd ap ε
  | back _ z=>exact absurd ap ε
  | fin z=>exact absurd ap ε
 ·apply eV (cA.of hp) ?_;apply lR (λlt=>?_) (λge=>?_)
  ·exists p,rfl,[a],[_],hp,.cons ev .nil;refine⟨true,rfl,?_⟩;apply qq
  ·apply qq
theorem Zn9{wo dd:AI}(q:DnQ X wo dd H Q\/∃n:Nat,H dd=some (.tup (rV (.sw n)))/\SwL X wo n H Q):QV K (Zku X) (Zkt X) ξ [↑wo,↑dd] H:=by
 rcases q.symm with ⟨m,b,q⟩ | q
 ·unfold QV;exists dd,_,0,_,rfl,rfl,dU.of b,rfl;apply lR a8 (λz=>absurd rfl z);exists dd,_,1,_,rfl,rfl,dU.of b,rfl;apply⟨wo,_,rfl,.inr ⟨m,rfl,q⟩⟩
 obtain⟨T,s,A,M,r,hs,k,w,B,j,aw,b,o,kw,hb,hk,nl,q⟩:=q;unfold QV;cases r with
 | sw m=>
  have o1:1<=m:=o.1;have o2:m<=200:=o.2;exists dd,_,0,_,rfl,rfl,dU.of b,rfl;apply lR a8 (λz=>absurd rfl z);exists dd,_,1,_,rfl,rfl,dU.of b,rfl;apply⟨wo,_,rfl,.inl ⟨T,s,A,M,hs,k,m,rfl,w,B,j,aw,kw,hb,hk,nl,δ,λO E F u i D p sw le C st v e ev hp J tp lo L=>?_⟩⟩;exact q O E F u i D p sw (((sw.det nl sw).2.2.2.2) δ) δ (C.mono (Nat.le_succ _)) st v e ev hp J tp lo L
 | dd d=>
  have wd:∃w,¬ w=("sweep":Str)/\(dV d)[0]? =some (.str w):=by cases d<;>exact⟨_,ε,rfl⟩
  obtain⟨R,N,P⟩:=wd;exists dd,_,0,_,rfl,rfl,dU.of b,je ε P;apply lR (λz=>absurd z N) a8;apply⟨wo,dd,rfl,T,s,A,M,d,hs,k,w,B,j,aw,b,o,kw,hk,λu i D a st v e ev=>?_⟩;apply⟨by show 1<=_;decide,λp hp=>?_⟩;have g:=aL hp (.lst [.ref a]);have I:ZF H (upd u p (.lst [.ref a])) i s a (Zh2 (jM M d)):=by
   obtain⟨l,f,h1,h2,t⟩:=ev;exact⟨l,f,g _ _ h1,g _ _ h2,t⟩
  exact q [Zh2 (jM M d)] [a] _ _ i D p ⟨rfl,rfl⟩ ζ (by show 1<=1000;decide) (kw.turn o) (st.trans (cY.same st.wt g)) (v.same g) e (.cons I .nil) ao (cY.free st hp) (rB st.wt B hp).2 (λz=>absurd (of_decide_eq_true z) (Zdl M d)) λc hc x y l h=>by
   obtain⟨S,_,h1,h2,_⟩:=ev;rw[List.mem_singleton.mp hc,g _ _ h1]at h;cases h;exact(aF h2 hp).symm
end
structure TxS(K:aD)(X:Cs)(bh:AI):Prop where
 w:j6 K X
 gR:Pq K bh
 Zp4:cJ K bh "room"
 R5:cJ K bh "kind"
 PJ:cJ K bh "hands"
 Zhh:cJ K bh "rows"
inductive vg(C:AI)(p:AI)(m:Int)(kd:AI)(hl:AI)(rl:AI)(H:Hp)(Q:VK):Prop
 | mk (dx xs ys) (_:H p=some (.ins C dx [])) (_:H hl=some (.lst xs)) (_:H rl=some (.lst ys)) (_:∀H' h2 r2,H' p=some (.ins C dx (nH m kd h2 r2))->H' h2=some (.lst xs)->H' r2=some (.lst ys)->(∀b o,H b=some o->b≠p->H' b=some o)->H h2=none->H r2=none->h2≠r2->Q .non H'):vg C p m kd hl rl H Q
def vp(C:AI):Sp:=λvs H Q E=>∃p m a hl b,vs=[.ref p,.int m,.ref a,.ref hl,.ref b]/\vg C p m a hl b H Q
inductive Kc(CS:AI)(X:Cs)(sc:AI)(H:Hp)(Q:VK):Prop
 | mk (T s dx m kd hl rl lk w t hs) (_:H sc=some (.ins CS dx (nH m kd hl rl))) (_:KdO X H kd lk w t) (_:HsO H hl hs) (_:ZD hs) (_:WT H T) (_:s≠0) (_:T kd=(0,0)) (_:T lk=(0,0)) (_:∀H' T' A,bA H H'->(∀b o,H b=some o->T' b=T b)->WT H' T'->WJ X H' T' s A (O1 m hs w t)->Q (.ref A.wo) H'):Kc CS X sc H Q
def zO(b:AI)(X:Cs):Sp:=λvs H Q E=>∃a,vs=[.ref a]/\Kc b X a H Q
theorem Nl.new{m:Int}{hs:zu}{w t:Int}:Nl (O1 m hs w t):=⟨by show ¬("rest":Str)="lost";decide,rfl⟩
section
variable {K:aD}{X:Cs}{bh:AI}{H:Hp}{Q:VK}{E:XK}{n:ν}{bk ct:ν}
theorem Jg{p w hl r:AI}{m:Int}(T:TxS K X bh)(q:vg bh p m w hl r H Q):
  qg K ⟨λ_ H'=>Q .non H',Q,bk,ct⟩ [↑p,some (.int m),↑w,↑hl,↑r] H:=by
 obtain⟨s,x,y,hp,v,hr,h⟩:=q;have t:hl≠p:=λe=>by rw[e,hp]at v;cases v
 have g:r≠p:=λe=>by rw[e,hp]at hr;cases hr
 unfold qg;exists p,bh,s,[],rfl,hp,T.gR,T.Zp4,ε;apply⟨p,bh,s,_,rfl,ao,T.gR,T.R5,by show 1<1000;decide,?_⟩;rw[dg];apply PL (cA.of (by rw[aB t];exact v)) λh2 c=>?_;have n:p≠h2:=λe=>by rw[<- e,ao]at c;cases c
 apply⟨p,bh,s,_,rfl,by rw[aB n];exact ao,T.gR,T.PJ,by show 2<1000;decide,?_⟩;ext;have d:h2≠p:=Ne.symm n;have u:r≠h2:=λe=>by rw[<- e,aB g,hr]at c;cases c
 refine PL (cA.of (by rw[aB g,aB u,aB g];exact hr)) λl a=>?_;have k:p≠l:=λe=>by rw[<- e,ao]at a;cases a
 have i:l≠p:=Ne.symm k;have f:h2≠l:=λe=>by rw[<- e,aB d,ao]at a;cases a
 apply⟨p,bh,s,_,rfl,by rw[aB k];exact ao,T.gR,T.Zhh,by show 3<1000;decide,?_⟩;refine h _ h2 l ?_ ?_ ?_ (λb o hb j=>?_) (by rw[aB d]at c;exact c) (by rw[aB i,aB (Ne.symm f),aB i]at a;exact a) f
 ·rw[ao,Zlh]
 ·rw[aB d,aB f,aB d,ao]
 ·rw[aB i,ao]
 ·have n1:b≠h2:=λe=>by rw[<- e,aB j,hb]at c;cases c
  have n2:b≠l:=λe=>by rw[<- e,aB j,aB n1,aB j,hb]at a;cases a
  rw[aB j,aB n2,aB j,aB n1,aB j];exact hb
theorem Zd3{p:AI}(TT:TxS K X bh)(q:Kc bh X p H Q):
  K8 K X.W (Jj X) ξ [↑p] H:=by
 obtain⟨T,s,O,m,J,hl,M,lk,w,t,hs,o,kk,k,hb,wt,E,tk,tl,h⟩:=q;obtain⟨v,C,l⟩:=id k;obtain⟨⟨d1,g⟩,⟨d2,ol⟩⟩:=id kk;unfold K8;apply aH o TT.gR TT.Zp4 Qz ?_;apply aH o TT.gR TT.R5 kj ?_;apply aH o TT.gR TT.PJ nG ?_;ext;intro x f nx j ne;have c:bA H (upd (upd H f (.own x)) x (.ins X.W f [])):=λb o hb=>by rw[aB (aF hb nx),aB (aF hb j)];exact hb
 have d:lk≠x:=by
  rcases ol with ⟨_,e⟩ | ⟨_,e⟩ | ⟨_,e⟩<;>exact aF e nx
 have n5:=hb.n5;refine⟨x,m,J,hl,rfl,f,T,s,lk,w,t,v,hs,ao,wt.same c,E,kk.same c,tk,tl,aF g nx,d,c _ _ C,Zkr l.length λi a y u r=>?_,δ,λB I A F t2 L aw D=>⟨rfl,?_⟩⟩
 ·obtain⟨N,e3,z⟩:=l.get r;rw[u]at e3;cases e3;have:=hb.sb y (List.mem_of_getElem? r);exact⟨c _ _ z,δ,δ⟩
 ·have:=h B I A (λb o hb=>F b o (c b o hb) (aF hb nx)) (λb o hb=>t2 b o (c b o hb) (aF hb nx)) L D;rw[aw]at this;exact this
end
def gC(M:Wm)(i:Int):Bool:=match cellAt M i with
 | none=>false
 | some c=>decide (c.tone≠M.sw.sense)
def ntP(M:Wm):Au->AE->AE
 | [],acc=>acc
 | none::l,acc=>ntP M l acc
 | some i::l,acc=>if gC M i=true/\i∉acc then ntP M l (acc++[i])else ntP M l acc
def eY(M:Wm):AE->Wm
 | acc=>acc.foldl (λN i=>(bK N (some i)).2) M
def Qc(M:Wm)(i:Int):Int:=((cellAt M i).map (·.birth)).getD 0
section
variable {M:Wm}
theorem RZ(acc:AE)(i:Int):eY M (acc++[i])=(bK (eY M acc) (some i)).2:=by
 unfold eY;rw[List.foldl_append];rfl
structure NL(M N:Wm)(acc:AE):Prop where
 sw:N.sw={ M.sw with grey:=M.sw.grey++acc }
 at_:∀i,cellAt N i=if i∈acc then(cellAt M i).map (λc=>{ c with tone:=M.sw.sense })else cellAt M i
 nt:NtR M N
theorem Ze8(ph:M.sw.phase="walk"):∀(n:Nat) (acc:AE),acc.length=n->acc.Nodup->(∀i∈acc,gC M i=true)->NL M (eY M acc) acc:=by
 intro n
 induction n with
 | zero=>
  intro acc hl _ _;rw[List.eq_nil_of_length_eq_zero hl];exact⟨by rw[List.append_nil];rfl,λi=>by rw[if_neg ζ];rfl,NtR.refl M⟩
 | succ n ih=>
  intro acc hl nd hp;obtain⟨a0,i,rfl⟩:∃a0 i,acc=a0++[i]:=⟨acc.dropLast,acc.getLast (by intro z;rw[z]at hl;cases hl),(List.dropLast_concat_getLast _).symm⟩;rw[List.length_append,List.length_singleton]at hl;rw[List.nodup_append]at nd;obtain⟨g,_,f⟩:=nd;have k:i∉a0:=λz=>f i z i ζ rfl;obtain⟨l,p,n1⟩:=ih a0 δ g λx hx=>hp x (by simp[hx]);have a:=hp i ζ;unfold gC at a;cases hc:cellAt M i with
  | none=>rw[hc]at a;cases a
  | some c=>
   rw[hc]at a;have q:c.tone≠M.sw.sense:=decide_eq_true_iff.mp a;have d:cellAt (eY M a0) i=some c:=by rw[p i,if_neg k];exact hc
   have m:(eY M a0).sw.phase="walk":=by rw[l];exact ph
   have b:(eY M a0).sw.sense=M.sw.sense:=by rw[l]
   have o:bK (eY M a0) (some i)=(some c.birth,{ setCell (eY M a0) i { c with tone:=(eY M a0).sw.sense }with sw:={ (eY M a0).sw with grey:=(eY M a0).sw.grey++[i] } }):=by
    unfold bK;dsimp only;rw[d];dsimp only;rw[if_pos ⟨m,by rw[b];exact q⟩]
   rw[RZ];have j:=n1.trans (Ze7 (eY M a0) (some i));refine⟨?_,λx=>?_,j⟩
   ·rw[o];show { (eY M a0).sw with grey:=(eY M a0).sw.grey++[i] }=_;rw[l];simp only[List.append_assoc]
   ·rw[o];show cellAt (setCell (eY M a0) i { c with tone:=(eY M a0).sw.sense }) x=_;rw[jt d,b]
    by_cases e:x=i
    ·subst e;rw[if_pos rfl,if_pos ζ,hc];rfl
    ·rw[if_neg e,p x]
     by_cases h:x∈a0
     ·rw[if_pos h,if_pos (by simp[h])]
     ·rw[if_neg h,if_neg (by simp[h,e])]
theorem Zap:∀(l:Au) (acc:AE),acc.Nodup->(∀i∈acc,gC M i=true)->(ntP M l acc).Nodup/\∀i∈ntP M l acc,gC M i=true
 | [],acc,h1,h2=>⟨h1,h2⟩
 | none::l,acc,h1,h2=>Zap l acc h1 h2
 | some i::l,acc,h1,h2=>by
  unfold ntP;split
  ·rename_i z
   refine Zap l (acc++[i]) ?_ λx hx=>?_
   ·rw[List.nodup_append];exact⟨h1,ζ,λa ha b hb e=>z.2 (by rw[List.mem_singleton.mp hb]at e;rw[<- e];exact ha)⟩
   ·rcases List.mem_append.mp hx with hx | hx
    ·exact h2 x hx
    ·rw[List.mem_singleton.mp hx];exact z.1
  ·exact Zap l acc h1 h2
theorem zJ(ph:M.sw.phase="walk"):∀(l:Au) (acc:AE),acc.Nodup->(∀i∈acc,gC M i=true)->(aP (eY M acc) l).2=eY M (ntP M l acc)/\acc.map (Qc M)++(aP (eY M acc) l).1=(ntP M l acc).map (Qc M)
 | [],acc,_,_=>⟨rfl,by rw[show(aP (eY M acc) []).1=[]from rfl,List.append_nil];rfl⟩
 | none::l,acc,h1,h2=>by
  have e:aP (eY M acc) (none::l)=aP (eY M acc) l:=by
   show(VR none++(aP (eY M acc) l).1,(aP (eY M acc) l).2)=_;rfl
  rw[e];exact zJ ph l acc h1 h2
 | some i::l,acc,h1,h2=>by
  have nl:=Ze8 ph acc.length acc rfl h1 h2;have n:(eY M acc).sw.phase="walk":=by rw[nl.sw];exact ph
  have d:(eY M acc).sw.sense=M.sw.sense:=by rw[nl.sw]
  have q:aP (eY M acc) (some i::l)=(VR (bK (eY M acc) (some i)).1++(aP (bK (eY M acc) (some i)).2 l).1,(aP (bK (eY M acc) (some i)).2 l).2):=rfl;rw[q];unfold ntP
  by_cases z:gC M i=true/\i∉acc
  ·rw[if_pos z];obtain⟨f,p⟩:=z;have o:=f;unfold gC at f;cases hc:cellAt M i with
   | none=>rw[hc]at f;cases f
   | some c=>
    rw[hc]at f;have s:c.tone≠M.sw.sense:=decide_eq_true_iff.mp f;have k:cellAt (eY M acc) i=some c:=by rw[nl.at_ i,if_neg p];exact hc
    have h:(bK (eY M acc) (some i)).1=some c.birth:=by
     unfold bK;dsimp only;rw[k];dsimp only;rw[if_pos ⟨n,by rw[d];exact s⟩]
    have r:(bK (eY M acc) (some i)).2=eY M (acc++[i]):=(RZ acc i).symm;rw[h,r];have nd:(acc++[i]).Nodup:=by
     rw[List.nodup_append];exact⟨h1,ζ,λa ha b hb e=>p (by rw[List.mem_singleton.mp hb]at e;rw[<- e];exact ha)⟩
    obtain⟨m,g⟩:=zJ ph l (acc++[i]) nd λx hx=>by
     rcases List.mem_append.mp hx with hx | hx
     ·exact h2 x hx
     ·rw[List.mem_singleton.mp hx];exact o
    refine⟨m,?_⟩;rw[<- g,List.map_append];have t:Qc M i=c.birth:=by unfold Qc;rw[hc];rfl
    simp[VR,t]
  ·rw[if_neg z];have h:bK (eY M acc) (some i)=(none,eY M acc):=by
    unfold bK;dsimp only;rw[nl.at_ i]
    by_cases j:i∈acc
    ·rw[if_pos j];cases hc:cellAt M i with
     | none=>rfl
     | some c=>
      show(if _ then _ else _)=_;rw[if_neg (λy=>y.2 (by rw[d]))]
    ·rw[if_neg j];cases hc:cellAt M i with
     | none=>rfl
     | some c=>
      have:¬ gC M i=true:=λy=>z ⟨y,j⟩;unfold gC at this;rw[hc]at this;show(if _ then _ else _)=_;rw[if_neg (λy=>this (decide_eq_true (by rw[<- d];exact y.2)))]
   rw[h];obtain⟨m,g⟩:=zJ ph l acc h1 h2;exact⟨m,by simpa[VR]using g⟩
def nhL(a:Int):List (Str×Au)->Nat->Au
 | [],_=>[]
 | m::l,k=>if a / 2 ^ k % 2=1 then m.2++nhL a l dX else nhL a l dX
theorem RW:∀(a b:Au) (M:Wm),aP M (a++b)=((aP M a).1++(aP (aP M a).2 b).1,(aP (aP M a).2 b).2)
 | [],b,M=>rfl
 | x::a,b,M=>by
  show(VR (bK M x).1++(aP (bK M x).2 (a++b)).1,(aP (bK M x).2 (a++b)).2)=((VR (bK M x).1++(aP (bK M x).2 a).1)++(aP (aP (bK M x).2 a).2 b).1,(aP (aP (bK M x).2 a).2 b).2);rw[RW a b,List.append_assoc]
theorem GD(a:Int):∀(l:List (Str×Au)) (k:Nat) (M:Wm),fu a l k M=aP M (nhL a l k)
 | [],_,_=>rfl
 | m::l,k,M=>by
  unfold fu nhL;split
  ·rw[RW,GD a l dX]
  ·exact GD a l dX M
end
section
variable {M N:Wm}{acc:AE}
theorem Zn{x y:Int}(hx:0<=x)(hy:0<=y):Builtin.bitOr x y=((x.toNat ||| y.toNat:Nat):Int):=by
 have e:∀z:Int,Builtin.bitNot (Builtin.bitNot z)=z:=λz=>by unfold Builtin.bitNot;omega
 have n1:decide (0<=Builtin.bitNot x)=false:=decide_eq_false (by unfold Builtin.bitNot;omega);have n2:decide (0<=Builtin.bitNot y)=false:=decide_eq_false (by unfold Builtin.bitNot;omega);unfold Builtin.bitOr Builtin.bitAnd;rw[n1,n2];show Builtin.bitNot (Builtin.bitNot _)=_;rw[e,e,e]
theorem Qa(a h:Nat):(((a:Nat):Int) / 2 ^ h % 2=1)↔a.testBit h=true:=by
 rw[Nat.testBit_eq_decide_div_mod_eq,decide_eq_true_iff];have:((a:Nat):Int) / 2 ^ h % 2=((a / 2 ^ h % 2:Nat):Int):=ζ
 rw[this];omega
theorem Zqz{x y:Int}(hx:0<=x)(hy:0<=y)(h:Nat):(Builtin.bitOr x y / 2 ^ h % 2=1)↔(x / 2 ^ h % 2=1\/y / 2 ^ h % 2=1):=by
 rw[Zn hx hy,Qa,Nat.testBit_or,Bool.or_eq_true,<- Qa,<- Qa,Int.toNat_of_nonneg hx,Int.toNat_of_nonneg hy]
theorem Zs4(k h:Nat):((2:Int) ^ k / 2 ^ h % 2=1)↔k=h:=by
 have e:((2:Int) ^ k)=((2 ^ k:Nat):Int):=ζ
 rw[e,Qa,Nat.testBit_two_pow];exact decide_eq_true_iff
theorem Zdv{i:Int}{c:Ce}(h:cellAt M i=some c):gC M i=true↔c.tone≠M.sw.sense:=by
 unfold gC;rw[h];exact decide_eq_true_iff
def unl(lo:Int)(h:Nat):Nat:=(List.range h).countP λj=>decide (lo / 2 ^ j % 2≠1)
theorem countP_le(p q:Nat->Bool)(a:∀j,p j=true->q j=true)(n:Nat):(List.range n).countP p<=(List.range n).countP q:=List.countP_mono_left λj _ h=>a j h
theorem J8(p q:Nat->Bool)(a:∀j,p j=true->q j=true):∀(n b:Nat),b<n->q b=true->p b=false->(List.range n).countP p<(List.range n).countP q
 | 0,_,h,_,_=>absurd h (Nat.not_lt_zero _)
 | n+1,b,h,hq,hp=>by
  rw[List.range_succ,List.countP_append,List.countP_append,List.countP_singleton,List.countP_singleton]
  by_cases e:b=n
  ·subst e;rw[hp,hq];have:=countP_le p q a b;simp;omega
  ·have ih:=J8 p q a n b δ hq hp;have:(if p n=true then 1 else 0)<=(if q n=true then 1 else 0):=by
    by_cases z:p n=true
    ·rw[if_pos z,if_pos (a n z)];exact Nat.le_refl _
    ·rw[if_neg z];exact Nat.zero_le _
   omega
theorem Zv3(lo:Int)(h:Nat):unl lo h<=h:=by
 unfold unl;have:=List.countP_le_length (p:=λj=>decide (lo / 2 ^ j % 2≠1)) (l:=List.range h);rw[List.length_range]at this;exact this
theorem Zb0(x:Int):∀(n i:Nat),(lsE x i n=0/\∀k,i<=k->k<i+n->x / 2 ^ k % 2≠0)\/∃k,i<=k/\k<i+n/\lsE x i n=2 ^ k/\x / 2 ^ k % 2=0
 | 0,i=>.inl ⟨rfl,λk h1 h2=>δ⟩
 | n+1,i=>by
  unfold lsE
  by_cases z:x / 2 ^ i % 2=0
  ·rw[if_pos z];exact .inr ⟨i,Nat.le_refl _,δ,rfl,z⟩
  ·rw[if_neg z];rcases Zb0 x n b9 with ⟨h1,h2⟩ | ⟨k,h1,h2,d,c⟩
   ·refine .inl ⟨h1,λk a b=>?_⟩
    by_cases e:k=i
    ·rw[e];exact z
    ·exact h2 k δ δ
   ·exact .inr ⟨k,δ,δ,d,c⟩
theorem NL.cell(n:NL M N acc){i:Int}{d:Ce}(h:cellAt N i=some d):∃c,cellAt M i=some c/\d=if i∈acc then { c with tone:=M.sw.sense }else c:=by
 rw[n.at_ i]at h;split at h
 ·rename_i z
  obtain⟨c,hc,e⟩:=Option.map_eq_some_iff.mp h;exact⟨c,hc,by rw[if_pos z];exact e.symm⟩
 ·rename_i z
  exact⟨d,h,by rw[if_neg z]⟩
theorem NL.pale(n:NL M N acc){i:Int}(hp:gC N i=true):gC M i=true/\i∉acc:=by
 cases hd:cellAt N i with
 | none=>unfold gC at hp;rw[hd]at hp;cases hp
 | some d=>
  have h1:=(Zdv hd).mp hp;obtain⟨c,hc,e⟩:=n.cell hd;have a:N.sw.sense=M.sw.sense:=by rw[n.sw]
  rw[a]at h1
  by_cases z:i∈acc
  ·rw[if_pos z]at e;rw[e]at h1;exact absurd rfl h1
  ·rw[if_neg z]at e;rw[e]at h1;exact⟨(Zdv hc).mpr h1,z⟩
theorem Zmy{x y:Int}(hx:0<=x)(hy:0<=y):0<=Builtin.bitOr x y:=by rw[Zn hx hy];omega
theorem SJ(M:Wm):0<=bH M:=by
 unfold bH yl;split
 ·exact Int.le_refl _
 ·split
  ·rcases Zb0 M.sw.looked M.hands.length 0 with ⟨h,_⟩ | ⟨k,_,_,h,_⟩
   ·rw[h];exact Int.le_refl _
   ·rw[h];exact Int.le_of_lt (Int.pow_pos ε)
  ·have:(0:Int)<2 ^ M.hands.length:=Int.pow_pos ε;omega
end
def JB(M:Wm):Nat:=(List.range M.cells.length).countP λj:Nat=>gC M (j:Int)
def lkN(M:Wm):Nat:=if M.w=1 then unl M.sw.looked M.hands.length else 0
def rm(M:Wm):Nat:=if M.sw.phase=("walk":Str)then 2 * JB M+M.sw.grey.length+lkN M+M.cells.length+2 else if M.sw.phase=("give":Str)then(M.sw.stop - M.sw.at').toNat+1 else 0
structure Lw(M:Wm):Prop where
 lz:0<=M.sw.looked
 ww:M.w=0\/M.w=1\/M.w=2
 sp:M.sw.stop<=(M.cells.length:Int)
theorem Zkn(n:Nat):∀(acc:AE) (p:Nat->Bool),acc.Nodup->(∀x∈acc,∃j:Nat,j<n/\x=(j:Int)/\p j=true)->(List.range n).countP (λj=>p j && !(decide ((j:Int)∈acc)))+acc.length<=(List.range n).countP p
 | [],p,_,_=>by
  have e:(λj:Nat=>p j && !(decide ((j:Int)∈([]:AE))))=p:=by funext j;simp
  rw[e];exact Nat.le_refl _
 | x::acc,p,nd,h=>by
  obtain⟨a,g,rfl,f⟩:=h x ζ;obtain⟨nx,b⟩:=List.nodup_cons.mp nd;have lt:=J8 (λj=>p j && !(decide (j=a))) p (λj c=>by simp at c;exact c.1) n a g f ζ;have ih:=Zkn n acc (λj=>p j && !(decide (j=a))) b λy hy=>by
   obtain⟨j,l,e,d⟩:=h y (by simp[hy]);refine⟨j,l,e,?_⟩;have:j≠a:=λz=>nx (by rw[<- z,<- e];exact hy);simp[d,this]
  have e:(λj:Nat=>p j && !(decide ((j:Int)∈(a:Int)::acc)))=λj=>(p j && !(decide (j=a))) && !(decide ((j:Int)∈acc)):=by
   funext j
   by_cases z:j=a
   ·simp[z]
   ·have:(j:Int)≠(a:Int):=δ
    simp[z,this]
  rw[e,List.length_cons];omega
section
variable {M N:Wm}{lb:Int}{lw:AE}{e:Ev}{acc:AE}
theorem NL.cnt(n:NL M N acc)(nd:acc.Nodup)(hp:∀i∈acc,gC M i=true):JB N+acc.length<=JB M/\N.cells.length=M.cells.length:=by
 have cl:N.cells.length=M.cells.length:=by have:=congrArg List.length n.nt.ce;rw[aX,aX]at this;exact this
 refine⟨?_,cl⟩;have h:=Zkn M.cells.length acc (λj:Nat=>gC M (j:Int)) nd λx hx=>by
  have a:=hp x hx;unfold gC at a;cases hc:cellAt M x with
  | none=>rw[hc]at a;cases a
  | some c=>
   have lt:=uv hc;exact⟨x.toNat,δ,δ,by rw[Int.toNat_of_nonneg lt.1];exact hp x hx⟩
 unfold JB;rw[cl];refine Nat.le_trans (Nat.add_le_add_right ?_ _) h;refine List.countP_mono_left λj _ b=>?_;obtain⟨h1,h2⟩:=n.pale b;show(gC M (j:Int) && !(decide ((j:Int)∈acc)))=true;rw[h1];simp[h2]
theorem nts(ph:M.sw.phase=("walk":Str))(l:Au):∃acc,NL M (aP M l).2 acc/\acc.Nodup/\(∀i∈acc,gC M i=true)/\(aP M l).1.length=acc.length:=by
 obtain⟨h1,h2⟩:=zJ ph l [] ζ ζ;have h1:(aP M l).2=_:=h1;have h2:(aP M l).1=_:=h2;obtain⟨o1,o2⟩:=Zap (M:=M) l [] ζ ζ;refine⟨ntP M l [],?_,o1,o2,?_⟩
 ·have:=Ze8 ph _ (ntP M l []) rfl o1 o2;rw[<- h1]at this;exact this
 ·rw[h2,aX]
theorem NL.rm(n:NL M N acc)(nd:acc.Nodup)(hp:∀i∈acc,gC M i=true):2 * JB N+N.sw.grey.length+acc.length<=2 * JB M+M.sw.grey.length/\N.cells.length=M.cells.length/\N.w=M.w/\N.hands=M.hands/\N.sw.phase=M.sw.phase/\N.sw.looked=M.sw.looked:=by
 obtain⟨h1,h2⟩:=n.cnt nd hp;refine⟨?_,h2,n.nt.ww,n.nt.hd,by rw[n.sw],by rw[n.sw]⟩;rw[n.sw];show _+(M.sw.grey++acc).length+_<=_;rw[List.length_append];omega
theorem Zjh(l:Lw M)(a0:0<=M.sw.at')(I:M.sw.phase≠("rest":Str))(nl:M.sw.phase≠("lost":Str))(h:eO lb lw M e N):rm N<rm M:=by
 cases h with
 | begin ph=>exact absurd ph I
 | again ph=>exact absurd ph nl
 | walk x g c ph p hc=>
  obtain⟨acc,n,nd,hp,_⟩:=nts (M:={ M with sw:={ M.sw with grey:=g,walks:=M.sw.walks+1 } }) ph c.fl;obtain⟨k,d,o,f,s,m⟩:=n.rm nd hp;unfold rm;rw[if_pos (s.trans ph),if_pos ph];unfold lkN;rw[d,o,f,m,p];have k:_<=2 * JB M+g.length:=k;show _+(if M.w=1 then unl M.sw.looked M.hands.length else 0)+M.cells.length+2<2 * JB M+(x::g).length+(if M.w=1 then unl M.sw.looked M.hands.length else 0)+M.cells.length+2;rw[List.length_cons];omega
 | look J ph p E B=>
  subst B;rw[GD];obtain⟨acc,n,nd,hp,hl⟩:=nts (M:=M) ph el;obtain⟨k,d,o,f,s,m⟩:=n.rm nd hp;have a:bH M=0\/(M.w=2/\(aP M el).1=[])->False:=λz=>E (by unfold uX;rw[GD];exact z);generalize aP M el=P at n k d o f s m hl a ⊢;obtain⟨ns,N⟩:=P;unfold rm;rw[if_pos ph,if_pos (show N.sw.phase=("walk":Str)from s.trans ph)];unfold lkN;show 2 * JB N+N.sw.grey.length+(if N.w=1 then unl (if M.w=2 then N.sw.looked else Builtin.bitOr N.sw.looked bc) N.hands.length else 0)+N.cells.length+2<_;have d:N.cells.length=M.cells.length:=d;have o:N.w=M.w:=o;have f:N.hands=M.hands:=f;have m:N.sw.looked=M.sw.looked:=m;have k:2 * JB N+N.sw.grey.length+acc.length<=2 * JB M+M.sw.grey.length:=k;rw[d,o,f,m];rcases l.ww with w | w | w
  ·exact absurd (.inl (by unfold bH yl;rw[w];rfl)) a
  ·rw[if_pos w,if_pos w,if_neg δ];have u:bH M=lsE M.sw.looked 0 M.hands.length:=by unfold bH yl;rw[w];rfl
   rcases Zb0 M.sw.looked M.hands.length 0 with ⟨h,_⟩ | ⟨b,_,hb,h,A⟩
   ·exact absurd (.inl (u.trans h)) a
   ·have lt:unl (Builtin.bitOr M.sw.looked bc) M.hands.length<unl M.sw.looked M.hands.length:=by
     unfold unl;refine J8 _ _ (λj r=>?_) _ b δ ?_ ?_
     ·have r:=of_decide_eq_true r;rw[ne_eq,Zqz l.lz (SJ M)]at r;exact decide_eq_true λy=>r (.inl y)
     ·exact decide_eq_true δ
     ·refine decide_eq_false λy=>y ?_;rw[Zqz l.lz (SJ M),u,h];exact .inr ((Zs4 b b).mpr rfl)
    omega
  ·rw[if_neg δ,if_neg δ];have:acc.length≠0:=λz=>a (.inr ⟨w,List.eq_nil_of_length_eq_zero (by show ns.length=0;exact hl.trans z)⟩);omega
 | cut q C ph p D H t=>
  unfold rm;rw[if_pos ph,if_neg (show ¬ ("give":Str)="walk" by decide),if_pos (show("give":Str)="give" from rfl)];show((M.cells.length:Int) - 0).toNat+1<_;omega
 | lost q C i x c v ph p D H hx t hc F=>
  unfold rm;rw[if_pos ph,if_neg (show ¬ ("lost":Str)="walk" by decide),if_neg (show ¬ ("lost":Str)="give" by decide)];omega
 | pass ph lt hp=>
  unfold rm;rw[if_neg (show ¬ M.sw.phase=("walk":Str) by rw[ph];decide),if_neg (show ¬ M.sw.phase=("walk":Str) by rw[ph];decide),if_pos ph,if_pos (show M.sw.phase=("give":Str)from ph)];show(M.sw.stop - (M.sw.at'+1)).toNat+1<(M.sw.stop - M.sw.at').toNat+1;omega
 | back c ph lt hc F=>
  unfold rm;rw[if_neg (show ¬ M.sw.phase=("walk":Str) by rw[ph];decide),if_neg (show ¬ M.sw.phase=("walk":Str) by rw[ph];decide),if_pos ph,if_pos (show M.sw.phase=("give":Str)from ph)];show(M.sw.stop - (M.sw.at'+1)).toNat+1<(M.sw.stop - M.sw.at').toNat+1;omega
 | fin ph lt=>
  unfold rm;rw[if_neg (show ¬ ("rest":Str)="walk" by decide),if_neg (show ¬ ("rest":Str)="give" by decide),if_neg (show ¬ M.sw.phase=("walk":Str) by rw[ph];decide),if_pos ph];omega
theorem Lw.step(l:Lw M)(h:eO lb lw M e N):Lw N:=by
 cases h with
 | begin ph=>
  rw[GD];obtain⟨acc,n,nd,hp,_⟩:=nts (M:=pQ M) rfl (nhL (gH M.w M.hands.length) M.hands 0);obtain⟨_,a,d,_,_,b⟩:=n.rm nd hp;refine⟨?_,by rw[d];exact l.ww,by rw[a,n.sw];exact l.sp⟩;rw[b];show 0<=gH M.w M.hands.length;unfold gH;split
  ·have:(0:Int)<2 ^ M.hands.length:=Int.pow_pos ε;omega
  ·exact Int.le_refl _
 | walk x g c ph f hc=>
  obtain⟨acc,n,nd,hp,_⟩:=nts (M:={ M with sw:={ M.sw with grey:=g,walks:=M.sw.walks+1 } }) ph c.fl;obtain⟨_,a,d,_,_,b⟩:=n.rm nd hp;exact⟨by rw[b];exact l.lz,by rw[d];exact l.ww,by rw[a,n.sw];exact l.sp⟩
 | look s ph f t k=>
  subst k;rw[GD];obtain⟨acc,n,nd,hp,hl⟩:=nts (M:=M) ph el;obtain⟨_,a,d,_,_,b⟩:=n.rm nd hp;refine⟨?_,by show(aP M el).2.w=0\/_;rw[d];exact l.ww,by show(aP M el).2.sw.stop<=((aP M el).2.cells.length:Int);rw[a,n.sw];exact l.sp⟩;show 0<=if M.w=2 then(aP M el).2.sw.looked else Builtin.bitOr (aP M el).2.sw.looked bc
  rw[b];split
  ·exact l.lz
  ·exact Zmy l.lz (SJ M)
 | cut q m ph f o r j=>exact⟨l.lz,l.ww,Int.le_refl _⟩
 | lost q m i x c v ph f o r hx j hc p=>exact⟨l.lz,l.ww,Int.le_refl _⟩
 | pass ph lt hp=>exact⟨l.lz,l.ww,l.sp⟩
 | back c ph lt hc p=>exact⟨l.lz,l.ww,by show M.sw.stop<=((M.cells.set _ _).length:Int);rw[List.length_set];exact l.sp⟩
 | fin ph lt=>exact⟨l.lz,l.ww,l.sp⟩
 | again ph=>exact l
end
inductive wV:Wm->Nat->Wm->Prop
 | done {M:Wm}:M.sw.phase=("rest":Str)\/M.sw.phase=("lost":Str)->wV M 0 M
 | go {M M1 M':Wm}{n:Nat}{lb:Int}{lw:AE}{e:Ev}:M.sw.phase≠("rest":Str)->M.sw.phase≠("lost":Str)->eO lb lw M e M1->wV M1 n M'->wV M (n+1) M'
def Nq(M:Wm):Prop:=Nl M\/M.sw.phase=("lost":Str)
theorem Nq.step{M N:Wm}{lb:Int}{lw:AE}{e:Ev}(n:Nl M)(h:eO lb lw M e N):Nq N:=by
 rcases n.step h with ⟨_,z⟩ | ⟨_,z⟩
 ·exact .inr z
 ·exact .inl z
theorem wV.end_{M a:Wm}{n:Nat}(h:wV M n a):a.sw.phase=("rest":Str)\/a.sw.phase=("lost":Str):=by
 induction h with
 | done z=>exact z
 | go _ _ _ _ ih=>exact ih
theorem wV.det{M c:Wm}{n:Nat}(h:wV M n c):Nq M->∀{n2 M2},wV M n2 M2->n=n2/\(c.sw.phase=("lost":Str)↔M2.sw.phase=("lost":Str))/\(c.sw.phase≠("lost":Str)->c=M2):=by
 induction h with
 | done z=>
  intro _ n2 M2 h2;cases h2 with
  | done _=>exact⟨rfl,Iff.rfl,λ_=>rfl⟩
  | go a b _ _=>rcases z with z | z;exact absurd z a;exact absurd z b
 | @go M M1 c n q lw e a b s t ih=>
  intro nq n2 M2 h2;have nl:Nl M:=nq.resolve_right b;cases h2 with
  | done z=>rcases z with z | z;exact absurd z a;exact absurd z b
  | @go _ j _ n3 k m r _ _ g t2=>
   obtain⟨l,em⟩:=rZ nl s g;rcases nl.step s with ⟨d,f⟩ | ⟨d,n1⟩
   ·have i:j.sw.phase=("lost":Str):=by
     rcases nl.step g with ⟨_,p⟩ | ⟨w,_⟩
     ·exact p
     ·exact absurd (l ▸ d) w
    cases t with
    | go _ z _ _=>exact absurd f z
    | done _=>
     cases t2 with
     | go _ z _ _=>exact absurd i z
     | done _=>exact⟨rfl,⟨λ_=>i,λ_=>f⟩,λz=>absurd f z⟩
   ·have:=em d;subst this;obtain⟨h1,h2,o⟩:=ih (.inl n1) t2;exact⟨by rw[h1],h2,o⟩
inductive TrQ(X:Cs)(wo:AI)(H:Hp)(Q:VK):Prop
 | mk (T s A M hs k) (_:WT H T) (_:s≠0) (_:WJ X H T s A M) (_:A.wo=wo) (_:KW M hs k) (_:ZD hs) (_:k<=900) (_:Lw M) (_:Nq M) (_:∀n M' H' T' A',wV M n M'->KW M' hs k->Lw M'->Nq M'->cY s H H' T T'->WJ X H' T' s A' M'->A'.wo=wo->Q (.int (n:Nat)) H'):TrQ X wo H Q
def Ux(X:Cs):Sp:=λvs H Q E=>∃wo,vs=[.ref wo]/\TrQ X wo H Q
section
variable {K:aD}{X:Cs}{bh:AI}{H:Hp}{Q:VK}{E:XK}{n:ν}{bk ct:ν}
theorem Zgi{wo:AI}(x:j6 K X)(q:TrQ X wo H Q):QW K (cC X Zdz) ξ [↑wo,none] H:=by
 obtain⟨T,s,A,M,hs,k,wt,S,j,rfl,kw,hb,hk,lw,nq,q⟩:=q;unfold QW;apply⟨λU Y p=>∃Ty o N,∃i:Nat,U=rm N/\Y=[↑A.wo,some (.int i)]/\WT p Ty/\cY s H p T Ty/\WJ X p Ty s o N/\o.wo=A.wo/\KW N hs k/\Lw N/\Nq N/\∀n c,wV N n c->wV M (i+n) c,⟨_,T,A,M,0,rfl,rfl,wt,cY.refl wt,j,rfl,kw,lw,nq,λn c h=>by rw[Nat.zero_add];exact h⟩,?_⟩;rintro U Y p ⟨Ty,o,N,i,rfl,rfl,B,E,I,aw,v,C,nx,co⟩;obtain⟨d1,ow⟩:=I.jb.ow;obtain⟨d2,os⟩:=I.js.os;rw[aw]at ow;apply aH ow x.cW x.JN aV ?_;apply aH os x.cS x.n2 cR ?_;apply⟨bD ζ,λtp L=>?_⟩;have O:=aL L (.tup [V.str "rest",.str "lost"]);have d:=E.trans (cY.same B O);have w:=I.same O;have t:upd p tp (.tup [V.str "rest",.str "lost"]) tp=some (.tup [V.str "rest",.str "lost"]):=ao;generalize upd p tp (.tup [V.str "rest",.str "lost"])=W at O d w t ⊢;have u:(N.sw.phase=("rest":Str)\/N.sw.phase=("lost":Str))->Q (.int i) W:=λz=>q i N W Ty o (by have:=co 0 N (.done z);rw[Nat.add_zero]at this;exact this) v C nx d w aw;have on:N.sw.phase≠("rest":Str)->N.sw.phase≠("lost":Str)->∀e c,eO 0 [] N e c->KW c hs k/\Lw c/\Nq c/\rm c<rm N/\∀n g,wV c n g->wV M (i+1+n) g:=λa b e c r=>⟨v.step r,C.step r,Nq.step (nx.resolve_right b) r,Zjh C v.a0 a b r,λn g h=>by have:=co (n+1) g (.go a b r h);rw[show i+1+n=i+(n+1) by omega];exact this⟩;have ok:=v.ok hb hk;rcases v.ph with ph | ph | ph | ph
 ·rw[ph];refine⟨tp,_,rfl,.inr (dU.of t),rfl,rfl,?_⟩;refine⟨false,rfl,?_⟩;apply u (.inl ph)
 ·have a:N.sw.phase≠("rest":Str):=by rw[ph];decide
  have b:N.sw.phase≠("lost":Str):=by rw[ph];decide
  rw[ph];refine⟨tp,_,rfl,.inr (dU.of t),rfl,rfl,?_⟩;refine⟨true,rfl,?_⟩;exists _,λ_ _ h=>h;apply⟨A.wo,rfl,Ty,s,o,N,0,[],d.wt,S,w,aw,ok,trivial,λy=>absurd y b,λe c r Hy m l Z f D P ev lo=>?_⟩;obtain⟨o1,o2,F,J,R⟩:=on a b e c r;apply⟨rm c,J,m,l,c,i+1,rfl,rfl,f.wt,d.trans f,D,P,o1,o2,F,R⟩
 ·have a:N.sw.phase≠("rest":Str):=by rw[ph];decide
  have b:N.sw.phase≠("lost":Str):=by rw[ph];decide
  rw[ph];refine⟨tp,_,rfl,.inr (dU.of t),rfl,rfl,?_⟩;refine⟨true,rfl,?_⟩;exists _,λ_ _ h=>h;apply⟨A.wo,rfl,Ty,s,o,N,0,[],d.wt,S,w,aw,ok,trivial,λy=>absurd y b,λe c r Hy m l Z f D P ev lo=>?_⟩;obtain⟨o1,o2,F,J,R⟩:=on a b e c r;apply⟨rm c,J,m,l,c,i+1,rfl,rfl,f.wt,d.trans f,D,P,o1,o2,F,R⟩
 ·rw[ph];refine⟨tp,_,rfl,.inr (dU.of t),rfl,rfl,?_⟩;refine⟨false,rfl,?_⟩;apply u (.inr ph)
end
section
variable {M N:Wm}
theorem Uk{x u b:Int}{c d:Ce}(h:cellAt { M with used:=u,born:=b,cells:=jG M.cells c } x=some d):(x=gZ M.cells/\d=c)\/cellAt M x=some d:=by
 obtain⟨h0,h1⟩:=cB.mp h;have h1:(jG M.cells c)[x.toNat]? =some (some d):=h1
 by_cases z:x.toNat=gZ M.cells
 ·rw[z,Py]at h1;cases h1;exact .inl ⟨δ,rfl⟩
 ·refine .inr (cB.mpr ⟨h0,?_⟩);unfold jG at h1;split at h1
  ·rw[List.getElem?_set_ne (λe=>z e.symm)]at h1;exact h1
  ·rename_i y
   rw[List.getElem?_append]at h1;split at h1
   ·exact h1
   ·rename_i g
    have a:=(cL h1).1;have f:=Zc1 M.cells;have:x.toNat - M.cells.length<1:=a;omega
theorem Zlu{l:List cx}{k:Str}{v:Int×Int}{x:Str×(Int×Int)}(h:x∈nU l k v):x∈l\/x.2=v:=by
 unfold nU at h;split at h
 ·obtain⟨m,hm,e⟩:=List.mem_map.mp h;split at e
  ·rw[<- e];exact .inr rfl
  ·rw[<- e];exact .inl hm
 ·rcases List.mem_append.mp h with h | h
  ·exact .inl h
  ·rw[List.mem_singleton.mp h];exact .inr rfl
theorem Zcb{c:Ce}(hc:cellAt M M.sw.at'=some c){u:Int}{w:Sw}{i:Int}{d:Ce}(hd:cellAt { M with used:=u,cells:=M.cells.set M.sw.at'.toNat none,sw:=w } i=some d):i≠M.sw.at'/\cellAt M i=some d:=by
 obtain⟨h0,h1⟩:=cB.mp hd;have h1:(M.cells.set M.sw.at'.toNat none)[i.toNat]? =some (some d):=h1;obtain⟨b,a⟩:=cB.mp hc
 by_cases z:M.sw.at'.toNat=i.toNat
 ·rw[z,List.getElem?_set_self (by rw[<- z];exact(cL a).1)]at h1;cases h1
 ·rw[List.getElem?_set_ne z]at h1;exact⟨λe=>z (by rw[e]),cB.mpr ⟨h0,h1⟩⟩
theorem Zts{c:Ce}(hc:cellAt M M.sw.at'=some c){u:Int}{w:Sw}{i:Int}(a:i≠M.sw.at'):cellAt { M with used:=u,cells:=M.cells.set M.sw.at'.toNat none,sw:=w } i=cellAt M i:=by
 obtain⟨b,d⟩:=cB.mp hc;unfold cellAt
 by_cases h0:0<=i
 ·have:M.sw.at'.toNat≠i.toNat:=λe=>a δ;simp[h0,List.getElem?_set_ne this]
 ·simp[h0]
theorem Zjr{F:KB.Fd}{w:AE}{ps:Au}{q:Int}(n:Nat)(h:some q∈ps)(a:(KB.M7 F q).isSome=true):∃v,(q,v)∈KB.onw F w n ps:=by
 obtain⟨k,hk,e⟩:=List.getElem_of_mem h;refine⟨w++[((n+k:Nat):Int)],List.mem_filterMap.mpr ⟨(some q,n+k),?_,?_⟩⟩
 ·refine List.mem_zipIdx_iff_le_and_getElem?_sub.mpr ⟨ζ,?_⟩;show ps[n+k - n]? =_;rw[Nat.add_sub_cancel_left,bG hk,e]
 ·unfold KB.Zaf;dsimp only;rw[if_pos a]
theorem Zik{F:KB.Fd}{R:KB.Rw}{q l:List cm}{k:Nat}(b:KB.Cq F R q k l):
  (∀i x,i<k->q[i]? =some x->x.1∈l.map (·.1))/\(∀c∈R,∀y,some y∈c->(KB.M7 F y).isSome=true->∃v,(y,v)∈q)/\(∀x∈l,∀fl,KB.M7 F x.1=some fl->∀y,some y∈fl->(KB.M7 F y).isSome=true->∃v,(y,v)∈q):=by
 induction b with
 | start=>
  refine⟨λi x h=>absurd h (Nat.not_lt_zero _),λc hr y hy g=>?_,λx hx=>(nomatch hx)⟩;obtain⟨n,hn,e⟩:=List.getElem_of_mem hr;obtain⟨v,hv⟩:=Zjr (F:=F) (w:=[((n:Nat):Int)]) 0 hy g;exact⟨v,List.mem_flatMap.mpr ⟨(c,n),List.mem_zipIdx_iff_getElem?.mpr (by rw[bG hn,e]),hv⟩⟩
 | @old q k l p w b hq hp ih=>
  refine⟨λi x m hx=>?_,ih.2.1,ih.2.2⟩
  by_cases e:i=k
  ·rw[e,hq]at hx;cases hx;exact hp
  ·exact ih.1 i x δ hx
 | @new q k l p w fl b hq hp g ih=>
  have hk:k<q.length:=(cL hq).1;have j:∀{y:Int},(∃v,(y,v)∈q)->∃v,(y,v)∈q++KB.onw F w 0 fl:=λ⟨v,h⟩=>⟨v,List.mem_append.mpr (.inl h)⟩;refine⟨λi x m hx=>?_,λc hr y hy g=>j (ih.2.1 c hr y hy g),λx hx f a y hy d=>?_⟩
  ·rw[List.getElem?_append_left δ]at hx;rw[List.map_append]
   by_cases e:i=k
   ·rw[e,hq]at hx;cases hx;exact List.mem_append.mpr (.inr (List.mem_singleton.mpr rfl))
   ·exact List.mem_append.mpr (.inl (ih.1 i x δ hx))
  ·rcases List.mem_append.mp hx with hx | hx
   ·exact j (ih.2.2 x hx f a y hy d)
   ·rw[List.mem_singleton.mp hx]at a;have a:KB.M7 F p=some f:=a;rw[g]at a;cases a;obtain⟨v,hv⟩:=Zjr (F:=F) (w:=w) 0 hy d;exact⟨v,List.mem_append.mpr (.inr hv)⟩
inductive Rc(M:Wm):Int->Prop
 | hand {m:Str×Au}{j:Int}{c:Ce}:m∈M.hands->some j∈m.2->cellAt M j=some c->Rc M j
 | name {x:Str×(Int×Int)}{c:Ce}:x∈M.names->cellAt M x.2.1=some c->c.birth=x.2.2->c.tone=M.sw.sense->Rc M x.2.1
 | via {i j:Int}{c d:Ce}:Rc M i->cellAt M i=some c->some j∈c.fl->cellAt M j=some d->Rc M j
theorem Rg.cut{q f:List cm}(ph:M.sw.phase="walk")(b:KB.Cq (fdOf M) (g8 M) q q.length f)(l:∀x∈f,∀c,cellAt M x.1=some c->c.tone=M.sw.sense){i:Int}{c:Ce}(r:Rc M i)(hc:cellAt M i=some c):c.tone=M.sw.sense:=by
 obtain⟨s,o,p⟩:=Zik b;have fs:∀{j:Int}{d:Ce},cellAt M j=some d->(KB.M7 (fdOf M) j).isSome=true:=λ{j d} h=>by rw[Zc4,h];rfl
 have a:∀{j:Int},(∃v,(j,v)∈q)->j∈f.map (·.1):=λ{j} ⟨v,h⟩=>by
  obtain⟨n,hn,e⟩:=List.getElem_of_mem h;have:=s n q[n] hn (bG hn);rw[e]at this;exact this
 have m:∀{j:Int},Rc M j->j∈f.map (·.1):=λ{j} r=>by
  induction r with
  | hand hm k hc=>exact a (o _ (List.mem_append.mpr (.inl (List.mem_map.mpr ⟨_,hm,rfl⟩))) _ k (fs hc))
  | @name x c hx hc hb t=>
   refine a (o (mG M) (List.mem_append.mpr (.inr (List.mem_singleton.mpr rfl))) _ (List.mem_map.mpr ⟨x,hx,?_⟩) (fs hc));unfold K7;have g:lA M x.2.1 x.2.2=false:=by
    unfold lA;rw[hc];dsimp only;rw[if_pos hb];exact decide_eq_false (λy=>absurd (ph.symm.trans y.1) ε)
   rw[g,if_neg ε,hc];dsimp only;rw[if_neg (λy=>y.2 t)]
  | @via i j c d r hc k hd ih=>
   obtain⟨x,hx,e⟩:=List.mem_map.mp ih;exact a (p x hx c.fl (by rw[e,Zc4,hc];rfl) j k (fs hd))
 obtain⟨x,hx,e⟩:=List.mem_map.mp (m r);exact l x hx c (by rw[e];exact hc)
theorem Zej{h s:Nat}{x y:AA}{m:Str×Au}(hm:m∈(setSlot M h s x).hands)(hy:y∈m.2):y=x\/∃a∈M.hands,y∈a.2:=by
 obtain⟨i,c,d⟩:=List.getElem_of_mem hm;have b:(M.hands.modify h λm=>(m.1,m.2.set s x))[i]? =some m:=by rw[<- d];exact bG c
 rw[List.getElem?_modify]at b;cases em:M.hands[i]? with
 | none=>rw[em]at b;cases b
 | some a=>
  rw[em]at b
  by_cases z:h=i
  ·have e3:(a.1,a.2.set s x)=m:=by simpa[z]using b
   rw[<- e3]at hy;rcases List.mem_or_eq_of_mem_set (show y∈a.2.set s x from hy)with w | w
   ·exact .inr ⟨a,List.mem_of_getElem? em,w⟩
   ·exact .inl w
  ·have e3:a=m:=by simpa[z]using b
   exact .inr ⟨a,List.mem_of_getElem? em,by rw[e3];exact hy⟩
theorem slot_mem{h k:Nat}{j:Int}(e:aY M h k=some j):∃m,M.hands[h]? =some m/\some j∈m.2:=by
 unfold aY at e;cases hm:M.hands[h]? with
 | none=>rw[hm]at e;cases e
 | some m=>
  rw[hm]at e;have e:(m.2[k]?).join=some j:=e;cases hk:m.2[k]? with
  | none=>rw[hk]at e;cases e
  | some x=>
   rw[hk]at e;have e:x=some j:=e;subst e;exact⟨m,rfl,List.mem_of_getElem? hk⟩
end
inductive Rd(M:Wm):Int->Prop
 | hand {m:Str×Au}{j:Int}:m∈M.hands->some j∈m.2->Rd M j
 | name {x:Str×(Int×Int)}{c:Ce}:x∈M.names->cellAt M x.2.1=some c->c.birth=x.2.2->(M.sw.phase=("give":Str)->c.tone=M.sw.sense)->Rd M x.2.1
 | via {i j:Int}{c:Ce}:Rd M i->cellAt M i=some c->some j∈c.fl->Rd M j
structure Wg(M:Wm):Prop where
 rd:∀i,Rd M i->∃c,cellAt M i=some c/\(M.sw.phase=("give":Str)->c.tone=M.sw.sense)
 gv:M.sw.phase=("give":Str)->∀i c,cellAt M i=some c->c.tone≠M.sw.sense->M.sw.at'<=i/\i<M.sw.stop
 rs:M.sw.phase=("rest":Str)->∀i c,cellAt M i=some c->c.tone=M.sw.sense
section
variable {M N:Wm}{lb:Int}{lw:AE}{e:Ev}
theorem Wg.mv(p:Wg M)(ph:N.sw.phase=M.sw.phase)(g:N.sw.sense=M.sw.sense)(at':N.sw.at'=M.sw.at')(sp:N.sw.stop=M.sw.stop)(D:Int->Prop)
  (n:∀i,D i->∃c,cellAt N i=some c/\c.tone=M.sw.sense/\∀y∈c.fl,y=none)
  (ce:∀i c,cellAt N i=some c->D i\/∃d,cellAt M i=some d/\d.birth=c.birth/\(M.sw.phase≠("walk":Str)->d.tone=c.tone)/\∀j,some j∈c.fl->some j∈d.fl\/Rd M j\/D j)
  (ex:∀i d,cellAt M i=some d->∃c,cellAt N i=some c/\(M.sw.phase≠("walk":Str)->c.tone=d.tone))
  (hd:∀m∈N.hands,∀j,some j∈m.2->Rd M j\/D j)
  (nm:∀x∈N.names,x∈M.names\/Rd M x.2.1\/D x.2.1):Wg N:=by
 have o:∀{i:Int},Rd N i->Rd M i\/D i:=λ{i} r=>by
  induction r with
  | hand hm l=>exact hd _ hm _ l
  | @name x c hx hc hb h=>
   rcases nm x hx with y | y
   ·rcases ce _ c hc with e | ⟨d,h1,h2,k,_⟩
    ·exact .inr e
    ·exact .inl (.name y h1 (h2.trans hb) λz=>by rw[k (by rw[z];decide),h (ph.trans z),g])
   ·exact y
  | @via i j c r hc l ih=>
   have dd:D i->Rd M j\/D j:=λy=>by
    obtain⟨q,a,_,b⟩:=n i y;rw[hc]at a;cases a;exact nomatch b _ l
   rcases ce i c hc with e | ⟨d,h1,_,_,u⟩
   ·exact dd e
   ·rcases ih with ih | ih
    ·rcases u j l with y | y
     ·exact .inl (.via ih h1 y)
     ·exact y
    ·exact dd ih
 refine⟨λi r=>?_,λz i c hc h=>?_,λz i c hc=>?_⟩
 ·rcases o r with y | y
  ·obtain⟨d,a,b⟩:=p.rd i y;obtain⟨c,s,t⟩:=ex i d a;exact⟨c,s,λz=>by rw[ph]at z;rw[t (by rw[z];decide),b z,g]⟩
  ·obtain⟨c,a,b,_⟩:=n i y;exact⟨c,a,λ_=>by rw[b,g]⟩
 ·have f:M.sw.phase=("give":Str):=ph.symm.trans z;rw[at',sp];rw[g]at h;rcases ce i c hc with e | ⟨d,h1,_,k,_⟩
  ·obtain⟨q,a,b,_⟩:=n i e;rw[hc]at a;cases a;exact absurd b h
  ·exact p.gv f i d h1 (by rw[k (by rw[f];decide)];exact h)
 ·have f:M.sw.phase=("rest":Str):=ph.symm.trans z;rw[g];rcases ce i c hc with e | ⟨d,h1,_,k,_⟩
  ·obtain⟨q,a,b,_⟩:=n i e;rw[hc]at a;cases a;exact b
  ·rw[<- k (by rw[f];decide)];exact p.rs f i d h1
theorem Wg.notes(l:Au)(p:Wg M):Wg (aP M l).2:=by
 by_cases z:M.sw.phase=("walk":Str)
 ·obtain⟨e,n,_,_,_⟩:=nts z l;have b:=n.sw;refine Wg.mv p (by rw[b]) (by rw[b]) (by rw[b]) (by rw[b]) (λ_=>False) (λ_ f=>f.elim) (λi c hc=>.inr ?_) (λi d hd=>?_) (λm hm j a=>.inl ?_) (λx hx=>.inl (by rw[n.nt.nm]at hx;exact hx))
  ·obtain⟨d,h1,h2⟩:=n.cell hc;refine⟨d,h1,by rw[h2];split<;>rfl,λy=>absurd z y,λj a=>.inl ?_⟩;rw[h2]at a;split at a<;>exact a
  ·rw[n.at_ i];split
   ·rw[hd];exact⟨_,rfl,λy=>absurd z y⟩
   ·exact⟨d,hd,λ_=>rfl⟩
  ·rw[n.nt.hd]at hm;exact .hand hm a
 ·rw[Mg z];exact p
theorem Wg.slot(p:Wg M){h s:Nat}{x:AA}(hx:∀j,x=some j->Rd M j):Wg (setSlot M h s x):=by
 refine Wg.mv p rfl rfl rfl rfl (λ_=>False) (λ_ f=>f.elim) (λi c hc=>.inr ⟨c,hc,rfl,λ_=>rfl,λj a=>.inl a⟩) (λi d hd=>⟨d,hd,λ_=>rfl⟩) (λm hm j a=>.inl ?_) (λx hx=>.inl hx);rcases Zej hm a with e | ⟨b,h0,h1⟩
 ·exact hx j e.symm
 ·exact .hand h0 h1
theorem Wg.cell(p:Wg M){i:Int}{c c':Ce}(hc:cellAt M i=some c)(b:c'.tone=c.tone)(hb:c'.birth=c.birth)(g:∀j,some j∈c'.fl->some j∈c.fl\/Rd M j):Wg (setCell M i c'):=by
 refine Wg.mv p rfl rfl rfl rfl (λ_=>False) (λ_ f=>f.elim) (λk d hd=>.inr ?_) (λk d hd=>?_) (λm hm j a=>.inl (.hand hm a)) (λx hx=>.inl hx)
 ·rw[jt hc]at hd
  by_cases e:k=i
  ·rw[if_pos e]at hd;cases hd;refine⟨c,by rw[e];exact hc,hb.symm,λ_=>b.symm,λj a=>?_⟩;rcases g j a with y | y
   ·exact .inl y
   ·exact .inr (.inl y)
  ·rw[if_neg e]at hd;exact⟨d,hd,rfl,λ_=>rfl,λj a=>.inl a⟩
 ·rw[jt hc]
  by_cases e:k=i
  ·rw[if_pos e];rw[e,hc]at hd;cases hd;exact⟨c',rfl,λ_=>b⟩
  ·rw[if_neg e];exact⟨d,hd,λ_=>rfl⟩
theorem Ec{h k:Nat}{j:Int}(e:aY M h k=some j):Rd M j:=by
 obtain⟨m,hm,a⟩:=slot_mem e;exact .hand (List.mem_of_getElem? hm) a
theorem Wg.deed(p:Wg M){d:kh}{B:Wm}(h:jM M d=.ok (e,B)):Wg B:=by
 cases d with
 | make n s a bulk=>
  simp only[jM]at h;split at h
  ·right;have F:cellAt { M with used:=M.used+(1+a+bulk),born:=M.born+1,cells:=jG M.cells ⟨M.born+1,bulk,M.sw.sense,0,List.replicate a.toNat none⟩ } ((gZ M.cells:Nat):Int)=some ⟨M.born+1,bulk,M.sw.sense,0,List.replicate a.toNat none⟩:=Um;refine Wg.mv p rfl rfl rfl rfl (λi=>i=((gZ M.cells:Nat):Int)) (λi e=>?_) (λi c hc=>?_) (λi d hd=>?_) (λm hm j k=>?_) (λx hx=>.inl hx)
   ·exact⟨_,by rw[e];exact F,rfl,λy hy=>List.eq_of_mem_replicate hy⟩
   ·rcases Uk (u:=M.used+(1+a+bulk)) (b:=M.born+1) hc with ⟨y,_⟩ | y
    ·exact .inl y
    ·exact .inr ⟨c,y,rfl,λ_=>rfl,λj k=>.inl k⟩
   ·exact⟨d,Ul (u:=M.used+(1+a+bulk)) (b:=M.born+1) hd,λ_=>rfl⟩
   ·rcases Zej hm k with e | ⟨H,h0,h1⟩
    ·exact .inr (Option.some.inj e)
    ·exact .inl (.hand h0 h1)
  ·cases h
 | get n s t f=>
  simp only[jM]at h;split at h
  ·cases h
  ·rename_i x hx
   split at h
   ·cases h
   ·rename_i c hc
    split at h
    ·cases h
    ·rename_i v hv
     right;exact p.slot λj e=>.via (Ec hx) hc (by rw[<- e];exact List.mem_of_getElem? hv)
 | put n t f s=>
  simp only[jM]at h;split at h
  ·cases h
  ·split at h
   ·cases h
   ·rename_i c hc
    split at h
    ·cases h
    ·right;refine Wg.notes _ (p.cell (c':={ c with fl:=c.fl.set f (aY M n s) }) hc rfl rfl λj k=>?_);rcases List.mem_or_eq_of_mem_set k with y | y
     ·exact .inl y
     ·exact .inr (Ec y.symm)
 | copy n s t=>
  right;exact p.slot λj e=>Ec e
 | drop n s=>
  right;exact p.slot λj e=>nomatch e
 | give n s g t=>
  right;exact Wg.notes _ (p.slot λj e=>Ec e)
 | write n t l=>
  simp only[jM]at h;split at h
  ·cases h
  ·split at h
   ·cases h
   ·rename_i c hc
    right;exact p.cell (c':={ c with load:=l }) hc rfl rfl λj k=>.inl k
 | read n t=>
  simp only[jM]at h;split at h
  ·cases h
  ·split at h
   ·cases h
   ·right;exact p
 | name n t z=>
  simp only[jM]at h;split at h
  ·cases h
  ·rename_i I q
   split at h
   ·cases h
   ·rename_i c hc
    right;refine Wg.mv p rfl rfl rfl rfl (λ_=>False) (λ_ f=>f.elim) (λi c hc=>.inr ⟨c,hc,rfl,λ_=>rfl,λj k=>.inl k⟩) (λi d hd=>⟨d,hd,λ_=>rfl⟩) (λm hm j k=>.inl (.hand hm k)) (λx hx=>?_);rcases Zlu hx with hx | hx
    ·exact .inl hx
    ·rw[hx];exact .inr (.inl (Ec q))
 | seek n s z=>
  simp only[jM]at h;split at h
  ·cases h
  ·rename_i C b D
   split at h
   ·right;exact p.slot λj e=>nomatch e
   ·rename_i o
    right;refine Wg.notes _ (p.slot λj e=>?_);cases e;obtain⟨x,hx,ex⟩:=Option.map_eq_some_iff.mp D;have w:=List.mem_of_find?_eq_some hx;unfold lA at o;cases hc:cellAt M C with
    | none=>rw[hc]at o;exact absurd rfl o
    | some c=>
     rw[hc]at o;dsimp only at o
     by_cases r:c.birth=b
     ·rw[if_pos r]at o;have A:x.2.1=C:=by rw[ex]
      have E:x.2.2=b:=by rw[ex]
      have:=Rd.name (M:=M) w (by rw[A];exact hc) (by rw[E];exact r) (λgv=>Decidable.byContradiction λy=>o (decide_eq_true ⟨gv,y⟩));rw[A]at this;exact this
     ·rw[if_neg r]at o;exact absurd rfl o
theorem Wg.step(p:Wg M){o:Wm}(h:eO lb lw M e o)(a0:0<=M.sw.at'):o.sw.phase=("lost":Str)\/Wg o:=by
 cases h with
 | begin ph=>
  rw[GD];refine .inr (Wg.notes _ ⟨λi r=>?_,λz=>absurd z (show ¬ ("walk":Str)="give" by decide),λz=>absurd z (show ¬ ("walk":Str)="rest" by decide)⟩);have:Rd M i:=by
   induction r with
   | hand hm a=>exact .hand hm a
   | name hx hc hb b=>exact .name hx hc hb λz=>absurd ap ε
   | via r hc a ih=>exact .via ih hc a
  obtain⟨c,h1,_⟩:=p.rd i this;exact⟨c,h1,λz=>absurd z (show ¬ ("walk":Str)="give" by decide)⟩
 | walk x g c ph s hc=>
  refine .inr (Wg.notes _ (Wg.mv p rfl rfl rfl rfl (λ_=>False) (λ_ f=>f.elim) (λi c hc=>.inr ⟨c,hc,rfl,λ_=>rfl,λj a=>.inl a⟩) (λi d hd=>⟨d,hd,λ_=>rfl⟩) (λm hm j a=>.inl (.hand hm a)) (λx hx=>.inl hx)))
 | look F ph s H A=>
  subst A;rw[GD];have q:=p.notes el;exact .inr (Wg.mv q rfl rfl rfl rfl (λ_=>False) (λ_ f=>f.elim) (λi c hc=>.inr ⟨c,hc,rfl,λ_=>rfl,λj a=>.inl a⟩) (λi d hd=>⟨d,hd,λ_=>rfl⟩) (λm hm j a=>.inl (.hand hm a)) (λx hx=>.inl hx))
 | cut q B ph s C w l=>
  refine .inr ⟨λi r=>?_,λ_ i c hc b=>?_,λz=>absurd z (show ¬ ("give":Str)="rest" by decide)⟩
  ·have:Rd M i/\∀c,cellAt M i=some c->c.tone=M.sw.sense:=by
    have E:∀{i:Int}{c:Ce},Rc M i->cellAt M i=some c->c.tone=M.sw.sense:=λr hc=>Rg.cut ph w l r hc;have n:Rd M i/\∀c,cellAt M i=some c->Rc M i:=by
     induction r with
     | hand hm a=>exact⟨.hand hm a,λc hc=>.hand hm a hc⟩
     | name hx hc hb b=>exact⟨.name hx hc hb λz=>absurd ap ε,λc _=>.name hx hc hb (b rfl)⟩
     | via r hc a ih=>exact⟨.via ih.1 hc a,λc h=>.via (ih.2 _ hc) hc a h⟩
    exact⟨n.1,λc hc=>E (n.2 c hc) hc⟩
   obtain⟨c,h1,_⟩:=p.rd i this.1;exact⟨c,h1,λ_=>this.2 c h1⟩
  ·have:=uv (M:=M) hc;exact⟨this.1,this.2⟩
 | lost q B i x c v ph s C w hx l hc b=>exact .inl rfl
 | pass ph lt hp=>
  refine .inr ⟨λi r=>?_,λ_ i c hc b=>?_,λz=>absurd ap ε⟩
  ·have:Rd M i:=by
    induction r with
    | hand hm a=>exact .hand hm a
    | name hx hc hb b=>exact .name hx hc hb b
    | via r hc a ih=>exact .via ih hc a
   exact p.rd i this
  ·have h1:=p.gv ph i c hc b;have ne:i≠M.sw.at':=λz=>b (hp c (by rw[<- z];exact hc));show M.sw.at'+1<=i/\i<M.sw.stop;omega
 | back c ph lt hc b=>
  have D:¬ Rd M M.sw.at':=λr=>by
   obtain⟨d,h1,h2⟩:=p.rd _ r;rw[hc]at h1;cases h1;exact b (h2 ph)
  refine .inr ⟨λi r=>?_,λ_ i d hd t=>?_,λz=>absurd ap ε⟩
  ·have:Rd M i:=by
    induction r with
    | hand hm a=>exact .hand hm a
    | name hx k hb b=>exact .name hx (Zcb hc k).2 hb b
    | via r k a ih=>exact .via ih (Zcb hc k).2 a
   obtain⟨d,h1,h2⟩:=p.rd i this;exact⟨d,by rw[Zts hc (λz=>D (by rw[<- z];exact this))];exact h1,h2⟩
  ·obtain⟨ne,u⟩:=Zcb hc hd;have h1:=p.gv ph i d u t;show M.sw.at'+1<=i/\i<M.sw.stop;omega
 | fin ph lt=>
  have tn:∀i c,cellAt M i=some c->c.tone=M.sw.sense:=λi c hc=>Decidable.byContradiction λy=>by
   have:=p.gv ph i c hc y;omega
  refine .inr ⟨λi r=>?_,λz=>absurd z (show ¬ ("rest":Str)="give" by decide),λ_ i c hc=>tn i c hc⟩;have:Rd M i:=by
   induction r with
   | hand hm a=>exact .hand hm a
   | name hx hc hb b=>exact .name hx hc hb λ_=>tn _ _ hc
   | via r hc a ih=>exact .via ih hc a
  obtain⟨c,h1,_⟩:=p.rd i this;exact⟨c,h1,λz=>absurd z (show ¬ ("rest":Str)="give" by decide)⟩
 | again ph=>exact .inl ph
theorem Wg.Zsm{room w t:Int}{hs:zu}:Wg (O1 room hs w t):=by
 have no:∀i c,cellAt (O1 room hs w t) i=some c->False:=λi c hc=>by
  obtain⟨_,h⟩:=cB.mp hc;exact nomatch h
 refine⟨λi r=>?_,λz=>absurd z (show ¬ ("rest":Str)="give" by decide),λ_ i c hc=>(no i c hc).elim⟩
 exfalso
 induction r with
 | hand hm a=>
  obtain⟨h,_,rfl⟩:=List.mem_map.mp (show _∈hs.map _ from hm);exact nomatch List.eq_of_mem_replicate a
 | name hx _ _ _=>cases hx
 | via _ _ _ ih=>exact ih
end
structure Iv(M:Wm):Prop where
 lw:Lw M
 wg:Wg M
section
variable {M N:Wm}{lb:Int}{lw:AE}{e:Ev}{hs:zu}{k:Nat}
theorem Zx8{a:Wm}{d:kh}(h:jM M d=.ok (e,a)):a.w=M.w:=by
 cases d<;>simp only[jM]at h<;>(repeat' split at h)<;>first | (cases h;done) | (cases h;rfl) | (cases h;exact(lJ _ _).ww)
theorem Zov{M a:Wm}(h:NtR M a):a.cells.length=M.cells.length:=by have:=congrArg List.length h.ce;rw[aX,aX]at this;exact this
theorem Zry{a:Type}(l:List (Option a))(x:a):l.length<=(jG l x).length:=by
 unfold jG;split
 ·rw[List.length_set];exact Nat.le_refl _
 ·rw[List.length_append];omega
theorem Zqs{a:Wm}{d:kh}(h:jM M d=.ok (e,a)):M.cells.length<=a.cells.length:=by
 cases d<;>simp only[jM]at h<;>(repeat' split at h)<;>first | (cases h;done) | (cases h;exact Nat.le_refl _) | (cases h;rw[Zov (lJ _ _)];exact Nat.le_refl _) | (cases h;rw[Zov (lJ _ _)];show _<=(M.cells.set _ _).length;rw[List.length_set];exact Nat.le_refl _) | (cases h;show _<=(M.cells.set _ _).length;rw[List.length_set];exact Nat.le_refl _) | (cases h;exact Zry _ _)
theorem Iv.deed(p:Iv M)(d:kh):Iv (stM M (jM M d)):=by
 cases h:jM M d with
 | error r=>exact p
 | ok z=>
  obtain⟨e,a⟩:=z;obtain⟨g,b⟩:=Zkh h;exact⟨⟨by show 0<=a.sw.looked;rw[b];exact p.lw.lz,by show a.w=0\/a.w=1\/a.w=2;rw[Zx8 h];exact p.lw.ww,by show a.sw.stop<=_;rw[b];have:=Zqs h;have:=p.lw.sp;show M.sw.stop<=(a.cells.length:Int);omega⟩,p.wg.deed h⟩
theorem Iv.step(p:Iv M)(a0:0<=M.sw.at')(h:eO lb lw M e N):N.sw.phase=("lost":Str)\/Iv N:=by
 rcases p.wg.step h a0 with z | z
 ·exact .inl z
 ·exact .inr ⟨p.lw.step h,z⟩
theorem Zv.iv{n:Nat}{a:List Rz}(h:Zv M n a N):Nl M->Iv M->KW M hs k->gP a=false->Iv N:=by
 induction h with
 | stop M=>exact λ_ p _ _=>p
 | @lost M c n e s l=>
  intro _ _ _ z;have hl:gP [evz e]=true:=decide_eq_true l;rw[hl]at z;cases z
 | @go M N c n e a s l h ih=>
  intro nl p kw z;have b:Nl N:=by
   rcases nl.step s with y | y
   ·exact absurd y.1 l
   ·exact y.2
  have d:Iv N:=(p.step kw.a0 s).resolve_left b.1;refine ih b d (kw.step s) ?_
  by_cases hz:a=[]
  ·subst hz;rfl
  ·rw[CV _ hz]at z;exact z
theorem W3.iv{r:kO}{a:List Rz}(h:W3 M r a N)(nl:Nl M)(p:Iv M)(kw:KW M hs k)(z:gP a=false):Iv N:=by
 cases r with
 | sw n=>exact Zv.iv h nl p kw z
 | dd d=>
  obtain⟨_,rfl⟩:=h;exact p.deed d
theorem Kl.fin{rs:List kO}{f:List (List Rz)}(h:Kl M rs f N):Nl M->∀{a c},Kl M rs a c->(N.sw.phase=("lost":Str)↔c.sw.phase=("lost":Str))/\(N.sw.phase≠("lost":Str)->N=c/\Nl N):=by
 induction h with
 | nil M=>intro n a M2 h2;cases h2;exact⟨Iff.rfl,λ_=>⟨rfl,n⟩⟩
 | @lost M g r rs j h l=>
  intro n a M2 h2;have d:=(h.det n h).2.2 l;cases h2 with
  | lost h2 b=>exact⟨⟨λ_=>(h2.det n h2).2.2 b,λ_=>d⟩,λz=>absurd d z⟩
  | go h2 b _=>obtain⟨rfl,_⟩:=h.det n h2;rw[l]at b;cases b
 | @go M N g r rs j f h l t ih=>
  intro n a M2 h2;cases h2 with
  | lost h2 b=>obtain⟨rfl,_⟩:=h.det n h2;rw[l]at b;cases b
  | go h2 b t2=>
   obtain⟨rfl,e,_⟩:=h.det n h2;obtain⟨rfl,i⟩:=e l;exact ih i t2
theorem Iv.new{m w t:Int}{hs:zu}(h:w=0\/w=1\/w=2):Iv (O1 m hs w t):=⟨⟨Int.le_refl _,h,Int.le_refl _⟩,Wg.Zsm⟩
theorem wV.iv{n:Nat}(h:wV M n N):Nq M->Iv M->KW M hs k->N.sw.phase≠("lost":Str)->Nl N/\Iv N:=by
 induction h with
 | done z=>exact λq p _ nl=>⟨q.resolve_right nl,p⟩
 | @go M M1 N n lb lw e a b s t ih=>
  intro q p kw nl;have n1:=q.resolve_right b;rcases n1.step s with ⟨_,y⟩ | ⟨_,y⟩
  ·cases t with
   | done _=>exact absurd y nl
   | go _ z _ _=>exact absurd y z
  ·exact ih (.inl y) ((p.step kw.a0 s).resolve_left y.1) (kw.step s) nl
end
theorem Ztq{F:KB.Fd}{R:KB.Rw}{P:Int->Prop}(h0:∀a∈R,∀y,some y∈a->P y)(h1:∀y fl,P y->KB.M7 F y=some fl->∀z,some z∈fl->P z){q l:List cm}{k:Nat}(b:KB.Cq F R q k l):(∀x∈q,P x.1)/\∀x∈l,P x.1:=by
 induction b with
 | start=>
  refine⟨λx hx=>?_,λx hx=>nomatch hx⟩;obtain⟨⟨a,n⟩,hm,h⟩:=List.mem_flatMap.mp hx;obtain⟨k,hk,_,_⟩:=KB.zK (q:=x.1) (v:=x.2) h;exact h0 a (List.mem_of_getElem? (List.mem_zipIdx_iff_getElem?.mp hm)) x.1 (List.mem_of_getElem? hk)
 | old _ _ _ ih=>exact ih
 | @new q k l y w fl b hq hn d ih=>
  have c:P y:=ih.1 _ (List.mem_of_getElem? hq);refine⟨λx hx=>?_,λx hx=>?_⟩
  ·rcases List.mem_append.mp hx with hx | hx
   ·exact ih.1 x hx
   ·obtain⟨k,hk,_,_⟩:=KB.zK (q:=x.1) (v:=x.2) hx;exact h1 y fl c d x.1 (List.mem_of_getElem? hk)
  ·rcases List.mem_append.mp hx with hx | hx
   ·exact ih.2 x hx
   ·rw[List.mem_singleton.mp hx];exact c
def Em(M:Wm):Prop:=∀m∈M.hands,∀y∈m.2,y=none
structure Ej(M:Wm):Prop where
 em:Em M
 ph:M.sw.phase=("walk":Str)\/M.sw.phase=("give":Str)\/M.sw.phase=("rest":Str)
 gr:M.sw.phase=("walk":Str)->M.sw.grey=[]/\∀i c,cellAt M i=some c->c.tone≠M.sw.sense
section
variable {M N:Wm}{lb:Int}{lw:AE}{e:Ev}
theorem Yz:∀(l:Au) (M:Wm),(∀y∈l,y=none)->aP M l=([],M)
 | [],M,_=>rfl
 | y::l,M,h=>by
  have e:y=none:=h y ζ;subst e;show(VR none++(aP M l).1,(aP M l).2)=_;rw[Yz l M λz hz=>h z (by simp[hz])];rfl
theorem Zju(c:Int):∀(l:List (Str×Au)) (k:Nat) {y:AA},y∈nhL c l k->∃m∈l,y∈m.2
 | [],_,y,h=>nomatch h
 | m::l,k,y,h=>by
  unfold nhL at h;have ih:=λh=>let ⟨d,a,b⟩:=Zju c l dX (y:=y) h;(⟨d,List.mem_cons_of_mem _ a,b⟩:∃d∈m::l,y∈d.2)
  split at h
  ·rcases List.mem_append.mp h with h | h
   ·exact⟨m,ζ,h⟩
   ·exact ih h
  ·exact ih h
theorem Em.nh(h:Em M)(c:Int)(k:Nat)(d:Wm):fu c M.hands k d=([],d):=by
 rw[GD];refine Yz _ _ λy hy=>?_;obtain⟨m,a,b⟩:=Zju c _ _ hy;exact h m a y b
theorem Ej.begin(em:Em M)(wg:Wg M)(ph:M.sw.phase=("rest":Str))(h:eO lb lw M e N):Ej N/\N.sw.phase=("walk":Str):=by
 cases h with
 | begin _=>
  rw[em.nh];refine⟨⟨em,.inl rfl,λ_=>⟨rfl,λi c hc=>?_⟩⟩,rfl⟩;have:=wg.rs ph i c hc;show c.tone≠1 - M.sw.sense;omega
 | walk _ _ _ z=>exact absurd ap ε
 | look _ z=>exact absurd ap ε
 | cut _ _ z=>exact absurd ap ε
 | lost _ _ _ _ _ _ z=>exact absurd ap ε
 | pass z=>exact absurd ap ε
 | back _ z=>exact absurd ap ε
 | fin z=>exact absurd ap ε
 | again z=>exact absurd ap ε
theorem Ej.step(p:Ej M)(t:M.sw.phase≠("rest":Str))(h:eO lb lw M e N):Ej N:=by
 cases h with
 | begin z=>exact absurd z t
 | again z=>rcases p.ph with y | y | y<;>exact absurd (y.symm.trans z) ε
 | walk x g c ph b hc=>rw[(p.gr ph).1]at b;cases b
 | look u ph b w n=>
  subst n;rw[p.em.nh];exact⟨p.em,.inl ph,λ_=>p.gr ph⟩
 | cut q o ph b r k j=>exact⟨p.em,.inr (.inl rfl),λz=>absurd z (show ¬ ("give":Str)="walk" by decide)⟩
 | lost q o i x c v ph b r k hx j hc s=>
  exfalso
  refine(Ztq (P:=λ_=>False) (λl hr y hy=>?_) (λ_ _ f=>f.elim) k).2 x (List.mem_of_getElem? hx);rcases List.mem_append.mp hr with hr | hr
  ·obtain⟨m,hm,rfl⟩:=List.mem_map.mp hr;exact nomatch p.em m hm _ hy
  ·rw[List.mem_singleton.mp hr]at hy;obtain⟨z,_,hz⟩:=List.mem_map.mp hy;unfold K7 at hz;split at hz
   ·cases hz
   ·cases a:cellAt M z.2.1 with
    | none=>rw[a]at hz;cases hz
    | some d=>
     rw[a]at hz;dsimp only at hz;rw[if_pos ⟨decide_eq_true (.inl ph),(p.gr ph).2 _ d a⟩]at hz;cases hz
 | pass ph lt hp=>exact⟨p.em,.inr (.inl ph),λz=>absurd ap ε⟩
 | back c ph lt hc s=>exact⟨p.em,.inr (.inl ph),λz=>absurd ap ε⟩
 | fin ph lt=>exact⟨p.em,.inr (.inr rfl),λz=>absurd z (show ¬ ("rest":Str)="walk" by decide)⟩
theorem wV.em{n:Nat}(h:wV M n N):Ej M->N.sw.phase=("rest":Str):=by
 induction h with
 | done z=>
  intro p;rcases z with z | z
  ·exact z
  ·rcases p.ph with y | y | y<;>exact absurd (y.symm.trans z) ε
 | go a b s t ih=>exact λp=>ih (p.step a s)
end
def Wb(M:Wm):Prop:=(M.sw.phase=("lost":Str)/\Lw M)\/(Nl M/\Iv M)
theorem Zv.lwk{M N:Wm}{n:Nat}{a:List Rz}(h:Zv M n a N):Lw M->Lw N:=by
 induction h with
 | stop M=>exact λl=>l
 | lost s _=>exact λl=>l.step s
 | go s _ _ ih=>exact λl=>ih (l.step s)
theorem W3.lwk{M N:Wm}{r:kO}{a:List Rz}(h:W3 M r a N)(p:Iv M):Lw N:=by
 cases r with
 | sw n=>exact Zv.lwk h p.lw
 | dd d=>
  obtain⟨_,rfl⟩:=h;exact(p.deed d).lw
inductive WbQ(CS:AI)(X:Cs)(sc:AI)(H:Hp)(Q:VK):Prop
 | mk (dx m kd hl rl lk w t hs) (rs:List kO) (_:H sc=some (.ins CS dx (nH m kd hl rl))) (_:KdO X H kd lk w t) (_:0<=t) (_:t<4) (_:(w=0\/w=1\/w=2)) (_:HsO H hl hs) (_:ZD hs) (_:RwL H rl rs) (_:rs.length<=100) (_:(∀r∈rs,okW hs r)) (_:∀H' T' A lg M',bA H H'->(∀b o,H b=some o->T' b=(0,0))->WT H' T'->Kl (O1 m hs w t) rs lg M'->KW M' hs 101->Wb M'->WJ X H' T' 1 A M'->Q (.ref A.wo) H'):WbQ CS X sc H Q
def UW(b:AI)(X:Cs):Sp:=λvs H Q E=>∃a,vs=[.ref a]/\WbQ b X a H Q
section
variable {K:aD}{X:Cs}{bh:AI}{H:Hp}{Q:VK}{E:XK}{n:ν}{bk ct:ν}
theorem N7{O:AI}(TT:TxS K X bh)(q:WbQ bh X O H Q):vM K Qd (rz X) (zO bh X) ξ [↑O,none,none] H:=by
 obtain⟨dx,m,kd,hl,rl,lk,w,t,hs,rs,o,kk,t0,t1,ww,Z,hb,⟨as,hr,len,J⟩,h1,rok,h⟩:=q;unfold vM;apply⟨O,rfl,λ_=>(0,0),1,dx,m,kd,hl,rl,lk,w,t,hs,o,kk,Z,hb,λ_ _=>rfl,ε,rfl,rfl,λH1 T1 A W R P j1=>?_⟩;apply aH (W _ _ o) TT.gR TT.Zhh xm ?_;have k0:KW (O1 m hs w t) hs 0:=KW.new t0 t1;refine⟨rl,rfl,⟨_,cA.of (W _ _ hr)⟩,forL (as.map V.ref) (λi L l=>∃u B N I S,L=[↑O,↑A.wo,S]/\bA H l/\(∀b o,H b=some o->u b=(0,0))/\WT l u/\WJ X l u 1 B N/\B.wo=A.wo/\KW N hs i/\Nl N/\Iv N/\∀e d s,Kl N e d s->Kl (O1 m hs w t) (rs.take i++e) (I++d) s) ⟨T1,A,_,[],none,rfl,W,R,P,j1,rfl,k0,Nl.new,Iv.new ww,λe d s h=>h⟩ (by rintro i L l _ ⟨_,_,_,_,_,_,k,_⟩;exact cA.of (k _ _ hr)) ?_ ?_⟩
 ·rintro i v L l hv ⟨u,B,N,I,S,rfl,k,f,p,T,aw,M,nl,iv,co⟩;rw[bV]at hv;obtain⟨a,ha,rfl⟩:=Option.map_eq_some_iff.mp hv;obtain⟨r,er,hd⟩:=J i a ha;have hi:=(cL ha).1;have et:rs.take b9=rs.take i++[r]:=by rw[List.take_add_one,er];rfl
  apply⟨A.wo,a,rfl,.inl ⟨u,1,B,N,r,hs,i,p,ε,T,aw,k _ _ hd,rok r (List.mem_of_getElem? er),M,hb,δ,nl,λy as' s Hy Ty Ay b j ne le E g jy WQ ev Y fb tb lo _=>?_⟩⟩;have F:bA H Hy:=λc o hc=>g.kp _ _ (k _ _ hc) (by rw[f c o hc];decide);have C:∀b o,H b=some o->Ty b=(0,0):=λc o hc=>by rw[g.tg _ _ (k _ _ hc)];exact f c o hc
  exists b,rfl,as',y,Y,ev.mono λa x h=>h.h;refine⟨gP y,rfl,?_⟩;cases z:gP y with
  | true=>
   ext;have D:=co (r::rs.drop b9) [y] s (.lost j z);have ed:rs.take i++r::rs.drop b9=rs:=by
    have:=List.take_append_drop b9 rs;rw[et,List.append_assoc]at this;exact this
   rw[ed]at D;have:=h Hy Ty Ay _ s F C g.wt D (E.mono δ) (.inl ⟨(j.det nl j).2.2 z,j.lwk iv⟩) jy;rw[WQ]at this;exact this
  | false=>
   apply⟨Ty,Ay,s,I++[y],_,rfl,F,C,g.wt,jy,WQ,E,((j.det nl j).2.1 z).2,j.iv nl iv M z,λe d U hh=>?_⟩;rw[et,List.append_assoc,List.append_assoc];exact co (r::e) (y::d) U (.go j z hh)
 ·rintro L l ⟨u,B,N,I,S,rfl,k,f,p,T,aw,M,nl,iv,co⟩;ext;have D:=co [] [] N (.nil N);rw[List.append_nil,List.append_nil,aX,len,List.take_length]at D;have:=h l u B I N k f p D (M.mono (by rw[aX];omega)) (.inr ⟨nl,iv⟩) T;rw[aw]at this;exact this
end
def TL(H:Hp)(b:AF)(rs:List kO):Prop:=b.length=rs.length/\∀(i:Nat) a,b[i]? =some a->∃r,rs[i]? =some r/\H a=some (.tup (rV r))
def dpH(h:Nat)(l:Au)(i:Nat):List kO:=(List.range i).filterMap λs=>if ((l[s]?).join).isSome=true then some (.dd (.drop h s))else none
theorem TL.same{H H':Hp}{b:AF}{rs:List kO}(h:TL H b rs)(s:bA H H'):TL H' b rs:=⟨h.1,λi a ha=>let ⟨r,h1,h2⟩:=h.2 i a ha;⟨r,h1,s _ _ h2⟩⟩
theorem TL.nil{H:Hp}:TL H [] []:=⟨rfl,λ_ _ h=>nomatch h⟩
theorem TL.app{H:Hp}{b bs:AF}{rs c:List kO}(h:TL H b rs)(g:TL H bs c):TL H (b++bs) (rs++c):=by
 refine⟨by rw[List.length_append,List.length_append,h.1,g.1],λi a ha=>?_⟩
 by_cases z:i<b.length
 ·rw[List.getElem?_append_left z]at ha;rw[List.getElem?_append_left (by rw[<- h.1];exact z)];exact h.2 i a ha
 ·rw[List.getElem?_append_right δ]at ha;rw[List.getElem?_append_right (by rw[<- h.1];omega),<- h.1];exact g.2 _ a ha
theorem TL.one{H:Hp}{a:AI}{r:kO}(h:H a=some (.tup (rV r))):TL H [a] [r]:=⟨rfl,λi b hb=>by
 cases i with
 | zero=>cases hb;exact⟨r,rfl,h⟩
 | succ i=>exact nomatch hb⟩
theorem Zfm(h:Nat)(l:Au)(i:Nat):dpH h l b9=dpH h l i++if ((l[i]?).join).isSome=true then [.dd (.drop h i)]else []:=by
 unfold dpH;rw[List.range_succ,List.filterMap_append,List.filterMap_cons,List.filterMap_nil];split<;>split<;>simp_all
theorem Zkg(h:Nat)(l:Au)(i:Nat):(dpH h l i).length<=i:=by
 have:=List.length_filterMap_le (λs=>if ((l[s]?).join).isSome=true then some (kO.dd (.drop h s))else none) (List.range i);rw[List.length_range]at this;exact this
section
variable {K:aD}{X:Cs}{bh:AI}{H:Hp}{Q:VK}{E:XK}{n:ν}{bk ct:ν}
theorem Zpi{r:AI}{h:Nat}{x:Au}{σ:St}(hr:H r=some (.lst (x.map oV)))(hl:x.length<=1000)(n:pick σ 2=some (.int h))(q:∀p c H',bA H H'->H p=none->(∀a∈c,H a=none)->H' p=some (.lst (c.map V.ref))->TL H' c (dpH h x x.length)->Q (.ref p) H'):
  Zr8 K (Ite K r) [2] (bJ (bu (qt) χ cq)) (cP (aj (tC (.str "drop")) (aj ac a7))) σ H Q:=by
 refine Zk0 (cA.of hr) (by rw[aX];omega) (λi l j=>bA H j/\l.length<=i/\∃c,l=c.map V.ref/\TL j c (dpH h x i)/\∀a∈c,H a=none) ⟨bA.refl _,Nat.le_refl _,[],rfl,TL.nil,λ_ h=>nomatch h⟩ (by rintro i l j ⟨a,b,_⟩;exact⟨a,b⟩) (λi v l j t C o hx w u=>?_) (λl j w p hp=>?_)
 ·obtain⟨f,le,c,rfl,tl,m⟩:=w;rw[bV]at hx;obtain⟨y,hy,rfl⟩:=Option.map_eq_some_iff.mp hx;have d:=aL u (.tup [V.int i,oV y]);have e:=Zfm h x i;rw[hy]at e;rw[List.map_cons,List.map_nil,n];cases y with
  | none=>
   rw[show oV none=V.non from rfl]at d ⊢;apply o _ _ ⟨f.trans d,δ,c,rfl,?_,m⟩;rw[e];simpa using tl.same d
  | some b=>
   rw[show oV (some b)=V.int b from rfl]at d ⊢;apply⟨bD ζ,λtp k=>?_⟩;have s:=aL k (.tup [V.str "drop",V.int h,V.int i]);have g:=d.trans s;refine o _ _ ⟨f.trans g,by rw[List.length_append];show _+1<=_;omega,c++[tp],by rw[List.map_append];rfl,?_,λa ha=>?_⟩
   ·rw[e];exact(tl.same g).app (TL.one ao)
   ·rcases List.mem_append.mp ha with ha | ha
    ·exact m a ha
    ·rw[List.mem_singleton.mp ha];exact(f.trans d).free k
 ·obtain⟨f,le,c,rfl,tl,m⟩:=w;have d:=aL hp (.lst (c.map V.ref));rw[aX]at tl;exact q p c _ (f.trans d) (f.free hp) m ao (tl.same d)
end
def oO(M:Wm)(i:Nat):List kO:=(List.range i).flatMap λh=>dpH h (((heldOf M)[h]?).getD []) (((heldOf M)[h]?).getD []).length
theorem Iz{M:Wm}{i:Nat}{m:Str×Au}(h:M.hands[i]? =some m):oO M b9=oO M i++dpH i m.2 m.2.length:=by
 unfold oO;rw[List.range_succ,List.flatMap_append,List.flatMap_cons,List.flatMap_nil,List.append_nil];unfold heldOf;rw[bV,h];rfl
theorem Zz9{M:Wm}(wg:Wg M){m:Str×Au}(hm:m∈M.hands)(h:Nat):dpH h (m.2.map (wW M)) (m.2.map (wW M)).length=dpH h m.2 m.2.length:=by
 unfold dpH;rw[aX];refine HJ λs _=>?_;rw[bV];cases hs:m.2[s]? with
 | none=>rfl
 | some y=>
  cases y with
  | none=>rfl
  | some p=>
   obtain⟨c,hc,_⟩:=wg.rd p (.hand hm (List.mem_of_getElem? hs));show(if ((some (wW M (some p))).join).isSome=true then _ else _)=_;have:wW M (some p)=some c.birth:=by
    show(cellAt M p).map _=_;rw[hc];rfl
   rw[this];rfl
theorem TL.put{H:Hp}{b:AF}{rs:List kO}{p:AI}{o:HO}{xs:List V}(h:TL H b rs)(hp:H p=some (.lst xs)):TL (upd H p o) b rs:=⟨h.1,λi a ha=>let ⟨r,h1,h2⟩:=h.2 i a ha;⟨r,h1,by rw[aB λz=>by rw[z,hp]at h2;cases h2];exact h2⟩⟩
inductive DpQ(X:Cs)(wo:AI)(H:Hp)(Q:VK):Prop
 | mk (T s A M) (_:WJ X H T s A M) (_:A.wo=wo) (_:Wg M) (_:M.cells.length<=1000) (_:M.hands.length<=30) (_:(∀m∈M.hands,m.2.length<=30)) (_:∀p as H',bA H H'->H p=none->(∀a∈as,H a=none)->H' p=some (.lst (as.map V.ref))->TL H' as (oO M M.hands.length)->(oO M M.hands.length).length<=30 * M.hands.length->Q (.ref p) H'):DpQ X wo H Q
def Zy(X:Cs):Sp:=λvs H Q E=>∃wo,vs=[.ref wo]/\DpQ X wo H Q
section
variable {K:aD}{X:Cs}{bh:AI}{H:Hp}{Q:VK}{E:XK}{n:ν}{bk ct:ν}
theorem Zfk{wo:AI}(q:DpQ X wo H Q):Lb K (Zg6 X) ξ [↑wo,none,none,none] H:=by
 obtain⟨T,s,A,M,j,aw,wg,hc,hh,y,q⟩:=q;unfold Lb;apply⟨ε,λp hp=>?_⟩;generalize zz:upd H p _=H1;obtain⟨W,x⟩:=nwO hp zz;have x:H1 p=some (.lst (([]:AF).map V.ref)):=x;have Z:=j.same W;apply⟨wo,rfl,T,s,A,M,Z,aw,hc,λm hm=>by have:=y m hm;omega,λl Y D U nl F hl ln hr=>?_⟩;have c2:=U _ _ x;have k:Y.length=M.hands.length:=by rw[ln];unfold rowsOf;rw[aX]
 have lp:l≠p:=λz=>by rw[z,x]at nl;cases nl
 have g:bA H D:=W.trans U;apply⟨l,rfl,⟨_,cA.of hl⟩,Zq7 (Y.map V.ref) (λi C c=>∃d O R,C=[↑wo,↑p,O,R]/\(∀b o,D b=some o->b≠p->c b=some o)/\c p=some (.lst (d.map V.ref))/\TL c d (oO M i)/\(oO M i).length<=30 * i/\∀a∈d,H a=none) ⟨[],none,none,rfl,λ_ _ h _=>h,c2,TL.nil,Nat.le_refl _,λ_ h=>nomatch h⟩ (by rintro i C c _ ⟨_,_,_,_,f,_⟩;exact cA.of (f _ _ hl lp)) ?_ ?_⟩
 ·rintro i v t C c hv ⟨d,O,R,rfl,f,N,tl,le,P⟩ ht;rw[bV]at hv;obtain⟨r,e,rfl⟩:=Option.map_eq_some_iff.mp hv;have hi:i<M.hands.length:=by rw[<- k];exact(cL e).1
  have em:M.hands[i]? =some M.hands[i]:=bG hi;generalize M.hands[i]=m at em;have hm:=List.mem_of_getElem? em;have l30:=y m hm;have er:D r=some (.lst ((m.2.map (wW M)).map oV)):=hr i r _ e (by unfold rowsOf;rw[bV,em];rfl);have rp:r≠p:=λz=>by
   have:=F r (List.mem_of_getElem? e);rw[z,x]at this;cases this
  have st:=aL ht (.tup [V.int i,.ref r]);have ct:=st _ _ N;have B:∀b o,D b=some o->b≠p->upd c t (.tup [V.int i,.ref r]) b=some o:=λb o hb E=>st _ _ (f b o hb E);have J:=tl.same st;have S:upd c t (.tup [V.int i,.ref r]) t=some (.tup [V.int i,.ref r]):=ao;generalize upd c t (.tup [V.int i,.ref r])=Ht at ct B J S ⊢;exists t,_,rfl,dU.of S,rfl,.int i,_,rfl;exists .ref r,_,rfl;exists rfl;exists .inl ⟨rfl,_,cA.of ct⟩;ext;have u:=B _ _ er rp;refine⟨r,rfl,⟨_,cA.of u⟩,?_⟩;refine Zpi u (by rw[aX];omega) rfl λp2 bs H3 L np2 I c3 tb=>?_;rw[Zz9 wg hm]at tb;have w:=L _ _ ct;have e1:=J.1;have e2:=tb.1;have e3:=Zkg i m.2 m.2.length;have e4:(oO M b9).length=(oO M i).length+(dpH i m.2 m.2.length).length:=by rw[Iz em,List.length_append]
  apply⟨p,p2,_,_,rfl,rfl,w,c3,by rw[aX,aX];exact bD δ,?_⟩;apply⟨d++bs,_,_,rfl,λb o hb E=>by rw[aB E];exact L _ _ (B b o hb E),by rw[ao,List.map_append],?_,δ,λa ha=>?_⟩
  ·rw[Iz em];exact((J.same L).app tb).put w
  ·rcases List.mem_append.mp ha with ha | ha
   ·exact P a ha
   ·cases z:H a with
    | none=>rfl
    | some o=>
     have:=B a o (g _ _ z) (aF z hp);rw[I a ha]at this;cases this
 ·rintro C c ⟨d,O,R,rfl,f,N,tl,le,P⟩;ext;rw[aX,k]at tl le;exact q p d c (λb o hb=>f b o (g _ _ hb) (aF hb hp)) hp P N tl le
end
def swL(n:Nat):List kO:=if n=0 then []else [.sw n]
inductive RrQ(X:Cs)(wo:AI)(H:Hp)(Q:VK):Prop
 | mk (T s A M hs k) (_:WT H T) (_:s≠0) (_:WJ X H T s A M) (_:A.wo=wo) (_:KW M hs k) (_:ZD hs) (_:k<=900) (_:Lw M) (_:Nq M) (_:∀n M' H' T' A' p as,wV M n M'->KW M' hs k->cY s H H' T T'->WJ X H' T' s A' M'->A'.wo=wo->H p=none->T' p=(0,0)->H' p=some (.lst (as.map V.ref))->(∀a∈as,T' a=(0,0))->TL H' as (swL n)->Q (.ref p) H'):RrQ X wo H Q
def Dp(X:Cs):Sp:=λvs H Q E=>∃wo,vs=[.ref wo]/\RrQ X wo H Q
def Zfh(z:Str)(a b:Nat):Nat:=if z=("each":Str)then a else b
def Zhc(z:Str)(h:Nat):List kO:=[.dd (.make 0 0 1 0),.dd (.make 0 1 0 0),.dd (.put 0 0 0 1),.dd (.drop 0 1),.sw (Zfh z 2 1),.dd (.get 0 1 0 0),.dd (.put 0 0 0 2),.sw (Zfh z (h+1) 2)]
def newR(z:Str)(h:Nat):List kO:=[.dd (.make 0 1 0 0),.sw 1,.dd (.make 0 0 1 0),.dd (.put 0 0 0 1),.dd (.drop 0 1),.sw (Zfh z (h+1) 1)]
def Qe(f:Str->Nat->List kO):Sp:=λvs H Q E=>∃(z:Str) (h:Nat),vs=[.str z,.int h]/\∀p b H',bA H H'->H p=none->(∀a∈b,H a=none)->H' p=some (.lst eN)->TL H' b (f z h)->Q (.ref p) H'
section
variable {K:aD}{X:Cs}{bh:AI}{H:Hp}{Q:VK}{E:XK}{n:ν}{bk ct:ν}
theorem Ou{wo:AI}(q:RrQ X wo H Q):vQ (Ux X) ξ [↑wo,none] H:=by
 obtain⟨T,s,A,M,hs,k,wt,x,j,aw,kw,hb,hk,lw,nq,q⟩:=q;unfold vQ;apply⟨wo,rfl,T,s,A,M,hs,k,wt,x,j,aw,kw,hb,hk,lw,nq,λm r D u o l f F C b t d=>?_⟩;ext
 by_cases z:m=0
 ·subst z;refine lR (λy=>absurd y ε) λ_=>?_;apply⟨ε,λp hp=>?_⟩;have c:=aL hp (.lst []);exact q 0 r _ u o p [] l f (b.trans (cY.same b.wt c)) (t.same c) d (cY.free b hp) (b.wt p hp) ao (λa h=>nomatch h) TL.nil
 ·refine lR a8 λy=>absurd (by show(0:Int)<(m:Int);omega) y;apply⟨bD ζ,λtp e=>?_⟩;generalize E:upd D tp _=H2;obtain⟨c,B⟩:=nwO e E;have v:=b.wt.same c;have g:=b.trans (cY.same b.wt c);have w:=t.same c;have t2:=b.wt tp e;apply⟨by show 1<=_;decide,λp hp=>?_⟩;have i:=aL hp (.lst [.ref tp]);refine q m r _ u o p [tp] l f (g.trans (cY.same v i)) (w.same i) d (cY.free g hp) (v p hp) ao (λa h=>by rw[List.mem_singleton.mp h];exact t2) ?_;unfold swL;rw[if_neg z];exact TL.one (i _ _ B)
abbrev Tm(σ:St)(te:TE)(r:kO):Prop:=∀H (Q:VK),(∀p,H p=none->Q (.ref p) (upd H p (.tup (rV r))))->te σ H Q
abbrev Ra(σ:St)(ta:TA)(rs:List kO):Prop:=∀H (Q:List V->Hp->Prop),(∀as H',bA H H'->(∀a∈as,H a=none)->TL H' as rs->Q (as.map V.ref) H')->ta σ H Q
theorem xT{σ:St}:Ra σ aG []:=λH Q h=>h [] H (bA.refl _) (λa h=>nomatch h) TL.nil
theorem dB{σ:St}{d:TE}{e:TA}{r:kO}{rs:List kO}(h1:Tm σ d r)(h2:Ra σ e rs):Ra σ (aj d e) (r::rs):=λH Q h=>by
 refine h1 H _ λp c=>?_;have f:=aL c (.tup (rV r));refine h2 _ _ λg H' b i tl=>h (p::g) H' (f.trans b) (λa ha=>?_) (TL.app (TL.one (b _ _ ao)) tl);rcases List.mem_cons.mp ha with rfl | ha
 ·exact c
 ·exact f.free (i a ha)
theorem xU{σ:St}{c:TA}{rs:List kO}(h1:Ra σ c rs)(hl:rs.length<=100)(h:∀p b H',bA H H'->H p=none->(∀a∈b,H a=none)->H' p=some (.lst eN)->TL H' b rs->Q (.ref p) H'):eU c σ H Q:=by
 refine h1 H _ λb H' f g tl=>⟨by rw[aX,tl.1];exact bD δ,λp e=>?_⟩;have d:=aL e (.lst eN);exact h p b _ (f.trans d) (f.free e) g ao (tl.same d)
theorem ZK{z:Str}{σ:St}{A B:TE}{a b:Nat}(c:∀H (Q:VK),Q (.int a) H->A (some (.str z)::σ) H Q)(d:∀H (Q:VK),Q (.int b) H->B (some (.str z)::σ) H Q):Tm (some (.str z)::σ) (cP (aj bq (aj (tIf (bJ (bu (qw) ρ (tC (.str "each")))) A B) aG))) (.sw (Zfh z a b)):=λH Q h=>by
 unfold Zfh at h;apply lR (λe=>?_) λe=>?_
 ·rw[if_pos e]at h;exact c _ _ ⟨by show 2<=sizeLine;decide,h⟩
 ·rw[if_neg e]at h;exact d _ _ ⟨by show 2<=sizeLine;decide,h⟩
theorem wM{z:Str}{h:Nat}(q:∀p b H',bA H H'->H p=none->(∀a∈b,H a=none)->H' p=some (.lst eN)->TL H' b (newR z h)->Q (.ref p) H'):kY ξ [some (.str z),some (.int h)] H:=by
 unfold kY;refine M5 (xU (rs:=newR z h) (dB ay (dB ay (dB ay (dB ay (dB ay (dB (ZK (λH Q h=>?_) λH Q h=>h) xT)))))) (by show 6<=100;decide) q);apply h
theorem wL{z:Str}{h:Nat}(q:∀p b H',bA H H'->H p=none->(∀a∈b,H a=none)->H' p=some (.lst eN)->TL H' b (Zhc z h)->Q (.ref p) H'):kW ξ [some (.str z),some (.int h)] H:=by
 unfold kW;refine M5 (xU (rs:=Zhc z h) (dB ay (dB ay (dB ay (dB ay (dB (ZK (λH Q h=>h) λH Q h=>h) (dB ay (dB ay (dB (ZK (λH Q h=>?_) λH Q h=>h) xT)))))))) (by show 8<=100;decide) q);apply h
end
def slt(M:Wm)(h s:Nat):Option AA:=(M.hands[h]?).bind λm=>m.2[s]?
def Ph(M:Wm):List kO->Wm
 | []=>M
 | .sw _::l=>Ph M l
 | .dd d::l=>Ph (stM M (jM M d)) l
section
variable {M N:Wm}{hs:zu}{k:Nat}
theorem Zrn(h s h' s':Nat)(x:AA):slt (setSlot M h s x) h' s'=if h=h'/\s=s' then(slt M h' s').map (λ_=>x)else slt M h' s':=by
 unfold slt setSlot;rw[List.getElem?_modify];cases hm:M.hands[h']? with
 | none=>simp
 | some m=>
  by_cases z:h=h'
  ·subst z;simp only[if_pos,Option.map_some,Option.bind_some,true_and];show(m.2.set s x)[s']? =_;rw[List.getElem?_set]
   by_cases y:s=s'
   ·subst y;rw[if_pos rfl,if_pos rfl];cases hs:m.2[s]? with
    | none=>
     rw[if_neg (by have:=List.getElem?_eq_none_iff.mp hs;omega)];rfl
    | some y=>rw[if_pos (cL hs).1];rfl
   ·rw[if_neg y,if_neg y]
  ·rw[if_neg (λy=>z y.1)];simp[z]
theorem Zkf(M:Wm)(a b:List kO):Ph M (a++b)=Ph (Ph M a) b:=by
 induction a generalizing M with
 | nil=>rfl
 | cons r a ih=>
  cases r with
  | sw n=>exact ih M
  | dd d=>exact ih _
def DrL(l:List kO):Prop:=∀r∈l,∃h s,r=.dd (.drop h s)
theorem Zke:∀(l:List kO),DrL l->∀(M:Wm) (h s:Nat),(slt (Ph M l) h s=slt M h s/\kO.dd (.drop h s)∉l)\/slt (Ph M l) h s=(slt M h s).map (λ_=>none)
 | [],_,M,h,s=>.inl ⟨rfl,ζ⟩
 | r::l,d,M,h,s=>by
  obtain⟨h0,a,rfl⟩:=d r ζ;have ih:=Zke l (λx hx=>d x (by simp[hx])) (setSlot M h0 a none) h s;have e:Ph M (.dd (.drop h0 a)::l)=Ph (setSlot M h0 a none) l:=rfl;rw[e];rw[Zrn]at ih
  by_cases z:h0=h/\a=s
  ·rw[if_pos z]at ih;refine .inr ?_;rcases ih with ⟨ih,_⟩ | ih
   ·exact ih
   ·rw[ih,Option.map_map];rfl
  ·rw[if_neg z]at ih;rcases ih with ⟨ih,nm⟩ | ih
   ·refine .inl ⟨ih,λy=>?_⟩;rcases List.mem_cons.mp y with y | y
    ·cases y;exact z ⟨rfl,rfl⟩
    ·exact nm y
   ·exact .inr ih
theorem P0{n:Nat}{r:kO}(hr:r∈oO M n):∃h s p,r=.dd (.drop h s)/\h<n/\slt M h s=some (some p):=by
 obtain⟨h,b,hr⟩:=List.mem_flatMap.mp hr;obtain⟨s,hs,e⟩:=List.mem_filterMap.mp hr;split at e
 ·rename_i z
  cases e;cases hm:(heldOf M)[h]? with
  | none=>rw[hm]at z;exact nomatch z
  | some l=>
   rw[hm]at z;have z:(l[s]?).join.isSome=true:=z;unfold heldOf at hm;rw[bV]at hm;obtain⟨m,em,rfl⟩:=Option.map_eq_some_iff.mp hm;cases a:m.2[s]? with
   | none=>rw[a]at z;exact nomatch z
   | some y=>
    cases y with
    | none=>rw[a]at z;exact nomatch z
    | some p=>exact⟨h,s,p,rfl,List.mem_range.mp b,by unfold slt;rw[em];exact a⟩
 ·cases e
theorem Zsn{h s:Nat}{p:Int}(e:slt M h s=some (some p)):kO.dd (.drop h s)∈oO M M.hands.length:=by
 unfold slt at e;cases hm:M.hands[h]? with
 | none=>rw[hm]at e;exact nomatch e
 | some m=>
  rw[hm]at e;have e:m.2[s]? =some (some p):=e;refine List.mem_flatMap.mpr ⟨h,List.mem_range.mpr (cL hm).1,?_⟩;have a:((heldOf M)[h]?).getD []=m.2:=by unfold heldOf;rw[bV,hm];rfl
  rw[a];refine List.mem_filterMap.mpr ⟨s,List.mem_range.mpr (cL e).1,?_⟩;rw[e];rfl
theorem Zx6:Em (Ph M dt):=by
 intro m hm y hy;obtain⟨h,c,em⟩:=List.getElem_of_mem hm;obtain⟨s,hs,b⟩:=List.getElem_of_mem hy;have a:slt (Ph M dt) h s=some y:=by
  unfold slt;rw[bG c,em];show m.2[s]? =_;rw[bG hs,b]
 have dl:DrL dt:=λr hr=>let ⟨h,s,_,e,_⟩:=P0 hr;⟨h,s,e⟩
 rcases Zke _ dl M h s with ⟨z,nm⟩ | z
 ·rw[a]at z;cases y with
  | none=>rfl
  | some p=>exact absurd (Zsn z.symm) nm
 ·rw[a]at z;cases hq:slt M h s with
  | none=>rw[hq]at z;cases z
  | some w=>rw[hq]at z;cases z;rfl
end
inductive ReQ(X:Cs)(wo:AI)(H:Hp)(Q:VK):Prop
 | mk (T s A M hs k) (_:WT H T) (_:s≠0) (_:WJ X H T s A M) (_:A.wo=wo) (_:KW M hs k) (_:ZD hs) (_:k<=300) (_:Nl M) (_:Iv M) (_:M.sw.phase=("rest":Str)) (_:∀e M1 n2 M2 p as H' T',eO 0 [] (Ph M (oO M M.hands.length)) e M1->wV M1 n2 M2->cY s H H' T T'->H p=none->H' p=some (.lst (as.map V.ref))->TL H' as (oO M M.hands.length++[.sw (1+n2)])->as.length<=200->Q (.ref p) H'):ReQ X wo H Q
def zb(X:Cs):Sp:=λvs H Q E=>∃wo,vs=[.ref wo]/\ReQ X wo H Q
section
variable {K:aD}{X:Cs}{bh:AI}{H:Hp}{Q:VK}{E:XK}{n:ν}{bk ct:ν}
theorem Zut{M:Wm}{hs:zu}{k:Nat}(kw:KW M hs k){h s:Nat}{p:Int}(e:slt M h s=some (some p)):okW hs (.dd (.drop h s)):=by
 unfold slt at e;cases hm:M.hands[h]? with
 | none=>rw[hm]at e;exact nomatch e
 | some m=>
  rw[hm]at e;have e:m.2[s]? =some (some p):=e;have lt:=(cL e).1;have b:=(cL hm).1;have a:hs[h]? =some (hs[h]'(by rw[<- kw.hl];exact b)):=bG _;have:=kw.hn h m _ hm a;exact⟨_,a,δ⟩
theorem Jy{wo:AI}(q:ReQ X wo H Q):sS K (Zy X) (cC X Zdz) (Ux X) (rz X) ξ [↑wo,none,none] H:=by
 obtain⟨T,s,A,M,hs,k,wt,t,j,aw,kw,hb,hk,nl,iv,ph,q⟩:=q;have n5:=hb.n5;have hl:=kw.hl;have l9:∀m∈M.hands,m.2.length<=30:=λm hm=>by
  obtain⟨i,hi,e⟩:=List.getElem_of_mem hm;have e1:M.hands[i]? =some m:=by rw[bG hi,e]
  have e2:hs[i]? =some (hs[i]'(by rw[<- hl];exact hi)):=bG _;have h1:=kw.hn i m _ e1 e2;have h2:=hb.sb _ (List.mem_of_getElem? e2);omega
 have cl:=kw.cl;unfold sS;apply⟨wo,rfl,T,s,A,M,j,aw,iv.wg,δ,δ,l9,λp l H1 s1 hp fr cp tl le=>?_⟩;have dm:∀r∈oO M M.hands.length,∃h s p,r=.dd (.drop h s)/\slt M h s=some (some p):=λr hr=>let ⟨h,s,p,a,_,b⟩:=P0 hr;⟨h,s,p,a,b⟩
 have tp:T p=(0,0):=wt p hp;have ta:∀a∈l,T a=(0,0):=λa ha=>wt a (fr a ha);have j1:=j.same s1;have P:=wt.same s1;have I:cY s H H1 T T:=cY.same wt s1;have ln:=tl.1;generalize oO M M.hands.length=D at dm tl le q ln;apply⟨p,rfl,⟨_,cA.of cp⟩,forL (l.map V.ref) (λi O J=>∃B x N v2,O=[↑wo,↑p,v2]/\cY s H1 J T B/\WJ X J B s x N/\x.wo=wo/\KW N hs (k+i)/\Nl N/\Iv N/\N.sw.phase=("rest":Str)/\N=Ph M (D.take i)) ⟨T,A,M,none,rfl,cY.refl P,j1,aw,kw,nl,iv,ph,rfl⟩ (by rintro i O J _ ⟨_,_,_,_,_,st,_⟩;exact cA.of (st.kp _ _ cp (by rw[tp];exact λz=>t z.symm))) ?_ ?_⟩
 ·rintro i v O J hv ⟨B,x,N,v2,rfl,c,jx,u,E,nx,g,L,C⟩;rw[bV]at hv;obtain⟨a,ha,rfl⟩:=Option.map_eq_some_iff.mp hv;obtain⟨r,er,hd⟩:=tl.2 i a ha;obtain⟨h,s',p',rfl,e0⟩:=dm r (List.mem_of_getElem? er);have hi:i<D.length:=(cL er).1;have hd':=c.kp _ _ hd (by rw[ta a (List.mem_of_getElem? ha)];exact λz=>t z.symm);have et:Ph M (D.take b9)=stM N (jM N (.drop h s')):=by rw[List.take_add_one,er,Zkf,<- C];rfl
  apply⟨wo,a,rfl,.inl ⟨B,s,x,N,.dd (.drop h s'),hs,k+i,c.wt,t,jx,u,hd',Zut kw e0,E,hb,δ,nx,λes as' M' Hy Ty Ay b rr ne le' W f jy WQ ev hbb fb tb lo _=>?_⟩⟩;obtain⟨_,rfl⟩:=rr;apply⟨Ty,Ay,_,_,rfl,c.trans f,jy,WQ,W,nx.deed _,g.deed _,L,et.symm⟩
 ·rintro O J ⟨B,x,N,v2,rfl,c,jx,u,E,nx,g,L,C⟩;rw[aX]at E C;rw[ln,List.take_length]at C;subst C;apply⟨wo,rfl,B,s,x,Ph M D,0,[],c.wt,t,jx,u,E.ok hb δ,trivial,λy=>absurd y nx.1,λe M1 r Hy Ty Ay a f jy WQ ev lo=>?_⟩;have Y:=E.step r;apply⟨wo,rfl,Ty,s,Ay,M1,hs,_,f.wt,t,jy,WQ,Y,hb,δ,g.lw.step r,Nq.step nx r,λn2 M2 Hz Tz Az tr kw2 lw2 nq2 o jz awz=>?_⟩;have d:=c.trans (f.trans o);have cpz:=d.kp _ _ cp (by rw[tp];exact λz=>t z.symm);have S:TL Hz l D:=⟨tl.1,λi a ha=>let ⟨r,h1,h2⟩:=tl.2 i a ha;⟨r,h1,d.kp _ _ h2 (by rw[ta a (List.mem_of_getElem? ha)];exact λz=>t z.symm)⟩⟩;apply⟨bD ζ,λZ U=>?_⟩;generalize w:upd Hz Z _=Hw;obtain⟨z1,c1⟩:=nwO U w;apply⟨by show 1<=_;decide,λlq nlq=>?_⟩;generalize w:upd Hw lq _=Hv;obtain⟨z2,c2⟩:=nwO nlq w;ext;have w:=z1.trans z2;refine⟨p,lq,_,_,rfl,rfl,w _ _ cpz,c2,bD (by rw[aX];show l.length+1<=1000000;omega),λrq F=>?_⟩;have z3:=aL F (.lst (l.map V.ref++[.ref Z]));have zq:=w.trans z3;have R:cY s H _ T Tz:=(I.trans d).trans (cY.same o.wt zq);refine q e M1 n2 M2 rq (l++[Z]) _ Tz r tr R (cY.free (I.trans (d.trans (cY.same o.wt w))) F) (by rw[ao,List.map_append];rfl) ?_ (by rw[List.length_append];show l.length+1<=200;omega);exact(S.same zq).app (TL.one ((z2.trans z3) _ _ c1))
end
def ndI(w:Int):Int:=if w=0 then 1 else if w=1 then 3 else 2
def Z9(w t:Int):Bool:=decide (Builtin.bitAnd t (ndI w)=ndI w)
def wdS(w:Int):Str:=if w=0 then "first" else if w=1 then "each" else "last"
def wA(w t:Int)(h:Nat):List kO:=if Builtin.bitAnd t 1=0/\w≠2 then Zhc (wdS w) h else newR (wdS w) h
def U3(X:Cs):Sp:=λvs H Q E=>∃a,vs=[.ref a]/\∃lk w t,KdO X H a lk w t/\Q (.bl (Z9 w t)) H
def Dr(X:Cs):Sp:=λvs H Q E=>∃(c:AI) (h:Nat),vs=[.ref c,.int h]/\∃lk w t,KdO X H c lk w t/\∀p b H',bA H H'->H p=none->(∀a∈b,H a=none)->H' p=some (.lst eN)->TL H' b (wA w t h)->Q (.ref p) H'
section
variable {K:aD}{X:Cs}{bh:AI}{H:Hp}{Q:VK}{E:XK}{n:ν}{bk ct:ν}
theorem W6{b:AI}(a:j6 K X)(q:∃lk w t,KdO X H b lk w t/\Q (.bl (Z9 w t)) H):Aw K X.E X.F X.L (gW (.int 3)) (gW (.int 1)) (gW (.int 2)) ξ [↑b,none] H:=by
 obtain⟨lk,w,t,⟨⟨d1,hp⟩,⟨dl,ol⟩⟩,h⟩:=q;unfold Aw;ext;rcases ol with ⟨rfl,o⟩ | ⟨rfl,o⟩ | ⟨rfl,o⟩
 ·refine BP ?_;apply aH hp a.cK a.nKl cT ?_;exists lk,dl,_,rfl,o,rfl;exists lk,rfl;apply aH hp a.cK a.nKt fD ?_;apply h
 ·refine pL (BP ?_);apply aH hp a.cK a.nKl cT ?_;exists lk,dl,_,rfl,o,rfl;exists lk,rfl;apply aH hp a.cK a.nKt fD ?_;apply h
 ·refine pL (pL ?_);apply aH hp a.cK a.nKl cT ?_;exists lk,dl,_,rfl,o,rfl;exists lk,rfl;apply aH hp a.cK a.nKt fD ?_;apply h
theorem Ov{d:AI}{h:Nat}(b:j6 K X)(q:∃lk w t,KdO X H d lk w t/\∀p c H',bA H H'->H p=none->(∀a∈c,H a=none)->H' p=some (.lst (c.map V.ref))->TL H' c (wA w t h)->Q (.ref p) H'):vR K X.E X.F X.L (gW (.str "each")) (gW (.str "first")) (gW (.str "last")) (Qe newR) (Qe Zhc) ξ [↑d,some (.int h),none] H:=by
 obtain⟨lk,w,t,⟨⟨d1,hp⟩,⟨dl,ol⟩⟩,q⟩:=q;unfold vR;ext;unfold wA at q;rcases ol with ⟨rfl,o⟩ | ⟨rfl,o⟩ | ⟨rfl,o⟩
 ·refine BP ?_;apply aH hp b.cK b.nKl cT ?_;exists lk,dl,_,rfl,o,rfl;exists lk,rfl;apply aH hp b.cK b.nKt fD ?_;apply lR ci λz=>?_
  ·ext;rw[if_pos ε];ext;rw[if_pos ⟨z,ε⟩]at q;exact⟨_,h,rfl,q⟩
  ·ext;rw[if_neg (λy=>z y.1)]at q;exact⟨_,h,rfl,q⟩
 ·refine pL (BP ?_);apply aH hp b.cK b.nKl cT ?_;exists lk,dl,_,rfl,o,rfl;exists lk,rfl;apply aH hp b.cK b.nKt fD ?_;apply lR ci λz=>?_
  ·ext;rw[if_pos ε];ext;rw[if_pos ⟨z,ε⟩]at q;exact⟨_,h,rfl,q⟩
  ·ext;rw[if_neg (λy=>z y.1)]at q;exact⟨_,h,rfl,q⟩
 ·refine pL (pL ?_);apply aH hp b.cK b.nKl cT ?_;exists lk,dl,_,rfl,o,rfl;exists lk,rfl;apply aH hp b.cK b.nKt fD ?_;apply lR ci λz=>?_
  ·ext;rw[if_neg ε];ext;rw[if_neg (λy=>y.2 rfl)]at q;exact⟨_,h,rfl,q⟩
  ·ext;rw[if_neg (λy=>z y.1)]at q;exact⟨_,h,rfl,q⟩
end
def UnR(m:Int)(hs:zu)(w t:Int)(rs b:List kO):Prop:=∃d c n a,Kl (O1 m hs w t) rs d c/\wV c n a/\((a.sw.phase=("lost":Str)/\b=swL n)\/(a.sw.phase=("rest":Str)/\∃e M1 n2 M2,eO 0 [] (Ph a (oO a a.hands.length)) e M1/\wV M1 n2 M2/\b=swL n++(oO a a.hands.length++[.sw (1+n2)])++wA w t hs.length))
inductive UnQ(CS:AI)(X:Cs)(sc:AI)(H:Hp)(Q:VK):Prop
 | mk (dx m kd hl rl lk w t hs) (rs:List kO) (_:H sc=some (.ins CS dx (nH m kd hl rl))) (_:KdO X H kd lk w t) (_:0<=t) (_:t<4) (_:(w=0\/w=1\/w=2)) (_:HsO H hl hs) (_:ZD hs) (_:RwL H rl rs) (_:rs.length<=100) (_:(∀r∈rs,okW hs r)) (_:Z9 w t=false) (_:∀p as H' out,bA H H'->UnR m hs w t rs out->H p=none->H' p=some (.lst (as.map V.ref))->TL H' as out->Q (.ref p) H'):UnQ CS X sc H Q
section
variable {K:aD}{X:Cs}{bh cN:AI}{H:Hp}{Q:VK}{E:XK}{n:ν}{bk ct:ν}
theorem Zd4{sc:AI}(TT:TxS K X bh)(q:UnQ bh X sc H Q):uE K X.K cN (U3 X) (zb X) (Dr X) (Dp X) (UW bh X) E ξ [↑sc,none,none] H:=by
 obtain⟨dx,m,R,hl,rl,lk,w,t,hs,rs,o,kk,t0,t1,ww,O,hb,hr,h1,rok,un,h⟩:=q;obtain⟨⟨d1,okd⟩,_⟩:=id kk;unfold uE;apply aH o TT.gR TT.R5 kj ?_;exists R,d1,_,rfl,okd,rfl;exists R,rfl,lk,w,t,kk;rw[un];apply⟨false,by first | exact .inl rfl | exact⟨_,rfl,rfl⟩ | exact rfl | simp[Zio],?_⟩;apply⟨sc,rfl,dx,m,R,hl,rl,lk,w,t,hs,rs,o,kk,t0,t1,ww,O,hb,hr,h1,rok,λH1 T1 A lg l S I T rn C wb j1=>?_⟩;have lw:Nq l/\Lw l:=by
  rcases wb with ⟨a,b⟩ | ⟨a,b⟩
  ·exact⟨.inr a,b⟩
  ·exact⟨.inl a,b.lw⟩
 apply⟨A.wo,rfl,T1,1,A,l,hs,101,T,ε,j1,rfl,C,hb,δ,lw.2,lw.1,λk W H2 T2 A2 g c J kw2 s j2 M P tp1 p ta1 j=>?_⟩;have F:bA H H2:=λb o hb=>s.kp _ _ (S _ _ hb) (by rw[I b o hb];decide);have tg2:∀b o,H b=some o->T2 b=(0,0):=λb o hb=>by rw[s.tg _ _ (S _ _ hb)];exact I b o hb
 obtain⟨d3,ow⟩:=j2.jb.ow;obtain⟨d4,os⟩:=j2.js.os;rw[M]at ow;apply aH ow TT.w.cW TT.w.JN aV ?_;apply aH os TT.w.cS TT.w.n2 cR ?_;apply lR ci λz=>?_
 ·apply h g c H2 _ F ⟨lg,l,k,W,rn,J,.inl ⟨z,rfl⟩⟩ (S.free P) p j
 ·exists .inl ⟨rfl,_,cA.of p⟩;have nlb:Nl l/\Iv l:=by
   rcases wb with ⟨a,_⟩ | y
   ·cases J with
    | done _=>exact absurd a z
    | go _ y _ _=>exact absurd a y
   ·exact y
  obtain⟨nr,ir⟩:=J.iv lw.1 nlb.2 C z;have ph:=J.end_.resolve_right z;apply⟨A.wo,rfl,T2,1,A2,W,hs,101,s.wt,ε,j2,M,kw2,hb,δ,nr,ir,ph,λe M1 n2 M2 p2 d B T3 sr tr2 v np2 Z tl2 le2=>?_⟩;have L:=v.kp _ _ p (by rw[tp1];decide);have tl3:TL B c (swL k):=⟨j.1,λi a ha=>let ⟨r,g1,g2⟩:=j.2 i a ha;⟨r,g1,v.kp _ _ g2 (by rw[ta1 a (List.mem_of_getElem? ha)];decide)⟩⟩;have sm3:bA H B:=λb o hb=>v.kp _ _ (F _ _ hb) (by rw[tg2 b o hb];decide);have l1:c.length<=1:=by
   rw[j.1];unfold swL;split
   ·exact Nat.zero_le _
   ·exact Nat.le_refl _
  apply⟨g,p2,_,_,rfl,rfl,L,Z,by rw[aX,aX];exact bD δ,?_⟩;have x:H g=none:=S.free P;have f:bA H (upd B g (.lst (c.map V.ref++d.map V.ref))):=λb o hb=>by rw[aB (aF hb x)];exact sm3 _ _ hb
  have c4:upd B g (.lst (c.map V.ref++d.map V.ref)) g=some (.lst ((c++d).map V.ref)):=by rw[ao,List.map_append]
  have D:=(tl3.app tl2).put (o:=.lst (c.map V.ref++d.map V.ref)) L;generalize upd B g (.lst (c.map V.ref++d.map V.ref))=H4 at f c4 D ⊢;exists .inl ⟨rfl,_,cA.of c4⟩;apply aH (f _ _ o) TT.gR TT.R5 kj ?_;apply aH (f _ _ o) TT.gR TT.PJ nG ?_;ext;obtain⟨hts,U,Y⟩:=id O;refine eV (cA.of (f _ _ U)) ?_;rw[aX,Y.length];apply⟨R,hs.length,rfl,lk,w,t,kk.same f,λp5 u H5 s5 np5 fr5 cp5 N=>?_⟩;have c5:=s5 _ _ c4;have l5:u.length<=8:=by
   rw[N.1];unfold wA;split
   ·show 8<=8;exact Nat.le_refl _
   ·show 6<=8;omega
  apply⟨g,p5,_,_,rfl,rfl,c5,cp5,by rw[aX,aX,List.length_append];exact bD δ,?_⟩;have sm6:bA H (upd H5 g (.lst ((c++d).map V.ref++u.map V.ref))):=λb o hb=>by rw[aB (aF hb x)];exact s5 _ _ (f _ _ hb)
  apply h g (c++d++u) _ _ sm6 ⟨lg,l,k,W,rn,J,.inr ⟨ph,e,M1,n2,M2,sr,tr2,rfl⟩⟩ x (by rw[ao,List.map_append (l₁:=c++d)]) (((D.same s5).app N).put c5)
end
def uw(c e:AI)(X:Cs):Sp:=λvs H Q E=>∃a,vs=[.ref a]/\(UnQ c X a H Q\/∃dx m b hl d lk w t,H a=some (.ins c dx (nH m b hl d))/\KdO X H b lk w t/\Z9 w t=true/\E (.ref e) none H)
def Uv:Sp:=λvs H Q E=>∃i,vs=[.int i]/\Q (.bl true) H
def Uz:Sp:=λvs H Q E=>∃z,vs=[.int z]/\∀H',bA H H'->Q (.bl (Z9 (z % 3) (z / 3 % 4))) H'
def aI(r:kO):Prop:=∃(w:Str) (is:AE),rV r=V.str w::is.map V.int/\is≠[]/\is.length<=9
inductive Zix(a:AI)(H:Hp)(Q:VK):Prop
 | mk (r) (_:H a=some (.tup (rV r))) (_:aI r) (_:∀H',bA H H'->Q (.bl true) H'):Zix a H Q
def Zj2:Sp:=λvs H Q E=>∃a,vs=[.ref a]/\Zix a H Q
section
variable {K:aD}{X:Cs}{bh cN:AI}{H:Hp}{Q:VK}{E:XK}{n:ν}{bk ct:ν}
theorem U5{a:AI}(q:Q (.int 1) H):xR ξ [↑a] H:=by unfold xR;apply q
theorem Xa{a:AI}(q:Q (.int 3) H):Bb ξ [↑a] H:=by unfold Bb;apply q
theorem W5{a:AI}(q:Q (.int 2) H):Av ξ [↑a] H:=by unfold Av;apply q
theorem Zgd{b:AI}(TT:TxS K X bh)(q:UnQ bh X b H Q\/∃dx m a hl d lk w t,H b=some (.ins bh dx (nH m a hl d))/\KdO X H a lk w t/\Z9 w t=true/\E (.ref cN) none H):uE K X.K cN (U3 X) (zb X) (Dr X) (Dp X) (UW bh X) E ξ [↑b,none,none] H:=by
 rcases q with q | ⟨dx,m,a,hl,d,lk,w,t,o,kk,e,h⟩
 ·exact Zd4 TT q
 obtain⟨⟨d1,c⟩,_⟩:=id kk;unfold uE;apply aH o TT.gR TT.R5 kj ?_;exists a,d1,_,rfl,c,rfl;exists a,rfl,lk,w,t,kk;rw[e];apply⟨true,by first | exact .inl rfl | exact⟨_,rfl,rfl⟩ | exact rfl | simp[Zio],?_⟩;apply⟨ε,h⟩
theorem WR{i:Int}(q:Q (.bl true) H):rF ξ [some (.int i)] H:=by
 unfold rF;apply q
theorem WX{z:Int}(q:∀H',bA H H'->Q (.bl (Z9 (z % 3) (z / 3 % 4))) H'):An K ξ [some (.int z),none] H:=by
 unfold An;apply⟨by show 3<=_;decide,λp a=>?_⟩;generalize c:upd H p _=H1;obtain⟨d,b⟩:=nwO a c;ext;have f:z % 3=0\/z % 3=1\/z % 3=2:=δ
 refine gQ (v:=.int (ndI (z % 3))) (cA.of b) (by rcases f with e | e | e<;>rw[e]<;>rfl) ?_;apply q H1 d
theorem Zze(x:V)(fs:List V):IV (x::fs) (some 1) none=fs:=by
 unfold IV;have e:HT.fX (x::fs).length 0 (some 1)=1:=by
  simp only[HT.fX];rw[if_neg ε];have:(x::fs).length=fs.length+1:=rfl;omega
 rw[e];show(fs.take _)=fs;refine List.take_of_length_le ?_;show fs.length<=HT.fX (fs.length+1) (fs.length+1) none - 1;rw[HT.Zdj];omega
theorem W2{a:AI}(q:Zix a H Q):rG K Uv ξ [↑a,none] H:=by
 obtain⟨r,ha,⟨w,is,e,ne,le⟩,q⟩:=q;rw[e]at ha;unfold rG;exists _,_,"tuple",true,rfl,by simp only[tyN,ha],γ,true,rfl;refine Hq ?_;exists a,_,rfl,.inr (dU.of ha);apply lR ci λ_=>?_
 ·rw[List.length_cons,aX]at z;have:=List.length_pos_iff.mpr ne;omega
 exists a,_,0,.str w,rfl,rfl,dU.of ha,je ε rfl;apply⟨a,_,rfl,dU.of ha,?_,λp hp=>?_⟩
 ·exact λz=>by
   have:=HT.Pu (V.str w::is.map V.int).length 0 1;rw[show((1:Nat):Int)=1 from rfl]at this;rw[this]at z;simp only[List.length_cons]at z;omega
 rw[Zze];generalize g:upd H p _=H1;obtain⟨h,d⟩:=nwO hp g;refine⟨p,rfl,⟨_,dU.of d⟩,ZB8 (is.map V.int) (λi c b=>b=H1/\∃x,c=[↑a,x]) ⟨rfl,_,rfl⟩ (by rintro i c b _ ⟨e,_⟩;rw[e];exact dU.of d) ?_ ?_⟩
 ·rintro i x c b hx ⟨rfl,y,rfl⟩;rw[bV]at hx;obtain⟨f,j,rfl⟩:=Option.map_eq_some_iff.mp hx;exists f,rfl,true,rfl;refine Hq ?_;apply⟨rfl,_,rfl⟩
 ·rintro c b ⟨rfl,y,rfl⟩;apply q _ h
end
def FrR(M:Wm)(k:Nat)(a:Wm):Prop:=∃e N,eO 0 [] M e N/\wV N k a
section
variable {M N M':Wm}{lb:Int}{lw:AE}{e:Ev}{hs:zu}{k n:Nat}
theorem Zxw(l:Lw M)(kw:KW M hs k)(hb:ZD hs):rm M<=4 * k+9:=by
 have h1:=kw.cl;have h2:JB M<=M.cells.length:=by
  unfold JB;have:=List.countP_le_length (p:=λj:Nat=>gC M (j:Int)) (l:=List.range M.cells.length);rw[List.length_range]at this;exact this
 have g:lkN M<=5:=by
  unfold lkN;split
  ·have:=Zv3 M.sw.looked M.hands.length;have:=kw.hl;have:=hb.n5;omega
  ·omega
 have e:=l.sp;have d:=kw.a0;unfold rm;split
 ·rename_i ph
  have f:M.sw.grey.length<=M.cells.length:=by
   obtain⟨a,b⟩:=kw.gr ph;exact Gz _ _ a λx hx=>let ⟨c,hc,_⟩:=b x hx;uv hc
  omega
 ·split<;>omega
theorem wV.le(h:wV M n M'):Lw M->KW M hs k->n<=rm M:=by
 induction h with
 | done _=>exact λ_ _=>Nat.zero_le _
 | go a b s _ ih=>
  intro l kw;have:=Zjh l kw.a0 a b s;have:=ih (l.step s) (kw.step s);omega
theorem step_any(h:eO lb lw M e N)(nl:M.sw.phase≠("lost":Str)):eO 0 [] M e N:=by
 cases h with
 | begin ph=>exact .begin ph
 | walk x g c ph a hc=>exact .walk x g c ph a hc
 | look l ph a n m=>exact .look l ph a n m
 | cut q d ph a f k b=>exact .cut q d ph a f k b
 | lost q d i x c v ph a f k hx b hc j=>exact .lost q d i x c v ph a f k hx b hc j
 | pass ph lt hp=>exact .pass ph lt hp
 | back c ph lt hc j=>exact .back c ph lt hc j
 | fin ph lt=>exact .fin ph lt
 | again ph=>exact absurd ph nl
theorem wV.next{a:Wm}{c:Int}{d:AE}{h:Ev}(nl:Nl M)(s:eO lb lw M e N)(t:wV N n M')(f:eO c d M h a):∃g,wV a n g:=by
 obtain⟨j,em⟩:=rZ nl s f;rcases nl.step s with ⟨b,k⟩ | ⟨b,n1⟩
 ·have i:a.sw.phase=("lost":Str):=by
   rcases nl.step f with ⟨_,p⟩ | ⟨w,_⟩
   ·exact p
   ·exact absurd (j ▸ b) w
  cases t with
  | go _ z _ _=>exact absurd k z
  | done _=>exact⟨a,.done (.inr i)⟩
 ·have:=em b;subst this;exact⟨M',t⟩
end
inductive LtQ(X:Cs)(wo ra:AI)(H:Hp)(Q:VK):Prop
 | mk (T s A M hs k m Mx) (_:WT H T) (_:s≠0) (_:WJ X H T s A M) (_:A.wo=wo) (_:KW M hs k) (_:ZD hs) (_:k<=900) (_:Lw M) (_:Nl M) (_:H ra=some (.tup (rV (.sw (1+m))))) (_:FrR M m Mx) (_:∀M' H' T' A',FrR M m M'->KW M' hs k->Lw M'->Nq M'->cY s H H' T T'->WJ X H' T' s A' M'->A'.wo=wo->Q (.bl true) H'):LtQ X wo ra H Q
def zP(X:Cs):Sp:=λvs H Q E=>∃wo a,vs=[.ref wo,.ref a]/\LtQ X wo a H Q
section
variable {K:aD}{X:Cs}{bh:AI}{H:Hp}{Q:VK}{E:XK}{n:ν}{bk ct:ν}
theorem Zud{wo:AI}{T:Tg}{s:Nat}{A:Wa}{N:Wm}{g i:Option V}(c:j6 K X)(j:WJ X H T s A N)(aw:A.wo=wo)(h:∀f,bA H f->Q (.bl (decide (N.sw.phase=("rest":Str)\/N.sw.phase=("lost":Str)))) f):(bu (rIn K false) eg (cP (aj (tC (.str "rest")) (aj dL aG)))) [↑wo,g,i] H Q:=by
 obtain⟨d1,ow⟩:=j.jb.ow;obtain⟨d2,os⟩:=j.js.os;rw[aw]at ow;apply aH ow c.cW c.JN aV ?_;apply aH os c.cS c.n2 cR ?_;apply⟨bD ζ,λtp d=>?_⟩;have k:=aL d (.tup [V.str "rest",.str "lost"]);refine⟨tp,_,rfl,.inr (dU.of ao),rfl,?_⟩;have:=h _ k;have e:inV (V.str N.sw.phase) [V.str "rest",V.str "lost"]=decide (N.sw.phase=("rest":Str)\/N.sw.phase=("lost":Str)):=by
  by_cases a:N.sw.phase=("rest":Str)
  ·rw[a];rfl
  ·by_cases b:N.sw.phase=("lost":Str)
   ·rw[b];rfl
   ·rw[decide_eq_false (λz=>z.elim a b)];simp[inV,eqV,Ne.symm a,Ne.symm b]
 rw[<- e]at this;exact⟨rfl,this⟩
theorem Pk{wo o:AI}(R:j6 K X)(q:LtQ X wo o H Q):vU K (cC X Zdz) ξ [↑wo,↑o,none] H:=by
 obtain⟨T,s,A,M,hs,k,m,Y,wt,U,j,rfl,kw,hb,hk,lw,nl,p,⟨e0,N0,g,E⟩,q⟩:=q;have Z:m<=4000:=by
  have:=E.le (lw.step g) (kw.step g);have:=Zxw (lw.step g) (kw.step g) hb;omega
 unfold vU;exists o,_,0,.str "sweep",rfl,rfl,dU.of p,je ε rfl;apply Wu (λz=>absurd rfl z) λ_=>?_;exists o,_,rfl,.inr (dU.of p);apply Wu (λz=>absurd rfl z) λ_=>?_;exists o,_,1,.int ((1+m:Nat):Int),rfl,rfl,dU.of p,je ε rfl;apply lR (λz=>δ) λ_=>?_;exists o,_,1,.int ((1+m:Nat):Int),rfl,rfl,dU.of p,je ε rfl;exists _,rfl,δ,δ;rw[Int.toNat_natCast];refine forR (λi B u=>∃Ty v N C,B=[↑A.wo,↑o,C]/\cY s H u T Ty/\WJ X u Ty s v N/\v.wo=A.wo/\KW N hs k/\Lw N/\((i=0/\N=M)\/(0<i/\Nq N/\(∃w,wV N (1+m - i) w)/\∀n c,wV N n c->FrR M (i - 1+n) c))) ⟨T,A,M,none,rfl,cY.refl wt,j,rfl,kw,lw,.inl ⟨rfl,rfl⟩⟩ ?_ ?_
 ·rintro i B u hi ⟨Ty,v,N,C,rfl,d,D,aw,F,O,cs⟩;have ok:=F.ok hb hk;have L:Nl N/\∀e c,eO 0 [] N e c->(∃w,wV c (1+m - b9) w)/\∀n l,wV c n l->FrR M (i+1 - 1+n) l:=by
   rcases cs with ⟨rfl,rfl⟩ | ⟨i0,nq,⟨w,ty⟩,co⟩
   ·exact⟨nl,λe c r=>⟨by rw[show 1+m - (0+1)=m by omega];exact E.next nl g r,λn l h=>⟨e,c,r,by rw[show 0+1 - 1+n=n by omega]at *;exact h⟩⟩⟩
   ·rw[show 1+m - i=1+m - (i+1)+1 by omega]at ty;cases ty with
    | go a b st t=>
     have n1:=nq.resolve_right b;exact⟨n1,λe c r=>⟨t.next n1 st r,λn l h=>by have:=co (n+1) l (.go a b r h);rw[show i - 1+(n+1)=i+1 - 1+n by omega]at this;exact this⟩⟩
  have S:0<i->¬ (N.sw.phase=("rest":Str)\/N.sw.phase=("lost":Str)):=λh=>by
   rcases cs with ⟨rfl,_⟩ | ⟨_,nq,⟨w,ty⟩,co⟩
   ·omega
   ·rw[show 1+m - i=1+m - (i+1)+1 by omega]at ty;cases ty with
    | go a b _ _=>exact λz=>z.elim a b
  clear cs;have st:∀x,bA u x->iW (aR (cC X Zdz) [] E0 a7) ⟨(λB u=>∃Ty v N C,B=[↑A.wo,↑o,C]/\cY s H u T Ty/\WJ X u Ty s v N/\v.wo=A.wo/\KW N hs k/\Lw N/\((i+1=0/\N=M)\/(0<i+1/\Nq N/\(∃w,wV N (1+m - b9) w)/\∀n c,wV N n c->FrR M (i+1 - 1+n) c))),Q,bk,ct⟩ [↑A.wo,↑o,some (.int ((0:Int)+i))] x:=λx sz=>by
   apply⟨A.wo,rfl,Ty,s,v,N,0,[],d.wt.same sz,U,D.same sz,aw,ok,trivial,λy=>absurd y L.1.1,λe c r Hy P I a' J V W ev lo=>?_⟩;apply⟨P,I,c,_,rfl,(d.trans (cY.same d.wt sz)).trans J,V,W,F.step r,O.step r,.inr ⟨Nat.succ_pos _,Nq.step L.1 r,L.2 e c r⟩⟩
  apply lR ci λ_=>?_
  ·refine Zud R D aw λx sz=>⟨_,rfl,?_⟩;rw[decide_eq_false (S δ)];refine Hq ?_;exact st x sz
  ·exact st u (bA.refl _)
 ·rintro B u ⟨Ty,v,N,C,rfl,d,D,aw,F,O,cs⟩;rcases cs with ⟨z,_⟩ | ⟨_,nq,⟨w,ty⟩,co⟩
  ·omega
  rw[Nat.sub_self]at ty;cases ty with
  | done z=>
   refine M5 (Zud R D aw λx sz=>?_);rw[decide_eq_true z];have f:FrR M m N:=by have:=co 0 N (.done z);rw[show 1+m - 1+0=m by omega]at this;exact this
   exact q N x Ty v f F O nq (d.trans (cY.same d.wt sz)) (D.same sz) aw
end
def Kh:Sp:=λvs H Q E=>∃(z:Int) (h:Nat),vs=[.int z,.int h]/\∀p b H',bA H H'->H p=none->(∀a∈b,H a=none)->H' p=some (.lst eN)->TL H' b (wA (z % 3) (z / 3 % 4) h)->Q (.ref p) H'
section
variable {K:aD}{X:Cs}{bh:AI}{H:Hp}{Q:VK}{E:XK}{n:ν}{bk ct:ν}
theorem yL{d f:AI}{a b:AF}{e c:List kO}(i:H d=some (.lst (a.map V.ref)))(j:H f=some (.lst eN))(t1:TL H a e)(t2:TL H b c)(hl:e.length+c.length<=100)(h:∀p H',bA H H'->H p=none->H' p=some (.lst ((a++b).map V.ref))->TL H' (a++b) (e++c)->Q (.ref p) H'):Ow (.ref d) (.ref f) H Q:=by
 have l:=t1.1;have k:=t2.1;refine⟨d,f,_,_,rfl,rfl,i,j,by rw[aX,aX];exact bD δ,λp g=>?_⟩;have s:=aL g (.lst (a.map V.ref++b.map V.ref));exact h p _ s g (by rw[ao,List.map_append]) ((t1.app t2).same s)
theorem Zzj(z:Int):(Builtin.bitAnd (z / 3 % 4) 1=0/\z % 3≠2)↔¬ (z % 3=2\/z / 3 % 2=1):=by
 have h:z / 3 % 4=0\/z / 3 % 4=1\/z / 3 % 4=2\/z / 3 % 4=3:=δ
 rcases h with e | e | e | e<;>rw[e]
 ·rw[show Builtin.bitAnd 0 1=0 by decide];omega
 ·rw[show Builtin.bitAnd 1 1=1 by decide];omega
 ·rw[show Builtin.bitAnd 2 1=0 by decide];omega
 ·rw[show Builtin.bitAnd 3 1=1 by decide];omega
theorem Zyd{p q:Prop} [Decidable p] [Decidable q]{A B:TE}{t u:TS}{σ:St}(hA:∀Q:VK,Q (.bl (decide p)) H->A σ H Q)(hB:∀Q:VK,Q (.bl (decide q)) H->B σ H Q)(h1:p\/q->t ⟨n,Q,bk,ct⟩ σ H)(h2:¬ (p\/q)->u ⟨n,Q,bk,ct⟩ σ H):cZ (U9 (bJ A) (bJ B)) t u ⟨n,Q,bk,ct⟩ σ H:=by
 refine Zt3 (hA _ ⟨_,rfl,?_⟩);refine lR (λhp=>Zbg (h1 (.inl hp))) λhp=>?_;refine hB _ ⟨_,rfl,?_⟩;exact lR (λhq=>h1 (.inr hq)) λhq=>h2 λz=>z.elim hp hq
theorem Zd5{t:TS}{z:Int}{h c:Nat}{a f d:Option V}(b:∀r:Nat,r=(if z % 3=1 then h+1 else c)->t ξ [some (.int z),some (.int h),a,some (.int r),f,d] H):aN (bC (tC (.int c)) ee) (aN (cZ (bJ (bu (qw) (bu ο ρ am) τ)) (bC (bu Δ χ τ) ee) bR) t) ξ [some (.int z),some (.int h),a,none,f,d] H:=by
 apply lR (λe=>?_) λe=>?_
 ·have:=b (h+1) (by rw[if_pos e]);apply this
 ·have:=b c (by rw[if_neg e]);apply this
theorem Zcg{z:Int}{h:Nat}(q:∀p t H',bA H H'->H p=none->(∀a∈t,H a=none)->H' p=some (.lst (t.map V.ref))->TL H' t (wA (z % 3) (z / 3 % 4) h)->Q (.ref p) H'):Ft ξ [some (.int z),some (.int h),none,none,none,none] H:=by
 unfold Ft;refine yD (Zk5 (xU (rs:=[.dd (.put 0 0 0 1),.dd (.drop 0 1)]) (dB ay (dB ay xT)) ε λK as1 H1 o np1 m R t1=>?_));show aN _ _ _ [some (.int z),some (.int h),↑K,none,none,none] H1;have O:z % 3=0\/z % 3=1\/z % 3=2:=δ
 refine yD (Zyd (p:=z % 3=2) (q:=z / 3 % 2=1) (λQ h=>?_) (λQ h=>?_) (λc=>?_) λc=>?_)
 ·apply h
 ·apply h
 ·refine Zd5 (c:=1) λr u=>?_;refine M5 (Zwf (Zwf (xU (rs:=[.dd (.make 0 1 0 0),.sw 1,.dd (.make 0 0 1 0)]) (dB ay (dB ay (dB ay xT))) ε λE C P d _ j F t2=>?_)));apply yL F (d _ _ R) t2 (t1.same d) ε λp3 H3 k _ I J=>?_;refine xU (rs:=[.sw r]) (dB (λH Q h=>?_) xT) (by show 1<=100;decide) λp4 x W b _ i L s=>?_
  ·apply⟨by show 2<=sizeLine;decide,h⟩
  refine yL (b _ _ I) L (J.same b) s (by show 6<=100;decide) λM B w f v A=>?_;have g:=o.trans (d.trans k);refine q M _ B (g.trans (b.trans w)) ((g.trans b).free f) (λa ha=>?_) v ?_
  ·rcases List.mem_append.mp ha with ha | ha
   ·exact(List.mem_append.mp ha).elim (λha=>o.free (j a ha)) (m a)
   ·exact g.free (i a ha)
  unfold wA;rw[if_neg (λy=>(Zzj z).mp y c)];have:newR (wdS (z % 3)) h=[.dd (.make 0 1 0 0),.sw 1,.dd (.make 0 0 1 0)]++[.dd (.put 0 0 0 1),.dd (.drop 0 1)]++[.sw r]:=by
   rw[u];rcases O with e | e | e<;>rw[e]<;>rfl
  rw[this];exact A
 ·refine Zd5 (c:=2) λr u=>?_;refine yD (Zk5 (xU (rs:=[.dd (.make 0 0 1 0),.dd (.make 0 1 0 0)]) (dB ay (dB ay xT)) ε λE C P d _ j F t2=>?_));show aN _ _ _ [some (.int z),some (.int h),↑K,some (.int r),↑E,none] P;have hz:z % 3=((z % 3).toNat:Int):=δ
  refine yD (Zk5 (xU (rs:=[.sw (1+(z % 3).toNat),.dd (.get 0 1 0 0),.dd (.put 0 0 0 2)]) (dB (λH Q h=>?_) (dB ay (dB ay xT))) (by show 3<=100;decide) λS as6 X l _ D c6 U=>?_))
  ·apply⟨by show 2<=sizeLine;decide,λp Y=>?_⟩;have:=h p Y;rw[show rV (.sw (1+(z % 3).toNat))=[.str "sweep",.int (1+z % 3)] by show [V.str "sweep",.int ((1+(z % 3).toNat:Nat):Int)]=_;rw[show((1+(z % 3).toNat:Nat):Int)=1+z % 3 by omega]]at this;exact this
  show bw _ _ [some (.int z),some (.int h),↑K,some (.int r),↑E,↑S] X;apply yL (l _ _ F) (l _ _ (d _ _ R)) (t2.same l) ((t1.same d).same l) ε λp3 H3 k _ I J=>?_;apply yL I (k _ _ c6) J (U.same k) (by show 7<=100;decide) λp7 H7 T _ c7 Z=>?_;refine xU (rs:=[.sw r]) (dB (λH Q h=>?_) xT) (by show 1<=100;decide) λp4 x W b _ i L s=>?_
  ·apply⟨by show 2<=sizeLine;decide,h⟩
  refine yL (b _ _ c7) L (Z.same b) s (by show 8<=100;decide) λM B w f v A=>?_;have N:=o.trans d;have g:=N.trans (l.trans (k.trans T));refine q M _ B (g.trans (b.trans w)) ((g.trans b).free f) (λa ha=>?_) v ?_
  ·rcases List.mem_append.mp ha with ha | ha
   ·rcases List.mem_append.mp ha with ha | ha
    ·exact(List.mem_append.mp ha).elim (λha=>o.free (j a ha)) (m a)
    ·exact N.free (D a ha)
   ·exact g.free (i a ha)
  unfold wA;rw[if_pos ((Zzj z).mpr c)];have:Zhc (wdS (z % 3)) h=[.dd (.make 0 0 1 0),.dd (.make 0 1 0 0)]++[.dd (.put 0 0 0 1),.dd (.drop 0 1)]++[.sw (1+(z % 3).toNat),.dd (.get 0 1 0 0),.dd (.put 0 0 0 2)]++[.sw r]:=by
   rw[u];rcases O with e | e | e
   ·rw[e];rfl
   ·rw[e];rfl
   ·exact absurd (.inl e) c
  rw[this];exact A
end
structure Zxk(MK:AJ->AJ->Option Bool)(CE CF CN CM CT CD:AI):Prop where
 s:MK (.ref CD) (.ref CD)=some true
 v:MK (.ref CD) (.type "ValueError")=some true
 o:Zmz MK (.ref CD) ([CE,CF,CN,CM,CT].map Value.ref)=some false
theorem Zsq{b:AJ->AJ->Option Bool}{CE c e f d a:AI}(s:b (.ref a) (.ref a)=some true)(v:b (.ref a) (.type "ValueError")=some true)(h1:b (.ref a) (.ref CE)=some false)(h2:b (.ref a) (.ref c)=some false)(h:b (.ref a) (.ref e)=some false)(g:b (.ref a) (.ref f)=some false)(i:b (.ref a) (.ref d)=some false):Zxk b CE c e f d a:=⟨s,v,by simp[Zmz,h1,h2,h,g,i]⟩
inductive Di(CS:AI)(X:Cs)(sc:AI)(H:Hp)(Q:VK):Prop
 | mk (dx m kd hl rl lk w t) (_:H sc=some (.ins CS dx (nH m kd hl rl))) (_:KdO X H kd lk w t) (_:Z9 w t=true) (_:∀H',Q (.bl true) H'):Di CS X sc H Q
def Dt(b:AI)(X:Cs):Sp:=λvs H Q E=>∃a,vs=[.ref a]/\Di b X a H Q
theorem Zrs(r:kO):(rV r).all lB=true:=by
 cases r with
 | sw n=>rfl
 | dd d=>cases d<;>rfl
theorem Zu6{K:aD}{H:Hp}{c bs:AF}{rs:List kO}(h:TL H c rs)(g:TL H bs rs):Al (Dq K H 6) (c.map V.ref) (bs.map V.ref):=by
 refine Zkr (by rw[aX,aX,h.1,g.1]) λi x y hx hy=>?_;rw[bV]at hx hy;obtain⟨a,ha,rfl⟩:=Option.map_eq_some_iff.mp hx;obtain⟨b,hb,rfl⟩:=Option.map_eq_some_iff.mp hy;obtain⟨r,e,f⟩:=h.2 i a ha;obtain⟨k,d,j⟩:=g.2 i b hb;rw[e]at d;cases d;exact .inr ⟨a,b,rfl,rfl,.inr ⟨_,_,.inr ⟨dU.of f,dU.of j⟩,Zfl (Zrs r)⟩⟩
theorem TL.drop{H:Hp}{b:AF}{rs:List kO}(h:TL H b rs)(k:Nat):TL H (b.drop k) (rs.drop k):=⟨by rw[List.length_drop,List.length_drop,h.1],λi a ha=>by rw[List.getElem?_drop]at ha ⊢;exact h.2 _ a ha⟩
theorem TL.take{H:Hp}{b:AF}{rs:List kO}(h:TL H b rs)(k:Nat):TL H (b.take k) (rs.take k):=⟨by rw[List.length_take,List.length_take,h.1],λi a ha=>by
 rw[List.getElem?_take]at ha ⊢;split at ha
 ·rename_i z;rw[if_pos z];exact h.2 _ a ha
 ·cases ha⟩
theorem Ztm(c:AF)(a b:Nat)(h:a+b<=c.length):IV (c.map V.ref) (some (a:Int)) (some ((a:Int)+(b:Int)))=((c.drop a).take b).map V.ref:=by
 unfold IV;rw[HT.Pu,show((a:Int)+(b:Int))=((a+b:Nat):Int) by omega,HT.Pu,aX,Nat.min_eq_left δ,Nat.min_eq_left δ,Nat.add_sub_cancel_left,List.map_take,List.map_drop]
theorem Ztn(b:AF)(a:Nat)(h:a<=b.length):IV eN (some (a:Int)) none=(b.drop a).map V.ref:=by
 unfold IV;rw[HT.Pu,HT.Zdj,aX,Nat.min_eq_left h,List.map_drop];exact List.take_of_length_le (by rw[List.length_drop,aX];exact Nat.le_refl _)
section
variable {K:aD}{X:Cs}{bh:AI}{H:Hp}{Q:VK}{E:XK}{n:ν}{bk ct:ν}
theorem Pn{i CE c d e f a:AI}{p:AJ->AJ->Option Bool}(j:Zxk p CE c d e f a)(q:Di bh X i H Q):nJ K CE c d e a f (uw bh a X) p ξ [↑i,none,none,none] H:=by
 obtain⟨I,m,C,hl,A,lk,w,t,o,kk,D,q⟩:=q;unfold nJ;apply⟨i,rfl,.inr ⟨I,m,C,hl,A,lk,w,t,o,kk,D,?_⟩⟩;refine⟨ζ,λb B=>?_⟩;have u:upd H b (Vd b (.ref a)) b=some (Vd b (.ref a)):=ao;generalize upd H b (Vd b (.ref a))=H3 at u ⊢;simp only[List.set_cons_succ,List.set_cons_zero];apply⟨by show 5<=sizeLine;decide,λtp k=>?_⟩;have y:=aL k (.tup [V.ref CE,V.ref c,V.ref d,V.ref e,V.ref f]);have x:upd H3 tp (.tup [V.ref CE,V.ref c,V.ref d,V.ref e,V.ref f]) tp=some (.tup ([CE,c,d,e,f].map V.ref)):=ao;have h:=y _ _ u;generalize upd H3 tp (.tup [V.ref CE,V.ref c,V.ref d,V.ref e,V.ref f])=H4 at x h ⊢;exists b,tp,[CE,c,d,e,f],a,false,rfl,ζ,h,x,j.o;exists b,.ref a,a,true,⟨_,rfl,rfl⟩,ζ,h,j.s;exists b,.type "ValueError",a,true,⟨.ty "ValueError",rfl,rfl⟩,ζ,h,j.v;apply⟨by show 3<=sizeLine;decide,λg F=>?_⟩;have r:upd H4 g (.lst [V.bl true,.bl true,.bl false]) g=some (.lst [V.bl true,.bl true,.bl false]):=ao;generalize upd H4 g (.lst [V.bl true,.bl true,.bl false])=J at r ⊢;simp only[aO,List.set_cons_succ,List.set_cons_zero];apply⟨by show 3<=sizeLine;decide,λE l=>?_⟩;have z:=aL l (.lst [V.bl true,.bl true,.bl false]);exact⟨g,E,_,_,rfl,rfl,cA.of (z _ _ r),cA.of ao,λ_=>⟨rfl,rfl⟩,q _⟩
end
structure Ol(H0 H:Hp)(T:Tg):Prop where
 sm:bA H0 H
 tg:∀b o,H0 b=some o->T b=(0,0)
section
variable {H0 H H':Hp}{T T':Tg}{s:Nat}
theorem Ol.st(o:Ol H0 H T)(a:s≠0)(st:cY s H H' T T'):Ol H0 H' T':=⟨λb x h=>st.kp _ _ (o.sm _ _ h) (by rw[o.tg b x h];exact λz=>a z.symm),λb x h=>by rw[st.tg _ _ (o.sm _ _ h)];exact o.tg b x h⟩
theorem Ol.same(o:Ol H0 H T)(s:bA H H'):Ol H0 H' T:=⟨o.sm.trans s,o.tg⟩
end
def UnT(a:Wm)(n:Nat)(tl b:List kO):Prop:=(a.sw.phase=("lost":Str)/\b=swL n)\/(a.sw.phase=("rest":Str)/\∃e M1 n2 M2,eO 0 [] (Ph a (oO a a.hands.length)) e M1/\wV M1 n2 M2/\b=swL n++(oO a a.hands.length++[.sw (1+n2)])++tl)
section
variable {K:aD}{X:Cs}{bh:AI}{H H0:Hp}{Q:VK}{E:XK}{n:ν}{bk ct:ν}
theorem Zrf{t:TS}{wo o:AI}{T:Tg}{s k m:Nat}{A:Wa}{M L:Wm}{hs:zu}{c:AF}{f:List kO}{S v4 v5 U W:Option V}(p:j6 K X)(wt:WT H T)(R:s≠0)(j:WJ X H T s A M)(aw:A.wo=wo)(kw:KW M hs k)(hb:ZD hs)(hk:k<=300)(nl:Nl M)(lw:Lw M)(ol:Ol H0 H T)(O:H0 o=some (.lst (c.map V.ref)))(tl:TL H0 c f)(tr:wV M m L)(ho:m≠0->f[0]? =some (.sw m))
  (h:∀N H' T' Y,wV M m N->KW N hs k->Nq N->Lw N->WT H' T'->Ol H0 H' T'->WJ X H' T' s Y N->Y.wo=wo->t ξ [↑wo,↑o,S,some (.int (swL m).length),v4,v5,U,W] H'):
  (aN (bC ς ee)
   (aN (cZ (bJ (bu (rNe) eg (tC (.str "rest")))) (aN (cZ ((U9 (bJ (bu (G.Zru K false) χ eS)) (zQ (tB (aR (zP X) [] E0 (aj ρ (aj (bu (jf K) χ ς) aG))))))) dr bR)
   (bC τ ee)) bR) t)) ξ [↑wo,↑o,S,none,v4,v5,U,W] H:=by
 have cH:=ol.sm _ _ O;obtain⟨d1,ow⟩:=j.jb.ow;obtain⟨d2,os⟩:=j.js.os;rw[aw]at ow;apply aH ow p.cW p.JN aV ?_;apply aH os p.cS p.n2 cR ?_;ext;cases tr with
 | done z=>
  have z:=z.resolve_right nl.1;refine Wu (λy=>absurd z y) λ_=>?_;apply h M H T A (.done (.inl z)) kw (.inl nl) lw wt ol j aw
 | @go _ M1 _ m' lb lw' e a b st t'=>
  have C:=step_any st b;obtain⟨r,B,hr⟩:∃x,c[0]? =some x/\H0 x=some (.tup (rV (.sw (m'+1)))):=by
   have e0:=ho (Nat.succ_ne_zero _);have l0:=(cL e0).1;have Z:c[0]? =some (c[0]'(by rw[tl.1];exact l0)):=bG _;obtain⟨r,g1,g2⟩:=tl.2 0 _ Z;rw[e0]at g1;cases g1;exact⟨_,Z,g2⟩
  refine Wu a8 λy=>absurd y a;apply⟨ε,λP D=>?_⟩;generalize zz:upd H P _=H1;obtain⟨i,ce⟩:=nwO D zz;have j1:=j.same i;have q:=wt.same i;have d:=ol.same i;refine⟨o,P,_,_,rfl,rfl,cA.of (i _ _ cH),cA.of ce,λz=>?_,?_⟩
  ·rw[aX]at z;have:=(cL B).1;rw[z]at this;exact absurd this (Nat.lt_irrefl _)
  have ne:eqL (c.map V.ref) []=false:=by
   cases c with
   | nil=>cases B
   | cons x l=>rfl
  rw[ne];refine⟨false,rfl,?_⟩;refine Hq ?_;apply gQ (v:=.ref r) (cA.of (d.sm _ _ O)) (show atI _ ((0:Nat):Int)=_ from fW (by rw[bV,B];rfl)) ?_;apply⟨wo,r,rfl,T,s,A,M,hs,k,m',L,q,R,j1,aw,kw,hb,δ,lw,nl,?_,⟨e,M1,C,t'⟩,λN H2 T2 A2 fr u w I g j2 F=>?_⟩
  ·rw[Nat.add_comm];exact d.sm _ _ hr
  obtain⟨e2,N1,J,E⟩:=fr;refine⟨true,rfl,?_⟩;refine Hq ?_;apply h N H2 T2 A2 (.go a b J E) u I w g.wt (d.st R g) j2 F
end
section
variable {K:aD}{X:Cs}{bh:AI}{H H0:Hp}{Q:VK}{E:XK}{n:ν}{bk ct:ν}
theorem Zly{r:AI}{h:Nat}{x:Au}{σ:St}(hr:H r=some (.lst (x.map oV)))(hl:x.length<=1000)(o:pick σ 5=some (.int h))(s:pick σ 6=↑r)(q:∀p c H',bA H H'->(∀a∈c,H a=none)->H' p=some (.lst (c.map V.ref))->TL H' c (dpH h x x.length)->Q (.ref p) H'):
  LCg (Itr 0 x.length) [5,6] (bJ (bu (G.qt) (bu (jf K) ac ρ) cq)) (cP (aj (tC (.str "drop")) (aj χ a7))) σ H Q:=by
 refine⟨λi m k g=>i<=x.length/\m=x.length - i/\bA H g/\k.length<=i/\∃c,k=c.map V.ref/\TL g c (dpH h x i)/\∀a∈c,H a=none,⟨_,Nat.zero_le _,rfl,bA.refl _,Nat.le_refl _,[],rfl,TL.nil,λ_ h=>nomatch h⟩,?_⟩;rintro i m k g ⟨u,rfl,f,le,c,rfl,tl,j⟩
 by_cases z:i=x.length
 ·subst z;refine .inl ⟨Nat.le_refl _,λp hp=>?_⟩;have l:=aL hp (.lst (c.map V.ref));exact q p c _ (f.trans l) j ao (tl.same l)
 ·have lt:i<x.length:=δ
  refine .inr ⟨lt,Nat.lt_of_le_of_lt le (Nat.lt_of_lt_of_le (by omega:i<1001) ε),?_⟩;rintro v t ⟨rfl,rfl⟩;rw[List.map_cons,List.map_cons,List.map_nil,o,s];have hy:x[i]? =some x[i]:=bG lt;generalize x[i]=y at hy;have e:=Zfm h x i;rw[hy]at e;apply gQ (v:=oV y) (cA.of (f _ _ hr)) (by rw[Int.zero_add];exact fW (by rw[bV,hy];rfl)) ?_;cases y with
  | none=>
   rw[show oV none=V.non from rfl];apply⟨_,δ,δ,rfl,f,δ,c,rfl,by rw[e];simpa using tl,j⟩
  | some b=>
   rw[show oV (some b)=V.int b from rfl];apply⟨bD ζ,λtp d=>?_⟩;rw[Int.zero_add];have n:=aL d (.tup [V.str "drop",V.int h,V.int i]);refine⟨_,δ,δ,rfl,f.trans n,by rw[List.length_append];show _+1<=_;omega,c++[tp],by rw[List.map_append];rfl,?_,λa ha=>?_⟩
   ·rw[e];exact(tl.same n).app (TL.one ao)
   ·rcases List.mem_append.mp ha with ha | ha
    ·exact j a ha
    ·rw[List.mem_singleton.mp ha];exact f.free d
theorem Zre{t:TS}{wo:AI}{T:Tg}{s:Nat}{A:Wa}{M:Wm}{E I P v4 e d J:Option V}(j:WJ X H T s A M)(aw:A.wo=wo)(hh:M.hands.length<=30)(O:∀m∈M.hands,m.2.length<=30)
  (h:∀p b H' e d,bA H H'->H p=none->(∀a∈b,H a=none)->H' p=some (.lst eN)->TL H' b dt->(oO M M.hands.length).length<=30 * M.hands.length->t ξ [↑wo,E,I,P,↑p,e,d,J] H'):
  (aN (bC eS (aO 4))
   (aN (rT (G.BR K (aj (aR (UJ X) [] E0 a7) aG)) (Zbz K 2 (m5 (aO 5) (m5 (aO 6) Zc0)))
   (bC ei (aO 4))) t)) ξ [↑wo,E,I,P,v4,e,d,J] H:=by
 apply⟨ε,λp hp=>?_⟩;generalize zz:upd H p _=H1;obtain⟨Z,L⟩:=nwO hp zz;have L:H1 p=some (.lst (([]:AF).map V.ref)):=L;have j1:=j.same Z;apply⟨wo,rfl,T,s,A,M,j1,aw,δ,λl ls F W nl hl ln _ nls _ hr=>?_⟩;have w:ls.length=M.hands.length:=by rw[ln];unfold heldOf;rw[aX]
 have f:bA H F:=Z.trans W;apply⟨l,rfl,⟨_,cA.of hl⟩,Zq7 (ls.map V.ref) (λi z c=>∃p b e d,z=[↑wo,E,I,P,↑p,e,d,J]/\bA F c/\c p=some (.lst eN)/\TL c b (oO M i)/\(oO M i).length<=30 * i/\H p=none/\∀a∈b,H a=none) ⟨p,[],_,_,rfl,bA.refl _,W _ _ L,TL.nil,Nat.le_refl _,hp,λ_ h=>nomatch h⟩ (by rintro i z c _ ⟨_,_,_,_,_,q,_⟩;exact cA.of (q _ _ hl)) ?_ ?_⟩
 ·rintro i v y z c hv ⟨p,b,e,d,rfl,q,D,tl,le,R,N⟩ ht;rw[bV]at hv;obtain⟨r,x,rfl⟩:=Option.map_eq_some_iff.mp hv;have hi:i<M.hands.length:=by rw[<- w];exact(cL x).1
  have em:M.hands[i]? =some M.hands[i]:=bG hi;generalize M.hands[i]=m at em;have hm:=List.mem_of_getElem? em;have l30:=O m hm;have Y:F r=some (.lst (m.2.map oV)):=hr i r _ x (by unfold heldOf;rw[bV,em];rfl);have st:=aL ht (.tup [V.int i,.ref r]);have u:=st _ _ D;have k:=q.trans st;have g:=tl.same st;have S:upd c y (.tup [V.int i,.ref r]) y=some (.tup [V.int i,.ref r]):=ao;generalize upd c y (.tup [V.int i,.ref r])=Ht at u k g S ⊢;exists y,_,rfl,dU.of S,rfl,.int i,_,rfl;exists .ref r,_,rfl;exists rfl;apply YT ?_;apply eV (cA.of (k _ _ Y)) ?_;apply⟨_,rfl,δ,by rw[aX];omega,?_⟩;rw[aX,Int.toNat_natCast];refine Zly (k _ _ Y) δ rfl rfl λp2 bs H3 B C c3 tb=>?_;have e1:=g.1;have e2:=tb.1;have e3:=Zkg i m.2 m.2.length;have e4:(oO M b9).length=(oO M i).length+(dpH i m.2 m.2.length).length:=by rw[Iz em,List.length_append]
  refine⟨p,p2,_,_,rfl,rfl,B _ _ u,c3,by rw[aX,aX];exact bD δ,λp3 o=>?_⟩;have U:=aL o (.lst (b.map V.ref++bs.map V.ref));apply⟨p3,b++bs,_,_,rfl,k.trans (B.trans U),by rw[ao,List.map_append],by rw[Iz em];exact((g.same B).app tb).same U,δ,(f.trans (k.trans B)).free o,λa ha=>(List.mem_append.mp ha).elim (N a) λha=>(f.trans k).free (C a ha)⟩
 ·rintro z c ⟨p,b,e,d,rfl,q,D,tl,le,R,N⟩;rw[aX,w]at tl le;exact h p b c e d (f.trans q) R N D tl le
end
inductive WkQ(X:Cs)(wo fo ta:AI)(H:Hp)(Q:VK):Prop
 | mk (H0 T s A M hs k as bs tl out m Mr) (_:WT H T) (_:s≠0) (_:WJ X H T s A M) (_:A.wo=wo) (_:KW M hs k) (_:ZD hs) (_:k<=300) (_:Nl M) (_:Iv M) (_:Ol H0 H T) (_:H0 fo=some (.lst (as.map V.ref))) (_:H0 ta=some (.lst (bs.map V.ref))) (_:TL H0 as out) (_:TL H0 bs tl) (_:wV M m Mr) (_:UnT Mr m tl out) (_:∀H',Q (.bl true) H'):WkQ X wo fo ta H Q
def Uw(X:Cs):Sp:=λvs H Q E=>∃wo b a,vs=[.ref wo,.ref b,.ref a]/\WkQ X wo b a H Q
section
variable {K:aD}{X:Cs}{bh:AI}{H H0:Hp}{Q:VK}{E:XK}{n:ν}{bk ct:ν}
theorem Zrd{t:TS}{wo p:AI}{T:Tg}{s k:Nat}{A:Wa}{M:Wm}{hs:zu}{B:AF}{J L S U O d:Option V}(wt:WT H T)(x:s≠0)(j:WJ X H T s A M)(aw:A.wo=wo)(kw:KW M hs k)(hb:ZD hs)(hk:k<=300)(nl:Nl M)(iv:Iv M)(ph:M.sw.phase=("rest":Str))(ol:Ol H0 H T)(tp:T p=(0,0))(ta:∀a∈B,T a=(0,0))(cp:H p=some (.lst (B.map V.ref)))(tl:TL H B dt)(le:(oO M M.hands.length).length<=150)
  (h:∀H' T' Z d,WT H' T'->Ol H0 H' T'->bA (λb=>if T b=(0,0)then H b else none) H'->WJ X H' T' s Z (Ph M dt)->Z.wo=wo->KW (Ph M dt) hs (k+(oO M M.hands.length).length)->Nl (Ph M dt)->Iv (Ph M dt)->(Ph M dt).sw.phase=("rest":Str)->t ξ [↑wo,J,L,S,↑p,U,O,d] H'):
  (aN (rT (pM K cw) (aO 7)
   (iW (aR (rz X) [] E0 (aj ρ (aj (ak 7) aG))))) t) ξ [↑wo,J,L,S,↑p,U,O,d] H:=by
 have W:∀r∈oO M M.hands.length,∃h s p,r=.dd (.drop h s)/\slt M h s=some (some p):=λr hr=>let ⟨h,s,p,a,_,b⟩:=P0 hr;⟨h,s,p,a,b⟩
 have E:=tl.1;generalize oO M M.hands.length=C at W tl le h E;apply⟨p,rfl,⟨_,cA.of cp⟩,forL (B.map V.ref) (λi y l=>∃q m N d,y=[↑wo,J,L,S,↑p,U,O,d]/\cY s H l T q/\WJ X l q s m N/\m.wo=wo/\KW N hs (k+i)/\Nl N/\Iv N/\N.sw.phase=("rest":Str)/\N=Ph M (C.take i)) ⟨T,A,M,_,rfl,cY.refl wt,j,aw,kw,nl,iv,ph,rfl⟩ (by rintro i y l _ ⟨_,_,_,_,_,st,_⟩;exact cA.of (st.kp _ _ cp (by rw[tp];exact λz=>x z.symm))) ?_ ?_⟩
 ·rintro i v y l hv ⟨q,m,N,d,rfl,c,P,f,w,nx,e,g,u⟩;rw[bV]at hv;obtain⟨a,ha,rfl⟩:=Option.map_eq_some_iff.mp hv;obtain⟨r,I,hd⟩:=tl.2 i a ha;obtain⟨h,Y,p',rfl,e0⟩:=W r (List.mem_of_getElem? I);have hi:i<C.length:=(cL I).1;have R:=c.kp _ _ hd (by rw[ta a (List.mem_of_getElem? ha)];exact λz=>x z.symm);have et:Ph M (C.take b9)=stM N (jM N (.drop h Y)):=by rw[List.take_add_one,I,Zkf,<- u];rfl
  apply⟨wo,a,rfl,.inl ⟨q,s,m,N,.dd (.drop h Y),hs,k+i,c.wt,x,P,f,R,Zut kw e0,w,hb,δ,nx,λes as' M' Hy Ty Ay b rr ne le' D F jy WQ ev hbb fb tb lo _=>?_⟩⟩;obtain⟨_,rfl⟩:=rr;apply⟨Ty,Ay,_,_,rfl,c.trans F,jy,WQ,D,nx.deed _,e.deed _,g,et.symm⟩
 ·rintro y l ⟨q,m,N,d,rfl,c,P,f,w,nx,e,g,u⟩;rw[aX]at w u;rw[E,List.take_length]at u;rw[E]at w;subst u;refine h l q m d c.wt (ol.st x c) (λb o hb=>?_) P f w nx e g;dsimp only at hb;split at hb
  ·rename_i z
   exact c.kp _ _ hb (by rw[z];exact λz=>x z.symm)
  ·cases hb
theorem Ur{wo fo ta:AI}(h:j6 K X)(q:WkQ X wo fo ta H Q):pA K (zP X) (UJ X) (rz X) ξ [↑wo,↑fo,↑ta,none,none,none,none,none] H:=by
 obtain⟨H0,T,s,A,M,hs,k,B,bs,tl,d,m,b,wt,Z,j,aw,kw,hb,hk,nl,iv,ol,C,cb,c,tlb,tr,un,q⟩:=q;have n5:=hb.n5;have ho:m≠0->d[0]? =some (.sw m):=λhm=>by
  rcases un with ⟨_,rfl⟩ | ⟨_,_,_,_,_,_,_,rfl⟩<;>unfold swL<;>rw[if_neg hm]<;>rfl
 unfold pA;refine Zrf h wt Z j aw kw hb hk nl iv.lw ol C c tr ho λN H1 T1 A1 L t nqN lwN o U Y u=>?_;obtain⟨d1,ow⟩:=Y.jb.ow;obtain⟨d2,os⟩:=Y.js.os;rw[u]at ow;obtain⟨_,dl,dn⟩:=tr.det (.inl nl) L;apply aH ow h.cW h.JN aV ?_;apply aH os h.cS h.n2 cR ?_;apply lR ci λz=>?_
 ·ext;have F:=dl.mpr z;have D:d.length=1:=by
   rcases un with ⟨_,rfl⟩ | ⟨y,_⟩
   ·unfold swL;rw[if_neg]
    ·rfl
    ·rintro rfl;cases L with
     | done _=>exact absurd z nl.1
   ·exact absurd (y.symm.trans F) ε
  refine eV (cA.of (U.sm _ _ C)) ?_;rw[aX,c.1,D];apply q _
 ·have F:¬ b.sw.phase=("lost":Str):=λy=>z (dl.mp y);obtain rfl:b=N:=dn F;obtain⟨phr,e,M1,n2,M2,sr,tr2,D⟩:=un.resolve_left λy=>F y.1;obtain⟨nlr,ivr⟩:=tr.iv (.inl nl) iv kw F;have hl:=t.hl;have l30:∀m∈b.hands,m.2.length<=30:=λm hm=>by
   obtain⟨i,hi,e⟩:=List.getElem_of_mem hm;have e1:b.hands[i]? =some m:=by rw[bG hi,e]
   have e2:hs[i]? =some (hs[i]'(by rw[<- hl];exact hi)):=bG _;have h1:=t.hn i m _ e1 e2;have h2:=hb.sb _ (List.mem_of_getElem? e2);omega
  refine Zre Y u δ l30 λp ps H2 v5 v6 s2 np frp cp tp le=>?_;have j2:=Y.same s2;have O:=U.same s2;have wt2:=o.same s2;have E:=o p np;have tap:∀a∈ps,T1 a=(0,0):=λa ha=>o a (frp a ha);have em:Em (Ph b (oO b b.hands.length)):=Zx6;generalize ed:oO b b.hands.length=f at *;have J:=tp.1;have lo:B.length=(swL m).length+(f.length+1)+tl.length:=by rw[c.1,D,List.length_append,List.length_append,List.length_append];rfl
  generalize ea:(swL m).length=at0 at *;have ZE5:(d.drop at0).take f.length=f:=by rw[D,<- ea,List.append_assoc,List.drop_left,List.append_assoc,List.take_left]
  have ZE4:d.drop (at0+f.length+1)=tl:=by
   rw[D,<- ea,Nat.add_assoc,show(swL m).length+(f.length+1)=(swL m++(f++[kO.sw (1+n2)])).length by rw[List.length_append,List.length_append];rfl,List.drop_left]
  have ZB7:d[at0+f.length]? =some (.sw (1+n2)):=by
   rw[D,List.append_assoc,<- ea,List.getElem?_append_right (Nat.le_add_right _ _),Nat.add_sub_cancel_left,List.append_assoc,List.getElem?_append_right Γ,Nat.sub_self];rfl
  apply eV (cA.of cp) ?_;rw[aX,J];apply⟨fo,_,rfl,cA.of (O.sm _ _ C),λc1 nc1=>?_⟩;rw[Ztm _ _ _ δ];generalize zz:upd H2 c1 _=H3;obtain⟨l,g3⟩:=nwO nc1 zz;have W:=O.same l;have Zzu:TL H3 ((B.drop at0).take f.length) f:=by have:=(c.drop at0).take f.length;rw[ZE5]at this;exact this.same W.sm
  exists c1,p,_,_,rfl,rfl,.inl ⟨cA.of g3,cA.of (l _ _ cp)⟩,Zu6 Zzu (tp.same l);refine⟨false,rfl,?_⟩;refine Hq ?_;subst ed;refine Zrd (wt2.same l) Z (j2.same l) u t hb hk nlr ivr phr W E tap (l _ _ cp) (tp.same l) δ λH4 T4 A4 v7 wt4 g sk4 j4 aw4 kw4 nl4 R ph4=>?_;have cp4:H4 p=some (.lst (ps.map V.ref)):=sk4 _ _ (by dsimp only;rw[if_pos E];exact l _ _ cp);obtain⟨r,er,hr⟩:∃x,B[at0+(oO b b.hands.length).length]? =some x/\H0 x=some (.tup (rV (.sw (1+n2)))):=by
   have e1:B[at0+(oO b b.hands.length).length]? =some (B[at0+(oO b b.hands.length).length]' δ):=bG _;obtain⟨r,g1,g2⟩:=c.2 _ _ e1;rw[ZB7]at g1;cases g1;exact⟨_,e1,g2⟩
  apply eV (cA.of cp4) ?_;rw[aX,J];apply eV (cA.of (g.sm _ _ C)) ?_;rw[aX];apply lR (λz=>δ) λ_=>?_;apply gQ (v:=.ref r) (cA.of (g.sm _ _ C)) (by rw[show((at0:Int)+((oO b b.hands.length).length:Int))=((at0+(oO b b.hands.length).length:Nat):Int) by omega];exact fW (by rw[bV,er];rfl)) ?_;apply⟨wo,r,rfl,T4,s,A4,_,hs,_,n2,M2,wt4,Z,j4,aw4,kw4,hb,δ,R.lw,nl4,g.sm _ _ hr,⟨e,M1,sr,tr2⟩,λN H5 T5 A5 fr kw5 lw5 nq5 st5 j5 aw5=>?_⟩;obtain⟨e2,N1,sr2,Zzr⟩:=fr;have phN:=Zzr.em (Ej.begin em R.wg ph4 sr2).1;have S:=g.st Z st5;obtain⟨d3,I⟩:=j5.jb.ow;obtain⟨d4,os5⟩:=j5.js.os;rw[aw5]at I;refine⟨true,rfl,?_⟩;refine Hq ?_;apply aH I h.cW h.JN aV ?_;apply aH os5 h.cS h.n2 cR ?_;rw[phN];apply lR a8 λy=>absurd rfl y;apply⟨fo,_,rfl,cA.of (S.sm _ _ C),λc2 nc2=>?_⟩;rw[show((at0:Int)+((oO b b.hands.length).length:Int)+1)=((at0+(oO b b.hands.length).length+1:Nat):Int) by omega,Ztn _ _ δ];have s6:=aL nc2 (.lst ((B.drop (at0+(oO b b.hands.length).length+1)).map V.ref));have w:=S.same s6;have P:=(c.drop (at0+(oO b b.hands.length).length+1)).same w.sm;rw[ZE4]at P;apply⟨c2,ta,_,_,rfl,rfl,.inl ⟨cA.of ao,cA.of (w.sm _ _ cb)⟩,Zu6 P (tlb.same w.sm),q _⟩
end
inductive Zr2(K:aD)(a:AI)(H:Hp)(Q:VK):Prop
 | mk (ns:AE) (_:cA K H a (ns.map V.int)) (_:ns.length<=63) (_:∀H',Q (.bl true) H'):Zr2 K a H Q
def Zkw(K:aD):Sp:=λvs H Q E=>∃a,vs=[.ref a]/\Zr2 K a H Q
theorem Zu(n:Nat):aI (.sw n):=⟨"sweep",[(n:Int)],rfl,ζ,by show 1<=9;decide⟩
theorem Zce(h s:Nat):aI (.dd (.drop h s)):=⟨"drop",[(h:Int),s],rfl,ζ,by show 2<=9;decide⟩
theorem Zg0(w:Str)(a b c d:Int)(r:kO)(e:rV r=[.str w,.int a,.int b,.int c,.int d]):aI r:=⟨w,[a,b,c,d],e,ζ,by show 4<=9;decide⟩
theorem Zni{n:Nat}{r:kO}(h:r∈swL n):aI r:=by
 unfold swL at h;split at h
 ·cases h
 ·rw[List.mem_singleton.mp h];exact Zu n
theorem Zpb{w t:Int}{h:Nat}:∀r∈wA w t h,aI r:=by
 unfold wA;split
 ·intro r hr;simp only[Zhc,List.mem_cons,List.not_mem_nil,or_false]at hr;rcases hr with rfl | rfl | rfl | rfl | rfl | rfl | rfl | rfl
  ·exact Zg0 _ _ _ _ _ _ rfl
  ·exact Zg0 _ _ _ _ _ _ rfl
  ·exact Zg0 _ _ _ _ _ _ rfl
  ·exact Zce 0 1
  ·exact Zu _
  ·exact Zg0 _ _ _ _ _ _ rfl
  ·exact Zg0 _ _ _ _ _ _ rfl
  ·exact Zu _
 ·intro r hr;simp only[newR,List.mem_cons,List.not_mem_nil,or_false]at hr;rcases hr with rfl | rfl | rfl | rfl | rfl | rfl
  ·exact Zg0 _ _ _ _ _ _ rfl
  ·exact Zu _
  ·exact Zg0 _ _ _ _ _ _ rfl
  ·exact Zg0 _ _ _ _ _ _ rfl
  ·exact Zce 0 1
  ·exact Zu _
theorem UnR.aI{m w t:Int}{hs:zu}{rs a:List kO}(h:UnR m hs w t rs a):∀r∈a,aI r:=by
 obtain⟨g,f,n,d,c,b,⟨_,rfl⟩ | ⟨_,e,M1,n2,M2,_,_,rfl⟩⟩:=h
 ·exact λr hr=>Zni hr
 ·intro r hr;rcases List.mem_append.mp hr with hr | hr
  ·rcases List.mem_append.mp hr with hr | hr
   ·exact Zni hr
   ·rcases List.mem_append.mp hr with hr | hr
    ·obtain⟨h,s,_,rfl,_⟩:=P0 hr;exact Zce h s
    ·rw[List.mem_singleton.mp hr];exact Zu _
  ·exact Zpb r hr
theorem Zzf(ns:AE):∃cs:AE,IV (ns.map V.int) (some 3) (some 53)=cs.map V.int/\cs.length<=50:=by
 refine⟨(ns.drop (HT.fX ns.length 0 (some 3))).take (HT.fX ns.length ns.length (some 53) - HT.fX ns.length 0 (some 3)),?_,?_⟩
 ·unfold IV;rw[List.map_take,List.map_drop,aX]
 ·rw[List.length_take];have:HT.fX ns.length ns.length (some 53) - HT.fX ns.length 0 (some 3)<=50:=by
   simp only[HT.fX];rw[if_neg ε,if_neg ε];omega
  omega
theorem RwL.same{H H':Hp}{l:AI}{rs:List kO}(h:RwL H l rs)(s:bA H H'):RwL H' l rs:=by
 obtain⟨b,h1,h2,c⟩:=h;exact⟨b,s _ _ h1,h2,λi a ha=>let ⟨x,e,q⟩:=c i a ha;⟨x,e,s _ _ q⟩⟩
section
variable {K:aD}{X:Cs}{bh cN:AI}{H:Hp}{Q:VK}{E:XK}{n:ν}{bk ct:ν}
theorem Zcd{d:Nat}:∀ds:AF,Al (Dq K H (d+1)) (ds.map V.ref) (ds.map V.ref)
 | []=>.nil
 | a::ds=>.cons (.inr ⟨a,a,rfl,rfl,.inl rfl⟩) (Zcd ds)
theorem Zw1{a:AI}(TT:TxS K X bh)(q:Zr2 K a H Q):
  Zh5 K bh (vp bh) Zj2 (Zj1 K) Zcu (Zct X) (Dt bh X) Ziz (Zcs K) Uz Kh (Uw X) (rz X) (uw bh cN X) (zO bh X) ξ [↑a,none,none,none,none,none,none,none] H:=by
 obtain⟨ns,W,hlen,h⟩:=q;obtain⟨cs,Zz5,cl⟩:=Zzf ns;unfold Zh5;apply⟨a,_,rfl,ns,W,ε,λz0=>?_⟩;apply⟨a,_,rfl,ns,W,ε,λz1=>?_⟩;apply⟨_,rfl,λl hs H1 s1 nl M hb=>?_⟩;apply⟨a,_,rfl,s1.seq W,λcp hcp=>?_⟩;rw[Zz5];generalize zz:upd H1 cp _=H2;obtain⟨s2,c2⟩:=nwO hcp zz;have I:=s1.trans s2;apply⟨a,_,rfl,ns,I.seq W,ε,λz2=>?_⟩;apply⟨cp,l,_,_,rfl,cs,hs,cA.of c2,δ,M.same s2,hb,ε,ε,λk rs H3 s3 nrw D ZEg rok=>?_⟩;have s03:=I.trans s3
 replace M:=M.same (s2.trans s3)
 apply⟨a,_,rfl,ns,s03.seq W,ε,λz2'=>?_⟩;apply⟨_,rfl,λm=>?_⟩;apply⟨_,rfl,λki lk w t H4 t0 t1 ew et s4 nki nlk kd=>?_⟩
 replace M:=M.same s4
 replace D:=D.same s4
 obtain⟨ts,k1,k2⟩:=id M;obtain⟨as,Z,r2,r3⟩:=id D;apply⟨l,_,rfl,cA.of k1,λla nla=>?_⟩;generalize zz:upd H4 la _=H5;obtain⟨s5,c5⟩:=nwO nla zz;apply⟨k,_,rfl,cA.of (s5 _ _ Z),λlb nlb=>?_⟩;generalize zz:upd H5 lb _=H6;obtain⟨s6,c6⟩:=nwO nlb zz;ext;intro x Y nx ndx ne;have sM:bA H6 (upd (upd H6 Y (.own x)) x (.ins bh Y [])):=λb o hb=>by rw[aB (aF hb nx),aB (aF hb ndx)];exact hb
 refine⟨x,m,ki,la,lb,rfl,Y,_,_,ao,sM _ _ (s6 _ _ c5),sM _ _ c6,λH7 h2 p e1 e2 e3 kM f1 f2 f3=>⟨rfl,?_⟩⟩;have s67:bA H6 H7:=λb o hb=>kM b o (sM b o hb) (aF hb nx);have j:=s5.trans (s6.trans s67)
 replace kd:=kd.same j
 have hsc:HsO H7 h2 hs:=⟨ts,e2,k2.mono λa m z=>j _ _ z⟩;have rsc:RwL H7 p rs:=⟨as,e3,r2,λi c hc=>let ⟨y,q1,q2⟩:=r3 i c hc;⟨y,q1,j _ _ q2⟩⟩
 replace k1:=j _ _ k1
 replace Z:=j _ _ Z
 replace r3:∀(i:Nat) a,as[i]? =some a->∃r,rs[i]? =some r/\H7 a=some (.tup (rV r)):=λi c hc=>let ⟨y,q1,q2⟩:=r3 i c hc;⟨y,q1,j _ _ q2⟩
 have lts:=k2.length;clear j s67 sM kM s6 s5 c5 c6 s4 s03 I s3 s2 s1 f1 f2 f3 nx ndx ne nlb nla nki nlk nrw nl hcp c2 D M k2 Zz5 W hlen;apply⟨z0,rfl,λH8 J=>?_⟩;rw[<- ew,<- et];have ww:w=0\/w=1\/w=2:=δ
 cases sn:Z9 w t with
 | true=>
  refine⟨true,rfl,?_⟩;refine Zbg ?_;apply⟨x,rfl,Y,m,ki,h2,p,lk,w,t,J _ _ e1,kd.same J,sn,h⟩
 | false=>
  refine⟨false,rfl,?_⟩;refine Hq ?_;apply⟨x,rfl,.inl ⟨Y,m,ki,h2,p,lk,w,t,hs,rs,J _ _ e1,kd.same J,t0,t1,ww,hsc.same J,hb,rsc.same J,δ,rok,sn,λfo fs H9 out s9 ur _ cf tf=>?_⟩⟩;have g:=J.trans s9;exists _,_,"list",true,rfl,by simp only[tyN,cf],γ,true,rfl;refine Hq ?_;apply aH (g _ _ e1) TT.gR TT.Zhh xm ?_;exists p,k,_,_,rfl,rfl,.inl ⟨cA.of (g _ _ e3),cA.of (g _ _ Z)⟩,Zcd as;refine⟨false,rfl,?_⟩;apply aH (g _ _ e1) TT.gR TT.PJ nG ?_;exists h2,l,_,_,rfl,rfl,.inl ⟨cA.of (g _ _ e2),cA.of (g _ _ k1)⟩,Zcd ts;refine⟨false,rfl,?_⟩;apply⟨fo,rfl,⟨_,cA.of cf⟩,forL (fs.map V.ref) (λi E C=>∃O,E=[↑a,some (.int z0),↑l,↑k,↑x,↑fo,O,none]/\bA H9 C) ⟨_,rfl,bA.refl _⟩ (by rintro i E C _ ⟨_,_,sx⟩;exact cA.of (sx _ _ cf)) ?_ ?_⟩
  ·rintro i v E C hv ⟨O,rfl,sx⟩;rw[bV]at hv;obtain⟨b,F,rfl⟩:=Option.map_eq_some_iff.mp hv;obtain⟨r,er,hr⟩:=tf.2 i b F;apply⟨b,rfl,r,sx _ _ hr,ur.aI r (List.mem_of_getElem? er),λHy sy=>?_⟩;refine⟨true,rfl,?_⟩;refine Hq ?_;apply⟨_,rfl,sx.trans sy⟩
  rintro E Ha ⟨O,rfl,sa⟩;have d:=g.trans sa;obtain⟨⟨d1,kd1⟩,⟨d2,kd2⟩⟩:=id (kd.same d);apply⟨x,rfl,λ_=>(0,0),1,Y,m,ki,h2,p,lk,w,t,hs,d _ _ e1,kd.same d,hsc.same d,hb,λ_ _=>rfl,ε,rfl,rfl,λHb Tb A sb tgb wtb jb=>?_⟩;have ob:Ol Ha Hb Tb:=⟨sb,tgb⟩;apply⟨k,rfl,⟨_,cA.of (ob.sm _ _ (d _ _ Z))⟩,forL (as.map V.ref) (λi E C=>∃B Ax N lg O,E=[↑a,some (.int z0),↑l,↑k,↑x,↑fo,O,↑A.wo]/\Ol Ha C B/\WT C B/\WJ X C B 1 Ax N/\Ax.wo=A.wo/\KW N hs i/\Nl N/\Iv N/\∀s f M',Kl N s f M'->Kl (O1 m hs w t) (rs.take i++s) (lg++f) M') ⟨Tb,A,_,[],_,rfl,ob,wtb,jb,rfl,KW.new t0 t1,Nl.new,Iv.new ww,λs f M' h=>h⟩ (by rintro i E C _ ⟨_,_,_,_,_,_,U,_⟩;exact cA.of (U.sm _ _ (d _ _ Z))) ?_ ?_⟩
  ·rintro i v E C hv ⟨B,Ax,N,lg,O,rfl,U,u,jx,aw,kx,nl,iv,co⟩;rw[bV]at hv;obtain⟨b,F,rfl⟩:=Option.map_eq_some_iff.mp hv;obtain⟨r,er,hr⟩:=r3 i b F;have hi:=(cL F).1;have et:rs.take b9=rs.take i++[r]:=by rw[List.take_add_one,er];rfl
   apply⟨A.wo,b,rfl,.inl ⟨B,1,Ax,N,r,hs,i,u,ε,jx,aw,U.sm _ _ (d _ _ hr),rok r (List.mem_of_getElem? er),kx,hb,δ,nl,λes as' M' Hy Ty Ay b' P ne le kw' sty jy WQ ev hbb fb tb lo _=>?_⟩⟩;have oy:=U.st ε sty;obtain⟨d3,ow⟩:=jy.jb.ow;obtain⟨d4,os⟩:=jy.js.os;rw[WQ]at ow;apply aH ow TT.w.cW TT.w.JN aV ?_;apply aH os TT.w.cS TT.w.n2 cR ?_;ext;cases z:gP es with
   | true=>
    have pl:=(P.det nl P).2.2 z;refine lR a8 λy=>absurd pl y;have rn:=co (r::rs.drop b9) [es] M' (.lost P z);have ed:rs.take i++r::rs.drop b9=rs:=by
     have:=List.take_append_drop b9 rs;rw[et,List.append_assoc]at this;exact this
    rw[ed]at rn;obtain⟨f,Mb,n',Mr,S,R,L⟩:=ur;have pb:=(rn.fin Nl.new S).1.mp pl;have eo:fs=[]:=by
     have:out=[]:=by
      cases R with
      | done _=>
       rcases L with ⟨_,e⟩ | ⟨y,_⟩
       ·exact e
       ·exact absurd (y.symm.trans pb) ε
      | go _ y _ _=>exact absurd pb y
     refine List.length_eq_zero_iff.mp ?_;rw[tf.1,this];rfl
    subst eo;apply⟨ε,λep nep=>?_⟩;have s1:=aL nep (.lst []);exact⟨fo,ep,[],[],rfl,rfl,.inl ⟨cA.of (s1 _ _ (oy.sm _ _ (sa _ _ cf))),cA.of ao⟩,.nil,h _⟩
   | false=>
    have nl':=((P.det nl P).2.1 z).2;refine lR (λy=>absurd y nl'.1) λ_=>?_;apply⟨Ty,Ay,M',lg++[es],_,rfl,oy,sty.wt,jy,WQ,kw',nl',P.iv nl iv kx z,λs f M'' hh=>?_⟩;rw[et,List.append_assoc,List.append_assoc];exact co (r::s) (es::f) M'' (.go P z hh)
  ·rintro E C ⟨B,Ax,N,lg,O,rfl,U,u,jx,aw,kx,nl,iv,co⟩;have rn:=co [] [] N (.nil N);rw[List.append_nil,List.append_nil,aX,r2,List.take_length]at rn;obtain⟨f,Mb,n',Mr,S,R,L⟩:=ur;obtain⟨rfl,_⟩:=(rn.fin Nl.new S).2 nl.1;apply eV (cA.of (U.sm _ _ (d _ _ k1))) ?_;rw[aX,lts];apply⟨z0,hs.length,rfl,λta bs Ht st nta frb cta tb=>?_⟩;rw[<- ew,<- et]at tb;have ot:=U.same st;have T:∀b o,Ht b=some o->B b=(0,0)->(λb=>if B b=(0,0)then Ht b else none) b=some o:=λb o h1 h2=>by dsimp only;rw[if_pos h2];exact h1
   have ky2:∀b o,Ha b=some o->(λb=>if B b=(0,0)then Ht b else none) b=some o:=λb o h1=>T b o (ot.sm _ _ h1) (ot.tg b o h1);apply⟨A.wo,fo,ta,rfl,λb=>if B b=(0,0)then Ht b else none,B,1,Ax,N,hs,_,fs,bs,wA w t hs.length,out,n',Mr,u.same st,ε,jx.same st,aw,kx,hb,by rw[aX];omega,nl,iv,⟨λb o hb=>?_,λb o hb=>?_⟩,ky2 _ _ (sa _ _ cf),T _ _ cta (u _ nta),⟨tf.1,λi b hb=>let ⟨r,g1,g2⟩:=tf.2 i b hb;⟨r,g1,ky2 _ _ (sa _ _ g2)⟩⟩,⟨tb.1,λi b hb=>let ⟨r,g1,g2⟩:=tb.2 i b hb;⟨r,g1,T _ _ g2 (u _ (frb b (List.mem_of_getElem? hb)))⟩⟩,R,L,h⟩
   ·split at hb
    ·exact hb
    ·cases hb
   ·split at hb
    ·assumption
    ·cases hb
end
def top(i:Nat):Stmt:=PySem.Challenge.pw_greywalk_k41_rows_of_undoing.main.body.getD i (.Pass ⟨0,0,0,0⟩)
abbrev Zdi:Stmt:=top 12
abbrev o9:Stmt:=inClass (top 13) 2
abbrev nQ:Stmt:=inClass (top 13) 3
abbrev vH:Stmt:=inClass (top 13) 4
abbrev EY:Stmt:=inClass (top 14) 0
abbrev Ae:Stmt:=inClass (top 14) 1
abbrev sI:Stmt:=inClass (top 14) 2
abbrev K6:Stmt:=inClass (top 15) 0
abbrev Fb:Stmt:=inClass (top 15) 1
abbrev sJ:Stmt:=inClass (top 15) 2
abbrev K3:Stmt:=inClass (top 16) 0
abbrev Ew:Stmt:=inClass (top 16) 1
abbrev sH:Stmt:=inClass (top 16) 2
abbrev Eu:Stmt:=inClass (top 16) 3
abbrev vI:Stmt:=inClass (top 17) 0
abbrev Ey:Stmt:=inClass (top 17) 1
abbrev vL:Stmt:=inClass (top 19) 0
abbrev Fe:Stmt:=inClass (top 19) 1
abbrev sO:Stmt:=inClass (top 19) 2
abbrev vJ:Stmt:=inClass (top 20) 0
abbrev jk:Stmt:=inClass (top 20) 1
abbrev QS:Stmt:=inClass (top 20) 2
abbrev K5:Stmt:=inClass (top 20) 3
abbrev K4:Stmt:=inClass (top 20) 4
abbrev Ez:Stmt:=inClass (top 20) 5
abbrev X7:Stmt:=top 21
abbrev QL:Stmt:=top 22
abbrev vK:Stmt:=inClass (top 24) 0
abbrev o8:Stmt:=inClass (top 25) 0
abbrev sE:Stmt:=inClass (top 26) 0
abbrev Zns:Stmt:=top 27
abbrev Ab:Stmt:=top 28
abbrev KC:Stmt:=top 29
abbrev Kw:Stmt:=top 30
abbrev Ky:Stmt:=top 31
abbrev Ek:Stmt:=top 32
abbrev Zje:Stmt:=top 33
abbrev Znr:Stmt:=top 34
abbrev QF:Stmt:=top 35
abbrev Znt:Stmt:=top 36
abbrev Zjd:Stmt:=top 37
abbrev XH:Stmt:=top 38
abbrev QD:Stmt:=top 40
abbrev X6:Stmt:=top 41
abbrev Kz:Stmt:=top 42
abbrev z7:Stmt:=top 43
abbrev z8:Stmt:=top 44
abbrev XX:Stmt:=top 45
abbrev Zdh:Stmt:=top 46
abbrev Zdg:Stmt:=top 47
abbrev X5:Stmt:=top 48
abbrev X4:Stmt:=top 49
abbrev X3:Stmt:=top 50
abbrev QK:Stmt:=top 51
abbrev XR:Stmt:=top 52
abbrev XS:Stmt:=top 53
abbrev XN:Stmt:=top 54
abbrev z9:Stmt:=top 55
abbrev Zxv:Stmt:=top 57
abbrev sG:Stmt:=inClass (top 60) 0
abbrev QC:Stmt:=top 61
abbrev XM:Stmt:=top 63
abbrev Zdf:Stmt:=top 64
abbrev Ei:Stmt:=top 66
abbrev xx:Stmt:=top 67
abbrev xr:Stmt:=top 68
abbrev Znp:Stmt:=top 69
abbrev Aa:Stmt:=top 70
abbrev Zu8:Stmt:=top 71
abbrev El:Stmt:=top 72
abbrev QH:Stmt:=top 73
abbrev Ef:Stmt:=top 74
abbrev xu:Stmt:=top 75
abbrev Eh:Stmt:=top 76
abbrev s_end:Stmt:=top 77
abbrev su:Stmt:=top 78
abbrev Znq:Stmt:=top 80
abbrev XF:Stmt:=top 81
abbrev Zjb:Stmt:=top 83
abbrev Zjc:Stmt:=top 84
abbrev Eg:Stmt:=top 85
abbrev Ed:Stmt:=top 86
abbrev XJ:Stmt:=top 87
abbrev XD:Stmt:=top 89
abbrev xq:Stmt:=top 90
abbrev xF:Stmt:=top 91
abbrev vG:Stmt:=top 92
abbrev QJ:Stmt:=top 93
abbrev xG:Stmt:=top 94
abbrev mD:Stmt:=top 95
abbrev mF:Stmt:=top 96
abbrev K1:Stmt:=top 98
abbrev KZ:Stmt:=top 99
abbrev Es:Stmt:=top 100
abbrev KQ:Stmt:=top 101
abbrev KJ:Stmt:=top 102
abbrev KD:Stmt:=top 103
abbrev KR:Stmt:=top 104
abbrev Eo:Stmt:=top 105
abbrev Er:Stmt:=top 106
abbrev QM:Stmt:=top 107
abbrev KN:Stmt:=top 108
abbrev KY:Stmt:=top 109
abbrev En:Stmt:=top 110
abbrev Ep:Stmt:=top 111
abbrev xJ:Stmt:=top 112
abbrev Et:Stmt:=top 113
abbrev xH:Stmt:=top 114
abbrev KH:Stmt:=top 115
abbrev Ac:Stmt:=top 116
abbrev QG:Stmt:=top 117
abbrev Fi(K:aD)(c:AI)(s:Str)(f:AI):Prop:=W.findIn K (.ref c) s=some (↑f)
abbrev Fo(K:aD)(c:AI)(s:Str):Prop:=W.findIn K (.ref c) s=some none
abbrev Ns(K:aD)(s:Str)(f:AI):Prop:=W.nsIn K mainGlobals s=some (↑f)
abbrev Ki(K:aD)(f:AI):Prop:=W.keepIn K (.ref f)=true
abbrev Ci(K:aD)(c:AJ)(s:Str):Prop:=W.codeIn K c s=true
abbrev Lk(K:aD)(f:AI)(a b:Str)(s:Stmt)(d:AJ)(oc:AJ)(od:Option AI)(kV dc pm:AJ)(an:Option AI)(cd ct:AJ)(sl:Array AB):Prop:=K.lookup f=some ⟨oc,od,.func (W.fnOf a b (iM s) (fV s) (aC s) d kV dc pm an cd ct),sl⟩
abbrev FnG(K:aD)(x q:Str)(s:Stmt)(f:AI):Prop:=∃fd,Fun K x q s f fd
section
variable {K:aD}{x q:Str}{s:Stmt}{f C:AI}{oc:AJ}{od:Option AI}{kV dc pm:AJ}{an:Option AI}{cd ct:AJ}{sl:Array AB}
theorem fgm(l:Lk K f x q s .none oc od kV dc pm an cd ct sl)(c:Ci K cd q)(k:Ki K f):FnG K x q s f:=⟨_,Zq4 l c k⟩
noncomputable def eG (g:FnG K x q s f):AL:=g.choose
theorem BV(g:FnG K x q s f):Fun K x q s f (eG g):=g.choose_spec
structure FA(K:aD)(x:Str)(s:Stmt)(f:AI):Prop where
 a:Ns K x f
 g:FnG K x x s f
theorem fam(a:Ns K x f)(l:Lk K f x x s .none oc od kV dc pm an cd ct sl)(c:Ci K cd x)(k:Ki K f):FA K x s f:=⟨a,fgm l c k⟩
structure FT(K:aD)(mg:As)(x:Str)(s:Stmt)(f:AI):Prop where
 m:mg x=↑f
 g:FnG K x x s f
structure MT(K:aD)(C:AI)(x q:Str)(s:Stmt)(f:AI):Prop where
 m:Meth K C x f
 g:FnG K x q s f
theorem mtm(a:Fi K C x f)(i:W.isFn K (.ref f)=true)(l:Lk K f x q s .none oc od kV dc pm an cd ct sl)(c:Ci K cd q)(k:Ki K f):MT K C x q s f:=⟨⟨a,i,k⟩,fgm l c k⟩
structure CA(K:aD)(C:AI):Prop where
 c:Pq K C
 mk':W.makesIn K C=true
 k:Ki K C
theorem cam(a:W.plainGet K C Str.empty=true)(b:W.hasDictIn K C=true)(c:W.plainOver K C=true)(d:W.findIn K (.ref C) "__setattr__"=some (some (.builtin "object.__setattr__")))(e:W.makesIn K C=true)(f:Ki K C):CA K C:=⟨⟨a,b,c,d⟩,e,f⟩
theorem exm(a:W.findIn K (.ref C) "__getattribute__"=some (some (.builtin "BaseException.__getattribute__")))(b:Fo K C "__getattr__")(c:W.findIn K (.ref C) "__class__"=some (some (.builtin "object.__class__")))(d:W.mroIn K C (.type "object")=some true)(e:W.mroIn K C (.type "BaseException")=some true)(f:W.hasDictIn K C=true):G.Dv K C:=⟨a,b,c,d,e,f⟩
end
theorem cn1{a:Type}{us:List a}{n:Nat}(h:us.length=n+1):∃x t,us=x::t/\t.length=n:=by cases us with | nil=>cases h | cons x t=>exact⟨x,t,rfl,Nat.succ.inj h⟩
theorem bd1{K:aD}{x a:Str}{st:Stmt}{f:AI}{fd:AL}(F:Fun K x a st f fd)(a0:Str)(h:∀(kV c g:AJ) (e:Option AI) (b ct d:AJ),bindArgs (W.fnOf x a (iM st) (fV st) ez .none kV c g e b ct) ⟨[d],[]⟩=pure (([a0]:AH).zip [d]):=by intros;rfl):Binds K fd [a0] []:=F.binds λkV c g e b ct us hl=>by obtain⟨d,_,rfl,l1⟩:=cn1 (n:=0) hl;cases List.eq_nil_of_length_eq_zero l1;exact h kV c g e b ct d
theorem bd2{K:aD}{x a:Str}{st:Stmt}{f:AI}{fd:AL}(F:Fun K x a st f fd)(a0 j:Str)(h:∀(kV c i:AJ) (g:Option AI) (b ct e d:AJ),bindArgs (W.fnOf x a (iM st) (fV st) ez .none kV c i g b ct) ⟨[e,d],[]⟩=pure (([a0,j]:AH).zip [e,d]):=by intros;rfl):Binds K fd [a0,j] []:=F.binds λkV c i g b ct us hl=>by obtain⟨e,_,rfl,l1⟩:=cn1 (n:=1) hl;obtain⟨d,_,rfl,l2⟩:=cn1 (n:=0) l1;cases List.eq_nil_of_length_eq_zero l2;exact h kV c i g b ct e d
theorem bd3{K:aD}{x a:Str}{st:Stmt}{f:AI}{fd:AL}(F:Fun K x a st f fd)(a0 k l:Str)(h:∀(kV c j:AJ) (i:Option AI) (b ct g d e:AJ),bindArgs (W.fnOf x a (iM st) (fV st) ez .none kV c j i b ct) ⟨[g,d,e],[]⟩=pure (([a0,k,l]:AH).zip [g,d,e]):=by intros;rfl):Binds K fd [a0,k,l] []:=F.binds λkV c j i b ct us hl=>by obtain⟨g,_,rfl,l1⟩:=cn1 (n:=2) hl;obtain⟨d,_,rfl,l2⟩:=cn1 (n:=1) l1;obtain⟨e,_,rfl,l3⟩:=cn1 (n:=0) l2;cases List.eq_nil_of_length_eq_zero l3;exact h kV c j i b ct g d e
theorem bd4{K:aD}{x a:Str}{st:Stmt}{f:AI}{fd:AL}(F:Fun K x a st f fd)(a0 m n l:Str)(h:∀(kV c k:AJ) (j:Option AI) (b ct i d e g:AJ),bindArgs (W.fnOf x a (iM st) (fV st) ez .none kV c k j b ct) ⟨[i,d,e,g],[]⟩=pure (([a0,m,n,l]:AH).zip [i,d,e,g]):=by intros;rfl):Binds K fd [a0,m,n,l] []:=F.binds λkV c k j b ct us hl=>by obtain⟨i,_,rfl,l1⟩:=cn1 (n:=3) hl;obtain⟨d,_,rfl,l2⟩:=cn1 (n:=2) l1;obtain⟨e,_,rfl,l3⟩:=cn1 (n:=1) l2;obtain⟨g,_,rfl,l4⟩:=cn1 (n:=0) l3;cases List.eq_nil_of_length_eq_zero l4;exact h kV c k j b ct i d e g
theorem bd5{K:aD}{x a:Str}{st:Stmt}{f:AI}{fd:AL}(F:Fun K x a st f fd)(a0 o p n m:Str)(h:∀(kV c l:AJ) (k:Option AI) (b ct j e g i d:AJ),bindArgs (W.fnOf x a (iM st) (fV st) ez .none kV c l k b ct) ⟨[j,e,g,i,d],[]⟩=pure (([a0,o,p,n,m]:AH).zip [j,e,g,i,d]):=by intros;rfl):Binds K fd [a0,o,p,n,m] []:=F.binds λkV c l k b ct us hl=>by obtain⟨j,_,rfl,l1⟩:=cn1 (n:=4) hl;obtain⟨e,_,rfl,l2⟩:=cn1 (n:=3) l1;obtain⟨g,_,rfl,l3⟩:=cn1 (n:=2) l2;obtain⟨i,_,rfl,l4⟩:=cn1 (n:=1) l3;obtain⟨d,_,rfl,l5⟩:=cn1 (n:=0) l4;cases List.eq_nil_of_length_eq_zero l5;exact h kV c l k b ct j e g i d
structure Hh(P:AM)(w:AO)(K:aD)(mg:As)(base:Heap)(n:Nat)(f:AI)(fd:AL)(ps:AH)(sp:Sp):Prop where
 g:pX P w K mg base (G.Dw P w) n f fd ps sp
 b:Binds K fd ps []
 k:W.keepIn K (.ref f)=true
abbrev Fn5(P:AM)(w:AO)(K:aD)(mg:As)(base:Heap)(n:Nat)(f:AI)(fd:AL)(ps:AH)(sp:Sp):Prop:=pX P w K mg base (G.Dw P w) n f fd ps sp
section
variable {X:Cx}{n k:Nat}{f:AI}{fd:AL}{ps:AH}{sp:Sp}{x:Str}{e:AN}{es:AG}{t:TA}{p pos:Pos}{s:Stmt}
theorem dN(d:Hh X.prog X.w X.K X.mg X.base n f fd ps sp)(hr:Room k X.A)(mo:∀{s:Str}{v:AJ},W.nsIn X.K mainGlobals s=some (some v)->X.mg s=some v)(hm:FA X.K x s f)(ha:PA X (e::es) t)(hn:n<=k:=by decide)(i:X.env.kindOf x=some .globalImplicit:=by rfl)(c:(x == ("__debug__":Str))=false:=by decide)(j:starEach (e::es) X.env=(false,eval e X.env)::starEach es X.env:=by rfl)(h:(backTo pos ec).any (·.1)=false:=by rfl):PE X (.Call (.Name x p) (e::es) [] pos) (aR sp [] E0 t):=qy d.g (hr.mono hn) i (mo hm.a) d.k d.b .nil G.cQ ha c j h
end
theorem bN{N P:AH}{h:Scope}(a:h.kind=.function:=by rfl)(b:h.isCoroutine=false:=by rfl)(c:h.isGenerator=false:=by rfl)(d:N.Nodup:=by decide +kernel)(e:N.take P.length=P:=by rfl)(f:∀x∈P,h.names.lookup x=some .local\/h.names.lookup x=some .cell:=by decide +kernel)(g:∀y∈h.names,y.2≠.free:=by decide +kernel):aM N P h:=⟨a,b,c,d,e,f,g⟩
abbrev pC:AH:=["self","hands"]
abbrev nY:AH:=["self","looked","hands"]
abbrev tK:AH:=["self","hands"]
abbrev tL:AH:=["self","looked","hands"]
abbrev tH:AH:=["self","looked","hands"]
abbrev vV:AH:=["self","looking","tells"]
abbrev vY:AH:=["self","birth","many","bulk","tone"]
abbrev tM:AH:=["self","field"]
abbrev vW:AH:=["self","room"]
abbrev xZ:AH:=["self","many","bulk","tone"]
abbrev Ry:AH:=["self","cell"]
abbrev LQ:AH:=["self","place"]
abbrev Yr:AH:=["heap","place"]
abbrev Rv:AH:=["heap","place"]
abbrev vX:AH:=["self","name","many"]
abbrev tE:AH:=["self","room","kind","hands"]
abbrev Ln:AH:=["heap","places"]
abbrev Lh:AH:=["world","hand"]
abbrev Li:AH:=["world","cell"]
abbrev Zof:AH:=["world","place"]
abbrev Rt:AH:=["world","places"]
abbrev Zog:AH:=["world","place","birth"]
abbrev Yh:AH:=["world","place","birth"]
abbrev Rr:AH:=["world","hand"]
abbrev Yq:AH:=["world","hand","slot"]
abbrev Lj:AH:=["world","hand","slot","field"]
abbrev Bf:AH:=["world","place"]
abbrev Bg:AH:=["world","hand","place"]
abbrev Ym:AH:=["world","deed"]
abbrev Zdy:AH:=["world","deed"]
abbrev Zdx:AH:=["world","deed"]
abbrev Yp:AH:=["world","deed"]
abbrev Yo:AH:=["world","deed"]
abbrev Yn:AH:=["world","deed"]
abbrev Ru:AH:=["world","deed"]
abbrev Yk:AH:=["world","deed"]
abbrev Yl:AH:=["world","deed"]
abbrev Yj:AH:=["world","deed"]
abbrev Bh:AH:=["world","word"]
abbrev Zy0:AH:=["world","deed"]
abbrev tG:AH:=["self","room","kind","hands","rows"]
abbrev Yi:AH:=["heap","rows"]
abbrev Zdw:AH:=["heap","places","way"]
abbrev Gi:AH:=["world","hands"]
abbrev Zjp:AH:=["world","row"]
abbrev Zjq:AH:=["world","many"]
abbrev Gh:AH:=["events"]
abbrev Gg:AH:=["world","deed"]
abbrev xW:AH:=["kind","hands"]
abbrev mK:AH:=["looking","hands"]
abbrev mL:AH:=["looking","hands"]
abbrev LK:AH:=["_law_script","_law_k"]
abbrev LC:AH:=["_law_cell_here","_law_prime","_law_many"]
abbrev Gp:AH:=["_law_cell_here"]
abbrev Lx:AH:=["_law_cell_here"]
abbrev Lr:AH:=["_law_drawn","_law_size"]
abbrev Lp:AH:=["_law_seed","_law_number"]
abbrev Ly:AH:=["_law_n","_law_hand","_law_slot_here"]
abbrev Gk:AH:=["_law_n","_law_most"]
abbrev Gn:AH:=["_law_n","_law_hand","_law_slot_here","_law_hands_here","_law_seed"]
abbrev Rx:AH:=["_law_n","_law_hands_here","_law_seed","_law_most"]
abbrev Ls:AH:=["_law_cells","_law_hands_here","_law_seed","_law_most"]
abbrev Lz:AH:=["_law_number"]
abbrev Gj:AH:=["_law_found"]
abbrev Gm:AH:=["_law_number"]
abbrev xY:AH:=["_law_scene"]
abbrev Gq:AH:=["_law_row_here"]
abbrev xX:AH:=["_law_world","_law_row_here"]
abbrev Lq:AH:=["_law_number","_law_hands_here"]
abbrev Bj:AH:=["_law_world","_law_found","_law_tail_here"]
section
variable {X:Cx}
theorem iz{a b:AN}{d tb:TE}{c:Pos}{r:R2}(hr:IxR X r)(ha:PE X a d)(hb:PE X b tb)(hs:Zcv b:=by exact λ_ _=>rfl):PE X (.Subscript a b c) (bu r d tb):=Zuf hr ha hb hs
theorem pdg{o i:AN}{b ty:TE}{a:Pos}{k:Nat}(hr:Room k X.A)(c:PE X o b)(d:PE X i ty)(hs:Ztz i:=by exact λ_ _=>rfl):PE X (.Subscript o i a) (Zd6 b ty):=Zs7 (HF hr) c d hs
theorem jg{a b:AN}{e tb:TE}{c:Pos}{d:CmpOp}{r:R2}(f:uz X (compareOp d) r)(ha:PE X a e)(hb:PE X b tb)(hm:behindInMarks d b=false:=by exact lM _):PT X (.Compare a [d] [b] c) (bJ (bu r e tb)):=Zrz f ha hb hm
theorem dY(i:Nat){x:Str}{e:AN}{c:TE}{a b:Pos}(g:X.N.Nodup)(d:PE X e c)(f:X.N[i]? =some x:=by rfl)(hx:Loc X.env.scope x:=by exact Or.inl rfl)(hs:swapsWith e (some (.Name x a)) b.line X.env=pure false:=by rfl)(h:X.fn x=true\/X.env.scope.names.lookup x=some .local:=by first | exact .inl rfl | exact .inr rfl | assumption):PS X (.Assign [.Name x a] e b) (bC c (aO i)):=Za8 g f hx d hs h
end
structure PAw(X:Cx)(es:AG)(t:TA):Prop where
 h:PA X es t
structure PSw(X:Cx)(st:List Stmt)(t:TS):Prop where
 h:Qf X st t
structure PPw(X:Cx)(pos:Pos)(keys:List (Option AN))(values:AG)(trs:List (TE×TE)):Prop where
 h:PPs X pos keys values trs
structure PEw(X:Cx)(e:AN)(t:TE):Prop where
 h:PE X e t
section
variable {X:Cx}
theorem pew{e:AN}{t:TE}(h:PE X e t):PEw X e t:=⟨h⟩
theorem oH:PAw X [] aG:=⟨au⟩
theorem bQ{e es te t}(ha:PE X e te)(hr:PAw X es t)(hs:starEach (e::es) X.env=(false,eval e X.env)::starEach es X.env:=by rfl):PAw X (e::es) (aj te t):=⟨aa ha hr.h hs⟩
theorem Zs1:PSw X [] bR:=⟨bz⟩
theorem sZ{st rest t u}(h1:PS X st t)(h2:PSw X rest u):PSw X (st::rest) (aN t u):=⟨aq h1 h2.h⟩
theorem Zs0{st t}(h1:PS X st t):PSw X [st] t:=⟨aA h1⟩
theorem Zvf{c a b tc t u rest v pos}(hc:PT X c tc)(ha:PSw X a t)(hb:PSw X b u)(h2:PSw X rest v):PSw X (.If c a b pos::rest) (aN (cZ tc t u) v):=⟨aq (cz hc ha.h hb.h) h2.h⟩
theorem Zdr{es t p pos}(h:PAw X es t):PSw X [.Return (some (.List es p)) pos] (bw (eU t)):=⟨aA (aK (cF h.h))⟩
theorem Za9{es t p}(h:PAw X es t):PEw X (.List es p) (eU t):=⟨cF h.h⟩
theorem Rp{a b:AN}{e tb:TE}{d:Operator}{r:R2}{c:Pos}(f:uz X (binaryOp d) r)(ha:PEw X a e)(hb:PEw X b tb):PEw X (.BinOp a d b c) (bu r e tb):=⟨aU f ha.h hb.h⟩
theorem Zjn{e t pos}(h:PEw X e t):PSw X [.Return (some e) pos] (bw t):=⟨aA (aK h.h)⟩
theorem Za7{i:Nat}{x:Str}{es t p pos' pos rest u}(b:X.N.Nodup)(a:X.N[i]? =some x)(hx:Loc X.env.scope x)(h:PAw X es t)(h2:PSw X rest u)(c:X.fn x=true\/X.env.scope.names.lookup x=some .local:=by first | exact .inl rfl | exact .inr rfl | assumption):PSw X (.Assign [.Name x pos'] (.List es p) pos::rest) (aN (bC (eU t) (aO i)) u):=⟨aq (Za8 b a hx (cF h.h) rfl c) h2.h⟩
theorem Zs2{i:Nat}{x:Str}{es t b tb p q pos' pos rest u}(c:X.N.Nodup)(a:X.N[i]? =some x)(hx:Loc X.env.scope x)(h:PAw X es t)(hb:PE X b tb)(hp:Zcv b)(h2:PSw X rest u)(hs:swapsWith (.Subscript (.List es p) b q) (some (.Name x pos')) pos.line X.env=pure false:=by rfl)(d:X.fn x=true\/X.env.scope.names.lookup x=some .local:=by first | exact .inl rfl | exact .inr rfl | assumption):PSw X (.Assign [.Name x pos'] (.Subscript (.List es p) b q) pos::rest) (aN (bC (bu (jf X.K) (eU t) tb) (aO i)) u):=⟨aq (Za8 c a hx (Zuf cV (cF h.h) hb hp) hs d) h2.h⟩
end
open PySem.Spec PyProof.Rows in
theorem ZB9{P:AM}{w:AO}{K:aD}{mg:As}{base:Heap}{x a:Str}{st:Stmt}{f:AI}{fd:AL}{N ps:AH}{sp:Sp}{k:Nat}(F:Fun K x a st f fd)(S:aM N ps ez)(len:∀vs H Q E,sp vs H Q E->vs.length=ps.length)
  (c:∀(b:AJ) (A:Around) (outer:List Env) (s:AK) (H:Hp) (vs:List V) (Q:VK) (E:XK),Room k (A.deeper (envOfC a ez s.heap.objs.size f b))->sp vs H Q E->
   ∃t,PSw (zV (Dw P w) P w K mg base N a ez f b A outer s H E).nox (fV st) t/\t { nx:=λ_ H'=>Q .non H',rt:=Q } (start N vs) H):pX P w K mg base (Dw P w) dX f fd ps sp:=
 G.fok F S len λb A outer s H vs Q E hr h=>let ⟨t,p,q⟩:=c b A outer s H vs Q E hr h;⟨t,p.h,q⟩
structure Ad where
 (bh j9 aQ bx bY bF cN j8 Zfd fc ig gK Io Cj um Ny Ip uo Nu Ik uh Ij wD Il wH Ir uq wF iH Uc Nx Nv Im Zk Ua wG pO uf Zqe Cd Nf M8 M9 HX Zkd Zqd TY Zqf Zkc Zg TX Zj Nb BW BX jV nj m9 jY jX jW jq jT jU jR BZ Zz4 ug TV Zi Zfc HW fJ fG Zqb Ca Zus HY T7 HQ fH HS Zur dR Zqc Zf Zka Zkb HR HN Zh Ze yG yH wC T9 yI m7 m8 Nt Nr Ih Nk Ni Ng Nm Ib Ig Ub Nj Np Ia Ie yK Ii yJ Nh Cg:AI)
structure Bd where
 u:Unit
 (uV:AL)
structure Tx1(K:aD)(XQ:Cs)(AD:Ad):Prop where
 Ztx:Ns K "First" XQ.F
 Zxi:Ns K "Each" XQ.E
 Zxf:Ns K "Last" XQ.L
 Zim:Ns K "Kind" XQ.K
 Zxj:Ns K "Cell" XQ.C
 Zxg:Ns K "Heap" XQ.H
 Zxh:Ns K "Hand" XQ.D
 Zn1:Ns K "Sweeper" XQ.S
 Ztv:Ns K "World" XQ.W
 Ztw:Ns K "Scene" AD.bh
 Zfz:Ns K "GreyError" AD.j9
 yP:Ns K "EmptySlot" AD.aQ
 J9:Ns K "NoField" AD.bx
 Zin:Ns K "Full" AD.bY
 Uq:Ns K "NoName" AD.bF
 Zks:Ns K "Sound" AD.cN
 Zfy:Ns K "TextError" AD.j8
 Sv:FA K "all_of" Zdi AD.Zfd
 fY:MT K XQ.E "at_begin" "Looking.at_begin" o9 AD.fc
 jm:MT K XQ.F "next_look" "Looking.next_look" nQ AD.ig
 iy:MT K XQ.E "stays" "Looking.stays" vH AD.gK
 Bw:MT K XQ.F "word" "First.word" EY AD.Io
 yp:MT K XQ.F "needs" "First.needs" Ae AD.Cj
 qR:MT K XQ.F "at_begin" "First.at_begin" sI AD.um
 GX:MT K XQ.E "word" "Each.word" K6 AD.Ny
 Bx:MT K XQ.E "needs" "Each.needs" Fb AD.Ip
 qT:MT K XQ.E "next_look" "Each.next_look" sJ AD.uo
 GK:MT K XQ.L "word" "Last.word" K3 AD.Nu
 Bt:MT K XQ.L "needs" "Last.needs" Ew AD.Ik
 qQ:MT K XQ.L "next_look" "Last.next_look" sH AD.uh
 rJ:MT K XQ.L "stays" "Last.stays" Eu AD.Ij
 jA:MT K XQ.K "__init__" "Kind.__init__" vI AD.wD
 Bu:MT K XQ.K "sound" "Kind.sound" Ey AD.Il
 t8:MT K XQ.C "__init__" "Cell.__init__" vL AD.wH
 mC:MT K XQ.C "units" "Cell.units" Fe AD.Ir
 qU:MT K XQ.C "has_field" "Cell.has_field" sO AD.uq
 tX:MT K XQ.H "__init__" "Heap.__init__" vJ AD.wF
 Mi:MT K XQ.H "lay" "Heap.lay" QS AD.Uc
 GR:MT K XQ.H "back" "Heap.back" K5 AD.Nx
 GQ:MT K XQ.H "free" "Heap.free" K4 AD.Nv
 Bv:MT K XQ.H "there" "Heap.there" Ez AD.Im
 lQ:FA K "cell_at" X7 AD.Zk
 iJ:FA K "birth_at" QL AD.Ua
 tY:MT K XQ.D "__init__" "Hand.__init__" vK AD.wG
 oA:MT K XQ.S "__init__" "Sweeper.__init__" o8 AD.pO
 qO:MT K XQ.W "__init__" "World.__init__" sE AD.uf
 Zhl:FA K "held" Zns AD.Zqe
 BK:FA K "births_held" Ab AD.Cd
 yz:FA K "births_at" KC AD.Nf
 Mj:FA K "looked_at" Kw AD.M8
 jo:FA K "has_sense" Ky AD.M9
 G5:FA K "is_walking" Ek AD.HX
 Zjx:FA K "begin" Zje AD.Zkd
 Zp9:FA K "note" Znr AD.Zqd
 lO:FA K "note_all" QF AD.TY
 Zhm:FA K "gone" Znt AD.Zqf
 Zjw:FA K "roots" Zjd AD.Zkc
 YB:FA K "root_of" XH AD.Zg
 gB:FA K "slots_of" QD AD.TX
 jB:FA K "cell_in" X6 AD.Zj
 mY:FA K "fields_in" Kz AD.Nb
 By:FA K "told_as_old" z7 AD.BW
 rM:FA K "told_as_new" z8 AD.BX
 YH:FA K "do_make" XX AD.jV
 Zel:FA K "do_get" Zdh AD.nj
 Zek:FA K "do_put" Zdg AD.m9
 YL:FA K "do_copy" X5 AD.jY
 YK:FA K "do_drop" X4 AD.jX
 YJ:FA K "do_give" X3 AD.jW
 Su:FA K "do_write" QK AD.jq
 YF:FA K "do_read" XR AD.jT
 YG:FA K "do_name" XS AD.jU
 YD:FA K "do_seek" XN AD.jR
 rN:FA K "place_named" z9 AD.BZ
 Zvx:FA K "do" Zxv AD.Zz4
 qP:MT K AD.bh "__init__" "Scene.__init__" sG AD.ug
 CQ:FA K "world_of" QC AD.TV
 YC:FA K "reached" XM AD.Zi
 Sh:FA K "onward" Zdf AD.Zfc
 uU:FA K "note_hands" Ei AD.HW
 yu:FA K "step_at_rest" xx AD.fJ
 yr:FA K "step_in_walk" xr AD.fG
 Zp8:FA K "walk" Znp AD.Zqb
 BJ:FA K "look_or_cut" Aa AD.Ca
 Zul:FA K "cut" Zu8 AD.Zus
 G6:FA K "first_loss" El AD.HY
 Sq:FA K "given_up" QH AD.T7
 uR:FA K "told_again" Ef AD.HQ
 yt:FA K "step_in_give" xu AD.fH
 G4:FA K "pass_place" Eh AD.HS
 Zuk:FA K "end" s_end AD.Zur
 uc:FA K "step_when_lost" su AD.dR
 Sg:FA K "step" Znq AD.Zqc
 JP:FA K "to_rest" XF AD.Zf
 G3:FA K "tried" Zjb AD.Zka
 Zjv:FA K "swept" Zjc AD.Zkb
 uT:FA K "tells_loss" Eg AD.HR
 GZ:FA K "tried_deed" Ed AD.HN
 ud:FA K "refused" XJ AD.Zh
 zL:FA K "undoing" XD AD.Ze
 yq:FA K "world_behind" xq AD.yG
 yw:FA K "rows_to_rest" xF AD.yH
 wu:FA K "rows_to_empty" vG AD.wC
 Ss:FA K "drops_of" QJ AD.T9
 yx:FA K "rows_to_loss" xG AD.yI
 mW:FA K "rows_untold_as_old" mD AD.m7
 mX:FA K "rows_untold_as_new" mF AD.m8
 mZ:FA K "_law_cell" K1 AD.Nt
 fB:FA K "_law_draw" KZ AD.Nr
 Hi:FA K "_law_hands" Es AD.Ih
 Mq:FA K "_law_room" KQ AD.Nk
 qW:FA K "_law_slot" KJ AD.Ni
 Ml:FA K "_law_word" KD AD.Ng
 Ms:FA K "_law_make" KR AD.Nm
 G8:FA K "_law_steps" Eo AD.Ib
 Hg:FA K "_law_other" Er AD.Ig
 Sx:FA K "_law_row" QM AD.Ub
 Mp:FA K "_law_rows" KN AD.Nj
 Mu:FA K "_law_kind" KY AD.Np
 G7:FA K "_law_whole" En AD.Ia
 G9:FA K "_law_sound" Ep AD.Ie
 yC:FA K "_law_refused" xJ AD.yK
 Hj:FA K "_law_a_row" Et AD.Ii
 pJ:FA K "_law_to_rest" xH AD.yJ
 Mm:FA K "_law_tail" KH AD.Nh
 BL:FA K "_law_walked" Ac AD.Cg
 nA:CA K XQ.F
 Zot:W.findIn K (.ref XQ.F) "__init__"=some eK
 qZ:CA K XQ.E
 Zsg:W.findIn K (.ref XQ.E) "__init__"=some eK
 qY:CA K XQ.L
 Zsf:W.findIn K (.ref XQ.L) "__init__"=some eK
 Jc:CA K XQ.K
 Sd:Fo K XQ.K "looking"
 Zay:Fo K XQ.K "tells"
 zN:CA K XQ.C
 eE:Fo K XQ.C "birth"
 qN:Fo K XQ.C "bulk"
 mV:Fo K XQ.C "tone"
 jQ:Fo K XQ.C "load"
 gj:Fo K XQ.C "fields"
 uZ:CA K XQ.H
 qM:Fo K XQ.H "room"
 bZ:Fo K XQ.H "cells"
 iD:Fo K XQ.H "used"
 mU:Fo K XQ.H "born"
 Zkp:CA K XQ.D
 Zeg:Fo K XQ.D "name"
 Zaz:Fo K XQ.D "slots"
 Uo:CA K XQ.S
 O5:Fo K XQ.S "sense"
 O6:Fo K XQ.S "phase"
 R9:Fo K XQ.S "grey"
 JM:Fo K XQ.S "looked"
 R6:Fo K XQ.S "turn"
 Zau:Fo K XQ.S "at"
 R7:Fo K XQ.S "stop"
 O4:Fo K XQ.S "walks"
 O7:Fo K XQ.S "looks"
 JL:Fo K XQ.S "passes"
 R8:Fo K XQ.S "loss"
 Zft:CA K XQ.W
 Zat:Fo K XQ.W "heap"
 Zas:Fo K XQ.W "kind"
 V2:Fo K XQ.W "hands"
 V1:Fo K XQ.W "names"
 O3:Fo K XQ.W "sweeper"
 Zfu:CA K AD.bh
 Zaw:Fo K AD.bh "room"
 Zax:Fo K AD.bh "kind"
 V3:Fo K AD.bh "hands"
 Zav:Fo K AD.bh "rows"
 Zd2:W.excIn K AD.aQ [.type "ValueError",.type "Exception",.type "BaseException",.type "object"] "ValueError.__new__"=true
 Zv2:W.excIn K AD.bY [.type "ValueError",.type "Exception",.type "BaseException",.type "object"] "ValueError.__new__"=true
 Zl0:W.excIn K AD.bx [.type "ValueError",.type "Exception",.type "BaseException",.type "object"] "ValueError.__new__"=true
 Zn6:W.excIn K AD.bF [.type "ValueError",.type "Exception",.type "BaseException",.type "object"] "ValueError.__new__"=true
 Zrc:W.excIn K AD.cN [.type "ValueError",.type "Exception",.type "BaseException",.type "object"] "ValueError.__new__"=true
 wU:W.exmOne K (.ref AD.aQ) (.ref AD.aQ)=some true
 Zfi:W.exmOne K (.ref AD.bY) (.ref AD.bY)=some true
 wR:W.exmOne K (.ref AD.aQ) (.ref AD.j9)=some true
 J4:W.exmOne K (.ref AD.bY) (.ref AD.j9)=some true
 zU:W.exmOne K (.ref AD.bx) (.ref AD.j9)=some true
 Dd:W.exmOne K (.ref AD.bF) (.ref AD.j9)=some true
 Iu:W.exmOne K (.ref AD.cN) (.ref AD.j9)=some true
 Iw:W.exmOne K (.ref AD.bx) (.ref AD.bx)=some true
 Pg:W.exmOne K (.ref AD.bF) (.ref AD.bF)=some true
 GJ:W.exmOne K (.ref AD.bY) (.ref AD.aQ)=some false
 O2:W.exmOne K (.ref AD.bY) (.ref AD.bx)=some false
 ym:W.exmOne K (.ref AD.bx) (.ref AD.aQ)=some false
 zT:W.exmOne K (.ref AD.bF) (.ref AD.aQ)=some false
 R4:W.exmOne K (.ref AD.bF) (.ref AD.bY)=some false
 GF:W.exmOne K (.ref AD.bF) (.ref AD.bx)=some false
 Zc5:G.Dv K AD.aQ
 Ztg:G.Dv K AD.bY
 Zi3:G.Dv K AD.bx
 Zmo:G.Dv K AD.bF
 Zqg:G.Dv K AD.cN
structure Txt(w:AO)(K:aD)(mg:As)(XQ:Cs)(AD:Ad)(BD:Bd):Prop extends Tx1 K XQ AD where
 mo {s:Str}{v:AJ}:W.nsIn K mainGlobals s=some (some v)->mg s=some v
 Xw:G.Tab K w mg "DEEDS" [("make",AD.jV),("get",AD.nj),("put",AD.m9),("copy",AD.jY),("drop",AD.jX),("give",AD.jW),("write",AD.jq),("read",AD.jT),("name",AD.jU),("seek",AD.jR)]
 Xv:G.Tab K w mg "STEPS" [("rest",AD.fJ),("walk",AD.fG),("give",AD.fH),("lost",AD.dR)]
 PX:G.EqD K XQ.C
 tZ:Meth K XQ.E "at_begin" AD.fc
 rK:Meth K XQ.E "stays" AD.gK
 pI:Meth K XQ.F "next_look" AD.ig
 pH:Meth K XQ.F "stays" AD.gK
 tW:Meth K XQ.L "at_begin" AD.fc
 GP:Meth K XQ.H "make" AD.iH
 oE:mg "ValueError"=none
 ZG:mg "bool"=none
 gf:mg "enumerate"=none
 Zj6:mg "int"=none
 dW:mg "isinstance"=none
 gq:mg "len"=none
 nC:mg "list"=none
 pY:mg "range"=none
 Zj5:mg "str"=none
 Pr:mg "tuple"=none
 Zk9:G.GC mg "NEW" (.int 2)
 Zf9:G.GC mg "OLD" (.int 1)
 qX:G.GC mg "SWEEP" (.str "sweep")
 Zy8:Zxk (W.kitOne K) AD.aQ AD.bY AD.bx AD.bF AD.j8 AD.cN
 N6:G.Zxm K "make" "Heap.make" jk AD.iH BD.uV
 yO:Binds K BD.uV xZ []
 MJ:Ki K AD.iH
theorem mkT{K:aD}{C f:AI}{q:Str}{s:Stmt}(c:CA K C)(m:MT K C "__init__" q s f):Mk K C f:=⟨c.mk',m.m.at_,m.m.fn,c.k⟩
section
variable {P:AM}{w:AO}{K:aD}{mg:As}{base:Heap}{x qual:Str}{st:Stmt}{f:AI}{n:Nat}{ps:AH}{sp:Sp}{g:FnG K x qual st f}
theorem Zx0(b:Binds K (eG g) ps [])(h:Fun K x qual st f (eG g)->Fn5 P w K mg base n f (eG g) ps sp):ι n f (eG g) ps sp:=⟨h (BV g),b,(BV g).kp⟩
theorem Zz2(b:Binds K (eG g) ps [])(h:Fun K x qual st f (eG g)->G.FnH P w K mg base (G.Dw P w) n f (eG g) ps sp):G.HhH P w K mg base n f (eG g) ps sp:=⟨h (BV g),b,(BV g).kp⟩
end
local macro_rules | `(tactic| walk_at "okb")=>`(tactic| first | exact bd1 (BV _) _ | exact bd2 (BV _) _ _ | exact bd3 (BV _) _ _ _ | exact bd4 (BV _) _ _ _ _ | exact bd5 (BV _) _ _ _ _ _)
local macro_rules | `(tactic| walk_at"k")=>`(tactic| (first | (obtain ⟨_,rfl,_⟩:=h;rfl) | (obtain ⟨_,_,rfl,_⟩:=h;rfl) | (obtain ⟨_,_,_,rfl,_⟩:=h;rfl) | (obtain ⟨_,_,_,_,rfl,_⟩:=h;rfl) | (obtain ⟨_,_,_,_,_,rfl,_⟩:=h;rfl) | (obtain ⟨_,_,_,_,_,_,rfl,_⟩:=h;rfl) | (obtain ⟨_,_,_,_,_,_,_,rfl,_⟩:=h;rfl)))
local macro_rules | `(tactic| walk_at "ok")=>`(tactic| (refine Zx0 ?b λF=>?_;(case b=>walk_at "okb");refine G.fok F sc (λvs H Q E h=>?_) eP;· (walk_at"k")))
local macro_rules | `(tactic| walk_at "okw")=>`(tactic| (refine Zx0 ?b λF=>?_;(case b=>walk_at "okb");refine ZB9 F sc (λvs H Q E h=>?_) eP;· (walk_at"k")))
local macro_rules | `(tactic| walk_at "okDX")=>`(tactic| (refine G.Zz3 F sc (λvs H Q E h=>?_) eP;· (walk_at"k")))
local macro_rules | `(tactic| walk_at "okH")=>`(tactic| (refine Zz2 ?b λF=>?_;(case b=>walk_at "okb");refine G.ZBb F sc (λvs H Q E h=>?_) (λcdv ea A outer s H vs Q E hr h=>?_);· (walk_at"k")))
local macro_rules | `(tactic| walk_at "okL")=>`(tactic| (refine G.fok F sc (λvs H Q E h=>?_) eP;· (walk_at"k")))
local macro_rules | `(tactic| walk_at "okX")=>`(tactic| (refine Zx0 ?b λF=>?_;(case b=>walk_at "okb");refine G.ZBa F sc (λvs H Q E h=>?_) eP;· (walk_at"k")))
section
variable {P:AM}{w:AO}{K:aD}{mg:As}{base:Heap}{XQ:Cs}{AD:Ad}{BD:Bd}(T:Txt w K mg XQ AD BD)
include T
theorem ji:TxS K XQ AD.bh:=⟨⟨⟨T.zN.c,T.eE,T.qN,T.mV,T.jQ,T.gj,T.uZ.c,T.qM,T.bZ,T.iD,T.mU,T.PX⟩,T.Zft.c,T.Zat,T.Zas,T.V2,T.V1,T.O3,T.Zkp.c,T.Zeg,T.Zaz,T.Jc.c,T.Sd,T.Zay,T.Uo.c,T.O5,T.O6,T.R9,T.JM,T.R6,T.Zau,T.R7,T.O4,T.O7,T.JL,T.R8⟩,T.Zfu.c,T.Zaw,T.Zax,T.V3,T.Zav⟩
theorem Zx2:G.Zj4 K [AD.aQ,AD.bY,AD.bx,AD.bF,AD.cN]:=by
 intro C a;simp only[List.mem_cons,List.not_mem_nil,or_false]at a;rcases a with rfl | rfl | rfl | rfl | rfl
 ·exact T.Zc5
 ·exact T.Ztg
 ·exact T.Zi3
 ·exact T.Zmo
 ·exact T.Zqg
theorem Yx:ι 1 AD.Zfd (eG T.Sv.g) ["hands"] (U0):=by
 have sc:aM ["hands"] ["hands"] (aC Zdi):=bN;walk_at "ok"
 ·refine⟨_,(aA (aK (aU CG (aU Zom (az) Ξ) (az)))),?_⟩;obtain⟨z0,rfl,q⟩:=h;exact Zn0 q
theorem ie:ι 1 AD.fc (eG T.fY.g) pC (vo 1):=by
 have sc:aM ["self","hands"] pC (aC o9):=bN;walk_at "ok"
 ·refine⟨_,(aA (aK (az))),?_⟩;obtain⟨z0,z1,rfl,q⟩:=h;exact zY q
theorem mQ:ι 1 AD.ig (eG T.jm.g) nY (j7 0):=by
 have sc:aM ["self","looked","hands"] nY (aC nQ):=bN;walk_at "ok"
 ·refine⟨_,(aA (aK (az))),?_⟩;obtain⟨z0,z1,z2,rfl,q⟩:=h;exact zp q
theorem dO:ι 1 AD.gK (eG T.iy.g) ["self"] (gW (.bl true)):=by
 have sc:aM ["self"] ["self"] (aC vH):=bN;walk_at "ok"
 ·refine⟨_,eQ,?_⟩;obtain⟨z0,rfl,q⟩:=h;exact Km q
theorem Br:ι 1 AD.Io (eG T.Bw.g) ["self"] (gW (.str "first")):=by
 have sc:aM ["self"] ["self"] (aC EY):=bN;walk_at "ok"
 ·refine⟨_,(aA (aK (aW))),?_⟩;obtain⟨z0,rfl,q⟩:=h;exact W9 (ji T).w q
theorem yg:ι 1 AD.Cj (eG T.yp.g) ["self"] (gW (.int 1)):=by
 have sc:aM ["self"] ["self"] (aC Ae):=bN;walk_at "ok"
 ·refine⟨_,(aA (aK (T.Zf9.pe rfl))),?_⟩;obtain⟨z0,rfl,q⟩:=h;exact U5 q
theorem Gx:ι 1 AD.Ny (eG T.GX.g) ["self"] (gW (.str "each")):=by
 have sc:aM ["self"] ["self"] (aC K6):=bN;walk_at "ok"
 ·refine⟨_,(aA (aK (aW))),?_⟩;obtain⟨z0,rfl,q⟩:=h;exact Zd1 (ji T).w q
theorem Bs:ι 1 AD.Ip (eG T.Bx.g) ["self"] (gW (.int 3)):=by
 have sc:aM ["self"] ["self"] (aC Fb):=bN;walk_at "ok"
 ·refine⟨_,(aA (aK (aU Zug (T.Zf9.pe rfl) (T.Zk9.pe rfl)))),?_⟩;obtain⟨z0,rfl,q⟩:=h;exact Xa q
theorem qJ:ι 1 AD.uo (eG T.qT.g) tL (j7 1):=by
 have sc:aM ["self","looked","hands","hand"] tL (aC sJ):=bN;walk_at "ok"
 ·refine⟨_,(aq (jE PassesOwn.never rfl (tD rfl T.pY cE) (dI (i:=3) sc.nd rfl bX)
   (aA (cz (jg dZ (aU yd (aU Zh9 ω dP) (az)) (az)) (aA (aK (aU Zom (az) dP))) bz)))
   (aA (aK (az)))),?_⟩
  obtain⟨z0,z1,z2,rfl,q⟩:=h;exact Jm q
theorem Gu:ι 1 AD.Nu (eG T.GK.g) ["self"] (gW (.str "last")):=by
 have sc:aM ["self"] ["self"] (aC K3):=bN;walk_at "ok"
 ·refine⟨_,(aA (aK (aW))),?_⟩;obtain⟨z0,rfl,q⟩:=h;exact Zcw (ji T).w q
theorem Bo:ι 1 AD.Ik (eG T.Bt.g) ["self"] (gW (.int 2)):=by
 have sc:aM ["self"] ["self"] (aC Ew):=bN;walk_at "ok"
 ·refine⟨_,(aA (aK (T.Zk9.pe rfl))),?_⟩;obtain⟨z0,rfl,q⟩:=h;exact W5 q
theorem mz:ι 1 AD.Ij (eG T.rJ.g) ["self"] (gW (.bl false)):=by
 have sc:aM ["self"] ["self"] (aC Eu):=bN;walk_at "ok"
 ·refine⟨_,eQ,?_⟩;obtain⟨z0,rfl,q⟩:=h;exact W4 q
theorem gn:ι 1 AD.wD (eG T.jA.g) vV (zj XQ.K):=by
 have sc:aM ["self","looking","tells"] vV (aC vI):=bN;walk_at "ok"
 ·refine⟨_,(aq (bL Ξ ω rfl)
   (aA (bL Ξ ae rfl))),?_⟩
  obtain⟨z0,z1,z2,rfl,q⟩:=h;exact Ko (ji T).w q
theorem tU:ι 1 AD.wH (eG T.t8.g) vY (N5 XQ.C):=by
 have sc:aM ["self","birth","many","bulk","tone"] vY (aC vL):=bN;walk_at "ok"
 ·refine⟨_,(aq (bL Ξ ω rfl)
   (aq (bL Ξ dP rfl)
   (aq (bL Ξ c0 rfl)
   (aq eB
   (aA (bL Ξ (aU Zon (cF (aa (eZ) au)) ae) rfl)))))),?_⟩
  obtain⟨z0,z1,z2,z3,z4,rfl,q⟩:=h;exact Kr (ji T).w.c q
theorem iU:ι 1 AD.Ir (eG T.mC.g) ["self"] (vz XQ.C):=by
 have sc:aM ["self"] ["self"] (aC Fe):=bN;walk_at "ok"
 ·refine⟨_,(aA (aK (aU dG (aU dG (az) ai) π))),?_⟩;obtain⟨z0,rfl,q⟩:=h;exact Xb (ji T).w.c q
theorem qK:ι 1 AD.uq (eG T.qU.g) tM (NK XQ):=by
 have sc:aM ["self","field"] tM (aC sO):=bN;walk_at "ok"
 ·refine⟨_,(aA (aK (Zoe Zy1 yc (az) ω ai))),?_⟩;obtain⟨z0,z1,rfl,q⟩:=h;exact Jo (ji T).w q
theorem tQ:ι 1 AD.wF (eG T.tX.g) vW (NQ XQ.H):=by
 have sc:aM ["self","room"] vW (aC vJ):=bN;walk_at "ok"
 ·refine⟨_,(aq (bL Ξ ω rfl)
   (aq (bL Ξ (cF au) rfl)
   (aq eB
   (aA eB)))),?_⟩
  obtain⟨z0,z1,rfl,q⟩:=h;exact Kp (ji T).w.c q
theorem Mf:ι 1 AD.Uc (eG T.Mi.g) Ry (U4 K XQ.H):=by
 have sc:aM ["self","cell","place"] Ry (aC QS):=bN;walk_at "ok"
 ·refine⟨_,(aq (cz (jg (G.Zlp (HF hr)) (eZ) π (by with_unfolding_all rfl)) (aq (fQ (qz PySem.F.plainAttrs_list PySem.F.slot_list_append PySem.F.type_list_append lN π bj))
   (aA (aK (aU CG ai (az))))) bz)
   (aq (dY 2 sc.nd (qz PySem.F.plainAttrs_list PySem.F.slot_list_index PySem.F.type_list_index (G.Zlt (HF hr)) π (aa (eZ) au)))
   (aq (uH ω (uK π ae set_list))
   (aA (aK ae))))),?_⟩
  obtain⟨z0,z1,rfl,q⟩:=h;exact Zg9 (ji T).w.c q
theorem Gv:ι 1 AD.Nv (eG T.GQ.g) ["self"] (NT XQ.H):=by
 have sc:aM ["self"] ["self"] (aC K4):=bN;walk_at "ok"
 ·refine⟨_,(aA (aK (aU CG π π))),?_⟩;obtain⟨z0,rfl,q⟩:=h;exact Zcy (ji T).w.c q
theorem Bq:ι 1 AD.Im (eG T.Bv.g) ["self"] (vq XQ.H):=by
 have sc:aM ["self"] ["self"] (aC Ez):=bN;walk_at "ok"
 ·refine⟨rH K,(aA (aK (G.Ye (cns:=["self"]) [0] (tD rfl T.pY (aa ai au)) (λ_ _ _ _ _=>(G.Rn (jg G.tO (iz cV dA Ξ) (eZ)))) (λ_ _ _ _ _=>Ξ) rfl rfl Ψ (by repeat (first | exact trivial | refine⟨rfl,?_⟩)) rfl γ rfl γ γ rfl γ))),?_⟩;obtain⟨z0,rfl,q⟩:=h;exact W8 (ji T).w.c q
theorem lH:ι 1 AD.Zk (eG T.lQ.g) Yr (iV XQ.H):=by
 have sc:aM ["heap","place"] Yr (aC X7):=bN;walk_at "ok"
 ·refine⟨_,(aq (cz (PW.pt (kZ (jg G.zG ω (eZ)) (kZ (jg yc ω (az)) (lF (jg Zuh ω ai))))) (aA (aK (eZ))) bz)
   (aA (aK (iz cV π ω)))),?_⟩
  obtain⟨z0,z1,rfl,q⟩:=h;exact Zig (ji T).w q
theorem tR:ι 1 AD.wG (eG T.tY.g) vX (NZ XQ.D):=by
 have sc:aM ["self","name","many"] vX (aC vK):=bN;walk_at "ok"
 ·refine⟨_,(aq (bL Ξ ω rfl)
   (aA (bL Ξ (aU Zon (cF (aa (eZ) au)) ae) rfl))),?_⟩
  obtain⟨z0,z1,z2,rfl,q⟩:=h;exact Kq (ji T).w q
theorem nZ:ι 1 AD.pO (eG T.oA.g) ["self"] (zg XQ.S):=by
 have sc:aM ["self"] ["self"] (aC o8):=bN;walk_at "ok"
 ·refine⟨_,(aq eB
   (aq (bL Ξ (aW) rfl)
   (aq (bL Ξ (cF au) rfl)
   (aq eB
   (aq eB
   (aq eB
   (aq eB
   (aq eB
   (aq eB
   (aq eB
   (aA (bL Ξ (eZ) rfl)))))))))))),?_⟩
  obtain⟨z0,rfl,q⟩:=h;exact zW (ji T).w q
theorem Zjs:ι 1 AD.Zqe (eG T.Zhl.g) ["world"] (UJ XQ):=by
 have sc:aM ["world"] ["world"] (aC Zns):=bN;walk_at "ok"
 ·refine⟨Za5 K,(aA (aK (G.Ye (cns:=[]) [] (jJ π) (λ_ _ _ _ _=>G.Ro) (λ_ _ _ _ _=>(jP G.lU η T.nC G.boot_list (aa π au))) rfl rfl Ψ (by repeat (first | exact trivial | refine⟨rfl,?_⟩)) rfl γ rfl γ γ rfl γ))),?_⟩;obtain⟨z0,rfl,q⟩:=h;exact Zt8 (ji T).w q
theorem Zag:ι 1 AD.M8 (eG T.Mj.g) Lh (NB XQ):=by
 have sc:aM ["world","hand"] Lh (aC Kw):=bN;walk_at "ok"
 ·refine⟨_,(aA (aK (iY dZ (aU yd (aU Zh9 bS ω) (az)) (az) (lM _)))),?_⟩;obtain⟨z0,z1,rfl,q⟩:=h;exact Zb1 (ji T).w q
theorem jw:ι 1 AD.M9 (eG T.jo.g) Li (iI XQ):=by
 have sc:aM ["world","cell"] Li (aC Ky):=bN;walk_at "ok"
 ·refine⟨_,(aA (aK (iY dZ dA bS (lM _)))),?_⟩;obtain⟨z0,z1,rfl,q⟩:=h;exact Zby (ji T).w q
theorem VF:ι 1 AD.HX (eG T.G5.g) ["world"] (Jh XQ):=by
 have sc:aM ["world"] ["world"] (aC Ek):=bN;walk_at "ok"
 ·refine⟨_,(aA (aK (iY JD bS (bB (aa (aW) (aa (aW) au))) (by with_unfolding_all rfl)))),?_⟩;obtain⟨z0,rfl,q⟩:=h;exact Wc (ji T).w q
theorem gh:ι 1 AD.TX (eG T.gB.g) Rr (gY XQ):=by
 have sc:aM ["world","hand"] Rr (aC QD):=bN;walk_at "ok"
 ·refine⟨_,(aA (aK (aJ (iz cV π ω) rfl))),?_⟩;obtain⟨z0,z1,rfl,q⟩:=h;exact Zde (ji T).w q
theorem RB:ι 1 AD.BW (eG T.By.g) Bf (Uy XQ):=by
 have sc:aM ["world","place"] Bf (aC z7):=bN;walk_at "ok"
 ·refine⟨_,(aq (cz (jg dZ (aU yd bS (T.Zf9.pe rfl)) (az)) (aA (aK (cF au))) bz)
   (aA (aK (cF bj)))),?_⟩
  obtain⟨z0,z1,rfl,q⟩:=h;exact Qi (ji T).w q
theorem qG:ι 1 AD.ug (eG T.qP.g) tG (vp AD.bh):=by
 have sc:aM ["self","room","kind","hands","rows"] tG (aC sG):=bN;walk_at "ok"
 ·refine⟨_,(aq (bL Ξ ω rfl)
   (aq (bL Ξ ae rfl)
   (aq (bL Ξ (jP G.lU η T.nC G.boot_list a4) rfl)
   (aA (bL Ξ (jP G.lU η T.nC G.boot_list (aa c0 au)) rfl))))),?_⟩
  obtain⟨z0,z1,z2,z3,z4,rfl,q⟩:=h;exact Jg (ji T) q
theorem Bk:ι 1 AD.HQ (eG T.uR.g) ["event"] (vm K):=by
 have sc:aM ["event"] ["event"] (aC Ef):=bN;walk_at "ok"
 ·refine⟨_,(aA (aK (bB (aa (iz cg Ξ (az)) (aa (iz cg Ξ (az)) (aa (jP G.lU η T.nC G.boot_list (aa (iz cg Ξ (az)) au)) au)))))),?_⟩;obtain⟨z0,rfl,q⟩:=h;exact Vf q
theorem Zvj:ι 1 AD.Zur (eG T.Zuk.g) ["world"] (cC XQ pEnd):=by
 have sc:aM ["world","sweeper"] ["world"] (aC s_end):=bN;walk_at "ok"
 ·refine⟨_,(aq (dY 1 sc.nd π)
   (aq (bL ω (aW) rfl)
   (aA (aK (bB (aa (aW) (aa dA (aa (cF (aa dA (aa dA (aa dA au)))) au)))))))),?_⟩
  obtain⟨z0,rfl,q⟩:=h;exact Zx5 (ji T).w q
theorem Bl:ι 1 AD.HR (eG T.uT.g) Gh (Qd):=by
 have sc:aM ["events"] Gh (aC Eg):=bN;walk_at "ok"
 ·refine⟨_,(aA (aK ((Zac (iY Ze0 (bO G.cu η T.gq G.boot_len bP) (az) (lM _)) (Zaa (iY dZ (iz cg (iz cV Ξ (Zue Zn8 (az))) (az)) (aW) (lM _))))))),?_⟩;obtain⟨z0,rfl,q⟩:=h;exact Vg q
theorem uO:G.HhH P w K mg base 1 AD.Zh (eG T.ud.g) ["word"] (Kg):=by
 have sc:aM ["word"] ["word"] (aC XJ):=bN;walk_at "okH"
 ·refine⟨_,(aA (aK (bB (aa (aW) (aa Ξ (aa (cF au) au)))))),?_⟩;obtain⟨z0,rfl,q⟩:=h;exact Zh3 q
theorem wN:ι 1 AD.m7 (eG T.mW.g) mK (Qe Zhc):=by
 have sc:aM ["looking","hands"] mK (aC mD):=bN;walk_at "okw"
 ·refine⟨_,(Zdr (bQ ψ (bQ ψ (bQ ψ (bQ (bB (aa (aW) (aa (az) (aa (az) au)))) (bQ (bB (aa (T.qX.pe rfl) (aa (Gd (jg dZ Ξ (aW)) (az) (az)) au))) (bQ ψ (bQ ψ (bQ (bB (aa (T.qX.pe rfl) (aa (Gd (jg dZ Ξ (aW)) (aU dG ω (az)) (az)) au))) oH))))))))),?_⟩;obtain⟨z0,z1,rfl,q⟩:=h;exact wL q
theorem wO:ι 1 AD.m8 (eG T.mX.g) mL (Qe newR):=by
 have sc:aM ["looking","hands"] mL (aC mF):=bN;walk_at "okw"
 ·refine⟨_,(Zdr (bQ ψ (bQ (bB (aa (T.qX.pe rfl) (aa (az) au))) (bQ ψ (bQ ψ (bQ (bB (aa (aW) (aa (az) (aa (az) au)))) (bQ (bB (aa (T.qX.pe rfl) (aa (Gd (jg dZ Ξ (aW)) (aU dG ω (az)) (az)) au))) oH))))))),?_⟩;obtain⟨z0,z1,rfl,q⟩:=h;exact wM q
theorem oK:ι 1 AD.Nt (eG T.mZ.g) LK (Zj1 K):=by
 have sc:aM ["_law_script","_law_k"] LK (aC K1):=bN;walk_at "ok"
 ·refine⟨_,(aq (cz (jg yc ω (bO G.cu η T.gq G.boot_len bP)) (aA (aK (iz cV Ξ ω))) bz)
   (aA (aK (az)))),?_⟩
  obtain⟨z0,z1,rfl,q⟩:=h;exact Zcn q
theorem fj:ι 1 AD.Nr (eG T.fB.g) LC (UT):=by
 have sc:aM ["_law_cell_here","_law_prime","_law_many","_law_drawn"] LC (aC KZ):=bN;walk_at "ok"
 ·refine⟨_,(aq (dY 3 sc.nd (aU dG (aU cG Ξ ω) (az)))
   (aA (aK (aU cG (aU cG (aU pD (aU cG (aU pD dP dP) ω) (az)) ω) ae)))),?_⟩
  obtain⟨z0,z1,z2,rfl,q⟩:=h;exact Zcm q
theorem VN:ι 1 AD.Ih (eG T.Hi.g) Gp (Zcu):=by
 have sc:aM ["_law_cell_here","_law_letters","_law_hands_here","_law_hand","_law_sign","_law_name"] Gp (aC Es):=bN;walk_at "ok"
 ·refine⟨_,(aq (dY 1 sc.nd (aW))
   (aq (dY 2 sc.nd (cF au))
   (aq (jE PassesOwn.never rfl (tD rfl T.pY (aa (aU dG (az) de) au)) (dI (i:=3) sc.nd rfl bX)
   (aq (dY 4 sc.nd (iz Zpl ω (aU cG (aU dG (aU gG Ξ (az)) (aU pD (az) dP)) (az))))
   (aq (dY 5 sc.nd (aU uN (aU uN (mJ G.Za1 (aW) zE (mj bo)) c0) (mJ G.Za1 (aW) zE (mj bo))))
   (aA (fQ (qz PySem.F.plainAttrs_list PySem.F.slot_list_append PySem.F.type_list_append lN ae (aa (bB (aa (pv 5) (aa (aU dG (az) (aU pD (aU cG (aU dG (aU gG Ξ (az)) (aU pD (aU pD (az) dP) dP)) (az)) bo)) au))) au)))))))
   (aA (aK ae))))),?_⟩
  obtain⟨z0,rfl,q⟩:=h;exact W0 q
theorem Zak:ι 1 AD.Nk (eG T.Mq.g) Lx (Ziz):=by
 have sc:aM ["_law_cell_here"] Lx (aC KQ):=bN;walk_at "ok"
 ·refine⟨_,(aq (cz (jg dZ de (az)) (aA (aK (aU dG (az) bo))) bz)
   (aq (cz (jg dZ de (az)) (aA (aK (aU CG (aU JC (az) (az)) (aU cG (aU gG Ξ (az)) (aU JC (az) (az)))))) bz)
   (aA (aK (aU dG (az) (aU cG (aU cG (aU pD Ξ (az)) (az)) (aU CG (aU JC (az) (az)) (az)))))))),?_⟩
  obtain⟨z0,rfl,q⟩:=h;exact Zcj q
theorem uP:ι 1 AD.Ni (eG T.qW.g) Lr (Ziy):=by
 have sc:aM ["_law_drawn","_law_size"] Lr (aC KJ):=bN;walk_at "ok"
 ·refine⟨_,(aq (cz (jg dZ de (az)) (aA (aK (aU cG (aU gG Ξ (az)) ω))) bz)
   (aA (aK bo))),?_⟩
  obtain⟨z0,z1,rfl,q⟩:=h;exact Zch q
theorem Zah:ι 1 AD.Ng (eG T.Ml.g) Lp (Zr3):=by
 have sc:aM ["_law_seed","_law_number","_law_letters","_law_sign"] Lp (aC KD):=bN;walk_at "ok"
 ·refine⟨_,(aq (dY 2 sc.nd (aW))
   (aq (dY 3 sc.nd (iz Zpl ae (aU cG (aU dG (aU gG Ξ (az)) (aU pD (az) ω)) (az))))
   (aA (aK (aU uN (aU uN (mJ G.Za1 (aW) zE (mj de)) dP) (mJ G.Za1 (aW) zE (mj bo))))))),?_⟩
  obtain⟨z0,z1,rfl,q⟩:=h;exact Zcf q
theorem VH:ι 1 AD.Ia (eG T.G7.g) Gj (Uv):=by
 have sc:aM ["_law_found"] Gj (aC En):=bN;walk_at "ok"
 ·refine⟨rF,(aA (aK ((Zac (bO G.yM η T.dW G.boot_isinstance (aa Ξ (aa (zF rfl T.Zj6 G.boot_int rfl) au))) (Zaa (Zoa (bO G.yM η T.dW G.boot_isinstance (aa Ξ (aa (zF rfl T.ZG G.boot_bool rfl) au))))))))),?_⟩;obtain⟨z0,rfl,q⟩:=h;exact WR q
theorem VL:ι 1 AD.Ie (eG T.G9.g) Gm (Uz):=by
 have sc:aM ["_law_number","_law_needs"] Gm (aC Ep):=bN;walk_at "ok"
 ·refine⟨_,(aq (dY 1 sc.nd (iz cV (cF (aa (az) (aa (az) (aa (az) au)))) de))
   (aA (aK (iY dZ (aU yd bo ω) ω (lM _))))),?_⟩
  obtain⟨z0,rfl,q⟩:=h;exact WX q
theorem Zai:ι 1 AD.Nh (eG T.Mm.g) Lq (Kh):=by
 have sc:aM ["_law_number","_law_hands_here","_law_put","_law_rest","_law_made","_law_taken"] Lq (aC KH):=bN;walk_at "okw"
 ·refine⟨_,(Za7 (i:=2) sc.nd rfl bX (bQ ψ (bQ (bB (aa (aW) (aa (az) (aa (az) au)))) oH))
   (Zvf (PW.pt (kZ (jg dZ de (az)) (lF (jg dZ bo (az))))) (sZ (dY 3 sc.nd (az))
   (sZ (cz (jg dZ de (az)) (aA (dY 3 sc.nd (aU dG ω (az)))) bz)
   (Zjn (Rp uM (Rp uM (Za9 (bQ ψ (bQ (bB (aa (aW) (aa (az) au))) (bQ ψ oH)))) (pew ae)) (Za9 (bQ (bB (aa (aW) a4)) oH)))))) Zs1
   (sZ (dY 3 sc.nd (az))
   (sZ (cz (jg dZ de (az)) (aA (dY 3 sc.nd (aU dG ω (az)))) bz)
   (Za7 (i:=4) sc.nd rfl bX (bQ ψ (bQ ψ oH))
   (Za7 (i:=5) sc.nd rfl bX (bQ (bB (aa (aW) (aa (aU dG (az) de) au))) (bQ ψ (bQ ψ oH)))
   (Zjn (Rp uM (Rp uM (Rp uM (pew c0) (pew ae)) (pew (pv 5))) (Za9 (bQ (bB (aa (aW) a4)) oH)))))))))),?_⟩
  obtain⟨z0,z1,rfl,q⟩:=h;exact Zcg q
theorem qI:ι 2 AD.um (eG T.qR.g) tK (vo 0):=by
 have sc:aM ["self","hands"] tK (aC sI):=bN;walk_at "ok"
 ·refine⟨_,(aA (aK (dN (Yx T) hr T.mo T.Sv bj))),?_⟩;obtain⟨z0,z1,rfl,q⟩:=h;exact Jl q
theorem qH:ι 2 AD.uh (eG T.qQ.g) tH (j7 2):=by
 have sc:aM ["self","looked","hands"] tH (aC sH):=bN;walk_at "ok"
 ·refine⟨_,(aA (aK (dN (Yx T) hr T.mo T.Sv cE))),?_⟩;obtain⟨z0,z1,z2,rfl,q⟩:=h;exact Jk q
theorem Bp:ι 2 AD.Il (eG T.Bu.g) ["self"] (U3 XQ):=by
 have sc:aM ["self","needs"] ["self"] (aC Ey):=bN;walk_at "ok"
 ·refine⟨_,(aq (dY 1 sc.nd (G.jK (eX π T.nA.c T.yp.m (yg T).g ad (yg (P:=P) (base:=base) T).b .nil G.cQ) (G.jK (eX π T.qZ.c T.Bx.m (Bs T).g ad (Bs (P:=P) (base:=base) T).b .nil G.cQ) (eX π T.qY.c T.Bt.m (Bo T).g ad (Bo (P:=P) (base:=base) T).b .nil G.cQ))))
   (aA (aK (iY dZ (aU yd π ω) ω (lM _))))),?_⟩
  obtain⟨z0,rfl,q⟩:=h;exact W6 (ji T).w q
theorem Gw:ι 2 AD.Nx (eG T.GR.g) LQ (zm XQ.C XQ.H):=by
 have sc:aM ["self","place","cell"] LQ (aC K5):=bN;walk_at "ok"
 ·refine⟨_,(aq (dY 2 sc.nd (iz cV π ω))
   (aq (bL Ξ (aU CG π (eX ae T.zN.c T.mC.m (iU T).g ad (iU (P:=P) (base:=base) T).b .nil G.cQ)) rfl)
   (aq (uH (eZ) (uK π ω set_list))
   (aA (aK (aJ ae rfl)))))),?_⟩
  obtain⟨z0,z1,rfl,q⟩:=h;exact Zcz (ji T).w.c q
theorem iC:ι 2 AD.Ua (eG T.iJ.g) Rv (iQ XQ):=by
 have sc:aM ["heap","place","cell"] Rv (aC QL):=bN;walk_at "ok"
 ·refine⟨_,(aq (dY 2 sc.nd (dN (lH T) hr T.mo T.lQ (aa Ξ bj)))
   (aq (cz (jg G.zG ae (eZ)) (aA (aK (eZ))) bz)
   (aA (aK (aJ ae rfl))))),?_⟩
  obtain⟨z0,z1,rfl,q⟩:=h;exact Zfv (ji T).w q
theorem Zse:ι 2 AD.Zqd (eG T.Zp9.g) Zof (Zr5 XQ):=by
 have sc:aM ["world","place","sweeper","cell"] Zof (aC Znr):=bN;walk_at "ok"
 ·refine⟨_,(aq (dY 2 sc.nd π)
   (aq (dY 3 sc.nd (dN (lH T) hr T.mo T.lQ (aa π bj)))
   (aq (cz (PW.pt (kZ (jg Yt (aJ ae rfl) (aW)) (kZ (jg G.zG dP (eZ)) (lF (gJ (dN (jw T) hr T.mo T.jo (aa Ξ a4))))))) (aA (aK (eZ))) bz)
   (aq (bL dP (aJ ae rfl) rfl)
   (aq (fQ (qz PySem.F.plainAttrs_list PySem.F.slot_list_append PySem.F.type_list_append lN (aJ ae rfl) bj))
   (aA (aK (aJ dP rfl)))))))),?_⟩
  obtain⟨z0,z1,rfl,q⟩:=h;exact Zsi (ji T).w q
theorem Zjt:ι 2 AD.Zqf (eG T.Zhm.g) Zog (Zj0 XQ):=by
 have sc:aM ["world","place","birth","cell"] Zog (aC Znt):=bN;walk_at "ok"
 ·refine⟨_,(aq (dY 3 sc.nd (dN (lH T) hr T.mo T.lQ (aa π bj)))
   (aq (cz (PW.pt (kZ (jg G.zG dP (eZ)) (lF (jg Yt (aJ dP rfl) ae)))) eQ bz)
   (aA (aK ((Zac (iY dZ bS (aW) (lM _)) (Zaa (Zoa (dN (jw T) hr T.mo T.jo (aa Ξ a4)))))))))),?_⟩
  obtain⟨z0,z1,z2,rfl,q⟩:=h;exact Ztb (ji T).w q
theorem jl:ι 2 AD.Zj (eG T.jB.g) Yq (ux XQ AD.aQ):=by
 have sc:aM ["world","hand","slot","cell"] Yq (aC X6):=bN;walk_at "okX"
 ·refine⟨_,(aq (dY 3 sc.nd (dN (lH T) hr T.mo T.lQ (aa π (aa (iz cV (dN (gh T) hr T.mo T.gB (aa Ξ bj)) ae) au))))
   (aq (cz (jg G.zG dP (eZ)) (aA (G.xV rfl rfl (T.mo T.yP) T.Zd2 (aa (aW) au) eh)) bz)
   (aA (aK dP)))),?_⟩
  obtain⟨z0,z1,z2,rfl,q⟩:=h;exact Zif (ji T).w q
theorem ye:ι 2 AD.BX (eG T.rM.g) Bg (Dn XQ):=by
 have sc:aM ["world","hand","place"] Bg (aC z8):=bN;walk_at "ok"
 ·refine⟨_,(aq (cz (PW.pt (kZ (jg dZ (aU yd bS (T.Zk9.pe rfl)) (az)) (lF (gJ (dN (Zag T) hr T.mo T.Mj (aa Ξ bj)))))) (aA (aK (cF au))) bz)
   (aA (aK (cF cE)))),?_⟩
  obtain⟨z0,z1,z2,rfl,q⟩:=h;exact Qj (ji T).w q
theorem Yu:ι 2 AD.Zfc (eG T.Sh.g) Zdw (UG K XQ.C XQ.H):=by
 have sc:aM ["heap","places","way"] Zdw (aC Zdf):=bN;walk_at "ok"
 ·refine⟨zB K (iV XQ.H),(aA (aK (G.Zab (cns:=["heap","way"]) [0,2] (G.uI rfl T.gf bj) (λ_ _ _ _ _=>(G.Rn (jg G.tO (dN (lH T) hr T.mo T.lQ (aa ae bj)) (eZ)))) (λ_ _ _ _ _=>(bB (aa ω (aa (aU Zsa dP (bB bP)) au)))) rfl rfl Ψ (by repeat (first | exact trivial | refine⟨rfl,?_⟩)) rfl γ rfl γ γ rfl rfl γ))),?_⟩;obtain⟨z0,z1,z2,z3,z4,z5,rfl,q⟩:=h;exact Zlq q
theorem Ze2:ι 2 AD.T7 (eG T.Sq.g) ["world"] (UL XQ):=by
 have sc:aM ["world","heap"] ["world"] (aC QH):=bN;walk_at "ok"
 ·refine⟨xQ K XQ.H (vq XQ.H) (iI XQ),(aq (Za8 (i:=1) sc.nd rfl (Or.inr rfl) π)
   (aA (aK (G.Ye (cns:=["world","heap"]) [0,1] (jJ (eX ω T.uZ.c T.Bv.m (Bq T).g ad (Bq (P:=P) (base:=base) T).b .nil G.cQ)) (λ_ _ _ _ _=>(G.Rn (lG (gJ (dN (jw T) hr T.mo T.jo (aa ω (aa (iz cV (aJ ae rfl) Ξ) au))))))) (λ_ _ _ _ _=>Ξ) rfl rfl Ψ (by repeat (first | exact trivial | refine⟨rfl,?_⟩)) rfl γ rfl γ γ rfl γ)))),?_⟩
  obtain⟨z0,rfl,q⟩:=h;exact Zf8 (ji T).w q
theorem qD:ι 2 AD.dR (eG T.uc.g) ["world"] (cC XQ (Ys "lost")):=by
 have sc:aM ["world"] ["world"] (aC su):=bN;walk_at "ok"
 ·refine⟨_,(aA (aK (dN (Bk T) hr T.mo T.uR (aa bS au)))),?_⟩;obtain⟨z0,rfl,q⟩:=h;exact DP (ji T).w q
theorem OD:ι 2 AD.yI (eG T.yx.g) xW (Dr XQ):=by
 have sc:aM ["kind","hands","looking"] xW (aC xG):=bN;walk_at "ok"
 ·refine⟨_,(aq (dY 2 sc.nd (G.jK (eX π T.nA.c T.Bw.m (Br T).g ad (Br (P:=P) (base:=base) T).b .nil G.cQ) (G.jK (eX π T.qZ.c T.GX.m (Gx T).g ad (Gx (P:=P) (base:=base) T).b .nil G.cQ) (eX π T.qY.c T.GK.m (Gu T).g ad (Gu (P:=P) (base:=base) T).b .nil G.cQ))))
   (aq (cz (PW.pt (Za6 (jg dZ (aU yd π (T.Zf9.pe rfl)) (az)) (Px (jg Yt ae (aW))))) (aA (aK (dN (wN T) hr T.mo T.mW (aa ae bj)))) bz)
   (aA (aK (dN (wO T) hr T.mo T.mX (aa ae bj)))))),?_⟩
  obtain⟨z0,z1,rfl,q⟩:=h;exact Ov (ji T).w q
theorem Zal:ι 2 AD.Nm (eG T.Ms.g) Ly (Zr6):=by
 have sc:aM ["_law_n","_law_hand","_law_slot_here","_law_many","_law_bulk"] Ly (aC KR):=bN;walk_at "okw"
 ·refine⟨_,(Zs2 (i:=3) sc.nd rfl bX (bQ (az) (bQ (az) (bQ (az) (bQ (az) (bQ (az) (bQ (az) (bQ (az) (bQ (az) (bQ (az) (bQ (az) oH)))))))))) ax (λ_ _=>rfl)
   (sZ (dY 4 sc.nd de)
   (sZ (cz (jg dZ ax (az)) (aA (dY 4 sc.nd (aU cG Ξ (aU dG (aU JC (az) (az)) (az))))) bz)
   (Zs0 (aK (bB (aa (aW) (aa ω (aa ae (aa dP (aa c0 au))))))))))),?_⟩
  obtain⟨z0,z1,z2,rfl,q⟩:=h;exact Zck q
theorem VJ:ι 2 AD.Ib (eG T.G8.g) Gk (Zg4):=by
 have sc:aM ["_law_n","_law_most","_law_drawn"] Gk (aC Eo):=bN;walk_at "ok"
 ·refine⟨_,(aq (dY 2 sc.nd ax)
   (aq (cz (jg dZ (aU cG ae (az)) (az)) (aA (aK (bB (aa (aW) (aa (aU dG (az) (aU cG (aU gG ae (az)) (az))) au))))) bz)
   (aA (aK (bB (aa (aW) (aa (aU dG (az) (aU cG (aU gG ae (az)) ω)) au))))))),?_⟩
  obtain⟨z0,z1,rfl,q⟩:=h;exact WW q
theorem VM:ι 2 AD.Ig (eG T.Hg.g) Gn (Zg5):=by
 have sc:aM ["_law_n","_law_hand","_law_slot_here","_law_hands_here","_law_seed","_law_sort","_law_word_here","_law_taker","_law_size"] Gn (aC Er):=bN;walk_at "ok"
 ·refine⟨_,(aq (dY 5 sc.nd de)
   (aq (dY 6 sc.nd (dN (Zah T) hr T.mo T.Ml (aa c0 (aa ax au))))
   (aq (cz (jg dZ (pv 5) (az)) (aq (dY 7 sc.nd (dN (fj T) hr T.mo T.fB (aa Ξ (aa (az) (aa (bO G.cu η T.gq G.boot_len a4) au)))))
   (aq (dY 8 sc.nd (iz cg (iz cV dP (pv 7)) (az)))
   (aA (aK (bB (aa (aW) (aa ω (aa ae (aa (pv 7) (aa (dN (uP T) hr T.mo T.qW (aa ax (aa (pv 8) au))) au)))))))))) bz)
   (aq (cz (jg dZ (pv 5) (az)) (aA (aK (bB (aa (aW) (aa ω (aa ae (aa (pv 6) au))))))) bz)
   (aq (cz (jg dZ (pv 5) (az)) (aA (aK (bB (aa (aW) (aa ω (aa ae (aa (pv 6) au))))))) bz)
   (aq (cz (jg dZ bo (az)) (aA (aK (bB (aa (aW) (aa ω cE))))) bz)
   (aq (cz (jg dZ bo (az)) (aA (aK (bB (aa (aW) (aa ω (aa ae (aa (aU cG Ξ (aU JC (az) (az))) au))))))) bz)
   (aA (aK (bB (aa (aW) (aa ω (aa ae (aa (Zue Zn8 (aU cG (aU pD Ξ (az)) (aU JC (az) (az)))) au)))))))))))))),?_⟩
  obtain⟨z0,z1,z2,z3,z4,rfl,q⟩:=h;exact WY q
theorem VP:ι 2 AD.Ii (eG T.Hj.g) Gq (Zj2):=by
 have sc:aM ["_law_row_here","_law_part"] Gq (aC Et):=bN;walk_at "ok"
 ·refine⟨rG K (Uv),(aq (cz (PW.pt (kZ (lG (gJ (bO G.yM η T.dW G.boot_isinstance (aa Ξ (aa (zF rfl T.Pr G.boot_tuple rfl) au))))) (kZ (jg yc (bO G.cu η T.gq G.boot_len bP) (az)) (lF (lG (gJ (bO G.yM η T.dW G.boot_isinstance (aa (iz cg Ξ (az)) (aa (zF rfl T.Zj5 G.boot_str rfl) au))))))))) eQ bz)
   (aq (jE PassesOwn.never rfl (Zvg (mJ Zva Ξ (mj (az)) zE)) (dI (i:=1) sc.nd rfl bX)
   (aA (cz (lG (gJ (dN (VH T) hr T.mo T.G7 bj))) eQ bz)))
   (aA (aK (nW))))),?_⟩
  obtain⟨z0,rfl,q⟩:=h;exact W2 q
theorem Zan:ι 3 AD.iH BD.uV xZ (NP K XQ.C XQ.H AD.bY):=by
 have sc:aM ["self","many","bulk","tone","cell"] xZ (aC jk):=bN;refine⟨?_,T.yO,T.MJ⟩;have F:=T.N6;walk_at "okDX"
 ·refine⟨_,(aq (dY 4 sc.nd (qx (mkT T.zN T.t8) (tU T).g ad rfl (T.mo T.Zxj) (tU (P:=P) (base:=base) T).b .nil G.cQ (aa (aU dG π (az)) (aa ω (aa ae a4)))))
   (aq (cz (jg Ze0 (eX c0 T.zN.c T.mC.m (iU T).g ad (iU (P:=P) (base:=base) T).b .nil G.cQ) (eX Ξ T.uZ.c T.GQ.m (Gv T).g ad (Gv (P:=P) (base:=base) T).b .nil G.cQ)) (aA (G.xV rfl rfl (T.mo T.Zin) T.Zv2 (aa (aW) au) eh)) bz)
   (aq (bL Ξ (aJ c0 rfl) rfl)
   (aq (bL Ξ (aU dG π (eX c0 T.zN.c T.mC.m (iU T).g ad (iU (P:=P) (base:=base) T).b .nil G.cQ)) rfl)
   (aA (aK (mq Ξ T.uZ.c T.Mi.m (Mf T).g ad (Mf (P:=P) (base:=base) T).b .nil G.cQ (aa c0 au)))))))),?_⟩
  obtain⟨z0,z1,z2,z3,rfl,q⟩:=h;exact Zcx (ji T).w.c q
theorem qF:ι 3 AD.uf (eG T.qO.g) tE (Jj XQ):=by
 have sc:aM ["self","room","kind","hands"] tE (aC sE):=bN;walk_at "ok"
 ·refine⟨_,(aq (bL Ξ (qx (mkT T.uZ T.tX) (tQ T).g ad rfl (T.mo T.Zxg) (tQ (P:=P) (base:=base) T).b .nil G.cQ bj) rfl)
   (aq (bL Ξ ae rfl)
   (aq (bL Ξ (G.Zab (cns:=[]) [] (jJ dP) (λ_ _ _ _ _=>G.Ro) (λ_ _ _ _ _=>(qx (mkT T.Zkp T.tY) (tR T).g ad rfl (T.mo T.Zxh) (tR (P:=P) (base:=base) T).b .nil G.cQ (aa Ξ bj))) rfl rfl Ψ (by repeat (first | exact trivial | refine⟨rfl,?_⟩)) rfl γ rfl γ γ rfl rfl γ) rfl)
   (aq (bL Ξ (Zds) rfl)
   (aA (bL Ξ (Zob (mkT T.Uo T.oA) (nZ T).g ad rfl (T.mo T.Zn1) (nZ (P:=P) (base:=base) T).b .nil G.cQ) rfl)))))),?_⟩
  obtain⟨z0,z1,z2,z3,rfl,q⟩:=h;exact Jf (ji T).w q
theorem Gs:ι 3 AD.Nf (eG T.yz.g) Ln (rA XQ):=by
 have sc:aM ["heap","places"] Ln (aC KC):=bN;walk_at "ok"
 ·refine⟨_,(aA (aK (G.Ye (cns:=["heap"]) [0] (jJ ω) (λ_ _ _ _ _=>G.Ro) (λ_ _ _ _ _=>(dN (iC T) hr T.mo T.iJ (aa ω bP))) rfl rfl Ψ (by repeat (first | exact trivial | refine⟨rfl,?_⟩)) rfl γ rfl γ γ rfl γ))),?_⟩;obtain⟨z0,z1,rfl,q⟩:=h;exact Zc9 (ji T).w q
theorem Zos:ι 3 AD.Zkd (eG T.Zjx.g) ["world"] (Zkx XQ):=by
 have sc:aM ["world","sweeper"] ["world"] (aC Zje):=bN;walk_at "ok"
 ·refine⟨_,(aq (dY 1 sc.nd π)
   (aq (bL ω (aU CG (az) dA) rfl)
   (aq (bL ω (aU dG dA (az)) rfl)
   (aq (bL ω (aW) rfl)
   (aq (bL ω (cF au) rfl)
   (aq (bL ω (G.jK (mq bS T.nA.c T.qR.m (qI T).g ad (qI (P:=P) (base:=base) T).b .nil G.cQ (aa ai au)) (G.jK (mq bS T.qZ.c T.tZ (ie T).g ad (ie (P:=P) (base:=base) T).b .nil G.cQ (aa ai au)) (mq bS T.qY.c T.tW (ie T).g ad (ie (P:=P) (base:=base) T).b .nil G.cQ (aa ai au)))) rfl)
   (aq (bL ω (az) rfl)
   (aq (bL ω (az) rfl)
   (aA (bL ω (az) rfl)))))))))),?_⟩
  obtain⟨z0,rfl,q⟩:=h;exact Zr0 (ji T).w q
theorem mO:ι 3 AD.TY (eG T.lO.g) Rt (lV XQ):=by
 have sc:aM ["world","places","births","place","birth"] Rt (aC QF):=bN;walk_at "ok"
 ·refine⟨_,(aq (dY 2 sc.nd (cF au))
   (aq (jE PassesOwn.never rfl (jJ ω) (dI (i:=3) sc.nd rfl bX)
   (aq (dY 4 sc.nd (dN (Zse T) hr T.mo T.Zp9 (aa Ξ a4)))
   (aA (cz (jg G.tO c0 (eZ)) (aA (fQ (qz PySem.F.plainAttrs_list PySem.F.slot_list_append PySem.F.type_list_append lN ae (aa c0 au)))) bz))))
   (aA (aK ae)))),?_⟩
  obtain⟨z0,z1,rfl,q⟩:=h;exact Ze6 (ji T).w q
theorem Zhd:ι 3 AD.Zg (eG T.YB.g) Yh (Zw XQ):=by
 have sc:aM ["world","place","birth"] Yh (aC XH):=bN;walk_at "ok"
 ·refine⟨_,(aq (cz (gJ (dN (Zjt T) hr T.mo T.Zhm (aa Ξ (aa ω cE)))) (aA (aK (eZ))) bz)
   (aq (cz (PW.pt (Za6 (gJ (dN (VF T) hr T.mo T.G5 bP)) (Px (lG (gJ (dN (jw T) hr T.mo T.jo (aa Ξ (aa (iz cV bS ω) au)))))))) (aA (aK (eZ))) bz)
   (aA (aK ω)))),?_⟩
  obtain⟨z0,z1,z2,rfl,q⟩:=h;exact Zh1 (ji T).w q
theorem oJ:ι 3 AD.Nb (eG T.mY.g) Lj (zf XQ AD.aQ AD.bx):=by
 have sc:aM ["world","hand","slot","field","cell"] Lj (aC Kz):=bN;walk_at "okX"
 ·refine⟨_,(aq (dY 4 sc.nd (qy (jl T).g ad rfl (T.mo T.jB.a) (BV T.jB.g).kp (jl (P:=P) (base:=base) T).b .nil G.Gf (aa Ξ (aa ω cE))))
   (aq (cz (lG (gJ (mq c0 T.zN.c T.qU.m (qK T).g ad (qK (P:=P) (base:=base) T).b .nil G.cQ a4))) (aA (G.xV rfl rfl (T.mo T.J9) T.Zl0 (aa (aW) au) eh)) bz)
   (aA (aK (aJ c0 rfl))))),?_⟩
  obtain⟨z0,z1,z2,z3,rfl,q⟩:=h;exact Zc3 (ji T).w q
theorem RP:ι 3 AD.jY (eG T.YL.g) Yp (cI XQ Θ Tq):=by
 have sc:aM ["world","deed","slots","place"] Yp (aC X5):=bN;walk_at "ok"
 ·refine⟨_,(aq (dY 2 sc.nd (dN (gh T) hr T.mo T.gB (aa Ξ (aa Φ au))))
   (aq (dY 3 sc.nd (iz cV ae Φ))
   (aq (uH dP (uK ae Φ set_list))
   (aA (aK (bB (aa (aW) (aa (dN (iC T) hr T.mo T.iJ (aa π a4)) (aa (cF au) au))))))))),?_⟩
  obtain⟨z0,z1,rfl,q⟩:=h;exact Zia (ji T).w q
theorem RN:ι 3 AD.jX (eG T.YK.g) Yo (cI XQ Θ Tp):=by
 have sc:aM ["world","deed","slots","place"] Yo (aC X4):=bN;walk_at "ok"
 ·refine⟨_,(aq (dY 2 sc.nd (dN (gh T) hr T.mo T.gB (aa Ξ (aa Φ au))))
   (aq (dY 3 sc.nd (iz cV ae Φ))
   (aq (uH (eZ) (uK ae Φ set_list))
   (aA (aK (bB (aa (aW) (aa (dN (iC T) hr T.mo T.iJ (aa π a4)) (aa (cF au) au))))))))),?_⟩
  obtain⟨z0,z1,rfl,q⟩:=h;exact Zi9 (ji T).w q
theorem Ma:ι 3 AD.jq (eG T.Su.g) Ru (cI XQ Θ Hr):=by
 have sc:aM ["world","deed","cell","before"] Ru (aC QK):=bN;walk_at "okX"
 ·refine⟨_,(aq (dY 2 sc.nd (qy (jl T).g ad rfl (T.mo T.jB.a) (BV T.jB.g).kp (jl (P:=P) (base:=base) T).b .nil G.Gf (aa Ξ (aa Φ (aa Φ au)))))
   (aq (dY 3 sc.nd (aJ ae rfl))
   (aq (bL ae Φ rfl)
   (aA (aK (bB (aa (aW) (aa dP (aa (cF au) au))))))))),?_⟩
  obtain⟨z0,z1,rfl,q⟩:=h;exact Zfn (ji T).w rfl q
theorem RJ:ι 3 AD.jT (eG T.YF.g) Yk (cI XQ Θ S8):=by
 have sc:aM ["world","deed","cell"] Yk (aC XR):=bN;walk_at "okX"
 ·refine⟨_,(aq (dY 2 sc.nd (qy (jl T).g ad rfl (T.mo T.jB.a) (BV T.jB.g).kp (jl (P:=P) (base:=base) T).b .nil G.Gf (aa Ξ (aa Φ (aa Φ au)))))
   (aA (aK (bB (aa (aW) (aa (aJ ae rfl) (aa (cF au) au))))))),?_⟩
  obtain⟨z0,z1,rfl,q⟩:=h;exact Zi5 (ji T).w rfl q
theorem RK:ι 3 AD.jU (eG T.YG.g) Yl (cI XQ Θ isName):=by
 have sc:aM ["world","deed","hand","slot","birth"] Yl (aC XS):=bN;walk_at "okX"
 ·refine⟨_,(aq (dY 2 sc.nd Φ)
   (aq (dY 3 sc.nd Φ)
   (aq (dY 4 sc.nd (aJ (qy (jl T).g ad rfl (T.mo T.jB.a) (BV T.jB.g).kp (jl (P:=P) (base:=base) T).b .nil G.Gf (aa Ξ (aa ae a4))) rfl))
   (aq (Zjo (HF hr) π Φ (bB (aa (iz cV (dN (gh T) hr T.mo T.gB (aa Ξ cE)) dP) (aa c0 au))) rfl)
   (aA (aK (bB (aa (aW) (aa c0 (aa (cF au) au)))))))))),?_⟩
  obtain⟨z0,z1,rfl,q⟩:=h;exact Zi6 (ji T).w rfl q
theorem yf:ι 3 AD.BZ (eG T.rN.g) Bh (Cm XQ AD.bF):=by
 have sc:aM ["world","word","place","birth"] Bh (aC z9):=bN;walk_at "okX"
 ·refine⟨_,(aq (cz (Zo4 (Zlo (HF hr) ω π)) (aA (G.xV rfl rfl (T.mo T.Uq) T.Zn6 (aa (aW) au) eh)) bz)
   (aq (dY 2 sc.nd (iz cg (pdg hr π ω) (az)))
   (aq (dY 3 sc.nd (iz cg (pdg hr π ω) (az)))
   (aq (cz (gJ (dN (Zjt T) hr T.mo T.Zhm (aa Ξ (aa ae a4)))) (aA (aK (eZ))) bz)
   (aA (aK ae)))))),?_⟩
  obtain⟨z0,z1,rfl,q⟩:=h;exact Rm (ji T).w q
theorem Zhe:ι 3 AD.Zi (eG T.YC.g) Yi (Zx K XQ.C XQ.H):=by
 have sc:aM ["heap","rows","queue","number","row","listed","taken","place","way"] Yi (aC XM):=bN;walk_at "ok"
 ·refine⟨_,(aq (dY 2 sc.nd (cF au))
   (aq (jE PassesOwn.never rfl (G.uI rfl T.gf bj) (Cz rfl (gO (dI (i:=3) sc.nd rfl bX) (gO (dI (i:=4) sc.nd rfl bX) uJ)))
   (aA (fQ (qz PySem.F.plainAttrs_list PySem.F.slot_list_extend PySem.F.type_list_extend oW ae (aa (dN (Yu T) hr T.mo T.Sh (aa Ξ (aa c0 (aa (bB a4) au)))) au)))))
   (aq (dY 5 sc.nd (Zds))
   (aq (dY 6 sc.nd (az))
   (aq (Rk PassesOwn.never (jg yc (pv 6) (bO G.cu η T.gq G.boot_len cE)) (aq (dY 7 sc.nd (iz cg (iz cV ae (pv 6)) (az)))
   (aq (dY 8 sc.nd (iz cg (iz cV ae (pv 6)) (az)))
   (aq (dY 6 sc.nd (aU dG (pv 6) (az)))
   (aA (cz (Zo4 (G.Zh8 (HF hr) (pv 7) (pv 5))) (aq (Zjo (HF hr) (pv 5) (pv 7) (pv 8) rfl)
   (aA (fQ (qz PySem.F.plainAttrs_list PySem.F.slot_list_extend PySem.F.type_list_extend oW ae (aa (dN (Yu T) hr T.mo T.Sh (aa Ξ (aa (aJ (iz cV π (pv 7)) rfl) (aa (pv 8) au)))) au))))) bz))))))
   (aA (aK (jP (G.Zih rfl) η T.nC G.boot_list (aa (G.Zod (pv 5)) au))))))))),?_⟩
  obtain⟨z0,z1,z2,z3,z4,rfl,q⟩:=h;exact Zh4 (ji T).w q
theorem VD:ι 3 AD.HS (eG T.G4.g) ["world"] (cC XQ Zoj):=by
 have sc:aM ["world","sweeper","place","cell"] ["world"] (aC Eh):=bN;walk_at "ok"
 ·refine⟨_,(aq (dY 1 sc.nd π)
   (aq (dY 2 sc.nd dA)
   (aq (bL ω (aU dG ae (az)) rfl)
   (aq (bL ω (aU dG dA (az)) rfl)
   (aq (dY 3 sc.nd (dN (lH T) hr T.mo T.lQ (aa π cE)))
   (aq (cz (PW.pt (kZ (jg G.zG dP (eZ)) (lF (gJ (dN (jw T) hr T.mo T.jo (aa Ξ a4)))))) (aA (aK (bB (aa (aW) (aa ae (aa (cF au) au)))))) bz)
   (aA (aK (bB (aa (aW) (aa (mq π T.uZ.c T.GR.m (Gw T).g ad (Gw (P:=P) (base:=base) T).b .nil G.cQ cE) (aa (cF cE) au)))))))))))),?_⟩
  obtain⟨z0,rfl,q⟩:=h;exact Vz (ji T).w q
theorem Ze4:ι 3 AD.Ub (eG T.Sx.g) Rx (Zr4):=by
 have sc:aM ["_law_n","_law_hands_here","_law_seed","_law_most","_law_hand","_law_slot_here","_law_inner","_law_field","_law_sort"] Rx (aC QM):=bN;walk_at "ok"
 ·refine⟨_,(aq (dY 4 sc.nd (dN (fj T) hr T.mo T.fB (aa Ξ (aa (az) (aa (bO G.cu η T.gq G.boot_len bj) au)))))
   (aq (dY 5 sc.nd (dN (uP T) hr T.mo T.qW (aa ax (aa (iz cg (iz cV ω c0) (az)) au))))
   (aq (dY 6 sc.nd (dN (uP T) hr T.mo T.qW (aa ax (aa (iz cg (iz cV ω c0) (az)) au))))
   (aq (dY 7 sc.nd ax)
   (aq (dY 8 sc.nd de)
   (aq (cz (jg yc (pv 8) (az)) (aA (aK (dN (Zal T) hr T.mo T.Ms (aa Ξ (aa c0 (aa (pv 5) au)))))) bz)
   (aq (cz (jg yc (pv 8) (az)) (aA (aK (bB (aa (aW) (aa c0 (aa (pv 5) (aa (pv 6) (aa (pv 7) au)))))))) bz)
   (aq (cz (jg yc (pv 8) (az)) (aA (aK (bB (aa (aW) (aa c0 (aa (pv 5) (aa (pv 7) (aa (pv 6) au)))))))) bz)
   (aq (cz (jg dZ (pv 8) (az)) (aA (aK (bB (aa (aW) (aa c0 (aa (pv 5) au)))))) bz)
   (aq (cz (jg dZ (pv 8) (az)) (aA (aK (bB (aa (aW) (aa c0 (aa (pv 5) (aa (pv 6) au))))))) bz)
   (aq (cz (jg Ze0 (pv 8) (az)) (aA (aK (dN (VJ T) hr T.mo T.G8 (aa Ξ a4)))) bz)
   (aA (aK (dN (VM T) hr T.mo T.Hg (aa Ξ (aa c0 (aa (pv 5) (aa ω cE)))))))))))))))))),?_⟩
  obtain⟨z0,z1,z2,z3,rfl,q⟩:=h;exact Zg1 q
theorem Zam:ι 3 AD.Np (eG T.Mu.g) Lz (Zct XQ):=by
 have sc:aM ["_law_number","_law_tells"] Lz (aC KY):=bN;walk_at "ok"
 ·refine⟨_,(aq (dY 1 sc.nd bo)
   (aq (cz (jg dZ de (az)) (aA (aK (qx (mkT T.Jc T.jA) (gn T).g ad rfl (T.mo T.Zim) (gn (P:=P) (base:=base) T).b .nil G.cQ (aa (G.Jz ⟨T.nA.mk',T.Zot,T.nA.k⟩ rfl (T.mo T.Ztx)) bj)))) bz)
   (aq (cz (jg dZ de (az)) (aA (aK (qx (mkT T.Jc T.jA) (gn T).g ad rfl (T.mo T.Zim) (gn (P:=P) (base:=base) T).b .nil G.cQ (aa (G.Jz ⟨T.qZ.mk',T.Zsg,T.qZ.k⟩ rfl (T.mo T.Zxi)) bj)))) bz)
   (aA (aK (qx (mkT T.Jc T.jA) (gn T).g ad rfl (T.mo T.Zim) (gn (P:=P) (base:=base) T).b .nil G.cQ (aa (G.Jz ⟨T.qY.mk',T.Zsf,T.qY.k⟩ rfl (T.mo T.Zxf)) bj))))))),?_⟩
  obtain⟨z0,rfl,q⟩:=h;exact Zcl q
theorem RQ:ι 4 AD.Cd (eG T.BK.g) ["world"] (Zg6 XQ):=by
 have sc:aM ["world"] ["world"] (aC Ab):=bN;walk_at "ok"
 ·refine⟨pq K (rA XQ),(aA (aK (G.Ye (cns:=["world"]) [0] (jJ π) (λ_ _ _ _ _=>G.Ro) (λ_ _ _ _ _=>(dN (Gs T) hr T.mo T.yz (aa dA (aa π au)))) rfl rfl Ψ (by repeat (first | exact trivial | refine⟨rfl,?_⟩)) rfl γ rfl γ γ rfl γ))),?_⟩;obtain⟨z0,rfl,q⟩:=h;exact Up (ji T).w q
theorem Zor:ι 4 AD.Zkc (eG T.Zjw.g) ["world"] (Zkv XQ):=by
 have sc:aM ["world"] ["world"] (aC Zjd):=bN;walk_at "ok"
 ·refine⟨_,(aA (aK (aU uM (dN (Zjs T) hr T.mo T.Zhl bP) (cF (aa (G.Zs6 (G.Zab (cns:=["world"]) [0] (G.Zs5 (G.Zln π)) (λ_ _ _ _ _=>G.Ro) (λ_ _ _ _ _=>(dN (Zhd T) hr T.mo T.YB (aa ae (aa Ξ bj)))) rfl rfl Ψ (by repeat (first | exact trivial | refine⟨rfl,?_⟩)) rfl γ rfl γ γ rfl rfl γ)) au))))),?_⟩;obtain⟨z0,rfl,q⟩:=h;exact Znu (ji T).w q
theorem RL:ι 4 AD.jV (eG T.YH.g) Ym (cI XQ Θ S9):=by
 have sc:aM ["world","deed","slots","many","bulk","place"] Ym (aC XX):=bN;walk_at "okX"
 ·refine⟨_,(aq (dY 2 sc.nd (dN (gh T) hr T.mo T.gB (aa Ξ (aa Φ au))))
   (aq (dY 3 sc.nd Φ)
   (aq (dY 4 sc.nd Φ)
   (aq (dY 5 sc.nd (mq π T.uZ.c T.GP (Zan T).g ad T.yO .nil G.Gf (aa dP (aa c0 (aa bS au)))))
   (aq (uH (pv 5) (uK ae Φ set_list))
   (aA (aK (bB (aa (aW) (aa (dN (iC T) hr T.mo T.iJ (aa π (aa (pv 5) au))) (aa (cF au) au))))))))))),?_⟩
  obtain⟨z0,z1,rfl,q⟩:=h;exact Zi7 (ji T).w rfl q
theorem Yw:ι 4 AD.nj (eG T.Zel.g) Zdy (cI XQ Θ Zf5):=by
 have sc:aM ["world","deed","hand","source","field","place"] Zdy (aC Zdh):=bN;walk_at "okX"
 ·refine⟨_,(aq (dY 2 sc.nd Φ)
   (aq (dY 3 sc.nd Φ)
   (aq (dY 4 sc.nd Φ)
   (aq (dY 5 sc.nd (iz cV (qy (oJ T).g ad rfl (T.mo T.mY.a) (BV T.mY.g).kp (oJ (P:=P) (base:=base) T).b .nil G.Gf (aa Ξ (aa ae (aa dP (aa c0 au))))) c0))
   (aq (uH (pv 5) (uK (dN (gh T) hr T.mo T.gB (aa Ξ cE)) Φ set_list))
   (aA (aK (bB (aa (aW) (aa (dN (iC T) hr T.mo T.iJ (aa π (aa (pv 5) au))) (aa (cF au) au))))))))))),?_⟩
  obtain⟨z0,z1,rfl,q⟩:=h;exact Zmr (ji T).w rfl rfl q
theorem Yv:ι 4 AD.m9 (eG T.Zek.g) Zdx (cI XQ Θ Zf2):=by
 have sc:aM ["world","deed","hand","field","fields","old","new","noted"] Zdx (aC Zdg):=bN;walk_at "okX"
 ·refine⟨_,(aq (dY 2 sc.nd Φ)
   (aq (dY 3 sc.nd Φ)
   (aq (dY 4 sc.nd (qy (oJ T).g ad rfl (T.mo T.mY.a) (BV T.mY.g).kp (oJ (P:=P) (base:=base) T).b .nil G.Gf (aa Ξ (aa ae (aa Φ a4)))))
   (aq (dY 5 sc.nd (iz cV c0 dP))
   (aq (dY 6 sc.nd (iz cV (dN (gh T) hr T.mo T.gB (aa Ξ cE)) Φ))
   (aq (uH (pv 6) (uK c0 dP set_list))
   (aq (dY 7 sc.nd (dN (mO T) hr T.mo T.lO (aa Ξ (aa (aU uM (dN (RB T) hr T.mo T.By (aa Ξ (aa (pv 5) au))) (dN (ye T) hr T.mo T.rM (aa Ξ (aa ae (aa (pv 6) au))))) au))))
   (aA (aK (bB (aa (aW) (aa (dN (iC T) hr T.mo T.iJ (aa π (aa (pv 5) au))) (aa (pv 7) au))))))))))))),?_⟩
  obtain⟨z0,z1,rfl,q⟩:=h;exact Zmq (ji T).w rfl rfl q
theorem RM:ι 4 AD.jW (eG T.YJ.g) Yn (cI XQ Θ Tj):=by
 have sc:aM ["world","deed","giver","taker","place","noted"] Yn (aC X3):=bN;walk_at "ok"
 ·refine⟨_,(aq (dY 2 sc.nd Φ)
   (aq (dY 3 sc.nd Φ)
   (aq (dY 4 sc.nd (iz cV (dN (gh T) hr T.mo T.gB (aa Ξ cE)) Φ))
   (aq (uH c0 (uK (dN (gh T) hr T.mo T.gB (aa Ξ a4)) Φ set_list))
   (aq (dY 5 sc.nd (dN (mO T) hr T.mo T.lO (aa Ξ (aa (dN (ye T) hr T.mo T.rM (aa Ξ (aa ae (aa c0 au)))) au))))
   (aA (aK (bB (aa (aW) (aa (dN (iC T) hr T.mo T.iJ (aa π (aa c0 au))) (aa (pv 5) au))))))))))),?_⟩
  obtain⟨z0,z1,rfl,q⟩:=h;exact Zi8 (ji T).w q
theorem RG:ι 4 AD.jR (eG T.YD.g) Yj (cI XQ Θ S7):=by
 have sc:aM ["world","deed","place","noted"] Yj (aC XN):=bN;walk_at "okX"
 ·refine⟨_,(aq (dY 2 sc.nd (qy (yf T).g ad rfl (T.mo T.rN.a) (BV T.rN.g).kp (yf (P:=P) (base:=base) T).b .nil G.Gf (aa Ξ (aa Φ au))))
   (aq (uH ae (uK (dN (gh T) hr T.mo T.gB (aa Ξ (aa Φ au))) Φ set_list))
   (aq (dY 3 sc.nd (dN (mO T) hr T.mo T.lO (aa Ξ (aa (cF cE) au))))
   (aA (aK (bB (aa (aW) (aa (dN (iC T) hr T.mo T.iJ (aa π cE)) a4)))))))),?_⟩
  obtain⟨z0,z1,rfl,q⟩:=h;exact Zi4 (ji T).w rfl q
theorem Bm:ι 4 AD.HW (eG T.uU.g) Gi (oR XQ):=by
 have sc:aM ["world","hands","noted","number","hand"] Gi (aC Ei):=bN;walk_at "ok"
 ·refine⟨_,(aq (dY 2 sc.nd (cF au))
   (aq (jE PassesOwn.never rfl (G.uI rfl T.gf (aa π au)) (Cz rfl (gO (dI (i:=3) sc.nd rfl bX) (gO (dI (i:=4) sc.nd rfl bX) uJ)))
   (aA (cz (jg dZ (aU yd (aU Zh9 ω dP) (az)) (az)) (aA (fQ (qz PySem.F.plainAttrs_list PySem.F.slot_list_extend PySem.F.type_list_extend oW ae (aa (dN (mO T) hr T.mo T.lO (aa Ξ (aa (aJ c0 rfl) au))) au)))) bz)))
   (aA (aK ae)))),?_⟩
  obtain⟨z0,z1,rfl,q⟩:=h;exact V0 (ji T).w q
theorem Zsd:ι 4 AD.Zqb (eG T.Zp8.g) ["world"] (cC XQ Zoh):=by
 have sc:aM ["world","sweeper","cell"] ["world"] (aC Znp):=bN;walk_at "ok"
 ·refine⟨_,(aq (dY 1 sc.nd π)
   (aq (dY 2 sc.nd (iz cV bS (qz PySem.F.plainAttrs_list PySem.F.slot_list_pop PySem.F.type_list_pop Zp5 dA (aa (az) au))))
   (aq (bL ω (aU dG dA (az)) rfl)
   (aA (aK (bB (aa (aW) (aa (aJ ae rfl) (aa (dN (mO T) hr T.mo T.lO (aa Ξ (aa (aJ ae rfl) au))) au))))))))),?_⟩
  obtain⟨z0,rfl,q⟩:=h;exact Zrg (ji T).w q
theorem v9:ι 4 AD.fH (eG T.yt.g) ["world"] (cC XQ (Ys "give")):=by
 have sc:aM ["world"] ["world"] (aC xu):=bN;walk_at "ok"
 ·refine⟨_,(aq (cz (jg yc bS bS) (aA (aK (dN (VD T) hr T.mo T.G4 bP))) bz)
   (aA (aK (dN (Zvj T) hr T.mo T.Zuk bP)))),?_⟩
  obtain⟨z0,rfl,q⟩:=h;exact Oe (ji T).w q
theorem Zaj:ι 4 AD.Nj (eG T.Mp.g) Ls (Zcs K):=by
 have sc:aM ["_law_cells","_law_hands_here","_law_seed","_law_most","_law_rows_here","_law_k","_law_cell_here"] Ls (aC KN):=bN;walk_at "ok"
 ·refine⟨_,(aq (dY 4 sc.nd (cF au))
   (aq (jE PassesOwn.never rfl (G.uI rfl T.gf bP) (Cz rfl (gO (dI (i:=5) sc.nd rfl bX) (gO (dI (i:=6) sc.nd rfl bX) uJ)))
   (aA (fQ (qz PySem.F.plainAttrs_list PySem.F.slot_list_append PySem.F.type_list_append lN c0 (aa (dN (Ze4 T) hr T.mo T.Sx (aa (aU dG (pv 6) (aU pD (aU pD (az) (pv 5)) (pv 5))) (aa ω (aa ae a4)))) au)))))
   (aA (aK c0)))),?_⟩
  obtain⟨z0,z1,z2,z3,rfl,q⟩:=h;exact Zci q
theorem Zui:ι 5 AD.Zz4 (eG T.Zvx.g) Zy0 (cI XQ Θ (λ_=>True)):=by
 have sc:aM ["world","deed","act"] Zy0 (aC Zxv):=bN;walk_at "okX"
 ·refine⟨Znw K AD.jY AD.jX AD.nj AD.jW AD.jV AD.jU AD.m9 AD.jT AD.jR AD.jq (cI XQ Θ Tq) (cI XQ Θ Tp) (cI XQ Θ Zf5) (cI XQ Θ Tj) (cI XQ Θ S9) (cI XQ Θ isName) (cI XQ Θ Zf2) (cI XQ Θ S8) (cI XQ Θ S7) (cI XQ Θ Hr) E,(aq (dY 2 sc.nd (G.Zo9 T.Xw rfl Φ (λ_ _=>rfl)))
   (aA (aK (G.Zdu (k:=4) (G.Vc.cons ε (RL T).g (RL (P:=P) (base:=base) T).b (BV T.YH.g).kp (G.Vc.cons ε (Yw T).g (Yw (P:=P) (base:=base) T).b (BV T.Zel.g).kp (G.Vc.cons ε (Yv T).g (Yv (P:=P) (base:=base) T).b (BV T.Zek.g).kp (G.Vc.cons ε (RP T).g (RP (P:=P) (base:=base) T).b (BV T.YL.g).kp (G.Vc.cons ε (RN T).g (RN (P:=P) (base:=base) T).b (BV T.YK.g).kp (G.Vc.cons ε (RM T).g (RM (P:=P) (base:=base) T).b (BV T.YJ.g).kp (G.Vc.cons ε (Ma T).g (Ma (P:=P) (base:=base) T).b (BV T.Su.g).kp (G.Vc.cons ε (RJ T).g (RJ (P:=P) (base:=base) T).b (BV T.YF.g).kp (G.Vc.cons ε (RK T).g (RK (P:=P) (base:=base) T).b (BV T.YG.g).kp (G.Vc.cons ε (RG T).g (RG (P:=P) (base:=base) T).b (BV T.YD.g).kp G.Vc.nil)))))))))) ad rfl bX G.Gf (aa Ξ bj))))),?_⟩
  obtain⟨z0,z1,rfl,q⟩:=h;exact Zza (ji T).w q
theorem LR:ι 5 AD.TV (eG T.CQ.g) ["scene"] (zO AD.bh XQ):=by
 have sc:aM ["scene"] ["scene"] (aC QC):=bN;walk_at "ok"
 ·refine⟨_,(aA (aK (qx (mkT T.Zft T.qO) (qF T).g ad rfl (T.mo T.Ztv) (qF (P:=P) (base:=base) T).b .nil G.cQ (aa π (aa π (aa π au)))))),?_⟩;obtain⟨z0,rfl,q⟩:=h;exact Zd3 (ji T) q
theorem wj:ι 5 AD.fJ (eG T.yu.g) ["world"] (cC XQ (Ys "rest")):=by
 have sc:aM ["world","noted"] ["world"] (aC xx):=bN;walk_at "ok"
 ·refine⟨_,(aq (fQ (dN (Zos T) hr T.mo T.Zjx bP))
   (aq (dY 1 sc.nd (dN (Bm T) hr T.mo T.uU (aa Ξ (aa bS au))))
   (aA (aK (bB (aa (aW) (aa bS bj))))))),?_⟩
  obtain⟨z0,rfl,q⟩:=h;exact Og (ji T).w q
theorem VG:ι 5 AD.HY (eG T.G6.g) ["world"] (Ji XQ):=by
 have sc:aM ["world","place","way","cell"] ["world"] (aC El):=bN;walk_at "ok"
 ·refine⟨_,(aq (jE PassesOwn.never rfl (jJ (dN (Zhe T) hr T.mo T.YC (aa π (aa (dN (Zor T) hr T.mo T.Zjw bP) au)))) (Cz rfl (gO (dI (i:=1) sc.nd rfl bX) (gO (dI (i:=2) sc.nd rfl bX) uJ)))
   (aq (dY 3 sc.nd (iz cV bS ω))
   (aA (cz (lG (gJ (dN (jw T) hr T.mo T.jo (aa Ξ a4)))) (aA (aK (bB (aa (aW) (aa (aJ dP rfl) (aa (jP Jb η T.nC G.boot_list cE) au)))))) bz))))
   (aA (aK (eZ)))),?_⟩
  obtain⟨z0,rfl,q⟩:=h;exact WK (ji T).w q
theorem Ze3:ι 5 AD.T9 (eG T.Ss.g) ["world"] (Zy XQ):=by
 have sc:aM ["world","drops","hand","births"] ["world"] (aC QJ):=bN;walk_at "ok"
 ·refine⟨_,(aq (dY 1 sc.nd (cF au))
   (aq (jE PassesOwn.never rfl (G.uI rfl T.gf (aa (dN (RQ T) hr T.mo T.BK bP) au)) (Cz rfl (gO (dI (i:=2) sc.nd rfl (Or.inr rfl)) (gO (dI (i:=3) sc.nd rfl bX) uJ)))
   (aA (fQ (qz PySem.F.plainAttrs_list PySem.F.slot_list_extend PySem.F.type_list_extend oW ω (aa (G.Zab (cns:=["hand"]) [2] (G.uI rfl T.gf a4) (λ_ _ _ _ _=>(G.Rn (jg G.tO ω (eZ)))) (λ_ _ _ _ _=>(bB (aa (aW) (aa ae bP)))) rfl rfl Ψ (by repeat (first | exact trivial | refine⟨rfl,?_⟩)) rfl γ rfl γ γ rfl rfl γ) au)))))
   (aA (aK ω)))),?_⟩
  obtain⟨z0,rfl,q⟩:=h;exact Zfk q
theorem Zvm:ι 6 AD.Zus (eG T.Zul.g) ["world"] (cC XQ Zol):=by
 have sc:aM ["world","sweeper","loss","births"] ["world"] (aC Zu8):=bN;walk_at "ok"
 ·refine⟨_,(aq (dY 1 sc.nd π)
   (aq (bL ω (bO G.cu η T.gq G.boot_len (aa bS au)) rfl)
   (aq (bL ω (az) rfl)
   (aq (dY 2 sc.nd (dN (VG T) hr T.mo T.G6 bP))
   (aq (cz (jg G.tO ae (eZ)) (aq (bL ω (aW) rfl)
   (aq (bL ω ae rfl)
   (aA (aK (dN (Bk T) hr T.mo T.uR cE))))) bz)
   (aq (bL ω (aW) rfl)
   (aq (dY 3 sc.nd (dN (Gs T) hr T.mo T.yz (aa π (aa (dN (Ze2 T) hr T.mo T.Sq bP) au))))
   (aA (aK (bB (aa (aW) (aa (bO G.cu η T.gq G.boot_len a4) a4)))))))))))),?_⟩
  obtain⟨z0,rfl,q⟩:=h;exact Zx9 (ji T).w q
theorem VB:ι 6 AD.HN (eG T.GZ.g) Gg (Zkt XQ):=by
 have sc:aM ["world","deed"] Gg (aC Ed):=bN;walk_at "ok"
 ·refine⟨rE AD.aQ AD.bY AD.bx AD.bF (cI XQ Θ (λ_=>True)) (Kg),(aA (G.Zs3 ⟨rfl,rfl⟩ rfl (T.mo T.yP) rfl (T.mo T.J9) rfl (T.mo T.Zin) rfl (T.mo T.Uq) (λcls h=>by rcases h with rfl<;>first | exact T.wU) (λcls h=>by rcases h with rfl<;>first | exact⟨T.ym,T.Iw⟩) (λcls h=>by rcases h with rfl<;>first | exact⟨T.GJ,T.O2,T.Zfi⟩) (λcls h=>by rcases h with rfl<;>first | exact⟨T.zT,T.GF,T.R4,T.Pg⟩) (λEx pn xe hx=>(aA (aK (G.Zdt (Zui T).g ad rfl (T.mo T.Zvx.a) (BV T.Zvx.g).kp (Zui (P:=P) (base:=base) T).b .nil hx (aa Ξ bj))))) c9 c9 c9 c9)),?_⟩;obtain⟨z0,z1,rfl,q⟩:=h;exact Ve rfl rfl rfl rfl q
theorem RD:ι 7 AD.Ca (eG T.BJ.g) ["world"] (cC XQ Zok):=by
 have sc:aM ["world","sweeper","looking","hands","noted"] ["world"] (aC Aa):=bN;walk_at "ok"
 ·refine⟨_,(aq (dY 1 sc.nd π)
   (aq (dY 2 sc.nd bS)
   (aq (dY 3 sc.nd (G.jK (mq ae T.nA.c T.pI (mQ T).g ad (mQ (P:=P) (base:=base) T).b .nil G.cQ (aa dA (aa ai au))) (G.jK (mq ae T.qZ.c T.qT.m (qJ T).g ad (qJ (P:=P) (base:=base) T).b .nil G.cQ (aa dA (aa ai au))) (mq ae T.qY.c T.qQ.m (qH T).g ad (qH (P:=P) (base:=base) T).b .nil G.cQ (aa dA (aa ai au))))))
   (aq (dY 4 sc.nd (dN (Bm T) hr T.mo T.uU (aa Ξ a4)))
   (aq (cz (PW.pt (kZ (jg dZ dP (az)) (lF (lG (PW.pt (kZ b8 (lF (Rj c0 (λ_=>rfl))))))))) (aA (aK (dN (Zvm T) hr T.mo T.Zul bP))) bz)
   (aq (bL ω (aU dG dA (az)) rfl)
   (aq (cz b8 (aA (bL ω (aU Zug dA dP) rfl)) bz)
   (aA (aK (bB (aa (aW) (aa dP (aa c0 au))))))))))))),?_⟩
  obtain⟨z0,rfl,q⟩:=h;exact SM (ji T).w q
theorem vZ:ι 8 AD.fG (eG T.yr.g) ["world"] (cC XQ (Ys "walk")):=by
 have sc:aM ["world"] ["world"] (aC xr):=bN;walk_at "ok"
 ·refine⟨_,(aq (cz (Rj bS (λ_=>rfl)) (aA (aK (dN (Zsd T) hr T.mo T.Zp8 bP))) bz)
   (aA (aK (dN (RD T) hr T.mo T.BJ bP)))),?_⟩
  obtain⟨z0,rfl,q⟩:=h;exact Od (ji T).w q
theorem PB:ι 9 AD.Zqc (eG T.Sg.g) ["world"] (cC XQ Zdz):=by
 have sc:aM ["world","act"] ["world"] (aC Znq):=bN;walk_at "ok"
 ·refine⟨Za4 K AD.fJ AD.fH AD.fG AD.dR (cC XQ (Ys "rest")) (cC XQ (Ys "give")) (cC XQ (Ys "walk")) (cC XQ (Ys "lost")),(aq (dY 1 sc.nd (G.Zo9 T.Xv rfl bS (λ_ _=>rfl)))
   (aA (aK (G.Zdu (k:=8) (G.Vc.cons ε (wj T).g (wj (P:=P) (base:=base) T).b (BV T.yu.g).kp (G.Vc.cons ε (vZ T).g (vZ (P:=P) (base:=base) T).b (BV T.yr.g).kp (G.Vc.cons ε (v9 T).g (v9 (P:=P) (base:=base) T).b (BV T.yt.g).kp (G.Vc.cons ε (qD T).g (qD (P:=P) (base:=base) T).b (BV T.uc.g).kp G.Vc.nil)))) ad rfl bX G.cQ bP)))),?_⟩
  obtain⟨z0,rfl,q⟩:=h;exact Zrk (ji T).w q
theorem RC:ι 10 AD.Zf (eG T.JP.g) ["world"] (Ux XQ):=by
 have sc:aM ["world","steps"] ["world"] (aC XF):=bN;walk_at "ok"
 ·refine⟨_,(aq (dY 1 sc.nd (az))
   (aq (Rk PassesOwn.never (jg Zae bS (bB (aa (aW) (aa (aW) au))) (by with_unfolding_all rfl)) (aq (fQ (dN (PB T) hr T.mo T.Sg bP))
   (aA (dY 1 sc.nd (aU dG ω (az))))))
   (aA (aK ω)))),?_⟩
  obtain⟨z0,rfl,q⟩:=h;exact Zgi (ji T).w q
theorem Zoq:ι 10 AD.Zkb (eG T.Zjv.g) Zjq (Zku XQ):=by
 have sc:aM ["world","many","events"] Zjq (aC Zjc):=bN;walk_at "ok"
 ·refine⟨_,(aq (dY 2 sc.nd (cF au))
   (aq (Rk PassesOwn.never (PW.pt (Za6 (jg yc (bO G.cu η T.gq G.boot_len cE) ω) (Px (lG (gJ (dN (Bl T) hr T.mo T.uT cE)))))) (aA (fQ (qz PySem.F.plainAttrs_list PySem.F.slot_list_append PySem.F.type_list_append lN ae (aa (dN (PB T) hr T.mo T.Sg bP) au)))))
   (aA (aK ae)))),?_⟩
  obtain⟨z0,z1,rfl,q⟩:=h;exact Znh q
theorem wk:ι 10 AD.yJ (eG T.pJ.g) xX (zP XQ):=by
 have sc:aM ["_law_world","_law_row_here","_law_turn"] xX (aC xH):=bN;walk_at "ok"
 ·refine⟨_,(aq (cz (PW.pt (kZ (jg Yt Φ (aW)) (kZ (jg Yt (bO G.cu η T.gq G.boot_len bj) (az)) (lF (jg yc Φ (az)))))) eQ bz)
   (aq (jE PassesOwn.never rfl (tD rfl T.pY (aa Φ au)) (dI (i:=2) sc.nd rfl bX)
   (aq (cz (PW.pt (Za6 (jg Ze0 ae (az)) (Px (jg JD bS (bB (aa (aW) (aa (aW) au))) (by with_unfolding_all rfl))))) eQ bz)
   (aA (fQ (dN (PB T) hr T.mo T.Sg bP)))))
   (aA (aK (iY JD bS (bB (aa (aW) (aa (aW) au))) (by with_unfolding_all rfl)))))),?_⟩
  obtain⟨z0,z1,rfl,q⟩:=h;exact Pk (ji T).w q
theorem Gr:ι 11 AD.Zka (eG T.G3.g) Zjp (rz XQ):=by
 have sc:aM ["world","row"] Zjp (aC Zjb):=bN;walk_at "ok"
 ·refine⟨_,(aq (cz (jg dZ Φ (T.qX.pe rfl)) (aA (aK (dN (Zoq T) hr T.mo T.Zjv (aa Ξ (aa Φ au))))) bz)
   (aA (aK (cF (aa (dN (VB T) hr T.mo T.GZ (aa Ξ bj)) au))))),?_⟩
  obtain⟨z0,z1,rfl,q⟩:=h;exact Zn9 q
theorem Oz:ι 11 AD.yH (eG T.yw.g) ["world"] (Dp XQ):=by
 have sc:aM ["world","many"] ["world"] (aC xF):=bN;walk_at "ok"
 ·refine⟨_,(aq (dY 1 sc.nd (dN (RC T) hr T.mo T.JP bP))
   (aA (aK (Gd (jg Ze0 ω (az)) (cF (aa (bB (aa (T.qX.pe rfl) bj)) au)) (cF au))))),?_⟩
  obtain⟨z0,rfl,q⟩:=h;exact Ou q
theorem Ox:ι 12 AD.yG (eG T.yq.g) ["scene"] (UW AD.bh XQ):=by
 have sc:aM ["scene","world","row"] ["scene"] (aC xq):=bN;walk_at "ok"
 ·refine⟨_,(aq (dY 1 sc.nd (dN (LR T) hr T.mo T.CQ bP))
   (aq (jE PassesOwn.never rfl (jJ π) (dI (i:=2) sc.nd rfl bX)
   (aA (cz (gJ (dN (Bl T) hr T.mo T.uT (aa (dN (Gr T) hr T.mo T.G3 (aa ω cE)) au))) (aA (Zo6)) bz)))
   (aA (aK ω)))),?_⟩
  obtain⟨z0,rfl,q⟩:=h;exact N7 (ji T) q
theorem JF:ι 12 AD.wC (eG T.wu.g) ["world"] (zb XQ):=by
 have sc:aM ["world","drops","drop"] ["world"] (aC vG):=bN;walk_at "ok"
 ·refine⟨_,(aq (dY 1 sc.nd (dN (Ze3 T) hr T.mo T.Ss bP))
   (aq (jE PassesOwn.never rfl (jJ ω) (dI (i:=2) sc.nd rfl bX)
   (aA (fQ (dN (Gr T) hr T.mo T.G3 (aa Ξ cE)))))
   (aq (fQ (dN (PB T) hr T.mo T.Sg bP))
   (aA (aK (aU uM ω (cF (aa (bB (aa (T.qX.pe rfl) (aa (aU dG (az) (dN (RC T) hr T.mo T.JP bP)) au))) au)))))))),?_⟩
  obtain⟨z0,rfl,q⟩:=h;exact Jy q
theorem RT:ι 12 AD.Cg (eG T.BL.g) Bj (Uw XQ):=by
 have sc:aM ["_law_world","_law_found","_law_tail_here","_law_at","_law_drops","_law_hand","_law_places","_law_row_here"] Bj (aC Ac):=bN;walk_at "ok"
 ·refine⟨pA K (zP XQ) (UJ XQ) (rz XQ),(aq (dY 3 sc.nd (az))
   (aq (cz (jg Yt bS (aW)) (aq (cz (PW.pt (kZ (jg (G.Zop (HF hr)) ω (cF au)) (lF (lG (gJ (dN (wk T) hr T.mo T.pJ (aa Ξ (aa (iz cV ω (az)) au)))))))) eQ bz)
   (aA (dY 3 sc.nd (az)))) bz)
   (aq (cz (jg dZ bS (aW)) (aA (aK (iY dZ (bO G.cu η T.gq G.boot_len bj) (az) (lM _)))) bz)
   (aq (dY 4 sc.nd (cF au))
   (aq (jE PassesOwn.never rfl (G.uI rfl T.gf (aa (dN (Zjs T) hr T.mo T.Zhl bP) au)) (Cz rfl (gO (dI (i:=5) sc.nd rfl (Or.inr rfl)) (gO (dI (i:=6) sc.nd rfl (Or.inr rfl)) uJ)))
   (aA (dY 4 sc.nd (aU uM c0 (G.Ye (cns:=["_law_hand","_law_places"]) [5,6] (tD rfl T.pY (aa (bO G.cu η T.gq G.boot_len (aa (pv 6) au)) au)) (λ_ _ _ _ _=>(G.Rn (jg G.tO (iz cV ae Ξ) (eZ)))) (λ_ _ _ _ _=>(bB (aa (aW) (aa ω bP)))) rfl rfl Ψ (by repeat (first | exact trivial | refine⟨rfl,?_⟩)) rfl γ rfl γ γ rfl γ)))))
   (aq (cz (jg (G.Zha hr.units) (mJ Za2 ω (mj dP) (mj (aU dG dP (bO G.cu η T.gq G.boot_len (aa c0 au))))) c0) eQ bz)
   (aq (jE PassesOwn.never rfl (jJ c0) (dI (i:=7) sc.nd rfl bX)
   (aA (fQ (dN (Gr T) hr T.mo T.G3 (aa Ξ (aa (pv 7) au))))))
   (aq (dY 3 sc.nd (aU dG dP (bO G.cu η T.gq G.boot_len (aa c0 au))))
   (aq (cz (PW.pt (kZ (jg Zuh dP (bO G.cu η T.gq G.boot_len bj)) (lF (lG (gJ (dN (wk T) hr T.mo T.pJ (aa Ξ (aa (iz cV ω dP) au)))))))) eQ bz)
   (aA (aK ((Zac (iY dZ bS (aW) (lM _)) (Zaa (iY (G.Zoo hr.units) (mJ Za2 ω (mj (aU dG dP (az))) zE) ae (lM _)))))))))))))))),?_⟩
  obtain⟨z0,z1,z2,rfl,q⟩:=h;exact Ur (ji T).w q
theorem CJ:ι 13 AD.Ze (eG T.zL.g) ["scene"] (uw AD.bh AD.cN XQ):=by
 have sc:aM ["scene","world","rows"] ["scene"] (aC XD):=bN;walk_at "okX"
 ·refine⟨_,(aq (cz (Rj (eX π T.Jc.c T.Bu.m (Bp T).g ad (Bp (P:=P) (base:=base) T).b .nil G.cQ) (λ_=>rfl)) (aA (G.xV rfl rfl (T.mo T.Zks) T.Zrc (aa (aW) au) eh)) bz)
   (aq (dY 1 sc.nd (dN (Ox T) hr T.mo T.yq bP))
   (aq (dY 2 sc.nd (dN (Oz T) hr T.mo T.yw bj))
   (aq (cz (jg dZ (aJ dA rfl) (aW)) (aA (aK ae)) bz)
   (aq (fQ (qz PySem.F.plainAttrs_list PySem.F.slot_list_extend PySem.F.type_list_extend oW ae (aa (dN (JF T) hr T.mo T.wu bj) au)))
   (aq (fQ (qz PySem.F.plainAttrs_list PySem.F.slot_list_extend PySem.F.type_list_extend oW ae (aa (dN (OD T) hr T.mo T.yx (aa π (aa ai au))) au)))
   (aA (aK ae)))))))),?_⟩
  obtain⟨z0,rfl,q⟩:=h;exact Zgd (ji T) q
theorem OJ:ι 14 AD.yK (eG T.yC.g) xY (Dt AD.bh XQ):=by
 have sc:aM ["_law_scene","_law_caught","e","_law_others"] xY (aC xJ):=bN;walk_at "ok"
 ·refine⟨nJ K AD.aQ AD.bY AD.bx AD.bF AD.cN AD.j8 (uw AD.bh AD.cN XQ) (W.kitOne K),(aq (dY 1 sc.nd (eZ))
   (aq (G.Zo5 (i:=2) rfl ⟨rfl,rfl⟩ sc.nd rfl rfl rfl (T.mo T.Zfz) (λcls h=>by rcases h with rfl | rfl | rfl | rfl | rfl<;>first | exact T.wR | exact T.J4 | exact T.zU | exact T.Dd | exact T.Iu) (λEx pn xe hx=>(aA (fQ (G.Zdt (CJ T).g ad rfl (T.mo T.zL.a) (BV T.zL.g).kp (CJ (P:=P) (base:=base) T).b .nil hx bP)))) (λea pn=>(aq (dY 3 sc.nd (bO (G.Zii (Zx2 T)) η T.dW G.boot_isinstance (aa ae (aa (bB (aa (uL rfl (T.mo T.yP) rfl) (aa (uL rfl (T.mo T.Zin) rfl) (aa (uL rfl (T.mo T.J9) rfl) (aa (uL rfl (T.mo T.Uq) rfl) (aa (uL rfl (T.mo T.Zfy) rfl) au)))))) au))))
   (aA (dY 1 sc.nd (cF (aa (bO (G.Zm (Zx2 T)) η T.dW G.boot_isinstance (aa ae (aa (uL rfl (T.mo T.Zks) rfl) au))) (aa (bO (G.Zm (Zx2 T)) η T.dW G.boot_isinstance (aa ae (aa (zF rfl T.oE G.Pj rfl) au))) a4))))))))
   (aA (aK (iY (G.Zop (HF hr)) ω (cF (aa (nW) (aa (nW) (aa (nW) au)))) (lM _)))))),?_⟩
  obtain⟨z0,rfl,q⟩:=h;exact Pn T.Zy8 q
theorem Zvi{fl:AI}{fd:AL}(F:Fun K "law" "law" QG fl fd):Fn5 P w K mg base 15 fl fd ["_law_script"] (Zkw K):=by
 have sc:aM ["_law_script","_law_number","_law_hands_here","_law_rows_here","_law_scene","_law_found","_law_row_here","_law_world"] ["_law_script"] (aC QG):=bN;walk_at "okL"
 ·refine⟨Zh5 K AD.bh (vp AD.bh) (Zj2) (Zj1 K) (Zcu) (Zct XQ) (Dt AD.bh XQ) (Ziz) (Zcs K) (Uz) (Kh) (Uw XQ) (rz XQ) (uw AD.bh AD.cN XQ) (zO AD.bh XQ),(aq (dY 1 sc.nd (dN (oK T) hr T.mo T.mZ (aa Ξ (aa (az) au))))
   (aq (dY 2 sc.nd (dN (VN T) hr T.mo T.Hi (aa (dN (oK T) hr T.mo T.mZ (aa Ξ (aa (az) au))) au)))
   (aq (dY 3 sc.nd (dN (Zaj T) hr T.mo T.Mp (aa (mJ Za2 Ξ (mj (az)) (mj (az))) (aa ae (aa (dN (oK T) hr T.mo T.mZ (aa Ξ (aa (az) au))) (aa (az) au))))))
   (aq (dY 4 sc.nd (qx (mkT T.Zfu T.qP) (qG T).g ad rfl (T.mo T.Ztw) (qG (P:=P) (base:=base) T).b .nil G.cQ (aa (dN (Zak T) hr T.mo T.Mq (aa (dN (oK T) hr T.mo T.mZ (aa Ξ (aa (az) au))) au)) (aa (dN (Zam T) hr T.mo T.Mu bj) (aa (jP G.lU η T.nC G.boot_list cE) (aa (jP G.lU η T.nC G.boot_list a4) au))))))
   (aq (cz (gJ (dN (VL T) hr T.mo T.G9 bj)) (aA (aK (dN (OJ T) hr T.mo T.yC (aa c0 au)))) bz)
   (aq (dY 5 sc.nd (dN (CJ T) hr T.mo T.zL (aa c0 au)))
   (aq (cz (PW.pt (kZ (lG (gJ (bO G.yM η T.dW G.boot_isinstance (aa (pv 5) (aa (zF rfl T.nC G.boot_list rfl) au))))) (kZ (jg (G.Zha hr.units) (aJ c0 rfl) dP) (lF (jg (G.Zha hr.units) (aJ c0 rfl) ae))))) eQ bz)
   (aq (jE PassesOwn.never rfl (jJ (pv 5)) (dI (i:=6) sc.nd rfl bX)
   (aA (cz (lG (gJ (dN (VP T) hr T.mo T.Hj (aa (pv 6) au)))) eQ bz)))
   (aq (dY 7 sc.nd (dN (LR T) hr T.mo T.CQ (aa c0 au)))
   (aq (jE PassesOwn.never rfl (jJ dP) (dI (i:=6) sc.nd rfl bX)
   (aq (fQ (dN (Gr T) hr T.mo T.G3 (aa (pv 7) (aa (pv 6) au))))
   (aA (cz (jg dZ (aJ (aJ (pv 7) rfl) rfl) (aW)) (aA (aK (iY (G.Zoo hr.units) (pv 5) (cF au) (lM _)))) bz))))
   (aA (aK (dN (RT T) hr T.mo T.BL (aa (pv 7) (aa (pv 5) (aa (dN (Zai T) hr T.mo T.Mm (aa ω (aa (bO G.cu η T.gq G.boot_len cE) au))) au)))))))))))))))),?_⟩
  obtain⟨z0,rfl,q⟩:=h;exact Zw1 (ji T) q
end
theorem all_mk{l:W.OpenLaw}{w:AO}{K:aD}{h:Heap}{mg:As}{fa fl:AI}{XQ:Cs}{AD:Ad}(a:K.In h)(b:h.Ns mainGlobals mg)(hfa:mg "law"=↑fa)(t1:Tx1 K XQ AD)
  {Zzz t Y Zy2 x:Option AI}
  {U Zzq Zxt:Array AB}
  {Z q n D g o Zzv i u V z r k f j A J p:AJ}
  {c Ue S:AI}
  {Zzt y B:Nat}
  {Zd Zc Zb Za Y9 Y8 Y7 Y6 Y5 Y4 Y0 YZ YX YW:Int}
  {Xu Xr Xq Xp Xo Xn Xm Xl Xk Xj Xi Xh Xg Xf:Tok}
  (a21:Fi K XQ.H "make" AD.iH)
  (i21:W.isFn K (.ref AD.iH)=true)
  (I:Lk K AD.iH "make" "Heap.make" jk (.ref c) Z Zzz q n D t g o U)
  (t21:K.lookup c=some ⟨Zzv,Y,.seq #[i,u] Zzt,Zzq⟩)
  (ZBd:RelV (.int 0) i)
  (ZBc:RelV (.int 0) u)
  (c21:Ci K g "Heap.make")
  (d:Ki K AD.iH)
  (Q:Ns K "law" fl)
  (ZA8:Lk K fl "law" "law" QG .none V Zy2 z r k x f j Zxt)
  (ZE7:Ci K f "law")
  (R:Ki K fl)
  (N:Ns K "DEEDS" Ue)
  (Zpf:K.lookup Ue=some ⟨.type "dict",none,.dict #[⟨Zd,.str "make" Xu,.ref AD.jV⟩,⟨Zc,.str "get" Xr,.ref AD.nj⟩,⟨Zb,.str "put" Xq,.ref AD.m9⟩,⟨Za,.str "copy" Xp,.ref AD.jY⟩,⟨Y9,.str "drop" Xo,.ref AD.jX⟩,⟨Y8,.str "give" Xn,.ref AD.jW⟩,⟨Y7,.str "write" Xm,.ref AD.jq⟩,⟨Y6,.str "read" Xl,.ref AD.jT⟩,⟨Y5,.str "name" Xk,.ref AD.jU⟩,⟨Y4,.str "seek" Xj,.ref AD.jR⟩] y,#[]⟩)
  (Zmh:Zd=hashStr w "make")
  (Zmg:Zc=hashStr w "get")
  (Zmf:Zb=hashStr w "put")
  (Zme:Za=hashStr w "copy")
  (Zmd:Y9=hashStr w "drop")
  (Zmc:Y8=hashStr w "give")
  (Zmb:Y7=hashStr w "write")
  (Zma:Y6=hashStr w "read")
  (Zm9:Y5=hashStr w "name")
  (Zm8:Y4=hashStr w "seek")
  (X:Ns K "STEPS" S)
  (Zpe:K.lookup S=some ⟨.type "dict",none,.dict #[⟨Y0,.str "rest" Xi,.ref AD.fJ⟩,⟨YZ,.str "walk" Xh,.ref AD.fG⟩,⟨YX,.str "give" Xg,.ref AD.fH⟩,⟨YW,.str "lost" Xf,.ref AD.dR⟩] B,#[]⟩)
  (M:Y0=hashStr w "rest")
  (Zm6:YZ=hashStr w "walk")
  (Zm5:YX=hashStr w "give")
  (Zm4:YW=hashStr w "lost")
  (Zqj:W.findIn K (.ref XQ.C) "__eq__"=some (some (.builtin "object.__eq__")))
  (Zqi:W.mroIn K XQ.C (.type "object")=some true)
  (J2:Fi K XQ.E "at_begin" AD.fc)
  (Wt:Fi K XQ.E "stays" AD.gK)
  (CZ:Fi K XQ.F "next_look" AD.ig)
  (Tt:Fi K XQ.F "stays" AD.gK)
  (J1:Fi K XQ.L "at_begin" AD.fc)
  (oE:W.nsIn K mainGlobals "ValueError"=some none)
  (ZG:W.nsIn K mainGlobals "bool"=some none)
  (gf:W.nsIn K mainGlobals "enumerate"=some none)
  (Zj6:W.nsIn K mainGlobals "int"=some none)
  (dW:W.nsIn K mainGlobals "isinstance"=some none)
  (gq:W.nsIn K mainGlobals "len"=some none)
  (nC:W.nsIn K mainGlobals "list"=some none)
  (pY:W.nsIn K mainGlobals "range"=some none)
  (Zj5:W.nsIn K mainGlobals "str"=some none)
  (Pr:W.nsIn K mainGlobals "tuple"=some none)
  (P:W.nsIn K mainGlobals "NEW"=some (some A))
  (Zwx:RelV (.int 2) A)
  (Zwy:W.nsIn K mainGlobals "OLD"=some (some J))
  (Zww:RelV (.int 1) J)
  (Zq2:W.nsIn K mainGlobals "SWEEP"=some (some p))
  (Zq0:RelV (.str "sweep") p)
  (Zyz:W.kitOne K (.ref AD.cN) (.ref AD.cN)=some true)
  (Zyy:W.kitOne K (.ref AD.cN) (.type "ValueError")=some true)
  (Tv:W.kitOne K (.ref AD.cN) (.ref AD.aQ)=some false)
  (Zmi:W.kitOne K (.ref AD.cN) (.ref AD.bY)=some false)
  (Zbv:W.kitOne K (.ref AD.cN) (.ref AD.bx)=some false)
  (Zf7:W.kitOne K (.ref AD.cN) (.ref AD.bF)=some false)
  (Tu:W.kitOne K (.ref AD.cN) (.ref AD.j8)=some false)
  :∃fd:AL,(∀(s:AK) (v:AJ),BindsTo s fd ⟨[v],[]⟩ [("_law_script",v)])/\∀base:Heap,K.In base->base.Ns mainGlobals mg->pX l.prog w K mg base (G.Dw l.prog w) 15 fa fd ["_law_script"] (Zkw K):=by
 have e:=hfa.symm.trans (W.mg_of a b Q);cases e;have mo:∀{s:Str}{v:AJ},W.nsIn K mainGlobals s=some (some v)->mg s=some v:=λh=>W.mg_of a b h;have O:=G.Ztc (st:=jk) I c21 d;have b21:=G.Zxc (ps:=["self","many","bulk","tone"]) (ds:=[]) I t21 λus hl=>by obtain⟨_,_,rfl,l1⟩:=cn1 (n:=3) hl;obtain⟨_,_,rfl,l2⟩:=cn1 (n:=2) l1;obtain⟨_,_,rfl,l3⟩:=cn1 (n:=1) l2;obtain⟨_,_,rfl,l4⟩:=cn1 (n:=0) l3;cases List.eq_nil_of_length_eq_zero l4;exact ⟨_,rfl,rfl⟩
 let Q2:Bd:=⟨(),W.fnOf "make" "Heap.make" (iM jk) (fV jk) (aC jk) (.ref c) q n D t g o⟩
 have T:Txt w K mg XQ AD Q2:={ t1 with
  mo:=mo
  Xw:=⟨Ue,_,_,y,W.mg_of a b N,Zpf,⟨rfl,rfl,rfl⟩,rfl,Zmh,⟨Xu,rfl⟩,rfl,Zmg,⟨Xr,rfl⟩,rfl,Zmf,⟨Xq,rfl⟩,rfl,Zme,⟨Xp,rfl⟩,rfl,Zmd,⟨Xo,rfl⟩,rfl,Zmc,⟨Xn,rfl⟩,rfl,Zmb,⟨Xm,rfl⟩,rfl,Zma,⟨Xl,rfl⟩,rfl,Zm9,⟨Xk,rfl⟩,rfl,Zm8,⟨Xj,rfl⟩,rfl,trivial⟩
  Xv:=⟨S,_,_,B,W.mg_of a b X,Zpe,⟨rfl,rfl,rfl⟩,rfl,M,⟨Xi,rfl⟩,rfl,Zm6,⟨Xh,rfl⟩,rfl,Zm5,⟨Xg,rfl⟩,rfl,Zm4,⟨Xf,rfl⟩,rfl,trivial⟩
  PX:=⟨Zqj,Zqi⟩
  tZ:=⟨J2,t1.fY.m.fn,t1.fY.m.kp⟩
  rK:=⟨Wt,t1.iy.m.fn,t1.iy.m.kp⟩
  pI:=⟨CZ,t1.jm.m.fn,t1.jm.m.kp⟩
  pH:=⟨Tt,t1.iy.m.fn,t1.iy.m.kp⟩
  tW:=⟨J1,t1.fY.m.fn,t1.fY.m.kp⟩
  GP:=⟨a21,i21,d⟩
  oE:=W.mg_none_of a b oE
  ZG:=W.mg_none_of a b ZG
  gf:=W.mg_none_of a b gf
  Zj6:=W.mg_none_of a b Zj6
  dW:=W.mg_none_of a b dW
  gq:=W.mg_none_of a b gq
  nC:=W.mg_none_of a b nC
  pY:=W.mg_none_of a b pY
  Zj5:=W.mg_none_of a b Zj5
  Pr:=W.mg_none_of a b Pr
  Zk9:=⟨_,W.mg_of a b P,Zwx⟩
  Zf9:=⟨_,W.mg_of a b Zwy,Zww⟩
  qX:=⟨_,W.mg_of a b Zq2,Zq0⟩
  Zy8:=Zsq Zyz Zyy Tv Zmi Zbv Zf7 Tu
  N6:=O
  yO:=b21
  MJ:=d
 }
 exact⟨W.fnOf "law" "law" (iM QG) (fV QG) (aC QG) .none z r k x f j,λs v=>.of_eq rfl,λbase _ _=>Zvi T (Zq4 (st:=QG) ZA8 ZE7 R)⟩
theorem walk{l:W.OpenLaw}{q:AM}{b:AH}{j:(As)->Heap->Prop}{e:AO->Heap->Prop}{d:DefRec}{K:Params->aD}(hn:l.most=some 63)(c:d.params.defaults=[])
  (g:∀(w:AO) (h:Heap),e w h->(K w.params).In h)
  (F:∀(w:AO) (mg:As) (fa:AI) (h:Heap),(K w.params).In h->h.Ns mainGlobals mg->mg d.name=↑fa->
   ∃fd:AL,(∀(s:AK) (u:AJ),BindsTo s fd ⟨[u],[]⟩ [("_law_script",u)])/\∀base:Heap,(K w.params).In base->base.Ns mainGlobals mg->pX l.prog w (K w.params) mg base (G.Dw l.prog w) 15 fa fd ["_law_script"] (Zkw (K w.params))):
  W.WalkO q b j e l.row.toRowW d [] (λf vs=>PySem.call f vs):=
 L2.Zrh (n:=63) (k:=15) (x:="_law_script") (CX:=λw=>G.Dw l.prog w) (sp:=λw=>Zkw (K w.params)) hn ε c ⟨rfl,ε,ε⟩ g F (λ_ _ a ns hl _ i=>⟨a,rfl,ns,i,hl,λ_=>rfl⟩) λ_ _ _ _ _ z=>by
  obtain⟨_,_,_,_,_,_,_,_,_,_,_,_,z⟩:=z;exact z
end W7
namespace PySem.W.Fast
def tw3993122725839357262:=0
def tw18013004809148722943:=0
def tw18124307167487754738:=0
def tw15988795346200542137:=0
def tw928486607218125106:=0
def tw8592457118977168409:=0
def tw11892359967188943247:=0
def tw1318920169212868030:=0
def tw5749537039581729502:=0
def tw7203117890093319930:=0
def tw15372135899820228013:=0
def tw5074177096999864926:=0
def tw9854339809311006560:=0
def tw407219152915029484:=0
def tw9335289282691568477:=0
def tw15874545096453000264:=0
def tw4488558137078570144:=0
def tw9730578689871516515:=0
def tw16737229686439645071:=0
def tw9663531780748745059:=0
def tw18359317374973977204:=0
def tw1015438519445090130:=0
def tw15564535763489569757:=0
def tw4995814594389659865:=0
def tw14393688908685154088:=0
def tw4833828380780626836:=0
def tw16933167857518417052:=0
def tw14560432544194255906:=0
def tw519733258872873994:=0
def tw4786934925230924448:=0
def tw14907232179832177134:=0
def tw18354020723322485376:=0
def tw13516476313932263377:=0
def tw15299570868400832136:=0
def tw5964540023276750843:=0
def tw4121589463189738379:=0
def tw10667028023504387242:=0
def tw12122019782208748157:=0
def tw7994302716874945351:=0
def tw1832647274003093080:=0
def tw9719404461177317940:=0
def tw3115663146483262848:=0
def tw10973125759229905582:=0
def tw1200998588431486004:=0
def tw14417761645398828329:=0
def tw16501917048977177404:=0
def tw4345647579852305477:=0
def tw5018235652337622702:=0
def tw13529094162349925814:=0
def tw2644801407686688557:=0
def tw18108999188440440752:=0
def tw10522176949180020308:=0
def tw9995745276842212671:=0
def tw12740390140819668882:=0
def tw3173829641254262097:=0
def tw11452756747308847986:=0
def tw12101821414179152366:=0
def tw9258805023397125870:=0
def tw2864858725032765402:=0
def tw17275890137262346437:=0
def tw14642053325985068914:=0
def tw13177014305517440060:=0
def tw14029320176606260419:=0
def tw2814773787577972149:=0
def tw8879817698390936771:=0
def tw13874042041197873219:=0
def tw13887626491212276597:=0
def tw18392743815005776303:=0
def tw13218217473705303597:=0
def tw18177262287489297485:=0
def tw2187988784593899237:=0
def tw13438914514582622752:=0
def tw621108136337227695:=0
def tw9020864624281814699:=0
def tw15971163769683370462:=0
def tw2952742059586660099:=0
def tw9870659497114350257:=0
def tw15694979041175952507:=0
def tw5728274658848015300:=0
def tw13252616375494445355:=0
def tw13678840505008332846:=0
def tw7668105290579298366:=0
def tw16319953452188069694:=0
def tw12876673899542471907:=0
def tw13961064883539722046:=0
def tw9115964043073357979:=0
def tw6015304823923649834:=0
def tw15302570371118659089:=0
def tw9424960061721062756:=0
def tw14345217035186117238:=0
def tw5589757467281513852:=0
def tw17141280914354592755:=0
def tw8838265109683980141:=0
def tw16360739151708490034:=0
def tw4772585672562337951:=0
def tw1568305815360514711:=0
def tw15163733982191875619:=0
def tw12524585602977999434:=0
def tw15240942185103536655:=0
def tw1085519275199886146:=0
def tw2575109778596850352:=0
def tw9101503842330429150:=0
def tw1032066781803288063:=0
def tw16367537630572498062:=0
def tw7772589018911061865:=0
def tw9513507264567327819:=0
def tw7522899785591397606:=0
def tw18309423703919149434:=0
def tw11085400820734729006:=0
def tw10641673723348343914:=0
def tw12495550760509739120:=0
def tw2625356362754742398:=0
def tw15672480225110807579:=0
def tw9073512455966826827:=0
def tw14235116106755907614:=0
def tw6122562459542603102:=0
def tw15809830289083603514:=0
def tw14717388841781408847:=0
def tw16442403713324415052:=0
def tw1342980192906701969:=0
def tw1609006126940920721:=0
def tw1223797077876959558:=0
def tw8051336644906892182:=0
def tw13510987564378556307:=0
def tw4731476940143436784:=0
def tw13141039703204972613:=0
def tw15448638530565700704:=0
def tw17412708216788629920:=0
def tw2234853323794289538:=0
def tw5551915498172269283:=0
def tw6351959250582511363:=0
def tw14734095240057167908:=0
def tw13878493537308600837:=0
def tw10516340475472621125:=0
def tw6543887171398605701:=0
def tw7961885693625486534:=0
def tw5035219049156312711:=0
def tw17962057958975818025:=0
def tw15015277152905642345:=0
def tw15798625498472004749:=0
def tw2546213309222217870:=0
def tw16545947583264668846:=0
def tw10356130009120736367:=0
def tw5786162679934501295:=0
def tw9754981742979864495:=0
def tw14122199314010957779:=0
def tw15666692834331489524:=0
def tw10426013101560838229:=0
def tw6896579341661555221:=0
def tw1501766510408886328:=0
def tw5715875846376027322:=0
def tw8113835898272576122:=0
def tw579445769808259868:=0
def tw1324951576908187934:=0
def tw925080365920033278:=0
def tw3969264058938242111:=0
def tw6245110672959093075:=0
def tw1690533947338982623:=0
def tw17894099338052170829:=0
def tw5917261592734014325:=0
def tw9677617263724668305:=0
def tw10686687084089139847:=0
def tw11063325051703520086:=0
def tw1822741588913232195:=0
def tw18423641580053832733:=0
def tw9894213742235316697:=0
def tw8631788452494031403:=0
def tw13143565519406551978:=0
def tw2757499197526098484:=0
def tw4221062022940595390:=0
def tw1554929669091052567:=0
def tw16636181648283175272:=0
def tw14379020296387438464:=0
def tw17293198778775864908:=0
def tw12423555424688411933:=0
def tw14323949301942947990:=0
def tw7257299550263412412:=0
def tw5111150835720878438:=0
def tw13819944909233544769:=0
def tw5010836630523993109:=0
def tw17176961268315744769:=0
def tw15601411035992727362:=0
def tw6322869221397067400:=0
def tw10447665821953491782:=0
def tw815064352967459670:=0
def tw15864424039318102150:=0
def tw11071544706044127482:=0
def tw5736445716421145692:=0
def tw5378717970201104980:=0
def tw2396073041598589911:=0
def tw12088124710043621199:=0
def tw5445706012393151037:=0
def tw12786911121683273492:=0
def tw12162111295216282718:=0
def tw14650805379675166226:=0
def tw2526792752678916871:=0
def tw11683328836796958901:=0
def tw13949041412414472540:=0
def tw14745113128319825476:=0
def tw7897343345177786174:=0
def tw18270683177516868448:=0
def tw4671117546131582256:=0
def tw12148231860819106718:=0
def tw9945325059065775528:=0
def tw10664523191525035165:=0
def tw16278981756660718998:=0
def tw16630916010163089229:=0
def tw10190518474231860705:=0
def tw7899885832182780503:=0
def tw4483249474331660719:=0
def tw8023887940099971182:=0
def tw15760487532020347513:=0
def tw2376397923237939342:=0
def tw488075087876141092:=0
def tw6955193411373066517:=0
def tw2710993119979314676:=0
def tw14555570676771622979:=0
def tw16839280644077020998:=0
def tw11735926580048403371:=0
def tw4774489548491448815:=0
def tw10476384552707662518:=0
def tw10427421658792841376:=0
def tw12984442701319489611:=0
def tw11528764189913014658:=0
def tw16028972581254186718:=0
def tw6162707303826324132:=0
def tw2421951144932482302:=0
def tw10702997648527500009:=0
def tw10548239054609427612:=0
def tw12930295117884588244:=0
def tw10581368954753834239:=0
def tw17198888343119606272:=0
def tw5778006303985205232:=0
def tw13399276083625710250:=0
def tw18224461141780501693:=0
def tw11670253648655458921:=0
def tw751220207561695455:=0
def tw326980734346375946:=0
def tw14528028587167339066:=0
def tw16411041894186063591:=0
def tw2319877769071949260:=0
def tw1343139784784600586:=0
def tw14389869786476779364:=0
def tw15908365611097254689:=0
def tw1998910096522600226:=0
def tw12496270165214043313:=0
def tw12500515981963378521:=0
def tw17215279045684145969:=0
def tw11049525436332390380:=0
def tw17128696307250235892:=0
def tw14146919529972025844:=0
def tw5913431861051254009:=0
def tw3948203527926954721:=0
def tw1226052477892122993:=0
def tw15489179429728877320:=0
def tw15908397903743723993:=0
def tw11401688736712705149:=0
def tw9052579585972165046:=0
def tw12923278066019080904:=0
def tw6269164989963095171:=0
def tw16896932368045666321:=0
def tw14532087756793836361:=0
def tw232681315026915979:=0
def tw17069952010273070526:=0
def tw10816973909779745189:=0
def tw7113844611162684165:=0
def tw6635388035311331885:=0
def tw13344346111226614433:=0
def tw14132763666947867609:=0
def tw10841825817313801766:=0
def tw2929327615163591380:=0
def tw10123940121394169763:=0
def tw9159898762508439704:=0
def tw18414762870498243682:=0
def tw10310694760441267343:=0
def tw12720241932524679196:=0
def tw7111727239775560747:=0
def tw11060497657689467065:=0
def tw856583387459627548:=0
def tw14359971394029410768:=0
def tw4724114600236644742:=0
def tw5156049487840046313:=0
def tw4205771212365426892:=0
def tw16181487164662048232:=0
def tw2610541434363365233:=0
def tw14405457619931955080:=0
def tw10028295243212438938:=0
def tw1866016504941508238:=0
def tw10641391139021147047:=0
def tw9504506129895506384:=0
def tw15867418141825230045:=0
def tw17783145139356171023:=0
def tw10716895983502999637:=0
def tw4143424613063489884:=0
def tw11691713176372431636:=0
def tw18048513010855796257:=0
def tw14315504789101549272:=0
def tw17567563100105843466:=0
def tw15352703830323950464:=0
def tw2695690230786799828:=0
def tw11850652262278203665:=0
def tw967993852990902083:=0
def tw11286986524460021449:=0
def tw517975775932880102:=0
def tw14501563395824202163:=0
def tw2228135148335398477:=0
def tw15532510703186478970:=0
def tw16824122316934224898:=0
def tw12014216088972300690:=0
def tw3920031380044484580:=0
def tw6962183535294600947:=0
def tw3003723704906767585:=0
def tw3099720570744558726:=0
def tw10747138360167858668:=0
def tw12296380468920843427:=0
def tw10084006274093126629:=0
def tw10248339335659938881:=0
def tw2505656573404070026:=0
def tw228281161042689331:=0
def tw15497706988859742028:=0
def tw11424996986337650477:=0
def tw11358245355135395239:=0
def tw11642646951403121323:=0
def tw17533857955691259777:=0
def tw9538699390492991979:=0
def tw17354028205516046641:=0
def tw10452311787857982385:=0
def tw5974395072589953854:=0
def tw7039851436408372542:=0
def tw8536246258014389304:=0
def tw9745687186208440136:=0
def tw12345353935805131963:=0
def tw15975529584079464313:=0
def tw7670303140998617757:=0
def tw11646817641480871907:=0
def tw892380783399807811:=0
def tw26554455723018446:=0
def tw14754718438529403026:=0
def tw3972007991871207997:=0
def tw11979001395345387972:=0
def tw10983623401093011510:=0
def tw15557434679820800776:=0
def tw15680434047950454792:=0
def tw3855823781924637233:=0
def tw8531799952650407394:=0
def tw9975716359859724846:=0
def tw18108249301951687338:=0
def tw3961715766576389080:=0
def tw4259430054170636690:=0
def tw5647976969083798071:=0
def tw938945570005268672:=0
def tw9573630925980804570:=0
def tw7094349838161306244:=0
def tw8473805808578072869:=0
def tw17293568302546648430:=0
def tw12326556623717462516:=0
def tw3470235752891603397:=0
def tw6094272998521207060:=0
def tw15485674089441018442:=0
def tw7563554038078660090:=0
def tw15568106189375856890:=0
def tw18260228920231383819:=0
def tw2552785369463245682:=0
def tw5044390363988311631:=0
def tw11970800310878826095:=0
def tw6215971667885332128:=0
def tw17444912613076241189:=0
def tw8676924636755929547:=0
def tw12865400325759049422:=0
def tw14057705882325210737:=0
def tw14837017391114457736:=0
def tw17263211470694784361:=0
def tw750298502452612383:=0
def tw13846828939188637169:=0
def tw16422370353181359314:=0
def tw84242119126948812:=0
def tw17234485756838109435:=0
def tw13667567354699561081:=0
def tw6665421235131243318:=0
def tw16665511881228754796:=0
def tw13651826173939426435:=0
def tw5099124293965774952:=0
def tw3953074792137686046:=0
def tw7842627545151402728:=0
def tw13781871295277164751:=0
def tw14024099156301953711:=0
def tw10630070556956987043:=0
def tw8964134504507557909:=0
def tw4663396349602718514:=0
def tw12141335004409030474:=0
def tw11376680947860376853:=0
def tw4766042521203794000:=0
def tw13794544543872465029:=0
def tw12178422560434328966:=0
def tw13879395236227492081:=0
def tw14067609111959464337:=0
def tw1624448414997630685:=0
def tw9050870220907326291:=0
def tw14812948128421159777:=0
def tw11974314384211836823:=0
def tw3396309702468942803:=0
def tw13711888992318535924:=0
def tw2717753959218875434:=0
def tw3842501424408166215:=0
def tw9797915253992968291:=0
def tw14440350333804979269:=0
def tw5230605033149498948:=0
def tw3202056165851909777:=0
def tw12899119163076193794:=0
def tw12320701159118988335:=0
def tw10912244265729697634:=0
def tw15207930240895694552:=0
def tw2113546157489569985:=0
def tw8379674960066866702:=0
def tw12578894232083341397:=0
def tw6790443986143551893:=0
def tw7698331647754136377:=0
def tw13457259440466167872:=0
def tw18185248663414868218:=0
def tw13456838359531518890:=0
def tw6023920196952691359:=0
def tw7614409988012282947:=0
def tw163923292724720008:=0
def tw6643943551278276655:=0
def tw10761942889572552058:=0
def tw4957263137564318902:=0
def tw18298774208842755466:=0
def tw289358108796818384:=0
def tw12648216208571550717:=0
def tw13023266625130702788:=0
def tw5267235168392294005:=0
def tw8850591274724513664:=0
def tw1030383748845754990:=0
def tw17995859892316371496:=0
def tw5106168024073358479:=0
def tw6971780418437322842:=0
def tw17617048701656072769:=0
def tw5685876696739491630:=0
def tw15455553520212206907:=0
def tw14692183074733833360:=0
def tw5044489845960160595:=0
def tw7505030049410879409:=0
def tw17035782316300085185:=0
def tw5254546135616065967:=0
def tw7144355737961522281:=0
def tw15307028706692378516:=0
def tw10406129763291162444:=0
def tw10357636951877218361:=0
def tw916863769194009300:=0
def tw2094689939523851223:=0
def tw7862550401647986906:=0
def tw9094621219590683747:=0
def tw15116832818527279897:=0
def tw2772975405754476562:=0
def tw5914602038552373422:=0
def tw834404408367023749:=0
def tw3887329126129289508:=0
def tw3357371024613640611:=0
def tw15557762675984451794:=0
def tw12230587312359365875:=0
def tw14915374041830127170:=0
def tw3433164091398034847:=0
def tw11889662450114655966:=0
def tw8984377179942077410:=0
def tw9683558568281549087:=0
def tw10080283409346325892:=0
def tw5878818261070417807:=0
def tw17724989298258291962:=0
def tw5569373599930360163:=0
def tw10476965014829372081:=0
def tw11959615213663881182:=0
def tw8957859412562764985:=0
def tw18401861558559981446:=0
def tw1754395170654189436:=0
def tw3156128237563044451:=0
def tw154053952971548476:=0
def tw12202719252616249266:=0
def tw13959458049729999073:=0
def tw6710460640974840029:=0
def tw8242044261855202810:=0
def tw12364082535697449199:=0
def tw9205868292922728457:=0
def tw5277491195803800162:=0
def tw9750118645815345872:=0
def tw416674252767249949:=0
def tw17983541556003355651:=0
def tw18262240226385644442:=0
def tw7492127317752416871:=0
def tw13291462316889272467:=0
def tw3591895373045160439:=0
def tw16680620051034921716:=0
def tw15971211336997846699:=0
def tw16963941344197538413:=0
def tw18216845254219587503:=0
def tw6324673442611424549:=0
def tw18240792212427480556:=0
def tw430468931710648086:=0
def tw1798610027232504679:=0
def tw11084350706701759574:=0
def tw15315227466298835373:=0
def tw17066711537957468763:=0
def tw13302360450589886471:=0
def tw10663362058250189137:=0
def tw7359937874538142469:=0
def tw6812701851951574704:=0
def tw16461749157182100059:=0
def tw2774125780788561644:=0
def tw16688234448473242759:=0
def tw156646333663868011:=0
def tw11647214970507466605:=0
def tw792917667964579634:=0
def tw16582444056658201036:=0
def tw9988202307275466597:=0
def tw15645921402369869363:=0
def tw14983519194374414501:=0
def tw4523189024797329822:=0
def tw9513851788047794636:=0
def tw9936077084507650713:=0
def tw14467185837801714932:=0
def tw2023373961066430919:=0
def tw1103918865620621438:=0
def tw12502585472014719564:=0
def tw16585847477105219986:=0
def tw3069512775411123308:=0
def tw5852185558804774204:=0
def tw8376158909924753387:=0
def tw17130460160424475226:=0
def tw10906858400081182808:=0
def tw10795652979967864540:=0
def tw2149254394025254281:=0
def tw16526373684806608651:=0
def tw12922344151506070597:=0
def tw7332186655651635585:=0
def tw446880952796749645:=0
def tw18438225433462659595:=0
def tw7764244522420177489:=0
def tw1348892211000281082:=0
def tw5748172313740042035:=0
def tw11749255859273452085:=0
def tw14530542853655070410:=0
def tw18046622099949984995:=0
def tw13740789779423387075:=0
def tw6644757070380635907:=0
def tw16516726318999046668:=0
def tw16611289183078099043:=0
def tw2968296480478082544:=0
def tw17887074035658428535:=0
def tw13900871051962675745:=0
def tw9330131589779053133:=0
def tw2790414012292564649:=0
def tw15121629167678329028:=0
def tw16768672105980796633:=0
def tw1639422299656544761:=0
def tw17444711926851905243:=0
def tw6693861855143253449:=0
def tw2715506182916622965:=0
def tw7443313628301238036:=0
def tw17896292422208472699:=0
def tw8805725496899595289:=0
def tw1923382929177229504:=0
def tw9764932668418123349:=0
def tw2677931978223655947:=0
def tw9821408953813076916:=0
def tw7217707281077687539:=0
def tw1236398426164956474:=0
def tw1493821795669936257:=0
def tw14283238581682416410:=0
def tw16187626461846880180:=0
def tw2861175384599058243:=0
def tw6371787846699830396:=0
def tw13481889717082417474:=0
def tw7278160172200864783:=0
def tw4610225701564471880:=0
def tw7842626626126153335:=0
def tw16813490113986866213:=0
def tw10058696644725703389:=0
def tw12054231967707394875:=0
def tw9091511301330909341:=0
def tw8505270567608071843:=0
def tw15971114158774737291:=0
def tw1980457218917502009:=0
def tw12065316757243832168:=0
def tw4938452525835564703:=0
def tw14187708542185430442:=0
def tw13340891728680184010:=0
def tw3184650464770288035:=0
def tw16983843449266296624:=0
def tw1593261510279631533:=0
def tw12985907847253580141:=0
def tw17362328472220996597:=0
def tw9957581164845660088:=0
def tw17766683548656287899:=0
def tw1211297079459675788:=0
def tw16493238529305847153:=0
def tw4723028875007179723:=0
def tw6528394999794961437:=0
def tw6342582718315095963:=0
def tw1398121547925999310:=0
def tw3936775670175379249:=0
def tw17334460150540509480:=0
def tw959856693900619792:=0
def tw15145339370688421848:=0
def tw10629557718150662725:=0
def tw309387696957649166:=0
def tw1194886317358602765:=0
def tw4542682798735136692:=0
def tw6107576050533468615:=0
def tw5077551783185998668:=0
def tw16577087654447410878:=0
def tw17685516879485023836:=0
def tw2999129680363991256:=0
def tw2395446061690324418:=0
def tw5755442699144607515:=0
def tw16015433950383334452:=0
def tw16808723758600352465:=0
def tw13501576330275426796:=0
def tw12485092878158488794:=0
def tw18213922193079636988:=0
def tw7381833624114320776:=0
def tw9842560012002786087:=0
def tw17326219678909598149:=0
def tw10800915724577598086:=0
def tw2604522609328479825:=0
def tw6476346449009480802:=0
def tw12890137463730723633:=0
def tw7198522561942690423:=0
def tw398769468142178275:=0
def tw14507343928241172270:=0
def tw16873194445824546821:=0
def tw18285380763300399015:=0
def tw2889243252134201119:=0
def tw10473027488792071251:=0
def tw16092562506496076241:=0
def tw5547835377474362947:=0
def tw16771511547784048481:=0
def tw4906397956538376604:=0
def tw8511729751948008501:=0
def tw10022813902277918700:=0
def tw4943710897967908997:=0
def tw2370147859318726162:=0
def tw117708386365919340:=0
def tw14842556406639805561:=0
def tw5299376896056497895:=0
def tw18258315058885136523:=0
def tw10620863811654451816:=0
def tw8151281445982287187:=0
def tw16801563112190007728:=0
def tw6484333374097200729:=0
def tw14111434510640944109:=0
def tw1213605942837934641:=0
def tw7389522543128406996:=0
def tw4523400478170685230:=0
def tw6033686727660490839:=0
def tw17379269864112954153:=0
def tw16041856546547589476:=0
def tw3074624621629427790:=0
def tw10316140074128547107:=0
def tw616063417275484069:=0
def tw16761125709377000090:=0
def tw11137568593098240156:=0
def tw9551249122567826309:=0
def tw11018272891034133085:=0
def tw4247615574514551744:=0
def tw9662268890264548460:=0
def tw261803889358394350:=0
def tw7905690272790881805:=0
def tw16156234331365870470:=0
def tw16560757670788932550:=0
def tw2239827649857456353:=0
def tw2549845141164794638:=0
def tw1637210755979685171:=0
def tw5948095158737682754:=0
def tw10299202080410152626:=0
def tw15443071188228074448:=0
def tw18025163138693365466:=0
def tw14924470673295142055:=0
def tw2853517240539273920:=0
def tw2907141530696228428:=0
def tw5987697922897403418:=0
def tw16522401678109872464:=0
def tw6199615161310298085:=0
def tw8251222830660644724:=0
def tw6289190163870479717:=0
def tw15929196316064007027:=0
def tw3813280624151669074:=0
def tw8485334673016710809:=0
def tw945712264982441518:=0
def tw11216165290909620178:=0
def tw13453603822807973483:=0
def tw7825890984722062173:=0
def tw7819901718367132344:=0
def tw8954167167586779559:=0
def tw367853614935692213:=0
def tw1676445450724811751:=0
def tw8135639419017493562:=0
def tw2073683624789028777:=0
def tw9249967202157110494:=0
def tw12519975241747594693:=0
def tw14473987376058090992:=0
def tw178779107474855672:=0
def tw3151102154151307082:=0
def tw15660554906245910397:=0
def tw5314769099309334085:=0
def tw16998176301575844108:=0
def tw6719116534611423510:=0
def tw9122013633722656532:=0
end PySem.W.Fast
open PySem PySem.W PyProof.Rows
def W7.all_mk2{l w K h mg fa fl x0 x1 x2 x3 x4 x5 x6 x7 x8 x9 xa xb xc xd xe xf xg xh xi xj xk xl xm xn xo xp xq xr xs xt xu xv xw xx xy xz y0 y1 y2 y3 y4 y5 y6 y7 y8 y9 ya yb yc yd ye yf yg yh yi yj yk yl ym yn yo yp yq yr ys yt yu yv yw yx yy yz z0 z1 z2 z3 z4 z5 z6 z7 z8 z9 za zb zc zd ze zf zg zh zi zj zk zl zm zn zo zp zq zr zs zt zu zv zw zx zy zz u0 u1 u2 u3 u4 u5 u6 u7 u8 u9 ua ub uc ud ue uf ug uh ui}:=@W7.all_mk l w K h mg fa fl ⟨x0,x1,x2,x3,x4,x5,x6,x7,x8⟩ ⟨x9,xa,xb,xc,xd,xe,xf,xg,xh,xi,xj,xk,xl,xm,xn,xo,xp,xq,xr,xs,xt,xu,xv,xw,xx,xy,xz,y0,y1,y2,y3,y4,y5,y6,y7,y8,y9,ya,yb,yc,yd,ye,yf,yg,yh,yi,yj,yk,yl,ym,yn,yo,yp,yq,yr,ys,yt,yu,yv,yw,yx,yy,yz,z0,z1,z2,z3,z4,z5,z6,z7,z8,z9,za,zb,zc,zd,ze,zf,zg,zh,zi,zj,zk,zl,zm,zn,zo,zp,zq,zr,zs,zt,zu,zv,zw,zx,zy,zz,u0,u1,u2,u3,u4,u5,u6,u7,u8,u9,ua,ub,uc,ud,ue,uf,ug,uh,ui⟩
set_option maxRecDepth 100000 in
set_option maxHeartbeats 0 in
theorem PySem.Challenge.cw_greywalk_k41_rows_of_undoing_holds : PySem.Challenge.rw_greywalk_k41_rows_of_undoing.Holds := by
 w_on;o_law;k_head;(case hw=>w_witness2)
 k_fill
 refine W7.walk (l:=PySem.Challenge.rw_greywalk_k41_rows_of_undoing) rfl rfl (fun w h Y=>PySem.W.kIn_of Y) ?F
 case F=>
  intro w mg fa h KX G hmg
  refine' W7.all_mk2 KX G hmg ⟨?d0,?d1,?d2,?d3,?d4,?d5,?d6,?d7,?d8,?d9,?d10,?d11,?d12,?d13,?d14,?d15,?d16,?d17,?d18,?d19,?d20,?d21,?d22,?d23,?d24,?d25,?d26,?d27,?d28,?d29,?d30,?d31,?d32,?d33,?d34,?d35,?d36,?d37,?d38,?d39,?d40,?d41,?d42,?d43,?d44,?d45,?d46,?d47,?d48,?d49,?d50,?d51,?d52,?d53,?d54,?d55,?d56,?d57,?d58,?d59,?d60,?d61,?d62,?d63,?d64,?d65,?d66,?d67,?d68,?d69,?d70,?d71,?d72,?d73,?d74,?d75,?d76,?d77,?d78,?d79,?d80,?d81,?d82,?d83,?d84,?d85,?d86,?d87,?d88,?d89,?d90,?d91,?d92,?d93,?d94,?d95,?d96,?d97,?d98,?d99,?ZE3,?ZE1,?ZE0,?ZDz,?ZDy,?ZDx,?ZDw,?ZDv,?ZDu,?ZDt,?ZDs,?ZDr,?ZDq,?ZDp,?ZDo,?ZDn,?ZDm,?ZDl,?ZDk,?ZDj,?ZDi,?ZDh,?ZDg,?ZDf,?ZDe,?ZDd,?ZDc,?ZDb,?ZDa,?ZD9,?ZD8,?ZD7,?ZD6,?ZD5,?ZD4,?ZD3,?ZD2,?ZD1,?ZD0,?ZCz,?ZCy,?ZCx,?ZCw,?ZCv,?ZCu,?ZCt,?ZCs,?ZCr,?ZCq,?ZCp,?ZCo,?ZCn,?ZCm,?ZCl,?ZCk,?ZCj,?ZCi,?ZCh,?ZCg,?ZCf,?ZCe,?ZCd,?ZCc,?ZCb,?ZCa,?ZC9,?ZC8,?ZC7,?ZC6,?ZC5,?ZC4,?ZC3,?ZC2,?ZC1,?ZC0,?ZBz,?ZBy,?ZBx,?ZBw,?ZBv,?ZBu,?ZBt,?ZBs,?ZBr,?ZBq,?ZBp,?ZBo,?ZBn,?ZBm,?ZBl,?ZBk,?ZBj,?ZBi,?ZBh,?ZBg,?ZBf,?ZBe⟩ ?h0 ?h1 ?h2 ?h3 ?h4 ?h5 ?h6 ?h7 ?h8 ?h9 ?h10 ?h11 ?h12 ?h13 ?h14 ?h15 ?h16 ?h17 ?h18 ?h19 ?h20 ?h21 ?h22 ?h23 ?h24 ?h25 ?h26 ?h27 ?h28 ?h29 ?h30 ?h31 ?h32 ?h33 ?h34 ?h35 ?h36 ?h37 ?h38 ?h39 ?h40 ?h41 ?h42 ?h43 ?h44 ?h45 ?h46 ?h47 ?h48 ?h49 ?h50 ?h51 ?h52 ?h53 ?h54 ?h55 ?h56 ?h57 ?h58 ?h59
  case d0 | d1 | d2 | d3 | d4 | d5 | d6 | d7 | d8 | d9 | d10 | d11 | d12 | d13 | d14 | d15 | d16=>(show _=_;(try dsimp only)<;>k_is)
  case d17=>(refine' W7.fam ?a ?l ?c ?k;case a | l | c | k=>(show _=_;(try dsimp only)<;>k_is))
  case d18 | d19 | d20 | d21 | d22 | d23 | d24 | d25 | d26 | d27 | d28 | d29 | d30 | d31 | d32 | d33 | d34 | d35 | d36 | d37 | d38 | d39 | d40=>(refine' W7.mtm ?a ?i ?l ?c ?k;case a | i | l | c | k=>(show _=_;(try dsimp only)<;>k_is))
  case d41 | d42=>(refine' W7.fam ?a ?l ?c ?k;case a | l | c | k=>(show _=_;(try dsimp only)<;>k_is))
  case d43 | d44 | d45=>(refine' W7.mtm ?a ?i ?l ?c ?k;case a | i | l | c | k=>(show _=_;(try dsimp only)<;>k_is))
  case d46 | d47 | d48 | d49 | d50 | d51 | d52 | d53 | d54 | d55 | d56 | d57 | d58 | d59 | d60 | d61 | d62 | d63 | d64 | d65 | d66 | d67 | d68 | d69 | d70 | d71 | d72 | d73 | d74=>(refine' W7.fam ?a ?l ?c ?k;case a | l | c | k=>(show _=_;(try dsimp only)<;>k_is))
  case d75=>(refine' W7.mtm ?a ?i ?l ?c ?k;case a | i | l | c | k=>(show _=_;(try dsimp only)<;>k_is))
  case d76 | d77 | d78 | d79 | d80 | d81 | d82 | d83 | d84 | d85 | d86 | d87 | d88 | d89 | d90 | d91 | d92 | d93 | d94 | d95 | d96 | d97 | d98 | d99 | ZE3 | ZE1 | ZE0 | ZDz | ZDy | ZDx | ZDw | ZDv | ZDu | ZDt | ZDs | ZDr | ZDq | ZDp | ZDo | ZDn | ZDm | ZDl | ZDk | ZDj | ZDi | ZDh | ZDg | ZDf | ZDe | ZDd=>(refine' W7.fam ?a ?l ?c ?k;case a | l | c | k=>(show _=_;(try dsimp only)<;>k_is))
  case ZDc=>(refine' W7.cam ?a ?b ?c ?d ?e ?f;case a | b | c | d | e | f=>(show _=_;(try dsimp only)<;>k_is))
  case ZDb=>(show _=_;(try dsimp only)<;>k_is)
  case ZDa=>(refine' W7.cam ?a ?b ?c ?d ?e ?f;case a | b | c | d | e | f=>(show _=_;(try dsimp only)<;>k_is))
  case ZD9=>(show _=_;(try dsimp only)<;>k_is)
  case ZD8=>(refine' W7.cam ?a ?b ?c ?d ?e ?f;case a | b | c | d | e | f=>(show _=_;(try dsimp only)<;>k_is))
  case ZD7=>(show _=_;(try dsimp only)<;>k_is)
  case ZD6=>(refine' W7.cam ?a ?b ?c ?d ?e ?f;case a | b | c | d | e | f=>(show _=_;(try dsimp only)<;>k_is))
  case ZD5 | ZD4=>(show _=_;(try dsimp only)<;>k_is)
  case ZD3=>(refine' W7.cam ?a ?b ?c ?d ?e ?f;case a | b | c | d | e | f=>(show _=_;(try dsimp only)<;>k_is))
  case ZD2 | ZD1 | ZD0 | ZCz | ZCy=>(show _=_;(try dsimp only)<;>k_is)
  case ZCx=>(refine' W7.cam ?a ?b ?c ?d ?e ?f;case a | b | c | d | e | f=>(show _=_;(try dsimp only)<;>k_is))
  case ZCw | ZCv | ZCu | ZCt=>(show _=_;(try dsimp only)<;>k_is)
  case ZCs=>(refine' W7.cam ?a ?b ?c ?d ?e ?f;case a | b | c | d | e | f=>(show _=_;(try dsimp only)<;>k_is))
  case ZCr | ZCq=>(show _=_;(try dsimp only)<;>k_is)
  case ZCp=>(refine' W7.cam ?a ?b ?c ?d ?e ?f;case a | b | c | d | e | f=>(show _=_;(try dsimp only)<;>k_is))
  case ZCo | ZCn | ZCm | ZCl | ZCk | ZCj | ZCi | ZCh | ZCg | ZCf | ZCe=>(show _=_;(try dsimp only)<;>k_is)
  case ZCd=>(refine' W7.cam ?a ?b ?c ?d ?e ?f;case a | b | c | d | e | f=>(show _=_;(try dsimp only)<;>k_is))
  case ZCc | ZCb | ZCa | ZC9 | ZC8=>(show _=_;(try dsimp only)<;>k_is)
  case ZC7=>(refine' W7.cam ?a ?b ?c ?d ?e ?f;case a | b | c | d | e | f=>(show _=_;(try dsimp only)<;>k_is))
  case ZC6 | ZC5 | ZC4 | ZC3=>(show _=_;(try dsimp only)<;>k_is)
  case ZC2 | ZC1 | ZC0 | ZBz | ZBy=>((try dsimp only)<;>k_exc)
  case ZBx | ZBw | ZBv | ZBu | ZBt | ZBs | ZBr | ZBq | ZBp | ZBo | ZBn | ZBm | ZBl | ZBk | ZBj=>((try dsimp only)<;>kts_exm)
  case ZBi | ZBh | ZBg | ZBf | ZBe=>(refine' W7.exm ?a ?b ?c ?d ?e ?f;case a | b | c | d | e | f=>(show _=_;(try dsimp only)<;>k_is))
  case h0 | h1 | h2 | h3=>(show _=_;(try dsimp only)<;>k_is)
  case h4 | h5=>first | exact rfl | exact ⟨_,rfl⟩
  case h6 | h7 | h8 | h9 | h10 | h11 | h12 | h13=>(show _=_;(try dsimp only)<;>k_is)
  case h14 | h15 | h16 | h17 | h18 | h19 | h20 | h21 | h22 | h23=>exact rfl
  case h24 | h25=>(show _=_;(try dsimp only)<;>k_is)
  case h26 | h27 | h28 | h29=>exact rfl
  case h30 | h31 | h32 | h33 | h34 | h35 | h36 | h37 | h38 | h39 | h40 | h41 | h42 | h43 | h44 | h45 | h46 | h47=>(show _=_;(try dsimp only)<;>k_is)
  case h48=>first | exact rfl | exact ⟨_,rfl⟩
  case h49=>(show _=_;(try dsimp only)<;>k_is)
  case h50=>first | exact rfl | exact ⟨_,rfl⟩
  case h51=>(show _=_;(try dsimp only)<;>k_is)
  case h52=>first | exact rfl | exact ⟨_,rfl⟩
  case h53 | h54 | h55 | h56 | h57 | h58 | h59=>((try dsimp only)<;>kit_is)
#print axioms PySem.Challenge.cw_greywalk_k41_rows_of_undoing_holds
