import PyProof.Rows.All
import Lean
import KE.KTryMore
import KE.KItemsList
import KE.KItem
import KE.RegKTryMore
import KE.KDictList
import KE.KEqDict
import KE.KIsBytes
import KE.KDictOf
import PySem.Challenge.RW_greywalk_k45_whole_given_back
set_option Elab.async false
set_option linter.all false
set_option compiler.extract_closed false
set_option genSizeOf false
set_option maxRecDepth 100000
set_option hygiene false
local macro_rules|`(γ)=>`(by decide +kernel)
local macro_rules|`(δ)=>`(by omega)
local macro_rules|`(ε)=>`(by decide)
local macro_rules|`(ζ)=>`(by simp)
local macro_rules|`(η)=>`(by rfl)
local macro_rules|`(↑$x)=>`(some (.ref $x))
local macro_rules|`(ι $x*)=>`(Hh P w K mg base $x*)
local macro_rules|`(ν)=>`(St->Hp->Prop)
local macro_rules|`(ξ)=>`(⟨n,Q,bk,ct⟩)
local macro_rules|`(ο)=>`(rI (λ_ j=>0<j) λi j=>.int (i % j))
local macro_rules|`(π)=>`(aj 0)
local macro_rules|`(ρ)=>`(pv 0)
local macro_rules|`(ς)=>`(model X.prog X.w)
local macro_rules|`(τ)=>`(dF aR (pv 1) (az))
local macro_rules|`(υ)=>`(Nat.le_refl _)
local macro_rules|`(χ)=>`(aj 1)
local macro_rules|`(ψ)=>`(tC (.int 1))
local macro_rules|`(ω)=>`(tC (.int 0))
local macro_rules|`(Γ)=>`(Q3 AD.cR AD.bh AD.bH AD.bU)
local macro_rules|`(Δ)=>`(λ_=>?_)
local macro_rules|`(Θ)=>`(kj λi j=>.int (i+j))
local macro_rules|`(Ξ)=>`(aK ρ rfl)
local macro_rules|`(Φ)=>`(dF aR ρ (az))
local macro_rules|`(Ψ)=>`(pv 1)
local macro_rules|`(Ω)=>`(aj 2)
local macro_rules|`(ac)=>`(pv 2)
local macro_rules|`(ad)=>`(rowsOf M)
local macro_rules|`(ae)=>`(s.heap.objs.size+1)
local macro_rules|`(af)=>`(bQ se ph gr lo d at_ st b a e c)
local macro_rules|`(ag)=>`(rI yM λi j=>.int (i / j))
local macro_rules|`(ah)=>`(hr.mono ε)
local macro_rules|`(ai)=>`(model prog w)
local macro_rules|`(am)=>`(cB K)
local macro_rules|`(ap)=>`(tC (.int 3))
local macro_rules|`(ar)=>`(λz=>nomatch z)
local macro_rules|`(av)=>`(by repeat (first | exact trivial | refine⟨rfl,?_⟩))
local macro_rules|`(ax)=>`(fu (eG T) hr T.mo T.eU (aa ρ (aa (az) (aa (az) au))))
local macro_rules|`(ay)=>`(bR G.cA η T.gC G.boot_len (aa Ξ au))
local macro_rules|`(aE)=>`(tC (.int 2))
local macro_rules|`(aI)=>`(aj 3)
local macro_rules|`(aS)=>`(pv 3)
local macro_rules|`(aT)=>`(kj λi j=>.bl (decide (i<j)))
local macro_rules|`(a7)=>`(show ¬ ("rest":Str)="walk" by decide)
local macro_rules|`(a8)=>`(λz=>by cases z)
local macro_rules|`(a9)=>`(sk3 or c ε (sk4 or c ε (sk5 or c ε (sk6 or c ε (sk7 or c ε (mq o δ rc λA B=>q A T (B.mono δ)))))))
local macro_rules|`(ba)=>`(bA K π "sweeper")
local macro_rules|`(bb)=>`(bQ (fW M).sw.sense "lost" A.gr (fW M).sw.looked (fW M).sw.turn (fW M).sw.at' (fW M).sw.stop (fW M).sw.walks (fW M).sw.looks (fW M).sw.passes (.ref a))
local macro_rules|`(bc)=>`(rI zm λi j=>.int (i * j))
local macro_rules|`(bd)=>`(ph.symm.trans z)
local macro_rules|`(be)=>`(bA K π "heap")
local macro_rules|`(bf)=>`(bL "heap" (.ref hq) [])
local macro_rules|`(bg)=>`(bL "names" (.ref nm) (bL "hands" (.ref d) u))
local macro_rules|`(bi)=>`(bI M)
local macro_rules|`(bj)=>`(pick σ)
local macro_rules|`(bo)=>`(show false=true from hs)
local macro_rules|`(bp)=>`(tC .non)
local macro_rules|`(br)=>`(i+1)
local macro_rules|`(bt)=>`(bQ S.sense S.phase A.gr S.looked S.turn S.at' S.stop S.walks S.looks S.passes S.loss)
local macro_rules|`(bv)=>`(upd (upd H l (.lst [])) A.sw (.ins X.S dx (bQ S.sense S.phase l S.looked S.turn S.at' S.stop S.walks S.looks S.passes S.loss)))
local macro_rules|`(bx)=>`(upd H A.nm (.dK (putK (wO M.names A.ns) (Sum.inr z) (.ref t))))
local macro_rules|`(bE)=>`(dN M d)
local macro_rules|`(bN)=>`(codeAny_handlers_test (fZ (X:=Lq X (.ref b) (X.pn++a)) (lA g (.ref b)) r x ?_ p))
local macro_rules|`(bP)=>`(bQ (1 - M.sw.sense) "walk" gr M.sw.looked (M.sw.turn+1) M.sw.at' M.sw.stop M.sw.walks M.sw.looks M.sw.passes M.sw.loss)
local macro_rules|`(bS)=>`(jL birth bulk tone load fa)
local macro_rules|`(bX)=>`(gU (G.qH (jF ac T.uD.c T.pR (dX T).g ah (dX (P:=P) (base:=base) T).b .nil G.dG) (G.qH (jF ac T.yU.c T.rP (dX T).g ah (dX (P:=P) (base:=base) T).b .nil G.dG) (jF ac T.yS.c T.rO.m (mZ T).g ah (mZ (P:=P) (base:=base) T).b .nil G.dG))))
local macro_rules|`(b7)=>`(Nat.lt_of_lt_of_le (Heap.lt_size e) I.ok.above)
local macro_rules|`(b8)=>`(Or.inl rfl)
local macro_rules|`(b9)=>`(ak (pH (G.gQ K) (ak (bA K π "hands") aG)) aG)
local macro_rules|`(cb)=>`(W.instObj C s.heap.objs.size)
local macro_rules|`(cc)=>`(iV room ca used born)
local macro_rules|`(cf)=>`(ts.map V.ref)
local macro_rules|`(ci)=>`(ak aI aG)
local macro_rules|`(ck)=>`(aa aS au)
local macro_rules|`(cm)=>`(Key×V)
local macro_rules|`(cn)=>`(λv t=>cN t v.1 v.2)
local macro_rules|`(cr)=>`(ak χ aG)
local macro_rules|`(cv)=>`(aa Ψ au)
local macro_rules|`(cw)=>`(aW dj (aW iz ρ (az)) (az))
local macro_rules|`(cx)=>`(aZ am χ ψ)
local macro_rules|`(cy)=>`(Str×(Int×Int))
local macro_rules|`(cE)=>`(bz (tC (.bl false)))
local macro_rules|`(cM)=>`(dI I q ζ)
local macro_rules|`(cT)=>`(gP M.w M.hands.length)
local macro_rules|`(c0)=>`(aK Ξ rfl)
local macro_rules|`(c6)=>`(λy=>absurd rfl y)
local macro_rules|`(c9)=>`(rI QZ λi j=>.int (i ^ j.toNat))
local macro_rules|`(da)=>`(λea pn=>(aB (aH (G.Dn (uQ T) hr (T.mo T.um.a) (aa (aV) au)))))
local macro_rules|`(db)=>`(bR G.cA η T.gC G.boot_len (aa ρ au))
local macro_rules|`(de)=>`(EP X pins σ Q)
local macro_rules|`(df)=>`(Int->Prop)
local macro_rules|`(dn)=>`(mq o2 δ rc λA B=>q A T (B.mono δ))
local macro_rules|`(dr)=>`(List.mem_append_right _ (List.mem_append_right _ (pQ hb e)))
local macro_rules|`(dt)=>`(aj 4)
local macro_rules|`(dv)=>`(ak π aG)
local macro_rules|`(dy)=>`(pv 4)
local macro_rules|`(dA)=>`(kj λi j=>.int (Builtin.bitAnd i j))
local macro_rules|`(dB)=>`(λz=>?_)
local macro_rules|`(dC)=>`(k+1)
local macro_rules|`(dE)=>`(ak Ω aG)
local macro_rules|`(dL)=>`(Int×AE)
local macro_rules|`(dP)=>`(aa ac au)
local macro_rules|`(dQ)=>`(A.cs.map pV)
local macro_rules|`(dS)=>`(λcdv A outer s H vs Q E hr h=>?_)
local macro_rules|`(ec)=>`((List.replicate i.toNat (none:AA)).map oV)
local macro_rules|`(ee)=>`(upd H a o)
local macro_rules|`(eg)=>`(by intro z;cases z)
local macro_rules|`(eh)=>`(codeAny_handlers_test (fZ (X:=Lq X (.ref b) (X.pn++a)) (lA g (.ref b)) A C ?_ L))
local macro_rules|`(ei)=>`(aj 5)
local macro_rules|`(el)=>`(aB (aH (lD)))
local macro_rules|`(en)=>`(pv 5)
local macro_rules|`(eo)=>`(aF st)
local macro_rules|`(eu)=>`(kj λi j=>.int (i - j))
local macro_rules|`(ez)=>`(setSlot M h s (some w))
local macro_rules|`(eA)=>`(starEach es X.env)
local macro_rules|`(eB)=>`(bA K π "cells")
local macro_rules|`(eC)=>`(show ¬ ("give":Str)="lost" by decide)
local macro_rules|`(eD)=>`(show ¬ ("give":Str)="walk" by decide)
local macro_rules|`(eE)=>`(aK Ψ rfl)
local macro_rules|`(eF)=>`(Nat.ne_of_lt (Nat.lt_of_lt_of_le (Heap.lt_size e) (I.ok.cab x c D hc)))
local macro_rules|`(eH)=>`(iQ K)
local macro_rules|`(eI)=>`(λ_=>False)
local macro_rules|`(eJ)=>`(bJ ρ (az) rfl)
local macro_rules|`(eK)=>`(rI (λ_ j=>0<=j) λi j=>.int (i / 2 ^ j.toNat))
local macro_rules|`(eL)=>`(A.deeper (envOfC qual eo s.heap.objs.size f a))
local macro_rules|`(eM)=>`(λz=>h0 (congrArg Prod.fst z).symm)
local macro_rules|`(eP)=>`(upd H l (.lst []))
local macro_rules|`(eQ)=>`(λ_=>True)
local macro_rules|`(eS)=>`(some (.builtin "object.__init__"))
local macro_rules|`(eT)=>`(tC (.int 4))
local macro_rules|`(eW)=>`(aZ am π ω)
local macro_rules|`(fc)=>`(eV (i:=3) sc.nd rfl b8)
local macro_rules|`(fe)=>`(fH (i pos a s g H _ I h) λus l ⟨j,H1,I1,r,q⟩=>⟨I1.qg,?_⟩)
local macro_rules|`(fg)=>`(j8 dW Φ (aV))
local macro_rules|`(fh)=>`(by simpa using e)
local macro_rules|`(fi)=>`(d.getD rs.length)
local macro_rules|`(fk)=>`(aa ρ au)
local macro_rules|`(fq)=>`(nomatch z)
local macro_rules|`(ft)=>`(G.gQ K)
local macro_rules|`(fv)=>`(λ_=>ε)
abbrev Ap:=PySem.Value->PySem.Shared->Prop
abbrev As:=PySem.Str->Option PySem.Value
abbrev At:=List (PySem.Addr×PySem.Obj)
abbrev Au:=List (Option Int)
abbrev AA:=Option Int
abbrev AB:=Option PySem.Value
abbrev AC:=List PySem.Value
abbrev AE:=List Int
abbrev AF:=List PySem.Addr
abbrev AG:=List PySem.Expr
abbrev AH:=List PySem.Str
abbrev AI:=PySem.Addr
abbrev AJ:=PySem.Value
abbrev AK:=PySem.Shared
abbrev AL:=PySem.FuncData
abbrev AM:=PySem.Program
abbrev AN:=PySem.Expr
abbrev AO:=PySem.World
abbrev aC:=PySem.W.Frag
theorem bD{a:Type}{l:List a}{i:Nat}(h:i<l.length):l[i]? =some l[i]:=List.getElem?_eq_getElem h
theorem cG{b:Type}{l:List b}{i:Nat}{a:b}(h:l[i]? =some a):∃h:i<l.length,l[i]=a:=List.getElem?_eq_some_iff.mp h
theorem cg{a b:Type}{f:a->b}{l:List a}{i:Nat}:(l.map f)[i]? =l[i]?.map f:=List.getElem?_map
theorem aY{a b:Type}{l:List a}(f:a->b):(l.map f).length=l.length:=List.length_map f
namespace L2
open PySem PySem.Spec PyProof.Rows
abbrev Key:=Sum Int Str
def En:Key->AJ->Bool
 | .inl k,v=>Value.isInt k v
 | .inr x,v=>Value.isStrOf x v
def Ztx(w:AO):Key->Int
 | .inl k=>hashInt k
 | .inr x=>hashStr w x
theorem dH:∀{k:Key}{v:AJ},En k v=true->(∃i t,k=Sum.inl i/\v=Value.int i t)\/(∃x t,k=Sum.inr x/\v=Value.str x t)
 | .inl i,v,h=>by
  obtain⟨t,e⟩:=Value.isInt_shape (k:=i) (v:=v) h;exact .inl ⟨i,t,rfl,e⟩
 | .inr x,v,h=>by
  obtain⟨t,e⟩:=Value.isStrOf_shape (x:=x) (v:=v) h;exact .inr ⟨x,t,rfl,e⟩
theorem Zhg(i:Int)(t:Tok):En (.inl i) (.int i t)=true:=by simp[En,Value.isInt]
theorem Zhf(x:Str)(t:Tok):En (.inr x) (.str x t)=true:=by simp[En,Value.isStrOf]
theorem Zrt(a b:Int):decide ((Sum.inl a:Key)=Sum.inl b)=(a == b):=by
 by_cases e:a=b
 ·subst e;simp
 ·have h:¬ (Sum.inl a:Key)=Sum.inl b:=λq=>e (Sum.inl.inj q);rw[decide_eq_false h];exact(beq_eq_false_iff_ne.mpr e).symm
theorem Zrq(a b:Str):decide ((Sum.inr a:Key)=Sum.inr b)=decide (a=b):=by
 by_cases e:a=b
 ·subst e;simp
 ·have h:¬ (Sum.inr a:Key)=Sum.inr b:=λq=>e (Sum.inr.inj q);rw[decide_eq_false h,decide_eq_false e]
theorem Zrs(a:Int)(b:Str):decide ((Sum.inl a:Key)=Sum.inr b)=false:=decide_eq_false (λq=>nomatch q)
theorem Zrr(a:Str)(b:Int):decide ((Sum.inr a:Key)=Sum.inl b)=false:=decide_eq_false (λq=>nomatch q)
def cU(prog:AM)(w:AO):PySem.KeyKind prog w Key where
  is:=En
  hash:=Ztx w
  inj:=λv a b d hb=>by
    rcases dH d with ⟨i,t,rfl,rfl⟩ | ⟨x,t,rfl,rfl⟩
    · rcases dH hb with ⟨j,u,rfl,e⟩ | ⟨y,u,rfl,e⟩
      · injection e with c _;rw[c]
      · exact nomatch e
    · rcases dH hb with ⟨j,u,rfl,e⟩ | ⟨y,u,rfl,e⟩
      · exact nomatch e
      · injection e with c _;rw[c]
  byValue:=λk v h=>by
    rcases dH h with ⟨i,t,rfl,rfl⟩ | ⟨x,t,rfl,rfl⟩<;>rfl
  pyHash:=λhv h=>by
    rcases dH hv with ⟨i,t,rfl,rfl⟩ | ⟨x,t,rfl,rfl⟩
    · exact wpAny_pyHash_int h
    · exact wpAny_pyHash_str h
  eqBool:=λhu hv h=>by
    rcases dH hu with ⟨i,t,rfl,rfl⟩ | ⟨x,t,rfl,rfl⟩
    · rcases dH hv with ⟨j,u,rfl,rfl⟩ | ⟨y,u,rfl,rfl⟩
      · rw[Zrt]at h;exact wpAny_eqBool_int h
      · rw[Zrs]at h;exact SeqAt.EqAt.int_str i t y u _ _ _ _ h
    · rcases dH hv with ⟨j,u,rfl,rfl⟩ | ⟨y,u,rfl,rfl⟩
      · rw[Zrr]at h;exact SeqAt.EqAt.str_int x t j u _ _ _ _ h
      · rw[Zrq]at h;exact wpAny_eqBool_str h
  «strs»:=λk x t v h=>by
    rcases dH h with ⟨i,u,rfl,e⟩ | ⟨y,u,rfl,e⟩
    · exact nomatch e
    · injection e with c _
      subst c;cases v<;>rfl
theorem Za2(prog:AM)(w:AO)(i:Int)(t:Tok):(cU prog w).is (.inl i) (.int i t)=true:=Zhg i t
theorem Za1(prog:AM)(w:AO)(x:Str)(t:Tok):(cU prog w).is (.inr x) (.str x t)=true:=Zhf x t
inductive V where
 | non | bl (b:Bool) | int (i:Int) | str (x:Str) | byt (b:Array UInt8) | flt (b:UInt64) | ref (a:AI) | ty (n:String)
 deriving DecidableEq
def RelV:V->AJ->Prop
 | .non,u=>u=Value.none
 | .bl b,u=>u=Value.bool b
 | .int i,u=>∃t,u=Value.int i t
 | .str x,u=>∃t,u=Value.str x t
 | .byt b,u=>∃t,u=Value.bytes b t
 | .flt b,u=>∃t,u=Value.float b t
 | .ref a,u=>u=Value.ref a
 | .ty n,u=>u=Value.type n
abbrev Vals:List V->AC->Prop:=Paired RelV
theorem Vals.length{xs:List V}{us:AC}(r:Vals xs us):xs.length=us.length:=Paired.length r
theorem Vals.get:∀{xs:List V}{us:AC}{i:Nat}{x:V},Vals xs us->xs[i]? =some x->∃u,us[i]? =some u/\RelV x u
 | _,_,_,_,.nil,e=>by simp at e
 | _,_,0,_,.cons r _,e=>by simp at e;subst e;exact⟨_,rfl,r⟩
 | _,_,i+1,x,.cons _ t,e=>by
  obtain⟨u,h1,h2⟩:=Vals.get (i:=i) (x:=x) t fh;exact⟨u,by simpa using h1,h2⟩
theorem Vals.set{x:V}{u:AJ}(r:RelV x u):∀{xs:List V}{us:AC} (i:Nat),Vals xs us->Vals (xs.set i x) (us.set i u)
 | _,_,_,.nil=>.nil
 | _,_,0,.cons _ t=>.cons r t
 | _,_,i+1,.cons q t=>.cons q (Vals.set r i t)
theorem Vals.append{xs b:List V}{us a:AC}(h:Vals xs us)(s:Vals b a):Vals (xs++b) (us++a):=by
 induction h with
 | nil=>exact s
 | cons r t c=>exact .cons r c
theorem Vals.take:∀{xs:List V}{us:AC} (n:Nat),Vals xs us->Vals (xs.take n) (us.take n)
 | _,_,0,_=>.nil
 | _,_,_+1,.nil=>.nil
 | _,_,n+1,.cons r t=>.cons r (Vals.take n t)
theorem Vals.drop:∀{xs:List V}{us:AC} (n:Nat),Vals xs us->Vals (xs.drop n) (us.drop n)
 | _,_,0,r=>r
 | _,_,_+1,.nil=>.nil
 | _,_,n+1,.cons _ t=>Vals.drop n t
def yH:Option V->AB->Prop
 | some v,some u=>RelV v u
 | none,none=>True
 | _,_=>False
def KV{a:Type}:List (a×V)->List (a×AJ)->Prop:=Paired λ(p:a×V) (q:a×AJ)=>p.1=q.1/\RelV p.2 q.2
def kV:Key->V
 | .inl i=>.int i
 | .inr x=>.str x
inductive HO where
  | lst (xs:List V)
  | tup (xs:List V)
  | dK (kvs:List (Key×V)) | dT (kvs:List (List Key×V))
  | set (S:Int->Bool) (n:Nat)
  | ins (C dx:AI) (fs:List (Str×V))
  | own (x:AI)
  | xd (fs:List (Str×V))
  | met (f x:AI)
  | rng (lo hi:Int)
  | oX (o:Obj) (u:HO)
  | LK (ps:Array AJ)
  | ext (φ:Heap->Prop)
abbrev Hp:=AI->Option HO
def upd(H:Hp)(a:AI)(o:HO):Hp:=λb=>if b=a then some o else H b
theorem aq{H:Hp}{a:AI}{o:HO}:upd H a o a=some o:=by unfold upd;rw[if_pos rfl]
theorem aA{H:Hp}{a b:AI}{o:HO}(h:b≠a):upd H a o b=H b:=by unfold upd;rw[if_neg h]
theorem dz{H:Hp}{a:AI}{o u:HO}:upd ee a u=upd H a u:=by
 funext b;unfold upd;split<;>rfl
theorem lE{H:Hp}{a b:AI}{o u:HO}(h:H a=some o)(h':H b=some u)(d:o≠u):a≠b:=by
 intro e;subst e;rw[h]at h';exact d (Option.some.inj h')
theorem aD{H:Hp}{a b:AI}{o:HO}(h:H a=some o)(h':H b=none):a≠b:=by
 intro e;subst e;rw[h]at h';cases h'
section
variable (P:AM)(w:AO)
def gq(H:Hp)(h:Heap)(a:AI):HO->Prop
 | .lst xs=>xs.length<=sizeLine/\∃(b:AC) (n:Nat),Vals xs b/\h.get? a=some { cls:=.type "list",data:=.seq b.toArray n }
 | .tup xs=>xs.length<=sizeLine/\∃b:AC,Vals xs b/\IsTup h a b.toArray
 | .dK c=>c.length<=sizeLine/\(a == sysModules)=false/\∃vs,KV c vs/\h.DictOf (cU P w) a vs
 | .dT c=>c.length<=sizeLine/\(a == sysModules)=false/\∃xs:List (List Key×AI×AJ),
   Paired (λ(p:List Key×V) (q:List Key×AI×AJ)=>p.1=q.1/\H q.2.1=some (.tup (p.1.map kV))/\RelV p.2 q.2.2) c xs/\
   ∃o g i,h.get? a=some o/\o.ExactDict/\o.data=.dict g i/\g.toList=xs.map (entryOfKey (tupleKind (cU P w)))/\(xs.map (·.1)).Nodup
 | .set S n=>h.SetOf (intKind P w) a S n
 | .ins C dx fs=>H dx=some (.own a)/\fs.length<=1000/\dx≠a/\h.get? a=some (W.instObj C dx)/\
   ∃d,h.Ns1 dx d/\(∀f,yH (fs.lookup f) (d f))/\PySem.Within d (fs.map (·.1))
 | .own _=>∃o,h.get? a=some o
 | .xd fs=>∃d,h.Ns1 a d/\∀f,yH (fs.lookup f) (d f)
 | .rng lo hi=>∃t u v,h.get? a=some { cls:=.type "range",data:=.fields #[.int lo t,.int hi u,.int 1 v] }
 | .oX o u=>h.get? a=some o/\gq H h a u
 | .LK ps=>h.get? a=some { cls:=.none,data:=.fields ps }
 | .met f x=>h.get? a=some (W.methodObj (.ref f) (.ref x))
 | .ext e=>e h/\(∃o,h.get? a=some o)/\∀h1 h2:Heap,e h1->(∀o,h1.get? a=some o->h2.get? a=some o)->e h2
def yJ(H:Hp)(h:Heap):Prop:=∀a o,H a=some o->gq P w H h a o
end
section
variable {P:AM}{w:AO}{H H':Hp}{h h':Heap}{a:AI}{o:HO}
theorem gq.lt(x:gq P w H h a o):a<h.objs.size:=by
 cases o with
 | lst c=>obtain⟨_,_,_,_,e⟩:=x;exact Heap.lt_size e
 | tup c=>obtain⟨_,_,_,p⟩:=x;exact p.lt
 | dK b=>obtain⟨_,_,_,_,o,_,_,e,_⟩:=x;exact Heap.lt_size e
 | dT b=>obtain⟨_,_,_,_,o,_,_,e,_⟩:=x;exact Heap.lt_size e
 | set S n=>obtain⟨o,_,_,_,e,_⟩:=x;exact Heap.lt_size e
 | ins C d fs=>obtain⟨_,_,_,e,_⟩:=x;exact Heap.lt_size e
 | own y=>obtain⟨_,e⟩:=x;exact Heap.lt_size e
 | xd fs=>obtain⟨_,⟨_,_,_,e,_⟩,_⟩:=x;exact Heap.lt_size e
 | rng lo hi=>obtain⟨_,_,_,e⟩:=x;exact Heap.lt_size e
 | oX ob u=>obtain⟨e,_⟩:=x;exact Heap.lt_size e
 | LK g=>exact Heap.lt_size (show h.get? a=some _ from x)
 | met f y=>exact Heap.lt_size (show h.get? a=some _ from x)
 | ext i=>obtain⟨_,⟨_,e⟩,_⟩:=x;exact Heap.lt_size e
theorem Paired.Ztu{g e:Type}{F G:g->e->Prop}{d:List g}{c:List e}(h:Paired F d c)(f:∀a b,F a b->G a b):Paired G d c:=by
 induction h with
 | nil=>exact .nil
 | cons r t i=>exact .cons (f _ _ r) i
theorem gq.stay(x:gq P w H h a o)(k:∀b u,(b=a\/H b=some (.own a))->h.get? b=some u->h'.get? b=some u)
  (B:∀b,H b=some (.own a)->H' b=some (.own a)) (E:∀b xs,H b=some (.tup xs)->H' b=some (.tup xs)):gq P w H' h' a o:=by
 induction o with
 | lst xs=>obtain⟨z,j,n,r,e⟩:=x;exact⟨z,j,n,r,k _ _ (.inl rfl) e⟩
 | tup xs=>obtain⟨z,j,r,ob,e,c⟩:=x;exact⟨z,j,r,ob,k _ _ (.inl rfl) e,c⟩
 | dK m=>obtain⟨z,y,A,r,ob,g,i,e,c⟩:=x;exact⟨z,y,A,r,ob,g,i,k _ _ (.inl rfl) e,c⟩
 | dT m=>
  obtain⟨z,y,xs,r,ob,g,i,e,c⟩:=x;exact⟨z,y,xs,Paired.Ztu r λp q z=>⟨z.1,E _ _ z.2.1,z.2.2⟩,ob,g,i,k _ _ (.inl rfl) e,c⟩
 | set S n=>obtain⟨ob,g,i,t,e,c⟩:=x;exact⟨ob,g,i,t,k _ _ (.inl rfl) e,c⟩
 | ins C I fs=>
  obtain⟨d,z,ne,e,l,⟨od,g,i,D,c⟩,r⟩:=x;exact⟨B _ d,z,ne,k _ _ (.inl rfl) e,l,⟨od,g,i,k _ _ (.inr d) D,c⟩,r⟩
 | own y=>obtain⟨ob,e⟩:=x;exact⟨ob,k _ _ (.inl rfl) e⟩
 | xd fs=>obtain⟨l,⟨od,g,i,e,c⟩,r⟩:=x;exact⟨l,⟨od,g,i,k _ _ (.inl rfl) e,c⟩,r⟩
 | rng lo hi=>obtain⟨t,u,v,e⟩:=x;exact⟨t,u,v,k _ _ (.inl rfl) e⟩
 | oX ob u F=>obtain⟨e,q⟩:=x;exact⟨k _ _ (.inl rfl) e,F q⟩
 | LK s=>
  have e:h.get? a=some { cls:=.none,data:=.fields s }:=x;show h'.get? a=some { cls:=.none,data:=.fields s };exact k a _ (.inl rfl) e
 | met f y=>
  have e:h.get? a=some (W.methodObj (.ref f) (.ref y)):=x;show h'.get? a=some (W.methodObj (.ref f) (.ref y));exact k a _ (.inl rfl) e
 | ext J=>obtain⟨p,⟨o,e⟩,st⟩:=x;exact⟨st _ _ p λo q=>k _ _ (.inl rfl) q,⟨o,k _ _ (.inl rfl) e⟩,st⟩
theorem yJ.lt(x:yJ P w H h)(e:H a=some o):a<h.objs.size:=(x a o e).lt
theorem yJ.fresh(x:yJ P w H h)(e:h.objs.size<=a):H a=none:=by
 cases q:H a with
 | none=>rfl
 | some u=>exact absurd (Nat.lt_of_lt_of_le (x.lt q) e) (Nat.lt_irrefl _)
theorem yJ.kept(x:yJ P w H h)(k:∀b u,h.get? b=some u->h'.get? b=some u):yJ P w H h':=λa o e=>
 (x a o e).stay (λb u _ q=>k b u q) (λ_ q=>q) λ_ _ q=>q
theorem yJ.laid(x:yJ P w H h)(k:∀b u,h.get? b=some u->h'.get? b=some u)(hp:h.objs.size<=a)(new:gq P w ee h' a o):yJ P w ee h':=λb u e=>by
 have hn:=x.fresh hp
 by_cases hb:b=a
 ·subst hb;rw[aq]at e;cases e;exact new
 ·rw[aA hb]at e;exact(x b u e).stay (λc v _ q=>k c v q) (λc q=>by rw[aA (aD q hn)];exact q) λc xs q=>by rw[aA (aD q hn)];exact q
end
def Rd(H:Hp)(a:AI)(u:HO):Prop:=H a=some u\/∃o,H a=some (.oX o u)
theorem Rd.ok{P:AM}{w:AO}{H:Hp}{h:Heap}{a:AI}{u:HO}(r:Rd H a u)(x:yJ P w H h):gq P w H h a u:=by
 rcases r with r | ⟨o,r⟩
 ·exact x a u r
 ·obtain⟨_,q⟩:=x a _ r;exact q
def Mut:Option HO->Prop
 | some (.lst _)=>True
 | some (.dK _)=>True
 | some (.dT _)=>True
 | some (.set _ _)=>True
 | some (.ins _ _ _)=>True
 | some (.ext _)=>True
 | _=>False
section
variable {P:AM}{w:AO}{H:Hp}{h h':Heap}{x e:AI}{o':HO}
theorem yJ.write(ok:yJ P w H h)(f:Mut (H x))(l:e=x\/H e=some (.own x))(k:∀b u,b≠e->h.get? b=some u->h'.get? b=some u)(j:∃u,h'.get? e=some u)
  (new:gq P w (upd H x o') h' x o'):yJ P w (upd H x o') h':=λb u q=>by
 have d:∀c y,H c=some (.own y)->c≠x:=λc y r z=>by subst z;rw[r]at f;exact f
 have i:∀c g,H c=some (.tup g)->c≠x:=λc g r z=>by subst z;rw[r]at f;exact f
 by_cases hb:b=x
 ·subst hb;rw[aq]at q;cases q;exact new
 ·rw[aA hb]at q
  by_cases a:b=e
  ·have m:H b=some (.own x):=by
    rcases l with z | z
    ·exact absurd (a.trans z) hb
    ·rw[a];exact z
   rw[q]at m;cases m;obtain⟨v,hv⟩:=j;exact⟨v,by rw[a];exact hv⟩
  ·refine(ok b u q).stay (λc v hc r=>k c v ?_ r) (λc r=>by rw[aA (d c b r)];exact r) λc g r=>by rw[aA (i c g r)];exact r
   rcases hc with rfl | hc
   ·exact a
   ·rintro rfl;rcases l with z | z
    ·exact d c b hc z
    ·rw[hc]at z;cases z;exact hb rfl
end
structure Un(fs ex:AF)(H H':Hp)(h h':Heap):Prop where
 keep:∀b o,h.get? b=some o->H b=none->b∉fs->b∉ex->h'.get? b=some o
 slot:∀b o,h.get? b=some o->H b=none->b∈fs->b∉ex->∃sl,h'.get? b=some { o with slots:=sl }
 free:∀b o,h.get? b=some o->H b=none->b∉ex->H' b=none
 there:∀b o,h.get? b=some o->b∉ex->∃o',h'.get? b=some o'
 tups:∀b xs,H b=some (.tup xs)->H' b=some (.tup xs)
 Ho:∀b o u,H b=some (.oX o u)->H' b=some (.oX o u)
 Kl:∀b ps,H b=some (.LK ps)->∃more,H' b=some (.LK (ps++more))
section
variable {fs fs' ex ex':AF}{H H1 H2:Hp}{h h1 h2 h':Heap}{a x e:AI}{o:HO}
theorem Un.any(u:Un fs ex H H1 h h1){b:AI}{ob:Obj}(q:h.get? b=some ob)(n:H b=none)(hx:b∉ex):∃sl,h1.get? b=some { ob with slots:=sl }:=by
 by_cases hb:b∈fs
 ·exact u.slot b ob q n hb hx
 ·exact⟨ob.slots,u.keep b ob q n hb hx⟩
theorem Un.kept(k:∀b u,h.get? b=some u->h'.get? b=some u):Un fs ex H H h h':=
 ⟨λb ob q _ _ _=>k b ob q,λb ob q _ _ _=>⟨ob.slots,k b ob q⟩,λ_ _ _ n _=>n,λb ob q _=>⟨ob,k b ob q⟩,λ_ _ q=>q,λ_ _ _ q=>q,λ_ ps q=>⟨#[],by rw[q];simp⟩⟩
theorem Un.refl:Un fs ex H H h h:=Un.kept λ_ _ q=>q
theorem Un.laid(k:∀b u,h.get? b=some u->h'.get? b=some u)(hp:h.objs.size<=a)(hn:H a=none):Un fs ex H ee h h' where
 keep:=λb u q _ _ _=>k b u q
 slot:=λb u q _ _ _=>⟨u.slots,k b u q⟩
 free:=λb u q n _=>by rw[aA (Nat.ne_of_lt (Nat.lt_of_lt_of_le (Heap.lt_size q) hp))];exact n
 there:=λb u q _=>⟨u,k b u q⟩
 tups:=λb xs q=>by rw[aA (aD q hn)];exact q
 Ho:=λb u xs q=>by rw[aA (aD q hn)];exact q
 Kl:=λb ps q=>⟨#[],by rw[aA (aD q hn),q];simp⟩
theorem Un.write(c:Mut (H x))(f:e=x\/H e=some (.own x))(k:∀b u,b≠e->h.get? b=some u->h'.get? b=some u)(d:∃u,h'.get? e=some u):Un fs ex H (upd H x o) h h':=by
 have hx:∀b,H b=none->b≠x:=λb n z=>by subst z;rw[n]at c;exact c
 have hb:∀b,H b=none->b≠e:=λb n z=>by
  subst z;rcases f with r | r
  ·exact hx b n r
  ·rw[n]at r;cases r
 have hm:∀b u,H b=some u->¬ Mut (some u)->b≠x:=λb u q nm z=>by subst z;rw[q]at c;exact nm c
 refine⟨λb u q n _ _=>k b u (hb b n) q,λb u q n _ _=>⟨u.slots,k b u (hb b n) q⟩,λb u q n _=>by rw[aA (hx b n)];exact n,λb u q _=>?_,
  λb g q=>by rw[aA (hm b _ q λz=>z)];exact q,λb u g q=>by rw[aA (hm b _ q λz=>z)];exact q,λb i q=>⟨#[],by rw[aA (hm b _ q λz=>z),q];simp⟩⟩
 by_cases a:b=e
 ·subst a;exact d
 ·exact⟨u,k b u a q⟩
end
def trk(h:Heap)(H:Hp):AF:=(List.range h.objs.size).filter λa=>(H a).isSome
def Yk(h:Heap)(H:Hp):Heap:=W.hideAll h (trk h H)
theorem Zhz(h:Heap)(H:Hp):(Yk h H).objs.size=h.objs.size:=W.hideAll_size _ _
theorem Zln{h:Heap}{H:Hp}{b:AI}{o:Obj}(e:h.get? b=some o)(n:H b=none):(Yk h H).get? b=some o:=
 W.hideAll_get _ e λhm=>by
  have q:(H b).isSome=true:=(List.mem_filter.mp hm).2;rw[n]at q;simp at q
theorem Zo4{h:Heap}{H:Hp}{b:AI}{o:Obj}(e:(Yk h H).get? b=some o):h.get? b=some o/\H b=none:=by
 have a:h.get? b=some o:=W.of_hideAll (trk h H) e;refine⟨a,?_⟩;cases q:H b with
 | none=>rfl
 | some x=>
  have hm:b∈trk h H:=List.mem_filter.mpr ⟨List.mem_range.mpr (Heap.lt_size a),by simp[q]⟩;have z:(Yk h H).get? b=none:=W.hideAll_none (trk h H) hm;rw[z]at e;cases e
def Zp9(g h:Heap)(L:AI):At:=(List.range h.objs.size).filterMap λa=>if a=L\/(g.get? a).isSome=true then none else(h.get? a).map λo=>(a,o)
def rest(g h:Heap)(L d:AI):At:=(Zp9 g h L).filter λp=>decide (p.1≠d)
structure Mod(K:aC)(mg:As)(base:Heap):Prop where
 kin:K.In base
 glob:base.Ns mainGlobals mg
 blt:∃mb,base.Ns builtinsNs mb/\∀x:Str,x≠"__name__"->mb x=bootBuiltins x
 nolimit:base.NoLimit
structure Cx where
 prog:AM
 w:AO
 K:aC
 mg:Str->AB
 base:Heap
 A:Around
 N:AH
 s₀:AK
 H₀:Hp
 env:Env
 outer:List Env
 stack:List Env
 ex:AF
 fn:Str->Bool
 calm:Bool
 pn:At
 xe:AJ->AK->Prop
def frs(l:List Env):AF:=l.filterMap (·.frame)
abbrev Cx.fs(X:Cx):AF:=frs X.outer
def Vis(a:Scope)(x:Str):Prop:=a.names.lookup x=some .local\/a.names.lookup x=some .cell\/a.names.lookup x=some .free
def Loc(a:Scope)(x:Str):Prop:=a.names.lookup x=some .local\/a.names.lookup x=some .cell
def Look(env:Env)(h:Heap)(m:As)(x:Str)(u:AJ):Prop:=
 (env.kindOf x=some .local/\m x=some u)\/((env.kindOf x=some .cell\/env.kindOf x=some .free)/\∃c,env.cells.lookup x=some c/\h.IsCell c (some u))
structure Cx.Ok(X:Cx):Prop where
 mod:Mod X.K X.mg X.base
 kind:X.env.scope.kind=.function
 glob:X.env.globals=mainGlobals
 blt:X.env.builtins=builtinsNs
 above:X.s₀.heap.objs.size<=X.env.locals
 inj:∀x y c,X.env.cells.lookup x=some c->X.env.cells.lookup y=some c->x=y
 has:∀x,(X.env.kindOf x=some .cell\/X.env.kindOf x=some .free)->∃c,X.env.cells.lookup x=some c
 cab:∀x c,X.fn x=true->X.env.cells.lookup x=some c->X.s₀.heap.objs.size<=c
 hd:X.calm=true->X.A.handled=none
 frames:X.A.frames=some X.stack
 stk:X.stack=X.outer\/(X.stack=X.env::X.outer/\X.env.frame=some X.env.locals)
 exf:∀b∈X.ex,b≠X.env.locals/\∀x c,X.env.cells.lookup x=some c->c≠b
 bs:∀b o,X.base.get? b=some o->X.s₀.heap.get? b=some o/\X.H₀ b=none
 bsz:X.base.objs.size<=X.s₀.heap.objs.size
 Z7:∀b o,X.base.get? b=some o->b∉X.ex
 Zdq:∀b∈X.ex,b∉X.fs
 ur:X.s₀.heap.FunFrames X.base X.outer
 frf:∀b∈X.fs,X.H₀ b=none
structure Inv(X:Cx)(pins:At)(σ:List (Option V))(H:Hp)(s:AK):Prop where
 ok:X.Ok
 os:s.os=X.s₀.os
 bare:AllBare s.gens
 base:Un X.fs X.ex X.H₀ H X.s₀.heap s.heap
 loc:∃m,s.heap.Ns X.env.locals m/\∀(i:Nat) (x:Str) (v:V),X.N[i]? =some x->σ[i]? =some (some v)->Vis X.env.scope x->∃u,RelV v u/\Look X.env s.heap m x u
 cell:∀x c,X.env.cells.lookup x=some c->∃v,s.heap.IsCell c v
 free:H X.env.locals=none
 pY:∀x c,X.env.cells.lookup x=some c->H c=none
 pin:∀p∈X.pn++pins,s.heap.get? p.1=some p.2/\H p.1=none/\p.1≠X.env.locals/\p.1∉X.fs/\∀v,p.2.data≠.cell v
 hok:yJ X.prog X.w H s.heap
 len:σ.length=X.N.length
section
variable {X:Cx}{pins:At}{σ:List (Option V)}{H H':Hp}{s:AK}{h':Heap}
theorem Cx.Ok.Zvw(ok:X.Ok){b:AI}{o:Obj}(e:X.base.get? b=some o):b∉X.fs:=λhb=>by
 have:=(ok.ur.mem hb).1;rw[e]at this;cases this
theorem Inv.bs(I:Inv X pins σ H s):∀b o,X.base.get? b=some o->s.heap.get? b=some o/\H b=none:=λb o e=>
 ⟨I.base.keep b o (I.ok.bs b o e).1 (I.ok.bs b o e).2 (I.ok.Zvw e) (I.ok.Z7 b o e),I.base.free b o (I.ok.bs b o e).1 (I.ok.bs b o e).2 (I.ok.Z7 b o e)⟩
theorem Inv.bk(I:Inv X pins σ H s):∀b o,X.base.get? b=some o->s.heap.get? b=some o:=λb o e=>(I.bs b o e).1
theorem Inv.mod(I:Inv X pins σ H s):Mod X.K X.mg X.base:=I.ok.mod
theorem Inv.qg(I:Inv X pins σ H s):X.K.In s.heap:=I.ok.mod.kin.keeps I.bk
theorem Inv.lt(I:Inv X pins σ H s):X.env.locals<s.heap.objs.size:=let ⟨_,hn,_⟩:=I.loc;hn.lt
theorem Inv.sz(I:Inv X pins σ H s):X.s₀.heap.objs.size<=s.heap.objs.size:=Nat.le_trans I.ok.above (Nat.le_of_lt I.lt)
theorem Inv.Zvv(I:Inv X pins σ H s){a:AI}(h:s.heap.objs.size<=a):a∉X.fs:=λhb=>by
 obtain⟨_,o,b,_⟩:=I.ok.ur.mem hb;exact absurd (Nat.lt_of_lt_of_le (Heap.lt_size b) (Nat.le_trans I.sz h)) (Nat.lt_irrefl _)
theorem Inv.cne(I:Inv X pins σ H s):∀x c,X.env.cells.lookup x=some c->c≠X.env.locals:=λx c e z=>by
 obtain⟨v,o,d,hd⟩:=I.cell x c e;obtain⟨m,⟨o',f,g,a,b,_⟩,_⟩:=I.loc;rw[z,a]at d;cases d;rw[b]at hd;cases hd
theorem Inv.ur(I:Inv X pins σ H s):s.heap.FunFrames X.base X.outer:=by
 have all:∀(l:List Env),(∀b∈frs l,b∈X.fs)->X.s₀.heap.FunFrames X.base l->s.heap.FunFrames X.base l:=by
  intro l
  induction l with
  | nil=>intro _ _;trivial
  | cons env r f=>
   intro hs hl;obtain⟨hk,⟨L,o,a,hn,d,hd⟩,hr⟩:=hl;have c:L∈X.fs:=hs L (by unfold frs;rw[List.filterMap_cons,a];exact List.mem_cons_self);obtain⟨sl,e⟩:=I.base.slot L o d (I.ok.frf L c) c λz=>I.ok.Zdq L z c;exact⟨hk,⟨L,_,a,hn,e,hd⟩,f (λb hb=>hs b (by unfold frs;rw[List.filterMap_cons,a];exact List.mem_cons_of_mem _ hb)) hr⟩
 exact all X.outer (λ_ hb=>hb) I.ok.ur
theorem Inv.stack(I:Inv X pins σ H s):s.heap.FunFrames X.base X.stack:=by
 rcases I.ok.stk with e | ⟨e,a⟩
 ·rw[e];exact I.ur
 ·rw[e];obtain⟨m,hn,_⟩:=I.loc;refine .cons (by rw[I.ok.kind];decide) a hn ?_ I.ur;exact Heap.get?_none_of_le (Nat.le_trans I.ok.bsz I.ok.above)
theorem Inv.Gr(I:Inv X pins σ H s):∀b∈frs X.stack,b∈X.env.locals::X.fs:=λb hb=>by
 rcases I.ok.stk with e | ⟨e,a⟩
 ·rw[e]at hb;exact List.mem_cons_of_mem _ hb
 ·rw[e]at hb;unfold frs at hb;rw[List.filterMap_cons,a]at hb;exact hb
theorem Inv.Wo(I:Inv X pins σ H s):∀b∈frs X.stack,H b=none:=λb hb=>by
 rcases List.mem_cons.mp (I.Gr b hb)with e | hb
 ·rw[e];exact I.free
 ·obtain⟨_,o,a,_⟩:=I.ok.ur.mem hb;exact I.base.free b o a (I.ok.frf b hb) λz=>I.ok.Zdq b z hb
theorem Inv.step{g':Array GenState}{t':Nat}{d':Drawn}{ch:AF}(I:Inv X pins σ H s)
  (g:∀b∈ch,(b∈X.ex\/X.s₀.heap.objs.size<=b)/\b≠X.env.locals/\(∀x c,X.env.cells.lookup x=some c->c≠b)/\∀p∈X.pn++pins,p.1≠b)
  (keep:∀b o,b≠X.env.locals->b∉X.fs->b∉ch->s.heap.get? b=some o->H b=none->h'.get? b=some o)
  (slot:∀b o,b≠X.env.locals->b∈X.fs->b∉ch->s.heap.get? b=some o->H b=none->∃sl,h'.get? b=some { o with slots:=sl }) (free:∀b o,b∉ch->s.heap.get? b=some o->H b=none->H' b=none)
  (there:∀b o,b∉ch->s.heap.get? b=some o->∃o',h'.get? b=some o')
  (tups:∀b xs,H b=some (.tup xs)->H' b=some (.tup xs)) (Ho:∀b o u,H b=some (.oX o u)->H' b=some (.oX o u)) (Kl:∀b ps,H b=some (.LK ps)->∃y,H' b=some (.LK (ps++y)))
  (ns:∀m,s.heap.Ns X.env.locals m->h'.Ns X.env.locals m) (hok:yJ X.prog X.w H' h') (hg:AllBare g'):
  Inv X pins σ H' { s with heap:=h',gens:=g',drawn:=d',toks:=t' }:=by
 have B:∀b o,X.s₀.heap.get? b=some o->b≠X.env.locals:=λb o e=>Nat.ne_of_lt b7;have j:∀b o,X.s₀.heap.get? b=some o->b∉X.ex->b∉ch:=λb o e hx hb=>by
  rcases(g b hb).1 with z | z
  ·exact hx z
  ·exact absurd (Nat.lt_of_lt_of_le (Heap.lt_size e) z) (Nat.lt_irrefl _)
 have a:∀x c,X.env.cells.lookup x=some c->∀v,s.heap.IsCell c v->h'.IsCell c v:=λx c e v ⟨o,t,hd⟩=>by
  have f:c∉ch:=λz=>(g c z).2.2.1 x c e rfl
  by_cases hc:c∈X.fs
  ·obtain⟨sl,q⟩:=slot c o (I.cne x c e) hc f t (I.pY x c e);exact⟨_,q,hd⟩
  ·exact⟨o,keep c o (I.cne x c e) hc f t (I.pY x c e),hd⟩
 refine⟨I.ok,I.os,hg,⟨λb o e n hb hx=>?_,λb o e n hb hx=>?_,λb o e n hx=>?_,λb o e hx=>?_,λb xs e=>tups b xs (I.base.tups b xs e),λb o xs e=>Ho b o xs (I.base.Ho b o xs e),λb ps e=>?_⟩,?_,λx c e=>?_,?_,λx c e=>?_,λp hp=>?_,hok,I.len⟩
 ·exact keep b o (B b o e) hb (j b o e hx) (I.base.keep b o e n hb hx) (I.base.free b o e n hx)
 ·obtain⟨sl,h⟩:=I.base.slot b o e n hb hx;obtain⟨C,A⟩:=slot b _ (B b o e) hb (j b o e hx) h (I.base.free b o e n hx);exact⟨C,A⟩
 ·obtain⟨o',h⟩:=I.base.there b o e hx;exact free b o' (j b o e hx) h (I.base.free b o e n hx)
 ·obtain⟨o',h⟩:=I.base.there b o e hx;exact there b o' (j b o e hx) h
 ·obtain⟨E,h⟩:=I.base.Kl b ps e;obtain⟨F,A⟩:=Kl b _ h;exact⟨E++F,by rw[A,Array.append_assoc]⟩
 ·obtain⟨m,hn,hl⟩:=I.loc;refine⟨m,ns m hn,λi x v h A e3=>?_⟩;obtain⟨u,r,l⟩:=hl i x v h A e3;refine⟨u,r,?_⟩;rcases l with l | ⟨k,c,e,z⟩
  ·exact .inl l
  ·exact .inr ⟨k,c,e,a x c e _ z⟩
 ·obtain⟨v,z⟩:=I.cell x c e;exact⟨v,a x c e v z⟩
 ·obtain⟨m,⟨o,_,_,t,_⟩,_⟩:=I.loc;exact free _ o (λz=>(g _ z).2.1 rfl) t I.free
 ·obtain⟨v,o,t,hd⟩:=I.cell x c e;exact free c o (λz=>(g c z).2.2.1 x c e rfl) t (I.pY x c e)
 ·obtain⟨e,n,ne,D,d⟩:=I.pin p hp;have f:p.1∉ch:=λz=>(g p.1 z).2.2.2 p hp rfl;exact⟨keep p.1 p.2 ne D f e n,free p.1 p.2 f e n,ne,D,d⟩
theorem Inv.un{t':Nat}(I:Inv X pins σ H s)(u:Un X.fs [] H H' s.heap h')(hok:yJ X.prog X.w H' h'):Inv X pins σ H' { s with heap:=h',toks:=t' }:=by
 obtain⟨m,⟨o,i,j,f,r⟩,_⟩:=id I.loc;obtain⟨sl,g⟩:=u.any f I.free ζ;exact I.step (g':=s.gens) (d':=s.drawn) (ch:=[]) (λ_ z=>nomatch z) (λb o _ hb _ e n=>u.keep b o e n hb ζ) (λb o _ hb _ e n=>u.slot b o e n hb ζ) (λb o _ e n=>u.free b o e n ζ) (λb o _ e=>u.there b o e ζ) u.tups u.Ho u.Kl (λk hm=>by
  obtain⟨l,d,c,a,h⟩:=hm;rw[f]at a;cases a;exact⟨_,d,c,g,h⟩) hok I.bare
theorem Inv.call{g':Array GenState}{t':Nat}{d':Drawn}{ch:AF}(I:Inv X pins σ H s)(u:Un (frs X.stack) ch H H' s.heap h')(hok:yJ X.prog X.w H' h')(hg:AllBare g')
  (d:∀b∈ch,(b∈X.ex\/X.s₀.heap.objs.size<=b)/\b≠X.env.locals/\(∀x c,X.env.cells.lookup x=some c->c≠b)/\∀p∈X.pn++pins,p.1≠b):
  Inv X pins σ H' { s with heap:=h',gens:=g',drawn:=d',toks:=t' }:=by
 obtain⟨m,⟨o,k,l,i,r⟩,_⟩:=id I.loc;obtain⟨sl,g⟩:=u.any i I.free λz=>(d _ z).2.1 rfl;exact I.step (ch:=ch) d (λb o g hb hc e n=>u.keep b o e n (λz=>(List.mem_cons.mp (I.Gr b z)).elim g hb) hc) (λb o _ _ hc e n=>u.any e n hc) (λb o hc e n=>u.free b o e n hc) (λb o hc e=>u.there b o e hc) u.tups u.Ho u.Kl (λq hm=>by
  obtain⟨t,h,f,a,j⟩:=hm;rw[i]at a;cases a;exact⟨_,h,f,g,j⟩) hok hg
theorem Inv.turned{t':Nat}{a:AI}(I:Inv X pins σ H s)(k:∀b o,b≠a->s.heap.get? b=some o->h'.get? b=some o)(hn:H a=none)(f:a≠X.env.locals)
  (h1:a∈X.ex\/X.s₀.heap.objs.size<=a) (h2:∀x c,X.env.cells.lookup x=some c->c≠a) (j:∀p∈X.pn++pins,p.1≠a):Inv X pins σ H { s with heap:=h',toks:=t' }:=by
 have d:∀b u,H b=some u->b≠a:=λb u e z=>by rw[z,hn]at e;cases e
 refine I.step (g':=s.gens) (d':=s.drawn) (ch:=[a]) (λb hb=>?_) (λb o _ _ hc e _=>k b o (λz=>hc (by simp[z])) e) (λb o _ _ hc e _=>⟨o.slots,k b o (λz=>hc (by simp[z])) e⟩) (λ_ _ _ _ n=>n)
  (λb o hc e=>⟨o,k b o (λz=>hc (by simp[z])) e⟩) (λ_ _ e=>e) (λ_ _ _ e=>e) (λb l e=>⟨#[],by rw[e];simp⟩) (λm hm=>?_) (λb u e=>?_) I.bare
 ·have e:b=a:=by simpa using hb
  subst e;exact⟨h1,f,h2,j⟩
 ·obtain⟨o,g,i,h,r⟩:=hm;exact⟨o,g,i,k _ o (Ne.symm f) h,r⟩
 ·refine(I.hok b u e).stay (λc v hc q=>k c v ?_ q) (λ_ q=>q) λ_ _ q=>q;rcases hc with z | z
  ·rw[z];exact d b u e
  ·exact d c _ z
theorem Inv.tok(I:Inv X pins σ H s)(t:Nat):Inv X pins σ H { s with toks:=t }:=I.un (h':=s.heap) (t':=t) Un.refl I.hok
theorem Inv.kept{t':Nat}(I:Inv X pins σ H s)(k:∀b u,s.heap.get? b=some u->h'.get? b=some u):Inv X pins σ H { s with heap:=h',toks:=t' }:=I.un (Un.kept k) (I.hok.kept k)
theorem Inv.laid{a:AI}{o:HO}{t':Nat}(I:Inv X pins σ H s)(k:∀b u,s.heap.get? b=some u->h'.get? b=some u)(hp:s.heap.objs.size<=a)(new:gq X.prog X.w ee h' a o):
  Inv X pins σ ee { s with heap:=h',toks:=t' }:=I.un (Un.laid k hp (I.hok.fresh hp)) (I.hok.laid k hp new)
theorem Inv.write{x e:AI}{o:HO}{t':Nat}(I:Inv X pins σ H s)(d:Mut (H x))(c:e=x\/H e=some (.own x))(k:∀b u,b≠e->s.heap.get? b=some u->h'.get? b=some u)(a:∃u,h'.get? e=some u)
  (new:gq X.prog X.w (upd H x o) h' x o):Inv X pins σ (upd H x o) { s with heap:=h',toks:=t' }:=I.un (Un.write d c k a) (I.hok.write d c k a new)
theorem Inv.Dm{a:At}(I:Inv X pins σ H s)(h:∀p∈a,s.heap.get? p.1=some p.2/\H p.1=none/\p.1≠X.env.locals/\p.1∉X.fs/\∀v,p.2.data≠.cell v):Inv X a σ H s:=
 ⟨I.ok,I.os,I.bare,I.base,I.loc,I.cell,I.free,I.pY,λp hp=>(List.mem_append.mp hp).elim (λz=>I.pin p (List.mem_append_left _ z)) (h p),I.hok,I.len⟩
theorem Z8{N:AH}(hN:N.Nodup){i j:Nat}{x:Str}(a:N[i]? =some x)(b:N[j]? =some x):i=j:=by
 obtain⟨h1,d⟩:=cG a;obtain⟨h2,c⟩:=cG b;exact(List.getElem_inj hN).mp (d.trans c.symm)
theorem Zgp{M:Model}{A:Around}{E:Ap}{i:Nat}{x:Str}{v:V}{u:AJ}{Q:Unit->AK->Prop}(I:Inv X pins σ H s)(hN:X.N.Nodup)(hi:X.N[i]? =some x)(hx:Loc X.env.scope x)(r:RelV v u)
  (h:∀s',Inv X pins (σ.set i (some v)) H s'->(∃a,Heap.SameBut a s.heap s'.heap/\(a=X.env.locals\/X.env.cells.lookup x=some a))->Q () s') (hf:X.fn x=true\/X.env.scope.names.lookup x=some .local:=by first | exact .inl rfl | exact .inr rfl | assumption):wpAny M A (storeName X.env x u) Q E s:=by
 obtain⟨m,hn,hl⟩:=id I.loc;have L:(X.env.scope.kind == .class || (X.env.scope.kind == .module && X.env.locals != X.env.globals))=false:=by rw[I.ok.kind];rfl
 have B:i < σ.length:=by rw[I.len];exact(cG hi).1
 have cne:=I.cne;have g:∀{a:AI}{h':Heap},(∃o,s.heap.get? a=some o/\H a=none)->Heap.SameBut a s.heap h'->yJ X.prog X.w H h':=λ{a h'} ha hs b ob e=>by
  obtain⟨_,_,l⟩:=ha;refine(I.hok b ob e).stay (λc O hc q=>(hs.2 c ?_).trans q) (λ_ q=>q) λ_ _ q=>q;rintro rfl;rcases hc with rfl | hc
  ·rw[l]at e;cases e
  ·rw[l]at hc;cases hc
 rcases hx with hk | hk
 ·refine wpAny_storeName_local hk hn (λh' S hs=>?_) L;obtain⟨oL,_,_,U,_⟩:=id hn;refine h _ ⟨I.ok,I.os,I.bare,⟨λb o e n hb hx=>?_,λb o e n hb hx=>?_,I.base.free,λb o e hx=>?_,I.base.tups,I.base.Ho,I.base.Kl⟩,⟨_,S,λj y v' f t e3=>?_⟩,λy c e=>?_,I.free,I.pY,λp hp=>?_,g ⟨oL,U,I.free⟩ hs,by simpa using I.len⟩ ⟨_,hs,.inl rfl⟩
  ·exact(hs.2 b (Nat.ne_of_lt b7)).trans (I.base.keep b o e n hb hx)
  ·obtain⟨sl,f⟩:=I.base.slot b o e n hb hx;exact⟨sl,(hs.2 b (Nat.ne_of_lt b7)).trans f⟩
  ·obtain⟨W,f⟩:=I.base.there b o e hx;exact⟨W,(hs.2 b (Nat.ne_of_lt b7)).trans f⟩
  ·by_cases C:j=i
   ·subst C;rw[hi]at f;cases f;rw[List.getElem?_set_self B]at t;cases t;exact⟨u,r,.inl ⟨hk,ζ⟩⟩
   ·rw[List.getElem?_set_ne (Ne.symm C)]at t;obtain⟨R,T,q⟩:=hl j y v' f t e3;refine⟨R,T,?_⟩;rcases q with ⟨k,e⟩ | ⟨k,c,e,z⟩
    ·refine .inl ⟨k,?_⟩;have:y≠x:=λe=>C (Z8 hN f (e ▸ hi));simp[this,e]
    ·exact .inr ⟨k,c,e,z.sameBut hs (cne y c e)⟩
  ·obtain⟨O,z⟩:=I.cell y c e;exact⟨O,z.sameBut hs (cne y c e)⟩
  ·obtain⟨e,n,ne,Y,d⟩:=I.pin p hp;exact⟨(hs.2 p.1 ne).trans e,n,ne,Y,d⟩
 ·have D:X.fn x=true:=by
   rcases hf with z | z
   ·exact z
   ·rw[z]at hk;cases hk
  obtain⟨c,hc⟩:=I.ok.has x (.inl hk);obtain⟨O,z⟩:=I.cell x c hc;refine wpAny_storeName_cell I.ok.kind hk hc z (λh' K hs=>?_);obtain⟨oc,J,Z⟩:=id z;refine h { s with heap:=h' } ⟨I.ok,I.os,I.bare,⟨λb o e n hb hx=>?_,λb o e n hb hx=>?_,I.base.free,λb o e hx=>?_,I.base.tups,I.base.Ho,I.base.Kl⟩,⟨m,hn.sameBut hs (Ne.symm (cne x c hc)),λj y v' f t e3=>?_⟩,λy P e=>?_,I.free,I.pY,λp hp=>?_,g ⟨oc,J,I.pY x c hc⟩ hs,by simpa using I.len⟩ ⟨c,hs,.inr hc⟩
  ·exact(hs.2 b eF).trans (I.base.keep b o e n hb hx)
  ·obtain⟨sl,f⟩:=I.base.slot b o e n hb hx;exact⟨sl,(hs.2 b eF).trans f⟩
  ·obtain⟨W,f⟩:=I.base.there b o e hx;exact⟨W,(hs.2 b eF).trans f⟩
  ·by_cases C:j=i
   ·subst C;rw[hi]at f;cases f;rw[List.getElem?_set_self B]at t;cases t;exact⟨u,r,.inr ⟨.inl hk,c,hc,K⟩⟩
   ·rw[List.getElem?_set_ne (Ne.symm C)]at t;obtain⟨R,T,q⟩:=hl j y v' f t e3;refine⟨R,T,?_⟩;rcases q with q | ⟨k,P,e,z'⟩
    ·exact .inl q
    ·refine .inr ⟨k,P,e,z'.sameBut hs ?_⟩;rintro rfl;exact C (Z8 hN f (I.ok.inj _ _ _ e hc ▸ hi))
  ·by_cases F:P=c
   ·subst F;exact⟨_,K⟩
   ·obtain⟨w2,z2⟩:=I.cell y P e;exact⟨w2,z2.sameBut hs F⟩
  ·obtain⟨e,n,ne,Y,d⟩:=I.pin p hp;refine⟨(hs.2 p.1 ?_).trans e,n,ne,Y,d⟩;intro q;rw[q,J]at e;have q':oc=p.2:=Option.some.inj e;exact d O (by rw[<- q'];exact Z)
theorem Mf{M:Model}{A:Around}{E:Ap}{i:Nat}{x:Str}{v:V}{u:AJ}{Q:Unit->AK->Prop}(I:Inv X pins σ H s)(hN:X.N.Nodup)(hi:X.N[i]? =some x)(hx:Loc X.env.scope x)(r:RelV v u)
  (h:∀s',Inv X pins (σ.set i (some v)) H s'->Q () s') (b:X.fn x=true\/X.env.scope.names.lookup x=some .local:=by first | exact .inl rfl | exact .inr rfl | assumption):wpAny M A (storeName X.env x u) Q E s:=
 Zgp I hN hi hx r (λs' a _=>h s' a) b
theorem Inv.call'{s':AK}{ch:AF}(I:Inv X pins σ H s)(d:s'.os=s.os)(u:Un (frs X.stack) ch H H' s.heap s'.heap)(hok:yJ X.prog X.w H' s'.heap)(hg:AllBare s'.gens)
  (a:∀b∈ch,(b∈X.ex\/X.s₀.heap.objs.size<=b)/\b≠X.env.locals/\(∀x c,X.env.cells.lookup x=some c->c≠b)/\∀p∈X.pn++pins,p.1≠b):Inv X pins σ H' s':=by
 obtain⟨h',g',d',t',f⟩:=s';have e:f=s.os:=d;subst e;exact I.call (g':=g') (t':=t') (d':=d') u hok hg a
end
abbrev XK:=AJ->Option AI->Hp->Prop
abbrev St:=List (Option V)
abbrev VK:=V->Hp->Prop
abbrev TE:=St->Hp->VK->Prop
abbrev TT:=St->Hp->(Bool->Hp->Prop)->Prop
abbrev TA:=St->Hp->(List V->Hp->Prop)->Prop
structure Ends where
 nx:ν
 rt:VK
 bk:ν:=λ_ _=>False
 ct:ν:=λ_ _=>False
abbrev TS:=Ends->ν
def EP(X:Cx)(pins:At)(σ:St)(Q:VK)(u:AJ)(s':AK):Prop:=∃v H',Inv X pins σ H' s'/\RelV v u/\Q v H'
def TP(X:Cx)(pins:At)(σ:St)(Q:Bool->Hp->Prop)(b:Bool)(s':AK):Prop:=∃H',Inv X pins σ H' s'/\Q b H'
def AP(X:Cx)(pins:At)(σ:St)(Q:List V->Hp->Prop)(us:AC)(s':AK):Prop:=∃vs H',Inv X pins σ H' s'/\Vals vs us/\Q vs H'
def SP(X:Cx)(pins:At)(D:Ends)(f:Flow)(s':AK):Prop:=
 match f with
 | .next=>∃ a H',Inv X pins a H' s'/\D.nx a H'
 | .brk=>∃ a H',Inv X pins a H' s'/\D.bk a H'
 | .cont=>∃ a H',Inv X pins a H' s'/\D.ct a H'
 | .ret u=>∃v a H',Inv X pins a H' s'/\RelV v u/\D.rt v H'
def PE(X:Cx)(e:AN)(t:TE):Prop:=
 ∀(pins:At) (s:AK) (σ:St) (H:Hp) (Q:VK),Inv X pins σ H s->t σ H Q->wpAny ς X.A (eval e X.env) de X.xe s
def PT(X:Cx)(e:AN)(t:TT):Prop:=
 ∀(pins:At) (s:AK) (σ:St) (H:Hp) (Q:Bool->Hp->Prop),Inv X pins σ H s->t σ H Q->wpAny ς X.A (isTrue e X.env (eval e X.env)) (TP X pins σ Q) X.xe s
def PW(X:Cx)(e:AN)(t:TT):Prop:=
 ∀(a:Sem AJ) (pins:At) (s:AK) (σ:St) (H:Hp) (Q:Bool->Hp->Prop),Inv X pins σ H s->t σ H Q->wpAny ς X.A (isTrue e X.env a) (TP X pins σ Q) X.xe s
theorem PW.pt{X:Cx}{e:AN}{t:TT}(h:PW X e t):PT X e t:=h _
def PA(X:Cx)(b:AG)(t:TA):Prop:=
 ∀(a:Pos) (pins:At) (s:AK) (σ:St) (H:Hp) (Q:List V->Hp->Prop),Inv X pins σ H s->t σ H Q->wpAny ς X.A (spliced (backTo a (starEach b X.env))) (AP X pins σ Q) X.xe s
def PS(X:Cx)(st:Stmt)(t:TS):Prop:=
 ∀(pins:At) (s:AK) (σ:St) (H:Hp) (D:Ends),Inv X pins σ H s->t D σ H->wpAny ς X.A (exec st X.env) (SP X pins D) X.xe s
def QW(X:Cx)(st:List Stmt)(t:TS):Prop:=
 ∀(pins:At) (s:AK) (σ:St) (H:Hp) (D:Ends),Inv X pins σ H s->t D σ H->wpAny ς X.A (execs st X.env) (SP X pins D) X.xe s
theorem fH{c:Type}{t:Sem c}{Q b:c->AK->Prop}{M:Model}{A:Around}{E:Ap}{s:AK}(h:wpAny M A t Q E s)(d:∀a s,Q a s->b a s):wpAny M A t b E s:=wpAny_mono h d λ_ _ x=>x
section
variable {X:Cx}
def aj(i:Nat):TE:=λσ H Q=>∃v,σ[i]? =some (some v)/\Q v H
def tC(v:V):TE:=λ_ H Q=>Q v H
theorem Zjn{i:Nat}{x:Str}{f:Pos}(hN:X.N[i]? =some x)(hv:Vis X.env.scope x)(hd:(x == ("__debug__":Str))=false:=by decide)(d:(x == ("__classdict__":Str))=false:=by decide):PE X (.Name x f) (aj i):=by
 intro b s g H Q I h;obtain⟨v,e,h⟩:=h;obtain⟨m,hn,hl⟩:=I.loc;obtain⟨u,r,l⟩:=hl i x v hN e hv;have fin:EP X b g Q u s:=⟨v,H,I,r,h⟩;rcases l with ⟨hk,hm⟩ | ⟨hk,c,hc,a⟩
 ·exact wpAny_Name (wpAny_loadName_local I.ok.kind hk hn hm fin) hd
 ·rcases hk with hk | hk
  ·exact wpAny_Name (wpAny_loadName_cell I.ok.kind hk hc a fin) hd
  ·exact wpAny_Name (wpAny_loadName_free I.ok.kind hk hc a fin d) hd
theorem az{i j pos}:PE X (.Constant (.int i) j pos) (tC (.int i)):=λ_ _ _ H _ I h=>wpAny_Constant_int ⟨.int i,H,I.tok _,⟨_,rfl⟩,h⟩
theorem lD{b j pos}:PE X (.Constant (.bool b) j pos) (tC (.bl b)):=λ_ _ _ H _ I h=>Constant_bool ⟨.bl b,H,I,rfl,h⟩
theorem dD{j pos}:PE X (.Constant .none j pos) bp:=λ_ _ _ H _ I h=>Constant_none ⟨.non,H,I,rfl,h⟩
theorem aV{x j pos}:PE X (.Constant (.str x) j pos) (tC (.str x)):=λ_ _ _ H _ I h=>Calls.Constant_str ⟨.str x,H,I.tok _,⟨_,rfl⟩,h⟩
def Gl(X:Cx)(x:Str):Prop:=X.env.kindOf x=some .globalImplicit
theorem fZ{E:Ap}{pins:At}{s:AK}{σ:St}{H:Hp}{x:Str}{u:AJ}{a:Pos}{Q:Ap}(I:Inv X pins σ H s)(hg:Gl X x)(hm:X.mg x=some u)(h:Q u s)
  (hd:(x == ("__debug__":Str))=false:=by decide):wpAny ς X.A (eval (.Name x a) X.env) Q E s:=
 Calls.Name_function_global I.ok.kind hg (Calls.loadGlobal_global (by rw[I.ok.glob];exact I.mod.glob.keeps I.bk) hm h) hd
theorem G4{E:Ap}{pins:At}{s:AK}{σ:St}{H:Hp}{x:Str}{u:AJ}{a:Pos}{Q:Ap}(I:Inv X pins σ H s)(hg:Gl X x)(hm:X.mg x=none)(hv:bootBuiltins x=some u)(h:Q u s)
  (hn:x≠"__name__":=by decide) (hd:(x == ("__debug__":Str))=false:=by decide):wpAny ς X.A (eval (.Name x a) X.env) Q E s:=by
 obtain⟨b,h1,h2⟩:=I.mod.blt;exact Calls.Name_function_global I.ok.kind hg (Calls.loadGlobal_builtin (by rw[I.ok.glob];exact I.mod.glob.keeps I.bk) hm (by rw[I.ok.blt];exact h1.keeps I.bk) ((h2 x hn).trans hv) h) hd
theorem Znn{x:Str}{v:V}{u:AJ}{a:Pos}(hg:Gl X x)(hm:X.mg x=some u)(r:RelV v u)(hd:(x == ("__debug__":Str))=false:=by decide):PE X (.Name x a) (tC v):=
 λ_ _ _ H _ I h=>fZ I hg hm ⟨v,H,I,r,h⟩ hd
theorem uN{x:Str}{v:V}{u:AJ}{a:Pos}(hg:Gl X x)(hm:X.mg x=none)(hv:bootBuiltins x=some u)(r:RelV v u)(hn:x≠"__name__":=by decide)(hd:(x == ("__debug__":Str))=false:=by decide):PE X (.Name x a) (tC v):=
 λ_ _ _ H _ I h=>G4 I hg hm hv ⟨v,H,I,r,h⟩ hn hd
variable {a b:AN}{ta tb:TE}{pos:Pos}
def PC(X:Cx)(e:CmpOp)(a b:AN)(t:TE):Prop:=
 ∀(pins:At) (s:AK) (σ:St) (H:Hp) (Q:VK),Inv X pins σ H s->t σ H Q->
  wpAny ς X.A (eval a X.env) (λv d=>wpAny ς X.A (eval b X.env) (λu c=>wpAny ς X.A (compareOp e v u) de X.xe c) X.xe d) X.xe s
theorem Zkj(b:AN){a:CmpOp}(h:a≠.In)(h2:a≠.NotIn):behindInMarks a b=false:=by
 have d:(a == CmpOp.In)=false:=by cases a<;>first | rfl | exact absurd rfl h
 have c:(a == CmpOp.NotIn)=false:=by cases a<;>first | rfl | exact absurd rfl h2
 cases b<;>first | rfl | (show (_&&(_||_)&&_)=false;rw[d,c];simp)
def tB(t:TE):TT:=λσ H Q=>t σ H λx a=>∃c,x=.bl c/\Q c a
theorem rM{f:CmpOp}{t:TE}(h:PC X f a b t)(h1:behindInMarks f b=false:=by first | exact Zkj _ ε ε | rfl):PT X (.Compare a [f] [b] pos) (tB t):=by
 intro e s i H Q I g;refine wpAny_isTrue_Compare1 (fH (h e s i H _ I g) λv l h1=>fH h1 λu j h2=>fH h2 λc k qc=>?_) h1;obtain⟨x,H1,I1,r1,q1⟩:=qc;obtain⟨d,rfl,q⟩:=q1;cases r1;exact wpAny_truthy_bool ⟨H1,I1,q⟩
theorem gU{e:AN}{t:TE}(h:PE X e t)(f:∀a,isTrue e X.env a=(do let v <- a;standAt e.pos;holding [v] (truthy v)):=by intro _;rfl):PT X e (tB t):=by
 intro b s g H Q I c;refine isTrue_plain (fH (h b s g H _ I c) λv i qc=>?_) (f _);obtain⟨x,H1,I1,r1,q1⟩:=qc;obtain⟨d,rfl,q⟩:=q1;cases r1;exact wpAny_truthy_bool ⟨H1,I1,q⟩
variable {tA tB':TT}{rest:AG}
def LQ(t u:TT):TT:=λσ H Q=>t σ H λc a=>if c=true then u σ a Q else Q false a
def tOr(t u:TT):TT:=λσ H Q=>t σ H λc a=>if c=true then Q true a else u σ a Q
def yX(t:TT):TT:=λσ H Q=>t σ H λc a=>Q (!c) a
theorem o9(f:PT X a tA):PW X (.BoolOp .And [a] pos) tA:=by
 intro wh b s d H Q I h;refine isTrue_and (fH (f b s d H Q I h) λc g e=>?_);cases c with
 | true=>exact isTrue_and_nil e
 | false=>exact e
theorem rK(f:PT X a tA):PW X (.BoolOp .Or [a] pos) tA:=by
 intro wh b s d H Q I h;refine isTrue_or (fH (f b s d H Q I h) λc g e=>?_);cases c with
 | false=>exact isTrue_or_nil e
 | true=>exact e
theorem uL(i:PT X a tA)(hb:PW X (.BoolOp .And (b::rest) pos) tB'):PW X (.BoolOp .And (a::b::rest) pos) (LQ tA tB'):=by
 intro wh d s f H Q I h;refine isTrue_and (fH (i d s f H _ I h) λc g qc=>?_);obtain⟨e,I1,q1⟩:=qc;cases c with
 | true=>exact hb wh d g f e Q I1 q1
 | false=>exact⟨e,I1,q1⟩
theorem tL(i:PT X a tA)(hb:PW X (.BoolOp .Or (b::rest) pos) tB'):PW X (.BoolOp .Or (a::b::rest) pos) (tOr tA tB'):=by
 intro wh d s f H Q I h;refine isTrue_or (fH (i d s f H _ I h) λc g qc=>?_);obtain⟨e,I1,q1⟩:=qc;cases c with
 | true=>exact⟨e,I1,q1⟩
 | false=>exact hb wh d g f e Q I1 q1
theorem lX(f:PT X a tA):PT X (.UnaryOp .Not a pos) (yX tA):=by
 intro b s e H Q I h;exact isTrue_not (f b s e H (λc d=>Q (!c) d) I h)
def zp(ta tb:TE):TE:=λσ H Q=>ta σ H λx a=>∃c,x=.bl c/\if c=true then tb σ a Q else Q (.bl false) a
def Zql(ta tb:TE):TE:=λσ H Q=>ta σ H λx a=>∃c,x=.bl c/\if c=true then Q (.bl true) a else tb σ a Q
def Zer(ta:TE):TE:=λσ H Q=>ta σ H λx a=>∃c,x=.bl c/\Q (.bl (!c)) a
theorem uM{op}{t:TE}(h:PE X a t):PE X (.BoolOp op [a] pos) t:=λpins s σ H Q I b=>BoolOp_one (h pins s σ H Q I b)
theorem xK(i:PE X a ta)(hb:PE X (.BoolOp .And (b::rest) pos) tb):PE X (.BoolOp .And (a::b::rest) pos) (zp ta tb):=by
 intro d s f H Q I h;refine BoolOp_and (fH (i d s f H _ I h) λv g qc=>?_);obtain⟨x,H1,I1,r1,e⟩:=qc;obtain⟨c,rfl,e⟩:=e;cases r1;refine wpAny_truthy_bool ?_;cases c with
 | true=>exact hb d g f H1 Q I1 e
 | false=>exact⟨.bl false,H1,I1,rfl,e⟩
theorem Ztn(i:PE X a ta)(hb:PE X (.BoolOp .Or (b::rest) pos) tb):PE X (.BoolOp .Or (a::b::rest) pos) (Zql ta tb):=by
 intro d s f H Q I h;refine BoolOp_or (fH (i d s f H _ I h) λv g qc=>?_);obtain⟨x,H1,I1,r1,e⟩:=qc;obtain⟨c,rfl,e⟩:=e;cases r1;refine wpAny_truthy_bool ?_;cases c with
 | false=>exact hb d g f H1 Q I1 e
 | true=>exact⟨.bl true,H1,I1,rfl,e⟩
theorem Zjq(f:PE X a ta):PE X (.UnaryOp .Not a pos) (Zer ta):=by
 intro b s e H Q I h;refine UnaryOp_ (fH (f b s e H _ I h) λv g qc=>?_);obtain⟨x,H1,I1,r1,d⟩:=qc;obtain⟨c,rfl,d⟩:=d;cases r1;exact not_of (wpAny_truthy_bool ⟨.bl (!c),H1,I1,rfl,d⟩)
end
def cC(K:aC)(H:Hp)(a:AI)(xs:List V):Prop:=
 Rd H a (.lst xs)\/
  ∃(o:Obj) (b:Array AJ) (n:Nat),K.lookup a=some o/\o.cls=.type "list"/\o.dict=none/\o.data=.seq b n/\b.size<=sizeLine/\Vals xs b.toList
def cP(K:aC)(H:Hp)(a:AI)(xs:List V):Prop:=
 Rd H a (.tup xs)\/
  ∃(o:Obj) (b:Array AJ) (n:Nat),K.lookup a=some o/\o.cls=.type "tuple"/\o.data=.seq b n/\b.size<=sizeLine/\Vals xs b.toList
def Zz2:AJ->Option V
 | .none=>some .non
 | .bool b=>some (.bl b)
 | .int i _=>some (.int i)
 | .str x _=>some (.str x)
 | .bytes b _=>some (.byt b)
 | .float b _=>some (.flt b)
 | .ref a=>↑a
 | .type n=>some (.ty n)
 | _=>none
theorem RelV.abs{x:V}{u:AJ}(r:RelV x u):Zz2 u=some x:=by
 cases x with
 | non=>cases r;rfl
 | bl _=>cases r;rfl
 | int _=>obtain⟨t,rfl⟩:=r;rfl
 | str _=>obtain⟨t,rfl⟩:=r;rfl
 | byt _=>obtain⟨t,rfl⟩:=r;rfl
 | flt _=>obtain⟨t,rfl⟩:=r;rfl
 | ref _=>cases r;rfl
 | ty _=>cases r;rfl
theorem RelV.inj{x y:V}{u:AJ}(r:RelV x u)(q:RelV y u):x=y:=Option.some.inj (r.abs.symm.trans q.abs)
theorem Vals.inj{xs a:List V}{us:AC}(h:Vals xs us):Vals a us->xs=a:=by
 induction h generalizing a with
 | nil=>
  intro g;cases g;rfl
 | cons r t b=>
  intro g;cases g with
  | cons d c=>rw[r.inj d,b c]
section
variable {X:Cx}{pins:At}{σ:St}{H:Hp}{s:AK}{a:AI}{xs ys:List V}
theorem cC.of{K:aC}(h:H a=some (.lst xs)):cC K H a xs:=.inl (.inl h)
theorem cP.of{K:aC}(h:H a=some (.tup xs)):cP K H a xs:=.inl (.inl h)
theorem Inv.list(I:Inv X pins σ H s)(h:cC X.K H a xs):∃b:AC,Vals xs b/\PlainL s.heap a b.toArray/\xs.length<=sizeLine:=by
 rcases h with h | ⟨o,b,n,hk,hc,hd,hs,hz,r⟩
 ·obtain⟨z,b,n,r,e⟩:=h.ok I.hok;exact⟨b,r,⟨_,n,e,rfl,rfl,rfl⟩,z⟩
 ·refine⟨b.toList,r,⟨o,n,I.qg a o hk,hc,hd,by simpa using hs⟩,?_⟩;have e:=r.length;simp only[Array.length_toList]at e;omega
theorem Inv.tuple(I:Inv X pins σ H s)(h:cP X.K H a xs):∃b:AC,Vals xs b/\IsTup s.heap a b.toArray/\xs.length<=sizeLine:=by
 rcases h with h | ⟨o,b,n,hk,hc,hs,hz,r⟩
 ·obtain⟨z,b,r,p⟩:=h.ok I.hok;exact⟨b,r,p,z⟩
 ·refine⟨b.toList,r,⟨o,I.qg a o hk,hc,n,by simpa using hs⟩,?_⟩;have e:=r.length;simp only[Array.length_toList]at e;omega
theorem Inv.El(I:Inv X pins σ H s)(h:cC X.K H a xs)(h':cC X.K H a ys):xs=ys:=by
 obtain⟨c,r,⟨o,n,e,_,_,d⟩,_⟩:=I.list h;obtain⟨b,i,⟨j,k,f,_,_,g⟩,_⟩:=I.list h';rw[e]at f;cases f;rw[d]at g
 injection g with d1 _
 have:c=b:=by simpa using congrArg Array.toList d1
 subst this;exact r.inj i
end
abbrev Cx.wish(X:Cx)(E:Ap):Cx:={ X with xe:=E }
abbrev Cx.nox(X:Cx):Cx:=X.wish λ_ _=>False
theorem Cx.Ok.wish{X:Cx}(ok:X.Ok)(E:Ap):(X.wish E).Ok:=
 ⟨ok.mod,ok.kind,ok.glob,ok.blt,ok.above,ok.inj,ok.has,ok.cab,ok.hd,ok.frames,ok.stk,ok.exf,ok.bs,ok.bsz,ok.Z7,ok.Zdq,ok.ur,ok.frf⟩
theorem Cx.Ok.wZ{X:Cx}{E:Ap}(ok:(X.wish E).Ok):X.Ok:=
 ⟨ok.mod,ok.kind,ok.glob,ok.blt,ok.above,ok.inj,ok.has,ok.cab,ok.hd,ok.frames,ok.stk,ok.exf,ok.bs,ok.bsz,ok.Z7,ok.Zdq,ok.ur,ok.frf⟩
section
variable {X:Cx}{pins:At}{σ:St}{H:Hp}{s:AK}{E:Ap}
theorem Inv.wish(I:Inv X pins σ H s)(E:Ap):Inv (X.wish E) pins σ H s:=⟨I.ok.wish E,I.os,I.bare,I.base,I.loc,I.cell,I.free,I.pY,I.pin,I.hok,I.len⟩
theorem Inv.wZ(I:Inv (X.wish E) pins σ H s):Inv X pins σ H s:=⟨I.ok.wZ,I.os,I.bare,I.base,I.loc,I.cell,I.free,I.pY,I.pin,I.hok,I.len⟩
theorem SP.wZ{D:Ends}{f:Flow}{s':AK}(h:SP (X.wish E) pins D f s'):SP X pins D f s':=by
 cases f with
 | next=>obtain⟨a,b,I,q⟩:=h;exact⟨a,b,I.wZ,q⟩
 | brk=>obtain⟨a,b,I,q⟩:=h;exact⟨a,b,I.wZ,q⟩
 | cont=>obtain⟨a,b,I,q⟩:=h;exact⟨a,b,I.wZ,q⟩
 | ret u=>obtain⟨v,a,b,I,r,q⟩:=h;exact⟨v,a,b,I.wZ,r,q⟩
theorem QW.nox{st:List Stmt}{t:TS}(h:QW X.nox st t):QW X st t:=λpins s σ H D I a=>
 wpAny_mono (h pins s σ H D (I.wish _) a) (λ_ _ q=>q.wZ) λ_ _ z=>False.elim z
end
section
variable {X:Cx}{st:Stmt}{rest:List Stmt}{t u:TS}{e:AN}{te:TE}{pos:Pos}
def bM:TS:=λD σ H=>D.nx σ H
def aN(t u:TS):TS:=λD σ H=>t { D with nx:=u D } σ H
theorem aX:QW X [] bM:=λ_ _ σ H _ I h=>wpAny_execs_nil ⟨σ,H,I,h⟩
theorem ao(h1:PS X st t)(h2:QW X rest u):QW X (st::rest) (aN t u):=by
 intro a s g H D I h;refine wpAny_execs_cons (fH (h1 a s g H { D with nx:=u D } I h) λf d q=>?_);cases f with
 | next=>
  obtain⟨b,e,c,q⟩:=q;exact h2 a d b e D c q
 | ret v=>exact q
 | brk=>exact q
 | cont=>exact q
theorem aB(h1:PS X st t):QW X [st] t:=by
 intro a s b H D I h;refine wpAny_execs_cons (fH (h1 a s b H D I h) λf c q=>?_);cases f with
 | next=>exact wpAny_execs_nil q
 | ret v=>exact q
 | brk=>exact q
 | cont=>exact q
def Zc2:TS:=λD σ H=>D.bk σ H
theorem Zjl:PS X (.Break pos) Zc2:=λ_ _ σ H _ I h=>wpAny_Break ⟨σ,H,I,h⟩
theorem Inv.quiet{pins:At}{σ:St}{H:Hp}{s:AK}(I:Inv X pins σ H s):interactive X.env=false:=by simp[interactive,I.ok.kind]
def mC(te:TE):TS:=λD σ H=>te σ H λ_ a=>D.nx σ a
theorem iy(c:PE X e te)(hs:swapsWith e none pos.line X.env=pure false:=by rfl):PS X (.Expr e pos) (mC te):=by
 intro a s b H D I h;exact wpAny_Expr_any (fH (c a s b H _ I h) (by rintro v d ⟨x,H1,I1,r1,q1⟩;exact⟨b,H1,I1,q1⟩)) I.quiet hs
def bz(te:TE):TS:=λD σ H=>te σ H D.rt
theorem aH(c:PE X e te):PS X (.Return (some e) pos) (bz te):=by
 intro a s b H D I h;exact wpAny_Return_some (fH (c a s b H _ I h) (by rintro v d ⟨x,H1,I1,r1,q1⟩;exact⟨x,b,H1,I1,r1,q1⟩))
def cX(c:TT)(t u:TS):TS:=λD σ H=>c σ H λb a=>if b=true then t D σ a else u D σ a
theorem bO{c:AN}{a b:List Stmt}{tc:TT}(hc:PT X c tc)(j:QW X a t)(hb:QW X b u):PS X (.If c a b pos) (cX tc t u):=by
 intro e s f H D I h;refine wpAny_If (fH (hc e s f H _ I h) λd i qc=>?_);obtain⟨g,I1,q1⟩:=qc;cases d with
 | true=>exact j e i f g D I1 q1
 | false=>exact hb e i f g D I1 q1
end
abbrev TG:=V->St->Hp->(ν)->Prop
abbrev TGs:=List V->St->Hp->(ν)->Prop
def PG(X:Cx)(a:AN)(t:TG):Prop:=
 ∀(pins:At) (s:AK) (σ:St) (H:Hp) (v:V) (u:AJ) (Q:ν),Inv X pins σ H s->RelV v u->t v σ H Q->
  wpAny ς X.A (assign a X.env u) (λ_ s'=>∃ b H',Inv X pins b H' s'/\Q b H') X.xe s
def PGs(X:Cx)(ts:AG)(t:TGs):Prop:=
 ∀(pins:At) (s:AK) (σ:St) (H:Hp) (vs:List V) (us:AC) (Q:ν),Inv X pins σ H s->Vals vs us->t vs σ H Q->
  wpAny ς X.A (assignInOrder ((assignEach ts X.env).map (·.2)) us) (λ_ s'=>∃ a H',Inv X pins a H' s'/\Q a H') X.xe s
abbrev Zpd:=V->V->V->Hp->(Hp->Prop)->Prop
def Zvc(X:Cx)(t:Zpd):Prop:=
 ∀(pins:At) (s:AK) (σ:St) (H:Hp) (o i v:V) (a b u:AJ) (Q:Hp->Prop),Inv X pins σ H s->RelV o a->RelV i b->RelV v u->t o i v H Q->
  wpAny ς X.A (setItem a b u) (λ_ s'=>∃H',Inv X pins σ H' s'/\Q H') X.xe s
abbrev TIp:=V->V->Hp->VK->Prop
def PIp(X:Cx)(a:Operator)(t:TIp):Prop:=
 ∀(pins:At) (s:AK) (σ:St) (H:Hp) (x y:V) (v u:AJ) (Q:VK),Inv X pins σ H s->RelV x v->RelV y u->t x y H Q->
  wpAny ς X.A (inplaceOp a v u) de X.xe s
section
variable {X:Cx}{pos:Pos}
def aP(i:Nat):TG:=λv σ H Q=>Q (σ.set i (some v)) H
theorem eV{i:Nat}{x:Str}(hN:X.N.Nodup)(hi:X.N[i]? =some x)(hx:Loc X.env.scope x)(c:X.fn x=true\/X.env.scope.names.lookup x=some .local:=by first | exact .inl rfl | exact .inr rfl | assumption):PG X (.Name x pos) (aP i):=by
 intro a s e H v u Q I r h;exact wpAny_assign_Name (Mf I hN hi hx r (λd b=>⟨_,H,b,h⟩) c)
def Zdo:TGs:=λvs σ H Q=>vs=[]/\Q σ H
def uq(t:TG)(u:TGs):TGs:=λvs σ H Q=>∃v r,vs=v::r/\t v σ H λa H'=>u r a H' Q
theorem yQ:PGs X [] Zdo:=by
 intro a s b H c us Q I r h;obtain⟨e,h⟩:=h;subst e;cases r;exact assignInOrder_nil ⟨b,H,I,h⟩
theorem jq{e:AN}{b:AG}{t:TG}{u:TGs}(h1:PG X e t)(h2:PGs X b u)
  (hs:(assignEach (e::b) X.env).map (·.2)=assign e X.env::(assignEach b X.env).map (·.2):=by rfl):PGs X (e::b) (uq t u):=by
 intro a s i H j us Q I r h;obtain⟨v,k,f,h⟩:=h;subst f;cases r with
 | cons r d=>
  rw[hs];refine assignInOrder_cons (fH (h1 a s i H _ _ _ I r h) λ_ g qc=>?_);obtain⟨c,H1,I1,q1⟩:=qc;exact h2 a g c H1 _ _ Q I1 d q1
def Zdn(K:aC)(n:Nat)(t:TGs):TG:=λv σ H Q=>∃a xs,v=.ref a/\cP K H a xs/\xs.length=n/\t xs σ H Q
theorem Gz{d:AG}{k:Nat}{t:TGs}{n:Nat}(hc:X.calm=true)(h:PGs X d t)
  (hn:(assignEach d X.env).length=n:=by rfl) (g:(assignEach d X.env).findIdx? (·.1)=none:=by rfl):PG X (.Tuple d k pos) (Zdn X.K n t):=by
 intro c s j H v u Q I r f;obtain⟨a,x,l,hq,hl,f⟩:=f;subst l;cases r;obtain⟨m,i,p,hz⟩:=I.tuple hq;refine assign_Tuple_tuple (I.ok.hd hc) p (by simp[hn,<- hl,i.length]) g λw hx=>?_;have q:Inv X c j H { s with heap:=w }:=I.kept (t':=s.toks) λb o e=>hx b o (Nat.ne_of_lt (Heap.lt_size e)) e;exact h c _ j H x _ Q q (by simpa using i) f
def wQ(to d:TE)(t:Zpd):TG:=λv σ H Q=>to σ H λo a=>d σ a λi c=>t o i v c λb=>Q σ b
theorem j7{o i:AN}{to e:TE}{t:Zpd}(g:PE X o to)(hi:PE X i e)(hs:Zvc X t)
  (l:∀v,assign (.Subscript o i pos) X.env v=(do
   let b <- holding [v] (eval o X.env)
   let c <- holding [v,b] (eval i X.env)
   standAt pos
   holding [v,b,c] (setItem b c v)
   release [v,b,c] []):=by intro _;rfl):PG X (.Subscript o i pos) (wQ to e t):=by
 intro a s d H v u Q I r h;rw[l];refine wpAny_bind (wpAny_holding (fH (g a s d H _ I h) λb j qc=>?_));obtain⟨x,H1,I1,r1,q1⟩:=qc;refine wpAny_bind (wpAny_holding (fH (hi a j d H1 _ I1 q1) λc f qc=>?_));obtain⟨y,H2,I2,r2,q2⟩:=qc;refine wpAny_bind (wpAny_standAt (wpAny_bind (wpAny_holding (fH (hs a f d H2 x y v b c u _ I2 r1 r2 r q2) λ_ m qc=>?_))));obtain⟨k,I3,q3⟩:=qc;exact wpAny_release ⟨d,k,I3,q3⟩
def bC(b:TE)(g:TG):TS:=λD σ H=>b σ H λx a=>g x σ a D.nx
theorem j6{tg e:AN}{c:TE}{g:TG}(i:PE X e c)(hg:PG X tg g)(hs:swapsWithSole [tg] e pos.line X.env=pure false:=by rfl)(d:swappedStores [tg] e X.env=pure none:=by rfl)
  (h1:(assignEach [tg] X.env).map (·.2)=[assign tg X.env]:=by rfl):PS X (.Assign [tg] e pos) (bC c g):=by
 intro a s b H D I h;refine wpAny_Assign_stores (fH (i a s b H _ I h) λv f qc=>?_) hs d;obtain⟨x,H1,I1,r1,q1⟩:=qc;rw[h1];exact fH (hg a f b H1 x v _ I1 r1 q1) λ_ j q=>q
theorem Zcm{i:Nat}{x:Str}{e:AN}{c:TE}{a:Pos}(hN:X.N.Nodup)(hi:X.N[i]? =some x)(hx:Loc X.env.scope x)(f:PE X e c)(hs:swapsWith e (some (.Name x a)) pos.line X.env=pure false:=by rfl)(d:X.fn x=true\/X.env.scope.names.lookup x=some .local:=by first | exact .inl rfl | exact .inr rfl | assumption):
  PS X (.Assign [.Name x a] e pos) (bC c (aP i)):=by
 intro b s g H D I h;refine wpAny_Assign_Name (fH (f b s g H _ I h) λv l qc=>?_) hs;obtain⟨y,H1,I1,r1,q1⟩:=qc;exact Mf I1 hN hi hx r1 (λk j=>⟨_,H1,j,q1⟩) d
def Zqn(i:Nat)(d:TE)(c:TIp):TS:=λD σ H=>∃x,σ[i]? =some (some x)/\d σ H λy a=>c x y a λz b=>D.nx (σ.set i (some z)) b
theorem Zjm{i:Nat}{x:Str}{e:AN}{q:TE}{n:Operator}{p:TIp}{d:Pos}(hN:X.N.Nodup)(hi:X.N[i]? =some x)(hx:Loc X.env.scope x)(J:PE X e q)(t:PIp X n p)(E:X.fn x=true\/X.env.scope.names.lookup x=some .local:=by first | exact .inl rfl | exact .inr rfl | assumption):
  PS X (.AugAssign (.Name x d) n e pos) (Zqn i q p):=by
 intro a s o H D I h;obtain⟨v,B,h⟩:=h;obtain⟨m,hn,hl⟩:=I.loc;have j:Vis X.env.scope x:=by rcases hx with k | k;exact .inl k;exact .inr (.inl k)
 obtain⟨u,r,l⟩:=hl i x v hi B j;refine wpAny_AugAssign_Name ?_;have go:wpAny ς X.A (eval e X.env) (λw g=>wpAny ς X.A (inplaceOp n u w) (λr f=>wpAny ς X.A (storeName X.env x r) (λ_=>SP X a D .next) X.xe f) X.xe g) X.xe s:=by
  refine fH (J a s o H _ I h) λw F qc=>?_;obtain⟨y,H1,I1,r1,q1⟩:=qc;refine fH (t a F o H1 v y u w _ I1 r r1 q1) λz K qc=>?_;obtain⟨M,H2,I2,r2,q2⟩:=qc;exact Mf I2 hN hi hx r2 (λL C=>⟨_,H2,C,q2⟩) E
 rcases l with ⟨hk,hm⟩ | ⟨hk,c,hc,b⟩
 ·exact wpAny_loadName_local I.ok.kind hk hn hm go
 ·rcases hk with hk | hk
  ·exact wpAny_loadName_cell I.ok.kind hk hc b go
  ·rcases hx with k | k
   ·have:X.env.scope.names.lookup x=some .free:=hk;rw[k]at this;cases this
   ·have:X.env.scope.names.lookup x=some .free:=hk;rw[k]at this;cases this
end
section
variable {X:Cx}{pos:Pos}
def Wj(c:TT)(tb:TS):TS:=λD σ H=>∃W:Nat->ν,(∃m,W m σ H)/\∀m σ H,W m σ H->
 c σ H λb d=>if b=true then ∃N:ν,(∀ a H',N a H'->∃e,e<m/\W e a H')/\tb { D with nx:=N,ct:=N,bk:=D.nx } σ d else D.nx σ d
theorem Nt{c:AN}{g:List Stmt}{tc:TT}{tb:TS}(hp:PassesOwn ς X.A X.env X.xe)(hc:PT X c tc)(hb:QW X g tb):PS X (.While c g [] pos) (Wj tc tb):=by
 intro d s B H D I h;obtain⟨W,⟨y,w0⟩,turn⟩:=h;refine wpAny_While (codeAny_whileLoop (λn z=>∃ j r,Inv X d j r z/\W n j r) ?_ y ⟨B,H,I,w0⟩);rintro n u ⟨e,p,x,w1⟩;refine wpAny_passesOwn hp (fH (hc d u e p _ x (turn n e p w1)) λb t qc=>?_);obtain⟨q,I2,l⟩:=qc;cases b with
 | true=>
  obtain⟨N,hN,l⟩:=l;rw[if_pos rfl];refine wpAny_passesOwn hp (fH (hb d t e q _ I2 l) λf C k=>?_);cases f with
  | next=>
   obtain⟨a,i,m,n3⟩:=k;obtain⟨o,hm,w3⟩:=hN a i n3;exact⟨o,hm,a,i,m,w3⟩
  | cont=>
   obtain⟨a,i,m,n3⟩:=k;obtain⟨o,hm,w3⟩:=hN a i n3;exact⟨o,hm,a,i,m,w3⟩
  | brk=>exact k
  | ret v=>exact k
 | false=>
  rw[if_neg Bool.false_ne_true];exact wpAny_execs_nil ⟨e,q,I2,l⟩
end
structure It where
 go:Nat->Hp->Prop
 Zf:Nat->Hp->V->Hp->Prop
 stop:Nat->Hp->Prop
def oE(X:Cx)(pins:At)(H:Hp)(b:AI):Prop:=
 H b=none/\b≠X.env.locals/\b∉X.fs/\(b∈X.ex\/X.s₀.heap.objs.size<=b)/\(∀x c,X.env.cells.lookup x=some c->c≠b)/\∀p∈X.pn++pins,p.1≠b
theorem Inv.Yp{X:Cx}{pins:At}{σ:St}{H H':Hp}{s:AK}{b:AI}(I:Inv X pins σ H s)(hb:s.heap.objs.size<=b)(hn:H' b=none):oE X pins H' b:=by
 refine⟨hn,Nat.ne_of_gt (Nat.lt_of_lt_of_le I.lt hb),I.Zvv hb,.inr (Nat.le_trans I.sz hb),λx c e z=>?_,λp hp z=>?_⟩
 ·obtain⟨v,q⟩:=I.cell x c e;exact absurd (Nat.lt_of_lt_of_le q.lt (by rw[z];exact hb)) (Nat.lt_irrefl _)
 ·exact absurd (Nat.lt_of_lt_of_le (Heap.lt_size (I.pin p hp).1) (by rw[z];exact hb)) (Nat.lt_irrefl _)
structure Turn(P:AM)(w:AO)(K:aC)(tg:AN)(J:It)(fp:AF)(it:AI)(tn:Nat->Heap->Prop):Prop where
  mem:it∈fp
  obj:∀i h,tn i h->∀b∈fp,∃o,h.get? b=some o/\∀v,o.data≠.cell v
  keep:∀i h h',tn i h->(∀b∈fp,∀o,h.get? b=some o->h'.get? b=some o)->tn i h'
  item:∀(X:Cx),X.prog=P->X.w=w->X.K=K->X.calm=true->∀(i:Nat) (pins:At) (s:AK) (σ:St) (H:Hp) (E:Ap),Inv X pins σ H s->(∀b∈fp,oE X pins H b)->tn i s.heap->J.go i H->
    wpAny (model P w) X.A (pyNext (.ref it)) (λr s1=>∃u,r=some u/\
      wpAny (model P w) X.A (letOwnedTupleGo tg (.ref it) u) (λ_ s2=>∃x H',Inv X pins σ H' s2/\RelV x u/\J.Zf i H x H'/\tn br s2.heap/\∀b∈fp,H' b=none) E s1) E s
  done:∀(X:Cx),X.prog=P->X.w=w->X.K=K->X.calm=true->∀(i:Nat) (pins:At) (s:AK) (σ:St) (H:Hp) (E:Ap),Inv X pins σ H s->(∀b∈fp,oE X pins H b)->tn i s.heap->J.stop i H->
    wpAny (model P w) X.A (pyNext (.ref it)) (λr s1=>r=none/\Inv X pins σ H s1) E s
  self:∀(A:Around) (i:Nat) (s:AK) (Q:Ap) (E:Ap),tn i s.heap->Q (.ref it) s->wpAny (model P w) A (pyIter (.ref it)) Q E s
abbrev TI:=St->Hp->(It->Hp->Prop)->Prop
def PIE(X:Cx)(pins:At)(σ:St)(tg:AN)(R:It->Hp->Prop)(a:AJ)(c:AK):Prop:=
 ∃(e:AI) (d:AF) (tn:Nat->Heap->Prop) (J:It) (H':Hp),a=.ref e/\Inv X pins σ H' c/\Turn X.prog X.w X.K tg J d e tn/\tn 0 c.heap/\(∀b∈d,oE X pins H' b)/\R J H'
def PI(X:Cx)(tg iter:AN)(b:TI):Prop:=
 ∀(pins:At) (s:AK) (σ:St) (H:Hp) (R:It->Hp->Prop),Inv X pins σ H s->b σ H R->
  wpAny ς X.A (eval iter X.env) (λv a=>wpAny ς X.A (pyIter v) (PIE X pins σ tg R) X.xe a) X.xe s
theorem Zfr{M:Model}{A:Around}{E:Ap}{s:AK}{tg:AN}{b:AI}{u:AJ}{o:Obj}{n:String}{vs:Array AJ}{Q:Unit->AK->Prop}(c:s.heap.get? b=some o)(hc:o.cls=.type n)(hd:o.data=.fields vs)
    (hn:["enumerate","zip","dict_itemiterator","dict_reverseitemiterator","odict_iterator","itertools.zip_longest","itertools.pairwise"].contains n=false) (a:Q () s):wpAny M A (letOwnedTupleGo tg (.ref b) u) Q E s:=by
  unfold letOwnedTupleGo;cases tg<;>first
    | exact wpAny_pure a
    | (cases u<;>first
        | exact wpAny_pure a
        | (refine wpAny_bind (wpAny_load c ?_)
           rw[hc,hd];show wpAny M A (if (["enumerate","zip","dict_itemiterator","dict_reverseitemiterator","odict_iterator","itertools.zip_longest","itertools.pairwise"].contains n && vs[0]? == some (rawInt _))=true then _ else _) Q E s;rw[if_neg (by intro h;rw[hn,Bool.false_and]at h;cases h)];exact wpAny_pure a))
def Itl(K:aC)(a:AI):It:=
 ⟨λi H=>∃xs x,cC K H a xs/\xs[i]? =some x,λi H x H'=>H'=H/\∀xs,cC K H a xs->xs[i]? =some x,λi H=>∃xs,cC K H a xs/\xs.length<=i⟩
def Itr(lo:Int)(n:Nat):It:=⟨λi _=>i<n,λi H x H'=>H'=H/\x=.int (lo+i),λi _=>n<=i⟩
theorem Zgi{P:AM}{w:AO}{K:aC}{tg:AN}(a g:AI):Turn P w K tg (Itl K a) [g] g (λi h=>h.IsListIter g a i) where
  mem:=ζ
  obj:=λi h st b hb=>by
    have e:b=g:=by simpa using hb
    subst e;obtain⟨o,e,c,d⟩:=st;exact⟨o,e,λv z=>by rw[d]at z;cases z⟩
  keep:=λi h m st k=>st.at λo e=>k g ζ o e
  item:=by
    intro X F r A hc i f s J H E I l st hg;subst F r A;obtain⟨L,x,hq,hx⟩:=hg;obtain⟨B,C,p,hz⟩:=I.list hq;obtain⟨u,hu,M⟩:=C.get hx;obtain⟨t,n,O,y,D,q⟩:=l g ζ;refine wpAny_pyNext_list_item st p.isList (x:=u) (by simpa using hu) λm j sb=>?_;have N:Inv X f J H { s with heap:=m }:=I.turned (t':=s.toks) (λb o hb e=>(sb.2 b hb).trans e) t n y D q;obtain⟨o,e,c,d⟩:=id j;exact⟨u,rfl,Zfr (s:={ s with heap:=m }) e c d ε ⟨x,H,N,M,⟨rfl,λR hy=>by rw[I.El hy hq];exact hx⟩,j,λb hb=>(l b hb).1⟩⟩
  done:=by
    intro X F r A hc i f s J H E I l st hg;subst F r A;obtain⟨L,hq,hx⟩:=hg;obtain⟨B,C,p,hz⟩:=I.list hq;obtain⟨t,n,O,y,D,q⟩:=l g ζ;have hl:=C.length;exact wpAny_pyNext_list_end (I.ok.hd hc) st p.isList (by simp;omega) λm Q=>⟨rfl,I.turned (t':=s.toks) (λb o hb e=>Q b o hb e) t n y D q⟩
  self:=λ_ _ _ _ _ st h=>wpAny_pyIter_listiter st h
theorem Zbw{P:AM}{w:AO}{K:aC}{tg:AN}(c:AI)(lo:Int)(n:Nat):Turn P w K tg (Itr lo n) [c] c (λi h=>IsRangeIter h c (lo+(i:Nat) * 1) ((n:Int) - (i:Nat)) 1) where
  mem:=ζ
  obj:=λi h st b hb=>by
    have e:b=c:=by simpa using hb
    subst e;exact⟨_,st,λv z=>by
      have A:Data.fields _=Data.cell v:=z;cases A⟩
  keep:=λi h g st k=>k c ζ _ st
  item:=by
    intro X x m r hc i a s y H E I f st hg;subst x m r;obtain⟨p,j,C,q,u,l⟩:=f c ζ;have W:=Walks.range (prog:=X.prog) (w:=X.w) (I.ok.hd hc) c lo 1 n;refine W.item i s _ _ hg st λv g tk hv d kk=>?_;obtain⟨t,rfl⟩:=hv;have B:Inv X a y H { s with heap:=g,toks:=tk }:=I.turned (λb o hb e=>kk b o (by simpa using hb) e) p j q u l;refine⟨_,rfl,Zfr (s:={ s with heap:=g,toks:=tk }) (n:="range_iterator") d rfl rfl ε ⟨.int (lo+i),H,B,⟨t,?_⟩,⟨rfl,rfl⟩,d,λb hb=>(f b hb).1⟩⟩;rw[Int.mul_one]
  done:=by
    intro X x m r hc i a s y H E I f st hg;subst x m r;obtain⟨p,j,C,q,u,l⟩:=f c ζ;exact wpAny_pyNext_range_end (I.ok.hd hc) st (by have:n<=i:=hg;omega) λg D=>⟨rfl,I.turned (t':=s.toks) (λb o hb e=>D b o hb e) p j q u l⟩
  self:=λ_ _ _ _ _ st h=>wpAny_pyIter_rangeiter st h
section
variable {X:Cx}{tg:AN}
def rB(K:aC)(tl:TE):TI:=λσ H R=>tl σ H λx b=>∃a,x=.ref a/\(∃xs,cC K b a xs)/\R (Itl K a) b
theorem lq{l:AN}{tl:TE}(hl:PE X l tl):PI X tg l (rB X.K tl):=by
 intro c s g H R I h;refine fH (hl c s g H _ I h) λv d qc=>?_;obtain⟨x,H1,I1,r1,q1⟩:=qc;obtain⟨a,e,⟨j,hq⟩,q⟩:=q1;subst e;cases r1;obtain⟨f,i,p,hz⟩:=I1.list hq;refine wpAny_pyIter_list p.isList ?_;refine⟨d.heap.objs.size,[d.heap.objs.size],_,_,H1,rfl,I1.kept (t':=d.toks) λb o e=>Heap.get?_push_of_some _ e,Zgi a _,⟨_,Heap.get?_push_size _ rfl,rfl,rfl⟩,λb hb=>?_,q⟩;have e:b=d.heap.objs.size:=by simpa using hb
 subst e;exact I1.Yp υ (I1.hok.fresh υ)
theorem Zjd{pins:At}{σ:St}{H:Hp}{s:AK}{R:It->Hp->Prop}{E:Ap}{lo hi:Int}{t u v:Tok}{tk:Nat}(I:Inv X pins σ H s)(h1:-(2 ^ 62)<=lo)(h2:lo<2 ^ 62)(d:-(2 ^ 62)<=hi)(h4:hi<2 ^ 62)
  (q:R (Itr lo (hi - lo).toNat) H):wpAny ς X.A (pyIter (.ref s.heap.objs.size)) (PIE X pins σ tg R) E { s with heap:=s.heap.push { cls:=.type "range",data:=.fields #[.int lo t,.int hi u,.int 1 v] },toks:=tk }:=by
 refine wpAny_pyIter_range (IsRange.new ..) (small_one h1 h2 d h4) ?_;have a:Inv X pins σ H { s with heap:=s.heap.push { cls:=.type "range",data:=.fields #[.int lo t,.int hi u,.int 1 v] },toks:=tk }:=I.kept λb o e=>Heap.get?_push_of_some _ e;refine⟨(s.heap.push { cls:=.type "range",data:=.fields #[.int lo t,.int hi u,.int 1 v] }).objs.size,[(s.heap.push { cls:=.type "range",data:=.fields #[.int lo t,.int hi u,.int 1 v] }).objs.size],_,_,H,rfl,
  a.kept (t':=tk) λb o e=>Heap.get?_push_of_some _ e,Zbw _ lo (hi - lo).toNat,?_,λb hb=>?_,q⟩
 ·have c:lo+((0:Nat):Int) * 1=lo:=ζ
  have f:(((hi - lo).toNat:Nat):Int) - ((0:Nat):Int)=Builtin.Range.rangeSize lo hi 1:=by rw[rangeSize_one];split<;>omega
  show IsRangeIter _ _ (lo+((0:Nat):Int) * 1) ((((hi - lo).toNat:Nat):Int) - ((0:Nat):Int)) 1;rw[c,f];exact Heap.get?_push_size _ rfl
 ·have e:b=(s.heap.push { cls:=.type "range",data:=.fields #[.int lo t,.int hi u,.int 1 v] }).objs.size:=by simpa using hb
  subst e;exact a.Yp υ (a.hok.fresh υ)
def Zap(ta:TA):TI:=λσ H R=>ta σ H λvs a=>∃j:Int,vs=[.int j]/\-(2 ^ 62)<=j/\j<2 ^ 62/\R (Itr 0 j.toNat) a
theorem Gy{a:AN}{ta:TA}{p b:Pos}(hg:Gl X "range")(hm:X.mg "range"=none)(k:PA X [a] ta)(hs:starEach [a] X.env=[(false,eval a X.env)]:=by rfl):PI X tg (.Call (.Name "range" p) [a] [] b) (Zap ta):=by
 intro c s i H R I h;refine Call_ (G4 I hg hm boot_range (PyProof.Rows.callWith_type1 (fH (k b c s i H _ I h) λus m qc=>?_) hs rfl));obtain⟨l,H1,I1,r1,d⟩:=qc;obtain⟨j,e,d,g,q⟩:=d;subst e;cases r1 with
 | cons r f=>
  cases f;obtain⟨t,rfl⟩:=r;exact call_range_1 (Zjd I1 δ δ d g (by simpa using q))
def yZ(f:TI)(g:TG)(tb:TS):TS:=λD σ H=>f σ H λJ d=>∃W:Nat->Nat->ν,(∃m,W 0 m σ d)/\∀i m σ H,W i m σ H->
 (J.stop i H/\D.nx σ H)\/(J.go i H/\∃N:ν,(∀ a H',N a H'->∃c,c<m/\W br c a H')/\∀x H',J.Zf i H x H'->g x σ H' λb e=>tb { D with nx:=N,ct:=N,bk:=D.nx } b e)
def Aq(a:AF)(h:Heap):At:=a.filterMap λb=>(h.get? b).map λo=>(b,o)
theorem pQ{a:AF}{h:Heap}{b:AI}{o:Obj}(hb:b∈a)(e:h.get? b=some o):(b,o)∈Aq a h:=List.mem_filterMap.mpr ⟨b,hb,by rw[e];rfl⟩
theorem Vc{a:AF}{h:Heap}{p:AI×Obj}(hp:p∈Aq a h):p.1∈a/\h.get? p.1=some p.2:=by
 obtain⟨b,hb,e⟩:=List.mem_filterMap.mp hp;cases q:h.get? b with
 | none=>rw[q]at e;cases e
 | some o=>
  rw[q]at e;have c:(b,o)=p:=Option.some.inj e;subst c;exact⟨hb,q⟩
theorem Inv.pinned{pins:At}{σ:St}{H:Hp}{s:AK}{a:AF}(I:Inv X pins σ H s)(i:∀b∈a,oE X pins H b)(g:∀b∈a,∃o,s.heap.get? b=some o/\∀v,o.data≠.cell v):Inv X (pins++Aq a s.heap) σ H s:=
 I.Dm λp hp=>(List.mem_append.mp hp).elim (λz=>I.pin p (List.mem_append_right _ z)) λz=>by
  obtain⟨hb,e⟩:=Vc z;obtain⟨h,f,j,_⟩:=i p.1 hb;obtain⟨o,c,d⟩:=g p.1 hb;rw[e]at c;cases c;exact⟨e,h,f,j,d⟩
theorem Inv.Ly{pins pl:At}{σ:St}{H:Hp}{s:AK}(I:Inv X (pins++pl) σ H s):Inv X pins σ H s:=I.Dm λp hp=>I.pin p (List.mem_append_right _ (List.mem_append_left _ hp))
theorem lY{iter:AN}{y:List Stmt}{V:TI}{g:TG}{tb:TS}{K:Pos}(hp:PassesOwn ς X.A X.env X.xe)(hc:X.calm=true)(hi:PI X tg iter V)(hg:PG X tg g)(hb:QW X y tb)
  (hs:∀x,foldedSetIterable iter X.env x=pure x:=by intro _;rfl):PS X (.For tg iter y [] K) (yZ V g tb):=by
 intro c s U H D I h;refine wpAny_For (fH (hi c s U H _ I h) λv s1 h1=>fH h1 λY s2 h2=>?_) hs;obtain⟨it,C,tn,J,H2,e,I2,T,st2,P,W,⟨m0,w0⟩,turn⟩:=h2;subst e;have l:∀{t:Hp},(∀b∈C,t b=none)->∀b∈C,oE X c t b:=λhn b hb=>⟨hn b hb,(P b hb).2⟩;refine codeAny_forLoop_any (λn S=>∃i k t,Inv X c k t S/\tn i S.heap/\(∀b∈C,t b=none)/\W i n k t) ?_ m0 ⟨0,U,H2,I2,st2,λb hb=>(P b hb).1,w0⟩;rintro n Q ⟨i,j,E,O,st3,B,w3⟩;rcases turn i n j E w3 with ⟨stop,qn⟩ | ⟨go,N,hN,step⟩
 ·refine wpAny_passesOwn hp (fH (T.done X rfl rfl rfl hc i c Q j E X.xe O (l B) st3 stop) λr s4 qc=>?_);obtain⟨hr,I4⟩:=qc;subst hr;exact wpAny_execs_nil ⟨j,E,I4,qn⟩
 ·refine wpAny_passesOwn hp (fH (T.item X rfl rfl rfl hc i c Q j E X.xe O (l B) st3 go) λr s4 qc=>?_);obtain⟨u,hr,h4⟩:=qc;subst hr;refine wpAny_passesOwn hp (fH h4 λ_ R qc=>?_);obtain⟨x,H5,I5,r5,y5,st5,fr5⟩:=qc;have F:=I5.pinned (l fr5) (T.obj _ _ st5);refine wpAny_passesOwn hp (fH (hg _ R j H5 x u _ F r5 (step x H5 y5)) λ_ s6 qc=>?_);obtain⟨L,H6,I6,q6⟩:=qc;refine wpAny_passesOwn hp (fH (hb _ s6 L H6 _ I6 q6) λf M z=>?_);have again:∀{a:St}{p:Hp},Inv X (c++Aq C R.heap) a p M->N a p->∃m,m<n/\∃i k t,Inv X c k t M/\tn i M.heap/\(∀b∈C,t b=none)/\W i m k t:=λ{a p} q n7=>by
   obtain⟨m',hm,w7⟩:=hN a p n7;refine⟨m',hm,i+1,a,p,q.Ly,T.keep _ _ _ st5 λb hb o e=>(q.pin (b,o) dr).1,λb hb=>?_,w7⟩;obtain⟨o,e,d⟩:=T.obj _ _ st5 b hb;exact(q.pin (b,o) dr).2.1
  cases f with
  | next=>obtain⟨a,p,q,n7⟩:=z;exact again q n7
  | cont=>obtain⟨a,p,q,n7⟩:=z;exact again q n7
  | brk=>obtain⟨a,p,q,z⟩:=z;exact⟨a,p,q.Ly,z⟩
  | ret v=>obtain⟨Z,a,p,q,r7,z⟩:=z;exact⟨Z,a,p,q.Ly,r7,z⟩
end
theorem Zlw{K:aC}{a:AI}{xs:List V}{g:TG}{tb:TS}{D:Ends}{σ:St}{H:Hp}(Pv:Nat->ν)(h0:Pv 0 σ H)(hl:∀i σ H,i<=xs.length->Pv i σ H->cC K H a xs)
  (hs:∀i x σ H,xs[i]? =some x->Pv i σ H->g x σ H λb f=>tb { D with nx:=Pv br,ct:=Pv br,bk:=D.nx } b f) (hd:∀ σ H,Pv xs.length σ H->D.nx σ H):
  ∃W:Nat->Nat->ν,(∃m,W 0 m σ H)/\∀i m σ H,W i m σ H->
   ((Itl K a).stop i H/\D.nx σ H)\/((Itl K a).go i H/\∃N:ν,(∀ c H',N c H'->∃h,h<m/\W br h c H')/\∀x H',(Itl K a).Zf i H x H'->g x σ H' λb f=>tb { D with nx:=N,ct:=N,bk:=D.nx } b f):=by
 refine⟨λi m σ H=>m=xs.length - i/\i<=xs.length/\Pv i σ H,⟨xs.length,ζ,Nat.zero_le _,h0⟩,?_⟩;rintro i m σ H ⟨rfl,hi,p⟩;have q:=hl i σ H hi p
 by_cases d:i<xs.length
 ·refine .inr ⟨⟨xs,xs[i],q,by simp[d]⟩,Pv br,λc H' j=>⟨xs.length - br,δ,rfl,d,j⟩,λx H' y=>?_⟩;obtain⟨e,y⟩:=y;subst e;exact hs i x σ _ (y xs q) p
 ·have e:i=xs.length:=δ
  subst e;exact .inl ⟨⟨xs,q,Nat.le_refl _⟩,hd σ H p⟩
theorem Zi2{lo:Int}{n:Nat}{g:TG}{tb:TS}{D:Ends}{σ:St}{H:Hp}(Pv:Nat->ν)(h0:Pv 0 σ H)
  (hs:∀i σ H,i<n->Pv i σ H->g (.int (lo+i)) σ H λa d=>tb { D with nx:=Pv br,ct:=Pv br,bk:=D.nx } a d) (hd:∀ σ H,Pv n σ H->D.nx σ H):
  ∃W:Nat->Nat->ν,(∃m,W 0 m σ H)/\∀i m σ H,W i m σ H->
   ((Itr lo n).stop i H/\D.nx σ H)\/((Itr lo n).go i H/\∃N:ν,(∀ b H',N b H'->∃f,f<m/\W br f b H')/\∀x H',(Itr lo n).Zf i H x H'->g x σ H' λa d=>tb { D with nx:=N,ct:=N,bk:=D.nx } a d):=by
 refine⟨λi m σ H=>m=n - i/\i<=n/\Pv i σ H,⟨n,ζ,Nat.zero_le _,h0⟩,?_⟩;rintro i m σ H ⟨rfl,hi,p⟩
 by_cases c:i<n
 ·refine .inr ⟨c,Pv br,λb H' h=>⟨n - br,δ,rfl,c,h⟩,λx H' y=>?_⟩;obtain⟨e,y⟩:=y;subst e y;exact hs i σ _ c p
 ·have e:i=n:=δ
  subst e;exact .inl ⟨Nat.le_refl _,hd σ H p⟩
abbrev R2:=V->V->Hp->VK->Prop
def wU(X:Cx)(f:AJ->AJ->Sem AJ)(r:R2):Prop:=
 ∀(pins:At) (s:AK) (σ:St) (H:Hp) (x y:V) (v u:AJ) (Q:VK),Inv X pins σ H s->RelV x v->RelV y u->r x y H Q->
  wpAny ς X.A (f v u) de X.xe s
def UnR(X:Cx)(f:AJ->Sem AJ)(r:V->Hp->VK->Prop):Prop:=
 ∀(pins:At) (s:AK) (σ:St) (H:Hp) (x:V) (v:AJ) (Q:VK),Inv X pins σ H s->RelV x v->r x H Q->
  wpAny ς X.A (f v) de X.xe s
def Gk(X:Cx)(f:AJ)(r:List V->Hp->VK->Prop):Prop:=
 ∀(pins:At) (s:AK) (σ:St) (H:Hp) (xs:List V) (us:AC) (Q:VK),Inv X pins σ H s->Vals xs us->r xs H Q->
  wpAny ς X.A (call f us) de X.xe s
def Zz3(X:Cx)(r:V->Hp->(Bool->Hp->Prop)->Prop):Prop:=
 ∀(pins:At) (s:AK) (σ:St) (H:Hp) (x:V) (v:AJ) (Q:Bool->Hp->Prop),Inv X pins σ H s->RelV x v->r x H Q->
  wpAny ς X.A (truthy v) (TP X pins σ Q) X.xe s
def aZ(r:R2)(ta tb:TE):TE:=λσ H Q=>ta σ H λx a=>tb σ a λy b=>r x y b Q
def tUn(r:V->Hp->VK->Prop)(ta:TE):TE:=λσ H Q=>ta σ H λx a=>r x a Q
def rI(C:Int->Int->Prop)(g:Int->Int->V):R2:=λx y H Q=>∃i j,x=.int i/\y=.int j/\C i j/\Q (g i j) H
def kj(g:Int->Int->V):R2:=λx y H Q=>∃i j,x=.int i/\y=.int j/\Q (g i j) H
def rU(g:Int->V):V->Hp->VK->Prop:=λx H Q=>∃i,x=.int i/\Q (g i) H
section
variable {X:Cx}{a b c:AN}{ta tb tc:TE}{pos:Pos}
theorem Zt2(j:PE X a ta)(hb:PE X b tb){pins:At}{s:AK}{σ:St}{H:Hp}{R:V->V->Hp->Prop}(I:Inv X pins σ H s)
  (h:ta σ H λx i=>tb σ i λy c=>R x y c) {Q:Ap}{f:AJ->AJ->Sem AJ}
  (k:∀v u g x y c,Inv X pins σ c g->RelV x v->RelV y u->R x y c->wpAny ς X.A (f v u) Q X.xe g):
  wpAny ς X.A (eval a X.env) (λv e=>wpAny ς X.A (eval b X.env) (λu d=>wpAny ς X.A (f v u) Q X.xe d) X.xe e) X.xe s:=by
 refine fH (j pins s σ H _ I h) λv l qc=>?_;obtain⟨x,i,I1,r1,q1⟩:=qc;refine fH (hb pins l σ i _ I1 q1) λu g qc=>?_;obtain⟨y,c,I2,r2,q2⟩:=qc;exact k v u g x y c I2 r1 r2 q2
theorem aW{d:Operator}{r:R2}(g:wU X (binaryOp d) r)(m:PE X a ta)(hb:PE X b tb):PE X (.BinOp a d b pos) (aZ r ta tb):=by
 intro c s k H Q I h;exact wpAny_BinOp (Zt2 m hb I h λv u e x y j l i f q=>g c e k j x y v u Q l i f q)
theorem Zjo{d:UnaryOp}{r:V->Hp->VK->Prop}(f:UnR X (unaryOp d) r)(g:PE X a ta):PE X (.UnaryOp d a pos) (tUn r ta):=by
 intro b s c H Q I h;exact UnaryOp_ (fH (g b s c H _ I h) (by rintro v e ⟨x,H1,I1,r1,q1⟩;exact f b e c H1 x v Q I1 r1 q1))
theorem opI{f:AJ->AJ->Sem AJ}{C:Int->Int->Prop}{g:Int->Int->Int}
  (rule:∀(i j:Int) (t u:Tok) (s:AK) (Q:Ap) (E:Ap),C i j->Q (.int (g i j) s.toks) { s with toks:=s.toks+1 }->wpAny ς X.A (f (.int i t) (.int j u)) Q E s):
  wU X f (rI C λi j=>.int (g i j)):=by
 intro a s e H x y v u Q I c b h;obtain⟨i,j,rfl,rfl,hc,q⟩:=h;obtain⟨t,rfl⟩:=c;obtain⟨d,rfl⟩:=b;exact rule i j t d s _ _ hc ⟨.int (g i j),H,I.tok _,⟨_,rfl⟩,q⟩
theorem Znw{f:AJ->AJ->Sem AJ}{g:Int->Int->Int}
  (rule:∀(i j:Int) (t u:Tok) (s:AK) (Q:Ap) (E:Ap),Q (.int (g i j) s.toks) { s with toks:=s.toks+1 }->wpAny ς X.A (f (.int i t) (.int j u)) Q E s):
  wU X f (kj λi j=>.int (g i j)):=by
 intro a s e H x y v u Q I c b h;obtain⟨i,j,rfl,rfl,q⟩:=h;obtain⟨t,rfl⟩:=c;obtain⟨d,rfl⟩:=b;exact rule i j t d s _ _ ⟨.int (g i j),H,I.tok _,⟨_,rfl⟩,q⟩
theorem Znx{f:AJ->AJ->Sem AJ}{g:Int->Int->Bool}
  (rule:∀(i j:Int) (t u:Tok) (s:AK) (Q:Ap) (E:Ap),Q (.bool (g i j)) s->wpAny ς X.A (f (.int i t) (.int j u)) Q E s):
  wU X f (kj λi j=>.bl (g i j)):=by
 intro a s e H x y v u Q I c b h;obtain⟨i,j,rfl,rfl,q⟩:=h;obtain⟨t,rfl⟩:=c;obtain⟨d,rfl⟩:=b;exact rule i j t d s _ _ ⟨.bl (g i j),H,I,rfl,q⟩
def yM(i j:Int):Prop:=0<j/\j<1073741824
def QZ(i j:Int):Prop:=0<=j/\j<=1000000/\i.natAbs<2 ^ 64
def zm(i j:Int):Prop:=(-(2 ^ 64)<i/\i<2 ^ 64)\/(-(2 ^ 64)<j/\j<2 ^ 64)
theorem zm.ok{i j:Int}(h:zm i j):IntMulOk i j:=by
 rcases h with ⟨h1,h2⟩ | ⟨h1,h2⟩
 ·exact .of_left (intBits_le_64 h1 h2)
 ·exact .of_right (intBits_le_64 h1 h2)
theorem Zbv(k:Nat):(0:Int)<=2 ^ k:=by
 rw[two_pow_cast];exact Int.natCast_nonneg _
theorem gM:wU X (binaryOp .Add) Θ:=Znw λ_ _ _ _ _ _ _ q=>add_int q
theorem Ar:wU X (binaryOp .Sub) eu:=Znw λ_ _ _ _ _ _ _ q=>sub_int q
theorem pP:wU X (binaryOp .Mult) bc:=opI λ_ _ _ _ _ _ _ hc q=>mul_int q hc.ok
theorem iz:wU X (binaryOp .FloorDiv) ag:=opI λi j _ _ _ _ _ hc q=>by
 have h1:(0:Int)<j:=hc.1;have h2:j<1073741824:=hc.2;exact floordiv_int δ (by rw[Int.fdiv_eq_ediv_of_nonneg i δ];exact q) (.inl (PyProof.noPylong_small δ))
theorem dj:wU X (binaryOp .Mod) ο:=opI λi j _ _ _ _ _ hc q=>by
 have h1:(0:Int)<j:=hc;exact mod_int' δ (by rw[Int.fmod_eq_emod_of_nonneg i δ];exact q)
theorem GF:wU X (binaryOp .Pow) c9:=opI λ_ _ _ _ _ _ _ hc q=>pow_int_small hc.1 hc.2.1 hc.2.2 q
theorem Zk5:wU X (binaryOp .LShift) (rI QZ λi j=>.int (i * 2 ^ j.toNat)):=opI λ_ _ _ _ _ _ _ hc q=>lshift_int_small hc.1 hc.2.1 hc.2.2 q
theorem Zcq:wU X (binaryOp .RShift) eK:=opI λi j _ _ _ _ _ hc q=>
 rshift_int hc (by rw[Int.fdiv_eq_ediv_of_nonneg i (Zbv _)];exact q)
theorem NT:wU X (binaryOp .BitAnd) dA:=Znw λ_ _ _ _ _ _ _ q=>and_int q
theorem Ztp:wU X (binaryOp .BitOr) (kj λi j=>.int (Builtin.bitOr i j)):=Znw λ_ _ _ _ _ _ _ q=>or_int q
theorem unI{f:AJ->Sem AJ}{g:Int->Int}
  (rule:∀(i:Int) (t:Tok) (s:AK) (Q:Ap) (E:Ap),Q (.int (g i) s.toks) { s with toks:=s.toks+1 }->wpAny ς X.A (f (.int i t)) Q E s):
  UnR X f (rU λi=>.int (g i)):=by
 intro a s c H x v Q I b h;obtain⟨i,rfl,q⟩:=h;obtain⟨t,rfl⟩:=b;exact rule i t s _ _ ⟨.int (g i),H,I.tok _,⟨_,rfl⟩,q⟩
theorem Zbu:UnR X (unaryOp .USub) (rU λi=>.int (-i)):=unI λ_ _ _ _ _ q=>neg_int q
end
def Zth:V->V->Bool
 | .non,.non=>true | .non,.int _=>true | .int _,.non=>true | .non,.bl _=>true | .bl _,.non=>true | .non,.str _=>true | .str _,.non=>true
 | .int _,.int _=>true | .bl _,.bl _=>true | .str _,.str _=>true | .byt _,.byt _=>true
 | .int _,.str _=>true | .str _,.int _=>true | .bl _,.str _=>true | .str _,.bl _=>true
 | _,_=>false
def qF:R2:=λx y H Q=>Zth x y=true/\Q (.bl (decide (x=y))) H
def rNe:R2:=λx y H Q=>Zth x y=true/\Q (.bl (!decide (x=y))) H
theorem Zg2{i j:Int}:decide (V.int i=V.int j)=(i == j):=by
 rw[Bool.eq_iff_iff];simp
theorem Zmb{i j:Bool}:decide (V.bl i=V.bl j)=(i == j):=by
 rw[Bool.eq_iff_iff];simp
theorem Zg1{i j:Str}:decide (V.str i=V.str j)=(i == j):=by
 rw[Bool.eq_iff_iff];simp
theorem Zg3{i j:Array UInt8}:decide (V.byt i=V.byt j)=(i.toList == j.toList):=by
 rw[Bool.eq_iff_iff];cases i;cases j;simp
section
variable {X:Cx}{a b c:AN}{ta tb tc:TE}{pos:Pos}
theorem dI{pins:At}{σ:St}{H:Hp}{s:AK}{Q:VK}{k a:Bool}(I:Inv X pins σ H s)(q:Q (.bl k) H)(e:k=a):EP X pins σ Q (.bool a) s:=by
 subst e;exact⟨.bl k,H,I,rfl,q⟩
theorem dW:wU X (compareOp .Eq) qF:=by
 intro d s e H x y v u Q I c a h;obtain⟨hs,q⟩:=h;cases x with
 | non=>
  cases c;cases y with
  | non=>cases a;exact PySem.EqNone.eq_none_none cM
  | bl j=>cases a;exact PySem.EqNone.eq_none_bool cM
  | int j=>obtain⟨b,rfl⟩:=a;exact PySem.EqNone.eq_none_int cM
  | str j=>obtain⟨b,rfl⟩:=a;exact PySem.EqNone.eq_none_str cM
  | _=>exact absurd bo Bool.false_ne_true
 | bl i=>
  cases c;cases y with
  | non=>cases a;exact PySem.EqNone.eq_bool_none cM
  | bl j=>cases a;exact eq_bool (dI I q Zmb)
  | str j=>obtain⟨b,rfl⟩:=a;exact PySem.EqMixed.eq_bool_str cM
  | _=>exact absurd bo Bool.false_ne_true
 | int i=>
  obtain⟨t,rfl⟩:=c;cases y with
  | non=>cases a;exact PySem.EqNone.eq_int_none cM
  | int j=>obtain⟨b,rfl⟩:=a;exact eq_int (dI I q Zg2)
  | str j=>obtain⟨b,rfl⟩:=a;exact PySem.EqMixed.eq_int_str cM
  | _=>exact absurd bo Bool.false_ne_true
 | str i=>
  obtain⟨t,rfl⟩:=c;cases y with
  | non=>cases a;exact PySem.EqNone.eq_str_none cM
  | bl j=>cases a;exact PySem.EqMixed.eq_str_bool cM
  | int j=>obtain⟨b,rfl⟩:=a;exact PySem.EqMixed.eq_str_int cM
  | str j=>obtain⟨b,rfl⟩:=a;exact eq_str (dI I q Zg1)
  | _=>exact absurd bo Bool.false_ne_true
 | byt i=>
  obtain⟨t,rfl⟩:=c;cases y with
  | byt j=>obtain⟨b,rfl⟩:=a;exact W.eq_bytes (dI I q Zg3)
  | _=>exact absurd bo Bool.false_ne_true
 | _=>cases y<;>exact absurd bo Bool.false_ne_true
theorem Zk6:wU X (compareOp .NotEq) rNe:=by
 intro d s e H x y v u Q I c a h;obtain⟨hs,q⟩:=h;cases x with
 | non=>
  cases c;cases y with
  | non=>cases a;exact PySem.EqNone.ne_none_none cM
  | bl j=>cases a;exact PySem.EqNone.ne_none_bool cM
  | int j=>obtain⟨b,rfl⟩:=a;exact PySem.EqNone.ne_none_int cM
  | str j=>obtain⟨b,rfl⟩:=a;exact PySem.EqNone.ne_none_str cM
  | _=>exact absurd bo Bool.false_ne_true
 | bl i=>
  cases c;cases y with
  | non=>cases a;exact PySem.EqNone.ne_bool_none cM
  | bl j=>cases a;exact ne_bool (dI I q (congrArg not Zmb))
  | str j=>obtain⟨b,rfl⟩:=a;exact PySem.EqMixed.ne_bool_str cM
  | _=>exact absurd bo Bool.false_ne_true
 | int i=>
  obtain⟨t,rfl⟩:=c;cases y with
  | non=>cases a;exact PySem.EqNone.ne_int_none cM
  | int j=>obtain⟨b,rfl⟩:=a;exact ne_int (dI I q (congrArg not Zg2))
  | str j=>obtain⟨b,rfl⟩:=a;exact PySem.EqMixed.ne_int_str cM
  | _=>exact absurd bo Bool.false_ne_true
 | str i=>
  obtain⟨t,rfl⟩:=c;cases y with
  | non=>cases a;exact PySem.EqNone.ne_str_none cM
  | bl j=>cases a;exact PySem.EqMixed.ne_str_bool cM
  | int j=>obtain⟨b,rfl⟩:=a;exact PySem.EqMixed.ne_str_int cM
  | str j=>obtain⟨b,rfl⟩:=a;exact ne_str (dI I q (congrArg not Zg1))
  | _=>exact absurd bo Bool.false_ne_true
 | byt i=>
  obtain⟨t,rfl⟩:=c;cases y with
  | byt j=>obtain⟨b,rfl⟩:=a;exact W.ne_bytes (dI I q (congrArg not Zg3))
  | _=>exact absurd bo Bool.false_ne_true
 | _=>cases y<;>exact absurd bo Bool.false_ne_true
theorem wk:wU X (compareOp .Lt) aT:=Znx λ_ _ _ _ _ _ _ q=>lt_int q
theorem Ztq:wU X (compareOp .LtE) (kj λi j=>.bl (decide (i<=j))):=Znx λ_ _ _ _ _ _ _ q=>le_int q
theorem Zfa:wU X (compareOp .Gt) (kj λi j=>.bl (decide (j<i))):=Znx λ_ _ _ _ _ _ _ q=>gt_int q
theorem Ztr:wU X (compareOp .GtE) (kj λi j=>.bl (decide (j<=i))):=Znx λ_ _ _ _ _ _ _ q=>ge_int q
theorem Zr4:wU X (compareOp .Is) (λx y H Q=>y=.non/\Q (.bl (decide (x=.non))) H):=by
 intro b s d H x y v u Q I a c h;obtain⟨rfl,q⟩:=h;cases c;refine is_none_gen (dI I q ?_);cases x<;>first
  | (cases a;rfl)
  | (obtain⟨t,rfl⟩:=a;rfl)
theorem Znt:wU X (compareOp .IsNot) (λx y H Q=>y=.non/\Q (.bl (!decide (x=.non))) H):=by
 intro b s d H x y v u Q I a c h;obtain⟨rfl,q⟩:=h;cases c;refine isnot_none_gen (dI I q ?_);cases x<;>first
  | (cases a;rfl)
  | (obtain⟨t,rfl⟩:=a;rfl)
def isObj:HO->Bool
 | .lst _=>true
 | .ins _ _ _=>true
 | _=>false
theorem GK{pins:At}{s:AK}{σ:St}{H:Hp}{a:AI}{o:HO}(I:Inv X pins σ H s)(h:H a=some o)(p:isObj o=true):∃ob,s.heap.get? a=some ob/\ob.cls≠.type "tuple":=by
 cases o with
 | lst c=>
  obtain⟨_,b,n,_,e⟩:c.length<=sizeLine/\∃(b:AC) (n:Nat),Vals c b/\s.heap.get? a=some { cls:=.type "list",data:=.seq b.toArray n }:=I.hok a _ h;exact⟨_,e,(by show Value.type "list"≠.type "tuple";decide +kernel)⟩
 | ins C d fs=>
  have x:=I.hok a _ h;obtain⟨_,_,_,e,_⟩:=x;exact⟨_,e,(by show Value.ref C≠.type "tuple";exact λz=>by cases z)⟩
 | _=>exact absurd (show false=true from p) Bool.false_ne_true
theorem mO(b:AN){a:CmpOp}(h:a≠.In:=by decide)(h2:a≠.NotIn:=by decide):behindInMarks a b=false:=Zkj b h h2
theorem jN{d:CmpOp}{r:R2}(g:wU X (compareOp d) r)(m:PE X a ta)(hb:PE X b tb)(hm:behindInMarks d b=false):PE X (.Compare a [d] [b] pos) (aZ r ta tb):=by
 intro c s k H Q I h;exact wpAny_Compare1 (Zt2 m hb I h λv u e x y j l i f q=>g c e k j x y v u Q l i f q) hm
def bY(t:TE):TT:=λσ H Q=>t σ H λx H'=>∃k,x=.bl k/\Q k H'
theorem Znf{f:CmpOp}{r:R2}(j:wU X (compareOp f) r)(m:PE X a ta)(hb:PE X b tb)(hm:behindInMarks f b=false):PT X (.Compare a [f] [b] pos) (bY (aZ r ta tb)):=by
 intro d s g H Q I h;refine wpAny_isTrue_Compare1 (fH (m d s g H _ I h) λv l ⟨x,H1,I1,r1,q1⟩=>fH (hb d l g H1 _ I1 q1) λu i ⟨y,H2,I2,r2,q2⟩=>
  fH (j d i g H2 x y v u _ I2 r1 r2 q2) λc n ⟨z,H3,I3,r3,k,e,q3⟩=>?_) hm
 subst e;cases r3;exact wpAny_truthy_bool ⟨H3,I3,q3⟩
def Zc0(r f:R2)(ta tb tc:TE):TE:=λσ H Q=>ta σ H λx b=>tb σ b λy d=>r x y d λz a=>∃k,z=.bl k/\
 (if k=true then tc σ a λe c=>f y e c Q else Q (.bl false) a)
theorem Zju{j g:CmpOp}{r m:R2}(q:wU X (compareOp j) r)(l:wU X (compareOp g) m)(B:PE X a ta)(hb:PE X b tb)(hc:PE X c tc)
  (hm:lastMarks [j,g] [b,c]=false:=by with_unfolding_all rfl):PE X (.Compare a [j,g] [b,c] pos) (Zc0 r m ta tb tc):=by
 intro f s i H Q I h;refine Compare_chain (fH (B f s i H _ I h) λv w ⟨x,H1,I1,r1,q1⟩=>chain_link (fH (hb f w i H1 _ I1 q1) λu n ⟨y,H2,I2,r2,q2⟩=>
  fH (q f n i H2 x y v u _ I2 r1 r2 q2) λd o ⟨z,H3,I3,r3,k,e,q3⟩=>?_)) hm
 subst e;cases r3;refine wpAny_truthy_bool ?_;cases k with
 | false=>exact ite_ff ⟨.bl false,H3,I3,rfl,q3⟩
 | true=>exact ite_tt (chain_last (fH (hc f o i H3 _ I3 q3) (by rintro p A ⟨t,H4,I4,r4,q4⟩;exact l f A i H4 y t u p Q I4 r2 r4 q4)))
def Zmj(K:aC)(x:V)(H:Hp)(k:Bool):Prop:=
 match x with
 | .non=>k=false
 | .bl b=>k=b
 | .int i=>k=(i != 0)
 | .str y=>y.length<=sizeLine/\k=((y.length:Int) != 0)
 | .byt y=>y.size<=sizeLine/\k=((y.size:Int) != 0)
 | .ref p=>(∃xs,cC K H p xs/\k=!xs.isEmpty)\/(∃xs,cP K H p xs/\k=!xs.isEmpty)\/∃a,H p=some (.dK a)/\k=!a.isEmpty
 | _=>False
theorem Zdd{b:Type}{a:List (b×V)}{vs:List (b×AJ)}(r:KV a vs):(!vs.isEmpty)=!a.isEmpty:=by
 cases r<;>rfl
theorem PK{xs:List V}{a:AC}(r:Vals xs a):(!a.toArray.isEmpty)=!xs.isEmpty:=by
 cases r<;>simp
theorem G3:(sizeLine:Nat)<2 ^ 63:=by rw[sizeLine_eq];decide
theorem Zqh:Zz3 X (λx H Q=>∃k,Zmj X.K x H k/\Q k H):=by
 intro o s z H x v Q I g h;obtain⟨k,e,q⟩:=h;have hl:=G3;have hs:sizeLine=16777216:=sizeLine_eq;cases x with
 | non=>
  cases g;have a:k=false:=e;subst a;exact truthy_none ⟨H,I,q⟩
 | bl b=>
  cases g;have a:k=b:=e;subst a;exact wpAny_truthy_bool ⟨H,I,q⟩
 | int i=>
  obtain⟨t,rfl⟩:=g;have a:k=(i != 0):=e;subst a;exact PySem.P.truthy_int ⟨H,I,q⟩
 | str y=>
  obtain⟨t,rfl⟩:=g;obtain⟨hy,a⟩:y.length<=sizeLine/\k=((y.length:Int) != 0):=e;subst a;exact PySem.P.truthy_str δ ⟨H,I.tok _,q⟩
 | byt y=>
  obtain⟨t,rfl⟩:=g;obtain⟨hy,a⟩:y.size<=sizeLine/\k=((y.size:Int) != 0):=e;subst a;exact W.truthy_bytes δ ⟨H,I.tok _,q⟩
 | ref p=>
  cases g;have a:(∃f,cC X.K H p f/\k=!f.isEmpty)\/(∃f,cP X.K H p f/\k=!f.isEmpty)\/∃c,H p=some (.dK c)/\k=!c.isEmpty:=e;rcases a with ⟨f,hx,a⟩ | ⟨f,hx,a⟩ | ⟨c,hx,a⟩
  ·subst a;obtain⟨n,r,l,hz⟩:=I.list hx;have d:=r.length;exact wpAny_truthy_list l.isList (by simp only[List.size_toArray];omega) ⟨H,I.tok _,by rw[PK r];exact q⟩
  ·subst a;obtain⟨n,r,l,hz⟩:=I.tuple hx;have d:=r.length;exact truthy_tuple l (by simp only[List.size_toArray];omega) ⟨H,I.tok _,by rw[PK r];exact q⟩
  ·subst a;obtain⟨hz,u,j,r,m⟩:c.length<=sizeLine/\(p == sysModules)=false/\∃j,KV c j/\s.heap.DictOf (cU X.prog X.w) p j:=I.hok p _ hx;have d:c.length=j.length:=Paired.length r;exact wpAny_truthy_dict u m δ ⟨H,I.tok _,by rw[Zdd r];exact q⟩
 | _=>exact(show False from e).elim
theorem ZM(f:PE X a ta)(e:∀b,isTrue a X.env b=(do let v <- b;standAt a.pos;holding [v] (truthy v))):
  PT X a (λσ H Q=>ta σ H λx H'=>∃k,Zmj X.K x H' k/\Q k H'):=by
 intro c s σ H Q I h;exact isTrue_plain (fH (f c s σ H _ I h) (by rintro v d ⟨x,H1,I1,r1,q1⟩;exact Zqh c d σ H1 x v Q I1 r1 q1)) (e _)
theorem uP:wU X (binaryOp .Add) (λx y H Q=>∃i j,x=.str i/\y=.str j/\i.length+j.length<=sizeLine/\Q (.str (i++j)) H):=by
 intro a s e H x y v u Q I c b h;obtain⟨i,j,rfl,rfl,hz,q⟩:=h;obtain⟨t,rfl⟩:=c;obtain⟨d,rfl⟩:=b;exact add_str (λd tk=>⟨.str (i++j),H,I.tok _,⟨_,rfl⟩,q⟩) hz
theorem vals1{x:V}{us:AC}(r:Vals [x] us):∃u,us=[u]/\RelV x u:=by
 cases r with
 | cons b a=>cases a;exact⟨_,rfl,b⟩
theorem vals2{x y:V}{us:AC}(r:Vals [x,y] us):∃u a,us=[u,a]/\RelV x u/\RelV y a:=by
 cases r with
 | cons e c=>
  cases c with
  | cons b d=>cases d;exact⟨_,_,rfl,e,b⟩
end
structure Zel(h:Heap)(x dx C:AI)(mA:As):Prop where
 obj:h.get? x=some (W.instObj C dx)
 ns:h.Ns1 dx mA
 ne:dx≠x
theorem Zhe{h:Heap}{dx:AI}{d:As}(n:h.Ns1 dx d):∃od,h.get? dx=some od/\∀name,W.lookIn name od=some (d name):=by
 obtain⟨o,c,i,f,hd,hk,_,hm⟩:=n;refine⟨o,f,λname=>?_⟩;have e:=hm name;unfold nsFind findBy at e;rw[<- Array.find?_toList]at e;unfold W.lookIn;rw[hd];dsimp only;split
 ·rename_i y q
  rw[q]at e;exact congrArg some e
 ·rename_i q
  rw[q]at e;have a:c.toList.any (·.refKey)=false:=by
   rw[List.any_eq_false];intro y hy;obtain⟨z,t,b⟩:=hk y (Array.mem_toList_iff.mp hy);simp[DictEntry.refKey,b]
  have g:¬ c.toList.any (·.refKey)=true:=by rw[a];exact Bool.false_ne_true
  rw[if_neg g];exact congrArg some e
theorem Zel.look{h:Heap}{x dx C:AI}{a:As}(I:Zel h x dx C a):∃od,W.InstAt h x (W.instObj C dx) C (some od)/\∀name,W.lookIn name od=some (a name):=
 let ⟨od,ho,hl⟩:=Zhe I.ns
 ⟨od,⟨I.obj,rfl,rfl,ho⟩,hl⟩
section
variable {prog:AM}{w:AO}{A:Around}{E:Ap}{s:AK}{K:aC}{x dx C f:AI}{mA:As}{name:Str}{v:AJ}
theorem get_map{a:Bool}{Q:Ap}(X:K.In s.heap)(I:Zel s.heap x dx C mA)(hg:W.plainGet K C name=true)(d:W.hasDictIn K C=true)
  (c:W.findIn K (.ref C) name=some none) (hv:mA name=some v) (b:W.handedIn v=true) (h:Q v { s with toks:=s.toks+1 }):
  wpAny ai A (getAttr (.ref x) name a) Q E s:=by
 obtain⟨od,J,hl⟩:=I.look;exact W.get_value X J (W.plainGet_of hg).1 (W.findObj_own d c rfl (by rw[hl,hv])) b h
theorem Zlu{pl:Sem Bool}{Q:AJ×AC->AK->Prop}(X:K.In s.heap)(I:Zel s.heap x dx C mA)(hg:W.plainGet K C name=true)
  (b:W.findIn K (.ref C) name=some (↑f)) (a:W.isFn K (.ref f)=true) (hv:mA name=none) (h:Q (.ref f,[.ref x]) s):
  wpAny ai A (getMethod (.ref x) name pl) Q E s:=by
 obtain⟨od,J,hl⟩:=I.look;exact W.method_fn X J (W.plainGet_of hg).1 (W.plainGet_of hg).2 b (beq_iff_eq.mp a) (by show(W.lookIn name od).map (·.isSome)=some false;rw[hl,hv];rfl) h
theorem Zn8{ns:AH}{Q:Unit->AK->Prop}(X:K.In s.heap)(I:Zel s.heap x dx C mA)
  (hs:W.findIn K (.ref C) "__setattr__"=some (some (.builtin "object.__setattr__"))) (hp:W.plainOver K C=true) (k:W.takerIn K C name=some none) (l:W.hasDictIn K C=true)
  (j:PySem.Within mA ns) (hsz:ns.length<=sizeLine)
  (h:∀h',Zel h' x dx C (λy=>if y=name then some v else mA y)->Heap.SameBut dx s.heap h'->Q () { s with heap:=h',toks:=s.toks+2 }):
  wpAny ai A (setAttr (.ref x) name v) Q E s:=by
 obtain⟨od,J,hl⟩:=I.look;refine W.set_plain X J hs (W.osa_open (s:={ s with toks:=s.toks+1 }) (r:=none) X J hp k λb=>?_);obtain⟨o,hc,e⟩:=W.any_some l;have hx:s.heap.get? x=some ⟨.ref C,some dx,.plain,#[]⟩:=I.obj;refine wpAny_bind (wpAny_pure (wpAny_bind (wpAny_bind (wpAny_loadPart hx (wpAny_bind (W.Looks.here (s:={ s with toks:=s.toks+1 }) (W.looks_clsIn X hc) ?_))))));rw[e];refine wpAny_pure (a:=some dx) (wpAny_bind (wpAny_pure (wpAny_bind ?_)));refine wpAny_nsSet1 (s:={ s with toks:=s.toks+1 }) I.ns λh' c d=>?_;obtain⟨n,i,m,f,hdD,g⟩:=c.count (PySem.Within.cons name v j);refine wpAny_bind (wpAny_lookBehind f (by rw[hdD];exact pastItsLine_dict (Nat.le_trans g (by rw[List.length_cons];omega))) ?_);exact wpAny_pure (h _ ⟨(d.2 _ (Ne.symm I.ne)).trans I.obj,c,I.ne⟩ d)
theorem Zku{R:Result->AK->Prop}{vs:AC}{kw:List (Str×AJ)}(X:K.In s.heap)(hm:W.makesIn K C=true)
  (hi:W.findIn K (.ref C) "__init__"=some (↑f)) (a:W.typeIn K (.ref f)=some (.type "function"))
  (h:codeAny ai (A.under (.builtin "type.__call__" ⟨.ref C::vs,kw⟩)) (.call (.ref f) ⟨.ref ae::vs,kw⟩) (W.InitBack ae R)
   { s with heap:=(s.heap.push W.emptyDict).push cb }):
  codeAny ai A (.call (.ref C) ⟨vs,kw⟩) R s:=by
 obtain⟨b,g,d,t,os⟩:=s;exact W.make_core (W.makes_of X hm) (W.looks_findIn X hi) (λself=>W.bind_fn X self a) (.inl rfl) h
theorem Zhc{R:Result->AK->Prop}(X:K.In s.heap)(hm:W.makesIn K C=true)
  (hi:W.findIn K (.ref C) "__init__"=some eS)
  (hb:∀self,W.Looks ai s.heap (bindSpecial (.builtin "object.__init__") self) (.builtin "object.__init__",[self]))
  (h:codeAny ai (A.under (.builtin "type.__call__" ⟨[.ref C],[]⟩)) (.call (.builtin "object.__init__") ⟨[.ref ae],[]⟩) (W.InitBack ae R)
   { s with heap:=(s.heap.push W.emptyDict).push cb }):
  codeAny ai A (.call (.ref C) ⟨[],[]⟩) R s:=by
 obtain⟨a,g,d,t,os⟩:=s;exact W.make_core (W.makes_of X hm) (W.looks_findIn X hi) hb (.inr ⟨rfl,rfl⟩) h
end
def bL(f:Str)(v:V):List (Str×V)->List (Str×V)
 | []=>[(f,v)]
 | (g,x)::r=>if g=f then(g,v)::r else(g,x)::bL f v r
theorem JG(f g:Str)(v:V):∀fs:List (Str×V),(bL f v fs).lookup g=if g=f then some v else fs.lookup g
 | []=>by
  show List.lookup g [(f,v)]=_
  by_cases h:g=f
  ·have hb:(g == f)=true:=beq_iff_eq.mpr h;simp only[List.lookup,hb,if_pos h]
  ·have hb:(g == f)=false:=beq_eq_false_iff_ne.mpr h;simp only[List.lookup,hb,if_neg h]
 | (k,x)::r=>by
  have a:=JG f g v r;rw[show bL f v ((k,x)::r)=(if k=f then(k,v)::r else(k,x)::bL f v r)from rfl]
  by_cases hk:k=f
  ·rw[if_pos hk]
   by_cases h:g=k
   ·have hb:(g == k)=true:=beq_iff_eq.mpr h;simp only[List.lookup,hb,if_pos (h.trans hk)]
   ·have hb:(g == k)=false:=beq_eq_false_iff_ne.mpr h;simp only[List.lookup,hb,if_neg (λe:g=f=>h (e.trans hk.symm))]
  ·rw[if_neg hk]
   by_cases h:g=k
   ·have hb:(g == k)=true:=beq_iff_eq.mpr h;simp only[List.lookup,hb,if_neg (λe:g=f=>hk (h.symm.trans e))]
   ·have hb:(g == k)=false:=beq_eq_false_iff_ne.mpr h;simp only[List.lookup,hb];exact a
theorem G8(f:Str)(v:V):∀fs:List (Str×V),f∈(bL f v fs).map (·.1)/\∀g,g∈fs.map (·.1)->g∈(bL f v fs).map (·.1)
 | []=>⟨by simp[bL],λg h=>by simp at h⟩
 | (k,x)::r=>by
  obtain⟨b,a⟩:=G8 f v r;rw[show bL f v ((k,x)::r)=(if k=f then(k,v)::r else(k,x)::bL f v r)from rfl]
  by_cases hk:k=f
  ·rw[if_pos hk];subst hk;exact⟨ζ,λg h=>by simpa using h⟩
  ·rw[if_neg hk];refine⟨?_,λg h=>?_⟩
   ·rw[List.map_cons];exact List.mem_cons_of_mem _ b
   ·rw[List.map_cons]at h ⊢;rcases List.mem_cons.mp h with e | e
    ·exact List.mem_cons.mpr (.inl e)
    ·exact List.mem_cons_of_mem _ (a g e)
theorem JK(f:Str)(v:V):∀fs:List (Str×V),(bL f v fs).length<=fs.length+1
 | []=>by simp[bL]
 | (k,x)::r=>by
  have a:=JK f v r;rw[show bL f v ((k,x)::r)=(if k=f then(k,v)::r else(k,x)::bL f v r)from rfl]
  by_cases hk:k=f
  ·rw[if_pos hk,List.length_cons,List.length_cons];omega
  ·rw[if_neg hk,List.length_cons,List.length_cons];omega
theorem yH.some_of{v:V}{o:AB}(r:yH (some v) o):∃u,o=some u/\RelV v u:=by
 cases o with
 | none=>exact(show False from r).elim
 | some u=>exact⟨u,rfl,r⟩
theorem yH.none_of{o:AB}(r:yH none o):o=none:=by
 cases o with
 | none=>rfl
 | some u=>exact(show False from r).elim
theorem Zi1{v:V}{u:AJ}(r:RelV v u):W.handedIn u=true:=by
 cases v with
 | non=>cases (show u=Value.none from r);rfl
 | bl b=>cases (show u=Value.bool b from r);rfl
 | int i=>obtain⟨t,e⟩:=(show ∃t,u=Value.int i t from r);cases e;rfl
 | str x=>obtain⟨t,e⟩:=(show ∃t,u=Value.str x t from r);cases e;rfl
 | byt b=>obtain⟨t,e⟩:=(show ∃t,u=Value.bytes b t from r);cases e;rfl
 | flt b=>obtain⟨t,e⟩:=(show ∃t,u=Value.float b t from r);cases e;rfl
 | ref a=>cases (show u=Value.ref a from r);rfl
 | ty n=>cases (show u=Value.type n from r);rfl
section
variable {P:AM}{w:AO}{H H':Hp}{h h':Heap}{a C dx:AI}{fs fs':List (Str×V)}
theorem Lh(hok:yJ P w H h)(e:H a=some (.ins C dx fs)):∃b,Zel h a dx C b/\(∀f,yH (fs.lookup f) (b f))/\PySem.Within b (fs.map (·.1))/\fs.length<=1000/\H dx=some (.own a):=by
 obtain⟨d,z,ne,ob,b,n,r,q⟩:=(show gq P w H h a (.ins C dx fs)from hok a _ e);exact⟨b,⟨ob,n,ne⟩,r,q,z,d⟩
end
structure K7(K:aC)(C:AI):Prop where
 pg:W.plainGet K C Str.empty=true
 hd:W.hasDictIn K C=true
 po:W.plainOver K C=true
 sa:W.findIn K (.ref C) "__setattr__"=some (some (.builtin "object.__setattr__"))
theorem K7.get{K:aC}{C:AI}(c:K7 K C)(f:Str):W.plainGet K C f=true:=c.pg
def cL(K:aC)(C:AI)(f:Str):Prop:=W.findIn K (.ref C) f=some none
theorem cL.taker{K:aC}{C:AI}{f:Str}(n:cL K C f):W.takerIn K C f=some none:=by
 unfold W.takerIn;rw[show W.findIn K (.ref C) f=some none from n];rfl
structure Con(K:aC)(C:AI)(f:Str)(v:V)(u:AJ):Prop where
 at_:W.findIn K (.ref C) f=some (some u)
 rel:RelV v u
 get:W.specialIn K u "__get__"=some none
 cp:W.copiedNames.contains f=false
structure Meth(K:aC)(C:AI)(m:Str)(f:AI):Prop where
 at_:W.findIn K (.ref C) m=some (↑f)
 fn:W.isFn K (.ref f)=true
 kp:W.keepIn K (.ref f)=true
section
variable {X:Cx}{pins:At}{σ:St}{H:Hp}{s:AK}{a C dx:AI}{fs:List (Str×V)}{f:Str}{v:V}{A:Around}{E:Ap}
theorem Zdm{b:Bool}{Q:Ap}(I:Inv X pins σ H s)(e:H a=some (.ins C dx fs))(c:K7 X.K C)(n:cL X.K C f)(l:fs.lookup f=some v)
  (h:∀u s',Inv X pins σ H s'->RelV v u->Q u s'):wpAny ς A (getAttr (.ref a) f b) Q E s:=by
 obtain⟨g,O,r,_,_,_⟩:=Lh I.hok e;obtain⟨u,hu,d⟩:=yH.some_of (v:=v) (o:=g f) (by rw[<- l];exact r f);exact get_map I.qg O (c.get f) c.hd n hu (Zi1 d) (h u _ (I.tok _) d)
theorem Qh{m:Str}{g:AI}{pl:Sem Bool}{Q:AJ×AC->AK->Prop}(I:Inv X pins σ H s)(e:H a=some (.ins C dx fs))(c:K7 X.K C)(k:Meth X.K C m g)(l:fs.lookup m=none)
  (h:Q (.ref g,[.ref a]) s):wpAny ς A (getMethod (.ref a) m pl) Q E s:=by
 obtain⟨b,O,r,_,_,_⟩:=Lh I.hok e;have hn:b m=none:=yH.none_of (by rw[<- l];exact r m);exact Zlu I.qg O (c.get m) k.at_ k.fn hn h
theorem Zcf{y:V}{u:AJ}{Q:Unit->AK->Prop}(I:Inv X pins σ H s)(e:H a=some (.ins C dx fs))(c:K7 X.K C)(n:cL X.K C f)(hl:fs.length<1000)(l:RelV y u)
  (h:∀s',Inv X pins σ (upd H a (.ins C dx (bL f y fs))) s'->Q () s'):wpAny ς A (setAttr (.ref a) f u) Q E s:=by
 obtain⟨i,O,r,k,_,j⟩:=Lh I.hok e;have hz:(fs.map (·.1)).length<=sizeLine:=by rw[aY,sizeLine_eq];omega
 refine Zn8 I.qg O c.sa c.po n.taker c.hd k hz λm d sb=>h _ ?_;have hd:∃o,m.get? dx=some o:=let ⟨o,_,_,e',_⟩:=d.ns;⟨o,e'⟩
 refine I.write (x:=a) (e:=dx) (by rw[e];exact True.intro) (.inr j) (λb q hb z=>(sb.2 b hb).trans z) hd ?_;refine⟨by rw[aA O.ne];exact j,?_,O.ne,d.obj,_,d.ns,λg=>?_,λg hg=>?_⟩
 ·have:=JK f y fs;omega
 ·show yH ((bL f y fs).lookup g) (if g=f then some u else i g);rw[JG]
  by_cases q:g=f
  ·rw[if_pos q,if_pos q];exact l
  ·rw[if_neg q,if_neg q];exact r g
 ·by_cases q:g=f
  ·rw[q];exact(G8 f y fs).1
  ·refine(G8 f y fs).2 g (k g λz=>hg ?_);show(if g=f then some u else i g)=none;rw[if_neg q];exact z
theorem Inv.made(I:Inv X pins σ H s):Inv X pins σ (upd (upd H s.heap.objs.size (.own ae)) ae (.ins C s.heap.objs.size []))
  { s with heap:=(s.heap.push W.emptyDict).push cb }:=by
 have c:(s.heap.push W.emptyDict).get? s.heap.objs.size=some W.emptyDict:=Heap.get?_push_size s.heap rfl;have f:((s.heap.push W.emptyDict).push cb).get? (s.heap.objs.size+1)=some cb:=by
  have:=Heap.get?_push_size (s.heap.push W.emptyDict) (o:=W.instObj C s.heap.objs.size) rfl
  rwa [Heap.size_push]at this
 have e3:(s.heap.push W.emptyDict).Ns s.heap.objs.size (λ_=>none):=⟨W.emptyDict,#[],_,c,rfl,(λe d=>absurd d ζ),λ_=>rfl⟩;have g:=I.laid (a:=s.heap.objs.size) (o:=.own ae) (h':=s.heap.push W.emptyDict) (t':=s.toks) (λb u q=>Heap.get?_push_of_some _ q) υ ⟨_,c⟩;refine g.laid (a:=s.heap.objs.size+1) (o:=.ins C s.heap.objs.size []) (t':=s.toks) (λb u q=>Heap.get?_push_of_some _ q) (Nat.le_of_eq (Heap.size_push _ _)) ?_;have ne:s.heap.objs.size≠s.heap.objs.size+1:=Nat.ne_of_lt (Nat.lt_succ_self _);refine⟨by rw[aA ne,aq],Nat.zero_le _,ne,f,λ_=>none,(Heap.Ns1.of_empty e3).at λo q=>Heap.get?_push_of_some _ q,λ_=>True.intro,λy hy=>absurd rfl hy⟩
theorem Zp7{prog:AM}{w:AO}{env:Env}{e:AN}{f:Str}{b:Pos}{s:AK}{Q:Ap}(hb:attributeBase e f env (eval e env)=eval e env)
  (h:wpAny ai A (eval e env) (λo a=>wpAny ai A (getAttr o f true) Q E a) E s):wpAny ai A (eval (.Attribute e f b) env) Q E s:=
 Attribute_any_ h (by rw[arm_eval_Attribute,hb])
end
def bA(K:aC)(ta:TE)(f:Str):TE:=λσ H Q=>ta σ H λx b=>∃a C dx fs v,x=.ref a/\b a=some (.ins C dx fs)/\K7 K C/\cL K C f/\fs.lookup f=some v/\Q v b
def dU(K:aC)(ta d:TE)(f:Str):TS:=λD σ H=>d σ H λy c=>ta σ c λx b=>∃a C dx fs,x=.ref a/\b a=some (.ins C dx fs)/\K7 K C/\cL K C f/\fs.length<1000/\
 D.nx σ (upd b a (.ins C dx (bL f y fs)))
section
variable {X:Cx}{o e value:AN}{f:Str}{pos pos' tpos:Pos}{ta tv:TE}
theorem aK(d:PE X e ta)(hb:attributeBase e f X.env (eval e X.env)=eval e X.env):PE X (.Attribute e f pos) (bA X.K ta f):=by
 intro b s g H Q I h;refine Zp7 hb (fH (d b s g H _ I h) λu k qc=>?_);obtain⟨x,H1,I1,rx,a,C,dx,fs,v,ex,ea,c,n,l,q⟩:=qc;subst ex;obtain rfl:u=Value.ref a:=rx;exact Zdm I1 ea c n l λo m j i=>⟨v,H1,j,i,q⟩
theorem bJ(j:PE X o ta)(hv:PE X value tv)(hs:swapsWith value (some (.Attribute o f pos')) pos.line X.env=pure false):PS X (.Assign [.Attribute o f pos'] value pos) (dU X.K ta tv f):=by
 intro b s d H D I h;refine plainObj_wpAny_Assign_Attribute (fH (hv b s d H _ I h) λu i ⟨y,H1,I1,ry,q⟩=>fH (j b i d H1 _ I1 q) λe k qc=>?_) hs;obtain⟨x,H2,I2,rx,a,C,dx,fs,ex,ea,c,n,l,q2⟩:=qc;subst ex;obtain rfl:e=Value.ref a:=rx;exact Zcf I2 ea c n l ry λm g=>⟨d,_,g,q2⟩
end
section
variable {X:Cx}{pins:At}{σ:St}{H:Hp}{s:AK}{A:Around}{E:Ap}{Q:Ap}{c:AJ}{b:Bool}
inductive Ht(K:aC)(H:Hp):V->AJ->Prop where
 | non:Ht K H .non (.type "NoneType")
 | bl (x:Bool):Ht K H (.bl x) (.type "bool")
 | int (i:Int):Ht K H (.int i) (.type "int")
 | str (x:Str):Ht K H (.str x) (.type "str")
 | flt (x:UInt64):Ht K H (.flt x) (.type "float")
 | lst {a:AI}{xs:List V} (e:H a=some (.lst xs)):Ht K H (.ref a) (.type "list")
 | oX {a:AI}{o:Obj}{xs:List V} (e:H a=some (.oX o (.lst xs))):Ht K H (.ref a) (.type "list")
 | tup {a:AI}{xs:List V} (e:H a=some (.tup xs)):Ht K H (.ref a) (.type "tuple")
 | dK {a:AI}{kvs:List (Key×V)} (e:H a=some (.dK kvs)):Ht K H (.ref a) (.type "dict")
 | dT {a:AI}{kvs:List (List Key×V)} (e:H a=some (.dT kvs)):Ht K H (.ref a) (.type "dict")
 | ins {a C dx:AI}{fs:List (Str×V)} (e:H a=some (.ins C dx fs)) (cl:K7 K C) (ha:W.findIn K (.ref C) "__class__"=some (some (.builtin "object.__class__")))
   (hn:W.specialIn K (.builtin "object.__class__") "__get__"=some (some (.builtin "getset_descriptor.__get__"))) (htk:W.takesIn K (.builtin "object.__class__")=some true)
   (hm:W.mroIn K C (.type "object")=some true):Ht K H (.ref a) (.ref C)
theorem Zhh{x:V}{u t:AJ}(I:Inv X pins σ H s)(d:RelV x u)(ty:Ht X.K H x t)(e:W.kitOne X.K t c=some b)(h:∀tk,Q (.bool b) { s with toks:=tk }):
  wpAny ς A (call (.builtin "isinstance") [u,c]) Q E s:=by
 cases ty with
 | non=>cases (show u=Value.none from d);exact W.kia_one W.kitx_none I.qg True.intro e ar h
 | bl y=>cases (show u=Value.bool y from d);exact W.kia_one W.kitx_bool I.qg True.intro e ar h
 | int i=>obtain⟨t,q⟩:=(show ∃t,u=Value.int i t from d);cases q;exact W.kia_one W.kitx_int I.qg True.intro e ar h
 | str y=>obtain⟨t,q⟩:=(show ∃t,u=Value.str y t from d);cases q;exact W.kia_one W.kitx_str I.qg True.intro e ar h
 | flt y=>obtain⟨t,q⟩:=(show ∃t,u=Value.float y t from d);cases q;exact W.kia_one W.kitx_float I.qg True.intro e ar h
 | @lst a j f=>
  cases (show u=Value.ref a from d);obtain⟨_,_,n,_,h1⟩:=(show gq X.prog X.w H s.heap a (.lst j)from I.hok a _ f);exact W.kia_one W.kitx_list I.qg ⟨_,h1,rfl⟩ e ar h
 | @oX a ob j f=>
  cases (show u=Value.ref a from d);obtain⟨_,_,_,n,_,h1⟩:=(show gq X.prog X.w H s.heap a (.oX ob (.lst j))from I.hok a _ f);exact W.kia_one W.kitx_list I.qg ⟨_,h1,rfl⟩ e ar h
 | @tup a j f=>
  cases (show u=Value.ref a from d);obtain⟨_,_,_,p⟩:=(show gq X.prog X.w H s.heap a (.tup j)from I.hok a _ f);obtain⟨o,h1,h2,_⟩:=p;exact W.kia_one W.kitx_tuple I.qg ⟨o,h1,h2⟩ e ar h
 | @dK a g f=>
  cases (show u=Value.ref a from d);obtain⟨_,_,B,_,p⟩:=(show gq X.prog X.w H s.heap a (.dK g)from I.hok a _ f);obtain⟨o,l,m,h1,h2,_⟩:=p;exact W.kia_one W.kitx_dict I.qg ⟨o,h1,h2.1⟩ e ar h
 | @dT a g f=>
  cases (show u=Value.ref a from d);obtain⟨_,_,j,_,o,l,m,h1,h2,_⟩:=(show gq X.prog X.w H s.heap a (.dT g)from I.hok a _ f);exact W.kia_one W.kitx_dict I.qg ⟨o,h1,h2.1⟩ e ar h
 | @ins a C v fs f cl r hn k hm=>
  cases (show u=Value.ref a from d);obtain⟨D,O,_⟩:=Lh I.hok f;obtain⟨od,J,_⟩:=O.look;exact W.kia_one (W.kitx_own (cl.get _) cl.hd r hn k hm) I.qg J e ar h
end
structure Room(k:Nat)(A:Around):Prop where
 hd:A.handled=none
 dp:A.depth+3 * k+5<recursionLimit
 un:A.units+16 * k+200<cLine
theorem Room.mono{j k:Nat}{A:Around}(r:Room k A)(h:j<=k):Room j A:=⟨r.hd,by have:=r.dp;omega,by have:=r.un;omega⟩
theorem Room.deeper{k:Nat}{A:Around}(r:Room dC A)(env:Env):Room k (A.deeper env):=
 ⟨r.hd,by have:=r.dp;show A.depth+1+3 * k+5<_;omega,by have:=r.un;show A.units+3+16 * k+200<_;omega⟩
theorem Zd1{A:Around}{C:AI}{us:AC}{kw:List (Str×AJ)}:(A.under (.builtin "type.__call__" ⟨.ref C::us,kw⟩)).depth=A.depth+1:=by
 first | rfl | simp[Around.under,Code.weight,Code.isCreation,Code.isGuard,Code.isCaller,Code.frames,Code.isFrame,guardIds]
theorem Zd0{A:Around}{C:AI}{us:AC}{kw:List (Str×AJ)}:(A.under (.builtin "type.__call__" ⟨.ref C::us,kw⟩)).units=A.units+1:=by
 first | rfl | simp[Around.under,Code.cUnits,Code.frames,Code.isFrame]
theorem Room.make{k:Nat}{A:Around}(r:Room dC A)(C:AI)(us:AC)(kw:List (Str×AJ)):Room k (A.under (.builtin "type.__call__" ⟨.ref C::us,kw⟩)):=
 ⟨r.hd,by have:=r.dp;rw[Zd1];omega,by have:=r.un;rw[Zd0];omega⟩
theorem Room.depth{k:Nat}{A:Around}(r:Room k A):A.depth<recursionLimit:=by have:=r.dp;omega
theorem Room.units{k:Nat}{A:Around}(r:Room k A):A.units+64<cLine:=by have:=r.un;omega
def aG:TA:=λ_ H Q=>Q [] H
def ak(ta:TE)(c:TA):TA:=λσ H Q=>ta σ H λx a=>c σ a λxs b=>Q (x::xs) b
section
variable {X:Cx}{e:AN}{es:AG}{te:TE}{t:TA}{pos:Pos}
theorem au:PA X [] aG:=λ_ _ _ _ H Q I h=>Calls.spliced_nil ⟨[],H,I,.nil,h⟩
theorem aa(d:PE X e te)(hr:PA X es t)(hs:starEach (e::es) X.env=(false,eval e X.env)::starEach es X.env:=by rfl):PA X (e::es) (ak te t):=by
 intro pos a s b H Q I h;rw[hs];show wpAny _ _ (spliced ((false,eval e X.env)::backTo pos eA)) _ _ s;refine Calls.spliced_cons (fH (d a s b H _ I h) λu c qc=>?_);obtain⟨x,H1,I1,r1,q1⟩:=qc;exact fH (hr pos a c b H1 _ I1 q1) (by rintro us g ⟨f,H2,I2,r2,q2⟩;exact⟨x::f,H2,I2,.cons r1 r2,q2⟩)
def ig(t:TA):TE:=λσ H Q=>t σ H λxs a=>xs.length<=sizeLine/\∀p,a p=none->Q (.ref p) (upd a p (.tup xs))
def iM(t:TA):TE:=λσ H Q=>t σ H λxs a=>xs.length<=sizeLine/\∀p,a p=none->Q (.ref p) (upd a p (.lst xs))
theorem cQ{x1}(h:PA X es t):PE X (.Tuple es x1 pos) (ig t):=by
 intro a s d H Q I hq;refine wpAny_Tuple_spliced (fH (h pos a s d H _ I hq) λus c ⟨g,H1,I1,r,z,q⟩=>⟨by rw[<- r.length];exact z,?_⟩);have f:H1 c.heap.objs.size=none:=I1.hok.fresh υ;refine⟨.ref c.heap.objs.size,upd H1 c.heap.objs.size (.tup g),I1.laid (t':=c.toks) (λb u e=>Heap.get?_push_of_some _ e) υ ?_,rfl,q _ f⟩;exact⟨z,us,r,⟨_,Heap.get?_push_size _ rfl,rfl,_,rfl⟩⟩
theorem di(h:PA X es t):PE X (.List es pos) (iM t):=by
 intro a s d H Q I hq;refine wpAny_List_spliced (fH (h pos a s d H _ I hq) λus c ⟨g,H1,I1,r,z,q⟩=>⟨by rw[<- r.length];exact z,?_⟩);have f:H1 c.heap.objs.size=none:=I1.hok.fresh υ;refine⟨.ref c.heap.objs.size,upd H1 c.heap.objs.size (.lst g),I1.laid (t':=c.toks) (λb u e=>Heap.get?_push_of_some _ e) υ ?_,rfl,q _ f⟩;exact⟨z,us,0,r,Heap.get?_push_size _ rfl⟩
end
abbrev Sp:=List V->Hp->VK->XK->Prop
abbrev Ze:=List Env->Hp->AK->XK->AJ->AK->Prop
structure Zc(P:AM)(w:AO)(K:aC)(mg:As)(base:Heap)(A:Around)(outer:List Env)(s:AK)(H:Hp):Prop where
 frames:A.frames=some outer
 mod:Mod K mg base
 bs:∀b o,base.get? b=some o->s.heap.get? b=some o/\H b=none
 bsz:base.objs.size<=s.heap.objs.size
 ur:s.heap.FunFrames base outer
 frf:∀b∈frs outer,H b=none
 hok:yJ P w H s.heap
 bare:AllBare s.gens
def CE(outer:List Env)(P:AM)(w:AO)(H:Hp)(s:AK)(Q:VK)(u:AJ)(s':AK):Prop:=
 ∃v H',s'.os=s.os/\AllBare s'.gens/\Un (frs outer) [] H H' s.heap s'.heap/\yJ P w H' s'.heap/\RelV v u/\Q v H'
def CR(CX:Ze)(outer:List Env)(P:AM)(w:AO)(H:Hp)(s:AK)(Q:VK)(E:XK)(r:Result)(s':AK):Prop:=
 match r with
 | .ok (.ret u)=>CE outer P w H s Q u s'
 | .ok _=>False
 | .error e=>CX outer H s E e s'
structure qe(P:AM)(w:AO)(K:aC)(mg:As)(base:Heap)(CX:Ze)(k:Nat)(f:AI)(fd:AL)(ps:AH)(sp:Sp):Prop where
 len:∀vs H Q E,sp vs H Q E->vs.length=ps.length
 run:∀(A:Around) (outer:List Env) (s:AK) (H:Hp) (args:Args) (us:AC) (vs:List V) (Q:VK) (E:XK),Room k A->Zc P w K mg base A outer s H->BindsTo s fd args (ps.zip us)->Vals vs us->sp vs H Q E->
  codeAny (model P w) A (.call (.ref f) args) (CR CX outer P w H s Q E) s
theorem Zc.make{P:AM}{w:AO}{K:aC}{mg:As}{base:Heap}{A:Around}{outer:List Env}{s:AK}{H:Hp}(e:Zc P w K mg base A outer s H)(C:AI)(us:AC)(kw:List (Str×AJ)):
  Zc P w K mg base (A.under (.builtin "type.__call__" ⟨.ref C::us,kw⟩)) outer s H:=⟨by first | exact e.frames | (simpa[Around.under,Code.envs,Code.isFrame,pushEnvs]using e.frames),e.mod,e.bs,e.bsz,e.ur,e.frf,e.hok,e.bare⟩
section
variable {X:Cx}{pins:At}{σ:St}{H:Hp}{s s':AK}
theorem Inv.env0(I:Inv X pins σ H s):Zc X.prog X.w X.K X.mg X.base X.A X.stack s H:=
 ⟨I.ok.frames,I.ok.mod,I.bs,Nat.le_trans I.ok.bsz I.sz,I.stack,I.Wo,I.hok,I.bare⟩
theorem Inv.after{Q:VK}{u:AJ}(I:Inv X pins σ H s)(h:CE X.stack X.prog X.w H s Q u s'):EP X pins σ Q u s':=by
 obtain⟨v,e,os,bare,un,hok,r,q⟩:=h;obtain⟨c,g,d,t,a⟩:=s';obtain rfl:a=s.os:=os;exact⟨v,e,I.call (h':=c) (g':=g) (d':=d) (t':=t) (ch:=[]) un hok bare (λb z=>absurd z ζ),r,q⟩
end
def aU(sp:Sp)(qj:List V)(E:XK)(t:TA):TE:=λσ H Q=>t σ H λvs a=>sp (vs++qj) a Q E
def iI(C:AI)(m:Str)(sp:Sp)(qj:List V)(E:XK)(ta:TE)(t:TA):TE:=λσ H Q=>ta σ H λx b=>∃a dx fs,x=.ref a/\b a=some (.ins C dx fs)/\fs.lookup m=none/\
 t σ b λvs c=>sp (x::(vs++qj)) c Q E
def sr(C:AI)(sp:Sp)(qj:List V)(E:XK)(t:TA):TE:=λσ H Q=>t σ H λvs a=>∀x dx,a x=none->a dx=none->dx≠x->
 sp (.ref x::(vs++qj)) (upd (upd a dx (.own x)) x (.ins C dx [])) (λv b=>v=.non/\Q (.ref x) b) E
def Binds(K:aC)(fd:AL)(ps:AH)(ds:AC):Prop:=
 ∀(s:AK) (us:AC),K.In s.heap->(us++ds).length=ps.length->BindsTo s fd ⟨us,[]⟩ (ps.zip (us++ds))
theorem Binds.all{K:aC}{fd:AL}{ps:AH}(h:∀us:AC,us.length=ps.length->bindArgs fd ⟨us,[]⟩=pure (ps.zip us)):Binds K fd ps []:=λs us _ hl=>by
 rw[List.append_nil]at hl ⊢;exact .of_eq (h us hl)
def Passes(CX:Ze)(X:Cx)(E:XK):Prop:=∀(pins:At) (σ:St) (H:Hp) (s:AK) (e:AJ) (s':AK),Inv X pins σ H s->CX X.stack H s E e s'->X.xe e s'
section
variable {X:Cx}{CX:Ze}{k:Nat}{f C:AI}{fd:AL}{ps:AH}{sp:Sp}{qj:List V}{ds:AC}{E:XK}{x m:Str}{p pos apos:Pos}{e o:AN}{es:AG}{ta:TE}{t:TA}
theorem WX{pins:At}{σ:St}{H:Hp}{s:AK}{Q:VK}{us:AC}{vs:List V}(F:qe X.prog X.w X.K X.mg X.base CX k f fd ps sp)(hr:Room k X.A)(hb:Binds X.K fd ps ds)(hd:Vals qj ds)(hx:Passes CX X E)
  (I:Inv X pins σ H s) (r:Vals vs us) (h:sp (vs++qj) H Q E):wpAny ς X.A (call (.ref f) us) de X.xe s:=by
 have a:Vals (vs++qj) (us++ds):=r.append hd;have hl:(us++ds).length=ps.length:=by rw[<- a.length];exact F.len _ _ _ _ h
 refine wpAny_call (codeAny_mono (F.run X.A X.stack s H ⟨us,[]⟩ (us++ds) (vs++qj) Q E hr I.env0 (hb s us I.qg hl) a h) λr b hq=>?_);cases r with
 | error e=>exact hx pins σ H s e b I hq
 | ok fl=>
  cases fl with
  | ret u=>exact I.after hq
  | next=>exact False.elim hq
  | brk=>exact False.elim hq
  | cont=>exact False.elim hq
theorem pq(F:qe X.prog X.w X.K X.mg X.base CX k f fd ps sp)(hr:Room k X.A)(hg:Gl X x)(hm:X.mg x=↑f)(hk:W.keepIn X.K (.ref f)=true)(hb:Binds X.K fd ps ds)(hd:Vals qj ds)(hx:Passes CX X E)
  (i:PA X (e::es) t) (b:(x == ("__debug__":Str))=false:=by decide) (d:starEach (e::es) X.env=(false,eval e X.env)::starEach es X.env:=by rfl) (c:(backTo pos eA).any (·.1)=false:=by rfl):
  PE X (.Call (.Name x p) (e::es) [] pos) (aU sp qj E t):=by
 intro a s g H Q I h;refine wpAny_Call_Name_kw (fZ I hg hm ?_ b);refine W.callWith_K (h₀:=X.base) I.ok.mod.kin hk fe d c;exact WX F hr hb hd hx I1 r q
theorem mY{pl:Sem Bool}(p:PE X o ta)(c:K7 X.K C)(hm:Meth X.K C m f)(F:qe X.prog X.w X.K X.mg X.base CX k f fd ps sp)(hr:Room k X.A)(hb:Binds X.K fd ps ds)(hd:Vals qj ds)(hx:Passes CX X E)(v:PA X (e::es) t)
  (d:starEach (e::es) X.env=(false,eval e X.env)::starEach es X.env:=by rfl) (g:(backTo pos eA).any (·.1)=false:=by rfl)
  (n:eval (.Call (.Attribute o m apos) (e::es) [] pos) X.env=(do
   let ov <- eval o X.env
   standAt apos.atName
   let (f,first) <- holding [ov] (getMethod ov m pl)
   callWith pos f first (backTo pos (starEach (e::es) X.env)) (backToKw pos (keywordEach [] X.env))):=by rfl):
  PE X (.Call (.Attribute o m apos) (e::es) [] pos) (iI C m sp qj E ta t):=by
 intro b s i H Q I h;refine W.methodCall_KW (pl:=pl) (fH (p b s i H _ I h) λu j qc=>?_) n;obtain⟨x,H1,I1,rx,a,dx,fs,ex,ea,l,q⟩:=qc;subst ex;obtain rfl:u=Value.ref a:=rx;refine Qh I1 ea c hm l ?_;refine W.callWith_K (first:=[.ref a]) (h₀:=X.base) I.ok.mod.kin hm.kp (fH (v pos b j i H1 _ I1 q) λus y ⟨vs,H2,I2,r,q2⟩=>⟨I2.qg,?_⟩) d g;exact WX (us:=.ref a::us) (vs:=.ref a::vs) F hr hb hd hx I2 (.cons rfl r) q2
theorem jF{pl:Sem Bool}(e:PE X o ta)(c:K7 X.K C)(hm:Meth X.K C m f)(F:qe X.prog X.w X.K X.mg X.base CX k f fd ps sp)(hr:Room k X.A)(hb:Binds X.K fd ps ds)(hd:Vals qj ds)(hx:Passes CX X E)
  (d:eval (.Call (.Attribute o m apos) [] [] pos) X.env=(do
   let ov <- eval o X.env
   standAt apos.atName
   let (f,first) <- holding [ov] (getMethod ov m pl)
   callWith pos f first (backTo pos (starEach [] X.env)) (backToKw pos (keywordEach [] X.env))):=by rfl):
  PE X (.Call (.Attribute o m apos) [] [] pos) (iI C m sp qj E ta aG):=by
 intro b s g H Q I h;refine W.methodCall_KW (pl:=pl) (fH (e b s g H _ I h) λu i qc=>?_) d;obtain⟨x,H1,I1,rx,a,dx,fs,ex,ea,l,q⟩:=qc;subst ex;obtain rfl:u=Value.ref a:=rx;refine Qh I1 ea c hm l ?_;exact W.callWith_K0 (first:=[.ref a]) I1.qg hm.kp (WX (us:=[.ref a]) (vs:=[.ref a]) F hr hb hd hx I1 (.cons rfl .nil) q)
structure Mk(K:aC)(C f:AI):Prop where
 makes:W.makesIn K C=true
 init:W.findIn K (.ref C) "__init__"=some (↑f)
 fn:W.isFn K (.ref f)=true
 kp:W.keepIn K (.ref C)=true
theorem Zy{pins:At}{σ:St}{H:Hp}{s:AK}{Q:VK}{us:AC}{vs:List V}(M:Mk X.K C f)(F:qe X.prog X.w X.K X.mg X.base CX k f fd ps sp)(hr:Room dC X.A)(hb:Binds X.K fd ps ds)(hd:Vals qj ds)
  (hx:Passes CX X E) (I:Inv X pins σ H s) (r:Vals vs us)
  (h:∀x dx,H x=none->H dx=none->dx≠x->sp (.ref x::(vs++qj)) (upd (upd H dx (.own x)) x (.ins C dx [])) (λv j=>v=.non/\Q (.ref x) j) E):
  wpAny ς X.A (call (.ref C) us) de X.xe s:=by
 have hq:=h ae s.heap.objs.size (I.hok.fresh (Nat.le_succ _)) (I.hok.fresh υ) (Nat.ne_of_lt (Nat.lt_succ_self _));have b:=Inv.made (C:=C) I;have c:Vals (V.ref ae::(vs++qj)) (Value.ref ae::(us++ds)):=.cons rfl (r.append hd);have hl:(Value.ref ae::us++ds).length=ps.length:=by
  have e:=c.length;rw[F.len _ _ _ _ hq]at e;exact e.symm
 refine wpAny_call (Zku (f:=f) I.qg M.makes M.init (beq_iff_eq.mp M.fn) (codeAny_mono (F.run _ X.stack _ _ ⟨Value.ref ae::us,[]⟩ (Value.ref ae::(us++ds)) _ _ E (hr.make C us [])
  (b.env0.make C us []) (hb _ (Value.ref ae::us) b.qg hl) c hq) λr l a=>?_))
 cases r with
 | error e=>exact hx pins σ _ _ e l b a
 | ok fl=>
  cases fl with
  | ret u=>
   obtain⟨v,m,d,g,ev,i⟩:=b.after a;subst ev;exact⟨g,⟨V.ref ae,m,d,rfl,i⟩⟩
  | next=>exact False.elim a
  | brk=>exact False.elim a
  | cont=>exact False.elim a
theorem qG(M:Mk X.K C f)(F:qe X.prog X.w X.K X.mg X.base CX k f fd ps sp)(hr:Room dC X.A)(hg:Gl X x)(hm:X.mg x=↑C)(hb:Binds X.K fd ps ds)(hd:Vals qj ds)(hx:Passes CX X E)
  (i:PA X (e::es) t) (b:(x == ("__debug__":Str))=false:=by decide) (d:starEach (e::es) X.env=(false,eval e X.env)::starEach es X.env:=by rfl) (c:(backTo pos eA).any (·.1)=false:=by rfl):
  PE X (.Call (.Name x p) (e::es) [] pos) (sr C sp qj E t):=by
 intro a s g H Q I h;refine wpAny_Call_Name_kw (fZ I hg hm ?_ b);refine W.callWith_K (h₀:=X.base) I.ok.mod.kin M.kp fe d c;exact Zy M F hr hb hd hx I1 r q
theorem Zjr(M:Mk X.K C f)(F:qe X.prog X.w X.K X.mg X.base CX k f fd ps sp)(hr:Room dC X.A)(hg:Gl X x)(hm:X.mg x=↑C)(hb:Binds X.K fd ps ds)(hd:Vals qj ds)(hx:Passes CX X E)
  (a:(x == ("__debug__":Str))=false:=by decide):PE X (.Call (.Name x p) [] [] pos) (sr C sp qj E aG):=by
 intro b s c H Q I h;refine wpAny_Call_Name_kw (fZ I hg hm ?_ a);exact W.callWith_K0 I.qg M.kp (Zy (us:=[]) M F hr hb hd hx I .nil h)
end
section
variable {X:Cx}{CX:Ze}{k:Nat}{f C:AI}{fd:AL}{ps ks:AH}{sp:Sp}{E:XK}{x m:Str}{p pos apos kpos:Pos}{e o:AN}{es:AG}{kws:List Keyword}{te ta:TE}{t tk:TA}{nm:Option Str}
structure Zz4(K:aC)(fd:AL)(ps ks:AH)(g:AC->AC->AC)(gV:List V->List V->List V):Prop where
 to:∀(s:AK) (us ws:AC),K.In s.heap->(g us ws).length=ps.length->BindsTo s fd ⟨us,ks.zip ws⟩ (ps.zip (g us ws))
 rel:∀{vs:List V}{us:AC}{zs:List V}{ws:AC},Vals vs us->Vals zs ws->Vals (gV vs zs) (g us ws)
variable {g:AC->AC->AC}{gV:List V->List V->List V}
end
structure aM(N P:AH)(sc:Scope):Prop where
 kind:sc.kind=.function
 co:sc.isCoroutine=false
 gen:sc.isGenerator=false
 nd:N.Nodup
 pre:N.take P.length=P
 par:∀x∈P,sc.names.lookup x=some .local\/sc.names.lookup x=some .cell
 Zrd:∀y∈sc.names,y.2≠.free
theorem V4{kindOf:Str->Option NameKind}{x:Str}:∀{binds:List (Str×AJ)}{m:As},(∀v,(x,v)∉binds)->bindL kindOf binds m x=m x
 | [],_,_=>rfl
 | (n,v)::r,m,h=>by
  unfold bindL;rw[V4 λw a=>h w (List.mem_cons_of_mem _ a)];split
  ·have:x≠n:=by rintro rfl;exact h v List.mem_cons_self
   simp[this]
  ·rfl
theorem V6{kindOf:Str->Option NameKind}{x:Str}:∀{binds:List (Str×AJ)}{m:As},(∀v,(x,v)∉binds)->bindC kindOf binds m x=m x
 | [],_,_=>rfl
 | (n,v)::r,m,h=>by
  unfold bindC;rw[V6 λw a=>h w (List.mem_cons_of_mem _ a)];split
  ·rfl
  ·have:x≠n:=by rintro rfl;exact h v List.mem_cons_self
   simp[this]
theorem V5{kindOf:Str->Option NameKind}{x:Str}{v:AJ}:∀{P:AH}{vs:AC}{i:Nat}{m:As},P.Nodup->P[i]? =some x->vs[i]? =some v->kindOf x=some .local->
  bindL kindOf (P.zip vs) m x=some v
 | [],_,_,_,_,h,_,_=>by simp at h
 | _::_,[],_,_,_,_,h,_=>by simp at h
 | p::P,w::vs,0,m,nd,h1,h2,hk=>by
  simp at h1 h2;subst h1;subst h2;show bindL kindOf ((p,w)::P.zip vs) m p=_;unfold bindL;rw[V4 λv hv=>(List.nodup_cons.mp nd).1 (List.of_mem_zip hv).1,if_pos hk];simp
 | p::P,w::vs,i+1,m,nd,h1,h2,hk=>by
  show bindL kindOf ((p,w)::P.zip vs) m x=_;unfold bindL;exact V5 (i:=i) (List.nodup_cons.mp nd).2 (by simpa using h1) (by simpa using h2) hk
theorem V7{kindOf:Str->Option NameKind}{x:Str}{v:AJ}:∀{P:AH}{vs:AC}{i:Nat}{m:As},P.Nodup->P[i]? =some x->vs[i]? =some v->kindOf x≠some .local->
  bindC kindOf (P.zip vs) m x=some v
 | [],_,_,_,_,h,_,_=>by simp at h
 | _::_,[],_,_,_,_,h,_=>by simp at h
 | p::P,w::vs,0,m,nd,h1,h2,hk=>by
  simp at h1 h2;subst h1;subst h2;show bindC kindOf ((p,w)::P.zip vs) m p=_;unfold bindC;rw[V6 λv hv=>(List.nodup_cons.mp nd).1 (List.of_mem_zip hv).1,if_neg hk];simp
 | p::P,w::vs,i+1,m,nd,h1,h2,hk=>by
  show bindC kindOf ((p,w)::P.zip vs) m x=_;unfold bindC;exact V7 (i:=i) (List.nodup_cons.mp nd).2 (by simpa using h1) (by simpa using h2) hk
def start(N:AH)(vs:List V):St:=vs.map some++List.replicate (N.length - vs.length) none
def yh(CX:Ze)(P:AM)(w:AO)(K:aC)(mg:As)(base:Heap)(N:AH)(b:Str)(a:Scope)(f:AI)(d:AJ)(A:Around)(outer:List Env)(s:AK)(H:Hp)(E:XK):Cx where
 prog:=P
 w:=w
 K:=K
 mg:=mg
 base:=base
 A:=A.deeper (envOfC b a s.heap.objs.size f d)
 N:=N
 s₀:=s
 H₀:=H
 env:=envOfC b a s.heap.objs.size f d
 outer:=outer
 stack:=envOfC b a s.heap.objs.size f d::outer
 ex:=[]
 calm:=true
 fn:=λ_=>true
 pn:=[]
 xe:=λe s'=>wpAny (model P w) (A.deeper (envOfC b a s.heap.objs.size f d)) (leaving (envOfC b a s.heap.objs.size f d) e) (λ_ c=>CX outer H s E e c) (λg c=>CX outer H s E g c) s'
theorem Zbb{a:Scope}{n:Nat}{x:Str}(h:a.names.lookup x=some .cell):∃c,(cellsFrom n a.names []).lookup x=some c:=by
 have q:=W.cellsFrom_some a.names n [] (.inl h);exact Option.isSome_iff_exists.mp q
theorem Vr{CX:Ze}{P:AM}{w:AO}{K:aC}{mg:As}{base:Heap}{N ps:AH}{g:Str}{d:Scope}{f:AI}{o:AJ}{A:Around}{outer:List Env}{s t:AK}{H:Hp}{E:XK}{us:AC}{vs:List V}
  (S:aM N ps d) (hd:A.handled=none) (j:Zc P w K mg base A outer s H) (hl:vs.length=ps.length) (r:Vals vs us)
  (x:InCallC s s.heap.objs.size (bindL (envOfC g d s.heap.objs.size f o).kindOf (ps.zip us) λ_=>none) (cellsFrom ae d.names []) (bindC (envOfC g d s.heap.objs.size f o).kindOf (ps.zip us) λ_=>none) t):
  Inv (yh CX P w K mg base N g d f o A outer s H E) [] (start N vs) H t:=by
 have C:ps.length<=N.length:=by have:=congrArg List.length S.pre;rw[List.length_take]at this;omega
 obtain⟨h1,tk,rfl,hk⟩:=x.done;have l:∀b:AI,b∉(yh CX P w K mg base N g d f o A outer s H E).ex:=λb z=>absurd (show b∈([]:AF)from z) ζ;refine⟨⟨j.mod,S.kind,rfl,rfl,Nat.le_refl _,λy z c h1 h2=>?_,λy hy=>?_,λy c _ h=>?_,λ_=>hd,Around.frames_deeper j.frames,.inr ⟨rfl,rfl⟩,λb z=>absurd z (l b),j.bs,j.bsz,λb _ _=>l b,λb z=>absurd z (l b),j.ur,j.frf⟩,
  rfl,j.bare,Un.kept hk,⟨_,x.toInCall.ns,λi y v h1 h2 F=>?_⟩,λy c h=>⟨_,x.cell y c h⟩,j.hok.fresh υ,λy c h=>?_,λp hp=>absurd (show p∈([]:At)from hp) ζ,j.hok.kept hk,?_⟩
 ·exact name_of_addr x.apart (PySem.mem_of_lookup h1) (PySem.mem_of_lookup h2)
 ·have hy:d.names.lookup y=some .cell\/d.names.lookup y=some .free:=hy;rcases hy with hy | hy
  ·exact Zbb hy
  ·exact absurd rfl (S.Zrd _ (PySem.mem_of_lookup hy))
 ·exact Nat.le_of_lt (x.above y c (PySem.mem_of_lookup h))
 ·have hi:i<vs.length:=by
   unfold start at h2
   by_cases hi:i<vs.length
   ·exact hi
   ·rw[List.getElem?_append_right (by simpa using hi)]at h2;rw[List.getElem?_replicate]at h2;split at h2<;>cases h2
  have D:vs[i]? =some v:=by
   unfold start at h2;rw[List.getElem?_append_left (by simpa using hi),cg]at h2;cases e:vs[i]? with
   | none=>rw[e]at h2;cases h2
   | some a=>rw[e]at h2;cases h2;rfl
  obtain⟨u,hu,B⟩:=r.get D;have hp:ps[i]? =some y:=by
   rw[<- S.pre,List.getElem?_take_of_lt δ];exact h1
  have m:ps.Nodup:=by rw[<- S.pre];exact S.nd.sublist (List.take_sublist _ _)
  refine⟨u,B,?_⟩;rcases S.par y (List.mem_of_getElem? hp)with k | k
  ·exact .inl ⟨k,V5 m hp hu k⟩
  ·obtain⟨c,e⟩:=Zbb (n:=s.heap.objs.size+1) k;refine .inr ⟨.inl k,c,e,?_⟩;have q:=x.cell y c e;rw[V7 m hp hu (by show d.names.lookup y≠_;rw[k];decide)]at q;exact q
 ·exact j.hok.fresh (Nat.le_of_lt (x.above y c (PySem.mem_of_lookup h)))
 ·unfold start;show _=N.length;rw[List.length_append,aY,List.length_replicate];omega
theorem Zfu{CX:Ze}{P:AM}{w:AO}{K:aC}{mg:As}{base:Heap}{k:Nat}{f:AI}{name c:Str}{g:Arguments}{h:List Stmt}{a:Scope}{dV kV z M d ct oc:AJ}{T od:Option AI}
  {C:Array AB}{N ps:AH}{sp:Sp} (lk:K.lookup f=some ⟨oc,od,.func (W.fnOf name c g h a dV kV z M T d ct),C⟩) (D:W.codeIn K d c=true) (S:aM N ps a)
  (len:∀vs H Q E,sp vs H Q E->vs.length=ps.length)
  (j:∀(A:Around) (outer:List Env) (s:AK) (H:Hp) (vs:List V) (Q:VK) (E:XK),Room k (A.deeper (envOfC c a s.heap.objs.size f d))->sp vs H Q E->
   ∃t,QW (yh CX P w K mg base N c a f d A outer s H E) h t/\t { nx:=λ_ H'=>Q .non H',rt:=Q } (start N vs) H):
  qe P w K mg base CX dC f (W.fnOf name c g h a dV kV z M T d ct) ps sp:=by
 refine⟨len,λA outer s H O us vs Q E hr m hb r p=>?_⟩;have hl:=len _ _ _ _ p;have R:K.In s.heap:=m.mod.kin.keeps λb o e=>(m.bs b o e).1;have B:s.heap.NoLimit:=m.mod.nolimit.keeps λb o e=>(m.bs b o e).1;have l:∀y∈ps.zip us,a.names.lookup y.1=some .local\/(a.names.lookup y.1=some .cell/\((cellsFrom ae a.names []).lookup y.1).isSome=true):=λ⟨n,v⟩ hy=>by
  rcases S.par n (List.of_mem_zip hy).1 with q | q
  ·exact .inl q
  ·exact .inr ⟨q,W.cellsFrom_some _ _ _ (.inl q)⟩
 refine codeAny_call_function hr.depth (R _ _ lk) rfl S.co S.gen rfl (W.codeRec_of R D) (hb _ _ _ _ ?_);refine wpAny_newFunctionEnv_cells S.kind l λenv X U x=>?_;subst X;refine⟨B.keeps x.toInCall.keep,codeAny_func ?_⟩;obtain⟨t,Y,hq⟩:=j A outer s H vs Q E (hr.deeper _) p;have I:Inv (yh CX P w K mg base N c a f d A outer s H E) [] (start N vs) H U:=Vr S hr.hd m hl r x;refine wpAny_mono (Y [] U (start N vs) H _ I hq) (λfl L hs=>?_) λe L hs=>hs;have fin:∀{i:St}{H':Hp}{v:V}{u:AJ},Inv (yh CX P w K mg base N c a f d A outer s H E) [] i H' L->RelV v u->Q v H'->CE outer P w H s Q u L:=
  λ{i H' v u} J F q=>⟨v,H',J.os,J.bare,J.base,J.hok,F,q⟩
 cases fl with
 | ret u=>
  obtain⟨v,i,H',J,F,q⟩:=hs;exact fin J F q
 | next=>
  obtain⟨i,H',J,q⟩:=hs;exact fin (v:=V.non) (u:=Value.none) J rfl q
 | brk=>
  obtain⟨_,_,_,q⟩:=hs;exact False.elim q
 | cont=>
  obtain⟨_,_,_,q⟩:=hs;exact False.elim q
section
variable {X:Cx}{x:Str}{p pos:Pos}{e:AN}{es:AG}{t:TA}{id T:String}{r:List V->Hp->VK->Prop}
def pH(r:List V->Hp->VK->Prop)(t:TA):TE:=λσ H Q=>t σ H λvs a=>r vs a Q
theorem bR(hc:Gk X (.builtin id) r)(hg:Gl X x)(hm:X.mg x=none)(hv:bootBuiltins x=some (.builtin id))(j:PA X (e::es) t)(hn:x≠"__name__":=by decide)(b:(x == ("__debug__":Str))=false:=by decide)
  (i:starEach (e::es) X.env=(false,eval e X.env)::starEach es X.env:=by rfl) (c:(backTo pos eA).any (·.1)=false:=by rfl):PE X (.Call (.Name x p) (e::es) [] pos) (pH r t):=by
 intro a s d H Q I h;refine wpAny_Call_Name_kw (G4 I hg hm hv ?_ hn b);exact PyProof.Rows.callWith_builtin1 (fH (j pos a s d H _ I h) (by rintro us g ⟨f,H1,I1,r1,q1⟩;exact hc a g d H1 f us Q I1 r1 q1)) i c
theorem jO(hc:Gk X (.type T) r)(hg:Gl X x)(hm:X.mg x=none)(hv:bootBuiltins x=some (.type T))(j:PA X (e::es) t)(hn:x≠"__name__":=by decide)(b:(x == ("__debug__":Str))=false:=by decide)
  (i:starEach (e::es) X.env=(false,eval e X.env)::starEach es X.env:=by rfl) (c:(backTo pos eA).any (·.1)=false:=by rfl):PE X (.Call (.Name x p) (e::es) [] pos) (pH r t):=by
 intro a s d H Q I h;refine wpAny_Call_Name_kw (G4 I hg hm hv ?_ hn b);exact PyProof.Rows.callWith_type1 (fH (j pos a s d H _ I h) (by rintro us g ⟨f,H1,I1,r1,q1⟩;exact hc a g d H1 f us Q I1 r1 q1)) i c
end
end L2
namespace HT
open PySem PyProof.Rows
section
open PySem.SeqAt
open PySem.AutoSeq1 (wpAny_loadPart')
open PySem.MeetsSeq PySem.MeetsSeq2 PySem.MeetsSeq3
end
section
variable {prog:AM}{w:AO}{A:Around}{E:Ap}{s:AK}
theorem Zp5{t b:AI}{vs a:AC}{Q:Ap}(m:IsTup s.heap t vs.toArray)(hb:IsTup s.heap b a.toArray)(hv:vs≠[])
  (h1:a=[]->Q (.ref t) s) (h2:a≠[]->Q (.ref s.heap.objs.size) { s with heap:=s.heap.push { cls:=.type "tuple",data:=.seq (vs++a).toArray } })
  (hsz:vs.length+a.length<=sizeLine):wpAny ai A (binaryOp .Add (.ref t) (.ref b)) Q E s:=by
 obtain⟨⟨o,dd,l,sl⟩,i,hc,n,hd⟩:=id m;obtain⟨⟨k,g,data2,h⟩,c,f,n2,d⟩:=id hb;simp only at hc hd f d;subst hc hd f d;have e:vs.toArray++a.toArray=(vs++a).toArray:=ζ
 by_cases j:a=[]
 ·exact concat_meets ⟨_,i,rfl⟩ ⟨_,c,rfl⟩ noFill_tuple_add seq_tuple_add PySem.F.slot_tuple_add PySem.F.entry_tuple_add (PySem.F.args_tuple_add_2 _ _)
   (tuple_addW1 t b vs.toArray a.toArray n n2 dd g sl h (by simpa using hv) (by simp[j])) ⟨i,c,h1 j⟩
 ·refine concat_meets ⟨_,i,rfl⟩ ⟨_,c,rfl⟩ noFill_tuple_add seq_tuple_add PySem.F.slot_tuple_add PySem.F.entry_tuple_add (PySem.F.args_tuple_add_2 _ _)
   (tuple_addW2 t b vs.toArray a.toArray n n2 dd g sl h (by simpa using hv) (by simpa using j) (by rw[List.size_toArray,List.size_toArray];exact hsz)) ⟨i,c,?_⟩
  rw[e];exact h2 j
def jX(n d:Nat):AA->Nat
 | none=>d
 | some v=>if v<0 then(v+(n:Int)).toNat else min v.toNat n
theorem Zj7(n d:Nat):jX n d none=d:=rfl
theorem An(n d:Nat)(hd:d<=n)(o:AA):jX n d o<=n:=by
 cases o with
 | none=>exact hd
 | some v=>
  show(if v<0 then(v+(n:Int)).toNat else min v.toNat n)<=n
  by_cases hv:v<0
  ·rw[if_pos hv];omega
  ·rw[if_neg hv];exact Nat.min_le_right _ _
end
end HT
namespace L2
open PySem PySem.Spec PyProof.Rows
abbrev TO:=St->Hp->(AA->Hp->Prop)->Prop
def PO(X:Cx)(e:Option AN)(t:TO):Prop:=
 ∀(pins:At) (s:AK) (σ:St) (H:Hp) (Q:AA->Hp->Prop),Inv X pins σ H s->t σ H Q->
  wpAny ς X.A (evalPart e X.env) (λu s'=>∃o H',Inv X pins σ H' s'/\IsPart u o/\Q o H') X.xe s
def uH:TO:=λ_ H Q=>Q none H
def HX(t:TE):TO:=λσ H Q=>t σ H λx a=>∃i,x=.int i/\Q (some i) a
section
variable {X:Cx}{e:AN}{te:TE}{lo hi:Option AN}{tl th:TO}{pos p2:Pos}
theorem Dl:PO X none uH:=by
 intro a s b H Q I h;rw[evalPart_none];exact wpAny_pure ⟨none,H,I,.none,h⟩
theorem yP(h:PE X e te):PO X (some e) (HX te):=by
 intro a s b H Q I c;rw[evalPart_some];refine fH (h a s b H _ I c) λu d qc=>?_;obtain⟨x,H1,I1,r1,q1⟩:=qc;obtain⟨i,rfl,q⟩:=q1;obtain⟨t,rfl⟩:=r1;exact⟨some i,H1,I1,.int i t,q⟩
def SlR(X:Cx)(r:V->AA->AA->Hp->VK->Prop):Prop:=
 ∀(pins:At) (s:AK) (σ:St) (H:Hp) (x:V) (v a b:AJ) (lo hi:AA) (sl:AI) (Q:VK),Inv X pins σ H s->RelV x v->s.heap.IsSliceOf sl a b .none->IsPart a lo->IsPart b hi->r x lo hi H Q->
  ∃T id,typeLookup (.type T) "__getitem__"=pure (some (.builtin id))/\s.TypeIs v T/\wpAny ς X.A (getItem v (.ref sl)) de X.xe s
def tSl(r:V->AA->AA->Hp->VK->Prop)(te:TE)(tl th:TO):TE:=λσ H Q=>te σ H λx a=>tl σ a λl c=>th σ c λu b=>r x l u b Q
theorem tM{r:V->AA->AA->Hp->VK->Prop}(hr:SlR X r)(m:PE X e te)(hl:PO X lo tl)(hu:PO X hi th):PE X (.Subscript e (.Slice lo hi none p2) pos) (tSl r te tl th):=by
 intro a s d H Q I h;refine Subscript_ (fH (m a s d H _ I h) λv j qc=>?_);obtain⟨x,H1,I1,r1,q1⟩:=qc;refine wpAny_Slice (fH (hl a j d H1 _ I1 q1) λf i ⟨l,H2,I2,pl,q2⟩=>fH (hu a i d H2 _ I2 q2) λg c qc=>?_);obtain⟨u,H3,I3,pu,q3⟩:=qc;rw[evalPart_none];refine wpAny_pure ?_;have o:Inv X a d H3 { c with heap:=c.heap.push { cls:=.type "slice",data:=.fields #[f,g,.none] } }:=I3.kept (t':=c.toks) λb ob q=>Heap.get?_push_of_some _ q;obtain⟨T,id,n,k,hg⟩:=hr a { c with heap:=c.heap.push { cls:=.type "slice",data:=.fields #[f,g,.none] } } d H3 x v f g l u c.heap.objs.size Q o r1 (Heap.IsSliceOf.new ..) pl pu q3;show wpAny ς X.A (subscriptTail e (.Slice lo hi none p2) v (.ref c.heap.objs.size)) (EP X a d Q) X.xe { c with heap:=c.heap.push { cls:=.type "slice",data:=.fields #[f,g,.none] } };exact tail_any (ops:=[.ref c.heap.objs.size,v]) k n hg (by with_unfolding_all rfl)
def Yx(xs:List V)(lo hi:AA):List V:=(xs.drop (HT.jX xs.length 0 lo)).take (HT.jX xs.length xs.length hi - HT.jX xs.length 0 lo)
theorem Zb9(xs:List V)(lo hi:AA):(Yx xs lo hi).length<=xs.length:=by
 unfold Yx;rw[List.length_take,List.length_drop];omega
def Zpp(K:aC):R2:=λx y H Q=>∃a b xs c,x=.ref a/\y=.ref b/\cP K H a xs/\cP K H b c/\xs≠[]/\xs.length+c.length<=sizeLine/\
 (c=[]->Q (.ref a) H)/\(c≠[]->∀p,H p=none->Q (.ref p) (upd H p (.tup (xs++c))))
theorem Vals.Xi{xs:List V}{us:AC}(r:Vals xs us):us=[]↔xs=[]:=by
 cases r with
 | nil=>simp
 | cons _ _=>simp
theorem Znv:wU X (binaryOp .Add) (Zpp X.K):=by
 intro f s t H x y v u Q I k g h;obtain⟨a,b,r,j,rfl,rfl,p,hb,hx,hz,i,m⟩:=h;cases k;cases g;obtain⟨l,d,n,_⟩:=I.tuple p;obtain⟨e,c,p2,_⟩:=I.tuple hb;refine HT.Zp5 n p2 (λz=>hx (d.Xi.mp z)) (λz=>⟨.ref a,H,I,rfl,i (c.Xi.mp z)⟩) dB (by rw[<- d.length,<- c.length];exact hz);refine⟨.ref s.heap.objs.size,_,I.laid (t':=s.toks) (o:=.tup (r++j)) (λb ob q=>Heap.get?_push_of_some _ q) υ ?_,rfl,m (λw=>z (c.Xi.mpr w)) _ (I.hok.fresh υ)⟩;exact⟨by rw[List.length_append];exact hz,_,d.append c,IsTup.new _ _⟩
end
def ixN(n:Nat)(i:Int):Option Nat:=if 0<=i then(if i<n then some i.toNat else none)else if -(n:Int)<=i then some (i+n).toNat else none
def YG{a:Type}(xs:List a)(i:Int):Option a:=(ixN xs.length i).bind λj=>xs[j]?
theorem Zfl{n:Nat}{i:Int}{j:Nat}(h:ixN n i=some j):seqIndex? i n=some j/\j<n/\-(n:Int)<=i/\i<n:=by
 unfold ixN at h
 by_cases h0:0<=i
 ·rw[if_pos h0]at h
  by_cases h1:i<n
  ·rw[if_pos h1]at h;have e:i.toNat=j:=Option.some.inj h;exact⟨by rw[seqIndex_of h0 h1,e],δ,δ,h1⟩
  ·rw[if_neg h1]at h;cases h
 ·rw[if_neg h0]at h
  by_cases h1:-(n:Int)<=i
  ·rw[if_pos h1]at h;have e:(i+n).toNat=j:=Option.some.inj h;exact⟨by rw[seqIndex_neg δ h1,e],δ,h1,δ⟩
  ·rw[if_neg h1]at h;cases h
theorem YF{a:Type}{xs:List a}{i:Int}{v:a}(h:YG xs i=some v):∃j,seqIndex? i xs.length=some j/\xs[j]? =some v/\j<xs.length/\-(xs.length:Int)<=i/\i<xs.length:=by
 unfold YG at h;cases e:ixN xs.length i with
 | none=>rw[e]at h;cases h
 | some j=>
  rw[e]at h;obtain⟨h1,h2,b,h4⟩:=Zfl e;exact⟨j,h1,h,h2,b,h4⟩
theorem fG{a:Type}{xs:List a}{j:Nat}{v:a}(h:xs[j]? =some v):YG xs (j:Int)=some v:=by
 have b:j<xs.length:=(cG h).1;have e:ixN xs.length (j:Int)=some j:=by
  unfold ixN;rw[if_pos δ,if_pos δ];simp
 unfold YG;rw[e];exact h
theorem Zbh{a:Type}(xs:List a)(v:a):YG (xs++[v]) (-1)=some v:=by
 have hl:(xs++[v]).length=xs.length+1:=ζ
 have e:ixN (xs++[v]).length (-1)=some xs.length:=by
  unfold ixN;rw[hl,if_neg ε,if_pos δ];congr 1;omega
 unfold YG;rw[e];show(xs++[v])[xs.length]? =some v;simp
def Y7(b:AN):Prop:=∀o i,subscripted b false o i=operate [o,i] (getItem o i)
def IxR(X:Cx)(r:R2):Prop:=
 ∀(b a:AN) (pins:At) (s:AK) (σ:St) (H:Hp) (x y:V) (v u:AJ) (Q:VK),Inv X pins σ H s->RelV x v->RelV y u->r x y H Q->
  subscripted a false v u=operate [v,u] (getItem v u)->wpAny ς X.A (subscriptTail b a v u) de X.xe s
def MtR(X:Cx)(id:String)(r:V->List V->Hp->VK->Prop):Prop:=
 ∀(pins:At) (s:AK) (σ:St) (H:Hp) (x:V) (xs:List V) (v:AJ) (us:AC) (Q:VK),Inv X pins σ H s->RelV x v->Vals xs us->r x xs H Q->
  wpAny ς X.A (call (.builtin id) (v::us)) de X.xe s
section
variable {X:Cx}{a b:AN}{ta tb:TE}{pos:Pos}
theorem Zpr{r:R2}(hr:IxR X r)(k:PE X a ta)(hb:PE X b tb)(hs:Y7 b):PE X (.Subscript a b pos) (aZ r ta tb):=by
 intro c s i H Q I h;exact Subscript_ (Zt2 k hb I h λv u d x y g j f e q=>hr a b c d i g x y v u Q j f e q (hs _ _))
def iQ(K:aC):R2:=λx y H Q=>∃p xs i v,x=.ref p/\y=.int i/\cC K H p xs/\YG xs i=some v/\Q v H
def cB(K:aC):R2:=λx y H Q=>∃p xs i v,x=.ref p/\y=.int i/\cP K H p xs/\YG xs i=some v/\Q v H
def Zjf:R2:=λx y H Q=>∃z i c,x=.str z/\y=.int i/\z.length<=sizeLine/\YG z.cps.toList i=some c/\Q (.str ⟨#[c]⟩) H
theorem cI:IxR X (iQ X.K):=by
 intro d f a s l H x y v u Q I n m h hs;obtain⟨p,C,i,z,rfl,rfl,hq,o,q⟩:=h;cases n;obtain⟨t,rfl⟩:=m;obtain⟨e,r,c,hz⟩:=I.list hq;obtain⟨j,h1,h2,B,h4,h5⟩:=YF o;obtain⟨w,k,g⟩:=r.get h2;have hl:=r.length;have hn:=G3;have fin:EP X a l Q w s:=⟨z,H,I,g,q⟩
 by_cases h0:0<=i
 ·have b:i.toNat=j:=by
   rw[seqIndex_of h0 h5]at h1;exact Option.some.inj h1
  exact item_listR c.isList h0 δ (by rw[b];simpa using k) fin hs
 ·have b:(i+(e.toArray.size:Int)).toNat=j:=by
   rw[seqIndex_neg δ h4]at h1;rw[List.size_toArray,<- hl];exact Option.some.inj h1
  exact subscriptTail_builtinR (x:=w) c.isList.typeIs slot_list_getitem.lookup
   (wpAny_getItem_list_neg (Q:=λr A=>r=w/\EP X a l Q r A) c.isList δ (by rw[List.size_toArray]<;>omega) δ (by rw[b];simpa using k) ⟨rfl,fin⟩) hs
theorem aR:IxR X (cB X.K):=by
 intro b c a s f H x y v u Q I k g h hs;obtain⟨p,B,i,z,rfl,rfl,hq,n,q⟩:=h;cases k;obtain⟨t,rfl⟩:=g;obtain⟨m,r,e,hz⟩:=I.tuple hq;obtain⟨j,h1,h2,A,h4,h5⟩:=YF n;obtain⟨w,l,d⟩:=r.get h2;have hl:=r.length;have hn:=G3;have fin:EP X a f Q w s:=⟨z,H,I,d,q⟩;exact subscriptTail_builtinR (x:=w) e.typeIs slot_tuple_getitem.lookup
  (getItem_tuple (j:=j) (Q:=λr o=>r=w/\EP X a f Q r o) e δ δ (by rw[List.size_toArray,<- hl];exact h1) (by simpa using l) ⟨rfl,fin⟩) hs
theorem Zlc:IxR X Zjf:=by
 intro a b d s o H x y v u Q I g e h hs;obtain⟨z,i,c,rfl,rfl,hz,k,q⟩:=h;obtain⟨t,rfl⟩:=g;obtain⟨n,rfl⟩:=e;obtain⟨j,h1,h2,m,h4,h5⟩:=YF k;have hl:z.cps.toList.length=z.length:=by simp[Str.length]
 rw[hl]at h1 h4 h5;have hn:=G3;exact tail_any (typeIs_str s z t) slot_str_getitem.lookup (getItem_str (c:=c) (by
  have f:decide (i < -(2 ^ 63:Int))=false:=decide_eq_false δ;have l:decide (i≥2 ^ 63)=false:=decide_eq_false δ;rw[f,l,Bool.or_false]) (by rw[h1];simpa using h2) ⟨.str ⟨#[c]⟩,H,I.tok _,⟨_,rfl⟩,q⟩) hs
theorem Zcz(a:AC)(n j:Nat)(u:AJ):Obj.mapSeq (·.setIfInBounds j u) { cls:=.type "list",data:=.seq a.toArray n }={ cls:=.type "list",data:=.seq (a.set j u).toArray n }:=by
 simp[Obj.mapSeq]
theorem Inv.lst{pins:At}{σ:St}{H:Hp}{s:AK}{p:AI}{xs:List V}(I:Inv X pins σ H s)(h:H p=some (.lst xs)):
  ∃(a:AC) (n:Nat),Vals xs a/\s.heap.get? p=some { cls:=.type "list",data:=.seq a.toArray n }/\xs.length<=sizeLine:=by
 obtain⟨z,a,n,r,e⟩:=I.hok p _ h;exact⟨a,n,r,e,z⟩
theorem Inv.Zrn{pins:At}{σ:St}{H:Hp}{s:AK}{p:AI}{xs c:List V}{a its':AC}{n d:Nat}{f:Obj->Obj}(I:Inv X pins σ H s)(h:H p=some (.lst xs))
  (i:s.heap.get? p=some { cls:=.type "list",data:=.seq a.toArray n }) (g:f { cls:=.type "list",data:=.seq a.toArray n }={ cls:=.type "list",data:=.seq its'.toArray d }) (r:Vals c its') (hz:c.length<=sizeLine) (t:Nat):
  Inv X pins σ (upd H p (.lst c)) { s with heap:=s.heap.update p f,toks:=t }:=by
 have e:(s.heap.update p f).get? p=some { cls:=.type "list",data:=.seq its'.toArray d }:=by
  rw[Heap.get?_update_self f i (by rw[g]<;>rfl),g]
 refine I.write (x:=p) (e:=p) (by rw[h];trivial) (.inl rfl) (λb u hb q=>(Heap.get?_update_other _ _ (Ne.symm hb)).trans q) ⟨_,e⟩ ?_;exact⟨hz,its',d,r,e⟩
def lW:V->V->V->Hp->(Hp->Prop)->Prop:=λo i v H Q=>∃p xs k j,o=.ref p/\i=.int k/\H p=some (.lst xs)/\ixN xs.length k=some j/\Q (upd H p (.lst (xs.set j v)))
theorem set_list:Zvc X lW:=by
 intro b s m H o i v y z u Q I l w g h;obtain⟨p,x,k,j,rfl,rfl,hp,f,q⟩:=h;cases l;obtain⟨t,rfl⟩:=w;obtain⟨a,n,r,c,hz⟩:=I.lst hp;obtain⟨h1,h2,e,h4⟩:=Zfl f;have hl:=r.length;have hn:=G3;have d:Inv X b m (upd H p (.lst (x.set j v))) { s with heap:=s.heap.update p (Obj.mapSeq (·.setIfInBounds j u)) }:=
  I.Zrn hp c (Zcz a n j u) (r.set g j) (by rw[List.length_set];exact hz) s.toks
 by_cases h0:0<=k
 ·have hk:k.toNat=j:=by
   rw[seqIndex_of h0 h4]at h1;exact Option.some.inj h1
  exact W.ki_setAt c h0 δ (by rw[List.size_toArray,<- hl];exact h4) (by rw[hk];exact⟨_,d,q⟩)
 ·have hk:(k+(a.toArray.size:Int)).toNat=j:=by
   rw[seqIndex_neg δ e]at h1;rw[List.size_toArray,<- hl];exact Option.some.inj h1
  exact W.ki_setBack c δ (by rw[List.size_toArray,<- hl];exact e) δ (by rw[hk];exact⟨_,d,q⟩)
theorem WR(lo hi:AA)(n:Nat):(sliceBounds lo hi none n).1=((HT.jX n 0 lo:Nat):Int)/\(sliceBounds lo hi none n).2.1=((HT.jX n n hi:Nat):Int)/\(sliceBounds lo hi none n).2.2=1:=by
 refine⟨?_,?_,rfl⟩
 ·cases lo with
  | none=>simp[sliceBounds,HT.jX]
  | some i=>
   simp only[sliceBounds,HT.jX,Option.getD_none,show(1:Int) > 0 by decide,if_true]
   by_cases h:i<0
   ·simp only[h,if_true]<;>omega
   ·simp only[h,if_false]<;>omega
 ·cases hi with
  | none=>simp[sliceBounds,HT.jX]
  | some i=>
   simp only[sliceBounds,HT.jX,Option.getD_none,show(1:Int) > 0 by decide,if_true]
   by_cases h:i<0
   ·simp only[h,if_true]<;>omega
   ·simp only[h,if_false]<;>omega
theorem Rn(a:AC)(lo hi:AA):slicePick a.toArray lo hi none=((a.drop (HT.jX a.length 0 lo)).take (HT.jX a.length a.length hi - HT.jX a.length 0 lo)).toArray:=by
 obtain⟨h1,h2,b⟩:=WR lo hi a.toArray.size;unfold slicePick;rw[h1,h2,b];simp only[sliceRange_one,pick_run,List.size_toArray]<;>rfl
def Zgx(K:aC):V->AA->AA->Hp->VK->Prop:=λx lo hi H Q=>∃a xs,x=.ref a/\cC K H a xs/\∀p,H p=none->Q (.ref p) (upd H p (.lst (Yx xs lo hi)))
theorem Zeu:SlR X (Zgx X.K):=by
 intro f s m H x v l n lo hi sl Q I i hs g k h;obtain⟨a,c,rfl,hx,q⟩:=h;cases i;obtain⟨j,r,e,hz⟩:=I.list hx;have d:=r.length;refine⟨"list",_,slot_list_getitem.lookup,e.isList.typeIs,?_⟩;refine wpAny_getItem_list_slice e.isList hs g k .none ζ ?_ (by rw[List.size_toArray]<;>omega);rw[Rn,<- d];refine⟨.ref s.heap.objs.size,_,I.laid (t':=s.toks) (o:=.lst (Yx c lo hi)) (λb ob q=>Heap.get?_push_of_some _ q) υ ?_,rfl,q _ (I.hok.fresh υ)⟩;exact⟨Nat.le_trans (Zb9 c lo hi) hz,_,0,(r.drop (HT.jX c.length 0 lo)).take (HT.jX c.length c.length hi - HT.jX c.length 0 lo),Heap.get?_push_size _ rfl⟩
def wG:V->Bool
 | .non=>true
 | .bl _=>true
 | .int _=>true
 | .str _=>true
 | _=>false
def eqV:V->V->Bool
 | .non,.non=>true
 | .bl a,.bl b=>a == b
 | .bl a,.int b=>(if a then 1 else 0) == b
 | .int a,.bl b=>a == (if b then 1 else 0)
 | .int a,.int b=>a == b
 | .str a,.str b=>a == b
 | _,_=>false
theorem Bb{A:Around}{s:AK}{y x:V}{u v:AJ}(e:RelV y u)(c:RelV x v)(g:wG y=true)(f:wG x=true):SeqAt.EqAt A s u v (eqV y x):=by
 cases y with
 | non=>
  cases e;cases x with
  | non=>cases c;exact SeqAt.EqAt.same _
  | bl b=>cases c;exact SeqAt.EqAt.none_bool b
  | int b=>obtain⟨t,rfl⟩:=c;exact SeqAt.EqAt.none_int b t
  | str b=>obtain⟨t,rfl⟩:=c;exact SeqAt.EqAt.none_str b t
  | _=>exact absurd (show false=true from f) Bool.false_ne_true
 | bl a=>
  cases e;cases x with
  | non=>cases c;exact SeqAt.EqAt.bool_none a
  | bl b=>cases c;exact SeqAt.EqAt.bool_bool a b
  | int b=>obtain⟨t,rfl⟩:=c;exact SeqAt.EqAt.bool_int a b t
  | str b=>obtain⟨t,rfl⟩:=c;exact SeqAt.EqAt.bool_str a b t
  | _=>exact absurd (show false=true from f) Bool.false_ne_true
 | int a=>
  obtain⟨d,rfl⟩:=e;cases x with
  | non=>cases c;exact SeqAt.EqAt.int_none a d
  | bl b=>cases c;exact SeqAt.EqAt.int_bool a d b
  | int b=>obtain⟨t,rfl⟩:=c;exact SeqAt.EqAt.int_int a d b t
  | str b=>obtain⟨t,rfl⟩:=c;exact SeqAt.EqAt.int_str a d b t
  | _=>exact absurd (show false=true from f) Bool.false_ne_true
 | str a=>
  obtain⟨d,rfl⟩:=e;cases x with
  | non=>cases c;exact SeqAt.EqAt.str_none a d
  | bl b=>cases c;exact SeqAt.EqAt.str_bool a d b
  | int b=>obtain⟨t,rfl⟩:=c;exact SeqAt.EqAt.str_int a d b t
  | str b=>obtain⟨t,rfl⟩:=c;exact SeqAt.EqAt.str_str a d b t
  | _=>exact absurd (show false=true from f) Bool.false_ne_true
 | _=>exact absurd (show false=true from g) Bool.false_ne_true
def eqU(x:V)(u:AJ):Bool:=match u with
 | .none=>eqV .non x
 | .bool b=>eqV (.bl b) x
 | .int i _=>eqV (.int i) x
 | .str z _=>eqV (.str z) x
 | _=>false
theorem Zm3{x y:V}{u:AJ}(r:RelV y u)(f:wG y=true):eqU x u=eqV y x:=by
 cases y with
 | non=>cases r;rfl
 | bl b=>cases r;rfl
 | int i=>obtain⟨t,rfl⟩:=r;rfl
 | str z=>obtain⟨t,rfl⟩:=r;rfl
 | _=>exact absurd (show false=true from f) Bool.false_ne_true
theorem Zg7{x:V}{xs:List V}{us:AC}(h:Vals xs us):xs.all wG=true->us.any (eqU x)=xs.any λy=>eqV y x:=by
 induction h with
 | nil=>
  intro _;rfl
 | cons r t a=>
  intro f;rw[List.all_cons,Bool.and_eq_true]at f;rw[List.any_cons,List.any_cons,Zm3 r f.1,a f.2]
theorem Za3{A:Around}{s:AK}{x:V}{v:AJ}(a:RelV x v)(b:wG x=true){xs:List V}{us:AC}(h:Vals xs us):xs.all wG=true->∀u∈us,SeqAt.EqAt A s u v (eqU x u):=by
 induction h with
 | nil=>
  intro _ u hu;cases hu
 | cons r t c=>
  intro f d hu;rw[List.all_cons,Bool.and_eq_true]at f;rcases List.mem_cons.mp hu with rfl | hu
  ·rw[Zm3 r f.1];exact Bb r a f.1 b
  ·exact c f.2 d hu
def inV(x:V)(xs:List V):Bool:=xs.any λy=>eqV y x
def rIn(K:aC)(a:Bool):R2:=λx y H Q=>∃p xs,y=.ref p/\(cC K H p xs\/cP K H p xs)/\wG x=true/\xs.all wG=true/\Q (.bl (if a then !inV x xs else inV x xs)) H
theorem Zh6:wU X (compareOp .In) (rIn X.K false):=by
 intro f s i H x y v u Q I d g h;obtain⟨p,j,rfl,hq,e,fs,q⟩:=h;cases g;rcases hq with hq | hq
 ·obtain⟨a,r,b,hz⟩:=I.list hq;refine SeqAt.in_listAt (eqU x) b.isList (λw c=>Za3 d e r fs w (by simpa using c)) ⟨.bl _,H,I,rfl,?_⟩;rw[show a.toArray.any (eqU x)=a.any (eqU x) by simp,Zg7 r fs];exact q
 ·obtain⟨a,r,b,hz⟩:=I.tuple hq;refine SeqAt.in_tupleAt (eqU x) b (λw c=>Za3 d e r fs w (by simpa using c)) ⟨.bl _,H,I,rfl,?_⟩;rw[show a.toArray.any (eqU x)=a.any (eqU x) by simp,Zg7 r fs];exact q
theorem Yz:Gk X (.builtin "len") (λxs H Q=>∃p b,xs=[.ref p]/\(cC X.K H p b\/cP X.K H p b)/\Q (.int b.length) H):=by
 intro f s i H xs us Q I r h;obtain⟨p,b,rfl,hq,q⟩:=h;obtain⟨u,rfl,g⟩:=vals1 r;cases g;have hn:=G3;rcases hq with hq | hq
 ·obtain⟨d,e,c,hz⟩:=I.list hq;have a:=e.length;exact Calls.call_len_list c.isList (by simp only[List.size_toArray]<;>omega) ⟨.int b.length,H,I.tok _,⟨s.toks+1,by rw[List.size_toArray,a]⟩,q⟩
 ·obtain⟨d,e,c,hz⟩:=I.tuple hq;have a:=e.length;exact len_tuple c (by simp only[List.size_toArray]<;>omega) ⟨.int b.length,H,I.tok _,⟨s.toks+1,by rw[List.size_toArray,a]⟩,q⟩
theorem FW:Gk X (.type "list") (λxs H Q=>∃p d,xs=[.ref p]/\(cC X.K H p d\/cP X.K H p d)/\∀l,H l=none->Q (.ref l) (upd H l (.lst d))):=by
 intro j s x H xs us Q I r h;obtain⟨p,d,rfl,hq,q⟩:=h;obtain⟨u,rfl,v⟩:=vals1 r;cases v;have fin:∀(a:AC),Vals d a->d.length<=sizeLine->∀(c:Heap) (f:Nat),(∀b t,s.heap.get? b=some t->c.get? b=some t)->
   c.get? s.heap.objs.size=some { cls:=.type "list",dict:=none,data:=.seq a.toArray f,slots:=#[] }->EP X j x Q (.ref s.heap.objs.size) { s with heap:=c }:=λa g hz c f kp e=>
  ⟨.ref s.heap.objs.size,_,I.laid (t':=s.toks) kp υ (show gq X.prog X.w _ c _ (.lst d)from⟨hz,a,f,g,e⟩),rfl,q _ (I.hok.fresh υ)⟩
 rcases hq with hq | hq
 ·obtain⟨a,g,k,hz⟩:=I.list hq;have i:=g.length;obtain⟨o,m,hc,n,hd⟩:=k.isList;exact call_list_seq p (.inl rfl) m hc hd (λc f kp e=>fin a g hz c f kp e) (by simp only[List.size_toArray]<;>omega)
 ·obtain⟨a,g,k,hz⟩:=I.tuple hq;have i:=g.length;obtain⟨o,m,hc,n,hd⟩:=k;exact call_list_seq p (.inr rfl) m hc hd (λc f kp e=>fin a g hz c f kp e) (by simp only[List.size_toArray]<;>omega)
def tyV(K:aC)(T:String)(x:V)(H:Hp):Prop:=match x with
 | .str _=>T="str"
 | .int _=>T="int"
 | .ref p=>(T="list"/\∃xs,cC K H p xs)\/(T="tuple"/\∃o,K.lookup p=some o/\o.cls=.type "tuple"/\o.dict=none)\/
   (T="dict"/\((∃a,H p=some (.dK a))\/∃a,H p=some (.dT a)))\/(T="set"/\∃S n,H p=some (.set S n))
 | _=>False
theorem Zik{pins:At}{σ:St}{H:Hp}{s:AK}{T:String}{x:V}{v:AJ}(I:Inv X pins σ H s)(r:RelV x v)(ty:tyV X.K T x H):
  s.TypeIs v T/\∀a,v=.ref a->∃ob,s.heap.get? a=some ob/\ob.dict=none:=by
 cases x with
 | str z=>
  obtain⟨t,rfl⟩:=r;cases (show T="str" from ty);exact⟨typeIs_str s z t,λ_ e=>nomatch e⟩
 | int i=>
  obtain⟨t,rfl⟩:=r;cases (show T="int" from ty);exact⟨typeIs_int s i t,λ_ e=>nomatch e⟩
 | ref p=>
  cases r;rcases ty with ⟨rfl,h,hq⟩ | ⟨rfl,o,hk,hc,hd⟩ | ⟨rfl,hk⟩ | ⟨rfl,S,n,hk⟩
  ·obtain⟨g,_,f,_⟩:=I.list hq;refine⟨f.isList.typeIs,λa e=>?_⟩;cases e;obtain⟨o,n,e,c,hd,_⟩:=f;exact⟨o,e,hd⟩
  ·refine⟨⟨o,I.qg p o hk,hc⟩,λa e=>?_⟩;cases e;exact⟨o,I.qg _ o hk,hd⟩
  ·have z:∃o,s.heap.get? p=some o/\o.ExactDict:=by
    rcases hk with ⟨d,hk⟩ | ⟨d,hk⟩
    ·obtain⟨_,_,_,_,o,_,_,e,ex,_⟩:=I.hok p _ hk;exact⟨o,e,ex⟩
    ·obtain⟨_,_,_,_,o,_,_,e,ex,_⟩:=I.hok p _ hk;exact⟨o,e,ex⟩
   obtain⟨o,e,ex⟩:=z;refine⟨⟨o,e,ex.1⟩,λa b=>?_⟩;cases b;exact⟨o,e,ex.2.1⟩
  ·obtain⟨o,_,_,_,e,ex,_⟩:=I.hok p _ hk;refine⟨⟨o,e,ex.1⟩,λa b=>?_⟩;cases b;exact⟨o,e,ex.2.1⟩
 | _=>exact False.elim ty
def Zqm(K:aC)(T:String)(r:V->List V->Hp->VK->Prop)(to:TE):TE:=λσ H Q=>to σ H λx a=>tyV K T x a/\r x [] a Q
def tBM(K:aC)(T:String)(r:V->List V->Hp->VK->Prop)(to:TE)(t:TA):TE:=λσ H Q=>to σ H λx a=>tyV K T x a/\t σ a λxs b=>r x xs b Q
variable {o e:AN}{es:AG}{to:TE}{t:TA}{name:Str}{apos cpos:Pos}{T id:String}{r:V->List V->Hp->VK->Prop}
theorem Zr2(i:PlainAttrs T)(slot:Slot T name id)(d:typeOf (.builtin id)=pure (.type "method_descriptor"))(hm:MtR X id r)(f:PE X o to)
  (b:attributeBase o name X.env (eval o X.env)=eval o X.env:=by rfl) (c:(apos.endLine == cpos.line)=true:=by rfl):PE X (.Call (.Attribute o name apos) [] [] cpos) (Zqm X.K T r to):=by
 intro a s e H Q I h;refine wpAny_Call_method0_late b c (fH (f a s e H _ I h) λv g qc=>?_);obtain⟨x,H1,I1,r1,ty,q1⟩:=qc;obtain⟨h1,h2⟩:=Zik I1 r1 ty;exact⟨T,id,i,slot,d,h1,h2,Calls.callWith_builtin rfl (PySem.evalArgs_none (hm a g e H1 x [] v [] Q I1 r1 .nil q1))⟩
theorem tO(z:PlainAttrs T)(slot:Slot T name id)(g:typeOf (.builtin id)=pure (.type "method_descriptor"))(hm:MtR X id r)(n:PE X o to)(m:PA X (e::es) t)
  (c:attributeBase o name X.env (eval o X.env)=eval o X.env:=by rfl)
  (f:((backTo cpos (starEach (e::es) X.env)).all (λx=>!x.1) && (backToKw cpos (keywordEach [] X.env)).all (λx=>x.1.isSome)
   && decide ((e::es).length+([]:List Keyword).length+(if ([]:List Keyword).isEmpty then 0 else 1)<30))=true:=by rfl)
  (d:(apos.endLine == cpos.line)=true:=by rfl) (hs:starEach (e::es) X.env=(false,eval e X.env)::starEach es X.env:=by rfl) (b:(backTo cpos eA).any (·.1)=false:=by rfl):
  PE X (.Call (.Attribute o name apos) (e::es) [] cpos) (tBM X.K T r to t):=by
 intro a s i H Q I h;refine wpAny_Call_method_late c f d rfl (fH (n a s i H _ I h) λv p qc=>?_);obtain⟨x,H1,I1,r1,ty,q1⟩:=qc;obtain⟨h1,h2⟩:=Zik I1 r1 ty;refine⟨T,id,z,slot,g,h1,h2,?_⟩;have j:=m cpos a p i H1 _ I1 q1;rw[hs]at j ⊢;refine Calls.callWith_builtin (by show(false || (backTo cpos (starEach es X.env)).any (·.1))=false;rw[b]<;>rfl) (Calls.evalArgs_plain ?_);exact fH j (by rintro us k ⟨l,u,y,w,q⟩;exact hm a k i u x l v us Q y r1 w q)
end
def MtM(X:Cx)(id:String)(r:V->List V->Hp->VK->Prop):Prop:=
 ∀(pins:At) (s:AK) (σ:St) (H:Hp) (x:V) (xs:List V) (v:AJ) (us:AC) (Q:VK),Inv X pins σ H s->RelV x v->Vals xs us->r x xs H Q->
  wpAny ς X.A (call (.builtin id) (v::us)) de X.xe s
theorem Vals.one{x:V}{us:AC}(h:Vals [x] us):∃u,us=[u]/\RelV x u:=by
 cases h with
 | cons r t=>
  cases t;exact⟨_,rfl,r⟩
theorem Vals.zero:∀{us:AC},Vals [] us->us=[]
 | _,.nil=>rfl
theorem Vals.dropLast{xs:List V}{us:AC}(h:Vals xs us):Vals xs.dropLast us.dropLast:=by
 induction h with
 | nil=>exact .nil
 | cons r t a=>
  cases t with
  | nil=>exact .nil
  | cons q b=>exact .cons r a
theorem Vals.eraseIdx:∀{xs:List V}{us:AC} (i:Nat),Vals xs us->Vals (xs.eraseIdx i) (us.eraseIdx i)
 | _,_,_,.nil=>.nil
 | _,_,0,.cons _ t=>t
 | _,_,i+1,.cons r t=>.cons r (Vals.eraseIdx i t)
theorem Vals.rep{xs:List V}{us:AC}(h:Vals xs us):∀k:Nat,Vals (List.replicate k xs).flatten (List.replicate k us).flatten
 | 0=>.nil
 | k+1=>by
  rw[List.replicate_succ,List.replicate_succ,List.flatten_cons,List.flatten_cons];exact Vals.append h (Vals.rep h k)
theorem Zdr{d:Type}(l:List d):l.eraseIdx (l.length - 1)=l.dropLast:=by
 induction l with
 | nil=>rfl
 | cons a r c=>
  cases r with
  | nil=>rfl
  | cons b r=>
   have e:(a::b::r).length - 1=((b::r).length - 1)+1:=by
    have h1:(a::b::r).length=r.length+2:=rfl;have h2:(b::r).length=r.length+1:=rfl;omega
   rw[e,List.eraseIdx_cons_succ,c]
   all_goals rfl
theorem Vp{a:Type}:∀(l:List a) (i:Nat),(l.eraseIdx i).length<=l.length
 | [],_=>Nat.le_refl _
 | _::_,0=>Nat.le_succ _
 | _::r,i+1=>Nat.succ_le_succ (Vp r i)
theorem foldl_rep(a:AC):∀(k:Nat) (acc:AC),
  List.foldl (λb c=>b++c) acc.toArray (List.replicate k a.toArray)=(acc++(List.replicate k a).flatten).toArray
 | 0,acc=>ζ
 | k+1,acc=>by
  have e:acc.toArray++a.toArray=(acc++a).toArray:=ζ
  have d:(acc++a)++(List.replicate k a).flatten=acc++(List.replicate dC a).flatten:=by
   rw[List.replicate_succ,List.flatten_cons,List.append_assoc]
  rw[<- d,<- foldl_rep a k (acc++a),<- e,List.replicate_succ,List.foldl_cons]
section
variable {X:Cx}{pins:At}{σ:St}{H:Hp}{s:AK}{l b:AI}{xs ys zs:List V}
theorem Inv.Zl1{a its':AC}{n:Nat}{f:Array AJ->Array AJ}{t':Nat}(I:Inv X pins σ H s)(b:H l=some (.lst xs))
  (e:s.heap.get? l=some { cls:=.type "list",data:=.seq a.toArray n }) (c:f a.toArray=its'.toArray) (hv:Vals ys its') (hz:ys.length<=sizeLine):
  Inv X pins σ (upd H l (.lst ys)) { s with heap:=s.heap.update l (Obj.mapSeq f),toks:=t' }:=by
 have q:=PySem.IsL.update e f;rw[c]at q;refine I.write (x:=l) (e:=l) (by rw[b];exact trivial) (.inl rfl) (λd u hb hu=>(Heap.get?_update_other s.heap (Obj.mapSeq f) (Ne.symm hb)).trans hu) ⟨_,q⟩ ?_;exact⟨hz,its',_,hv,q⟩
theorem Inv.Ztv{a:AC}{t':Nat}(I:Inv X pins σ H s)(hv:Vals ys a)(hz:ys.length<=sizeLine):
  Inv X pins σ (upd H s.heap.objs.size (.lst ys)) { s with heap:=s.heap.push { cls:=.type "list",data:=.seq a.toArray },toks:=t' }:=
 I.laid (λ_ _ q=>Heap.get?_push_of_some _ q) υ ⟨hz,a,0,hv,Heap.get?_push_size _ rfl⟩
theorem Inv.fresh(I:Inv X pins σ H s):H s.heap.objs.size=none:=I.hok.fresh υ
theorem Inv.RN(I:Inv X pins σ H s)(b:H l=some (.lst xs)):xs.length<=sizeLine/\∃(a:AC) (n:Nat),Vals xs a/\xs.length=a.length/\s.heap.get? l=some { cls:=.type "list",data:=.seq a.toArray n }:=by
 obtain⟨z,a,n,r,e⟩:=I.hok l _ b;exact⟨z,a,n,r,r.length,e⟩
theorem Ol{n:Nat}(h:n<=sizeLine):Builtin.List.listTooLong n=false:=by
 unfold Builtin.List.listTooLong;exact decide_eq_false δ
end
section
variable {X:Cx}
def o5:V->List V->Hp->VK->Prop:=λx vs H Q=>∃l xs y,x=.ref l/\vs=[y]/\H l=some (.lst xs)/\xs.length<sizeLine/\Q .non (upd H l (.lst (xs++[y])))
theorem jQ:MtM X "list.append" o5:=by
 intro c s j H x i v us Q I d g h;obtain⟨l,k,y,rfl,rfl,b,hz,q⟩:=h;cases d;obtain⟨u,rfl,f⟩:=g.one;obtain⟨z,a,n,r,hl,e⟩:=I.RN b;refine call_meets F.slot_list_append ⟨_,e,rfl⟩ F.entry_list_append (F.args_list_append_2 _ _) (PySem.list_append l a.toArray n u (by rw[List.size_toArray];omega)) ⟨e,?_⟩;refine⟨.non,_,I.Zl1 (its':=a++[u]) b e ζ (r.append (.cons f .nil)) ?_,rfl,q⟩;rw[List.length_append,List.length_singleton];omega
def La:V->List V->Hp->VK->Prop:=λx vs H Q=>∃l b xs a,x=.ref l/\vs=[.ref b]/\H l=some (.lst xs)/\H b=some (.lst a)/\xs.length+a.length<=sizeLine/\Q .non (upd H l (.lst (xs++a)))
theorem GX:MtM X "list.extend" La:=by
 intro i s B H x A v us Q I k p h;obtain⟨l,b,D,C,rfl,rfl,g,j,hz,q⟩:=h;cases k;obtain⟨u,rfl,m⟩:=p.one;cases m;obtain⟨z,c,n,r,hl,e⟩:=I.RN g;obtain⟨y,a,n2,w,t,o⟩:=I.RN j;have f:c.toArray.size+a.toArray.size<=sizeLine:=by rw[List.size_toArray,List.size_toArray];omega
 have d:¬ (!c.toArray.isEmpty && Builtin.List.listTooLong (c.toArray.size+a.toArray.size))=true:=by
  rw[Ol f,Bool.and_false];exact Bool.false_ne_true
 refine call_meets F.slot_list_extend ⟨_,e,rfl⟩ F.entry_list_extend (F.args_list_extend_2 _ _)
  (AutoSeq1.list_extend_list_list_0 l c.toArray n b a.toArray n2 d (by rw[List.size_toArray];omega) δ) ⟨e,o,?_⟩
 refine⟨.non,_,I.Zl1 (its':=c++a) g e ζ (r.append w) ?_,rfl,q⟩;rw[List.length_append];omega
def Ztj:V->List V->Hp->VK->Prop:=λx vs H Q=>∃l xs y,x=.ref l/\vs=[]/\H l=some (.lst xs)/\xs[xs.length - 1]? =some y/\Q y (upd H l (.lst xs.dropLast))
theorem Zrk:MtM X "list.pop" Ztj:=by
 intro f s m H x k v us Q I g j h;obtain⟨l,o,y,rfl,rfl,d,hy,q⟩:=h;cases g;have b:=j.zero;subst b;obtain⟨z,a,n,r,hl,e⟩:=I.RN d;obtain⟨u,hu,i⟩:=r.get hy;have c:a.toArray[a.toArray.size - 1]? =some u:=by
  show a.toArray[a.length - 1]? =some u;rw[<- Array.getElem?_toList,<- hl];exact hu
 refine call_meets F.slot_list_pop ⟨_,e,rfl⟩ F.entry_list_pop (F.args_list_pop_1 _) (MeetsSeq.list_pop_last l a.toArray n u c (by rw[List.size_toArray];omega)) ⟨e,?_⟩;refine⟨y,_,I.Zl1 (its':=a.dropLast) d e ?_ r.dropLast ?_,i,q⟩
 ·show a.toArray.eraseIdxIfInBounds (a.toArray.size - 1)=a.dropLast.toArray;rw[List.size_toArray,List.eraseIdxIfInBounds_toArray,Zdr]
 ·rw[List.length_dropLast];omega
def Zje:V->List V->Hp->VK->Prop:=λx vs H Q=>∃l xs i k y,x=.ref l/\vs=[.int i]/\H l=some (.lst xs)/\-(2 ^ 63)<=i/\i<2 ^ 63/\seqIndex? i xs.length=some k/\xs[k]? =some y/\Q y (upd H l (.lst (xs.eraseIdx k)))
theorem Zkr:MtM X "list.pop" Zje:=by
 intro d s A H x p v us Q I g m h;obtain⟨l,o,i,k,y,rfl,rfl,c,h1,h2,hk,hy,q⟩:=h;cases g;obtain⟨u,rfl,j⟩:=m.one;obtain⟨t,rfl⟩:=j;obtain⟨z,a,n,r,hl,e⟩:=I.RN c;obtain⟨w,f,b⟩:=r.get hy;refine call_meets F.slot_list_pop ⟨_,e,rfl⟩ F.entry_list_pop (F.args_list_pop_2 _ _)
  (MeetsSeq.list_pop_at l a.toArray n i t k w (fitsIndex_both h1 h2) (by rw[List.size_toArray,<- hl];exact hk) (by rw[<- Array.getElem?_toList];exact f) (by rw[List.size_toArray];omega)) ⟨e,?_⟩
 refine⟨y,_,I.Zl1 (its':=a.eraseIdx k) c e ?_ (r.eraseIdx k) ?_,b,q⟩
 ·show a.toArray.eraseIdxIfInBounds k=(a.eraseIdx k).toArray;rw[List.eraseIdxIfInBounds_toArray]
 ·have:=Vp o k;omega
def Zqy:R2:=λx y H Q=>∃l b xs a,x=.ref l/\y=.ref b/\H l=some (.lst xs)/\H b=some (.lst a)/\xs.length+a.length<=sizeLine/\∀p,H p=none->Q (.ref p) (upd H p (.lst (xs++a)))
theorem Zk7:wU X (binaryOp .Add) Zqy:=by
 intro d s w H x y v u Q I i f h;obtain⟨l,b,B,A,rfl,rfl,p,g,hz,q⟩:=h;cases i;cases f;obtain⟨z,c,n,r,hl,e⟩:=I.RN p;obtain⟨t,a,n2,o,m,j⟩:=I.RN g;refine PySem.P.add_list e j ?_ (by rw[List.size_toArray,List.size_toArray];omega);have k:c.toArray++a.toArray=(c++a).toArray:=ζ
 rw[k];exact⟨.ref _,_,I.Ztv (t':=s.toks) (r.append o) (by rw[List.length_append];omega),rfl,q _ I.fresh⟩
def Zgy:R2:=λx y H Q=>∃l k xs,x=.ref l/\y=.int k/\H l=some (.lst xs)/\-(2 ^ 63)<=k/\k<2 ^ 63/\xs.length * k.toNat<=sizeLine/\
 ∀p,H p=none->Q (.ref p) (upd H p (.lst (List.replicate k.toNat xs).flatten))
theorem len_rep{b:Type}(xs:List b)(k:Nat):(List.replicate k xs).flatten.length=k * xs.length:=by
 induction k with
 | zero=>simp
 | succ k a=>rw[List.replicate_succ,List.flatten_cons,List.length_append,a,Nat.succ_mul,Nat.add_comm]
theorem W6:wU X (binaryOp .Mult) Zgy:=by
 intro p s J H x y v u Q I A w h;obtain⟨l,k,K,rfl,rfl,D,h1,h2,hz,q⟩:=h;cases A;obtain⟨t,rfl⟩:=w;obtain⟨z,b,n,r,hl,e⟩:=I.RN D;have d:b.toArray.size * k.toNat<=sizeLine:=by rw[List.size_toArray,<- hl];exact hz
 have f:¬ b.toArray.size * k.toNat > (2 ^ 63 - 1) / 8:=by
  have:(sizeLine:Nat)<=(2 ^ 63 - 1) / 8:=ε
  omega
 have c:¬ (!Builtin.List.listFitsIndex k)=true:=by
  rw[fitsIndex_both h1 h2];exact Bool.false_ne_true
 have j:¬ Builtin.List.listTooLong (b.toArray.size * k.toNat)=true:=by
  rw[Ol d];exact Bool.false_ne_true
 have g:List.foldl (λi o=>i++o) #[] (List.replicate (if b.toArray.isEmpty=true then 0 else k.toNat) b.toArray)=(List.replicate k.toNat b).flatten.toArray:=by
  have B:∀m:Nat,List.foldl (λi o=>i++o) #[] (List.replicate m b.toArray)=(List.replicate m b).flatten.toArray:=λm=>by
   have:=foldl_rep b m [];rw[List.nil_append]at this;exact this
  rw[B];cases b with
  | nil=>simp
  | cons a E=>rw[if_neg ζ]
 refine wpAny_binaryOp_repeat_ref (T:="list") (U:="int") ε ⟨_,e,rfl⟩ (λC=>typeIs_int C k t) noFill_list_mul F.fills_int_mul F.slot_int_rmul repeat_list F.slot_int_index.lookup
  (call_meets F.slot_int_rmul (typeIs_int s k t) F.entry_int_rmul (F.args_int_rmul_2 _ _) (int___rmul___int_list k t l b.toArray n)
   ⟨e,rfl,⟨_,e,rfl⟩,call_meets F.slot_list_mul ⟨_,e,rfl⟩ F.entry_list_mul (F.args_list_mul_2 _ _) (AutoListH.list___mul___list_int_3 l b.toArray n k t c f j) ⟨e,?_⟩⟩)
 rw[g];exact⟨.ref _,_,I.Ztv (t':=s.toks) (r.rep k.toNat) (by rw[len_rep,Nat.mul_comm];exact hz),rfl,q _ I.fresh⟩
end
section
variable {prog:AM}{w:AO}{A:Around}{E:Ap}{s:AK}
end
section
variable {X:Cx}
end
end L2
namespace Att
open PySem PySem.W PySem.Calls PyProof.Rows
theorem K3{P:Params}{h:Heap}:∀(ns:AE) (vs:AC),WellAll P h vs (ns.map WData.int)->IntsAre vs ns:=by
 intro ns
 induction ns with
 | nil=>
  intro vs w;rw[List.map_nil]at w;cases w;exact .nil
 | cons n ns c=>
  intro vs w;rw[List.map_cons]at w;cases w with
  | cons a b=>
   cases a;exact .cons _ _ (c _ b)
theorem Zgu{l:OpenLaw}{n:Nat}(hn:l.most=some n){P:Params}{h:Heap}{b:List WData}{c:AC}
  (e:l.row.toRowW.claim.pre b=true) (j:WellAll P h c b):
  ∃a vs ns,c=[Value.ref a]/\b=[WData.list (ns.map WData.int)]/\h.get? a=some { cls:=.type "list",data:=.seq vs.toArray }/\IntsAre vs ns/\ns.length<=n:=by
 have i:WShape.hasAll [] b [.list .int]=true:=(pre_splitW e).1;have hc:l.pre.holds [] { args:=b }=true:=(pre_splitW e).2;obtain⟨d,r,rfl,h1,h2⟩:=hasAllW_cons i;obtain rfl:=hasAllW_nil h2;obtain⟨p,rfl,m⟩:=hasW_list h1;obtain⟨ns,rfl⟩:=items_int m;have f:ns.length<=n:=by
  unfold OpenLaw.pre at hc;have h4:(WTm.not (.lt (.lit (.int (n:Int))) (.len (.arg 0)))).holds [] { args:=[.list (ns.map .int)] }=true:=by
   have h4:=(holds_andW hc).1;rw[hn]at h4;exact h4
  have h5:=condW_of h4 (w_not (w_lt w_lit (w_len_list (w_arg rfl))));rw[aY]at h5;refine Nat.le_of_not_lt λq=>?_;have o:(n:Int)<((ns.length:Nat):Int):=δ
  first
   | (rw[decide_eq_true o]at h5;exact absurd h5 ε)
   | (simp at h5;omega)
 cases j with
 | cons w1 w2=>
  cases w2;cases w1 with
  | list k g=>exact⟨_,_,ns,rfl,rfl,k,K3 ns _ g,f⟩
theorem Zh1(l:OpenLaw)(a:List WData):l.row.toRowW.claim.post a (.bool true) a=true:=
 postW_of (r:=l.row.toRowW) (X:=(true == true))
  (show WShape.has [] (.bool true) .bool=true by first | rfl | decide | simp[WShape.has,WShape.arms,WShape.armsAll])
  (show(WTm.eq .res (.lit (.bool true))).value [] { args:=a,res:=some (.bool true),after:=a }=some (.bool (true == true))from w_eq_bool (w_res rfl) w_lit) rfl
theorem Zbg{l:OpenLaw}{n:Nat}{q:AM}{c:AH}{A:(As)->Heap->Prop}{y:AO->Heap->Prop}{d:DefRec}
  (hn:l.most=some n) (p:d.params.defaults=[])
  (call:∀(w:AO) (s₀ b:AK) (mg t:As) (fa:AI) (o:Obj) (u k g:AJ) (a:AI) (vs:AC) (ns:AE),
   Ground q c [] A w s₀ mg t b.heap->y w b.heap->
   b.heap.get? fa=some o->o.data=.func (docDef d.name d.params d.body d.scope u k g)->b.heap.CodeRec k d.name->mg d.name=↑fa->
   b.heap.get? a=some { cls:=.type "list",data:=.seq vs.toArray }->IntsAre vs ns->ns.length<=n->b.gens=#[]->
   codeAny (model l.prog w) callerA (.call (.ref fa) ⟨[.ref a],[]⟩) (λr s'=>r=.ok (.ret (.bool true))/\OldK b.heap s'.heap/\s'.os=b.os/\AllBare s'.gens) b):
  WalkO q c A y l.row.toRowW d [] (λf vs=>PySem.call f vs):=by
 intro w s₀ b mg t G Y fa o u k g dV kV E hd m B s hg C z I i x F v D;obtain rfl:dV=.none:=Dflts.none B p;obtain rfl:kV=.none:=Dflts.noKw B;obtain⟨a,vs,ns,rfl,rfl,j,e,h⟩:=Zgu hn i v;refine enter_call (codeAny_mono (call w s₀ b mg t fa o u k g a vs ns G Y E (fd_plain hd) m s j e h hg) λr s' hq=>?_);obtain⟨rfl,h2,H,h4⟩:=hq;exact⟨.inl ⟨.bool true,.bool true,[],rfl,λ_=>rfl,.bool true,Zh1 l _,λ_=>⟨List.Pairwise.nil,λ_ hm=>(nomatch hm)⟩⟩,h2,H,h4⟩
section
variable {prog:AM}{w:AO}{A:Around}{E:Ap}{s:AK}{K:Frag}
end
end Att
namespace L2
open PySem PySem.Spec PyProof.Rows
theorem Tj:∀{vs:AC}{ns:AE},IntsAre vs ns->Vals (ns.map V.int) vs
 | _,_,.nil=>.nil
 | _,_,.cons n t h=>.cons ⟨t,rfl⟩ (Tj h)
def Only(H:Hp):Prop:=∀b,H b=none\/∃o xs,H b=some (.oX o (.lst xs))
theorem Zl9{P:AM}{w:AO}{K:aC}{mg O:As}{CX:Ze}{k:Nat}{fa a:AI}{fd:AL}{x:Str}{sp:Sp}{c:AK}{vs:AC}{ns:AE}
  (Q:K.In c.heap) (A:c.heap.Ns mainGlobals mg) (hb:c.heap.Ns builtinsNs O) (J:∀x:Str,x≠"__name__"->O x=bootBuiltins x) (C:c.heap.NoLimit) (hg:c.gens=#[])
  (E:c.heap.get? a=some { cls:=.type "list",data:=.seq vs.toArray }) (hi:IntsAre vs ns) (hl:ns.length<=sizeLine) (hr:Room k callerA)
  (F:∀base:Heap,K.In base->base.Ns mainGlobals mg->qe P w K mg base CX k fa fd [x] sp) (i:∀(s:AK) (u:AJ),BindsTo s fd ⟨[u],[]⟩ [(x,u)])
  (N:∀H:Hp,Only H->cC K H a (ns.map V.int)->sp [.ref a] H (λv _=>v=.bl true) λ_ _ _=>False)
  (L:∀H e s',CX [] H c (λ_ _ _=>False) e s'->False):
  codeAny (model P w) callerA (.call (.ref fa) ⟨[.ref a],[]⟩) (λr s'=>r=.ok (.ret (.bool true))/\OldK c.heap s'.heap/\s'.os=c.os/\AllBare s'.gens) c:=by
 have U:=Tj hi;have j:=hi.length;have g:∀H:Hp,Only H->cC K H a (ns.map V.int)->yJ P w H c.heap->(∀b,H b≠none->b=a)->(H a≠none->K.lookup a=none)->
   codeAny (model P w) callerA (.call (.ref fa) ⟨[.ref a],[]⟩) (λr s'=>r=.ok (.ret (.bool true))/\OldK c.heap s'.heap/\s'.os=c.os/\AllBare s'.gens) c:=by
  intro H T hS hok S X;have y:∀{b:AI}{o:Obj},c.heap.get? b=some o->H b=none->(Yk c.heap H).get? b=some o:=λe n=>Zln e n;have I:∀{b:AI}{o:Obj}{B:Array DictEntry}{l:Nat},c.heap.get? b=some o->o.data=.dict B l->H b=none:=λ{b o B l} e d=>by
   cases q:H b with
   | none=>rfl
   | some u=>
    have M:b=a:=S b (by rw[q];simp);subst M;rw[E]at e;cases e;have W:Data.seq vs.toArray _=Data.dict B l:=d;cases W
  have f:∀{b:AI}{m:As},c.heap.Ns b m->(Yk c.heap H).Ns b m:=λ{b m} ⟨o,B,l,e,d,r⟩=>⟨o,B,l,y e (I e d),d,r⟩;have p:K.In (Yk c.heap H):=λb o e=>y (Q b o e) (by
   cases q:H b with
   | none=>rfl
   | some u=>
    have M:b=a:=S b (by rw[q];simp);subst M;rw[X (by rw[q];simp)]at e;cases e)
  have Y:Mod K mg (Yk c.heap H):=⟨p,f A,⟨O,f hb,J⟩,let ⟨mc,h1,h2⟩:=C;⟨mc,f h1,h2⟩⟩;have e0:Zc P w K mg (Yk c.heap H) callerA [] c H:=⟨rfl,Y,λb o e=>Zo4 e,Nat.le_of_eq (Zhz _ _),trivial,λb hb=>absurd (show b∈([]:AF)from hb) ζ,hok,.of_eq hg⟩;refine codeAny_mono ((F _ p (f A)).run callerA [] c H ⟨[.ref a],[]⟩ [.ref a] [.ref a] _ _ hr e0 (i c (.ref a)) (.cons rfl .nil) (N H T hS)) λr s' h=>?_;cases r with
  | error e=>exact(L H e s' h).elim
  | ok fl=>
   cases fl with
   | next=>exact False.elim h
   | brk=>exact False.elim h
   | cont=>exact False.elim h
   | ret u=>
    obtain⟨v,H',os,bare,un,t,r',q⟩:=h;have Z:v=.bl true:=q;subst Z;obtain rfl:u=Value.bool true:=r';refine⟨rfl,OldK.of_keep λb o e=>?_,os,bare⟩;cases q:H b with
    | none=>exact un.keep b o e q (by intro z;exact absurd (show b∈([]:AF)from z) ζ) ζ
    | some u=>
     rcases T b with z | ⟨ob,xs,z⟩
     ·rw[q]at z;cases z
     ·have z2:=un.Ho b ob _ z;obtain⟨R,_⟩:=hok b _ z;obtain⟨e2,_⟩:=t b _ z2;rw[e]at R;cases R;exact e2
 cases hk:K.lookup a with
 | some o=>
  have e:=Q a o hk;rw[E]at e;cases e;refine g (λ_=>none) (λ_=>.inl rfl) (.inr ⟨_,vs.toArray,_,hk,rfl,rfl,rfl,by rw[List.size_toArray,j];exact hl,by simpa using U⟩) (λb u z=>by have D:(none:Option HO)=some u:=z;cases D) (λb z=>absurd rfl z) λz=>absurd rfl z
 | none=>
  refine g (λb=>if b=a then some (.oX { cls:=.type "list",data:=.seq vs.toArray } (.lst (ns.map V.int)))else none) (λb=>?_) (.inl (.inr ⟨{ cls:=.type "list",data:=.seq vs.toArray },if_pos rfl⟩)) (λb u z=>?_) (λb z=>?_) λ_=>hk
  ·by_cases hb:b=a
   ·exact .inr ⟨_,_,if_pos hb⟩
   ·exact .inl (if_neg hb)
  ·by_cases hb:b=a
   ·have D:=(if_pos hb).symm.trans z;cases D;subst hb;exact⟨E,by rw[aY];exact hl,vs,_,U,E⟩
   ·have D:=(if_neg hb).symm.trans z;cases D
  ·by_cases hb:b=a
   ·exact hb
   ·exact absurd (if_neg hb) z
theorem Zn0{l:W.OpenLaw}{n k:Nat}{q:AM}{j:AH}{J:(As)->Heap->Prop}{B:AO->Heap->Prop}{d:DefRec}{K:Params->aC}{CX:AO->Ze}{sp:AO->Sp}{x:Str}
  (hn:l.most=some n) (z:n<=sizeLine) (r:d.params.defaults=[]) (hr:Room k callerA)
  (D:∀(w:AO) (h:Heap),B w h->(K w.params).In h)
  (F:∀(w:AO) (mg:As) (fa:AI) (h:Heap),(K w.params).In h->h.Ns mainGlobals mg->mg d.name=↑fa->
   ∃fd:AL,(∀(s:AK) (u:AJ),BindsTo s fd ⟨[u],[]⟩ [(x,u)])/\
    ∀base:Heap,(K w.params).In base->base.Ns mainGlobals mg->qe l.prog w (K w.params) mg base (CX w) k fa fd [x] (sp w))
  (y:∀(w:AO) (H:Hp) (a:AI) (ns:AE),ns.length<=n->Only H->cC (K w.params) H a (ns.map V.int)->sp w [.ref a] H (λv _=>v=.bl true) λ_ _ _=>False)
  (A:∀(w:AO) (H:Hp) (s:AK) (e:AJ) (s':AK),CX w [] H s (λ_ _ _=>False) e s'->False):
  W.WalkO q j J B l.row.toRowW d [] (λf vs=>PySem.call f vs):=by
 refine Att.Zbg hn r λw s₀ p mg Q fa o R P M a vs ns G Y O hd E t m i c hg=>?_;have C:=D w _ Y;obtain⟨fd,hb,I⟩:=F w mg fa _ C G.T.g t;exact Zl9 C G.T.g G.T.b G.T.builtins G.T.nolimit hg m i (Nat.le_trans c z) hr I hb (λH N L=>y w H a ns c N L) λH e s'=>A w H p e s'
def inClass(s:Stmt)(j:Nat):Stmt:=match s with
 | .ClassDef _ _ _ a _ _ _ _ _ _ _=>a.getD j (.Pass ⟨0,0,0,0⟩)
 | _=>.Pass ⟨0,0,0,0⟩
def iD(s:Stmt):Arguments:=match s with
 | .FunctionDef _ a _ _ _ _ _ _ _ _=>a
 | _=>{ posonlyargs:=[],args:=[],vararg:=none,kwonlyargs:=[],kw_defaults:=[],kwarg:=none,defaults:=[] }
def eX(s:Stmt):List Stmt:=match s with
 | .FunctionDef _ _ b _ _ _ _ _ _ _=>b
 | _=>[]
def aF(s:Stmt):Scope:=match s with
 | .FunctionDef _ _ _ _ _ _ a _ _ _=>a
 | _=>{ kind:=.function,names:=[],isGenerator:=false,isCoroutine:=false }
abbrev E0:XK:=λ_ _ _=>False
structure Fun(K:aC)(x qual:Str)(st:Stmt)(f:AI)(fd:AL):Prop where
 ex:∃(oc:AJ) (od:Option AI) (kV doc pm:AJ) (an:Option AI) (cdv ct:AJ) (osl:Array AB),
  fd=W.fnOf x qual (iD st) (eX st) eo .none kV doc pm an cdv ct/\K.lookup f=some ⟨oc,od,.func fd,osl⟩/\W.codeIn K cdv qual=true
 kp:W.keepIn K (.ref f)=true
section
variable {P:AM}{w:AO}{K:aC}{mg:As}{base:Heap}
theorem Fun.binds{x a:Str}{st:Stmt}{f:AI}{fd:AL}{ps:AH}(F:Fun K x a st f fd)
  (h:∀(kV c e:AJ) (d:Option AI) (b ct:AJ) (us:AC),us.length=ps.length->bindArgs (W.fnOf x a (iD st) (eX st) eo .none kV c e d b ct) ⟨us,[]⟩=pure (ps.zip us)):Binds K fd ps []:=by
 obtain⟨oc,od,kV,c,e,d,b,ct,i,rfl,lk,g⟩:=F.ex;exact .all (h kV c e d b ct)
theorem Zlv{x a:Str}{st:Stmt}{f:AI}{oc:AJ}{od g:Option AI}{e:Array AB}{kV d h b ct:AJ}(l:K.lookup f=some ⟨oc,od,.func (W.fnOf x a (iD st) (eX st) eo .none kV d h g b ct),e⟩)
  (c:W.codeIn K b a=true) (k:W.keepIn K (.ref f)=true):Fun K x a st f (W.fnOf x a (iD st) (eX st) eo .none kV d h g b ct):=⟨⟨oc,od,kV,d,h,g,b,ct,e,rfl,l,c⟩,k⟩
end
theorem iU{A:Around}{k:Nat}(hr:Room k A):A.units+1<cLine:=Nat.lt_of_le_of_lt (Nat.add_le_add_left (by decide:1<=64) _) hr.units
section
variable {X:Cx}
theorem pv(i:Nat){x:Str}{a:Pos}(hN:X.N[i]? =some x:=by rfl)(hv:Vis X.env.scope x:=by first | exact Or.inl rfl | exact Or.inr (Or.inl rfl) | exact Or.inr (Or.inr rfl))(hd:(x == ("__debug__":Str))=false:=by decide)
  (b:(x == ("__classdict__":Str))=false:=by decide):PE X (.Name x a) (aj i):=Zjn hN hv hd b
end
theorem Zoe{A B:Prop}(h:B):if false=true then A else B:=by
 rw[if_neg Bool.false_ne_true];exact h
theorem Zdb{A B:Prop}(h:A):if true=true then A else B:=by
 rw[if_pos rfl];exact h
theorem Zrv{c A B:Prop} [Decidable c](h1:c->A)(h2:¬ c->B):if c then A else B:=by
 by_cases h:c
 ·rw[if_pos h];exact h1 h
 ·rw[if_neg h];exact h2 h
def bB(H H':Hp):Prop:=∀b o,H b=some o->H' b=some o
theorem bB.refl(H:Hp):bB H H:=λ_ _ h=>h
theorem bB.trans{H d e:Hp}(a:bB H d)(b:bB d e):bB H e:=λc o h=>b c o (a c o h)
theorem bB.free{H H':Hp}(e:bB H H'){l:AI}(h:H' l=Option.none):H l=Option.none:=by
 cases q:H l with
 | none=>rfl
 | some o=>
  rw[e l o q]at h;cases h
theorem bB.seq{K:aC}{H H':Hp}{a:AI}{xs:List V}(e:bB H H')(h:cC K H a xs):cC K H' a xs:=by
 rcases h with (h | ⟨o,h⟩) | h
 ·exact .inl (.inl (e _ _ h))
 ·exact .inl (.inr ⟨o,e _ _ h⟩)
 ·exact .inr h
section
variable {X:Cx}{pins:At}{σ:List (Option V)}{H H':Hp}{s:AK}{h':Heap}
end
section
variable {X:Cx}
variable {a b:AN}{ta tb:TE}{pos:Pos}
variable {tA tB':TT}{rest:AG}
end
section
variable {X:Cx}{a b c:AN}{ta tb tc:TE}{pos:Pos}
end
section
variable {prog:AM}{w:AO}{A:Around}{E:Ap}{s:AK}{K:aC}{x dx C f:AI}{mA:As}{name:Str}{v:AJ}
end
section
variable {X:Cx}{pins:At}{σ:St}{H:Hp}{s:AK}{a C dx:AI}{fs:List (Str×V)}{f:Str}{v:V}{A:Around}{E:Ap}
end
section
variable {X:Cx}{CX:Ze}{k:Nat}{f C:AI}{fd:AL}{ps:AH}{sp:Sp}{qj:List V}{ds:AC}{E:XK}{x m:Str}{p pos apos:Pos}{e o:AN}{es:AG}{ta:TE}{t:TA}
end
section
variable {X:Cx}{x:Str}{p pos:Pos}{e:AN}{es:AG}{t:TA}{id T:String}{r:List V->Hp->VK->Prop}
end
section
variable {κ:Type} [DecidableEq κ]
def gR(a:List (κ×V))(k:κ):Option V:=(a.find? λkv=>decide (kv.1=k)).map (·.2)
def putK(a:List (κ×V))(k:κ)(v:V):List (κ×V):=
 if (a.any λkv=>decide (kv.1=k))=true then a.map (λkv=>if kv.1=k then(kv.1,v)else kv)else a++[(k,v)]
def uB(a:List (κ×V))(k:κ):List (κ×V):=a.filter λkv=>decide (kv.1≠k)
theorem iH{p:κ×V}{r:List (κ×V)}{k:κ}(e:p.1=k):gR (p::r) k=some p.2:=by simp[gR,List.find?_cons,e]
theorem jm{p:κ×V}{r:List (κ×V)}{k:κ}(e:¬ p.1=k):gR (p::r) k=gR r k:=by simp[gR,List.find?_cons,e]
theorem wY(k:κ):∀a:List (κ×V),(a.any λkv=>decide (kv.1=k))=(gR a k).isSome
 | []=>rfl
 | p::r=>by
  rw[List.any_cons]
  by_cases e:p.1=k
  ·simp only[iH e,decide_eq_true e,Bool.true_or,Option.isSome_some]
  ·rw[jm e,decide_eq_false e,Bool.false_or];exact wY k r
theorem Zj(k j:κ)(y:V):∀a:List (κ×V),gR (a.map λkv=>if kv.1=k then(kv.1,y)else kv) j=(gR a j).map λx=>if j=k then y else x
 | []=>rfl
 | p::r=>by
  have b:=Zj k j y r;rw[List.map_cons]
  by_cases h:p.1=k
  ·rw[if_pos h]
   by_cases e:p.1=j
   ·rw[iH (p:=(p.1,y)) e,iH e,Option.map_some,if_pos (e.symm.trans h)]
   ·rw[jm (p:=(p.1,y)) e,jm e,b]
  ·rw[if_neg h]
   by_cases e:p.1=j
   ·rw[iH (p:=p) e,iH e,Option.map_some,if_neg (λz=>h (e.trans z))]
   ·rw[jm (p:=p) e,jm e,b]
theorem Tn(k j:κ)(y:V):∀a:List (κ×V),gR a k=none->gR (a++[(k,y)]) j=if j=k then some y else gR a j
 | [],_=>by
  by_cases e:k=j
  ·rw[if_pos e.symm];exact iH (p:=(k,y)) e
  ·rw[if_neg (λz=>e z.symm)];exact jm (p:=(k,y)) e
 | p::r,hn=>by
  rw[List.cons_append];have hk:¬ p.1=k:=λz=>by rw[iH z]at hn;cases hn
  rw[jm hk]at hn;have b:=Tn k j y r hn
  by_cases e:p.1=j
  ·rw[iH e,iH e,if_neg (λz=>hk (e.trans z))]
  ·rw[jm e,jm e,b]
theorem Zi(b:List (κ×V))(k j:κ)(y:V):gR (putK b k y) j=if j=k then some y else gR b j:=by
 unfold putK
 by_cases a:(b.any λc=>decide (c.1=k))=true
 ·rw[if_pos a,Zj];rw[wY]at a
  by_cases e:j=k
  ·obtain⟨x,hx⟩:=Option.isSome_iff_exists.mp a;rw[if_pos e,e,hx,Option.map_some,if_pos rfl]
  ·rw[if_neg e];cases gR b j with
   | none=>rfl
   | some x=>rw[Option.map_some,if_neg e]
 ·rw[if_neg a];refine Tn k j y b ?_;rw[wY]at a;cases q:gR b k with
  | none=>rfl
  | some x=>rw[q]at a;exact(a rfl).elim
theorem nU(a:List (κ×V))(k:κ)(v:V):(putK a k v).length<=a.length+1:=by
 unfold putK;split
 ·rw[aY];omega
 ·rw[List.length_append,List.length_cons,List.length_nil];omega
theorem Zjj{a:List (κ×V)}{k:κ}(v:V)(h:gR a k=none):putK a k v=a++[(k,v)]:=by
 unfold putK;rw[wY,h];exact if_neg ε
theorem yH.uo{o:Option V}{u:AB}(r:yH o u):o.isSome=u.isSome:=by
 cases o with
 | none=>cases u with
  | none=>rfl
  | some _=>exact(show False from r).elim
 | some _=>cases u with
  | none=>exact(show False from r).elim
  | some _=>rfl
theorem KV.val{a:List (κ×V)}{vs:List (κ×AJ)}(r:KV a vs)(k:κ):yH (gR a k) (valueAt vs k):=by
 unfold KV at r
 induction r with
 | nil=>exact True.intro
 | @cons p q g c h t f=>
  obtain⟨h1,h2⟩:=h
  by_cases e:p.1=k
  ·have d:q.1=k:=h1.symm.trans e;have b:valueAt (q::c) k=some q.2:=by simp[valueAt,List.find?_cons,d]
   rw[iH e,b];exact h2
  ·have d:¬ q.1=k:=λz=>e (h1.trans z);have b:valueAt (q::c) k=valueAt c k:=by simp[valueAt,List.find?_cons,d]
   rw[jm e,b];exact f
theorem KV.any{a:List (κ×V)}{vs:List (κ×AJ)}(r:KV a vs)(k:κ):(a.any λkv=>decide (kv.1=k))=vs.any λkv=>decide (kv.1=k):=by
 unfold KV at r
 induction r with
 | nil=>rfl
 | cons h t b=>rw[List.any_cons,List.any_cons,b,h.1]
theorem KV.repl{a:List (κ×V)}{vs:List (κ×AJ)}(r:KV a vs)(k:κ){y:V}{u:AJ}(b:RelV y u):
  KV (a.map λkv=>if kv.1=k then(kv.1,y)else kv) (vs.map λkv=>if kv.1=k then(kv.1,u)else kv):=by
 unfold KV at r ⊢
 induction r with
 | nil=>exact .nil
 | @cons p q d f h t c=>
  rw[List.map_cons,List.map_cons];refine .cons ?_ c;obtain⟨h1,h2⟩:=h
  by_cases e:p.1=k
  ·rw[if_pos e,if_pos (h1.symm.trans e)];exact⟨h1,b⟩
  ·rw[if_neg e,if_neg (λz=>e (h1.trans z))];exact⟨h1,h2⟩
theorem KV.put{a:List (κ×V)}{vs:List (κ×AJ)}(r:KV a vs)(k:κ){y:V}{u:AJ}(b:RelV y u):KV (putK a k y) (stored vs k u):=by
 unfold putK stored;rw[r.any k]
 by_cases e:(vs.any λc=>decide (c.1=k))=true
 ·rw[if_pos e,if_pos e];exact r.repl k b
 ·rw[if_neg e,if_neg e];exact Paired.snoc r ⟨rfl,b⟩
theorem KV.drop{c:List (κ×V)}{vs:List (κ×AJ)}(r:KV c vs)(k:κ):KV (uB c k) (without vs k):=by
 unfold KV at r ⊢;unfold uB without
 induction r with
 | nil=>exact .nil
 | @cons p q g i h t d=>
  obtain⟨h1,h2⟩:=h;rw[List.filter_cons,List.filter_cons]
  by_cases e:p.1=k
  ·have a:¬ decide (p.1≠k)=true:=by simp[e]
   have b:¬ decide (q.1≠k)=true:=by simp[h1.symm.trans e]
   rw[if_neg a,if_neg b];exact d
  ·have f:¬ q.1=k:=λz=>e (h1.trans z);have a:decide (p.1≠k)=true:=by simp[e]
   have b:decide (q.1≠k)=true:=by simp[f]
   rw[if_pos a,if_pos b];exact .cons ⟨h1,h2⟩ d
theorem KV.keys{a:List (κ×V)}{vs:List (κ×AJ)}(r:KV a vs):a.map (·.1)=vs.map (·.1):=by
 unfold KV at r
 induction r with
 | nil=>rfl
 | cons h t b=>rw[List.map_cons,List.map_cons,b,h.1]
theorem KV.length{a:List (κ×V)}{vs:List (κ×AJ)}(r:KV a vs):a.length=vs.length:=Paired.length r
theorem Zb2(a:List (κ×V))(k:κ):(uB a k).length<=a.length:=List.length_filter_le _ _
end
theorem Pj{P:AM}{w:AO}{k:Key}{u:AJ}(r:RelV (kV k) u):(cU P w).is k u=true:=by
 cases k with
 | inl i=>obtain⟨t,e⟩:=(show ∃t,u=Value.int i t from r);subst e;exact Za2 P w i t
 | inr x=>obtain⟨t,e⟩:=(show ∃t,u=Value.str x t from r);subst e;exact Za1 P w x t
theorem Vq{P:AM}{w:AO}:∀{a:List Key}{us:AC},Vals (a.map kV) us->ItemsAre (cU P w) a us
 | [],_,r=>by rw[List.map_nil]at r;cases r;exact .nil
 | k::a,_,r=>by
  rw[List.map_cons]at r;cases r with
  | cons h t=>exact .cons (Pj h) (Vq t)
abbrev KT(H:Hp):List (List Key×V)->List (List Key×AI×AJ)->Prop:=Paired λp q=>p.1=q.1/\H q.2.1=some (.tup (p.1.map kV))/\RelV p.2 q.2.2
theorem KT.val{H:Hp}{a:List (List Key×V)}{xs:List (List Key×AI×AJ)}(r:KT H a xs)(k:List Key):yH (gR a k) ((atKey xs k).map (·.2)):=by
 induction r with
 | nil=>exact True.intro
 | @cons p q g c h t f=>
  obtain⟨h1,_,h2⟩:=h
  by_cases e:p.1=k
  ·have d:q.1=k:=h1.symm.trans e;have b:atKey (q::c) k=some q.2:=by simp[atKey,List.find?_cons,d]
   rw[iH e,b];exact h2
  ·have d:¬ q.1=k:=λz=>e (h1.trans z);have b:atKey (q::c) k=atKey c k:=by simp[atKey,List.find?_cons,d]
   rw[jm e,b];exact f
theorem KT.repl{H:Hp}{a:List (List Key×V)}{xs:List (List Key×AI×AJ)}(r:KT H a xs)(k:List Key){y:V}{u:AJ}(b:RelV y u):
  KT H (a.map λkv=>if kv.1=k then(kv.1,y)else kv) (xs.map (putAt k u)):=by
 induction r with
 | nil=>exact .nil
 | @cons p q f g h t d=>
  rw[List.map_cons,List.map_cons];refine .cons ?_ d;obtain⟨h1,h2,c⟩:=h;unfold putAt
  by_cases e:p.1=k
  ·rw[if_pos e,if_pos (h1.symm.trans e)];exact⟨h1,h2,b⟩
  ·rw[if_neg e,if_neg (λz=>e (h1.trans z))];exact⟨h1,h2,c⟩
theorem KT.put{H:Hp}{a:List (List Key×V)}{xs:List (List Key×AI×AJ)}(r:KT H a xs)(k:List Key){b:AI}{y:V}{u:AJ}(hb:H b=some (.tup (k.map kV)))(c:RelV y u):
  KT H (putK a k y) (storedH xs k b u):=by
 have e:(a.any λd=>decide (d.1=k))=(atKey xs k).isSome:=by
  rw[wY,(r.val k).uo,Option.isSome_map]
 unfold putK storedH;rw[e]
 by_cases q:(atKey xs k).isSome=true
 ·rw[if_pos q,if_pos q];exact r.repl k c
 ·rw[if_neg q,if_neg q];exact Paired.snoc r ⟨rfl,hb,c⟩
theorem KT.keeps{H H':Hp}{a:List (List Key×V)}{xs:List (List Key×AI×AJ)}(r:KT H a xs)(d:∀b c,H b=some (.tup c)->H' b=some (.tup c)):KT H' a xs:=
 Paired.Ztu r λ_ _ z=>⟨z.1,d _ _ z.2.1,z.2.2⟩
section
variable {P:AM}{w:AO}{H:Hp}{h:Heap}{a:AI}
theorem Zpo{u:HO}(ok:yJ P w H h)(e:Rd H a u):gq P w H h a u:=e.ok ok
theorem uC{b:List cm}(ok:yJ P w H h)(e:Rd H a (.dK b)):b.length<=sizeLine/\(a == sysModules)=false/\∃vs,KV b vs/\h.DictOf (cU P w) a vs:=
 show gq P w H h a (.dK b)from Zpo ok e
theorem Zb6{b:List cm}(ok:yJ P w H h)(e:H a=some (.dK b)):b.length<=sizeLine/\(a == sysModules)=false/\∃vs,KV b vs/\h.DictOf (cU P w) a vs:=uC ok (.inl e)
theorem Pg{c:List Key}(ok:yJ P w H h)(e:H a=some (.tup (c.map kV))):(tupleKind (cU P w)).is h c a:=by
 obtain⟨_,b,r,o,h1,h2,n,d⟩:=(show gq P w H h a (.tup (c.map kV))from ok a _ e);exact⟨o,b.toArray,n,h1,h2,d,by simpa using Vq r⟩
theorem V3{b:List (List Key×V)}(ok:yJ P w H h)(e:Rd H a (.dT b)):b.length<=sizeLine/\(a == sysModules)=false/\
  ∃xs,KT H b xs/\h.DictOfH (tupleKind (cU P w)) a xs:=by
 obtain⟨z,y,xs,r,o,c,d,h1,h2,f,h4,h5⟩:=(show gq P w H h a (.dT b)from Zpo ok e);refine⟨z,y,xs,r,o,c,d,h1,h2,f,h4,λx hx=>?_,h5⟩;have all:∀{l:List (List Key×V)}{m:List (List Key×AI×AJ)},KT H l m->∀x∈m,(tupleKind (cU P w)).is h x.1 x.2.1:=by
  intro l m q
  induction q with
  | nil=>intro x hx;exact nomatch hx
  | @cons p q i j hq t g=>
   intro x hx;rcases List.mem_cons.mp hx with e | hx
   ·subst e;exact Pg ok (by rw[<- hq.1];exact hq.2.1)
   ·exact g x hx
 exact all r x hx
theorem Zuv{b:List (List Key×V)}(ok:yJ P w H h)(e:H a=some (.dT b)):b.length<=sizeLine/\(a == sysModules)=false/\
  ∃xs,KT H b xs/\h.DictOfH (tupleKind (cU P w)) a xs:=V3 ok (.inl e)
end
def mz(H:Hp)(a:AI)(y:V)(r:Option V):Prop:=
 (∃c k,Rd H a (.dK c)/\y=kV k/\r=gR c k)\/∃c k b,Rd H a (.dT c)/\y=.ref b/\H b=some (.tup (k.map kV))/\r=gR c k
def rZ(H:Hp)(a:AI)(y v:V)(H':Hp):Prop:=
 (∃c k,H a=some (.dK c)/\y=kV k/\c.length<sizeLine/\H'=upd H a (.dK (putK c k v)))\/
 ∃c k b,H a=some (.dT c)/\y=.ref b/\H b=some (.tup (k.map kV))/\c.length<sizeLine/\H'=upd H a (.dT (putK c k v))
theorem mz.k{H:Hp}{a:AI}{b:List cm}{k:Key}(e:H a=some (.dK b)):mz H a (kV k) (gR b k):=.inl ⟨b,k,.inl e,rfl,rfl⟩
theorem rZ.k{H:Hp}{a:AI}{b:List cm}{k:Key}{v:V}(e:H a=some (.dK b))(hl:b.length<sizeLine):rZ H a (kV k) v (upd H a (.dK (putK b k v))):=.inl ⟨b,k,e,rfl,hl,rfl⟩
section
variable {X:Cx}{pins:At}{σ:St}{H:Hp}{s:AK}{a:AI}{y v:V}{u r:AJ}{o:Option V}{A:Around}{E:Ap}
theorem Inv.big(I:Inv X pins σ H s):sysModules<s.heap.objs.size:=by
 have h:mainGlobals<s.heap.objs.size:=(I.mod.glob.keeps I.bk).lt;exact Nat.lt_trans ε h
theorem Zic{Q:Ap}(hu:A.units+1<cLine)(I:Inv X pins σ H s)(g:mz H a y (some v))(n:RelV y u)(h:∀d s',Inv X pins σ H s'->RelV v d->Q d s'):
  wpAny ς A (getItem (.ref a) u) Q E s:=by
 rcases g with ⟨i,k,e,m,l⟩ | ⟨i,k,b,e,m,r,l⟩
 ·subst m;obtain⟨z,hd,q,rel,dd⟩:=uC I.hok e;obtain⟨d,f,c⟩:=yH.some_of (v:=v) (o:=valueAt q k) (by rw[l];exact rel.val k);exact wpAny_getItem_of (Pj n) dd.mapOf f (h d _ (I.tok _) c)
 ·subst m;cases (show u=Value.ref b from n);obtain⟨z,hd,t,rel,dd⟩:=V3 I.hok e;obtain⟨d,f,c⟩:=yH.some_of (v:=v) (o:=(atKey t k).map (·.2)) (by rw[l];exact rel.val k);obtain⟨p,hp,j⟩:=Option.map_eq_some_iff.mp f;refine wpAny_getItem_heap (tupleKind_room_in1 hu) (Pg I.hok r) dd hp ?_;rw[j];exact h d _ (I.tok _) c
theorem Zx4{Q:Ap}(hu:A.units+1<cLine)(I:Inv X pins σ H s)(g:mz H a y o)(f:RelV y u)(h:∀s',Inv X pins σ H s'->Q (.bool o.isSome) s'):
  wpAny ς A (compareOp .In u (.ref a)) Q E s:=by
 rcases g with ⟨c,k,e,d,l⟩ | ⟨c,k,b,e,d,i,l⟩
 ·subst d;obtain⟨z,hd,j,rel,dd⟩:=uC I.hok e;refine wpAny_in_of (Pj f) hd dd.mapOf ?_;rw[<- (rel.val k).uo,<- l];exact h _ (I.tok _)
 ·subst d;cases (show u=Value.ref b from f);obtain⟨z,hd,m,rel,dd⟩:=V3 I.hok e;refine wpAny_in_heap (tupleKind_room_in1 hu) (Pg I.hok i) hd dd ?_;have q:=(rel.val k).uo;rw[Option.isSome_map]at q;rw[<- q,<- l];exact h _ (I.tok _)
theorem Zg4{Q:Ap}(hu:A.units+1<cLine)(I:Inv X pins σ H s)(g:mz H a y o)(f:RelV y u)(h:∀s',Inv X pins σ H s'->Q (.bool (!o.isSome)) s'):
  wpAny ς A (compareOp .NotIn u (.ref a)) Q E s:=by
 rcases g with ⟨c,k,e,d,l⟩ | ⟨c,k,b,e,d,i,l⟩
 ·subst d;obtain⟨z,hd,j,rel,dd⟩:=uC I.hok e;refine wpAny_notIn_of (Pj f) hd dd.mapOf ?_;rw[<- (rel.val k).uo,<- l];exact h _ (I.tok _)
 ·subst d;cases (show u=Value.ref b from f);obtain⟨z,hd,m,rel,dd⟩:=V3 I.hok e;refine wpAny_notIn_heap (tupleKind_room_in1 hu) (Pg I.hok i) hd dd ?_;have q:=(rel.val k).uo;rw[Option.isSome_map]at q;rw[<- q,<- l];exact h _ (I.tok _)
theorem Lp{h':Heap}{t':Nat}{ob:HO}(I:Inv X pins σ H s)(d:Mut (H a))(hs:Heap.SameBut a s.heap h')(c:∃q,h'.get? a=some q)(new:gq X.prog X.w (upd H a ob) h' a ob):
  Inv X pins σ (upd H a ob) { s with heap:=h',toks:=t' }:=
 I.write (x:=a) (e:=a) d (.inl rfl) (λb q hb z=>(hs.2 b hb).trans z) c new
theorem Yv{P:AM}{w:AO}{H':Hp}{h':Heap}{b:List cm}{vs:List (Key×AJ)}(z:b.length<=sizeLine)(hd:(a == sysModules)=false)(rel:KV b vs)(dd:h'.DictOf (cU P w) a vs):
  gq P w H' h' a (.dK b):=⟨z,hd,vs,rel,dd⟩
theorem Zib{H':Hp}{Q:Unit->AK->Prop}(hu:A.units+1<cLine)(I:Inv X pins σ H s)(g:rZ H a y v H')(m:RelV y u)(n:RelV v r)(h:∀s',Inv X pins σ H' s'->Q () s'):
  wpAny ς A (setItem (.ref a) u r) Q E s:=by
 rcases g with ⟨d,k,e,j,l,i⟩ | ⟨d,k,b,e,j,t,l,i⟩
 ·subst j i;obtain⟨z,hd,B,rel,dd⟩:=Zb6 I.hok e;have hz:B.length<=sizeLine:=by rw[<- rel.length];exact z
  have hl:(putK d k v).length<=sizeLine:=by have:=nU d k v;omega
  refine wpAny_setItem_pairs (hsz:=hz) (Pj m) dd λo f hs=>h _ ?_;have J:∃q,o.get? a=some q:=let ⟨q,_,_,hq,_⟩:=f;⟨q,hq⟩
  exact Lp I (by rw[e];exact True.intro) hs J (Yv hl hd (rel.put k n) f)
 ·subst j i;cases (show u=Value.ref b from m);obtain⟨z,hd,C,rel,dd⟩:=Zuv I.hok e;have hz:C.length<=sizeLine:=by rw[<- Paired.length rel];exact z
  have hl:(putK d k v).length<=sizeLine:=by have:=nU d k v;omega
  refine wpAny_setItem_heap (hsz:=hz) (tupleKind_room_in1 hu) (Pg I.hok t) dd λo f hs=>h _ ?_;obtain⟨q,x,D,hq,h2,F,h4,_,h5⟩:=f;refine Lp I (by rw[e];exact True.intro) hs ⟨q,hq⟩ ⟨hl,hd,_,(rel.put k t n).keeps λc K p=>?_,q,x,D,hq,h2,F,h4,h5⟩;rw[aA (lE p e ar)];exact p
end
section
variable {X:Cx}{pins:At}{σ:St}{H:Hp}{s:AK}{a:AI}{kvs:List cm}{k:Key}{u:AJ}{A:Around}{E:Ap}
theorem Zv1{v:V}{b:AC}{Q:Ap}(I:Inv X pins σ H s)(e:H a=some (.dK kvs))(f:RelV (kV k) u)(l:gR kvs k=some v)(hm:b=[]\/∃x,b=[x])
  (h:∀c s',Inv X pins σ (upd H a (.dK (uB kvs k))) s'->RelV v c->Q c s'):wpAny ς A (call (.builtin "dict.pop") (.ref a::u::b)) Q E s:=by
 obtain⟨z,hd,j,rel,dd⟩:=Zb6 I.hok e;obtain⟨c,m,g⟩:=yH.some_of (v:=v) (o:=valueAt j k) (by rw[<- l];exact rel.val k);have hp:(keyPart u).isSome=true:=by
  cases k with
  | inl i=>obtain⟨t,q⟩:=(show ∃t,u=Value.int i t from f);subst q;rfl
  | inr x=>obtain⟨t,q⟩:=(show ∃t,u=Value.str x t from f);subst q;rfl
 have r:argsOk "dict.pop" ⟨.ref a::u::b,[]⟩:=by
  rcases hm with q | ⟨x,q⟩
  ·subst q;exact PySem.F.args_dict_pop_2 _ _
  ·subst q;exact PySem.F.args_dict_pop_3 _ _ _
 refine call_meetsIn PySem.F.slot_dict_pop dd.typeIs PySem.F.entry_dict_pop r (meets_dict_pop_there (cU X.prog X.w) a (Pj f) b hm hp)
  ⟨j,c,dd,by rw[<- rel.length];exact z,m,λp d hs=>h c _ ?_ g⟩
 have n:∃q,p.get? a=some q:=let ⟨q,_,_,hq,_⟩:=d;⟨q,hq⟩
 exact Lp I (by rw[e];exact True.intro) hs n (Yv (Nat.le_trans (Zb2 kvs k) z) hd (rel.drop k) d)
end
def Zpe(i:AN):Prop:=∀a b,subscripted i false a b=operate [a,b] (getItem a b)
theorem Zes{prog:AM}{w:AO}{A:Around}{E:Ap}{s:AK}{env:Env}{b a:AN}{k:Pos}{T id:String}{Q:Ap}
  (hl:typeLookup (.type T) "__getitem__"=pure (some (.builtin id))) (hs:Zpe a)
  (h:wpAny ai A (eval b env) (λo f=>wpAny ai A (eval a env) (λi c=>c.TypeIs o T/\wpAny ai A (getItem o i) Q E c) E f) E s):
  wpAny ai A (eval (.Subscript b a k) env) Q E s:=by
 refine Subscript_ (wpAny_mono h (λo f g=>wpAny_mono g (λi c d=>?_) λ_ _ x=>x) λ_ _ x=>x);obtain⟨l,d⟩:=d;unfold subscriptTail;refine wpAny_bind ?_;rw[getitemInPython_of_ne l.not_modules];refine wpAny_bind (wpAny_specialOf l hl ?_);have fin:wpAny ai A (subscripted a false o i) (λr e=>wpAny ai A (letTemporaryGo b o r >>= λ_=>pure r) Q E e) E c:=by
  rw[hs o i];exact wpAny_operating (wpAny_mono d (λr e j=>wpAny_bind (wpAny_letTemporaryGo (wpAny_pure j))) λ_ _ x=>x)
 first
  | exact wpAny_pure (wpAny_bind fin)
  | exact wpAny_bind (wpAny_pure (wpAny_bind fin))
  | exact wpAny_bind fin
theorem Zb8{X:Cx}{pins:At}{σ:St}{H:Hp}{s:AK}{a:AI}{y:V}{o:Option V}(I:Inv X pins σ H s)(g:mz H a y o):s.TypeIs (.ref a) "dict":=by
 rcases g with ⟨c,k,e,_,_⟩ | ⟨c,k,b,e,_,_,_⟩
 ·obtain⟨_,_,d,_,dd⟩:=uC I.hok e;exact dd.typeIs
 ·obtain⟨_,_,f,_,dd⟩:=V3 I.hok e;exact dd.typeIs
def jV(d ty:TE):TE:=λσ H Q=>d σ H λx c=>ty σ c λy b=>∃a v,x=.ref a/\mz b a y (some v)/\Q v b
def Zn2(ty d:TE):TE:=λσ H Q=>ty σ H λy c=>d σ c λx b=>∃a o,x=.ref a/\mz b a y o/\Q (.bl o.isSome) b
def oY(ty d:TE):TE:=λσ H Q=>ty σ H λy c=>d σ c λx b=>∃a o,x=.ref a/\mz b a y o/\Q (.bl (!o.isSome)) b
def sV(d ty g:TE):TS:=λD σ H=>g σ H λv c=>d σ c λx f=>ty σ f λy e=>∃a b,x=.ref a/\rZ e a y v b/\D.nx σ b
section
variable {X:Cx}{o i e value:AN}{pos pos' tpos:Pos}{td ty tv:TE}
theorem Znp(hu:X.A.units+1<cLine)(e:PE X o td)(hi:PE X i ty)(hs:Zpe i):PE X (.Subscript o i pos) (jV td ty):=by
 intro b s d H Q I h;refine Zes PySem.F.slot_dict_getitem.lookup hs (fH (e b s d H _ I h) λu j ⟨x,H1,I1,rx,q1⟩=>fH (hi b j d H1 _ I1 q1) λn k qc=>?_);obtain⟨y,H2,I2,ry,a,v,ex,g,q2⟩:=qc;subst ex;obtain rfl:u=Value.ref a:=rx;exact⟨Zb8 I2 g,Zic hu I2 g ry λm l f c=>⟨v,H2,f,c,q2⟩⟩
theorem Zjw(hu:X.A.units+1<cLine)(hi:PE X i ty)(d:PE X o td):PC X .In i o (Zn2 ty td):=by
 intro b s c H Q I h;refine fH (hi b s c H _ I h) λl f ⟨y,H1,I1,ry,q1⟩=>fH (d b f c H1 _ I1 q1) λu j qc=>?_;obtain⟨x,H2,I2,rx,a,ov,ex,g,q2⟩:=qc;subst ex;obtain rfl:u=Value.ref a:=rx;exact Zx4 hu I2 g ry λk e=>⟨.bl ov.isSome,H2,e,rfl,q2⟩
theorem mK(hu:X.A.units+1<cLine)(hi:PE X i ty)(d:PE X o td):PC X .NotIn i o (oY ty td):=by
 intro b s c H Q I h;refine fH (hi b s c H _ I h) λl f ⟨y,H1,I1,ry,q1⟩=>fH (d b f c H1 _ I1 q1) λu j qc=>?_;obtain⟨x,H2,I2,rx,a,ov,ex,g,q2⟩:=qc;subst ex;obtain rfl:u=Value.ref a:=rx;exact Zg4 hu I2 g ry λk e=>⟨.bl (!ov.isSome),H2,e,rfl,q2⟩
theorem lZ(hu:X.A.units+1<cLine)(e:PE X o td)(hi:PE X i ty)(hv:PE X value tv)(hs:swapsWith value (some (.Subscript o i pos')) pos.line X.env=pure false):
  PS X (.Assign [.Subscript o i pos'] value pos) (sV td ty tv):=by
 intro b s c H D I h;refine wpAny_Assign_Subscript (fH (hv b s c H _ I h) λr f ⟨v,H1,I1,rv,q1⟩=>fH (e b f c H1 _ I1 q1) λu d ⟨x,H2,I2,rx,q2⟩=>fH (hi b d c H2 _ I2 q2) λm k qc=>?_) hs;obtain⟨y,H3,I3,ry,a,H4,ex,g,q3⟩:=qc;subst ex;obtain rfl:u=Value.ref a:=rx;exact Zib hu I3 g ry rv λl j=>⟨c,H4,j,q3⟩
end
theorem Zb7{P:AM}{w:AO}{H:Hp}(h:Heap)(hb:sysModules<h.objs.size):gq P w H (h.push { cls:=.type "dict",data:=.dict #[] }) h.objs.size (.dK []):=
 ⟨Nat.zero_le _,beq_eq_false_iff_ne.mpr (Ne.symm (Nat.ne_of_lt hb)),[],.nil,Heap.DictOf.new h⟩
def pG:TE:=λ_ H Q=>∀p,H p=none->Q (.ref p) (upd H p (.dK []))
section
variable {X:Cx}{pos:Pos}
theorem kE:PE X (.Dict [] [] pos) pG:=λpins s σ H Q I h=>
 wpAny_Dict_empty ⟨.ref s.heap.objs.size,_,I.laid (a:=s.heap.objs.size) (o:=.dK []) (t':=s.toks) (λ_ _ q=>Heap.get?_push_of_some _ q) υ (Zb7 s.heap I.big),rfl,h _ (I.hok.fresh υ)⟩
end
def Wk:List (TE×TE)->St->Hp->(List (V×V)->Hp->Prop)->Prop
 | [],_,H,Q=>Q [] H
 | (tk,d)::r,σ,H,Q=>tk σ H λx a=>d σ a λy c=>Wk r σ c λps b=>Q ((x,y)::ps) b
abbrev VV:List (V×V)->List (AJ×AJ)->Prop:=Paired λp q=>RelV p.1 q.1/\RelV p.2 q.2
def PPs(X:Cx)(b:Pos)(keys:List (Option AN))(a:AG)(c:List (TE×TE)):Prop:=
 ∀(pins:At) (s:AK) (σ:St) (H:Hp) (Q:List (V×V)->Hp->Prop),Inv X pins σ H s->Wk c σ H Q->
  wpAny ς X.A (evalPairs (pairTrees keys a X.env b)) (λvs s'=>∃ps H',Inv X pins σ H' s'/\VV ps vs/\Q ps H') X.xe s
theorem Znj{X:Cx}{a:Pos}:PPs X a [] [] []:=λpins s σ H Q I h=>pairTrees_nil_walk ⟨[],H,I,.nil,h⟩
theorem Dk{X:Cx}{a:Pos}{k v:AN}{d:List (Option AN)}{vs:AG}{tk c:TE}{b:List (TE×TE)}(hk:PE X k tk)(hv:PE X v c)(hr:PPs X a d vs b):
  PPs X a (some k::d) (v::vs) ((tk,c)::b):=λpins s σ H Q I h=>
 pairTrees_cons_walk (fH (hk pins s σ H _ I h) λu f ⟨x,H1,I1,rx,q1⟩=>fH (hv pins f σ H1 _ I1 q1) λw2 e ⟨y,H2,I2,ry,q2⟩=>
  fH (hr pins e σ H2 _ I2 q2) (by rintro i g ⟨ps,H3,I3,rel,q3⟩;exact⟨(x,y)::ps,H3,I3,.cons ⟨rx,ry⟩ rel,q3⟩))
def GZ(b a:List cm):List cm:=a.foldl (λacc kv=>putK acc kv.1 kv.2) b
theorem KV.merge:∀{a:List cm}{rs:List (Key×AJ)}{b:List cm}{vs:List (Key×AJ)},KV a rs->KV b vs->KV (GZ b a) (merged vs rs):=by
 intro a rs b vs r;unfold KV at r
 induction r generalizing b vs with
 | nil=>intro q;exact q
 | @cons p q f g h t d=>
  intro c;have e:KV (putK b p.1 p.2) (stored vs q.1 q.2):=by
   have:=c.put p.1 h.2;rw[<- h.1];exact this
  exact d e
theorem Ab:∀(b a:List cm),(GZ a b).length<=a.length+b.length
 | [],a=>by show a.length<=a.length+0;omega
 | p::r,a=>by
  have h1:=Ab r (putK a p.1 p.2);have h2:=nU a p.1 p.2;show(GZ (putK a p.1 p.2) r).length<=_;rw[List.length_cons];omega
theorem Qz{P:AM}{w:AO}:∀{d:List cm}{e:List (AJ×AJ)},VV (d.map λkv=>(kV kv.1,kv.2)) e->∃rs,Carries (cU P w) e rs/\KV d rs
 | [],_,r=>by rw[List.map_nil]at r;cases r;exact⟨[],True.intro,.nil⟩
 | p::d,_,r=>by
  rw[List.map_cons]at r;cases r with
  | @cons a b i bs h t=>
   obtain⟨rs,c,q⟩:=Qz (P:=P) (w:=w) t;obtain⟨g,f⟩:=b;exact⟨(p.1,f)::rs,⟨Pj h.1,rfl,c⟩,.cons ⟨rfl,h.2⟩ q⟩
def Zpk(b:List (TE×TE)):TE:=λσ H Q=>∀p,H p=none->Wk b σ (upd H p (.dK [])) λps c=>c p=some (.dK [])/\∃a:List cm,ps=a.map (λkv=>(kV kv.1,kv.2))/\a.length<=15/\Q (.ref p) (upd c p (.dK (GZ [] a)))
theorem Zno{X:Cx}{d:Pos}{keys:List (Option AN)}{b:AG}{i:List (TE×TE)}(h:PPs X d keys b i)(f:keys.all (·.isSome)=true)(hl:keys.length=b.length)(h0:keys≠[])
  (h15:keys.length<=15):PE X (.Dict keys b d) (Zpk i):=by
 intro j s r H Q I q;have hn:=I.hok.fresh (Nat.le_refl s.heap.objs.size);have p:=I.laid (a:=s.heap.objs.size) (o:=.dK []) (h':=s.heap.push { cls:=.type "dict",data:=.dict #[] }) (t':=s.toks) (λ_ _ q=>Heap.get?_push_of_some _ q) υ (Zb7 s.heap I.big);refine wpAny_Dict_walk (knd:=cU X.prog X.w) f hl h0 h15 (fH (h j _ r _ _ p (q _ hn)) λu t qc=>?_);obtain⟨v,H2,I2,rel,e,kvs,ep,lk,q2⟩:=qc;subst ep;obtain⟨rs,c,l⟩:=Qz (P:=X.prog) (w:=X.w) rel;obtain⟨z,hd,m,k,dd⟩:=Zb6 I2.hok e;cases k;refine⟨rs,c,dd,λh' g hs=>⟨.ref s.heap.objs.size,_,?_,rfl,q2⟩⟩;have hz:(GZ [] kvs).length<=sizeLine:=by
  have h1:=Ab kvs [];rw[List.length_nil]at h1;rw[sizeLine_eq];omega
 have n:∃q,h'.get? s.heap.objs.size=some q:=let ⟨q,_,_,hq,_⟩:=g;⟨q,hq⟩
 exact Lp I2 (by rw[e];exact True.intro) hs n (Yv hz hd (l.merge .nil) g)
structure M1(X:Cx)(o:AN)(m:Str)(apos:Pos)(e:AN)(cpos:Pos):Prop where
 base:attributeBase o m X.env (eval o X.env)=eval o X.env
 few:((backTo cpos (starEach [e] X.env)).all (λx=>!x.1) && (backToKw cpos (keywordEach [] X.env)).all (λx=>x.1.isSome)
  && decide (([e]:AG).length+([]:List Keyword).length+(if ([]:List Keyword).isEmpty then 0 else 1)<30))=true
 line:(apos.endLine == cpos.line)=true
 trees:backTo cpos (starEach [e] X.env)=[(false,eval e X.env)]
structure M2(X:Cx)(o:AN)(m:Str)(apos:Pos)(e f:AN)(cpos:Pos):Prop where
 base:attributeBase o m X.env (eval o X.env)=eval o X.env
 few:((backTo cpos (starEach [e,f] X.env)).all (λx=>!x.1) && (backToKw cpos (keywordEach [] X.env)).all (λx=>x.1.isSome)
  && decide (([e,f]:AG).length+([]:List Keyword).length+(if ([]:List Keyword).isEmpty then 0 else 1)<30))=true
 line:(apos.endLine == cpos.line)=true
 trees:backTo cpos (starEach [e,f] X.env)=[(false,eval e X.env),(false,eval f X.env)]
def IsD(H:Hp)(a:AI):Prop:=(∃b,Rd H a (.dK b))\/∃b,Rd H a (.dT b)
theorem Zde{X:Cx}{pins:At}{σ:St}{H:Hp}{s:AK}{a:AI}(I:Inv X pins σ H s)(d:IsD H a):
  s.TypeIs (.ref a) "dict"/\(∀b,Value.ref a=.ref b->∃ob,s.heap.get? b=some ob/\ob.dict=none)/\(a == sysModules)=false:=by
 rcases d with ⟨c,e⟩ | ⟨c,e⟩
 ·obtain⟨_,hd,f,_,dd⟩:=uC I.hok e;refine⟨dd.typeIs,λb q=>?_,hd⟩;cases q;obtain⟨ob,_,_,h1,h2,_⟩:=dd;exact⟨ob,h1,h2.2.1⟩
 ·obtain⟨_,hd,g,_,dd⟩:=V3 I.hok e;refine⟨dd.typeIs,λb q=>?_,hd⟩;cases q;obtain⟨ob,_,_,h1,h2,_⟩:=dd;exact⟨ob,h1,h2.2.1⟩
section
variable {X:Cx}{pins:At}{σ:St}{H:Hp}{s:AK}{a:AI}{y d:V}{u r:AJ}{o:Option V}{A:Around}{E:Ap}
end
def Wl(e ty:TE):TE:=λσ H Q=>e σ H λx c=>∃a,x=.ref a/\IsD c a/\ty σ c λy d=>∃b k v,d a=some (.dK b)/\y=kV k/\gR b k=some v/\Q v (upd d a (.dK (uB b k)))
section
variable {X:Cx}{o e f:AN}{apos cpos:Pos}{td ty tx:TE}
theorem ZQ(g:PE X o td)(n:PE X e ty)(m:M1 X o "pop" apos e cpos):PE X (.Call (.Attribute o "pop" apos) [e] [] cpos) (Wl td ty):=by
 intro b s f H Q I h;refine wpAny_Call_method m.base m.few m.line PySem.F.plainAttrs_dict PySem.F.slot_dict_pop PySem.F.type_dict_pop (fH (g b s f H _ I h) λu j qc=>?_);obtain⟨x,H1,I1,rx,a,ex,d,q1⟩:=qc;subst ex;obtain rfl:u=Value.ref a:=rx;obtain⟨t1,t2,_⟩:=Zde I1 d;refine⟨t1,t2,?_⟩;rw[m.trees];refine Calls.callWith_builtin rfl (Calls.evalArgs_plain (Calls.spliced_cons (fH (n b j f H1 _ I1 q1) λt p ⟨y,H2,I2,ry,kvs,k,v,ea,ey,l,q2⟩=>Calls.spliced_nil ?_)));subst ey;exact Zv1 I2 ea ry l (.inl rfl) λr q i c=>⟨v,_,i,c,q2⟩
end
section
variable {X:Cx}{pins:At}{σ:St}{H:Hp}{s:AK}{a:AI}{kvs:List cm}{A:Around}{E:Ap}
theorem Zmc{Q:Ap}(I:Inv X pins σ H s)(e:Rd H a (.dK kvs))(h:∀p s',H p=none->Inv X pins σ (upd H p (.dK kvs)) s'->Q (.ref p) s'):wpAny ς A (call (.type "dict") [.ref a]) Q E s:=by
 obtain⟨z,hd,f,rel,dd⟩:=uC I.hok e;refine kt_call_dict hd dd (by rw[<- rel.length];exact z) λd c hs=>?_;refine h _ _ (I.hok.fresh υ) (I.laid (a:=s.heap.objs.size) (o:=.dK kvs) (t':=s.toks) (λb q hq=>?_) υ (Yv z (beq_eq_false_iff_ne.mpr (Ne.symm (Nat.ne_of_lt I.big))) rel c));exact(hs.2 b (Nat.ne_of_lt (Heap.lt_size hq))).trans (Heap.get?_push_of_some _ hq)
end
section
variable {X:Cx}{pins:At}{σ:St}{H:Hp}{s:AK}{a:AI}{y:V}{u:AJ}{A:Around}{E:Ap}
end
end L2
namespace Att
open PySem PySem.W PySem.Calls PyProof.Rows
section
variable {prog:AM}{w:AO}{A:Around}{E:Ap}{s:AK}{K:Frag}
end
end Att
namespace L2
open PySem PySem.Spec PyProof.Rows
section
variable {X:Cx}
end
section
variable {κ:Type} [DecidableEq κ]
end
end L2
set_option maxHeartbeats 40000000
namespace G
open PySem L2
section
variable {D:Ends}{σ:St}{H H1:Hp}{Q:VK}{t u:TS}{ta tb tc te:TE}{n:ν}{r:VK}{b c:ν}
theorem Qe(h:t ⟨u ⟨n,r,b,c⟩,r,b,c⟩ σ H):aN t u ⟨n,r,b,c⟩ σ H:=h
theorem Yg(h:n σ H):bM ⟨n,r,b,c⟩ σ H:=h
theorem Zos(h:b σ H):Zc2 ⟨n,r,b,c⟩ σ H:=h
theorem Zsd(h:te σ H λ_ H1=>n σ H1):mC te ⟨n,r,b,c⟩ σ H:=h
theorem Zfn(h:te σ H r):bz te ⟨n,r,b,c⟩ σ H:=h
theorem Zsa{c':TT}(h:c' σ H λk H1=>if k=true then t ⟨n,r,b,c⟩ σ H1 else u ⟨n,r,b,c⟩ σ H1):cX c' t u ⟨n,r,b,c⟩ σ H:=h
theorem Zui{g:TG}(h:te σ H λx H1=>g x σ H1 n):bC te g ⟨n,r,b,c⟩ σ H:=h
theorem i_C{v:V}(h:Q v H):tC v σ H Q:=h
theorem Zwb{f:R2}(h:ta σ H λx H1=>tb σ H1 λy a=>f x y a Q):aZ f ta tb σ H Q:=h
theorem Zw9{f:V->Hp->VK->Prop}(h:ta σ H λx H1=>f x H1 Q):tUn f ta σ H Q:=h
def kB(q:Bool->Hp->Prop):VK:=λx H'=>∃k,x=.bl k/\q k H'
theorem i_B{k:Bool}{q:Bool->Hp->Prop}(h:q k H):kB q (.bl k) H:=⟨k,rfl,h⟩
theorem Zrz{q:Bool->Hp->Prop}(h:te σ H (kB q)):bY te σ H q:=h
theorem Zu3{q:Bool->Hp->Prop}(h:te σ H (kB q)):tB te σ H q:=h
theorem Zuj{t u:TT}{q:Bool->Hp->Prop}(h:t σ H λk H1=>if k=true then u σ H1 q else q false H1):LQ t u σ H q:=h
theorem Zu5{t u:TT}{q:Bool->Hp->Prop}(h:t σ H λk H1=>if k=true then q true H1 else u σ H1 q):tOr t u σ H q:=h
theorem Zq0{t:TT}{q:Bool->Hp->Prop}(h:t σ H λk H1=>q (!k) H1):yX t σ H q:=h
theorem Zsj(h:ta σ H (kB λk H1=>if k=true then tb σ H1 Q else Q (.bl false) H1)):zp ta tb σ H Q:=h
theorem Zu4(h:ta σ H (kB λk H1=>if k=true then Q (.bl true) H1 else tb σ H1 Q)):Zql ta tb σ H Q:=h
theorem Zs2(h:ta σ H (kB λk H1=>Q (.bl (!k)) H1)):Zer ta σ H Q:=h
theorem Zwr{g:Int->Int->V}{i j:Int}(h:Q (g i j) H):kj g (.int i) (.int j) H Q:=⟨i,j,rfl,rfl,h⟩
theorem i_I{C:Int->Int->Prop}{g:Int->Int->V}{i j:Int}(hc:C i j)(h:Q (g i j) H):rI C g (.int i) (.int j) H Q:=⟨i,j,rfl,rfl,hc,h⟩
theorem i_U{g:Int->V}{i:Int}(h:Q (g i) H):rU g (.int i) H Q:=⟨i,rfl,h⟩
theorem Zuf{i j:Int}(h:Q (.bl (decide (i=j))) H):qF (.int i) (.int j) H Q:=⟨rfl,by rw[show decide (V.int i=V.int j)=decide (i=j)from decide_eq_decide.mpr ⟨λe=>V.int.inj e,λe=>by rw[e]⟩];exact h⟩
theorem Zue{i j:Str}(h:Q (.bl (decide (i=j))) H):qF (.str i) (.str j) H Q:=⟨rfl,by rw[show decide (V.str i=V.str j)=decide (i=j)from decide_eq_decide.mpr ⟨λe=>V.str.inj e,λe=>by rw[e]⟩];exact h⟩
theorem Zu8{i j:Int}(h:Q (.bl (!decide (i=j))) H):rNe (.int i) (.int j) H Q:=⟨rfl,by rw[show decide (V.int i=V.int j)=decide (i=j)from decide_eq_decide.mpr ⟨λe=>V.int.inj e,λe=>by rw[e]⟩];exact h⟩
theorem Zu7{i j:Str}(h:Q (.bl (!decide (i=j))) H):rNe (.str i) (.str j) H Q:=⟨rfl,by rw[show decide (V.str i=V.str j)=decide (i=j)from decide_eq_decide.mpr ⟨λe=>V.str.inj e,λe=>by rw[e]⟩];exact h⟩
def Nr:R2:=λx y H Q=>y=.non/\Q (.bl (decide (x=.non))) H
def tK:R2:=λx y H Q=>y=.non/\Q (.bl (!decide (x=.non))) H
theorem Zs9(h:Q (.bl true) H):Nr .non .non H Q:=⟨rfl,h⟩
theorem Zs8{i:Int}(h:Q (.bl false) H):Nr (.int i) .non H Q:=⟨rfl,h⟩
theorem Zs7{i:AI}(h:Q (.bl false) H):Nr (.ref i) .non H Q:=⟨rfl,h⟩
theorem Zoj(h:Q (.bl false) H):tK .non .non H Q:=⟨rfl,h⟩
theorem Zoi{i:Int}(h:Q (.bl true) H):tK (.int i) .non H Q:=⟨rfl,h⟩
theorem Zoh{i:AI}(h:Q (.bl true) H):tK (.ref i) .non H Q:=⟨rfl,h⟩
theorem Zdh{A B:Prop}(h:A):if true=true then A else B:=Zdb h
theorem Yh{A B:Prop}(h:B):if false=true then A else B:=Zoe h
theorem Zoo{A B:Prop}(h:B):if (!true)=true then A else B:=Zoe h
theorem Zop{A B:Prop}(h:A):if (!false)=true then A else B:=Zdb h
theorem j9{p A B:Prop} [Decidable p](h1:p->A)(h2:¬ p->B):if decide p=true then A else B:=Zrv (λe=>h1 (of_decide_eq_true e)) (λe=>h2 (λq=>e (decide_eq_true q)))
theorem Zdf{p A B:Prop} [Decidable p](h1:¬ p->A)(h2:p->B):if (!decide p)=true then A else B:=Zrv (λe=>h1 fh) (λe=>h2 fh)
theorem Zu6{q:List V->Hp->Prop}(h:q [] H):aG σ H q:=h
theorem Zsh{q:List V->Hp->Prop}{t:TA}(h:ta σ H λx H1=>t σ H1 λxs a=>q (x::xs) a):ak ta t σ H q:=h
theorem Zu9{t:TA}(h:t σ H λxs H1=>xs.length<=sizeLine/\∀p,H1 p=none->Q (.ref p) (upd H1 p (.lst xs))):iM t σ H Q:=h
theorem Zu1{t:TA}(h:t σ H λxs H1=>xs.length<=sizeLine/\∀p,H1 p=none->Q (.ref p) (upd H1 p (.tup xs))):ig t σ H Q:=h
theorem Zsi{t:TA}{sp:Sp}{qj:List V}{E:XK}(h:t σ H λvs H1=>sp (vs++qj) H1 Q E):aU sp qj E t σ H Q:=h
theorem Zws{t:TA}{f:List V->Hp->VK->Prop}(h:t σ H λvs H1=>f vs H1 Q):pH f t σ H Q:=h
theorem Zs5{t:TA}{sp:Sp}{qj:List V}{E:XK}{C:AI}(h:t σ H λvs H1=>∀x dx,H1 x=none->H1 dx=none->dx≠x->sp (.ref x::(vs++qj)) (upd (upd H1 dx (.own x)) x (.ins C dx [])) (λv a=>v=.non/\Q (.ref x) a) E):sr C sp qj E t σ H Q:=h
def Zu0(K:aC)(f:Str)(Q:VK):VK:=λx H1=>∃a C dx fs v,x=.ref a/\H1 a=some (.ins C dx fs)/\K7 K C/\cL K C f/\fs.lookup f=some v/\Q v H1
theorem Zud{K:aC}{f:Str}(h:ta σ H (Zu0 K f Q)):bA K ta f σ H Q:=h
theorem aJ{K:aC}{f:Str}{a C dx:AI}{fs:List (Str×V)}{v:V}(h:H a=some (.ins C dx fs))(hc:K7 K C)(hn:cL K C f)(hl:fs.lookup f=some v)(q:Q v H):Zu0 K f Q (.ref a) H:=⟨a,C,dx,fs,v,rfl,h,hc,hn,hl,q⟩
theorem Zs0{K:aC}{f:Str}{e:TE}(h:e σ H λy H1=>ta σ H1 λx d=>∃a C dx fs,x=.ref a/\d a=some (.ins C dx fs)/\K7 K C/\cL K C f/\fs.length<1000/\n σ (upd d a (.ins C dx (bL f y fs)))):dU K ta e f ⟨n,r,b,c⟩ σ H:=h
theorem Zs4{C:AI}{m:Str}{sp:Sp}{qj:List V}{E:XK}{t:TA}(h:ta σ H λx H1=>∃a dx fs,x=.ref a/\H1 a=some (.ins C dx fs)/\fs.lookup m=none/\t σ H1 λvs b=>sp (x::(vs++qj)) b Q E):iI C m sp qj E ta t σ H Q:=h
theorem Zli{q:AA->Hp->Prop}(h:q none H):uH σ H q:=h
def kI(q:Int->Hp->Prop):VK:=λx H1=>∃i,x=.int i/\q i H1
theorem Zs1{q:AA->Hp->Prop}(h:te σ H (kI λi=>q (some i))):HX te σ H q:=h
theorem Zwc{i:Int}{q:Int->Hp->Prop}(h:q i H):kI q (.int i) H:=⟨i,rfl,h⟩
theorem Zwa{f:V->AA->AA->Hp->VK->Prop}{tl th:TO}(h:te σ H λx H1=>tl σ H1 λl b=>th σ b λu a=>f x l u a Q):tSl f te tl th σ H Q:=h
theorem Zwq{K:aC}{T:String}{f:V->List V->Hp->VK->Prop}{to:TE}{t:TA}(h:to σ H λx H1=>tyV K T x H1/\t σ H1 λxs a=>f x xs a Q):tBM K T f to t σ H Q:=h
theorem Zuh{K:aC}{T:String}{f:V->List V->Hp->VK->Prop}{to:TE}(h:to σ H λx H1=>tyV K T x H1/\f x [] H1 Q):Zqm K T f to σ H Q:=h
theorem Zuc{f:TI}{g:TG}{tb:TS}(h:f σ H λJ H1=>∃W:Nat->Nat->ν,(∃m,W 0 m σ H1)/\∀i m σ H,W i m σ H->
 (J.stop i H/\n σ H)\/(J.go i H/\∃N:ν,(∀ a H',N a H'->∃e,e<m/\W br e a H')/\∀x H',J.Zf i H x H'->g x σ H' λd j=>tb ⟨N,r,n,N⟩ d j)):yZ f g tb ⟨n,r,b,c⟩ σ H:=h
theorem Zwg{K:aC}{R:It->Hp->Prop}(h:te σ H λx H1=>∃a,x=.ref a/\(∃xs,cC K H1 a xs)/\R (Itl K a) H1):rB K te σ H R:=h
theorem Zwf{ta:TA}{R:It->Hp->Prop}(h:ta σ H λvs H1=>∃j:Int,vs=[.int j]/\-(2 ^ 62)<=j/\j<2 ^ 62/\R (Itr 0 j.toNat) H1):Zap ta σ H R:=h
end
theorem Zw8{v:V}{l:St}{H:Hp}{Q:VK}(h:Q v H):aj 0 (some v::l) H Q:=⟨v,rfl,h⟩
theorem Zw7{a:Option V}{v:V}{l:St}{H:Hp}{Q:VK}(h:Q v H):aj 1 (a::some v::l) H Q:=⟨v,rfl,h⟩
theorem Zwp{a:Option V}{y:Option V}{v:V}{l:St}{H:Hp}{Q:ν}(h:Q (a::some v::l) H):aP 1 v (a::y::l) H Q:=h
theorem Zw6{a b:Option V}{v:V}{l:St}{H:Hp}{Q:VK}(h:Q v H):aj 2 (a::b::some v::l) H Q:=⟨v,rfl,h⟩
theorem Zub{a b:Option V}{y:Option V}{v:V}{l:St}{H:Hp}{Q:ν}(h:Q (a::b::some v::l) H):aP 2 v (a::b::y::l) H Q:=h
theorem Zw5{a b c:Option V}{v:V}{l:St}{H:Hp}{Q:VK}(h:Q v H):aj 3 (a::b::c::some v::l) H Q:=⟨v,rfl,h⟩
theorem Zwo{a b c:Option V}{y:Option V}{v:V}{l:St}{H:Hp}{Q:ν}(h:Q (a::b::c::some v::l) H):aP 3 v (a::b::c::y::l) H Q:=h
theorem Zw4{a c d b:Option V}{v:V}{l:St}{H:Hp}{Q:VK}(h:Q v H):aj 4 (a::c::d::b::some v::l) H Q:=⟨v,rfl,h⟩
theorem Zwn{a c d b:Option V}{y:Option V}{v:V}{l:St}{H:Hp}{Q:ν}(h:Q (a::c::d::b::some v::l) H):aP 4 v (a::c::d::b::y::l) H Q:=h
theorem Zw3{a c e b d:Option V}{v:V}{l:St}{H:Hp}{Q:VK}(h:Q v H):aj 5 (a::c::e::b::d::some v::l) H Q:=⟨v,rfl,h⟩
theorem Zwm{a c e b d:Option V}{y:Option V}{v:V}{l:St}{H:Hp}{Q:ν}(h:Q (a::c::e::b::d::some v::l) H):aP 5 v (a::c::e::b::d::y::l) H Q:=h
theorem Zw2{a c e b d f:Option V}{v:V}{l:St}{H:Hp}{Q:VK}(h:Q v H):aj 6 (a::c::e::b::d::f::some v::l) H Q:=⟨v,rfl,h⟩
theorem Zwl{a c e b d f:Option V}{y:Option V}{v:V}{l:St}{H:Hp}{Q:ν}(h:Q (a::c::e::b::d::f::some v::l) H):aP 6 v (a::c::e::b::d::f::y::l) H Q:=h
theorem Zw1{a d f c e g b:Option V}{v:V}{l:St}{H:Hp}{Q:VK}(h:Q v H):aj 7 (a::d::f::c::e::g::b::some v::l) H Q:=⟨v,rfl,h⟩
theorem Zwk{a d f c e g b:Option V}{y:Option V}{v:V}{l:St}{H:Hp}{Q:ν}(h:Q (a::d::f::c::e::g::b::some v::l) H):aP 7 v (a::d::f::c::e::g::b::y::l) H Q:=h
theorem Zw0{a d f c e i b g:Option V}{v:V}{l:St}{H:Hp}{Q:VK}(h:Q v H):aj 8 (a::d::f::c::e::i::b::g::some v::l) H Q:=⟨v,rfl,h⟩
theorem Zwj{a d f c e i b g:Option V}{y:Option V}{v:V}{l:St}{H:Hp}{Q:ν}(h:Q (a::d::f::c::e::i::b::g::some v::l) H):aP 8 v (a::d::f::c::e::i::b::g::y::l) H Q:=h
theorem aL{H:Hp}{p:AI}(h:H p=none)(o:HO):bB H (upd H p o):=λb u q=>by rw[aA (aD q h)];exact q
theorem nwO{H b:Hp}{a:AI}{o:HO}(n:H a=none)(h:upd H a o=b):bB H b/\b a=some o:=by
 subst h;exact⟨aL n o,aq⟩
def tyN(H:Hp):V->Option String
 | .non=>some "NoneType"
 | .bl _=>some "bool"
 | .int _=>some "int"
 | .str _=>some "str"
 | .ref a=>match H a with
  | some (.lst _)=>some "list"
  | some (.oX _ (.lst _))=>some "list"
  | some (.tup _)=>some "tuple"
  | some (.dK _)=>some "dict"
  | some (.dT _)=>some "dict"
  | _=>none
 | _=>none
def qi(t n:String):Option Bool:=if ["int","bool","str","list","tuple","dict"].contains n then some (t == n || (t == "bool" && n == "int"))else none
def Hr:List V->Hp->VK->Prop:=λxs H Q=>∃x n t k,xs=[x,.ty n]/\tyN H x=some t/\qi t n=some k/\Q (.bl k) H
theorem JN:qi "int" "int"=some true:=γ
theorem Ep:qi "int" "bool"=some false:=γ
theorem Zam:qi "int" "str"=some false:=γ
theorem X6:qi "int" "list"=some false:=γ
theorem R6:qi "int" "tuple"=some false:=γ
theorem X7:qi "int" "dict"=some false:=γ
theorem Yd:qi "bool" "int"=some true:=γ
theorem Sh:qi "bool" "bool"=some true:=γ
theorem Yc:qi "bool" "str"=some false:=γ
theorem Sd:qi "bool" "list"=some false:=γ
theorem PB:qi "bool" "tuple"=some false:=γ
theorem Sg:qi "bool" "dict"=some false:=γ
theorem Zal:qi "str" "int"=some false:=γ
theorem X3:qi "str" "bool"=some false:=γ
theorem JM:qi "str" "str"=some true:=γ
theorem XS:qi "str" "list"=some false:=γ
theorem R3:qi "str" "tuple"=some false:=γ
theorem XX:qi "str" "dict"=some false:=γ
theorem Hi:qi "NoneType" "int"=some false:=γ
theorem Et:qi "NoneType" "bool"=some false:=γ
theorem Hg:qi "NoneType" "str"=some false:=γ
theorem Er:qi "NoneType" "list"=some false:=γ
theorem Aw:qi "NoneType" "tuple"=some false:=γ
theorem Es:qi "NoneType" "dict"=some false:=γ
theorem X5:qi "list" "int"=some false:=γ
theorem R5:qi "list" "bool"=some false:=γ
theorem X4:qi "list" "str"=some false:=γ
theorem Ac:qi "list" "list"=some true:=γ
theorem Py:qi "list" "tuple"=some false:=γ
theorem R4:qi "list" "dict"=some false:=γ
theorem R1:qi "tuple" "int"=some false:=γ
theorem Px:qi "tuple" "bool"=some false:=γ
theorem R0:qi "tuple" "str"=some false:=γ
theorem Pr:qi "tuple" "list"=some false:=γ
theorem wD:qi "tuple" "tuple"=some true:=γ
theorem Pu:qi "tuple" "dict"=some false:=γ
theorem Yb:qi "dict" "int"=some false:=γ
theorem R9:qi "dict" "bool"=some false:=γ
theorem X8:qi "dict" "str"=some false:=γ
theorem R7:qi "dict" "list"=some false:=γ
theorem Pz:qi "dict" "tuple"=some false:=γ
theorem R8:qi "dict" "dict"=some true:=γ
theorem Zdj{i:Int}{H:Hp}{Q:VK}(h:Q (.bl true) H):Hr [.int i,.ty "int"] H Q:=⟨_,_,_,_,rfl,rfl,JN,h⟩
theorem Zao{i:Int}{H:Hp}{Q:VK}(h:Q (.bl false) H):Hr [.int i,.ty "bool"] H Q:=⟨_,_,_,_,rfl,rfl,Ep,h⟩
theorem Zdi{i:Str}{H:Hp}{Q:VK}(h:Q (.bl true) H):Hr [.str i,.ty "str"] H Q:=⟨_,_,_,_,rfl,rfl,JM,h⟩
theorem ye{a:AI}{H:Hp}{Q:VK}{xs:List V}(hp:H a=some (.lst xs))(h:Q (.bl true) H):Hr [.ref a,.ty "list"] H Q:=⟨_,_,_,_,rfl,(by show(match H a with | some (.lst _)=>some "list" | some (.oX _ (.lst _))=>some "list" | some (.tup _)=>some "tuple" | some (.dK _)=>some "dict" | some (.dT _)=>some "dict" | _=>none)=some "list";rw[hp]),Ac,h⟩
theorem Yi{a:AI}{H:Hp}{Q:VK}{xs:List V}(hp:H a=some (.tup xs))(h:Q (.bl true) H):Hr [.ref a,.ty "tuple"] H Q:=⟨_,_,_,_,rfl,(by show(match H a with | some (.lst _)=>some "list" | some (.oX _ (.lst _))=>some "list" | some (.tup _)=>some "tuple" | some (.dK _)=>some "dict" | some (.dT _)=>some "dict" | _=>none)=some "tuple";rw[hp]),wD,h⟩
def gQ(K:aC):List V->Hp->VK->Prop:=λxs H Q=>∃p a,xs=[.ref p]/\(cC K H p a\/cP K H p a)/\Q (.int a.length) H
theorem eZ{K:aC}{a:AI}{H:Hp}{Q:VK}{xs:List V}(hp:cC K H a xs)(h:Q (.int xs.length) H):gQ K [.ref a] H Q:=⟨a,xs,rfl,.inl hp,h⟩
theorem fB{K:aC}{a:AI}{H:Hp}{Q:VK}{xs:List V}{i:Int}{v:V}(hp:cC K H a xs)(hi:YG xs i=some v)(h:Q v H):iQ K (.ref a) (.int i) H Q:=⟨a,xs,i,v,rfl,rfl,hp,hi,h⟩
section
variable {K:aC}{a:AI}{xs:List V}{g:TG}{tb:TS}{σ:St}{H:Hp}{n:ν}{r:VK}
theorem forL(xs:List V)(Pv:Nat->ν)(h0:Pv 0 σ H)(hl:∀i σ H,i<=xs.length->Pv i σ H->cC K H a xs)
  (hs:∀i x σ H,xs[i]? =some x->Pv i σ H->g x σ H λb d=>tb ⟨Pv br,r,n,Pv br⟩ b d) (hd:∀ σ H,Pv xs.length σ H->n σ H):
  ∃W:Nat->Nat->ν,(∃m,W 0 m σ H)/\∀i m σ H,W i m σ H->
   ((Itl K a).stop i H/\n σ H)\/((Itl K a).go i H/\∃N:ν,(∀ c H',N c H'->∃e,e<m/\W br e c H')/\∀x H',(Itl K a).Zf i H x H'->g x σ H' λb d=>tb ⟨N,r,n,N⟩ b d):=
 Zlw (D:=⟨n,r,λ_ _=>False,λ_ _=>False⟩) Pv h0 hl hs hd
theorem forR{lo:Int}{k:Nat}(Pv:Nat->ν)(h0:Pv 0 σ H)
  (hs:∀i σ H,i<k->Pv i σ H->g (.int (lo+i)) σ H λa c=>tb ⟨Pv br,r,n,Pv br⟩ a c) (hd:∀ σ H,Pv k σ H->n σ H):
  ∃W:Nat->Nat->ν,(∃m,W 0 m σ H)/\∀i m σ H,W i m σ H->
   ((Itr lo k).stop i H/\n σ H)\/((Itr lo k).go i H/\∃N:ν,(∀ b H',N b H'->∃d,d<m/\W br d b H')/\∀x H',(Itr lo k).Zf i H x H'->g x σ H' λa c=>tb ⟨N,r,n,N⟩ a c):=
 Zi2 (D:=⟨n,r,λ_ _=>False,λ_ _=>False⟩) Pv h0 hs hd
end
theorem bF{n:Nat}(h:n<=1000000):n<=sizeLine:=Nat.le_trans h ε
def ZL:R2:=λx y H Q=>∃i j,x=.str i/\y=.str j/\i.length+j.length<=sizeLine/\Q (.str (i++j)) H
theorem Yj{i j:Str}{H:Hp}{Q:VK}(hz:i.length+j.length<=sizeLine)(h:Q (.str (i++j)) H):ZL (.str i) (.str j) H Q:=⟨i,j,rfl,rfl,hz,h⟩
theorem Zua{z:Str}{i:Int}{c:Nat}{H:Hp}{Q:VK}(hz:z.length<=sizeLine)(hi:YG z.cps.toList i=some c)(h:Q (.str ⟨#[c]⟩) H):Zjf (.str z) (.int i) H Q:=⟨z,i,c,rfl,rfl,hz,hi,h⟩
theorem Zlj{z:Str}{i:Int}{H:Hp}{Q:VK}(hz:z.length<=sizeLine)(h0:0<=i)(h1:i<z.length)(h:∀c:Nat,Q (.str ⟨#[c]⟩) H):Zjf (.str z) (.int i) H Q:=by
 have hk:i.toNat<z.cps.toList.length:=by rw[Array.length_toList];exact(Int.toNat_lt h0).mpr h1
 have a:i=((i.toNat:Nat):Int):=δ
 have q:YG z.cps.toList ((i.toNat:Nat):Int)=some z.cps.toList[i.toNat]:=fG (bD hk);rw[<- a]at q;exact Zua hz q (h _)
def Yy(z:Str)(lo hi:AA):Str:=⟨((z.cps.toList.drop (HT.jX z.length 0 lo)).take (HT.jX z.length z.length hi - HT.jX z.length 0 lo)).toArray⟩
theorem nZ(z:Str)(lo hi:AA):(Yy z lo hi).length<=z.length:=by
 show(List.toArray _).size<=z.cps.size;rw[List.size_toArray,List.length_take,List.length_drop,Array.length_toList];omega
def Zgw:V->AA->AA->Hp->VK->Prop:=λx lo hi H Q=>∃z,x=.str z/\z.length<=sizeLine/\Q (.str (Yy z lo hi)) H
theorem Zfm{z:Str}{lo hi:AA}{H:Hp}{Q:VK}(hz:z.length<=sizeLine)(h:Q (.str (Yy z lo hi)) H):Zgw (.str z) lo hi H Q:=⟨z,rfl,hz,h⟩
theorem str_len(z:Str):z.cps.toList.length=z.length:=Array.length_toList
def pick(σ:St)(j:Nat):Option V:=match σ[j]? with
 | some v=>v
 | none=>none
def tLC(g:TI)(a:List Nat)(tc:TT)(h:TE):TE:=λσ H Q=>g σ H λJ e=>∃W:Nat->Nat->List V->Hp->Prop,(∃m,W 0 m [] e)/\∀i m b H,W i m b H->
 (J.stop i H/\∀p,H p=none->Q (.ref p) (upd H p (.lst b)))\/
 (J.go i H/\b.length<sizeLine/\∀x H',J.Zf i H x H'->tc (some x::a.map bj) H' λk d=>if k=true then h (some x::a.map bj) d (λy f=>∃c,c<m/\W br c (b++[y]) f)else ∃c,c<m/\W br c b d)
def vK:TT:=λ_ H Q=>Q true H
theorem Qd{σ:St}{H:Hp}{Q:Bool->Hp->Prop}(h:Q true H):vK σ H Q:=h
theorem Zoq{r b:R2}{ta tb tc:TE}{σ:St}{H:Hp}{Q:VK}(h:ta σ H λx c=>tb σ c λy e=>r x y e (kB λk a=>if k=true then tc σ a (λw d=>b y w d Q)else Q (.bl false) a)):Zc0 r b ta tb tc σ H Q:=h
structure EqD(K:aC)(C:AI):Prop where
 eq:W.findIn K (.ref C) "__eq__"=some (some (.builtin "object.__eq__"))
 ob:W.mroIn K C (.type "object")=some true
def Gm(C:AI)(E:XK)(ta:TA):TS:=λ_ σ H=>ta σ H λvs a=>vs.length<=100/\E (.ref C) none a
def Zc1(sp:Sp)(qj:List V)(E:St->XK)(t:TA):TE:=λσ H Q=>t σ H λvs a=>sp (vs++qj) a Q (E σ)
section
variable {σ:St}{H:Hp}{Q:VK}{n:ν}{r:VK}{b c:ν}{te:TE}{t:TA}
theorem Zof{C:AI}{E:XK}(h:t σ H λvs a=>vs.length<=100/\E (.ref C) none a):Gm C E t ⟨n,r,b,c⟩ σ H:=h
theorem Zor{sp:Sp}{qj:List V}{E:St->XK}(h:t σ H λvs a=>sp (vs++qj) a Q (E σ)):Zc1 sp qj E t σ H Q:=h
end
theorem Zsb{to a:TE}{ts:Zpd}{x:V}{σ:St}{H:Hp}{Q:ν}(h:to σ H λo b=>a σ b λi d=>ts o i x d λc=>Q σ c):wQ to a ts x σ H Q:=h
def yl(K:aC):List V->Hp->VK->Prop:=λxs H Q=>∃(p:AI) (a:List V),xs=[.ref p]/\cC K H p a/\∀l,H l=none->Q (.ref l) (upd H l (.lst a))
theorem Li{K:aC}{H:Hp}{Q:VK}{p:AI}{a:List V}(h1:cC K H p a)(h:∀l,H l=none->Q (.ref l) (upd H l (.lst a))):yl K [.ref p] H Q:=⟨p,a,rfl,h1,h⟩
def OkN(K:aC)(H:Hp)(xs:List V):Prop:=∀y∈xs,y=.non\/∃a C dx fs,y=.ref a/\H a=some (.ins C dx fs)/\K7 K C/\EqD K C
def Zqw(K:aC)(a:Bool):R2:=λx y H Q=>∃p xs,x=.non/\y=.ref p/\cC K H p xs/\OkN K H xs/\Q (.bl (if a then !decide (V.non∈xs)else decide (V.non∈xs))) H
theorem Zlh{K:aC}{H:Hp}{Q:VK}{p:AI}{xs:List V}(h1:cC K H p xs)(h2:OkN K H xs)(h:Q (.bl (!decide (V.non∈xs))) H):Zqw K true .non (.ref p) H Q:=⟨p,xs,rfl,rfl,h1,h2,h⟩
def Zf4(K:aC):V->List V->Hp->VK->Prop:=λx vs H Q=>∃p xs,x=.ref p/\vs=[.non]/\cC K H p xs/\OkN K H xs/\V.non∈xs/\Q (.int (xs.idxOf V.non)) H
def eqL(xs a:List V):Bool:=xs.length == a.length && (xs.zip a).all λp=>eqV p.1 p.2
def Zqx(K:aC)(b:Bool):R2:=λx y H Q=>∃p q xs a,x=.ref p/\y=.ref q/\cC K H p xs/\cC K H q a/\(xs.length=a.length->xs.all wG=true/\a.all wG=true)/\Q (.bl (if b then !eqL xs a else eqL xs a)) H
def Fm(S:AF)(H H':Hp):Prop:=∀b o,H b=some o->b∉S->H' b=some o
theorem Fm.same{H H':Hp}(a:Fm [] H H'):bB H H':=λc o h=>a c o h ar
theorem Zdg{x:V}{H:Hp}{Q:VK}(h:Q (.bl (!decide (x=.non))) H):tK x .non H Q:=⟨rfl,h⟩
def LCg(J:It)(a:List Nat)(tc:TT)(f:TE)(σ:St)(H:Hp)(Q:VK):Prop:=∃W:Nat->Nat->List V->Hp->Prop,(∃m,W 0 m [] H)/\∀i m b H,W i m b H->
 (J.stop i H/\∀p,H p=none->Q (.ref p) (upd H p (.lst b)))\/
 (J.go i H/\b.length<sizeLine/\∀x H',J.Zf i H x H'->tc (some x::a.map bj) H' λk d=>if k=true then f (some x::a.map bj) d (λy e=>∃c,c<m/\W br c (b++[y]) e)else ∃c,c<m/\W br c b d)
theorem Zfo{b:TI}{a:List Nat}{tc:TT}{c:TE}{σ:St}{H:Hp}{Q:VK}(h:b σ H λJ d=>LCg J a tc c σ d Q):tLC b a tc c σ H Q:=h
theorem Zl6{J:It}{a:List Nat}{tc:TT}{j:TE}{σ:St}{H:Hp}{Q:VK}(k:Nat)(hz:k<=1000000)(g:Nat->Option V)
  (b:J.stop k H) (f:∀i,i<k->J.go i H) (hy:∀i x H',i<k->J.Zf i H x H'->H'=H/\(∀q:Bool->Hp->Prop,q (g i).isSome H->tc (some x::a.map bj) H q)/\∀(y:V) (q:VK),g i=some y->q y H->j (some x::a.map bj) H q)
  (q:∀p,H p=none->Q (.ref p) (upd H p (.lst ((List.range k).filterMap g)))):
  LCg J a tc j σ H Q:=by
 refine⟨λi m h H'=>H'=H/\i<=k/\m=k - i/\h=(List.range i).filterMap g,⟨k,rfl,Nat.zero_le _,rfl,rfl⟩,?_⟩;rintro i m h _ ⟨rfl,hi,rfl,rfl⟩
 by_cases hk:i=k
 ·subst hk;exact .inl ⟨b,q⟩
 ·have c:i<k:=δ
  refine .inr ⟨f i c,?_,λx H' y=>?_⟩
  ·refine Nat.lt_of_le_of_lt (Nat.le_trans (List.length_filterMap_le _ _) ?_) (show 1000000<sizeLine by decide);rw[List.length_range];omega
  ·obtain⟨rfl,h1,h2⟩:=hy i x H' c y;refine h1 _ ?_;have d:List.filterMap g (List.range br)=List.filterMap g (List.range i)++(match g i with | some y=>[y] | none=>[]):=by
    rw[List.range_succ,List.filterMap_append];cases e:g i with
    | none=>rw[List.filterMap_cons_none e];rfl
    | some y=>rw[List.filterMap_cons_some e];rfl
   cases e:g i with
   | none=>
    rw[e]at d;dsimp only[Option.isSome];refine Zoe ⟨k - br,δ,rfl,δ,rfl,?_⟩;rw[d,List.append_nil]
   | some y=>
    rw[e]at d;dsimp only[Option.isSome];refine Zdb (h2 y _ e ⟨k - br,δ,rfl,δ,rfl,?_⟩);rw[d]
theorem Yr(l:List Nat)(p:Nat->Bool)(f:Nat->V):l.filterMap (λi=>if p i=true then some (f i)else none)=(l.filter p).map f:=by
 induction l with
 | nil=>rfl
 | cons a l b=>
  by_cases h:p a=true
  ·rw[List.filterMap_cons_some (by rw[if_pos h]),List.filter_cons_of_pos h,List.map_cons,b]
  ·rw[List.filterMap_cons_none (by rw[if_neg h]),List.filter_cons_of_neg h,b]
theorem Zl7{a:List Nat}{tc:TT}{d:TE}{σ:St}{H:Hp}{Q:VK}{n:Nat}{z:Int}(g:z.toNat=n)(p:Nat->Bool)(f:Nat->V)(hz:n<=1000000)
  (c:∀i,i<n->∀q:Bool->Hp->Prop,q (p i) H->tc (some (.int i)::a.map bj) H q)
  (b:∀i,i<n->p i=true->∀q:VK,q (f i) H->d (some (.int i)::a.map bj) H q)
  (q:∀l,H l=none->Q (.ref l) (upd H l (.lst (((List.range n).filter p).map f)))):
  LCg (Itr 0 z.toNat) a tc d σ H Q:=by
 subst g;refine Zl6 z.toNat hz (λi=>if p i=true then some (f i)else none) υ (λi hi=>hi) (λi x m hi y=>?_) ?_
 ·obtain⟨h,k⟩:=y;have ex:x=.int i:=by rw[k];simp
  refine⟨h,λq hq=>?_,λy q hy hq=>?_⟩
  ·rw[ex];refine c i hi q ?_;cases e:p i with
   | true=>rw[e]at hq;exact hq
   | false=>rw[e]at hq;exact hq
  ·rw[ex];cases e:p i with
   | true=>
    rw[e]at hy;have j:f i=y:=by simpa using hy
    exact b i hi e q (by rw[j];exact hq)
   | false=>rw[e]at hy;simp at hy
 ·rw[Yr];exact q
theorem Zfj{K:aC}{a:AI}{xs:List V}{b:List Nat}{tc:TT}{c:TE}{σ:St}{H:Hp}{Q:VK}(hs:cC K H a xs)(g:Nat->Option V)(hz:xs.length<=1000000)
  (hy:∀i x,xs[i]? =some x->(∀q:Bool->Hp->Prop,q (g i).isSome H->tc (some x::b.map bj) H q)/\∀(y:V) (q:VK),g i=some y->q y H->c (some x::b.map bj) H q)
  (q:∀p,H p=none->Q (.ref p) (upd H p (.lst ((List.range xs.length).filterMap g)))):
  LCg (Itl K a) b tc c σ H Q:=by
 refine Zl6 xs.length hz g ⟨xs,hs,Nat.le_refl _⟩ (λi hi=>⟨xs,xs[i],hs,bD hi⟩) (λi x f hi y=>?_) q;obtain⟨d,e⟩:=y;exact⟨d,hy i x (e xs hs)⟩
theorem lz{n i:Nat}(h:i<n):ixN n (i:Int)=some i:=by
 unfold ixN;rw[if_pos δ,if_pos δ];simp
theorem Zod{n:Nat}{i:Int}(h0:0<=i)(h:i.toNat<n):ixN n i=some i.toNat:=by
 have e:i=((i.toNat:Nat):Int):=δ
 have:=lz h;rw[<- e]at this;exact this
theorem nu{a:Type}{xs:List a}{i:Int}{v:a}(h0:0<=i)(h:xs[i.toNat]? =some v):YG xs i=some v:=by
 have e:i=((i.toNat:Nat):Int):=δ
 have:=fG h;rw[<- e]at this;exact this
inductive Al{α β:Type}(P:α->β->Prop):List α->List β->Prop
 | nil:Al P [] []
 | cons {x:α}{y:β}{xs:List α}{ys:List β}:P x y->Al P xs ys->Al P (x::xs) (y::ys)
section
variable {α β:Type}{P P':α->β->Prop}{xs:List α}{ys:List β}
theorem Al.length(h:Al P xs ys):xs.length=ys.length:=by
 induction h with
 | nil=>rfl
 | cons _ _ a=>rw[List.length_cons,List.length_cons,a]
theorem Al.mono(h:Al P xs ys)(f:∀x y,P x y->P' x y):Al P' xs ys:=by
 induction h with
 | nil=>exact .nil
 | cons p _ a=>exact .cons (f _ _ p) a
theorem Al.get(h:Al P xs ys):∀{i:Nat}{y:β},ys[i]? =some y->∃x,xs[i]? =some x/\P x y:=by
 induction h with
 | nil=>intro i y e;simp at e
 | cons p _ b=>
  intro i y e;cases i with
  | zero=>simp at e;subst e;exact⟨_,rfl,p⟩
  | succ i=>
   obtain⟨x,c,a⟩:=b (i:=i) (y:=y) fh;exact⟨x,by simpa using c,a⟩
theorem Al.getL(h:Al P xs ys):∀{i:Nat}{x:α},xs[i]? =some x->∃y,ys[i]? =some y/\P x y:=by
 induction h with
 | nil=>intro i y e;simp at e
 | cons p _ a=>
  intro i y e;cases i with
  | zero=>simp at e;subst e;exact⟨_,rfl,p⟩
  | succ i=>
   obtain⟨x,b,c⟩:=a (i:=i) fh;exact⟨x,by simpa using b,c⟩
theorem Al.app(h:Al P xs ys){x:α}{y:β}(p:P x y):Al P (xs++[x]) (ys++[y]):=by
 induction h with
 | nil=>exact .cons p .nil
 | cons q t a=>exact .cons q a
theorem Al.mem(h:Al P xs ys){x:α}(hx:x∈xs):∃y,y∈ys/\P x y:=by
 induction h with
 | nil=>cases hx
 | cons q t a=>
  rcases List.mem_cons.mp hx with e | e
  ·subst e;exact⟨_,List.mem_cons_self,q⟩
  ·obtain⟨y,h1,h2⟩:=a e;exact⟨y,List.mem_cons_of_mem _ h1,h2⟩
end
abbrev Tg:=AI->Nat×Nat
def WT(H:Hp)(T:Tg):Prop:=∀b,H b=none->T b=(0,0)
structure eO(s:Nat)(H H':Hp)(T T':Tg):Prop where
 kp:∀b o,H b=some o->(T b).1≠s->H' b=some o
 al:∀b o,H b=some o->∃o',H' b=some o'
 tg:∀b o,H b=some o->T' b=T b
 wt:WT H' T'
def cN(T:Tg)(a:AI)(v:Nat×Nat):Tg:=λx=>if x=a then v else T x
theorem cH{T:Tg}{a:AI}{v:Nat×Nat}:cN T a v a=v:=by unfold cN;rw[if_pos rfl]
theorem g8{T:Tg}{a b:AI}{v:Nat×Nat}(h:b≠a):cN T a v b=T b:=by unfold cN;rw[if_neg h]
theorem WT.same{H H':Hp}{T:Tg}(w:WT H T)(s:bB H H'):WT H' T:=λb h=>w b (s.free h)
theorem eO.refl{s:Nat}{H:Hp}{T:Tg}(w:WT H T):eO s H H T T:=⟨λ_ _ h _=>h,λ_ o h=>⟨o,h⟩,λ_ _ _=>rfl,w⟩
theorem eO.same{s:Nat}{H H':Hp}{T:Tg}(w:WT H T)(e:bB H H'):eO s H H' T T:=⟨λb o h _=>e b o h,λb o h=>⟨o,e b o h⟩,λ_ _ _=>rfl,w.same e⟩
theorem eO.trans{s:Nat}{H c e:Hp}{T f d:Tg}(a:eO s H c T f)(b:eO s c e f d):eO s H e T d where
 kp:=λx o h n=>b.kp x o (a.kp x o h n) (by rw[a.tg x o h];exact n)
 al:=λx o h=>by
  obtain⟨o1,h1⟩:=a.al x o h;exact b.al x o1 h1
 tg:=λx o h=>by
  obtain⟨o1,h1⟩:=a.al x o h;rw[b.tg x o1 h1,a.tg x o h]
 wt:=b.wt
theorem eO.upd{s:Nat}{H:Hp}{T:Tg}{a:AI}{o o':HO}(w:WT H T)(d:H a=some o)(c:(T a).1=s):eO s H (L2.upd H a o') T T where
 kp:=λx u h n=>by
  have:x≠a:=λe=>n (by rw[e];exact c);rw[aA this];exact h
 al:=λx u h=>by
  by_cases e:x=a
  ·exact⟨o',by rw[e,aq]⟩
  ·exact⟨u,by rw[aA e];exact h⟩
 tg:=λ_ _ _=>rfl
 wt:=λb h=>w b (by
  by_cases e:b=a
  ·rw[e,aq]at h;cases h
  ·rw[aA e]at h;exact h)
theorem Oq{T:Tg}{a b:AI}{x y:Nat×Nat}(c:T a=x)(hb:T b=y)(h:x≠y):a≠b:=λe=>h (by rw[<- c,<- hb,e])
theorem Zd6{J:It}{c:List Nat}{tc:TT}{s:TE}{σ:St}{H:Hp}{Q:VK}(k:Nat)(hz:k<=1000000)(R:Nat->V->Hp->Prop)(mono:∀i y a d,R i y a->bB a d->R i y d)
  (f:∀H',bB H H'->J.stop k H') (l:∀i H',i<k->bB H H'->J.go i H')
  (hy:∀i x a H',i<k->bB H a->J.Zf i a x H'->H'=a/\(∀q:Bool->Hp->Prop,q true a->tc (some x::c.map bj) a q)/\∀q:VK,(∀y d,bB a d->R i y d->q y d)->s (some x::c.map bj) a q)
  (q:∀b H',bB H H'->b.length=k->(∀(i:Nat) y,b[i]? =some y->R i y H')->∀p,H' p=none->Q (.ref p) (upd H' p (.lst b))):
  LCg J c tc s σ H Q:=by
 refine⟨λi m b H'=>bB H H'/\i<=k/\m=k - i/\b.length=i/\∀(j:Nat) y,b[j]? =some y->R j y H',⟨k,bB.refl _,Nat.zero_le _,rfl,rfl,λj y e=>by simp at e⟩,?_⟩;rintro i m b a ⟨g,hi,rfl,hl,hr⟩
 by_cases hk:i=k
 ·subst hk;exact .inl ⟨f a g,q b a g hl hr⟩
 ·have h:i<k:=δ
  refine .inr ⟨l i a h g,Nat.lt_of_le_of_lt (show b.length<=1000000 by omega) (show 1000000<sizeLine by decide),λx H' y=>?_⟩;obtain⟨rfl,h1,h2⟩:=hy i x a H' h g y;refine h1 _ (Zdb (h2 _ λy d o r=>⟨k - br,δ,g.trans o,δ,rfl,by rw[List.length_append,hl];rfl,λj z e=>?_⟩))
  by_cases t:j<b.length
  ·rw[List.getElem?_append_left t]at e;exact mono j z _ _ (hr j z e) o
  ·have n:=(cG e).1;rw[List.length_append,List.length_singleton]at n;have u:j=b.length:=δ
   subst u;rw[List.getElem?_append_right υ,Nat.sub_self]at e;cases e;rw[hl];exact r
theorem Zoa{J:It}{d:List Nat}{tc:TT}{C:TE}{σ:St}{H:Hp}{Q:VK}(k:Nat)(hz:k<=1000000)(R:Nat->AI->Hp->Prop)(mono:∀i y c f,R i y c->bB c f->R i y f)(al:∀i y c,R i y c->∃o,c y=some o)
  (g:∀H',bB H H'->J.stop k H') (s:∀i H',i<k->bB H H'->J.go i H')
  (hy:∀i x c H',i<k->bB H c->J.Zf i c x H'->H'=c/\(∀q:Bool->Hp->Prop,q true c->tc (some x::d.map bj) c q)/\∀q:VK,(∀r f,bB c f->c r=none->R i r f->q (.ref r) f)->C (some x::d.map bj) c q)
  (q:∀(rs:AF) H',bB H H'->rs.length=k->rs.Nodup->(∀r∈rs,H r=none)->(∀(i:Nat) r,rs[i]? =some r->R i r H')->∀p,H' p=none->Q (.ref p) (upd H' p (.lst (rs.map V.ref)))):
  LCg J d tc C σ H Q:=by
 refine⟨λi m E H'=>∃rs:AF,E=rs.map V.ref/\bB H H'/\i<=k/\m=k - i/\rs.length=i/\rs.Nodup/\(∀r∈rs,H r=none)/\∀(j:Nat) r,rs[j]? =some r->R j r H',⟨k,[],rfl,bB.refl _,Nat.zero_le _,rfl,rfl,List.nodup_nil,λr hr=>(nomatch hr),λj y e=>by simp at e⟩,?_⟩;rintro i m _ c ⟨rs,rfl,h,hi,rfl,hl,nd,B,hr⟩
 by_cases hk:i=k
 ·subst hk;exact .inl ⟨g c h,q rs c h hl nd B hr⟩
 ·have l:i<k:=δ
  refine .inr ⟨s i c l h,Nat.lt_of_le_of_lt (show(rs.map V.ref).length<=1000000 by rw[aY];omega) (show 1000000<sizeLine by decide),λx H' y=>?_⟩;obtain⟨rfl,h1,h2⟩:=hy i x c H' l h y;refine h1 _ (Zdb (h2 _ λr f v w D=>⟨k - br,δ,rs++[r],by rw[List.map_append];rfl,h.trans v,δ,rfl,by rw[List.length_append,hl];rfl,?_,λz hz=>?_,λj z e=>?_⟩))
  ·rw[List.nodup_append];refine⟨nd,ζ,λa F b hb e=>?_⟩;rw[List.mem_singleton.mp hb]at e;subst e;obtain⟨j,n,t⟩:=List.getElem_of_mem F;obtain⟨o,A⟩:=al j a _ (hr j a (by rw[bD n,t]));rw[w]at A;cases A
  ·rcases List.mem_append.mp hz with hz | hz
   ·exact B z hz
   ·rw[List.mem_singleton.mp hz];exact h.free w
  ·by_cases n:j<rs.length
   ·rw[List.getElem?_append_left n]at e;exact mono j z _ _ (hr j z e) v
   ·have u:=(cG e).1;rw[List.length_append,List.length_singleton]at u;have t:j=rs.length:=δ
    subst t;rw[List.getElem?_append_right υ,Nat.sub_self]at e;cases e;rw[hl];exact D
theorem Zl8{K:aC}{a:AI}{xs:List V}{c:List Nat}{tc:TT}{h:TE}{σ:St}{H:Hp}{Q:VK}(hs:cC K H a xs)(hz:xs.length<=1000000)(R:Nat->AI->Hp->Prop)(mono:∀i y b d,R i y b->bB b d->R i y d)(al:∀i y b,R i y b->∃o,b y=some o)
  (f:∀x b,∀q:Bool->Hp->Prop,q true b->tc (some x::c.map bj) b q)
  (e:∀(i:Nat) x b,xs[i]? =some x->bB H b->∀q:VK,(∀r d,bB b d->b r=none->R i r d->q (.ref r) d)->h (some x::c.map bj) b q)
  (q:∀(rs:AF) H',bB H H'->rs.length=xs.length->rs.Nodup->(∀r∈rs,H r=none)->(∀(i:Nat) r,rs[i]? =some r->R i r H')->∀p,H' p=none->Q (.ref p) (upd H' p (.lst (rs.map V.ref)))):LCg (Itl K a) c tc h σ H Q:=by
 refine Zoa xs.length hz R mono al (λH' s=>⟨xs,s.seq hs,Nat.le_refl _⟩) (λi H' hi s=>⟨xs,xs[i],s.seq hs,bD hi⟩) (λi x b H' hi g y=>?_) q;obtain⟨j,k⟩:=y;exact⟨j,f x b,λq hq=>e i x b (k xs (g.seq hs)) g q hq⟩
end G
namespace G
open PySem L2 PySem.Spec PyProof.Rows
theorem boot_isinstance:bootBuiltins "isinstance"=some (.builtin "isinstance"):=γ
theorem boot_len:bootBuiltins "len"=some (.builtin "len"):=γ
theorem boot_int:bootBuiltins "int"=some (.type "int"):=γ
theorem boot_str:bootBuiltins "str"=some (.type "str"):=γ
theorem boot_bool:bootBuiltins "bool"=some (.type "bool"):=γ
theorem boot_list:bootBuiltins "list"=some (.type "list"):=γ
theorem boot_tuple:bootBuiltins "tuple"=some (.type "tuple"):=γ
theorem boot_dict:bootBuiltins "dict"=some (.type "dict"):=γ
structure Zmw(K:aC)(x qual:Str)(st:Stmt)(f:AI)(fd:AL):Prop where
 ex:∃(oc:AJ) (od:Option AI) (dV kV doc pm:AJ) (an:Option AI) (cdv ct:AJ) (osl:Array AB),
  fd=W.fnOf x qual (iD st) (eX st) eo dV kV doc pm an cdv ct/\K.lookup f=some ⟨oc,od,.func fd,osl⟩/\W.codeIn K cdv qual=true
 kp:W.keepIn K (.ref f)=true
section
variable {P:AM}{w:AO}{K:aC}{mg:As}{base:Heap}
theorem Zft{x a:Str}{st:Stmt}{f:AI}{oc dV:AJ}{od g:Option AI}{e:Array AB}{kV d h b ct:AJ}(l:K.lookup f=some ⟨oc,od,.func (W.fnOf x a (iD st) (eX st) eo dV kV d h g b ct),e⟩)
  (c:W.codeIn K b a=true) (k:W.keepIn K (.ref f)=true):Zmw K x a st f (W.fnOf x a (iD st) (eX st) eo dV kV d h g b ct):=⟨⟨oc,od,dV,kV,d,h,g,b,ct,e,rfl,l,c⟩,k⟩
theorem Ze7{f b:AI}{oc tc:AJ}{od c:Option AI}{d ts:Array AB}{fd:AL}{a:Array AJ}{tn:Nat}{ps:AH}{ds:AC}(_:K.lookup f=some ⟨oc,od,.func fd,d⟩)(t:K.lookup b=some ⟨tc,c,.seq a tn,ts⟩)
  (h:∀us:AC,us.length+ds.length=ps.length->∃k,bindArgs fd ⟨us,[]⟩=seqItems? (.ref b) >>= k/\k (some a)=pure (ps.zip (us++ds))) (hd:fd.defaults=.ref b:=by rfl):Binds K fd ps ds:=by
 intro s us e hl;obtain⟨k,h1,h2⟩:=h us (by rw[List.length_append]at hl;exact hl);exact BindsTo.of_defaults hd (e _ _ t) rfl (by rw[h1,hd]) h2
end
section
variable {X:Cx}
theorem uO:wU X (compareOp .Is) Nr:=Zr4
theorem nG:wU X (compareOp .IsNot) tK:=Znt
theorem cA:Gk X (.builtin "len") (gQ X.K):=Yz
def kk(t n:String):Option Bool:=if (Value.type t == Value.type n)=true then some true else if W.kitMeta n=true then(fastBuiltinMro t).map (·.contains (.type n))else none
theorem Zrp(K:aC)(t n:String):W.kitOne K (.type t) (.type n)=kk t n:=rfl
theorem Zda:kk "int" "int"=some true:=γ
theorem Zae:kk "int" "bool"=some false:=γ
theorem Zd9:kk "int" "str"=some false:=γ
theorem Zac:kk "int" "list"=some false:=γ
theorem XD:kk "int" "tuple"=some false:=γ
theorem Zad:kk "int" "dict"=some false:=γ
theorem Zai:kk "bool" "int"=some true:=γ
theorem XR:kk "bool" "bool"=some true:=γ
theorem Zah:kk "bool" "str"=some false:=γ
theorem XM:kk "bool" "list"=some false:=γ
theorem RX:kk "bool" "tuple"=some false:=γ
theorem XN:kk "bool" "dict"=some false:=γ
theorem Zd8:kk "str" "int"=some false:=γ
theorem Za9:kk "str" "bool"=some false:=γ
theorem Zd7:kk "str" "str"=some true:=γ
theorem Za7:kk "str" "list"=some false:=γ
theorem Xx:kk "str" "tuple"=some false:=γ
theorem Za8:kk "str" "dict"=some false:=γ
theorem K1:kk "NoneType" "int"=some false:=γ
theorem G7:kk "NoneType" "bool"=some false:=γ
theorem KZ:kk "NoneType" "str"=some false:=γ
theorem G5:kk "NoneType" "list"=some false:=γ
theorem Em:kk "NoneType" "tuple"=some false:=γ
theorem G6:kk "NoneType" "dict"=some false:=γ
theorem Zab:kk "list" "int"=some false:=γ
theorem XC:kk "list" "bool"=some false:=γ
theorem Zaa:kk "list" "str"=some false:=γ
theorem Xy:kk "list" "list"=some true:=γ
theorem RV:kk "list" "tuple"=some false:=γ
theorem Xz:kk "list" "dict"=some false:=γ
theorem Xw:kk "tuple" "int"=some false:=γ
theorem RT:kk "tuple" "bool"=some false:=γ
theorem Xv:kk "tuple" "str"=some false:=γ
theorem RP:kk "tuple" "list"=some false:=γ
theorem O9:kk "tuple" "tuple"=some true:=γ
theorem RQ:kk "tuple" "dict"=some false:=γ
theorem Zag:kk "dict" "int"=some false:=γ
theorem XJ:kk "dict" "bool"=some false:=γ
theorem Zaf:kk "dict" "str"=some false:=γ
theorem XF:kk "dict" "list"=some false:=γ
theorem RW:kk "dict" "tuple"=some false:=γ
theorem XH:kk "dict" "dict"=some true:=γ
theorem Zqf{H:Hp}{x:V}{t:String}(e:tyN H x=some t):t="int"\/t="bool"\/t="str"\/t="NoneType"\/t="list"\/t="tuple"\/t="dict":=by
 delta tyN at e
 cases x with
 | non=>exact .inr (.inr (.inr (.inl (Option.some.inj e).symm)))
 | bl b=>exact .inr (.inl (Option.some.inj e).symm)
 | int i=>exact .inl (Option.some.inj e).symm
 | str z=>exact .inr (.inr (.inl (Option.some.inj e).symm))
 | ref a=>
  dsimp only at e;generalize H a=o at e;cases o with
  | none=>cases e
  | some o=>
   cases o with
   | lst _=>exact .inr (.inr (.inr (.inr (.inl (Option.some.inj e).symm))))
   | tup _=>exact .inr (.inr (.inr (.inr (.inr (.inl (Option.some.inj e).symm)))))
   | dK _=>exact .inr (.inr (.inr (.inr (.inr (.inr (Option.some.inj e).symm)))))
   | dT _=>exact .inr (.inr (.inr (.inr (.inr (.inr (Option.some.inj e).symm)))))
   | oX _ u=>
    cases u with
    | lst _=>exact .inr (.inr (.inr (.inr (.inl (Option.some.inj e).symm))))
    | _=>cases e
   | _=>cases e
 | _=>cases e
theorem Zrw{t n:String}{k:Bool}(e:qi t n=some k):n="int"\/n="bool"\/n="str"\/n="list"\/n="tuple"\/n="dict":=by
 unfold qi at e
 by_cases h:(["int","bool","str","list","tuple","dict"].contains n)=true
 ·simpa using h
 ·rw[if_neg h]at e;cases e
theorem Ztw{H:Hp}{x:V}{t n:String}{k:Bool}(a:tyN H x=some t)(e:qi t n=some k):kk t n=some k:=by
 rcases Zqf a with rfl | rfl | rfl | rfl | rfl | rfl | rfl<;>rcases Zrw e with rfl | rfl | rfl | rfl | rfl | rfl
 ·rw[JN]at e;rw[Zda];exact e
 ·rw[Ep]at e;rw[Zae];exact e
 ·rw[Zam]at e;rw[Zd9];exact e
 ·rw[X6]at e;rw[Zac];exact e
 ·rw[R6]at e;rw[XD];exact e
 ·rw[X7]at e;rw[Zad];exact e
 ·rw[Yd]at e;rw[Zai];exact e
 ·rw[Sh]at e;rw[XR];exact e
 ·rw[Yc]at e;rw[Zah];exact e
 ·rw[Sd]at e;rw[XM];exact e
 ·rw[PB]at e;rw[RX];exact e
 ·rw[Sg]at e;rw[XN];exact e
 ·rw[Zal]at e;rw[Zd8];exact e
 ·rw[X3]at e;rw[Za9];exact e
 ·rw[JM]at e;rw[Zd7];exact e
 ·rw[XS]at e;rw[Za7];exact e
 ·rw[R3]at e;rw[Xx];exact e
 ·rw[XX]at e;rw[Za8];exact e
 ·rw[Hi]at e;rw[K1];exact e
 ·rw[Et]at e;rw[G7];exact e
 ·rw[Hg]at e;rw[KZ];exact e
 ·rw[Er]at e;rw[G5];exact e
 ·rw[Aw]at e;rw[Em];exact e
 ·rw[Es]at e;rw[G6];exact e
 ·rw[X5]at e;rw[Zab];exact e
 ·rw[R5]at e;rw[XC];exact e
 ·rw[X4]at e;rw[Zaa];exact e
 ·rw[Ac]at e;rw[Xy];exact e
 ·rw[Py]at e;rw[RV];exact e
 ·rw[R4]at e;rw[Xz];exact e
 ·rw[R1]at e;rw[Xw];exact e
 ·rw[Px]at e;rw[RT];exact e
 ·rw[R0]at e;rw[Xv];exact e
 ·rw[Pr]at e;rw[RP];exact e
 ·rw[wD]at e;rw[O9];exact e
 ·rw[Pu]at e;rw[RQ];exact e
 ·rw[Yb]at e;rw[Zag];exact e
 ·rw[R9]at e;rw[XJ];exact e
 ·rw[X8]at e;rw[Zaf];exact e
 ·rw[R7]at e;rw[XF];exact e
 ·rw[Pz]at e;rw[RW];exact e
 ·rw[R8]at e;rw[XH];exact e
theorem tyOf{K:aC}{H:Hp}{x:V}{t:String}(e:tyN H x=some t):Ht K H x (.type t):=by
 cases x with
 | non=>cases e;exact .non
 | bl y=>cases e;exact .bl y
 | int y=>cases e;exact .int y
 | str y=>cases e;exact .str y
 | byt y=>cases e
 | flt y=>cases e
 | ty y=>cases e
 | ref a=>
  have b:(match H a with | some (.lst _)=>some "list" | some (.oX _ (.lst _))=>some "list" | some (.tup _)=>some "tuple" | some (.dK _)=>some "dict" | some (.dT _)=>some "dict" | _=>none)=some t:=e;split at b
  ·rename_i h;cases b;exact .lst h
  ·rename_i h;cases b;exact .oX h
  ·rename_i h;cases b;exact .tup h
  ·rename_i h;cases b;exact .dK h
  ·rename_i h;cases b;exact .dT h
  ·cases b
theorem qd:Gk X (.builtin "isinstance") Hr:=by
 intro d s i H j us Q I r h;obtain⟨x,n,t,k,rfl,c,hk,q⟩:=h;obtain⟨u,e,rfl,f,g⟩:=vals2 r;have a:e=Value.type n:=g;subst a;exact Zhh (t:=.type t) (b:=k) I f (tyOf c) ((Zrp _ _ _).trans (Ztw c hk)) λtk=>⟨.bl k,H,I.tok _,rfl,q⟩
end
section
variable {X:Cx}
theorem FQ(n:Nat)(o:AA)(d:Nat)(v:Int)(h:o=some v):max (0:Int) (min (if v<0 then v+n else v) n)=((HT.jX n d o:Nat):Int):=by
 subst h;show _=(((if v<0 then(v+(n:Int)).toNat else min v.toNat n:Nat)):Int);split<;>omega
theorem Ud(lo hi:AA)(n:Nat):Builtin.Str.strSliceIndices lo hi 1 n=Builtin.Str.strSliceIndices (some ((HT.jX n 0 lo:Nat):Int)) (some ((HT.jX n n hi:Nat):Int)) 1 n:=by
 have c:=HT.An n 0 (Nat.zero_le _) lo;have d:=HT.An n n υ hi;have b:max (0:Int) (min (if ((HT.jX n 0 lo:Nat):Int)<0 then((HT.jX n 0 lo:Nat):Int)+n else((HT.jX n 0 lo:Nat):Int)) n)=((HT.jX n 0 lo:Nat):Int):=by
  rw[if_neg δ];omega
 have a:max (0:Int) (min (if ((HT.jX n n hi:Nat):Int)<0 then((HT.jX n n hi:Nat):Int)+n else((HT.jX n n hi:Nat):Int)) n)=((HT.jX n n hi:Nat):Int):=by
  rw[if_neg δ];omega
 simp only[Builtin.Str.strSliceIndices,show((1:Int) > 0)=True from ζ,if_true];rw[b,a];cases lo with
 | none=>
  cases hi with
  | none=>rfl
  | some j=>dsimp only;rw[FQ n (some j) n j rfl];rfl
 | some i=>
  cases hi with
  | none=>dsimp only;rw[FQ n (some i) 0 i rfl];rfl
  | some j=>dsimp only;rw[FQ n (some j) n j rfl,FQ n (some i) 0 i rfl]
theorem Zgt(z:Str)(lo hi:AA):(Builtin.Str.strSliceIndices lo hi 1 z.length).filterMap (z.cps[·]?)=(z.cps.toList.drop (HT.jX z.length 0 lo)).take (HT.jX z.length z.length hi - HT.jX z.length 0 lo):=by
 rw[Ud]
 by_cases h:HT.jX z.length 0 lo<=HT.jX z.length z.length hi
 ·exact StrLaws.sliced_plain z h (HT.An _ _ υ _)
 ·have e:HT.jX z.length z.length hi - HT.jX z.length 0 lo=0:=δ
  rw[e,List.take_zero];have a:Builtin.Str.strSliceIndices (some ((HT.jX z.length 0 lo:Nat):Int)) (some ((HT.jX z.length z.length hi:Nat):Int)) 1 z.length=[]:=by
   have b:=HT.An z.length 0 (Nat.zero_le _) lo;have c:=HT.An z.length z.length υ hi;simp only[Builtin.Str.strSliceIndices,sliceRange,show((1:Int) > 0)=True from ζ,if_true];rw[if_neg (by omega:¬ ((HT.jX z.length 0 lo:Nat):Int)<0),if_neg (by omega:¬ ((HT.jX z.length z.length hi:Nat):Int)<0),if_neg δ];rfl
  rw[a];rfl
theorem part_of{v:AJ}{o:AA}(p:IsPart v o):∃q:Option (Int×Tok),v=partValue q/\q.map (·.1)=o:=by
 cases p with
 | none=>exact⟨none,rfl,rfl⟩
 | int i t=>exact⟨some (i,t),rfl,rfl⟩
theorem WW:SlR X Zgw:=by
 intro j s E H x v B J lo hi sl Q I o hs n r h;obtain⟨z,rfl,hz,q⟩:=h;obtain⟨t,rfl⟩:=o;obtain⟨d,rfl,i⟩:=part_of n;obtain⟨c,rfl,g⟩:=part_of r;refine⟨"str",_,F.slot_str_getitem.lookup,typeIs_str _ _ _,?_⟩;refine wpAny_getItem_str_slice (l:=d) (u:=c) (st:=none) hs rfl ?_;have p:(slicePicked z d c none).filterMap (z.cps[·]?)=(z.cps.toList.drop (HT.jX z.length 0 lo)).take (HT.jX z.length z.length hi - HT.jX z.length 0 lo):=by
  unfold slicePicked;rw[i,g];exact Zgt z lo hi
 have w:(⟨((slicePicked z d c none).filterMap (z.cps[·]?)).toArray⟩:Str)=Yy z lo hi:=by
  rw[p];rfl
 unfold sliceMade;split
 ·rename_i f
  have hl:(slicePicked z d c none).length=z.length:=by
   rw[Bool.and_eq_true]at f;exact beq_iff_eq.mp f.2
  have hc:Yy z lo hi=z:=by
   have h1:(slicePicked z d c none)=Builtin.Str.strSliceIndices (some ((HT.jX z.length 0 lo:Nat):Int)) (some ((HT.jX z.length z.length hi:Nat):Int)) 1 z.length:=by
    unfold slicePicked;rw[i,g];exact Ud lo hi z.length
   have k:=HT.An z.length z.length υ hi;have C:=HT.An z.length 0 (Nat.zero_le _) lo;have e:HT.jX z.length 0 lo<=HT.jX z.length z.length hi\/z.length=0:=by
    by_cases a:HT.jX z.length 0 lo<=HT.jX z.length z.length hi
    ·exact .inl a
    ·right
     rw[h1]at hl;have A:Builtin.Str.strSliceIndices (some ((HT.jX z.length 0 lo:Nat):Int)) (some ((HT.jX z.length z.length hi:Nat):Int)) 1 z.length=[]:=by
      simp only[Builtin.Str.strSliceIndices,sliceRange,show((1:Int) > 0)=True from ζ,if_true];rw[if_neg (by omega:¬ ((HT.jX z.length 0 lo:Nat):Int)<0),if_neg (by omega:¬ ((HT.jX z.length z.length hi:Nat):Int)<0),if_neg δ];rfl
     rw[A]at hl;exact hl.symm
   unfold Yy;rcases e with a | h0
   ·rw[h1,StrLaws.strSliceIndices_plain a k,aY,List.length_range]at hl;have m:HT.jX z.length 0 lo=0:=δ
    have y:HT.jX z.length z.length hi=z.length:=δ
    rw[m,y,List.drop_zero,Nat.sub_zero,<- str_len,List.take_length]
    all_goals rfl
   ·have b:z.cps=#[]:=Array.eq_empty_of_size_eq_zero h0;obtain⟨D⟩:=z;dsimp only at b;subst b;simp
  rw[hc]at q;exact⟨.str z,H,I,⟨_,rfl⟩,q⟩
 ·show Str.length _<=sizeLine/\_;rw[w];exact⟨Nat.le_trans (nZ z lo hi) hz,.str (Yy z lo hi),H,I.tok _,⟨_,rfl⟩,q⟩
def GC(mg:As)(x:Str)(v:V):Prop:=∃u,mg x=some u/\RelV v u
theorem GC.pe{x:Str}{v:V}{a:Pos}(h:GC X.mg x v)(hg:Gl X x)(hd:(x == ("__debug__":Str))=false:=by decide):PE X (.Name x a) (tC v):=by
 obtain⟨u,hm,r⟩:=h;exact Znn hg hm r hd
end
section
variable {X:Cx}
end
end G
namespace G
open PySem L2
end G
namespace G
open PySem L2 PySem.Spec PyProof.Rows
section
variable {X:Cx}{pins:At}{σ:L2.St}{H:Hp}{s:AK}{acc:AI}{ys:List V}{its:AC}{n:Nat}
theorem adopt(I:Inv X pins σ H s)(i:oE X pins H acc)(f:s.heap.get? acc=some { cls:=.type "list",data:=.seq its.toArray n })(hv:Vals ys its)(hz:ys.length<=sizeLine):Inv X pins σ (upd H acc (.lst ys)) s:=by
 obtain⟨g,a,p,h,j,d⟩:=i;have ne:∀b u,H b=some u->b≠acc:=λb u e=>aD e g;refine I.step (h':=s.heap) (g':=s.gens) (t':=s.toks) (d':=s.drawn) (ch:=[acc]) (λb hb=>?_) (λ_ _ _ _ _ e _=>e) (λb o _ _ _ e _=>⟨o.slots,e⟩) (λb o hb e h0=>?_) (λb o _ e=>⟨o,e⟩)
  (λb k e=>by rw[aA (ne b _ e)];exact e) (λb o u e=>by rw[aA (ne b _ e)];exact e) (λb l e=>⟨#[],by rw[aA (ne b _ e),e];simp⟩) (λm hm=>hm) (λb u e=>?_) I.bare
 ·have e:b=acc:=by simpa using hb
  subst e;exact⟨h,a,j,d⟩
 ·have e:b≠acc:=by simpa using hb
  rw[aA e];exact h0
 ·by_cases hb:b=acc
  ·subst hb;rw[aq]at e;cases e;exact⟨hz,its,n,hv,f⟩
  ·rw[aA hb]at e;exact(I.hok b u e).stay (λ_ _ _ q=>q) (λc q=>by rw[aA (ne c _ q)];exact q) λc k q=>by rw[aA (ne c _ q)];exact q
theorem disown(I:Inv X pins σ (upd H acc (.lst ys)) s)(i:oE X pins H acc):Inv X pins σ H s:=by
 obtain⟨g,d,p,h,k,f⟩:=i;have back:∀b u,upd H acc (.lst ys) b=some u->u≠.lst ys->H b=some u:=λb u e a=>by
  by_cases hb:b=acc
  ·subst hb;rw[aq]at e;cases e;exact absurd rfl a
  ·rw[aA hb]at e;exact e
 refine I.step (h':=s.heap) (g':=s.gens) (t':=s.toks) (d':=s.drawn) (ch:=[acc]) (λb hb=>?_) (λ_ _ _ _ _ e _=>e) (λb o _ _ _ e _=>⟨o.slots,e⟩) (λb o hb e h0=>?_) (λb o _ e=>⟨o,e⟩)
  (λb l e=>back b _ e ar) (λb o u e=>back b _ e ar) (λb n e=>⟨#[],by rw[back b _ e ar];simp⟩) (λm hm=>hm) (λb u e=>?_) I.bare
 ·have e:b=acc:=by simpa using hb
  subst e;exact⟨h,d,k,f⟩
 ·have e:b≠acc:=by simpa using hb
  rw[aA e]at h0;exact h0
 ·have hb:b≠acc:=aD e g;have j:upd H acc (.lst ys) b=some u:=by rw[aA hb];exact e
  exact(I.hok b u j).stay (λ_ _ _ q=>q) (λc q=>back c _ q ar) λc l q=>back c _ q ar
end
def PF(X:Cx)(a:AG)(t:TT):Prop:=
 ∀(pins:At) (s:AK) (σ:L2.St) (H:Hp) (Q:Bool->Hp->Prop),Inv X pins σ H s->t σ H Q->
  wpAny ς X.A (forIn a true λc r=>if r=true then do let ok <- isTrue c X.env (eval c X.env);pure (ForInStep.yield ok)else pure (ForInStep.yield r)) (TP X pins σ Q) X.xe s
theorem Nv{X:Cx}:PF X [] vK:=λ_ _ _ H _ I h=>wpAny_tests_nil ⟨H,I,h⟩
theorem Zcn{X:Cx}{c:AN}{t:TT}(h:PT X c t):PF X [c] t:=λpins s σ H Q I q=>wpAny_tests_one (h pins s σ H Q I q)
def Qv(X:Cx)(a:Scope)(cl:List (Str×AI))(N:AH)(C:AI)(s:AK)(H:Hp)(ex:AF)(pn:At):Cx:=
 { X with N:=N,s₀:=s,H₀:=H,env:=compEnvC a cl C X.env,outer:=X.stack,ex:=ex,fn:=λ_=>false,pn:=pn,xe:=λ_ _=>False }
def AllIn(cells:List (Str×AI)):List (Str×AI)->Prop
 | []=>True
 | p::r=>cells.lookup p.1=some p.2/\AllIn cells r
theorem AllIn.get{cells:List (Str×AI)}:∀{cl:List (Str×AI)},AllIn cells cl->∀{x:Str}{c:AI},cl.lookup x=some c->cells.lookup x=some c
 | [],_,x,c,h=>by cases h
 | (y,d)::r,a,x,c,h=>by
  cases e:(x == y)with
  | true=>
   rw[List.lookup_cons,e]at h;have b:x=y:=beq_iff_eq.mp e;subst b;cases h;exact a.1
  | false=>
   rw[List.lookup_cons,e]at h;exact AllIn.get a.2 h
def yL(X:Cx):AH->List Nat->Prop
 | [],[]=>True
 | y::r,j::js=>X.N[j]? =some y/\X.env.kindOf y=some .cell/\yL X r js
 | _,_=>False
theorem yL.len{X:Cx}:∀{ns:AH}{js:List Nat},yL X ns js->ns.length=js.length
 | [],[],_=>rfl
 | [],_::_,h=>h.elim
 | _::_,[],h=>h.elim
 | _::r,_::js,h=>by rw[List.length_cons,List.length_cons,yL.len h.2.2]
theorem yL.get{X:Cx}{σ:L2.St}:∀{ns:AH}{js:List Nat},yL X ns js->∀{i:Nat}{x:Str}{v:V},ns[i]? =some x->(js.map bj)[i]? =some (some v)->∃j:Nat,X.N[j]? =some x/\X.env.kindOf x=some .cell/\σ[j]? =some (some v)
 | [],_,_,i,x,v,h,_=>by simp at h
 | _::_,[],h,_,_,_,_,_=>h.elim
 | y::r,j::js,h,0,x,v,h1,h2=>by
  simp at h1 h2;subst h1;refine⟨j,h.1,h.2.1,?_⟩;unfold pick at h2;split at h2
  ·rename_i e;rw[e,h2]
  ·cases h2
 | y::r,j::js,h,i+1,x,v,h1,h2=>yL.get (i:=i) h.2.2 (by simpa using h1) (by simpa using h2)
theorem Zl2{x n:Str}{k:NameKind}{r:List (Str×NameKind)}(h:(x == n)=false):List.lookup x ((n,k)::r)=List.lookup x r:=by rw[List.lookup_cons,h]
theorem Zl3{x n:Str}{k:NameKind}{r:List (Str×NameKind)}(h:(x == n)=true):List.lookup x ((n,k)::r)=some k:=by rw[List.lookup_cons,h]
def M6(env:Env)(x:Str)(k:NameKind):NameKind:=if (k == NameKind.free && env.scope.kind == .function && env.kindOf x == some .cell)=true then .cell else k
theorem pW{env:Env}{x:Str}:∀{names:List (Str×NameKind)},
  (names.map λ(n,k)=>if (k == NameKind.free && env.scope.kind == .function && env.kindOf n == some .cell)then(n,NameKind.cell)else(n,k)).lookup x=(names.lookup x).map (M6 env x)
 | []=>rfl
 | (n,a)::r=>by
  have b:=@pW env x r;show List.lookup x ((if (a == NameKind.free && env.scope.kind == .function && env.kindOf n == some .cell)=true then(n,NameKind.cell)else(n,a))::r.map λ(n,k)=>if (k == NameKind.free && env.scope.kind == .function && env.kindOf n == some .cell)then(n,NameKind.cell)else(n,k))=_;cases hx:x == n with
  | true=>
   have e:=beq_iff_eq.mp hx;subst e;rw[Zl3 (k:=a) hx]
   by_cases hc:(a == NameKind.free && env.scope.kind == .function && env.kindOf x == some .cell)=true
   ·rw[if_pos hc,Zl3 hx];show some NameKind.cell=some (M6 env x a);unfold M6;rw[if_pos hc]
   ·rw[if_neg hc,Zl3 hx];show some a=some (M6 env x a);unfold M6;rw[if_neg hc]
  | false=>
   rw[Zl2 (k:=a) (r:=r) hx]
   by_cases hc:(a == NameKind.free && env.scope.kind == .function && env.kindOf n == some .cell)=true
   ·rw[if_pos hc,Zl2 hx];exact b
   ·rw[if_neg hc,Zl2 hx];exact b
theorem lookup_all{names:List (Str×NameKind)}{p:Str×NameKind->Bool}:∀{x:Str}{k:NameKind},names.all p=true->names.lookup x=some k->p (x,k)=true:=by
 induction names with
 | nil=>intro x k _ h;simp at h
 | cons y r d=>
  intro x k a h;obtain⟨n,b⟩:=y;rw[List.all_cons,Bool.and_eq_true]at a;cases hx:x == n with
  | true=>
   rw[List.lookup_cons,hx]at h;have c:x=n:=beq_iff_eq.mp hx;have e:b=k:=Option.some.inj h;rw[c,<- e];exact a.1
  | false=>
   rw[List.lookup_cons,hx]at h;exact d a.2 h
theorem Zba{prog:AM}{w:AO}{A:Around}{R:Result->AK->Prop}{s:AK}{p a iter:AN}{t:AG}{b:Scope}{z:Pos}{C acc:AJ}{env:Env}(I:Nat->AK->Prop)
  (turn:∀n s,I n s->wpAny ai A (pyNext C) (λr g=>match r with
   | none=>R (.ok .next) g
   | some v=>wpAny ai A (letOwnedTupleGo a C v) (λ_ d=>wpAny ai A (assign a env v) (λ_ l=>
     wpAny ai A (forIn t true λc r=>if r=true then do let ok <- isTrue c env (eval c env);pure (ForInStep.yield ok)else pure (ForInStep.yield r)) (λok e=>
      if ok=true then wpAny ai A (eval p env) (λx k=>
       wpAny ai A (call (.builtin "list.append") [acc,x]) (λ_ o=>∃m,m<n/\I m o) (λ_ _=>False) k) (λ_ _=>False) e
      else ∃m,m<n/\I m e) (λ_ _=>False) l) (λ_ _=>False) d) (λ_ _=>False) g) (λ_ _=>False) s)
  (n:Nat) (h:I n s):
  codeAny ai A (.compLoop (.ListComp p [⟨a,iter,t,0⟩] b z) 0 C acc env) R s:=by
 refine codeAny_loop rfl I (λn s D=>?_) n h;show wpAny _ A ((compTurn (.ListComp p [⟨a,iter,t,0⟩] b z) 0 C acc env).onRaise (λx=>do noteFrame x env;theTreesLotGoes x)) _ _ s;refine wpAny_noted ?_;rw[compTurn_list];refine wpAny_bind (wpAny_standAt (wpAny_bind (wpAny_mono (turn n s D) (λr g i=>?_) λ_ _ f=>f.elim)));cases r with
 | none=>exact wpAny_pure i
 | some v=>
  refine wpAny_bind (wpAny_mono i (λ_ d q=>?_) λ_ _ f=>f.elim);refine wpAny_bind (wpAny_mono q (λ_ l y=>wpAny_bind (wpAny_mono y (λok e j=>?_) λ_ _ f=>f.elim)) λ_ _ f=>f.elim);cases ok with
  | false=>exact wpAny_pure ⟨rfl,j⟩
  | true=>
   exact wpAny_bind (wpAny_bind (wpAny_mono j (λx k u=>wpAny_bind (wpAny_mono u (λ_ o B=>wpAny_pure (wpAny_pure ⟨rfl,B⟩)) λ_ _ f=>f.elim)) λ_ _ f=>f.elim))
theorem Zoc{X:Cx}{elt iter tg:AN}{pos:Pos}{ifs:AG}{f:Scope}{cl:List (Str×AI)}{wi:TI}{tc:TT}{te:TE}{cns:AH}{ns:AH}{gt:TG}{R:It->L2.St->Hp->VK->Prop}{use:Option (AJ->Sem Unit)}{Q0:Ap}{pins:At}{s:AK}{σ:L2.St}{H:Hp}{Q:VK}(t:List Nat)
  (hR:∀J σ H Q,R J σ H Q->∃W:Nat->Nat->List V->Hp->Prop,(∃m,W 0 m [] H)/\∀i m K H,W i m K H->
   (J.stop i H/\∀p,H p=none->Q (.ref p) (upd H p (.lst K)))\/
   (J.go i H/\K.length<sizeLine/\∀x H',J.Zf i H x H'->∀vs:L2.St,vs.length=ns.length->∃us:L2.St,us.length=ns.length/\gt x (vs++t.map bj) H' (λσ2 H2=>σ2=us++t.map bj/\H2=H')/\tc (us++t.map bj) H' λk H2=>if k=true then te (us++t.map bj) H2 (λy H3=>∃m',m'<m/\W br m' (K++[y]) H3)else ∃m',m'<m/\W br m' K H2))
  (hi:PI X tg iter wi) (hg:∀C s H ex pn,PG (Qv X f cl (ns++cns) C s H ex pn) tg gt)
  (hf:∀C s H ex pn,PF (Qv X f cl (ns++cns) C s H ex pn) ifs tc) (he:∀C s H ex pn,PE (Qv X f cl (ns++cns) C s H ex pn) elt te) (hc:X.calm=true)
  (hclos:closureFor f X.env=pure cl) (hcl:AllIn X.env.cells cl) (hcap:yL X cns t)
  (U:f.kind=.function) (hcell:(f.names.all λp=>p.2 != .cell)=true) (hfree:(f.names.all λp=>p.2 != .free || (cl.lookup p.1).isSome)=true)
  (hcf:(cns.all λy=>f.names.lookup y == some .free)=true) (hnames:∀y∈f.names,y.2=.local->f.names.lookup y.1=some .local)
  (hs:∀v,foldedSetIterable iter X.env v=pure v)
  (I:Inv X pins σ H s) (h:wi σ H λJ H1=>R J σ H1 Q)
  (hend:∀(acc C:AI) (s6:AK) (m:As) r0,s6.heap.Ns C m->(∀{Hf:Hp},Hf C=none->oE X pins Hf C)->(∀h',Heap.SameBut C s6.heap h'->EP X pins σ (λv Hf=>Q v Hf/\Hf C=none) (.ref acc) { s6 with heap:=h' })->compPost ς X.A X.xe use Q0 (.ref acc) C (.ok r0) s6):
  wpAny ς X.A (comprehension (.ListComp elt [⟨tg,iter,ifs,0⟩] f pos) f X.env (firstIterPos [⟨tg,iter,ifs,0⟩] pos) (newList []) (firstAsync [⟨tg,iter,ifs,0⟩]) (firstIter [⟨tg,iter,ifs,0⟩] X.env) use) Q0 X.xe s:=by
 refine wpAny_comprehension_free rfl hs hclos U hnames (fH (hi pins s σ H _ I h) λxv s1 h1=>fH h1 λitv s2 h2=>?_);obtain⟨it,Z,tn,J,H2,rfl,F,T,st2,f2,hr⟩:=h2;obtain⟨W,⟨m0,w0⟩,turn⟩:=hR _ _ _ _ hr;have hne:∀y∈f.names,y.2≠.cell:=λy hy e=>by
  have:=List.all_eq_true.mp hcell y hy;rw[e]at this;simp at this
 refine wpAny_newObj_type (wpAny_newFunctionEnv hne (by intro y hy;simp at hy) (λh₁ N M=>?_) U);dsimp only at N M ⊢;generalize E:s2.heap.objs.size=acc;generalize hH3:s2.heap.push { cls:=.type "list",dict:=none,data:=.seq ([]:AC).toArray }=O at N M ⊢;have hC:O.objs.size=acc+1:=by rw[<- hH3,Heap.size_push,E]
 have D:∀b o,s2.heap.get? b=some o->O.get? b=some o:=λb o e=>hH3 ▸ Heap.get?_push_of_some _ e;have L:∀b o,O.get? b=some o->h₁.get? b=some o:=λb o e=>M.extBut b o (Nat.ne_of_lt (Heap.lt_size e)) (Heap.get?_push_of_some _ e);have Zvt:O.get? acc=some { cls:=.type "list",dict:=none,data:=.seq ([]:AC).toArray }:=by
  rw[<- hH3,<- E];exact Heap.get?_push_size _ rfl
 have I3:Inv X pins σ H2 { s2 with heap:=O }:=F.kept (t':=s2.toks) D;have Zss:oE X pins H2 acc:=F.Yp (Nat.le_of_eq E) (F.hok.fresh (Nat.le_of_eq E));have fpl:∀b∈Z,b<acc:=λb hb=>by
  obtain⟨o,e,_⟩:=T.obj _ _ st2 b hb;rw[<- E];exact Heap.lt_size e
 have Zi3:∀b∈acc::Z,oE X pins H2 b:=λb hb=>(List.mem_cons.mp hb).elim (λe=>e ▸ Zss) (f2 b);have exC:∀b∈acc::Z,b≠O.objs.size:=λb hb=>by
  rcases List.mem_cons.mp hb with e | hb
  ·rw[hC,e];exact Nat.ne_of_lt (Nat.lt_succ_self _)
  ·rw[hC];exact Nat.ne_of_lt (Nat.lt_succ_of_lt (fpl b hb))
 have Zc3:∀b∈acc::Z,b∉frs X.stack:=λb hb hm=>by
  obtain⟨_,g1,g2,_⟩:=Zi3 b hb;exact(List.mem_cons.mp (F.Gr b hm)).elim g1 g2
 let Y:Cx:=Qv X f cl (ns++cns) O.objs.size { s2 with heap:=O } H2 (acc::Z) (X.pn++pins)
 have g:∀y c,cl.lookup y=some c->X.env.cells.lookup y=some c:=λy c e=>hcl.get e;have Zfk:∀y k,Y.env.kindOf y=some k->(k=.cell\/k=.free)->∃c,cl.lookup y=some c:=λy k e hk=>by
  have e0:(f.names.lookup y).map (M6 X.env y)=some k:=pW.symm.trans e;obtain⟨k0,e1,e2⟩:=Option.map_eq_some_iff.mp e0;have e3:=lookup_all hfree e1;have e4:=lookup_all hcell e1
  by_cases hf:k0=.free
  ·subst hf;rw[Bool.or_eq_true]at e3;rcases e3 with e3 | e3
   ·exact absurd rfl (bne_iff_ne.mp e3)
   ·exact Option.isSome_iff_exists.mp e3
  ·exfalso
   have e5:M6 X.env y k0=k0:=by
    unfold M6;rw[if_neg];intro z;rw[Bool.and_eq_true,Bool.and_eq_true]at z;exact hf (beq_iff_eq.mp z.1.1)
   rw[e5]at e2;subst e2;rcases hk with rfl | rfl
   ·simp at e4
   ·exact hf rfl
 have okY:Y.Ok:={
  mod:=F.ok.mod
  kind:=U
  glob:=F.ok.glob
  blt:=F.ok.blt
  above:=Nat.le_refl _
  inj:=λa b c e1 e2=>F.ok.inj a b c (g _ _ e1) (g _ _ e2)
  has:=λy hy=>hy.elim (λe=>Zfk y _ e (.inl rfl)) (λe=>Zfk y _ e (.inr rfl))
  cab:=λy c e=>nomatch e
  hd:=F.ok.hd
  frames:=F.ok.frames
  stk:=.inl rfl
  exf:=λb hb=>⟨exC b hb,λy c e=>(Zi3 b hb).2.2.2.2.1 y c (g _ _ e)⟩
  bs:=λb o e=>⟨D b o (F.bs b o e).1,(F.bs b o e).2⟩
  bsz:=by
   show X.base.objs.size<=O.objs.size;rw[hC,<- E];exact Nat.le_succ_of_le (Nat.le_trans F.ok.bsz F.sz)
  Z7:=λb o e hb=>by
   rcases(Zi3 b hb).2.2.2.1 with z | z
   ·exact F.ok.Z7 b o e z
   ·exact absurd (Nat.lt_of_lt_of_le (Heap.lt_size e) (Nat.le_trans F.ok.bsz z)) (Nat.lt_irrefl _)
  Zdq:=Zc3
  ur:=I3.stack
  frf:=I3.Wo }
 have Zvy:(List.replicate ns.length none++t.map bj:L2.St).length=(ns++cns).length:=by rw[List.length_append,List.length_append,List.length_replicate,aY,hcap.len]
 have I4:Inv Y [] (List.replicate ns.length none++t.map bj) H2 { s2 with heap:=h₁,toks:=s2.toks+([]:List (Str×AJ)).length }:={
  ok:=okY
  os:=rfl
  bare:=F.bare
  base:=Un.kept L
  loc:=by
   refine⟨_,N,λi y v e1 e2 e3=>?_⟩
   by_cases hlt:i<ns.length
   ·have e2:(List.replicate ns.length none++t.map bj:L2.St)[i]? =some (some v):=e2;rw[List.getElem?_append_left (by rw[List.length_replicate];exact hlt),List.getElem?_replicate,if_pos hlt]at e2;cases e2
   ·have e1':cns[i - ns.length]? =some y:=by
     have e1':(ns++cns)[i]? =some y:=e1;rw[List.getElem?_append_right δ]at e1';exact e1'
    have e2':(t.map bj:L2.St)[i - ns.length]? =some (some v):=by
     have e2:(List.replicate ns.length none++t.map bj:L2.St)[i]? =some (some v):=e2;rw[List.getElem?_append_right (by rw[List.length_replicate];omega),List.length_replicate]at e2;exact e2
    obtain⟨j,j1,j2,j3⟩:=hcap.get (σ:=σ) (i:=i - ns.length) (x:=y) (v:=v) e1' e2';obtain⟨m,hn,hl⟩:=F.loc;obtain⟨u,r,l⟩:=hl j y v j1 j3 (.inr (.inl j2));rcases l with ⟨l,_⟩ | ⟨_,c,l1,l2⟩
    ·rw[j2]at l;cases l
    ·refine⟨u,r,.inr ?_⟩;rcases e3 with e3 | e3 | e3
     ·exfalso
      have hm:y∈cns:=List.mem_of_getElem? e1';have hl:f.names.lookup y=some .free:=beq_iff_eq.mp (List.all_eq_true.mp hcf y hm);have e0:(f.names.lookup y).map (M6 X.env y)=some .local:=pW.symm.trans e3;rw[hl]at e0;have e5:M6 X.env y .free=.local:=Option.some.inj e0;unfold M6 at e5;split at e5<;>cases e5
     ·obtain⟨c',hc'⟩:=Zfk y _ e3 (.inl rfl);have:=g _ _ hc';rw[l1]at this;cases this;exact⟨.inl e3,c,hc',l2.keeps λb o e=>L _ _ (D _ _ e)⟩
     ·obtain⟨c',hc'⟩:=Zfk y _ e3 (.inr rfl);have:=g _ _ hc';rw[l1]at this;cases this;exact⟨.inr e3,c,hc',l2.keeps λb o e=>L _ _ (D _ _ e)⟩
  cell:=λy c e=>by
   obtain⟨v,z⟩:=F.cell y c (g _ _ e);exact⟨v,z.keeps λb o e=>L _ _ (D _ _ e)⟩
  free:=F.hok.fresh (by rw[E];show acc<=O.objs.size;rw[hC];exact Nat.le_succ _)
  pY:=λy c e=>F.pY y c (g _ _ e)
  pin:=λp hp=>by
   have hp2:p∈(X.pn++pins)++[]:=hp;have hp':p∈X.pn++pins:=by rw[List.append_nil]at hp2;exact hp2
   obtain⟨p1,p2,p3,p4,p5⟩:=F.pin p hp';refine⟨L _ _ (D _ _ p1),p2,?_,λhm=>(List.mem_cons.mp (F.Gr _ hm)).elim p3 p4,p5⟩;exact Nat.ne_of_lt (by show p.1<O.objs.size;exact Heap.lt_size (D _ _ p1))
  hok:=F.hok.kept λb u e=>L _ _ (D _ _ e)
  len:=Zvy }
 have fpY:∀{H':Hp}{pl:At}{b:AI},b∈acc::Z->H' b=none->(∀p∈pl,p.1≠b)->oE Y pl H' b:=λ{H' pl b} hb hn hp=>
  ⟨hn,exC b hb,Zc3 b hb,.inl hb,λy c e=>(Zi3 b hb).2.2.2.2.1 y c (g _ _ e),λp hm=>(List.mem_append.mp hm).elim (λz=>(Zi3 b hb).2.2.2.2.2 p z) (hp p)⟩
 have fin:∀{S:L2.St}{H':Hp}{P:AK}{K:List V}{B:AC}{kk:Nat}{pl:At},Inv Y pl S H' P->H' acc=none->Vals K B->K.length<=sizeLine->
   P.heap.get? acc=some { cls:=.type "list",data:=.seq B.toArray kk }->(∀p,H' p=none->Q (.ref p) (upd H' p (.lst K)))->
   ∀h',Heap.SameBut O.objs.size P.heap h'->EP X pins σ (λv Hf=>Q v Hf/\Hf O.objs.size=none) (.ref acc) { P with heap:=h' }:=λ{S H' P K B kk pl} J ha hv hz ho hq h' hs'=>by
  have Zuq:acc≠O.objs.size:=exC acc (List.mem_cons_self);have Zaj:∀b o,b≠O.objs.size->P.heap.get? b=some o->h'.get? b=some o:=λb o hb e=>hs'.extBut b o hb e;have ltC:∀b o,s2.heap.get? b=some o->b≠O.objs.size:=λb o e=>Nat.ne_of_lt (Heap.lt_size (D b o e));have Zdl:H' O.objs.size=none:=J.free;have un:Un (frs X.stack) (acc::Z) H2 H' s2.heap h':={
   keep:=λb o e n hb hx=>Zaj b o (ltC b o e) (J.base.keep b o (D b o e) n hb hx)
   slot:=λb o e n hb hx=>by
    obtain⟨sl,q⟩:=J.base.slot b o (D b o e) n hb hx;exact⟨sl,Zaj b _ (ltC b o e) q⟩
   free:=λb o e n hx=>J.base.free b o (D b o e) n hx
   there:=λb o e hx=>by
    obtain⟨o',q⟩:=J.base.there b o (D b o e) hx;exact⟨o',Zaj b o' (ltC b o e) q⟩
   tups:=J.base.tups
   Ho:=J.base.Ho
   Kl:=J.base.Kl }
  have hok:yJ X.prog X.w H' h':=λb u e=>by
   refine(J.hok b u e).stay (λc v hc q=>Zaj c v ?_ q) (λ_ q=>q) λ_ _ q=>q;rintro rfl;rcases hc with rfl | hc
   ·rw[Zdl]at e;cases e
   ·rw[Zdl]at hc;cases hc
  have I5:Inv X pins σ H' { P with heap:=h' }:=F.call' (ch:=acc::Z) J.os un hok J.bare λb hb=>by
   obtain⟨g0,g1,g2,g3,g4,g5⟩:=Zi3 b hb;exact⟨g3,g1,g4,g5⟩
  refine⟨.ref acc,_,adopt (acc:=acc) I5 ?_ (Zaj _ _ Zuq ho) hv hz,rfl,hq acc ha,by rw[aA Zuq.symm];exact Zdl⟩;obtain⟨g0,g1,g2,g3,g4,g5⟩:=Zss;exact⟨ha,g1,g2,g3,g4,g5⟩
 have loop:codeAny ς X.A (.compLoop (.ListComp elt [⟨tg,iter,ifs,0⟩] f pos) 0 (.ref it) (.ref acc) Y.env) (compPost ς X.A X.xe use Q0 (.ref acc) O.objs.size)
   { s2 with heap:=h₁,toks:=s2.toks+([]:List (Str×AJ)).length }:=by
  refine Zba (λn P=>∃(i:Nat) (v:L2.St) (K:List V) (B:AC) (kk:Nat) (H':Hp),v.length=ns.length/\Inv Y [] (v++t.map bj) H' P/\tn i P.heap/\(∀b∈Z,H' b=none)/\H' acc=none/\Vals K B/\K.length<=sizeLine/\
   P.heap.get? acc=some { cls:=.type "list",data:=.seq B.toArray kk }/\W i n K H') ?_ m0 ⟨0,List.replicate ns.length none,[],[],0,H2,List.length_replicate,I4,T.keep _ _ _ st2 (λb _ o e=>L _ _ (D _ _ e)),λb hb=>(f2 b hb).1,Zss.1,.nil,Nat.zero_le _,L _ _ Zvt,w0⟩
  rintro n s5 ⟨i,v,K,B,kk,H5,lv,I5,st5,fr5,ha5,hv5,hz5,ho5,w5⟩;have Ztm:Inv Y [(acc,{ cls:=.type "list",data:=.seq B.toArray kk })] (v++t.map bj) H5 s5:=I5.Dm λp hp=>by
   have e:p=(acc,{ cls:=.type "list",data:=.seq B.toArray kk }):=by simpa using hp
   subst e;exact⟨ho5,ha5,exC acc List.mem_cons_self,Zc3 acc List.mem_cons_self,λv=>by intro z;cases z⟩
  have fpA:∀{H':Hp},(∀b∈Z,H' b=none)->∀b∈Z,oE Y [(acc,{ cls:=.type "list",data:=.seq B.toArray kk })] H' b:=λhn b hb=>fpY (List.mem_cons_of_mem _ hb) (hn b hb) λp hp=>by
   have e:p=(acc,{ cls:=.type "list",data:=.seq B.toArray kk }):=by simpa using hp
   subst e;exact(Nat.ne_of_lt (fpl b hb)).symm
  rcases turn i n K H5 w5 with ⟨stop,qn⟩ | ⟨go,hlt,step⟩
  ·refine fH (T.done Y rfl rfl rfl hc i _ s5 _ H5 (λ_ _=>False) Ztm (fpA fr5) st5 stop) λr s6 qc=>?_;obtain⟨hr,I6⟩:=qc;subst hr;obtain⟨m,hm,_⟩:=I6.loc;have ho6:=(I6.pin (acc,{ cls:=.type "list",data:=.seq B.toArray kk }) (List.mem_append_right _ List.mem_cons_self)).1;exact hend acc O.objs.size s6 m _ hm (λhf=>F.Yp (by rw[hC,E];exact Nat.le_succ _) hf) (fin I6 ha5 hv5 hz5 ho6 qn)
  ·refine fH (T.item Y rfl rfl rfl hc i _ s5 _ H5 (λ_ _=>False) Ztm (fpA fr5) st5 go) λr s6 qc=>?_;obtain⟨u,hr,h6⟩:=qc;subst hr;refine fH h6 λ_ s7 qc=>?_;obtain⟨z,H7,I7,r7,y7,st7,fr7⟩:=qc;have I7':=I7.pinned (fpA fr7) (T.obj _ _ st7);obtain⟨us,lu,hgt,step⟩:=step z H7 y7 v lv;have pg:PG Y tg gt:=hg _ _ _ _ _;refine fH (pg _ s7 _ H7 z u (λσ2 H2'=>σ2=us++t.map bj/\H2'=H7) I7' r7 hgt) λ_ s8 qc=>?_;obtain⟨σ8,H8,I8,e8,e8'⟩:=qc;subst e8 e8';refine fH (hf _ _ _ _ _ _ s8 _ H8 _ I8 step) λok s9 qc=>?_;obtain⟨H9,I9,q9⟩:=qc;have stat:∀{H':Hp}{P:AK}{S:L2.St},Inv Y ([(acc,{ cls:=.type "list",data:=.seq B.toArray kk })]++Aq Z s7.heap) S H' P->tn br P.heap/\(∀b∈Z,H' b=none)/\H' acc=none/\P.heap.get? acc=some { cls:=.type "list",data:=.seq B.toArray kk }:=λ{H' P S} J=>by
    have pa:=J.pin (acc,{ cls:=.type "list",data:=.seq B.toArray kk }) (List.mem_append_right _ (List.mem_append_left _ List.mem_cons_self));refine⟨T.keep _ _ _ st7 λb hb o e=>(J.pin (b,o) dr).1,λb hb=>?_,pa.2.1,pa.1⟩;obtain⟨o,e,d⟩:=T.obj _ _ st7 b hb;exact(J.pin (b,o) dr).2.1
   have Zpt:∀{H':Hp}{P:AK}{S:L2.St}{pl:At},Inv Y pl S H' P->Inv Y [] S H' P:=λJ=>J.Dm λp hp=>nomatch hp;cases ok with
   | false=>
    obtain⟨m',hm,w9⟩:=q9;obtain⟨t1,t2,t3,t4⟩:=stat I9;exact⟨m',hm,i+1,us,K,B,kk,H9,lu,Zpt I9,t1,t2,t3,hv5,hz5,t4,w9⟩
   | true=>
    show wpAny _ _ (eval elt Y.env) _ _ s9;refine fH (he _ _ _ _ _ _ s9 _ H9 _ I9 q9) λy s10 qc=>?_;obtain⟨yv,H10,I10,r10,m',hm,w10⟩:=qc;obtain⟨t1,t2,t3,t4⟩:=stat I10;have Zz5:Inv Y (Aq Z s7.heap) (us++t.map bj) H10 s10:=I10.Dm λp hp=>I10.pin p (List.mem_append_right _ (List.mem_append_right _ hp));have fA:oE Y (Aq Z s7.heap) H10 acc:=fpY List.mem_cons_self t3 λp hp=>Nat.ne_of_lt (fpl _ (Vc hp).1);have Ja:=adopt Zz5 fA t4 hv5 hz5;refine fH (jQ (X:=Y) _ s10 _ _ (.ref acc) [yv] (.ref acc) [y] (λ_ H'=>H'=upd (upd H10 acc (.lst K)) acc (.lst (K++[yv]))) Ja rfl (.cons r10 .nil) ⟨acc,K,yv,rfl,rfl,aq,hlt,rfl⟩) λ_ s11 qc=>?_;obtain⟨_,H11,I11,_,e11⟩:=qc;rw[dz]at e11;subst e11;obtain⟨Zwu,its',kk',Zwv,Zwx⟩:=I11.hok acc _ aq;have Jd:=disown I11 fA;have Zvl:tn br s11.heap:=T.keep _ _ _ st7 λb hb o e=>(Jd.pin (b,o) (List.mem_append_right _ (pQ hb e))).1;exact⟨m',hm,i+1,us,K++[yv],its',kk',H10,lu,Zpt Jd,Zvl,t2,t3,Zwv,Zwu,Zwx,w10⟩
 exact codeAny_compStart_list loop (T.self X.A 0 _ _ _ (T.keep _ _ _ st2 (λb _ o e=>L _ _ (D _ _ e))) loop)
theorem Zjs{X:Cx}{o iter tg:AN}{t:Pos}{q:AG}{a:Scope}{cl:List (Str×AI)}{E:TI}{tc:TT}{B:TE}{cns:AH}{ns:AH}{gt:TG}{R:It->L2.St->Hp->VK->Prop}(b:List Nat)
  (S:∀J σ H Q,R J σ H Q->∃W:Nat->Nat->List V->Hp->Prop,(∃m,W 0 m [] H)/\∀i m j H,W i m j H->
   (J.stop i H/\∀p,H p=none->Q (.ref p) (upd H p (.lst j)))\/
   (J.go i H/\j.length<sizeLine/\∀x H',J.Zf i H x H'->∀vs:L2.St,vs.length=ns.length->∃us:L2.St,us.length=ns.length/\gt x (vs++b.map bj) H' (λA r=>A=us++b.map bj/\r=H')/\tc (us++b.map bj) H' λk r=>if k=true then B (us++b.map bj) r (λy M=>∃n,n<m/\W br n (j++[y]) M)else ∃n,n<m/\W br n j r))
  (hi:PI X tg iter E) (hg:∀C s H ex pn,PG (Qv X a cl (ns++cns) C s H ex pn) tg gt)
  (T:∀C s H ex pn,PF (Qv X a cl (ns++cns) C s H ex pn) q tc) (L:∀C s H ex pn,PE (Qv X a cl (ns++cns) C s H ex pn) o B) (hc:X.calm=true)
  (e:closureFor a X.env=pure cl) (u:AllIn X.env.cells cl) (l:yL X cns b)
  (g:a.kind=.function) (f:(a.names.all λp=>p.2 != .cell)=true) (d:(a.names.all λp=>p.2 != .free || (cl.lookup p.1).isSome)=true)
  (z:(cns.all λy=>a.names.lookup y == some .free)=true) (c:∀y∈a.names,y.2=.local->a.names.lookup y.1=some .local)
  (hs:∀v,foldedSetIterable iter X.env v=pure v):
  PE X (.ListComp o [⟨tg,iter,q,0⟩] a t) (λσ H Q=>E σ H λJ F=>R J σ F Q):=by
 intro D s σ H Q I h;rw[eval_ListComp];refine Zoc b S hi hg T L hc e u l g f d z c hs I h λP C s6 m r0 hm Z fin=>⟨m,hm,λU w=>?_⟩;obtain⟨v,N,K,Y,O,_⟩:=fin U w;exact⟨v,N,K,Y,O⟩
theorem Zf6{X:Cx}{k iter:AN}{x:Str}{w r:Pos}{o:AG}{a:Scope}{cl:List (Str×AI)}{A:TI}{tc:TT}{B:TE}{cns:AH}(b:List Nat)
  (hi:PI X (.Name x w) iter A)
  (F:∀C s H ex pn,PF (Qv X a cl (x::cns) C s H ex pn) o tc) (I:∀C s H ex pn,PE (Qv X a cl (x::cns) C s H ex pn) k B) (hc:X.calm=true)
  (j:closureFor a X.env=pure cl) (u:AllIn X.env.cells cl) (n:yL X cns b)
  (d:a.kind=.function) (e:(a.names.all λp=>p.2 != .cell)=true) (f:(a.names.all λp=>p.2 != .free || (cl.lookup p.1).isSome)=true)
  (t:(cns.all λy=>a.names.lookup y == some .free)=true) (c:∀y∈a.names,y.2=.local->a.names.lookup y.1=some .local) (hx:a.names.lookup x=some .local) (q:(x::cns).Nodup)
  (hs:∀v,foldedSetIterable iter X.env v=pure v:=by intro _;rfl):
  PE X (.ListComp k [⟨.Name x w,iter,o,0⟩] a r) (tLC A b tc B):=by
 refine Zjs (ns:=[x]) (gt:=aP 0) b (λJ M H Q h=>?_) hi (λC s H ex pn=>eV q rfl (.inl (lookup_relabel_local hx)) (.inr (lookup_relabel_local hx))) F I hc j u n d e f t c hs;obtain⟨W,w0,turn⟩:=h;refine⟨W,w0,λi m D H E=>(turn i m D H E).imp id λ⟨g,l,st⟩=>⟨g,l,λz K y L hv=>?_⟩⟩;obtain⟨v,rfl⟩:=List.length_eq_one_iff.mp hv;exact⟨[some z],rfl,⟨rfl,rfl⟩,st z K y⟩
theorem GK{P:AM}{w:AO}{H:Hp}{h:Heap}{a:AI}{o:HO}(x:gq P w H h a o):∃ob,h.get? a=some ob:=by
 induction o with
 | lst c=>obtain⟨_,_,_,_,e⟩:=x;exact⟨_,e⟩
 | tup c=>obtain⟨_,_,_,ob,e,_⟩:=x;exact⟨ob,e⟩
 | dK b=>obtain⟨_,_,_,_,ob,_,_,e,_⟩:=x;exact⟨ob,e⟩
 | dT b=>obtain⟨_,_,_,_,ob,_,_,e,_⟩:=x;exact⟨ob,e⟩
 | set S n=>obtain⟨ob,_,_,_,e,_⟩:=x;exact⟨ob,e⟩
 | ins C d fs=>obtain⟨_,_,_,e,_⟩:=x;exact⟨_,e⟩
 | own y=>exact x
 | xd fs=>obtain⟨_,⟨ob,_,_,e,_⟩,_⟩:=x;exact⟨ob,e⟩
 | rng lo hi=>obtain⟨_,_,_,e⟩:=x;exact⟨_,e⟩
 | oX ob u j=>exact⟨_,x.1⟩
 | LK g=>exact⟨_,x⟩
 | met f y=>exact⟨_,x⟩
 | ext i=>obtain⟨_,e,_⟩:=x;exact e
theorem Wi{P:AM}{w:AO}{fs:AF}{g c:Hp}{h0 h1 h2:Heap}(u:Un fs [] g c h0 h1)(ok:yJ P w c h1)(k:∀b∈fs,c b=none)
  (kp:∀b o,h1.get? b=some o->((∃v,h0.get? b=some v)\/∃v,c b=some v)->b∉fs->h2.get? b=some o) (sl:∀b o,h1.get? b=some o->b∈fs->∃z,h2.get? b=some { o with slots:=z }):
  Un fs [] g c h0 h2/\yJ P w c h2:=by
 refine⟨⟨λb o e n hb hx=>kp b o (u.keep b o e n hb hx) (.inl ⟨o,e⟩) hb,λb o e n hb hx=>?_,u.free,λb o e hx=>?_,u.tups,u.Ho,u.Kl⟩,λa o e=>?_⟩
 ·obtain⟨z,d⟩:=u.slot b o e n hb hx;obtain⟨j,f⟩:=sl b _ d hb;exact⟨j,f⟩
 ·obtain⟨h,d⟩:=u.there b o e hx
  by_cases hb:b∈fs
  ·obtain⟨z,f⟩:=sl b _ d hb;exact⟨_,f⟩
  ·exact⟨h,kp b h d (.inl ⟨o,e⟩) hb⟩
 ·refine(ok a o e).stay (λb v hb q=>?_) (λ_ q=>q) λ_ _ q=>q;have hs:∃v,c b=some v:=by
   rcases hb with z | z
   ·exact⟨o,by rw[z];exact e⟩
   ·exact⟨_,z⟩
  refine kp b v q (.inr hs) λz=>?_;obtain⟨l,i⟩:=hs;rw[k b z]at i;cases i
def Bt(P:AM)(w:AO):Ze:=λouter H s E e s'=>
 ∃(c:AI) (a a0:AJ) (B:Heap) (H':Hp),e=.ref c/\s'.os=s.os/\AllBare s'.gens/\Un (frs outer) [] H H' s.heap s'.heap/\yJ P w H' s'.heap/\Heap.FlyingW B outer c a a0 s'.heap/\
  (∀b o,s'.heap.get? b=some o->((∃v,s.heap.get? b=some v)\/∃v,H' b=some v)->b∉frs outer->B.get? b=some o)/\E a none H'
theorem dG{P:AM}{w:AO}{X:Cx}:Passes (Bt P w) X E0:=λ_ _ _ _ _ _ _ h=>by
 obtain⟨_,_,_,_,_,_,_,_,_,_,_,_,z⟩:=h;exact z.elim
section
variable {P:AM}{w:AO}{K:aC}{mg:As}{base:Heap}{N:AH}{qual:Str}{scope:Scope}{f:AI}{cd:AJ}{A:Around}{outer:List Env}{s:AK}{H:Hp}{E:XK}
theorem Dp:Passes (Bt P w) (yh (Bt P w) P w K mg base N qual scope f cd A outer s H E) E:=by
 intro g D F u e i I h;obtain⟨x,l,a0,B,c,rfl,os,bare,un,ok,fl,r,C⟩:=h;have J:Inv (yh (Bt P w) P w K mg base N qual scope f cd A outer s H E) g D c i:=I.call' os un ok bare (λb z=>nomatch z);have t:∀b o,s.heap.get? b=some o->b≠(envOfC qual scope s.heap.objs.size f cd).locals:=λb o e=>Nat.ne_of_lt b7;have k:∀b,((∃v,s.heap.get? b=some v)\/∃v,c b=some v)->b∉frs outer->b∉frs (envOfC qual scope s.heap.objs.size f cd::outer):=λb hb hn hm=>by
  rcases List.mem_cons.mp (J.Gr b hm)with z | z
  ·rcases hb with ⟨v,e⟩ | ⟨v,e⟩
   ·exact t b v e z
   ·rw[z]at e;have:=J.free;rw[e]at this;cases this
  ·exact hn z
 have m:∀b,((∃v,s.heap.get? b=some v)\/∃v,c b=some v)->(∃v,u.heap.get? b=some v)\/∃v,c b=some v:=λb hb=>by
  rcases hb with ⟨v,e⟩ | hb
  ·exact .inl (I.base.there b v e ar)
  ·exact .inr hb
 refine wpAny_leaves_onW I.ok.frames rfl fl λy a sm=>?_;have j:∀b o,i.heap.get? b=some o->b∈frs outer->∀n,o.data≠.fields n:=λb o e hb=>by
  obtain⟨_,L,d,hd⟩:=J.ur.mem hb;rw[e]at d;cases d;exact hd
 have inB:∀b o,i.heap.get? b=some o->((∃v,s.heap.get? b=some v)\/∃v,c b=some v)->b∉frs outer->B.get? b=some o:=λb o e hb hn=>r b o e (m b hb) (k b hb hn);have U:=Wi (P:=P) (w:=w) (h2:=y) J.base J.hok (λb hb=>by
   obtain⟨_,o,p,_⟩:=J.ok.ur.mem hb;exact J.base.free b o p (J.ok.frf b hb) ar) (λb o e hb hn=>a.1 _ _ (inB b o e hb hn)) λb o e hb=>sm b o e (j b o e hb)
 refine⟨x,l,a0,B,c,rfl,J.os,J.bare,U.1,U.2,a,λb o e hb hn=>?_,C⟩;have there:∃v,i.heap.get? b=some v:=by
  rcases hb with ⟨v,z⟩ | ⟨v,z⟩
  ·exact J.base.there b v z ar
  ·exact GK (J.hok b v z)
 obtain⟨v,z⟩:=there;have q:=inB b v z hb hn;have:=a.1 _ _ q;rw[e]at this;cases this;exact q
theorem W2{pins:At}{σ:L2.St}{c:Hp}{a:AK}{C e:AI}{vs:AC}{h1:Heap}(I:Inv (yh (Bt P w) P w K mg base N qual scope f cd A outer s H E) pins σ c a)
  (hx:Heap.MadeExcOf a.heap h1 e (.ref C) vs) (p:E (.ref C) none c):(yh (Bt P w) P w K mg base N qual scope f cd A outer s H E).xe (.ref e) { a with heap:=h1 }:=by
 have l:∀b o,s.heap.get? b=some o->b≠(envOfC qual scope s.heap.objs.size f cd).locals:=λb o e=>Nat.ne_of_lt b7;have h:∀b,((∃v,s.heap.get? b=some v)\/∃v,c b=some v)->b∉frs outer->b∉frs (envOfC qual scope s.heap.objs.size f cd::outer):=λb hb hn hm=>by
  rcases List.mem_cons.mp (I.Gr b hm)with z | z
  ·rcases hb with ⟨v,e⟩ | ⟨v,e⟩
   ·exact l b v e z
   ·rw[z]at e;have:=I.free;rw[e]at this;cases this
  ·exact hn z
 have k:a.heap.FunFrames (W.hideAll a.heap (frs (envOfC qual scope s.heap.objs.size f cd::outer))) (envOfC qual scope s.heap.objs.size f cd::outer):=
  W.funFrames_hide I.stack λenv m b hb=>List.mem_filterMap.mpr ⟨env,m,hb⟩
 refine wpAny_leaves_madeW (s:={ a with heap:=h1 }) I.ok.frames rfl (λb o q=>W.of_hideAll _ q) k hx λn t fl _ _ sm=>?_;have inB:∀b o,a.heap.get? b=some o->((∃v,s.heap.get? b=some v)\/∃v,c b=some v)->b∉frs outer->(W.hideAll a.heap (frs (envOfC qual scope s.heap.objs.size f cd::outer))).get? b=some o:=
  λb o e hb hn=>W.hideAll_get _ e (h b hb hn)
 have g:∀b o,a.heap.get? b=some o->b∈frs outer->∀vs,o.data≠.fields vs:=λb o e hb=>by
  obtain⟨_,r,d,hd⟩:=I.ur.mem hb;rw[e]at d;cases d;exact hd
 have U:=Wi (P:=P) (w:=w) (h2:=n) I.base I.hok (λb hb=>by
   obtain⟨_,o,j,_⟩:=I.ok.ur.mem hb;exact I.base.free b o j (I.ok.frf b hb) ar) (λb o e hb hn=>fl.1 _ _ (inB b o e hb hn)) λb o e hb=>sm b o (hx.keeps b o e) (g b o e hb)
 refine⟨e,.ref C,.ref t,_,c,rfl,I.os,I.bare,U.1,U.2,fl,λb o q hb hn=>?_,p⟩;have there:∃v,a.heap.get? b=some v:=by
  rcases hb with ⟨v,z⟩ | ⟨v,z⟩
  ·exact I.base.there b v z ar
  ·exact GK (I.hok b v z)
 obtain⟨v,z⟩:=there;have i:=inB b v z hb hn;have:=fl.1 _ _ i;rw[q]at this;cases this;exact i
end
abbrev Zz6(K:aC)(C:AI):Prop:=W.excIn K C [.type "ValueError",.type "Exception",.type "BaseException",.type "object"] "ValueError.__new__"=true
theorem Zoz{K:aC}{h:Heap}{C:AI}{o:AC}{p:String}(X:K.In h)(q:W.excIn K C o p=true):
  ∃tl N nm y bs hd sn sub ab col dd c f e b d mN,h.get? C=some (excClassObj nm y C N bs tl hd sn sub ab col dd c f e b d p)/\h.Ns N mN/\mN "__init__"=none/\OwnTail h o tl:=by
 unfold W.excIn at q;split at q
 ·rename_i dd l a g
  split at q
  ·rename_i E tl c f e b n2 d r m
   simp only[Bool.and_eq_true,beq_iff_eq,Bool.not_eq_true']at q;obtain⟨⟨⟨⟨⟨u,B⟩,e3⟩,t⟩,k⟩,n⟩:=q;subst u B;obtain⟨c1,c2,c3,c4,x,A,s,v,w,i,z⟩:=l;dsimp only at r e3 k n;subst r e3;have j:a=#[c,f,e,b,some (.builtin n2),d]:=by
    obtain⟨D⟩:=a;simp only at m;rw[m]
   subst j;refine⟨tl,c4,c1,x,c2,A,s,v,w,i,dd,c,f,e,b,d,h.nsMap c4,X _ _ g,?_,W.nsMap_none_of_in X k n,W.tail_of_in X t⟩;exact .of_isNs (W.isNs_of_in X k)
  ·cases q
 ·cases q
section
variable {X:Cx}{x:Str}{C:AI}{np cpos pos:Pos}{e:AN}{es:AG}{ta:TA}{E:XK}
theorem Dj(hc:X.calm=true)(hg:Gl X x)(hm:X.mg x=↑C)(hx:Zz6 X.K C)(t:PA X (e::es) ta)
  (n:∀(pins:At) (σ:L2.St) (H:Hp) (s:AK) (b:AI) (vs:AC) (h1:Heap),Inv X pins σ H s->Heap.MadeExcOf s.heap h1 b (.ref C) vs->E (.ref C) none H->X.xe (.ref b) { s with heap:=h1 })
  (hs:starEach (e::es) X.env=(false,eval e X.env)::starEach es X.env:=by rfl) (f:(backTo cpos eA).any (·.1)=false:=by rfl) (hd:(x == ("__debug__":Str))=false:=by decide):
  PS X (.Raise (some (.Call (.Name x np) (e::es) [] cpos)) none pos) (Gm C E ta):=by
 intro pins s σ H D I h;obtain⟨tl,N,nm,m,bs,c,sn,sub,ab,col,dd,i,p,o,g,k,mN,j,hN,d,T⟩:=Zoz I.ok.mod.kin hx;refine wpAny_Raise_call_subT (C:=C) (nm:=nm) (q:=m) (N:=N) (bs:=bs) (bm:=tl) (hdct:=c) (sn:=sn) (sub:=sub) (ab:=ab) (col:=col) (dd:=dd) (k0:=i) (k1:=p) (k2:=o) (k3:=g) (k5:=k) PySem.F.excBase_ValueError (mN:=mN)
  (T.hasType PySem.F.excBase_ValueError.hasBase) (I.ok.hd hc) ?_ d (fZ I hg hm ⟨rfl,?_⟩ hd)
 ·rw[hs];show(false || (backTo cpos (starEach es X.env)).any (·.1))=false;rw[f];rfl
 ·have q:=t cpos pins s σ H _ I h;rw[hs]at q ⊢;refine Calls.evalArgs_plain (fH q λus l ⟨vs,H1,I1,r,l1,hE1⟩=>⟨rfl,?_,I1.bk _ _ j,hN.keeps I1.bk,T.keeps I1.bk,λh1 b a=>n pins σ H1 l b _ h1 I1 a hE1⟩);rw[<- r.length];exact Nat.le_trans l1 ε
end
def Zge(CX:Ze)(X:Cx)(E:L2.St->XK):Prop:=∀(pins:At) (σ:L2.St) (H:Hp) (s:AK) (e:AJ) (s':AK),Inv X pins σ H s->CX X.stack H s (E σ) e s'->X.xe e s'
section
variable {X:Cx}{CX:Ze}{k:Nat}{f C:AI}{fd:AL}{ps:AH}{sp:Sp}{qj:List V}{ds:AC}{E:L2.St->XK}{x m:Str}{p pos apos:Pos}{e o:AN}{es:AG}{ta:TE}{t:TA}
theorem Zna{pins:At}{σ:L2.St}{H:Hp}{s:AK}{Q:VK}{us:AC}{vs:List V}(F:qe X.prog X.w X.K X.mg X.base CX k f fd ps sp)(hr:Room k X.A)(hb:Binds X.K fd ps ds)(hd:Vals qj ds)(hx:Zge CX X E)
  (I:Inv X pins σ H s) (r:Vals vs us) (h:sp (vs++qj) H Q (E σ)):wpAny ς X.A (call (.ref f) us) de X.xe s:=by
 have a:Vals (vs++qj) (us++ds):=r.append hd;have hl:(us++ds).length=ps.length:=by rw[<- a.length];exact F.len _ _ _ _ h
 refine wpAny_call (codeAny_mono (F.run X.A X.stack s H ⟨us,[]⟩ (us++ds) (vs++qj) Q (E σ) hr I.env0 (hb s us I.qg hl) a h) λr b hq=>?_);cases r with
 | error e=>exact hx pins σ H s e b I hq
 | ok fl=>
  cases fl with
  | ret u=>exact I.after hq
  | next=>exact False.elim hq
  | brk=>exact False.elim hq
  | cont=>exact False.elim hq
theorem Zjv(F:qe X.prog X.w X.K X.mg X.base CX k f fd ps sp)(hr:Room k X.A)(hg:Gl X x)(hm:X.mg x=↑f)(hk:W.keepIn X.K (.ref f)=true)(hb:Binds X.K fd ps ds)(hd:Vals qj ds)(hx:Zge CX X E)
  (i:PA X (e::es) t) (b:(x == ("__debug__":Str))=false:=by decide) (d:starEach (e::es) X.env=(false,eval e X.env)::starEach es X.env:=by rfl) (c:(backTo pos eA).any (·.1)=false:=by rfl):
  PE X (.Call (.Name x p) (e::es) [] pos) (Zc1 sp qj E t):=by
 intro a s g H Q I h;refine wpAny_Call_Name_kw (fZ I hg hm ?_ b);refine W.callWith_K (h₀:=X.base) I.ok.mod.kin hk fe d c;exact Zna F hr hb hd hx I1 r q
end
abbrev cxB(X:Cx)(pn:At)(xe:Ap):Cx:={ X with pn:=pn,xe:=xe }
abbrev Lq(X:Cx)(ea:AJ)(pn:At):Cx:={ X with A:=X.A.mark (some ea),calm:=false,pn:=pn,xe:=λ_ _=>False }
section
variable {X:Cx}{pins:At}{σ:L2.St}{H:Hp}{s:AK}
theorem Zr9(ok:X.Ok)(pn:At)(xe:Ap):(cxB X pn xe).Ok:=
 ⟨ok.mod,ok.kind,ok.glob,ok.blt,ok.above,ok.inj,ok.has,ok.cab,ok.hd,ok.frames,ok.stk,ok.exf,ok.bs,ok.bsz,ok.Z7,ok.Zdq,ok.ur,ok.frf⟩
theorem Zr8(ok:X.Ok)(a:AJ)(pn:At):(Lq X a pn).Ok:=
 ⟨ok.mod,ok.kind,ok.glob,ok.blt,ok.above,ok.inj,ok.has,ok.cab,λz=>fq,ok.frames,ok.stk,ok.exf,ok.bs,ok.bsz,ok.Z7,ok.Zdq,ok.ur,ok.frf⟩
theorem Zqi(I:Inv X pins σ H s)(xe:Ap):Inv (cxB X (X.pn++pins) xe) [] σ H s:=
 ⟨Zr9 I.ok _ _,I.os,I.bare,I.base,I.loc,I.cell,I.free,I.pY,λp hp=>I.pin p (by simpa using hp),I.hok,I.len⟩
theorem Oh{xe:Ap}{pl:At}(ok:X.Ok)(I:Inv (cxB X (X.pn++pins) xe) pl σ H s):Inv X pins σ H s:=
 ⟨ok,I.os,I.bare,I.base,I.loc,I.cell,I.free,I.pY,λp hp=>I.pin p (List.mem_append_left _ hp),I.hok,I.len⟩
theorem lA(I:Inv X pins σ H s)(a:AJ):Inv (Lq X a (X.pn++pins)) [] σ H s:=
 ⟨Zr8 I.ok _ _,I.os,I.bare,I.base,I.loc,I.cell,I.free,I.pY,λp hp=>I.pin p (by simpa using hp),I.hok,I.len⟩
theorem Xh{a:AJ}{pl:At}(ok:X.Ok)(I:Inv (Lq X a (X.pn++pins)) pl σ H s):Inv X pins σ H s:=
 ⟨ok,I.os,I.bare,I.base,I.loc,I.cell,I.free,I.pY,λp hp=>I.pin p (List.mem_append_left _ hp),I.hok,I.len⟩
theorem Zqq{xe:Ap}{D:Ends}{f:Flow}(ok:X.Ok)(h:SP (cxB X (X.pn++pins) xe) [] D f s):SP X pins D f s:=by
 cases f with
 | next=>obtain⟨a,b,I,q⟩:=h;exact⟨a,b,Oh ok I,q⟩
 | brk=>obtain⟨a,b,I,q⟩:=h;exact⟨a,b,Oh ok I,q⟩
 | cont=>obtain⟨a,b,I,q⟩:=h;exact⟨a,b,Oh ok I,q⟩
 | ret u=>obtain⟨v,a,b,I,r,q⟩:=h;exact⟨v,a,b,Oh ok I,r,q⟩
theorem Wt{c:AJ}{D:Ends}{f:Flow}(ok:X.Ok)(h:SP (Lq X c (X.pn++pins)) [] D f s):SP X pins D f s:=by
 cases f with
 | next=>obtain⟨a,b,I,q⟩:=h;exact⟨a,b,Xh ok I,q⟩
 | brk=>obtain⟨a,b,I,q⟩:=h;exact⟨a,b,Xh ok I,q⟩
 | cont=>obtain⟨a,b,I,q⟩:=h;exact⟨a,b,Xh ok I,q⟩
 | ret u=>obtain⟨v,a,b,I,r,q⟩:=h;exact⟨v,a,b,Xh ok I,r,q⟩
theorem flown{k:AI}{g a0:AJ}{B:Heap}{d:Hp}{a:AK}{c:Heap}(I:Inv X pins σ H s)(os:a.os=s.os)(bare:AllBare a.gens)(un:Un (frs X.stack) [] H d s.heap a.heap)(ok:yJ X.prog X.w d a.heap)
  (fl:Heap.FlyingW B X.stack k g a0 a.heap) (i:∀b o,a.heap.get? b=some o->((∃v,s.heap.get? b=some v)\/∃v,d b=some v)->b∉frs X.stack->B.get? b=some o)
  (st:B.StaysIn c) (sm:a.heap.UpToSlots c):Inv X pins σ d { a with heap:=c }:=by
 have j:∀b∈frs X.stack,d b=none:=λb hb=>by
  obtain⟨_,o,h,_⟩:=I.stack.mem hb;exact un.free b o h (I.Wo b hb) ar
 have U:=Wi (P:=X.prog) (w:=X.w) (h2:=c) un ok j (λb o e hb hn=>st _ _ (i b o e hb hn)) λb o e hb=>by
  obtain⟨_,l,f,hd⟩:=fl.2.2.1.mem hb;rw[e]at f;cases f;exact sm b o e hd
 exact I.call' (s':={ a with heap:=c }) (ch:=[]) os U.1 U.2 bare (λb z=>nomatch z)
end
section
variable {X:Cx}{x:Str}{C:AI}{np pos hpos:Pos}{body suite:List Stmt}{b₀:Stmt}{Mt:AJ->Prop}{tb:(L2.St->XK)->TS}{th:TS}
end
section
variable {P:AM}{w:AO}{K:aC}{mg:As}{base:Heap}{x qual:Str}{st:Stmt}{f:AI}{fd:AL}{N ps:AH}{k:Nat}{sp:Sp}
theorem fok(F:Fun K x qual st f fd)(S:aM N ps eo)(len:∀vs H Q E,sp vs H Q E->vs.length=ps.length)
  (b:∀(a:AJ) (A:Around) (outer:List Env) (s:AK) (H:Hp) (vs:List V) (Q:VK) (E:XK),Room k eL->sp vs H Q E->
   ∃t,QW (yh (Bt P w) P w K mg base N qual eo f a A outer s H E).nox (eX st) t/\t { nx:=λ_ H'=>Q .non H',rt:=Q } (start N vs) H):qe P w K mg base (Bt P w) dC f fd ps sp:=by
 obtain⟨oc,od,kV,e,j,i,a,ct,g,rfl,lk,c⟩:=F.ex;refine Zfu lk c S len λA outer s H vs Q E hr d=>?_;obtain⟨t,h,q⟩:=b a A outer s H vs Q E hr d;exact⟨t,h.nox,q⟩
theorem Zx1(F:Fun K x qual st f fd)(S:aM N ps eo)(len:∀vs H Q E,sp vs H Q E->vs.length=ps.length)
  (b:∀(a:AJ) (A:Around) (outer:List Env) (s:AK) (H:Hp) (vs:List V) (Q:VK) (E:XK),Room k eL->sp vs H Q E->
   ∃t,QW (yh (Bt P w) P w K mg base N qual eo f a A outer s H E) (eX st) t/\t { nx:=λ_ H'=>Q .non H',rt:=Q } (start N vs) H):qe P w K mg base (Bt P w) dC f fd ps sp:=by
 obtain⟨oc,od,kV,e,i,h,a,ct,g,rfl,lk,c⟩:=F.ex;exact Zfu lk c S len λA outer s H vs Q E hr d=>b a A outer s H vs Q E hr d
theorem Zx3(F:Zmw K x qual st f fd)(S:aM N ps eo)(len:∀vs H Q E,sp vs H Q E->vs.length=ps.length)
  (b:∀(a:AJ) (A:Around) (outer:List Env) (s:AK) (H:Hp) (vs:List V) (Q:VK) (E:XK),Room k eL->sp vs H Q E->
   ∃t,QW (yh (Bt P w) P w K mg base N qual eo f a A outer s H E).nox (eX st) t/\t { nx:=λ_ H'=>Q .non H',rt:=Q } (start N vs) H):qe P w K mg base (Bt P w) dC f fd ps sp:=by
 obtain⟨oc,od,dV,kV,e,j,i,a,ct,g,rfl,lk,c⟩:=F.ex;refine Zfu lk c S len λA outer s H vs Q E hr d=>?_;obtain⟨t,h,q⟩:=b a A outer s H vs Q E hr d;exact⟨t,h.nox,q⟩
theorem Zut(F:Zmw K x qual st f fd)(S:aM N ps eo)(len:∀vs H Q E,sp vs H Q E->vs.length=ps.length)
  (b:∀(a:AJ) (A:Around) (outer:List Env) (s:AK) (H:Hp) (vs:List V) (Q:VK) (E:XK),Room k eL->sp vs H Q E->
   ∃t,QW (yh (Bt P w) P w K mg base N qual eo f a A outer s H E) (eX st) t/\t { nx:=λ_ H'=>Q .non H',rt:=Q } (start N vs) H):qe P w K mg base (Bt P w) dC f fd ps sp:=by
 obtain⟨oc,od,dV,kV,e,i,h,a,ct,g,rfl,lk,c⟩:=F.ex;exact Zfu lk c S len λA outer s H vs Q E hr d=>b a A outer s H vs Q E hr d
end
structure Zzf(K:aC)(C:AI):Prop where
 ga:W.findIn K (.ref C) "__getattribute__"=some (some (.builtin "BaseException.__getattribute__"))
 no:W.findIn K (.ref C) "__getattr__"=some none
 cl:W.findIn K (.ref C) "__class__"=some (some (.builtin "object.__class__"))
 so:W.mroIn K C (.type "object")=some true
 sb:W.mroIn K C (.type "BaseException")=some true
 is:W.hasDictIn K C=true
section
variable {prog:AM}{w:AO}{A:Around}{E:Ap}{h:Heap}{g:Array GenState}{d:Drawn}{t:Nat}{os:OsState}{a:AI}{o:Obj}{C:AI}{K:aC}
end
section
variable {X:Cx}
theorem mU:Gk X (.type "list") (yl X.K):=by
 intro a s b H d us Q I r h;obtain⟨p,c,rfl,hs,q⟩:=h;exact FW a s b H [.ref p] us Q I r ⟨p,c,rfl,.inl hs,q⟩
theorem Zi4{xs c:List V}{us f:AC}(g:Vals xs us)(i:Vals c f)(o:xs.all wG=true)(q:c.all wG=true)(hl:xs.length=c.length):
  (∀(A:Around) (s:AK) (j:Nat) (h1:j<us.toArray.size) (h2:j<f.toArray.size),SeqAt.EqAt A s us.toArray[j] f.toArray[j] (match xs[j]?,c[j]? with | some a,some b=>eqV a b | _,_=>false))/\
  (List.range us.toArray.size).all (λj=>match xs[j]?,c[j]? with | some a,some b=>eqV a b | _,_=>false)=eqL xs c:=by
 refine⟨λA s j h1 h2=>?_,?_⟩
 ·rw[List.size_toArray]at h1 h2;have x:=g.length;have w:=i.length;have m:xs[j]? =some xs[j]:=bD δ;have k:c[j]? =some c[j]:=bD δ;obtain⟨u,l,t⟩:=g.get m;obtain⟨v,n,r⟩:=i.get k;rw[bD h1]at l;rw[bD h2]at n;cases l;cases n;rw[m,k];exact Bb t r (List.all_eq_true.mp o _ (List.getElem_mem δ)) (List.all_eq_true.mp q _ (List.getElem_mem δ))
 ·rw[List.size_toArray,<- g.length];unfold eqL;rw[beq_iff_eq.mpr hl,Bool.true_and,Bool.eq_iff_iff,List.all_eq_true,List.all_eq_true];constructor
  ·intro h p hp;obtain⟨j,d,e⟩:=List.getElem_of_mem hp;rw[List.length_zip]at d;have:=h j (List.mem_range.mpr δ);rw[bD (show j<xs.length by omega),bD (show j<c.length by omega)]at this;rw[List.getElem_zip]at e;rw[<- e];exact this
  ·intro h j d;have d:=List.mem_range.mp d;rw[bD (show j<xs.length by omega),bD (show j<c.length by omega)];have hz:j<(xs.zip c).length:=by rw[List.length_zip];omega
   have:=h _ (List.getElem_mem hz);rw[List.getElem_zip]at this;exact this
theorem Zp2{xs a:List V}(h:xs.length≠a.length):eqL xs a=false:=by
 unfold eqL;rw[show(xs.length == a.length)=false by simpa using h,Bool.false_and]
end
theorem Zkf:fastBuiltinMro "NoneType"=some [.type "NoneType",.type "object"]:=γ
section
variable {K:aC}{A:Around}{a C:AI}{o:Obj}
theorem Zsu{M:Model}{E:Ap}{s:AK}{Q:Unit->AK->Prop}(e:W.Looks M s.heap (isInstance (.ref a) (.type "object")) true)(hq:Q () s):wpAny M A (checkBuiltinCall "object.__eq__" ⟨[.ref a,.none],[]⟩) Q E s:=by
 have d:=PySem.F.cmpArgs_eq (.ref a) .none;simp only[checkBuiltinCall,PySem.F.cmpKind_eq,PySem.F.cmpSplit_eq];refine wpAny_bind (e.here ?_);simp only[Bool.not_true,Bool.false_eq_true,if_false];cases c:Manifest.signature? "object.__eq__" with
 | none=>exact wpAny_pure hq
 | some b=>
  simp only[argsOk,c]at d;have h2:Bind.checkArgs "object.__eq__" b ⟨[.ref a,.none],[]⟩=pure ():=d;show wpAny M A (Bind.checkArgs "object.__eq__" b ⟨[.ref a,.none],[]⟩) Q E _;rw[h2];exact wpAny_pure hq
theorem Zp1{prog:AM}{w:AO}{E:Ap}{s:AK}{Q:Ap}(b:W.Looks ai s.heap (isInstance (.ref a) (.type "object")) true)(hq:Q .notImplemented s):
  wpAny ai A (call (.builtin "object.__eq__") [.ref a,.none]) Q E s:=by
 refine wpAny_call (codeAny_call_builtin PySem.F.cmp_object.eq.plain PySem.F.cmpEntry_eq (Zsu b ?_));obtain⟨h,g,d,t,os⟩:=s;unfold Builtin.«object.__eq__»
 repeat (first | with_reducible refine wpAny_bind (m:=isSame (.ref a) .none) (wpAny_pure ?_) | wp_step)
 exact hq
theorem Zqg{prog:AM}{w:AO}{E:Ap}{s:AK}{Q:AB->AK->Prop}(X:K.In s.heap)(hx:s.heap.get? a=some o)(hc:o.cls=.ref C)(b:EqD K C)(hq:Q none s):
  wpAny ai A (tryCompare (.ref a) "__eq__" .none) Q E s:=by
 have LT:W.Looks ai s.heap (typeOf (.ref a)) (.ref C):=hc ▸ (W.Looks.ld hx).andThen .now;have d:W.Looks ai s.heap (isInstance (.ref a) (.type "object")) true:=LT.andThen (W.looks_mroIn X b.ob);have c:W.Looks ai s.heap (specialOf (.ref a) "__eq__") (some (.builtin "object.__eq__")):=LT.andThen (W.looks_findIn X b.eq);simp only[tryCompare];refine wpAny_bind ?_;simp only[callSpecialIfBound?,bindSpecialIfBound?];refine wpAny_holding (wpAny_bind (wpAny_bind (c.here ?_)));simp only[PySem.F.cmp_object.eq.bind];have fin:wpAny ai A (call (.builtin "object.__eq__") ([.ref a]++[.none]) >>= λv=>pure (some v)) (λr e=>wpAny ai A (match r with | some .notImplemented | none=>pure none | some v=>pure (some v)) Q E e) E s:=
  wpAny_bind (Zp1 d (wpAny_pure (wpAny_pure hq)))
 refine wpAny_bind (wpAny_askSetting (wpAny_ite ?_));split
 ·exact wpAny_bind (wpAny_pure (wpAny_pure fin))
 ·exact wpAny_tryCatch (wpAny_bind (wpAny_pure (wpAny_pure fin)))
theorem Znb{s:AK}(X:K.In s.heap)(hx:s.heap.get? a=some o)(hc:o.cls=.ref C)(c:EqD K C)(hu:A.units<cLine):SeqAt.RcAt A s (.ref a) .none false:=λprog w E Q h=>by
 have LT:W.Looks ai s.heap (typeOf (.ref a)) (.ref C):=hc ▸ (W.Looks.ld hx).andThen .now;have hi:cmpInfo CmpOp.Eq=("==",("__eq__":Str),("__eq__":Str)):=rfl;have d:oneThing? .Eq (.ref a) .none=none:=rfl;simp only[richCompare,hi,d]
 try with_reducible refine wpAny_holding ?_
 refine wpAny_bind (wpAny_cRoomFor_or (.inr hu) ?_);refine wpAny_bind (LT.here (wpAny_bind (m:=typeOf .none) (wpAny_pure ?_)));have b:(Value.ref C != Value.type "NoneType")=true:=ζ
 simp only[b,if_true];have hs:isSubtype (.type "NoneType") (.ref C)=pure false:=by
  rw[isSubtype_type,Zkf];rfl
 refine wpAny_bind (wpAny_of_eq hs ?_);simp only[Bool.false_eq_true,if_false,Bool.not_false,if_true];refine wpAny_bind (m:=tryCompare (.ref a) _ .none) (Zqg X hx hc c ?_);refine wpAny_bind (m:=tryCompare .none _ (.ref a)) (wpAny_tryCompare_declines (T:="NoneType") rfl PySem.F.slot_NoneType_eq_refl (call_gives PySem.F.slot_NoneType_eq_refl rfl PySem.F.entry_NoneType_eq (PySem.F.args_NoneType_eq_2 _ _) (SeqAt.NoneType___eq___none_ref_0 a) ⟨rfl,?_⟩));exact wpAny_bind (wpAny_rule (wpAny_bind (wpAny_of_eq (rfl:isSame (.ref a) .none=pure false) (wpAny_pure h))))
theorem Zp0{s:AK}(X:K.In s.heap)(hx:s.heap.get? a=some o)(hc:o.cls=.ref C)(c:EqD K C)(hu:A.units<cLine):SeqAt.EqAt A s (.ref a) .none false:=λprog w E Q h=>by
 unfold eqBool;refine wpAny_holding ?_;refine wpAny_ite_split (λb=>absurd (eq_of_beq b) nofun) Δ;exact wpAny_bind (Znb X hx hc c hu prog w E _ (wpAny_truthy_bool h))
end
section
variable {X:Cx}
def xR(u:AJ):Bool:=match u with
 | .none=>true
 | _=>false
theorem Z6{H:Hp}{y:V}{u:AJ}(r:RelV y u)(h:y=.non\/∃a C dx fs,y=.ref a/\H a=some (.ins C dx fs)/\K7 X.K C/\EqD X.K C):xR u=decide (y=.non):=by
 rcases h with rfl | ⟨a,_,_,_,rfl,_⟩
 ·obtain rfl:u=Value.none:=r;rfl
 ·obtain rfl:u=Value.ref a:=r;rfl
theorem Zki{pins:At}{σ:L2.St}{H:Hp}{s:AK}{A:Around}{y:V}{u:AJ}(I:Inv X pins σ H s)(hu:A.units<cLine)(r:RelV y u)(h:y=.non\/∃a C dx fs,y=.ref a/\H a=some (.ins C dx fs)/\K7 X.K C/\EqD X.K C):SeqAt.EqAt A s u .none (xR u):=by
 rcases h with rfl | ⟨a,C,dx,fs,rfl,c,hc,b⟩
 ·obtain rfl:u=Value.none:=r;exact SeqAt.EqAt.same .none
 ·obtain rfl:u=Value.ref a:=r;obtain⟨_,_,_,e,_⟩:=(show gq X.prog X.w H s.heap a (.ins C dx fs)from I.hok a _ c);exact Zp0 I.qg e rfl b hu
theorem Zkh{H:Hp}{xs:List V}{us:AC}(v:Vals xs us):OkN X.K H xs->us.any xR=decide (V.non∈xs):=by
 induction v with
 | nil=>
  intro _;rfl
 | cons r t a=>
  intro h;rw[List.any_cons,a λz hz=>h z (List.mem_cons_of_mem _ hz),Z6 r (h _ List.mem_cons_self),Bool.eq_iff_iff];simp only[Bool.or_eq_true,decide_eq_true_eq,List.mem_cons];constructor
  ·rintro(z | z)
   ·exact .inl z.symm
   ·exact .inr z
  ·rintro(z | z)
   ·exact .inl z.symm
   ·exact .inr z
theorem Z4{H:Hp}{pins:At}{σ:L2.St}{s:AK}{A:Around}{xs:List V}{us:AC}(I:Inv X pins σ H s)(hu:A.units<cLine)(r:Vals xs us)(h:OkN X.K H xs):∀u∈us,SeqAt.EqAt A s u .none (xR u):=by
 intro u hm;obtain⟨i,hi,rfl⟩:=List.getElem_of_mem hm;have hl:=r.length;have hx:xs[i]? =some xs[i]:=bD δ;obtain⟨b,e,a⟩:=r.get hx;rw[bD hi]at e;cases e;exact Zki I hu a (h _ (List.getElem_mem δ))
theorem Zh5(hu:X.A.units+1<cLine):wU X (compareOp .NotIn) (Zqw X.K true):=by
 intro a s f H x y v u Q I e b h;obtain⟨p,g,rfl,rfl,hs,hk,q⟩:=h;obtain rfl:v=Value.none:=e;cases b;obtain⟨us,r,c,_⟩:=I.list hs;refine SeqAt.notIn_listAt xR c.isList (λw d=>Z4 I (by show X.A.units+1<cLine;exact hu) r hk w (by simpa using d)) ⟨.bl _,H,I,rfl,?_⟩;rw[show us.toArray.any xR=us.any xR by simp,Zkh r hk];exact q
theorem Z5{H:Hp}{xs:List V}{us:AC}(r:Vals xs us)(h:OkN X.K H xs)(j:Nat)(b:j<us.length)(a:j<xs.length):xR us[j]=decide (xs[j]=V.non):=by
 obtain⟨d,e,c⟩:=r.get (bD a);rw[bD b]at e;cases e;exact Z6 c (h _ (List.getElem_mem a))
theorem Zha(hu:X.A.units+1<cLine):MtR X "list.index" (Zf4 X.K):=by
 intro k s z H x xs v us Q I o rs h;obtain⟨p,a,rfl,rfl,hs,hk,hn,q⟩:=h;obtain rfl:v=Value.ref p:=o;obtain⟨u,rfl,t⟩:=Vals.one rs;obtain rfl:u=Value.none:=t;obtain⟨c,r,m,hz⟩:=I.list hs;obtain⟨⟨w,dd,i,sl⟩,g,hc,n,hd⟩:=m.isList;simp only at hc hd;subst hc hd;have hl:=r.length;have b:a.idxOf V.non<a.length:=List.idxOf_lt_length_iff.mpr hn;have l:a.length<2 ^ 62:=Nat.lt_of_le_of_lt hz ε;refine call_meets PySem.F.slot_list_index ⟨_,g,rfl⟩ PySem.F.entry_list_index (PySem.F.args_list_index_2 _ _)
  (SeqAt.list_indexAt p c.toArray n dd sl .none xR (a.idxOf V.non) (by simpa[hl]using b) δ ?_ ?_) ⟨g,λy hy=>Z4 I (by show X.A.units+1<cLine;exact hu) r hk y (by simpa using hy),⟨.int _,H,I.tok _,⟨_,rfl⟩,q⟩⟩
 ·show xR c[a.idxOf V.non]=true;rw[Z5 r hk _ δ b,decide_eq_true_eq];exact List.getElem_idxOf b
 ·intro j d f;show xR c[j]=false;rw[Z5 r hk j (by simpa using d) δ,decide_eq_false_iff_not];intro e;have:=List.not_of_lt_findIdx (p:=(· == V.non)) (xs:=a) f;simp[e]at this
theorem Zr3(hu:X.A.units+1<cLine):wU X (compareOp .NotEq) (Zqx X.K true):=by
 intro g s t H x y v u Q I m i h;obtain⟨p,z,o,k,rfl,rfl,hx,hy,f,q⟩:=h;cases m;cases i;obtain⟨us,d,a,_⟩:=I.list hx;obtain⟨r,e,b,_⟩:=I.list hy;have c:X.A.units<cLine:=δ
 by_cases hl:o.length=k.length
 ·obtain⟨l,n⟩:=Zi4 d e (f hl).1 (f hl).2 hl;refine SeqAt.RcNeAt.lists a.isList b.isList (by rw[List.size_toArray,List.size_toArray,<- d.length,<- e.length];exact hl) c (λj h1 h2=>l _ _ j h1 h2) X.prog X.w X.xe _ ?_;rw[n];exact⟨.bl _,H,I,rfl,q⟩
 ·refine SeqAt.RcNeAt.lists_lengths a.isList b.isList ?_ c X.prog X.w X.xe _ ?_
  ·rw[List.size_toArray,List.size_toArray,<- d.length,<- e.length];simpa using hl
  ·refine⟨.bl _,H,I,rfl,?_⟩;have:=q;rw[Zp2 hl]at this;exact this
end
end G
namespace G
open PySem L2
def Gp(C:AI):TE:=λ_ H Q=>∀x dx,H x=none->H dx=none->dx≠x->Q (.ref x) (upd (upd H dx (.own x)) x (.ins C dx []))
theorem Zok{C:AI}{σ:St}{H:Hp}{Q:VK}(h:∀x dx,H x=none->H dx=none->dx≠x->Q (.ref x) (upd (upd H dx (.own x)) x (.ins C dx []))):Gp C σ H Q:=h
def Gn(t u:TE):TE:=λσ H Q=>t σ H Q\/u σ H Q
theorem Vs{t u:TE}{σ:St}{H:Hp}{Q:VK}(h:t σ H Q):Gn t u σ H Q:=.inl h
theorem Eu{t u:TE}{σ:St}{H:Hp}{Q:VK}(h:u σ H Q):Gn t u σ H Q:=.inr h
end G
namespace G
open PySem L2 PySem.Spec PyProof.Rows
section
variable {X:Cx}
theorem qH{e:AN}{t u:TE}(h1:PE X e t)(h2:PE X e u):PE X e (Gn t u):=by
 intro a s b H Q I h;rcases h with h | h
 ·exact h1 a s b H Q I h
 ·exact h2 a s b H Q I h
structure Mk0(K:aC)(C:AI):Prop where
 makes:W.makesIn K C=true
 init:W.findIn K (.ref C) "__init__"=some eS
 kp:W.keepIn K (.ref C)=true
theorem Zcg{C:AI}{pins:At}{σ:L2.St}{H:Hp}{s:AK}{Q:VK}(M:Mk0 X.K C)(I:Inv X pins σ H s)
  (h:∀x dx,H x=none->H dx=none->dx≠x->Q (.ref x) (upd (upd H dx (.own x)) x (.ins C dx []))):wpAny ς X.A (call (.ref C) []) de X.xe s:=by
 have hq:=h ae s.heap.objs.size (I.hok.fresh (Nat.le_succ _)) (I.hok.fresh υ) (Nat.ne_of_lt (Nat.lt_succ_self _));have a:=Inv.made (C:=C) I;have Y:=W.makes_of (M:=model X.prog X.w) I.qg M.makes;refine wpAny_call (Zhc I.qg M.makes M.init (λself=>W.Looks.of_pure (W.oi_bind self)) ?_);have c:((s.heap.push W.emptyDict).push cb).get? (s.heap.objs.size+1)=some cb:=by
  have:=Heap.get?_push_size (s.heap.push W.emptyDict) (o:=W.instObj C s.heap.objs.size) rfl;rw[Heap.size_push]at this;exact this
 have t1:W.Looks ς ((s.heap.push W.emptyDict).push cb) (typeOf (.ref ae)) (.ref C):=(W.Looks.ld c).andThen .now;have t2:W.Looks ς ((s.heap.push W.emptyDict).push cb) (isInstance (.ref ae) (.type "object")) true:=t1.andThen (Y.top.keeps λb o e=>Heap.get?_push_of_some _ (Heap.get?_push_of_some _ e));refine codeAny_call_builtin W.oi_plain W.entry_oi (@W.check_slot ς _ _ _ "object.__init__" "object" "__init__" (.ref ae) [] [] _ W.oi_kind W.oi_split t2 (W.oi_args (.ref ae)) ?_);rw[W.oi_run];exact wpAny_pure (And.intro rfl ⟨V.ref ae,_,a,rfl,hq⟩)
theorem GD{C:AI}{x:Str}{p a:Pos}(M:Mk0 X.K C)(hg:Gl X x)(hm:X.mg x=↑C)(b:(x == ("__debug__":Str))=false:=by decide):PE X (.Call (.Name x p) [] [] a) (Gp C):=by
 intro c s d H Q I h;refine wpAny_Call_Name_kw (fZ I hg hm ?_ b);exact W.callWith_K0 I.qg M.kp (Zcg M I h)
structure Zze(K:aC)(C:AI):Prop where
 pg:W.plainGet K C "__class__"=true
 hd:W.hasDictIn K C=true
 cl:W.findIn K (.ref C) "__class__"=some (some (.builtin "object.__class__"))
 sp:W.specialIn K (.builtin "object.__class__") "__get__"=some (some (.builtin "getset_descriptor.__get__"))
 tk:W.takesIn K (.builtin "object.__class__")=some true
 so:W.mroIn K C (.type "object")=some true
end
end G
namespace G
open PySem L2
end G
namespace G
open PySem L2 PySem.Spec PyProof.Rows
def Zbl(w:AO):List DictEntry->List (Str×AI)->Prop
 | [],[]=>True
 | e::a,p::t=>e.hash=hashStr w p.1/\(∃tk,e.key=.str p.1 tk)/\e.val=.ref p.2/\Zbl w a t
 | _,_=>False
def Tab(K:aC)(w:AO)(mg:As)(nm:Str)(LK:List (Str×AI)):Prop:=
 ∃dd o a b,mg nm=↑dd/\K.lookup dd=some o/\o.ExactDict/\o.data=.dict a b/\Zbl w a.toList LK
theorem Zbl.keys{prog:AM}{w:AO}:∀{a:List DictEntry}{LK:List (Str×AI)},Zbl w a LK->∀e∈a,∃k,(strKind prog w).is k e.key=true/\e.hash=(strKind prog w).hash k
 | [],_,_=>λe b=>absurd b List.not_mem_nil
 | e::a,[],h=>h.elim
 | e::a,p::t,h=>λx hx=>by
  obtain⟨h1,⟨tk,h2⟩,_,h4⟩:=h;rcases List.mem_cons.mp hx with rfl | hx
  ·refine⟨p.1,?_,h1⟩;rw[h2];show Value.isStrOf p.1 (.str p.1 tk)=true;simp[Value.isStrOf]
  ·exact Zbl.keys h4 x hx
theorem Zbl.find{w:AO}:∀{c:List DictEntry}{LK:List (Str×AI)}{k:Str}{f:AI},Zbl w c LK->LK.lookup k=some f->(c.find? λe=>Value.isStrOf k e.key).map (·.val)=↑f
 | [],[],_,_,_,h=>by cases h
 | [],_::_,_,_,h,_=>h.elim
 | _::_,[],_,_,h,_=>h.elim
 | e::c,p::t,k,f,h,hl=>by
  obtain⟨_,⟨tk,h2⟩,i,h4⟩:=h;rw[List.find?_cons,h2]
  by_cases hk:k=p.1
  ·subst hk;have d:Value.isStrOf p.1 (.str p.1 tk)=true:=by simp[Value.isStrOf]
   rw[d];have g:List.lookup p.1 (p::t)=some p.2:=by
    obtain⟨a,b⟩:=p;simp[List.lookup]
   rw[g]at hl;cases hl;show some e.val=_;rw[i]
  ·have d:Value.isStrOf k (.str p.1 tk)=false:=by
    simp only[Value.isStrOf,beq_eq_false_iff_ne,ne_eq];exact λz=>hk z.symm
   rw[d];have g:List.lookup k (p::t)=List.lookup k t:=by
    obtain⟨a,b⟩:=p;simp only[List.lookup];rw[beq_eq_false_iff_ne.mpr hk]
   rw[g]at hl;exact Zbl.find h4 hl
def Zn1(LK:List (Str×AI))(b:TE):TE:=λσ H Q=>b σ H λy a=>∃k f,y=.str k/\LK.lookup k=some f/\Q (.ref f) a
theorem Zu2{LK:List (Str×AI)}{a:TE}{σ:L2.St}{H:Hp}{Q:VK}(h:a σ H λy b=>∃k f,y=.str k/\LK.lookup k=some f/\Q (.ref f) b):Zn1 LK a σ H Q:=h
theorem Zjp{X:Cx}{nm:Str}{LK:List (Str×AI)}{i:AN}{n:TE}{p d:Pos}(T:Tab X.K X.w X.mg nm LK)(hg:Gl X nm)(hi:PE X i n)(hs:Zpe i)(hd:(nm == ("__debug__":Str))=false:=by decide):
  PE X (.Subscript (.Name nm p) i d) (Zn1 LK n):=by
 intro a s t H Q I h;obtain⟨dd,o,b,q,hm,hk,g,c,j⟩:=T;refine Zes PySem.F.slot_dict_getitem.lookup hs (fZ I hg hm ?_ hd);refine fH (hi a s t H _ I h) λu z qc=>?_;obtain⟨y,H2,I2,ry,k,f,ey,l,q2⟩:=qc;subst ey;have m:=I2.qg dd o hk;refine⟨⟨o,m,g.1⟩,?_⟩;obtain⟨tk,rfl⟩:∃tk,u=.str k tk:=ry;refine wpAny_getItem_of (knd:=strKind X.prog X.w) (k:=k) (f:=λk=>findBy Value.isStrOf b k) (by show Value.isStrOf k (.str k tk)=true;simp[Value.isStrOf]) ⟨o,b,q,m,g,c,λe r=>j.keys e (by simpa using r),λ_=>rfl⟩ (v:=.ref f) ?_ ⟨.ref f,H2,I2.tok _,rfl,q2⟩;show Option.map (λx=>x.val) (Array.find? (λe=>Value.isStrOf k e.key) b)=_;rw[<- Array.find?_toList];exact j.find l
def Q5(P:AM)(w:AO)(K:aC)(mg:As)(base:Heap)(CX:Ze)(k:Nat)(ps:AH)(L:List (AI×Sp)):Prop:=
 ∀f sp,(f,sp)∈L->∃a fd,a<=k/\qe P w K mg base CX a f fd ps sp/\W.keepIn K (.ref f)=true/\L2.Binds K fd ps []
theorem Q5.nil{P:AM}{w:AO}{K:aC}{mg:As}{base:Heap}{CX:Ze}{k:Nat}{ps:AH}:Q5 P w K mg base CX k ps []:=λ_ _ h=>absurd h List.not_mem_nil
theorem Q5.cons{P:AM}{w:AO}{K:aC}{mg:As}{base:Heap}{CX:Ze}{k a:Nat}{ps:AH}{L:List (AI×Sp)}{f:AI}{fd:AL}{sp:Sp}(hk:a<=k)(F:qe P w K mg base CX a f fd ps sp)(hb:L2.Binds K fd ps [])(hp:W.keepIn K (.ref f)=true)(t:Q5 P w K mg base CX k ps L):Q5 P w K mg base CX k ps ((f,sp)::L):=λg b h=>by
 rcases List.mem_cons.mp h with e | h
 ·cases e;exact⟨a,fd,hk,F,hp,hb⟩
 ·exact t g b h
def Wn(i:Nat)(L:List (AI×Sp))(E:XK)(t:TA):TE:=λσ H Q=>∃f sp,σ[i]? =some (↑f)/\(f,sp)∈L/\t σ H λvs a=>sp vs a Q E
theorem jC{i:Nat}{L:List (AI×Sp)}{E:XK}{t:TA}{σ:L2.St}{H:Hp}{Q:VK}{f:AI}(sp:Sp)(b:σ[i]? =some (↑f))(hm:(f,sp)∈L)(h:t σ H λvs a=>sp vs a Q E):Wn i L E t σ H Q:=⟨f,sp,b,hm,h⟩
theorem ZR{X:Cx}{CX:Ze}{k i:Nat}{ps:AH}{L:List (AI×Sp)}{x:Str}{E:XK}{e:AN}{c:AG}{t:TA}{p b:Pos}(F:Q5 X.prog X.w X.K X.mg X.base CX k ps L)(hr:Room k X.A)(hN:X.N[i]? =some x)(hv:Vis X.env.scope x)(hx:Passes CX X E)
  (q:PA X (e::c) t) (hd:(x == ("__debug__":Str))=false:=by decide) (d:(x == ("__classdict__":Str))=false:=by decide) (n:starEach (e::c) X.env=(false,eval e X.env)::starEach c X.env:=by rfl) (g:(backTo b (starEach c X.env)).any (·.1)=false:=by rfl):
  PE X (.Call (.Name x p) (e::c) [] b) (Wn i L E t):=by
 intro a s j H Q I h;obtain⟨f,sp,l,hm,h⟩:=h;obtain⟨B,fd,hk,y,hp,hb⟩:=F f sp hm;refine wpAny_Call_Name_kw (fH (Zjn hN hv hd d a s j H (λv o=>v=.ref f/\o=H) I ⟨_,l,rfl,rfl⟩) λu m qc=>?_);obtain⟨v,H1,I1,r,e1,e2⟩:=qc;subst e1 e2;obtain rfl:u=Value.ref f:=r;refine W.callWith_K (h₀:=X.base) I1.ok.mod.kin hp (fH (q b a m j H1 _ I1 h) λus z ⟨C,H2,I2,r2,q2⟩=>⟨I2.qg,?_⟩) n g;refine WX (qj:=[]) y (hr.mono hk) hb .nil hx I2 r2 ?_;rw[List.append_nil];exact q2
section
variable {σ:L2.St}{H:Hp}{Q:VK}{td ty tv:TE}{n bk ct:L2.St->Hp->Prop}{r:VK}
theorem Zsg(h:td σ H λx c=>ty σ c λy b=>∃a v,x=.ref a/\mz b a y (some v)/\Q v b):jV td ty σ H Q:=h
theorem Zug(h:ty σ H λy c=>td σ c λx b=>∃a o,x=.ref a/\mz b a y o/\Q (.bl o.isSome) b):Zn2 ty td σ H Q:=h
theorem Zlk(h:ty σ H λy c=>td σ c λx b=>∃a o,x=.ref a/\mz b a y o/\Q (.bl (!o.isSome)) b):oY ty td σ H Q:=h
theorem Zse(h:tv σ H λv c=>td σ c λx e=>ty σ e λy d=>∃a b,x=.ref a/\rZ d a y v b/\n σ b):sV td ty tv ⟨n,r,bk,ct⟩ σ H:=h
theorem Zma{a:AI}{b:List (L2.Key×V)}{z:Str}(e:H a=some (.dK b)):mz H a (.str z) (gR b (Sum.inr z)):=mz.k (k:=Sum.inr z) e
theorem Zuw{a:AI}{b:List (L2.Key×V)}{z:Str}{v:V}(e:H a=some (.dK b))(hl:b.length<sizeLine):rZ H a (.str z) v (upd H a (.dK (putK b (Sum.inr z) v))):=rZ.k (k:=Sum.inr z) e hl
end
def Zmu(K:aC)(J:It)(b:List Nat)(tc:TT)(h:TE)(σ:L2.St)(f:Hp)(Q:VK):Prop:=∃W:Nat->Nat->List V->Hp->Prop,(∃m,W 0 m [] f)/\∀i m c H,W i m c H->
 (J.stop i H/\∀p,H p=none->Q (.ref p) (upd H p (.lst c)))\/
 (J.go i H/\c.length<sizeLine/\∀x H',J.Zf i H x H'->∃a u v,x=.ref a/\cP K H' a [u,v]/\tc (some u::some v::b.map bj) H' λk e=>if k=true then h (some u::some v::b.map bj) e (λy g=>∃d,d<m/\W br d (c++[y]) g)else ∃d,d<m/\W br d c e)
def Zgm(K:aC)(c:TI)(a:List Nat)(tc:TT)(d:TE):TE:=λσ H Q=>c σ H λJ b=>Zmu K J a tc d σ b Q
theorem Zs6{K:aC}{b:TI}{a:List Nat}{tc:TT}{c:TE}{σ:L2.St}{H:Hp}{Q:VK}(h:b σ H λJ d=>Zmu K J a tc c σ d Q):Zgm K b a tc c σ H Q:=h
def Zvk(K:aC)(b:TE):TE:=λσ H Q=>∃a u v r,σ=↑a::r/\cP K H a [u,v]/\b (some u::some v::r) H Q
theorem Zfi{K:aC}{J:It}{b:List Nat}{c:TE}{σ:L2.St}{H:Hp}{Q:VK}(h:LCg J b vK (Zvk K c) σ H Q):Zmu K J b vK c σ H Q:=by
 obtain⟨W,w0,step⟩:=h;refine⟨W,w0,λi m d H f=>?_⟩;rcases step i m d H f with z | ⟨g,l,st⟩
 ·exact .inl z
 ·refine .inr ⟨g,l,λx j y=>?_⟩;have h1:=st x j y;simp only[vK,↓reduceIte]at h1;obtain⟨a,u,v,r,e,hs,q⟩:=h1;cases e;refine⟨a,u,v,rfl,hs,?_⟩;simp only[vK,↓reduceIte];exact q
theorem W3{X:Cx}{k iter:AN}{x y:Str}{E D pt t:Pos}{B:Nat}{q:AG}{a:Scope}{cl:List (Str×AI)}{F:TI}{tc:TT}{I:TE}{cns:AH}(b:List Nat)
  (hi:PI X (.Tuple [.Name x E,.Name y D] B pt) iter F)
  (O:∀C s H ex pn,PF (Qv X a cl (x::y::cns) C s H ex pn) q tc) (P:∀C s H ex pn,PE (Qv X a cl (x::y::cns) C s H ex pn) k I) (hc:X.calm=true)
  (j:closureFor a X.env=pure cl) (w:AllIn X.env.cells cl) (o:yL X cns b)
  (d:a.kind=.function) (e:(a.names.all λp=>p.2 != .cell)=true) (f:(a.names.all λp=>p.2 != .free || (cl.lookup p.1).isSome)=true)
  (u:(cns.all λy=>a.names.lookup y == some .free)=true) (c:∀y∈a.names,y.2=.local->a.names.lookup y.1=some .local) (hx:a.names.lookup x=some .local) (hy:a.names.lookup y=some .local) (n:(x::y::cns).Nodup)
  (hs:∀v,foldedSetIterable iter X.env v=pure v:=by intro _;rfl):
  PE X (.ListComp k [⟨.Tuple [.Name x E,.Name y D] B pt,iter,q,0⟩] a t) (Zgm X.K F b tc I):=by
 refine Zjs (ns:=[x,y]) (gt:=Zdn X.K 2 (uq (aP 0) (uq (aP 1) Zdo))) b (λJ U H Q h=>?_) hi (λC s H ex pn=>Gz hc (jq (eV n rfl (.inl (lookup_relabel_local hx)) (.inr (lookup_relabel_local hx))) (jq (eV n rfl (.inl (lookup_relabel_local hy)) (.inr (lookup_relabel_local hy))) yQ))) O P hc j w o d e f u c hs;obtain⟨W,w0,turn⟩:=h;refine⟨W,w0,λi m M H N=>(turn i m M H N).imp id λ⟨g,l,st⟩=>⟨g,l,λz S y A hv=>?_⟩⟩;obtain⟨ta,T,R,L,r,st⟩:=st z S y;cases A with
 | nil=>cases hv
 | cons v A=>
  obtain⟨V,rfl⟩:=List.length_eq_one_iff.mp (Nat.succ.inj hv);exact⟨[some T,some R],rfl,⟨ta,_,L,r,rfl,_,_,rfl,_,_,rfl,rfl,rfl,rfl⟩,st⟩
end G
namespace G
open PySem L2
def Ite(K:aC)(a:AI):It:=
 ⟨λi H=>∃xs x,cC K H a xs/\xs[i]? =some x,λi H x H'=>∃t v,x=.ref t/\H t=none/\H'=upd H t (.tup [.int i,v])/\∀xs,cC K H a xs->xs[i]? =some v,λi H=>∃xs,cC K H a xs/\xs.length<=i⟩
def Vt(K:aC)(ta:TA):TI:=λσ H R=>ta σ H λvs b=>∃a,vs=[.ref a]/\(∃xs,cC K b a xs)/\R (Ite K a) b
theorem Zwh{K:aC}{ta:TA}{σ:L2.St}{H:Hp}{R:It->Hp->Prop}(h:ta σ H λvs b=>∃a,vs=[.ref a]/\(∃xs,cC K b a xs)/\R (Ite K a) b):Vt K ta σ H R:=h
def G9(v d:AI):HO:=.ext λh=>h.IsItemsView v d
def Zbz(d:TE):TE:=λσ H Q=>d σ H λx b=>∃a c,x=.ref a/\Rd b a (.dK c)/\∀v,b v=none->Q (.ref v) (upd b v (G9 v a))
theorem Zon{d:TE}{σ:L2.St}{H:Hp}{Q:VK}(h:d σ H λx b=>∃a c,x=.ref a/\Rd b a (.dK c)/\∀v,b v=none->Q (.ref v) (upd b v (G9 v a))):Zbz d σ H Q:=h
def Zbr(H:Hp):AF->List cm->Prop
 | [],[]=>True
 | t::ts,kv::a=>H t=some (.tup [kV kv.1,kv.2])/\Zbr H ts a
 | _,_=>False
def Ze6:List V->Hp->VK->Prop:=λxs H Q=>∃v a b,xs=[.ref v]/\H v=some (G9 v a)/\Rd H a (.dK b)/\∀l ts H',H l=none->bB H H'->H' l=some (.lst cf)->Zbr H' ts b->Q (.ref l) H'
theorem Zom{H:Hp}{Q:VK}{v a:AI}{b:List cm}(h1:H v=some (G9 v a))(h2:Rd H a (.dK b))(h:∀l ts H',H l=none->bB H H'->H' l=some (.lst cf)->Zbr H' ts b->Q (.ref l) H'):Ze6 [.ref v] H Q:=⟨v,a,b,rfl,h1,h2,h⟩
def Itd(a:AI)(o:Obj)(b:List cm):It:=
 ⟨λi H=>H a=some (.oX o (.dK b))/\i<b.length,λi H x H'=>H'=H/\∃kv,b[i]? =some kv/\x=kV kv.1,λi H=>H a=some (.oX o (.dK b))/\b.length<=i⟩
def Zlm(d:TE):TI:=λσ H R=>d σ H λx c=>∃a b,x=.ref a/\c a=some (.dK b)/\∀o,R (Itd a o b) (upd c a (.oX o (.dK b)))
theorem Zwi{d:TE}{σ:L2.St}{H:Hp}{R:It->Hp->Prop}(h:d σ H λx c=>∃a b,x=.ref a/\c a=some (.dK b)/\∀o,R (Itd a o b) (upd c a (.oX o (.dK b)))):Zlm d σ H R:=h
def Zou(a:List cm):V->Option Bool
 | .int i=>some (gR a (.inl i)).isSome
 | .str x=>some (gR a (.inr x)).isSome
 | .non=>some false
 | _=>none
def Zis(d:Bool)(ty g:TE):TE:=λσ H Q=>ty σ H λy f=>g σ f λx e=>∃a c b,x=.ref a/\Rd e a (.dK c)/\Zou c y=some b/\Q (.bl (if d then !b else b)) e
theorem Zsf{d:Bool}{ty e:TE}{σ:L2.St}{H:Hp}{Q:VK}(h:ty σ H λy g=>e σ g λx f=>∃a c b,x=.ref a/\Rd f a (.dK c)/\Zou c y=some b/\Q (.bl (if d then !b else b)) f):Zis d ty e σ H Q:=h
section
variable {K:aC}{a:AI}{g:TG}{tb:TS}{σ:L2.St}{H:Hp}{n:L2.St->Hp->Prop}{r:VK}
theorem Zsp(xs:List V)(Pv:Nat->L2.St->Hp->Prop)(h0:Pv 0 σ H)(hl:∀i σ H,i<=xs.length->Pv i σ H->cC K H a xs)
  (hs:∀i x t σ H,xs[i]? =some x->Pv i σ H->H t=none->g (.ref t) σ (upd H t (.tup [.int i,x])) λb d=>tb ⟨Pv br,r,n,Pv br⟩ b d) (hd:∀ σ H,Pv xs.length σ H->n σ H):
  ∃W:Nat->Nat->L2.St->Hp->Prop,(∃m,W 0 m σ H)/\∀i m σ H,W i m σ H->
   ((Ite K a).stop i H/\n σ H)\/((Ite K a).go i H/\∃N:L2.St->Hp->Prop,(∀ c H',N c H'->∃f,f<m/\W br f c H')/\∀x H',(Ite K a).Zf i H x H'->g x σ H' λb d=>tb ⟨N,r,n,N⟩ b d):=by
 refine⟨λi m σ H=>i<=xs.length/\m=xs.length - i/\Pv i σ H,⟨xs.length,Nat.zero_le _,rfl,h0⟩,?_⟩;rintro i m σ H ⟨hi,rfl,p⟩;have hq:=hl i σ H hi p
 by_cases hk:i=xs.length
 ·subst hk;exact .inl ⟨⟨xs,hq,Nat.le_refl _⟩,hd σ H p⟩
 ·have e:i<xs.length:=δ
  have hx:xs[i]? =some xs[i]:=bD e;refine .inr ⟨⟨xs,_,hq,hx⟩,Pv br,λc H' h=>⟨xs.length - br,δ,δ,rfl,h⟩,?_⟩;rintro x H' ⟨t,v,rfl,j,rfl,hv⟩;exact hs i v t σ H (hv xs hq) p j
theorem Zwz{o:Obj}(b:List cm)(Pv:Nat->L2.St->Hp->Prop)(h0:Pv 0 σ H)(hl:∀i σ H,i<=b.length->Pv i σ H->H a=some (.oX o (.dK b)))
  (hs:∀i kv σ H,b[i]? =some kv->Pv i σ H->g (kV kv.1) σ H λc e=>tb ⟨Pv br,r,n,Pv br⟩ c e) (hd:∀ σ H,Pv b.length σ H->n σ H):
  ∃W:Nat->Nat->L2.St->Hp->Prop,(∃m,W 0 m σ H)/\∀i m σ H,W i m σ H->
   ((Itd a o b).stop i H/\n σ H)\/((Itd a o b).go i H/\∃N:L2.St->Hp->Prop,(∀ d H',N d H'->∃h,h<m/\W br h d H')/\∀x H',(Itd a o b).Zf i H x H'->g x σ H' λc e=>tb ⟨N,r,n,N⟩ c e):=by
 refine⟨λi m σ H=>i<=b.length/\m=b.length - i/\Pv i σ H,⟨b.length,Nat.zero_le _,rfl,h0⟩,?_⟩;rintro i m σ H ⟨hi,rfl,p⟩;have hq:=hl i σ H hi p
 by_cases hk:i=b.length
 ·subst hk;exact .inl ⟨⟨hq,Nat.le_refl _⟩,hd σ H p⟩
 ·have f:i<b.length:=δ
  refine .inr ⟨⟨hq,f⟩,Pv br,λd H' j=>⟨b.length - br,δ,δ,rfl,j⟩,?_⟩;rintro x H' ⟨rfl,kv,hv,rfl⟩;exact hs i kv σ H' hv p
theorem Zob{d:List Nat}{tc:TT}{n:TE}{Q:VK}{xs:List V}(hs:cC K H a xs)(hz:xs.length<=1000000)(W:Nat->List V->Hp->Prop)(h0:W 0 [] H)(g:∀i c b,W i c b->bB H b/\c.length<=i)
  (step:∀i x c b t (C:List V->Hp->Prop),(∀f e,W br f e->C f e)->xs[i]? =some x->W i c b->b t=none->tc (some (.int i)::some x::d.map bj) (upd b t (.tup [.int i,x])) λk l=>if k=true then n (some (.int i)::some x::d.map bj) l (λy e=>C (c++[y]) e)else C c l)
  (q:∀c b,W xs.length c b->∀p,b p=none->Q (.ref p) (upd b p (.lst c))):Zmu K (Ite K a) d tc n σ H Q:=by
 refine⟨λi m c b=>i<=xs.length/\m=xs.length - i/\W i c b,⟨xs.length,Nat.zero_le _,rfl,h0⟩,?_⟩;rintro i m c b ⟨hi,rfl,w⟩;obtain⟨sm,hl⟩:=g i c b w;have hq:cC K b a xs:=sm.seq hs
 by_cases hk:i=xs.length
 ·subst hk;exact .inl ⟨⟨xs,hq,Nat.le_refl _⟩,q c b w⟩
 ·have h:i<xs.length:=δ
  refine .inr ⟨⟨xs,_,hq,bD h⟩,Nat.lt_of_le_of_lt (show c.length<=1000000 by omega) (show 1000000<sizeLine by decide),?_⟩;rintro x s ⟨t,v,rfl,r,rfl,hv⟩;exact⟨t,_,_,rfl,cP.of aq,step i v c b t (λf e=>∃j,j<xs.length - i/\i+1<=xs.length/\j=xs.length - (i+1)/\W br f e) (λf e o=>⟨xs.length - br,δ,δ,rfl,o⟩) (hv xs hq) w r⟩
end
end G
namespace G
open PySem L2 PySem.Spec PyProof.Rows
theorem Zhj{X:Cx}{pins:At}{σ:L2.St}{H:Hp}{s:AK}{h':Heap}{t':Nat}{e a:AI}(I:Inv X pins σ H s)(k:∀b u,b≠e->b≠a->s.heap.get? b=some u->h'.get? b=some u)(f:oE X pins H e)(d:oE X pins H a):
  Inv X pins σ H { s with heap:=h',toks:=t' }:=by
 have ne:∀b u,H b=some u->b≠e:=λb u q z=>by rw[z,f.1]at q;cases q
 have g:∀b u,H b=some u->b≠a:=λb u q z=>by rw[z,d.1]at q;cases q
 have nm:∀b,b∉[e,a]->b≠e/\b≠a:=λb hb=>⟨λz=>hb (by simp[z]),λz=>hb (by simp[z])⟩;refine I.step (g':=s.gens) (d':=s.drawn) (ch:=[e,a]) (λb hb=>?_) (λb o _ _ hc q _=>k b o (nm b hc).1 (nm b hc).2 q) (λb o _ _ hc q _=>⟨o.slots,k b o (nm b hc).1 (nm b hc).2 q⟩) (λ_ _ _ _ n=>n)
  (λb o hc q=>⟨o,k b o (nm b hc).1 (nm b hc).2 q⟩) (λ_ _ q=>q) (λ_ _ _ q=>q) (λb p q=>⟨#[],by rw[q];simp⟩) (λm hm=>?_) (λb u q=>?_) I.bare
 ·rcases List.mem_cons.mp hb with z | z
  ·rw[z];exact⟨f.2.2.2.1,f.2.1,f.2.2.2.2.1,f.2.2.2.2.2⟩
  ·have l:b=a:=by simpa using z
   rw[l];exact⟨d.2.2.2.1,d.2.1,d.2.2.2.2.1,d.2.2.2.2.2⟩
 ·obtain⟨o,h,j,i,r⟩:=hm;exact⟨o,h,j,k _ o (Ne.symm f.2.1) (Ne.symm d.2.1) i,r⟩
 ·refine(I.hok b u q).stay (λc v hc z=>?_) (λ_ z=>z) λ_ _ z=>z;rcases hc with y | y
  ·rw[y]at z ⊢;exact k b v (ne b u q) (g b u q) z
  ·exact k c v (ne c _ y) (g c _ y) z
theorem P0{X:Cx}{pins:At}{σ:L2.St}{H:Hp}{s:AK}{h':Heap}{t':Nat}{e d a:AI}{o:HO}(I:Inv X pins σ H s)(k:∀b u,b≠e->b≠d->s.heap.get? b=some u->h'.get? b=some u)(g:oE X pins H e)(f:oE X pins H d)
  (i:s.heap.objs.size<=a) (new:gq X.prog X.w ee h' a o):Inv X pins σ ee { s with heap:=h',toks:=t' }:=by
 have hn:=I.hok.fresh i;have ne:∀b u,H b=some u->b≠e:=λb u q z=>by rw[z,g.1]at q;cases q
 have h:∀b u,H b=some u->b≠d:=λb u q z=>by rw[z,f.1]at q;cases q
 have nm:∀b,b∉[e,d]->b≠e/\b≠d:=λb hb=>⟨λz=>hb (by simp[z]),λz=>hb (by simp[z])⟩;have A:∀b u,s.heap.get? b=some u->b≠a:=λb u q=>Nat.ne_of_lt (Nat.lt_of_lt_of_le (Heap.lt_size q) i);refine I.step (g':=s.gens) (d':=s.drawn) (ch:=[e,d]) (λb hb=>?_) (λb o _ _ hc q _=>k b o (nm b hc).1 (nm b hc).2 q) (λb o _ _ hc q _=>⟨o.slots,k b o (nm b hc).1 (nm b hc).2 q⟩) (λb u _ q n=>(aA (A b u q)).trans n)
  (λb o hc q=>⟨o,k b o (nm b hc).1 (nm b hc).2 q⟩) (λb j q=>(aA (aD q hn)).trans q) (λb o j q=>(aA (aD q hn)).trans q) (λb B q=>⟨#[],by rw[aA (aD q hn),q];simp⟩) (λm hm=>?_) (λb u q=>?_) I.bare
 ·rcases List.mem_cons.mp hb with z | z
  ·rw[z];exact⟨g.2.2.2.1,g.2.1,g.2.2.2.2.1,g.2.2.2.2.2⟩
  ·have x:b=d:=by simpa using z
   rw[x];exact⟨f.2.2.2.1,f.2.1,f.2.2.2.2.1,f.2.2.2.2.2⟩
 ·obtain⟨o,l,t,p,r⟩:=hm;exact⟨o,l,t,k _ o (Ne.symm g.2.1) (Ne.symm f.2.1) p,r⟩
 ·by_cases hb:b=a
  ·subst hb;rw[aq]at q;cases q;exact new
  ·rw[aA hb]at q;refine(I.hok b u q).stay (λc v hc z=>?_) (λc z=>by rw[aA (aD z hn)];exact z) λc j z=>by rw[aA (aD z hn)];exact z
   rcases hc with y | y
   ·rw[y]at z ⊢;exact k b v (ne b u q) (h b u q) z
   ·exact k c v (ne c _ y) (h c _ y) z
theorem Zgj{P:AM}{w:AO}{K:aC}{r:AG}{x1:Nat}{pt:Pos}(a e f:AI)(t:e≠f):
    Turn P w K (.Tuple r x1 pt) (Ite K a) [e,f] e (λi h=>(∃old,IsEnum h e f ((i:Nat):Int) old)/\h.IsListIter f a i) where
  mem:=ζ
  obj:=λi h st b hb=>by
    obtain⟨⟨old,j⟩,o,ho,c,d⟩:=st;rcases List.mem_cons.mp hb with z | z
    · rw[z];exact⟨_,j,λv z=>by cases z⟩
    · have N:b=f:=by simpa using z
      rw[N];exact⟨o,ho,λv z=>by rw[d]at z;cases z⟩
  keep:=λi h h' st k=>⟨let ⟨old,j⟩:=st.1;⟨old,k e ζ _ j⟩,st.2.at λo q=>k f ζ o q⟩
  item:=by
    intro X V J L hc i m s Z H E I y st hg;subst V J L;obtain⟨xs,x,hq,hx⟩:=hg;obtain⟨M,O,p,hz⟩:=I.list hq;obtain⟨u,hu,ru⟩:=O.get hx;obtain⟨⟨old,j⟩,l⟩:=st;have Y:=y e ζ;have W:=y f ζ;have C:e<s.heap.objs.size:=Heap.lt_size j;have T:f<s.heap.objs.size:=by obtain⟨o,q,_⟩:=l;exact Heap.lt_size q
    refine wpAny_pyNext_enum_item j l p.isList (x:=u) (by simpa using hu) t λh1 F B R hz1 D=>?_;refine⟨_,rfl,wpAny_letOwnedTupleGo_enum (s:={ s with heap:=h1,toks:=s.toks+1 }) F λh2 U g=>?_⟩
    replace g:Heap.SameBut e h1 h2:=g
    have hn:H s.heap.objs.size=none:=I.hok.fresh υ;have I2:Inv X m Z (upd H s.heap.objs.size (.tup [.int ((i:Nat):Int),x])) { s with heap:=h2,toks:=s.toks+1 }:=by
      refine P0 I (λb v hb n q=>g.extBut b v hb (D b v hb n q)) Y W υ ?_;refine⟨by show 2<=sizeLine;decide,[.int ((i:Nat):Int) s.toks,u],.cons ⟨_,rfl⟩ (.cons ru .nil),⟨_,g.extBut _ _ (Nat.ne_of_gt C) R,rfl,_,rfl⟩⟩
    refine⟨.ref s.heap.objs.size,_,I2,rfl,⟨_,x,rfl,hn,rfl,λys hy=>by rw[I.El hy hq];exact hx⟩,⟨⟨u,?_⟩,B.extBut g.extBut (Ne.symm t)⟩,λb hb=>?_⟩
    · have e1:(((i+1:Nat)):Int)=(i:Int)+1:=δ
      show IsEnum h2 e f (((i+1:Nat)):Int) u;rw[e1];exact U
    · rcases List.mem_cons.mp hb with z | z
      · rw[z,aA (Nat.ne_of_lt C)];exact Y.1
      · have N:b=f:=by simpa using z
        rw[N,aA (Nat.ne_of_lt T)];exact W.1
  done:=by
    intro X V J L hc i m s Z H E I y st hg;subst V J L;obtain⟨xs,hq,hx⟩:=hg;obtain⟨M,O,p,hz⟩:=I.list hq;obtain⟨⟨old,j⟩,l⟩:=st;have hl:=O.length;exact wpAny_pyNext_enum_end (I.ok.hd hc) j l p.isList (by simp;omega) λh' S=>⟨rfl,Zhj (t':=s.toks) I (λb o _ n q=>S b o n q) (y e ζ) (y f ζ)⟩
  self:=λA i s Q E st h=>let ⟨_,j⟩:=st.1;wpAny_pyIter_enum j h
theorem Ld{X:Cx}{f:AG}{t:Nat}{pt:Pos}{l:AN}{ta:TA}{p g:Pos}(hg:Gl X "enumerate")(hm:X.mg "enumerate"=none)(A:PA X [l] ta)(hs:starEach [l] X.env=[(false,eval l X.env)]:=by rfl):
  PI X (.Tuple f t pt) (.Call (.Name "enumerate" p) [l] [] g) (Vt X.K ta):=by
 intro c s n H R I h;refine Call_ (G4 I hg hm boot_enumerate (PyProof.Rows.callWith_type1 (fH (A g c s n H _ I h) λus d qc=>?_) hs rfl));obtain⟨B,H1,I1,r1,q1⟩:=qc;obtain⟨a,e,⟨D,hq⟩,q⟩:=q1;subst e;cases r1 with
 | cons r o=>
  cases o;obtain rfl:_=Value.ref a:=r;obtain⟨v,C,u,hz⟩:=I1.list hq;refine call_enumerate_list u.isList λm k i x hk=>?_;have y:Inv X c n H1 { d with heap:=m }:=I1.kept (t':=d.toks) hk
  refine wpAny_pyIter_enum (s:={ d with heap:=m }) k ?_;have j:∀b,d.heap.objs.size<=b->oE X c H1 b:=λb hb=>I1.Yp hb (I1.hok.fresh hb);refine⟨_,[d.heap.objs.size+1,d.heap.objs.size],_,_,H1,rfl,y,Zgj a _ _ (Nat.succ_ne_self _),⟨⟨_,k⟩,i⟩,λb hb=>?_,q⟩;rcases List.mem_cons.mp hb with z | z
  ·rw[z];exact j _ (Nat.le_succ _)
  ·have w:b=d.heap.objs.size:=by simpa using z
   rw[w];exact j _ υ
theorem Zhk{X:Cx}{pins:At}{σ:L2.St}{H:Hp}{s:AK}{a:AI}{o:HO}(I:Inv X pins σ H s)(f:oE X pins H a)(new:gq X.prog X.w ee s.heap a o):Inv X pins σ ee s:=by
 have hn:=f.1;have r:Inv X pins σ ee { s with heap:=s.heap,gens:=s.gens,drawn:=s.drawn,toks:=s.toks }:=by
  refine I.step (g':=s.gens) (t':=s.toks) (d':=s.drawn) (ch:=[a]) (λb hb=>?_) (λb u _ _ _ q _=>q) (λb u _ _ _ q _=>⟨u.slots,q⟩) (λb u hc q n=>(aA (λz=>hc (by simp[z]))).trans n) (λb u _ q=>⟨u,q⟩)
   (λb d q=>(aA (aD q hn)).trans q) (λb u d q=>(aA (aD q hn)).trans q) (λb e q=>⟨#[],by rw[aA (aD q hn),q];simp⟩) (λm hm=>hm) (λb u q=>?_) I.bare
  ·have z:b=a:=by simpa using hb
   rw[z];exact⟨f.2.2.2.1,f.2.1,f.2.2.2.2.1,f.2.2.2.2.2⟩
  ·by_cases hb:b=a
   ·subst hb;rw[aq]at q;cases q;exact new
   ·rw[aA hb]at q;exact(I.hok b u q).stay (λc v _ z=>z) (λc z=>by rw[aA (aD z hn)];exact z) λc d z=>by rw[aA (aD z hn)];exact z
 exact r
theorem Yo{X:Cx}{pins:At}{H:Hp}{a b:AI}{o:HO}(f:oE X pins H b)(h:b≠a):oE X pins ee b:=⟨(aA h).trans f.1,f.2⟩
theorem Zpy{P:AM}{w:AO}{k:Key}{u:AJ}(h:(cU P w).is k u=true):RelV (kV k) u:=by
 rcases dH h with ⟨i,t,rfl,rfl⟩ | ⟨x,t,rfl,rfl⟩
 ·exact⟨t,rfl⟩
 ·exact⟨t,rfl⟩
theorem Zjt{X:Cx}{o:AN}{l:TE}{d c:Pos}(j:PE X o l)(f:attributeBase o "items" X.env (eval o X.env)=eval o X.env:=by rfl)(g:(d.endLine == c.line)=true:=by rfl):
  PE X (.Call (.Attribute o "items" d) [] [] c) (Zbz l):=by
 intro i s p H Q I h;refine wpAny_Call_method0_late f g (fH (j i s p H _ I h) λu m qc=>?_);obtain⟨x,H1,I1,rx,a,kvs,ex,rd,q⟩:=qc;subst ex;obtain rfl:u=Value.ref a:=rx;obtain⟨t1,t2,hd⟩:=Zde I1 (.inl ⟨kvs,rd⟩);obtain⟨z,_,n,rel,dd⟩:=uC I1.hok rd;refine⟨"dict","dict.items",PySem.F.plainAttrs_dict,PySem.F.slot_dict_items,PySem.F.type_dict_items,t1,t2,Calls.callWith_builtin rfl (PySem.evalArgs_none ?_)⟩;refine call_meetsIn PySem.F.slot_dict_items t1 PySem.F.entry_dict_items (PySem.F.args_dict_items_1 _) (meets_dict_items (cU X.prog X.w) a hd) ⟨⟨n,dd⟩,?_⟩;have hn:=I1.hok.fresh υ;refine⟨.ref m.heap.objs.size,_,I1.laid (t':=m.toks) (λb u e=>Heap.get?_push_of_some _ e) υ ?_,rfl,q _ hn⟩;exact⟨⟨_,Heap.get?_push_size _ rfl,rfl,rfl⟩,⟨_,Heap.get?_push_size _ rfl⟩,(by rintro h1 h2 ⟨o,j,r⟩ k;exact⟨o,k o j,r⟩)⟩
theorem HW{X:Cx}{pins:At}{σ:L2.St}{s:AK}:∀(f:AF) (c:List cm) (vs:List (Key×AJ)) (H:Hp),Inv X pins σ H s->f.Nodup->(∀a∈f,oE X pins H a)->f.length=c.length->KV c vs->
  (∀(j:Nat) (a:AI),f[j]? =some a->∃d k x,vs[j]? =some (k,x)/\(cU X.prog X.w).is k d=true/\s.heap.get? a=some { cls:=.type "tuple",data:=.seq #[d,x] })->
  ∃H',Inv X pins σ H' s/\bB H H'/\Zbr H' f c
 | [],[],_,H,I,_,_,_,_,_=>⟨H,I,λ_ _ h=>h,trivial⟩
 | [],_::_,_,_,_,_,_,hl,_,_=>by simp at hl
 | _::_,[],_,_,_,_,_,hl,_,_=>by simp at hl
 | a::f,i::c,vs,H,I,nd,l,hl,r,n=>by
  cases r with
  | cons A rs=>
   rename_i q p
   obtain⟨d,k,x,e,hk,hg⟩:=n 0 a rfl;have D:q=(k,x):=by simpa using e
   subst D;obtain⟨y,t⟩:=A;have m:=l a ζ;have B:a∉f:=(List.nodup_cons.mp nd).1;have g:i.1=k:=y;have C:Inv X pins σ (L2.upd H a (.tup [kV i.1,i.2])) s:=Zhk I m ⟨by show 2<=sizeLine;decide,[d,x],.cons (by rw[g];exact Zpy hk) (.cons t .nil),⟨_,hg,rfl,_,rfl⟩⟩;obtain⟨H',v,sm,u⟩:=HW f c p _ C (List.nodup_cons.mp nd).2 (λb hb=>Yo (l b (by simp[hb])) λz=>B (z ▸ hb)) (by simpa using hl) rs (λj b hb=>by simpa using n (j+1) b (by simpa using hb));refine⟨H',v,λb o hb=>sm b o ?_,sm _ _ aq,u⟩;rw[aA (aD hb m.1)];exact hb
theorem Uu:∀a:AF,Vals (a.map V.ref) (a.map Value.ref)
 | []=>.nil
 | _::a=>.cons rfl (Uu a)
theorem Ze4{X:Cx}(hc:X.calm=true):Gk X (.type "list") Ze6:=by
 intro i s E H J us Q I r h;obtain⟨v,a,k,rfl,hv,y,q⟩:=h;obtain⟨u,rfl,t⟩:=Vals.one r;obtain rfl:u=Value.ref v:=t;have m:s.heap.IsItemsView v a:=(show gq X.prog X.w H s.heap v (G9 v a)from I.hok v _ hv).1;obtain⟨z,hd,p,rel,dd⟩:=uC I.hok y;obtain⟨F,hm⟩:=dd.dictAt;have hl:=rel.length;refine W.kdx_call (I.ok.hd hc) m hm (by rw[<- hl];exact z) λC tk l c g hk D f e d=>?_;have hn:=I.hok.fresh (Nat.le_refl s.heap.objs.size);have B:Inv X i E (upd H s.heap.objs.size (.lst (g.map V.ref))) { s with heap:=C,toks:=tk }:=by
  refine I.laid hk υ ⟨by rw[aY,f,<- hl];exact z,l.toList,c,by rw[d];exact Uu g,by rw[Array.toArray_toList];exact D⟩
 have nd:g.Nodup:=e.rise.imp λh=>Nat.ne_of_lt h;obtain⟨n,A,sm,x⟩:=HW g k p _ B nd (λb hb=>Yo (I.Yp (Nat.le_of_lt (e.above b hb)) (I.hok.fresh (Nat.le_of_lt (e.above b hb)))) (Nat.ne_of_gt (e.above b hb))) (by rw[f,hl]) rel (λj b hb=>e.pairs j b hb);refine⟨.ref s.heap.objs.size,n,A,rfl,q _ g n hn (λb o hb=>sm b o ?_) (sm _ _ aq) x⟩;rw[aA (aD hb hn)];exact hb
theorem Zav{X:Cx}{pins:At}{σ:L2.St}{H:Hp}{s:AK}{a:AI}{o:Obj}{d:List cm}(I:Inv X pins σ H s)(h:H a=some (.dK d))(f:s.heap.get? a=some o):Inv X pins σ (upd H a (.oX o (.dK d))) s:=by
 have ne:∀b u,H b=some u->u≠.dK d->b≠a:=λb u q n z=>n (by rw[z,h]at q;exact(Option.some.inj q).symm);have r:Inv X pins σ (upd H a (.oX o (.dK d))) { s with heap:=s.heap,gens:=s.gens,drawn:=s.drawn,toks:=s.toks }:=by
  refine I.step (g':=s.gens) (t':=s.toks) (d':=s.drawn) (ch:=[]) (λb hb=>nomatch hb) (λb u _ _ _ q _=>q) (λb u _ _ _ q _=>⟨u.slots,q⟩) (λb u hc q n=>(aA (λz=>by rw[z,h]at n;cases n)).trans n) (λb u _ q=>⟨u,q⟩)
   (λb e q=>(aA (ne b _ q a8)).trans q) (λb u e q=>(aA (ne b _ q a8)).trans q) (λb g q=>⟨#[],by rw[aA (ne b _ q a8),q];simp⟩) (λm hm=>hm) (λb u q=>?_) I.bare
  have hs:∀c u,H c=some u->u≠.dK d->upd H a (.oX o (.dK d)) c=some u:=λc u z n=>by rw[aA (ne c u z n)];exact z
  by_cases hb:b=a
  ·subst hb;rw[aq]at q;cases q;exact⟨f,(I.hok b _ h).stay (λc v _ z=>z) (λc z=>hs c _ z (λy=>by cases y)) λc e z=>hs c _ z (λy=>by cases y)⟩
  ·rw[aA hb]at q;exact(I.hok b u q).stay (λc v _ z=>z) (λc z=>hs c _ z (λy=>by cases y)) λc e z=>hs c _ z (λy=>by cases y)
 exact r
theorem Zgk{P:AM}{w:AO}{K:aC}{tg:AN}(a p:AI)(o:Obj)(f:List cm)(y:Nat)(u:∃D,o.data=.dict D y):Turn P w K tg (Itd a o f) [p] p (λi h=>h.IsKeyIter p a i f.length y) where
  mem:=ζ
  obj:=λi h st b hb=>by
    have e:b=p:=by simpa using hb
    subst e;obtain⟨o,e,c,d⟩:=st;exact⟨o,e,λv z=>by rw[d]at z;cases z⟩
  keep:=λi h B st k=>st.at λo e=>k p ζ o e
  item:=by
    intro X U L O hc i m s Y H E I A st hg;subst U L O;obtain⟨hz,hi⟩:=hg;obtain⟨F,z,hd,g,rel,dd⟩:s.heap.get? a=some o/\f.length<=sizeLine/\(a == sysModules)=false/\∃g,KV f g/\s.heap.DictOf (cU X.prog X.w) a g:=I.hok a _ hz;obtain⟨n,hm⟩:=dd.dictAt;obtain⟨D,q⟩:=u;have Q:n=y:=by
      obtain⟨o',R,l,_,j,_⟩:=id hm;rw[F]at l;cases l;rw[q]at j;injection j with _ e;exact e.symm
    subst Q;have hl:=rel.length;have hv:g[i]? =some g[i]:=bD δ;have x:f[i]? =some f[i]:=bD hi;have hk:f[i].1=g[i].1:=by
      have e:=rel.keys;have W:(f.map (·.1))[i]? =some f[i].1:=by rw[cg,x];rfl
      have Z:(g.map (·.1))[i]? =some g[i].1:=by rw[cg,hv];rfl
      rw[e,Z]at W;exact(Option.some.inj W).symm
    obtain⟨M,C,f2,N,T,J⟩:=A p ζ;rw[hl]at st;refine wpAny_pyNext_dict_item st hm (k:=g[i].1) (v:=g[i].2) (by rw[hv]) λS B t r sb=>?_;have I1:Inv X m Y H { s with heap:=B }:=I.turned (t':=s.toks) (λb o hb e=>(sb.2 b hb).trans e) M C N T J;obtain⟨oi,e,c,d⟩:=id r;exact⟨S,rfl,Zfr (s:={ s with heap:=B }) e c d ε ⟨kV f[i].1,H,I1,by rw[hk];exact Zpy t,⟨rfl,_,x,rfl⟩,by rw[hl];exact r,λb hb=>(A b hb).1⟩⟩
  done:=by
    intro X U L O hc i m s Y H E I A st hg;subst U L O;obtain⟨hz,hi⟩:=hg;obtain⟨F,z,hd,g,rel,dd⟩:s.heap.get? a=some o/\f.length<=sizeLine/\(a == sysModules)=false/\∃g,KV f g/\s.heap.DictOf (cU X.prog X.w) a g:=I.hok a _ hz;obtain⟨n,hm⟩:=dd.dictAt;obtain⟨D,q⟩:=u;have Q:n=y:=by
      obtain⟨o',R,l,_,j,_⟩:=id hm;rw[F]at l;cases l;rw[q]at j;injection j with _ e;exact e.symm
    subst Q;have hl:=rel.length;obtain⟨M,C,f2,N,T,J⟩:=A p ζ;rw[hl]at st;exact wpAny_pyNext_dict_end (I.ok.hd hc) st hm (by rw[List.getElem?_eq_none];omega) λB eb=>⟨rfl,I.turned (t':=s.toks) (λb o hb e=>eb b o hb e) M C N T J⟩
  self:=λ_ _ _ _ _ st h=>wpAny_pyIter_keyiter st h
theorem Znl{X:Cx}{tg:AN}{d:AN}{k:TE}(hd:PE X d k):PI X tg d (Zlm k):=by
 intro f s p H R I h;refine fH (hd f s p H _ I h) λv c qc=>?_;obtain⟨x,H1,I1,r1,q1⟩:=qc;obtain⟨a,i,e,hq,q⟩:=q1;subst e;obtain rfl:v=Value.ref a:=r1;obtain⟨z,hs,t,rel,dd⟩:=Zb6 I1.hok hq;obtain⟨n,hm⟩:=dd.dictAt;obtain⟨o,m,l,_,j,_⟩:=id hm;refine wpAny_pyIter_dict hs hm ?_;have r:=Zav I1 hq l;have g:c.heap.objs.size≠a:=Nat.ne_of_gt (Heap.lt_size l);refine⟨c.heap.objs.size,[c.heap.objs.size],_,_,_,rfl,r.kept (t':=c.toks) λb o e=>Heap.get?_push_of_some _ e,Zgk a _ o i n ⟨m,j⟩,?_,λb hb=>?_,q o⟩
 ·rw[rel.length];exact⟨_,Heap.get?_push_size _ rfl,rfl,rfl⟩
 ·have e:b=c.heap.objs.size:=by simpa using hb
  subst e;exact Yo (I1.Yp υ (I1.hok.fresh υ)) g
def Zru:Option Key->AJ->Bool
 | none,.none=>true
 | none,_=>false
 | some k,v=>En k v
theorem jj{k:Option Key}{v:AJ}(h:Zru k v=true):(k=none/\v=.none)\/∃j,k=some j/\En j v=true:=by
 cases k with
 | none=>cases v<;>first | exact .inl ⟨rfl,rfl⟩ | cases h
 | some j=>exact .inr ⟨j,rfl,h⟩
theorem Ph{j:Key}(h:En j Value.none=true):False:=by
 rcases dH h with ⟨i,t,_,e⟩ | ⟨x,t,_,e⟩<;>cases e
def Zrl(P:AM)(w:AO):PySem.KeyKind P w (Option Key) where
  is:=Zru
  hash:=λk=>match k with | none=>reduceHash 0xFCA86420 | some k=>Ztx w k
  inj:=λv a b c hb=>by
    rcases jj c with ⟨rfl,rfl⟩ | ⟨i,rfl,h1⟩
    · rcases jj hb with ⟨rfl,_⟩ | ⟨j,rfl,h2⟩
      · rfl
      · exact(Ph h2).elim
    · rcases jj hb with ⟨rfl,rfl⟩ | ⟨j,rfl,h2⟩
      · exact(Ph h1).elim
      · rw[(cU P w).inj v i j h1 h2]
  byValue:=λk v h=>by
    rcases jj h with ⟨rfl,rfl⟩ | ⟨i,rfl,h1⟩
    · rfl
    · exact(cU P w).byValue i v h1
  pyHash:=λ{A E s k v Q} hv h=>by
    rcases jj hv with ⟨rfl,rfl⟩ | ⟨i,rfl,h1⟩
    · exact W.pyHash_slot (T:="NoneType") rfl F.slot_NoneType_hash F.entry_NoneType_hash (F.args_NoneType_hash_1 _) (beq_builtin_none _) (.inl rfl) (wpAny_bind (wpAny_pure (wpAny_bind (wpAny_mkInt (wpAny_pure ⟨_,_,rfl,h⟩)))))
    · exact(cU P w).pyHash h1 h
  eqBool:=λ{A E s a b u v Q} hu hv h=>by
    rcases jj hu with ⟨rfl,rfl⟩ | ⟨i,rfl,h1⟩
    · rcases jj hv with ⟨rfl,rfl⟩ | ⟨j,rfl,h2⟩
      · exact Bb (A:=A) (s:=s) (y:=.non) (x:=.non) rfl rfl rfl rfl P w E Q h
      · rcases dH h2 with ⟨n,t,rfl,rfl⟩ | ⟨x,t,rfl,rfl⟩
        · exact Bb (A:=A) (s:=s) (y:=.non) (x:=.int n) rfl ⟨t,rfl⟩ rfl rfl P w E Q h
        · exact Bb (A:=A) (s:=s) (y:=.non) (x:=.str x) rfl ⟨t,rfl⟩ rfl rfl P w E Q h
    · rcases jj hv with ⟨rfl,rfl⟩ | ⟨j,rfl,h2⟩
      · rcases dH h1 with ⟨n,t,rfl,rfl⟩ | ⟨x,t,rfl,rfl⟩
        · exact Bb (A:=A) (s:=s) (y:=.int n) (x:=.non) ⟨t,rfl⟩ rfl rfl rfl P w E Q h
        · exact Bb (A:=A) (s:=s) (y:=.str x) (x:=.non) ⟨t,rfl⟩ rfl rfl rfl P w E Q h
      · refine(cU P w).eqBool h1 h2 ?_
        have e:decide (i=j)=decide (some i=some j):=by
          by_cases z:i=j
          · subst z;simp
          · rw[decide_eq_false z,decide_eq_false (λy=>z (Option.some.inj y))]
        rw[e];exact h
  «strs»:=λk x t v h=>by
    rcases jj h with ⟨_,e⟩ | ⟨i,rfl,h1⟩
    · cases e
    · exact(cU P w).strs i x t v h1
theorem Zkg{P:AM}{w:AO}{h:Heap}{a:AI}{vs:List (Key×AJ)}(dd:h.DictOf (cU P w) a vs):∃f,h.MapOf (Zrl P w) a f/\f none=none:=by
 obtain⟨o,b,g,d,hc,hd,hk,hp,hn⟩:=dd;refine⟨λk=>findBy (Zrl P w).is b k,⟨o,b,g,d,hc,hd,λe c=>?_,λ_=>rfl⟩,?_⟩
 ·obtain⟨k,h1,h2⟩:=hk e c;exact⟨some k,h1,h2⟩
 ·show Option.map (λx=>x.val) (Array.find? (λe=>Zru none e.key) b)=none;rw[Option.map_eq_none_iff,Array.find?_eq_none];intro e c;obtain⟨k,h1,_⟩:=hk e c;rcases dH h1 with ⟨n,t,_,z⟩ | ⟨x,t,_,z⟩<;>rw[z]<;>exact λy=>nomatch y
section
variable {X:Cx}{i o:AN}{ty td:TE}
theorem Zdk{a:List cm}{y:V}{b:Bool}(h:Zou a y=some b):(∃k,y=kV k/\b=(gR a k).isSome)\/(y=.non/\b=false):=by
 cases y<;>simp only[Zou,Option.some.injEq]at h<;>first | cases h
 ·exact .inr ⟨rfl,rfl⟩
 ·exact .inl ⟨.inl _,rfl,rfl⟩
 ·exact .inl ⟨.inr _,rfl,rfl⟩
theorem Zco(hu:X.A.units+1<cLine)(hi:PE X i ty)(g:PE X o td):PC X .NotIn i o (Zis true ty td):=by
 intro c s d H Q I h;refine fH (hi c s d H _ I h) λn m qc=>?_;obtain⟨y,H1,I1,ry,h1⟩:=qc;refine fH (g c m d H1 _ I1 h1) λe p qc=>?_;obtain⟨x,H2,I2,rx,a,kvs,b,ex,rd,hb,q⟩:=qc;subst ex;obtain rfl:e=Value.ref a:=rx;rcases Zdk hb with ⟨k,rfl,rfl⟩ | ⟨rfl,rfl⟩
 ·exact Zg4 hu I2 (.inl ⟨kvs,k,rd,rfl,rfl⟩) ry λt j=>⟨.bl _,H2,j,rfl,q⟩
 ·obtain rfl:n=Value.none:=ry;obtain⟨z,hd,r,rel,dd⟩:=uC I2.hok rd;obtain⟨f,hm,l⟩:=Zkg dd;refine wpAny_notIn_of (knd:=Zrl X.prog X.w) (k:=none) rfl hd hm ?_;rw[l];exact⟨.bl _,H2,I2.tok _,rfl,q⟩
end
section
variable {X:Cx}
end
def Zjg(d:Bool):R2:=λx y H Q=>∃(a b:AI) (c:List cm),x=.ref a/\y=.ref b/\Rd H a (.dK c)/\Rd H b (.dK [])/\Q (.bl (if d then !(c.length == 0)else c.length == 0)) H
theorem Zsc{d:Bool}{H:Hp}{Q:VK}{a b:AI}{c:List cm}(h1:H a=some (.dK c))(h2:H b=some (.dK []))(h:Q (.bl (if d then !(c.length == 0)else c.length == 0)) H):Zjg d (.ref a) (.ref b) H Q:=⟨a,b,c,rfl,rfl,.inl h1,.inl h2,h⟩
section
variable {X:Cx}
theorem Zun{P:AM}{w:AO}{A:Around}{s:AK}{b a:List (Key×AJ)}(h:a=[]):b.length=a.length->W.KeqHits A s a b true:=λe=>by
 subst h;have:b=[]:=by simpa using e
 subst this;exact .nil
theorem Znu(hu:X.A.units+1<cLine):wU X (compareOp .Eq) (Zjg false):=by
 intro b s l H x y v u Q I f d h;obtain⟨p,m,a,rfl,rfl,hx,hy,q⟩:=h;cases f;cases d;obtain⟨_,h1,k,g,d1⟩:=uC I.hok hx;obtain⟨_,h2,e,j,d2⟩:=uC I.hok hy;have c:e=[]:=by cases j;rfl
 have i:=g.length;refine W.keq_eq (r:=true) h1 h2 d1 d2 δ (Zun (P:=X.prog) (w:=X.w) c) ?_;refine⟨.bl (a.length == 0),H,I,?_,q⟩;show Value.bool _=Value.bool _;rw[c,Bool.and_true,i];rfl
end
def Ziq(M1 M2 c d:AJ->Prop)(tb:(L2.St->XK)->TS)(t1 t2 t3 e:TS):TS:=λD σ H=>tb (λa b _ H'=>(M1 b/\t1 D a H')\/(M2 b/\t2 D a H')\/(c b/\t3 D a H')\/(d b/\e D a H')) D σ H
theorem Zlg{M1 M2 f g:AJ->Prop}{tb:(L2.St->XK)->TS}{t1 t2 t3 e:TS}{σ:L2.St}{H:Hp}{n:L2.St->Hp->Prop}{r:VK}{b c:L2.St->Hp->Prop}(h:tb (λa d _ H'=>(M1 d/\t1 ⟨n,r,b,c⟩ a H')\/(M2 d/\t2 ⟨n,r,b,c⟩ a H')\/(f d/\t3 ⟨n,r,b,c⟩ a H')\/(g d/\e ⟨n,r,b,c⟩ a H')) ⟨n,r,b,c⟩ σ H):Ziq M1 M2 f g tb t1 t2 t3 e ⟨n,r,b,c⟩ σ H:=h
section
variable {X:Cx}{x1 x2 x3 x4:Str}{C1 C2 C3 C4:AI}{pos np1 np2 np3 np4 hp1 hp2 hp3 hp4:Pos}{body su1 su2 su3 su4:List Stmt}{b1 b2 b3 b4:Stmt}{M1 M2 M3 M4:AJ->Prop}{tb:(L2.St->XK)->TS}{t1 t2 t3 t4:TS}
theorem Zni(N:X.stack=X.env::X.outer/\X.env.frame=some X.env.locals)(r:Gl X x1)(x:X.mg x1=↑C1)(A:Gl X x2)(C:X.mg x2=↑C2)(T:Gl X x3)(Q:X.mg x3=↑C3)(hg4:Gl X x4)(hm4:X.mg x4=↑C4)(hM1:∀c,M1 c->W.exmOne X.K c (.ref C1)=some true)(hM2:∀c,M2 c->W.exmOne X.K c (.ref C1)=some false/\W.exmOne X.K c (.ref C2)=some true)(V:∀c,M3 c->W.exmOne X.K c (.ref C1)=some false/\W.exmOne X.K c (.ref C2)=some false/\W.exmOne X.K c (.ref C3)=some true)(hM4:∀c,M4 c->W.exmOne X.K c (.ref C1)=some false/\W.exmOne X.K c (.ref C2)=some false/\W.exmOne X.K c (.ref C3)=some false/\W.exmOne X.K c (.ref C4)=some true)
  (hb:∀(E:L2.St->XK) (pn:At) (xe:Ap),Zge (Bt X.prog X.w) (cxB X pn xe) E->QW (cxB X pn xe) body (tb E))
  (hs1:∀(b:AJ) (pn:At),QW (Lq X b pn) (b1::su1) t1) (hs2:∀(b:AJ) (pn:At),QW (Lq X b pn) (b2::su2) t2) (Z:∀(b:AJ) (pn:At),QW (Lq X b pn) (b3::su3) t3) (hs4:∀(b:AJ) (pn:At),QW (Lq X b pn) (b4::su4) t4) (p:(x1 == ("__debug__":Str))=false:=by decide) (L:(x2 == ("__debug__":Str))=false:=by decide) (P:(x3 == ("__debug__":Str))=false:=by decide) (hd4:(x4 == ("__debug__":Str))=false:=by decide):
  PS X (.Try body [.ExceptHandler (some (.Name x1 np1)) none (b1::su1) hp1,.ExceptHandler (some (.Name x2 np2)) none (b2::su2) hp2,.ExceptHandler (some (.Name x3 np3)) none (b3::su3) hp3,.ExceptHandler (some (.Name x4 np4)) none (b4::su4) hp4] [] [] pos) (Ziq M1 M2 M3 M4 tb t1 t2 t3 t4):=by
 intro a s u H D I h;refine wpAny_Try_except ?_;have hx:Zge (Bt X.prog X.w) (cxB X (X.pn++a) λe s'=>∃ u H s,Inv X a u H s/\Bt X.prog X.w X.stack H s (λd _ o=>(M1 d/\t1 D u o)\/(M2 d/\t2 D u o)\/(M3 d/\t3 D u o)\/(M4 d/\t4 D u o)) e s') (λn d _ o=>(M1 d/\t1 D n o)\/(M2 d/\t2 D n o)\/(M3 d/\t3 D n o)\/(M4 d/\t4 D n o)):=
  λpl u H s e s' J z=>⟨u,H,s,Oh I.ok J,z⟩
 refine wpAny_mono (hb _ _ _ hx [] s u H D (Zqi I _) h) (λf s1 q=>?_) λe s1 q=>?_
 ·have q:=Zqq I.ok q;cases f with
  | next=>exact wpAny_execs_nil q
  | ret v=>exact q
  | brk=>exact q
  | cont=>exact q
 ·obtain⟨t,H1,s0,J,b,d,a0,B,U,rfl,os,bare,un,ok,fl,R,m⟩:=q;have O:=fl;rw[N.1]at O;refine wpAny_looks_onW (N.1 ▸ J.ok.frames) N.2 O λh4 Zup sm4=>?_;refine wpAny_landsW Zup λh5 k Y=>?_;have l:s1.heap.UpToSlots h5:=sm4.trans Y;have g:=flown J os bare un ok fl R k.1 l;obtain⟨ob,hob,hoc⟩:=id k.there;have LT:W.Looks ς h5 (typeOf (.ref b)) d:=hoc ▸ (W.Looks.ld hob).andThen .now;rcases m with ⟨m,j⟩ | ⟨m,j⟩ | ⟨m,j⟩ | ⟨m,j⟩
  ·have y:=hM1 d m;refine wpAny_handleBy_cons bN eg;refine(W.exm_one g.qg LT y).here ?_;refine codeAny_handlers_suite ?_;refine lands_againW k λh6 i F=>?_;have M:=flown J os bare un ok fl R i.1 (l.trans F);refine wpAny_mono (hs1 (.ref b) (X.pn++a) [] _ t U D (lA M (.ref b)) j) (λf s2 q=>Wt I.ok q) λ_ _ z=>z.elim
  ·obtain⟨y,S⟩:=hM2 d m;refine wpAny_handleBy_cons bN eg;refine(W.exm_one g.qg LT y).here ?_;refine wpAny_handleBy_cons eh eg;refine(W.exm_one g.qg LT S).here ?_;refine codeAny_handlers_suite ?_;refine lands_againW k λh6 i F=>?_;have M:=flown J os bare un ok fl R i.1 (l.trans F);refine wpAny_mono (hs2 (.ref b) (X.pn++a) [] _ t U D (lA M (.ref b)) j) (λf s2 q=>Wt I.ok q) λ_ _ z=>z.elim
  ·obtain⟨y,S,m3⟩:=V d m;refine wpAny_handleBy_cons bN eg;refine(W.exm_one g.qg LT y).here ?_;refine wpAny_handleBy_cons eh eg;refine(W.exm_one g.qg LT S).here ?_;refine wpAny_handleBy_cons (codeAny_handlers_test (fZ (X:=Lq X (.ref b) (X.pn++a)) (lA g (.ref b)) T Q ?_ P)) eg;refine(W.exm_one g.qg LT m3).here ?_;refine codeAny_handlers_suite ?_;refine lands_againW k λh6 i F=>?_;have M:=flown J os bare un ok fl R i.1 (l.trans F);refine wpAny_mono (Z (.ref b) (X.pn++a) [] _ t U D (lA M (.ref b)) j) (λf s2 q=>Wt I.ok q) λ_ _ z=>z.elim
  ·obtain⟨y,S,m3,m4⟩:=hM4 d m;refine wpAny_handleBy_cons bN eg;refine(W.exm_one g.qg LT y).here ?_;refine wpAny_handleBy_cons eh eg;refine(W.exm_one g.qg LT S).here ?_;refine wpAny_handleBy_cons (codeAny_handlers_test (fZ (X:=Lq X (.ref b) (X.pn++a)) (lA g (.ref b)) T Q ?_ P)) eg;refine(W.exm_one g.qg LT m3).here ?_;refine wpAny_handleBy_cons (codeAny_handlers_test (fZ (X:=Lq X (.ref b) (X.pn++a)) (lA g (.ref b)) hg4 hm4 ?_ hd4)) eg;refine(W.exm_one g.qg LT m4).here ?_;refine codeAny_handlers_suite ?_;refine lands_againW k λh6 i F=>?_;have M:=flown J os bare un ok fl R i.1 (l.trans F);refine wpAny_mono (hs4 (.ref b) (X.pn++a) [] _ t U D (lA M (.ref b)) j) (λf s2 q=>Wt I.ok q) λ_ _ z=>z.elim
end
end G
namespace G
open PySem L2
end G
namespace G
open PySem L2 PySem.Spec PyProof.Rows
def HS(v d:AI):HO:=.ext λh=>h.IsValuesView v d
def Zio(d:TE):TE:=λσ H Q=>d σ H λx b=>∃a c,x=.ref a/\Rd b a (.dK c)/\∀v,b v=none->Q (.ref v) (upd b v (HS v a))
theorem Zrx{d:TE}{σ:L2.St}{H:Hp}{Q:VK}(h:d σ H λx b=>∃a c,x=.ref a/\Rd b a (.dK c)/\∀v,b v=none->Q (.ref v) (upd b v (HS v a))):Zio d σ H Q:=h
theorem Zh3{X:Cx}{o:AN}{l:TE}{d c:Pos}(j:PE X o l)(f:attributeBase o "values" X.env (eval o X.env)=eval o X.env:=by rfl)(g:(d.endLine == c.line)=true:=by rfl):
  PE X (.Call (.Attribute o "values" d) [] [] c) (Zio l):=by
 intro i s p H Q I h;refine wpAny_Call_method0_late f g (fH (j i s p H _ I h) λu m qc=>?_);obtain⟨x,H1,I1,rx,a,kvs,ex,rd,q⟩:=qc;subst ex;obtain rfl:u=Value.ref a:=rx;obtain⟨t1,t2,hd⟩:=Zde I1 (.inl ⟨kvs,rd⟩);obtain⟨z,_,n,rel,dd⟩:=uC I1.hok rd;refine⟨"dict","dict.values",PySem.F.plainAttrs_dict,PySem.F.slot_dict_values,PySem.F.type_dict_values,t1,t2,Calls.callWith_builtin rfl (PySem.evalArgs_none ?_)⟩;refine call_meetsIn PySem.F.slot_dict_values t1 PySem.F.entry_dict_values (PySem.F.args_dict_values_1 _) (meets_dict_values (cU X.prog X.w) a hd) ⟨⟨n,dd⟩,?_⟩;have hn:=I1.hok.fresh υ;refine⟨.ref m.heap.objs.size,_,I1.laid (t':=m.toks) (λb u e=>Heap.get?_push_of_some _ e) υ ?_,rfl,q _ hn⟩;exact⟨⟨_,Heap.get?_push_size _ rfl,rfl,rfl⟩,⟨_,Heap.get?_push_size _ rfl⟩,(by rintro h1 h2 ⟨o,j,r⟩ k;exact⟨o,k o j,r⟩)⟩
def Itv(a:AI)(o:Obj)(b:List cm):It:=
 ⟨λi H=>H a=some (.oX o (.dK b))/\i<b.length,λi H x H'=>H'=H/\∃kv,b[i]? =some kv/\x=kv.2,λi H=>H a=some (.oX o (.dK b))/\b.length<=i⟩
def Zll(d:TE):TI:=λσ H R=>d σ H λx c=>∃v a b,x=.ref v/\c v=some (HS v a)/\c a=some (.dK b)/\∀o,R (Itv a o b) (upd c a (.oX o (.dK b)))
theorem Zwe{d:TE}{σ:L2.St}{H:Hp}{R:It->Hp->Prop}(h:d σ H λx c=>∃v a b,x=.ref v/\c v=some (HS v a)/\c a=some (.dK b)/\∀o,R (Itv a o b) (upd c a (.oX o (.dK b)))):Zll d σ H R:=h
theorem Zh4{c a:Type}{R:c->a->Prop}{xs:List c}{b:List a}(p:Paired R xs b):∀(i:Nat) x y,xs[i]? =some x->b[i]? =some y->R x y:=by
 induction p with
 | nil=>
  intro i x y h;simp at h
 | cons r rs d=>
  intro i x y h1 h2;cases i with
  | zero=>
   cases h1;cases h2;exact r
  | succ i=>exact d i _ _ (by simpa using h1) (by simpa using h2)
theorem Zgh{P:AM}{w:AO}{K:aC}{tg:AN}(a p:AI)(o:Obj)(f:List cm)(y:Nat)(u:∃D,o.data=.dict D y):Turn P w K tg (Itv a o f) [p] p (λi h=>h.IsValIter p a i f.length y) where
  mem:=ζ
  obj:=λi h st b hb=>by
    have e:b=p:=by simpa using hb
    subst e;obtain⟨o,e,c,d⟩:=st;exact⟨o,e,λv z=>by rw[d]at z;cases z⟩
  keep:=λi h B st k=>by
    obtain⟨o,e,r⟩:=st;exact⟨o,k p ζ o e,r⟩
  item:=by
    intro X T L O hc i m s U H E I A st hg;subst T L O;obtain⟨hz,hi⟩:=hg;obtain⟨F,z,hd,g,rel,dd⟩:s.heap.get? a=some o/\f.length<=sizeLine/\(a == sysModules)=false/\∃g,KV f g/\s.heap.DictOf (cU X.prog X.w) a g:=I.hok a _ hz;obtain⟨n,hm⟩:=dd.dictAt;obtain⟨D,q⟩:=u;have Q:n=y:=by
      obtain⟨Z,R,l,_,j,_⟩:=id hm;rw[F]at l;cases l;rw[q]at j;injection j with _ e;exact e.symm
    subst Q;have hl:=rel.length;have hv:g[i]? =some g[i]:=bD δ;have x:f[i]? =some f[i]:=bD hi;have hk:RelV f[i].2 g[i].2:=(Zh4 rel i _ _ x hv).2;obtain⟨M,C,Y,N,S,J⟩:=A p ζ;rw[hl]at st;refine wpAny_pyNext_values_item st hm (k:=g[i].1) (v:=g[i].2) (by rw[hv]) λB t sb=>?_;have W:Inv X m U H { s with heap:=B }:=I.turned (t':=s.toks) (λb o hb e=>(sb.2 b hb).trans e) M C N S J;obtain⟨oi,e,c,d⟩:=id t;exact⟨_,rfl,Zfr (s:={ s with heap:=B }) e c d ε ⟨f[i].2,H,W,hk,⟨rfl,_,x,rfl⟩,by rw[hl];exact t,λb hb=>(A b hb).1⟩⟩
  done:=by
    intro X T L O hc i m s U H E I A st hg;subst T L O;obtain⟨hz,hi⟩:=hg;obtain⟨F,z,hd,g,rel,dd⟩:s.heap.get? a=some o/\f.length<=sizeLine/\(a == sysModules)=false/\∃g,KV f g/\s.heap.DictOf (cU X.prog X.w) a g:=I.hok a _ hz;obtain⟨n,hm⟩:=dd.dictAt;obtain⟨D,q⟩:=u;have Q:n=y:=by
      obtain⟨Z,R,l,_,j,_⟩:=id hm;rw[F]at l;cases l;rw[q]at j;injection j with _ e;exact e.symm
    subst Q;have hl:=rel.length;obtain⟨M,C,Y,N,S,J⟩:=A p ζ;rw[hl]at st;exact wpAny_pyNext_values_end (I.ok.hd hc) st hm (by rw[List.getElem?_eq_none];omega) λB eb=>⟨rfl,I.turned (t':=s.toks) (λb o hb e=>eb b o hb e) M C N S J⟩
  self:=λ_ _ _ _ _ st h=>wpAny_pyIter_valiter st h
theorem Znk{X:Cx}{tg:AN}{e:AN}{l:TE}(p:PE X e l):PI X tg e (Zll l):=by
 intro d s r H R I h;refine fH (p d s r H _ I h) λu c qc=>?_;obtain⟨x,H1,I1,r1,q1⟩:=qc;obtain⟨v,a,i,e,hv,hq,q⟩:=q1;subst e;obtain rfl:u=Value.ref v:=r1;have g:c.heap.IsValuesView v a:=(I1.hok v _ hv).1;obtain⟨z,hs,w,rel,dd⟩:=Zb6 I1.hok hq;obtain⟨n,hm⟩:=dd.dictAt;obtain⟨o,m,k,_,j,_⟩:=id hm;refine wpAny_pyIter_values g hm ?_;have t:=Zav I1 hq k;have f:c.heap.objs.size≠a:=Nat.ne_of_gt (Heap.lt_size k);refine⟨c.heap.objs.size,[c.heap.objs.size],_,_,_,rfl,t.kept (t':=c.toks) λb o e=>Heap.get?_push_of_some _ e,Zgh a _ o i n ⟨m,j⟩,?_,λb hb=>?_,q o⟩
 ·rw[rel.length];exact⟨_,Heap.get?_push_size _ rfl,rfl,rfl⟩
 ·have e:b=c.heap.objs.size:=by simpa using hb
  subst e;exact Yo (I1.Yp υ (I1.hok.fresh υ)) f
theorem Zgl{X:Cx}{pins:At}{σ:L2.St}{H:Hp}{s:AK}{a:AI}{o:Obj}{d:List cm}(I:Inv X pins σ H s)(h:H a=some (.oX o (.dK d)))(hn:∀o' u,X.H₀ a≠some (.oX o' u)):Inv X pins σ (upd H a (.dK d)) s:=by
 have ne:∀b u,H b=some u->u≠.oX o (.dK d)->b≠a:=λb u q n z=>n (by rw[z,h]at q;exact(Option.some.inj q).symm);have j:∀b,H b=none->upd H a (.dK d) b=none:=λb q=>(aA (λz=>by rw[z,h]at q;cases q)).trans q;have hs:∀c u,H c=some u->u≠.oX o (.dK d)->upd H a (.dK d) c=some u:=λc u z n=>by rw[aA (ne c u z n)];exact z
 obtain⟨m,C,K,f,w,r,D,t,E,i,k⟩:=I;refine⟨m,C,K,⟨f.keep,f.slot,λb ob e n hx=>j b (f.free b ob e n hx),f.there,λb l e=>hs b _ (f.tups b l e) a8,λb ob u e=>(aA (a:=a) (b:=b) (λz=>hn ob u (by rw[<- z];exact e))).trans (f.Ho b ob u e),λb A e=>?_⟩,w,r,j _ D,λx c e=>j _ (t x c e),λp hp=>?_,λb u q=>?_,k⟩
 ·obtain⟨g,q⟩:=f.Kl b A e;exact⟨g,hs b _ q a8⟩
 ·obtain⟨J,F,B⟩:=E p hp;exact⟨J,j _ F,B⟩
 ·by_cases hb:b=a
  ·subst hb;rw[aq]at q;cases q;exact(i b _ h).2.stay (λc v _ z=>z) (λc z=>hs c _ z (λy=>by cases y)) λc l z=>hs c _ z (λy=>by cases y)
  ·rw[aA hb]at q;exact(i b u q).stay (λc v _ z=>z) (λc z=>hs c _ z (λy=>by cases y)) λc l z=>hs c _ z (λy=>by cases y)
def Zir(d:Hp)(e:TE):TE:=λσ H Q=>e σ H λx c=>∃a o b,c a=some (.oX o (.dK b))/\(∀o' u,d a≠some (.oX o' u))/\Q x (upd c a (.dK b))
theorem Zry{d:Hp}{e:TE}{σ:L2.St}{H:Hp}{Q:VK}(h:e σ H λx c=>∃a o b,c a=some (.oX o (.dK b))/\(∀o' u,d a≠some (.oX o' u))/\Q x (upd c a (.dK b))):Zir d e σ H Q:=h
theorem Znm{X:Cx}{e:AN}{c:TE}(d:PE X e c):PE X e (Zir X.H₀ c):=by
 intro b s f H Q I h;refine fH (d b s f H _ I h) λu g qc=>?_;obtain⟨x,H1,I1,r1,a,o,kvs,ha,hn,q⟩:=qc;exact⟨x,_,Zgl I1 ha hn,r1,q⟩
def Zqk(K:aC)(a:TE):TT:=λσ H Q=>a σ H λx H'=>∃k,Zmj K x H' k/\Q k H'
theorem Zpz{K:aC}{a:TE}{σ:L2.St}{H:Hp}{Q:Bool->Hp->Prop}(h:a σ H λx H'=>∃k,Zmj K x H' k/\Q k H'):Zqk K a σ H Q:=h
theorem Ztf{K:aC}{H:Hp}{a:AI}{xs:List V}{P:Bool->Prop}(h:cC K H a xs)(q:P (!xs.isEmpty)):∃k,Zmj K (.ref a) H k/\P k:=⟨_,.inl ⟨xs,h,rfl⟩,q⟩
def Zme(K:aC):List V->Hp->VK->Prop:=λxs H Q=>∃p a,xs=[.ref p]/\(cC K H p a\/cP K H p a)/\∀l,H l=none->Q (.ref l) (upd H l (.lst a))
theorem Zol{K:aC}{H:Hp}{Q:VK}{p:AI}{a:List V}(h1:cP K H p a)(h:∀l,H l=none->Q (.ref l) (upd H l (.lst a))):Zme K [.ref p] H Q:=⟨p,a,rfl,.inr h1,h⟩
section
variable {X:Cx}
end
def Zby(t:TE):TO:=λσ H Q=>t σ H λx a=>(x=.non/\Q none a)\/∃i,x=.int i/\Q (some i) a
theorem Zog{b:TE}{σ:L2.St}{H:Hp}{Q:AA->Hp->Prop}(h:b σ H λx a=>(x=.non/\Q none a)\/∃i,x=.int i/\Q (some i) a):Zby b σ H Q:=h
theorem Zr0{X:Cx}{e:AN}{b:TE}(h:PE X e b):PO X (some e) (Zby b):=by
 intro a s c H Q I d;rw[evalPart_some];refine fH (h a s c H _ I d) λu f qc=>?_;obtain⟨x,H1,I1,r1,q1⟩:=qc;rcases q1 with ⟨rfl,q⟩ | ⟨i,rfl,q⟩
 ·cases r1;exact⟨none,H1,I1,.none,q⟩
 ·obtain⟨t,rfl⟩:=r1;exact⟨some i,H1,I1,.int i t,q⟩
structure FnH(P:AM)(w:AO)(K:aC)(mg:As)(base:Heap)(CX:Ze)(k:Nat)(f:AI)(fd:AL)(ps:AH)(sp:Sp):Prop where
 len:∀vs H Q E,sp vs H Q E->vs.length=ps.length
 run:∀(A:Around) (ea:AJ) (outer:List Env) (s:AK) (H:Hp) (args:Args) (us:AC) (vs:List V) (Q:VK) (E:XK),Room k A->Zc P w K mg base (A.mark (some ea)) outer s H->BindsTo s fd args (ps.zip us)->Vals vs us->sp vs H Q E->
  codeAny (model P w) (A.mark (some ea)) (.call (.ref f) args) (CR CX outer P w H s Q E) s
structure HhH(P:AM)(w:AO)(K:aC)(mg:As)(base:Heap)(n:Nat)(f:AI)(fd:AL)(ps:AH)(sp:Sp):Prop where
 g:FnH P w K mg base (Bt P w) n f fd ps sp
 b:Binds K fd ps []
 k:W.keepIn K (.ref f)=true
theorem Zx2{P:AM}{w:AO}{K:aC}{mg:As}{base:Heap}{x a:Str}{st:Stmt}{f:AI}{fd:AL}{N ps:AH}{k:Nat}{sp:Sp}(F:Fun K x a st f fd)(S:aM N ps eo)(len:∀vs H Q E,sp vs H Q E->vs.length=ps.length)
  (h:∀(c i:AJ) (A:Around) (outer:List Env) (s:AK) (H:Hp) (vs:List V) (Q:VK) (E:XK),Room k (A.deeper (envOfC a eo s.heap.objs.size f c))->sp vs H Q E->
   ∃t,QW (Lq (yh (Bt P w) P w K mg base N a eo f c A outer s H E) i []) (eX st) t/\t { nx:=λ_ H'=>Q .non H',rt:=Q } (start N vs) H):FnH P w K mg base (Bt P w) dC f fd ps sp:=by
 obtain⟨oc,od,kV,U,X,Y,c,ct,R,rfl,lk,p⟩:=F.ex;refine⟨len,λA i outer s H C us vs Q E hr d hb r l=>?_⟩;have hl:=len _ _ _ _ l;have D:K.In s.heap:=d.mod.kin.keeps λb o e=>(d.bs b o e).1;have m:s.heap.NoLimit:=d.mod.nolimit.keeps λb o e=>(d.bs b o e).1;have j:∀y∈ps.zip us,(aF st).names.lookup y.1=some .local\/((aF st).names.lookup y.1=some .cell/\((cellsFrom ae (aF st).names []).lookup y.1).isSome=true):=λ⟨n,v⟩ hy=>by
  rcases S.par n (List.of_mem_zip hy).1 with q | q
  ·exact .inl q
  ·exact .inr ⟨q,W.cellsFrom_some _ _ _ (.inl q)⟩
 refine codeAny_call_function (show(A.mark (some i)).depth<recursionLimit from hr.depth) (D _ _ lk) rfl S.co S.gen rfl (W.codeRec_of D p) (hb _ _ _ _ ?_);refine wpAny_newFunctionEnv_cells S.kind j λenv M L y=>?_;subst M;refine⟨m.keeps y.toInCall.keep,codeAny_func ?_⟩;obtain⟨t,T,hq⟩:=h c i A outer s H vs Q E (hr.deeper _) l;have O:Zc P w K mg base A outer s H:=⟨d.frames,d.mod,d.bs,d.bsz,d.ur,d.frf,d.hok,d.bare⟩;have I:Inv (Lq (yh (Bt P w) P w K mg base N a eo f c A outer s H E) i []) [] (start N vs) H L:=lA (pins:=[]) (Vr S hr.hd O hl r y) i;refine wpAny_mono (T [] L (start N vs) H _ I hq) (λfl B hs=>?_) λe B hs=>hs.elim;have fin:∀{g:L2.St}{H':Hp}{v:V}{u:AJ},Inv (Lq (yh (Bt P w) P w K mg base N a eo f c A outer s H E) i []) [] g H' B->RelV v u->Q v H'->CE outer P w H s Q u B:=
  λ{g H' v u} J z q=>⟨v,H',J.os,J.bare,J.base,J.hok,z,q⟩
 cases fl with
 | ret u=>
  obtain⟨v,g,H',J,z,q⟩:=hs;exact fin J z q
 | next=>
  obtain⟨g,H',J,q⟩:=hs;exact fin (v:=V.non) (u:=Value.none) J rfl q
 | brk=>
  obtain⟨_,_,_,q⟩:=hs;exact False.elim q
 | cont=>
  obtain⟨_,_,_,q⟩:=hs;exact False.elim q
theorem Dn{X:Cx}{n k:Nat}{f:AI}{fd:AL}{ps:AH}{sp:Sp}{x:Str}{p c:Pos}{e:AN}{d:AG}{t:TA}{i:AJ}{pn:At}(F:HhH X.prog X.w X.K X.mg X.base n f fd ps sp)(hr:Room k X.A)(hm:X.mg x=↑f)
  (C:PA (Lq X i pn) (e::d) t) (hn:n<=k:=by decide) (hg:X.env.kindOf x=some .globalImplicit:=by rfl) (l:(x == ("__debug__":Str))=false:=by decide) (z:starEach (e::d) X.env=(false,eval e X.env)::starEach d X.env:=by rfl) (m:(backTo c (starEach d X.env)).any (·.1)=false:=by rfl):
  PE (Lq X i pn) (.Call (.Name x p) (e::d) [] c) (aU sp [] E0 t):=by
 intro a s v H Q I h;refine wpAny_Call_Name_kw (fZ I hg hm ?_ l);refine W.callWith_K (h₀:=X.base) I.ok.mod.kin F.k (fH (C c a s v H _ I h) λus j ⟨o,H1,I1,r,q⟩=>⟨I1.qg,?_⟩) z m;have y:Vals (o++[]) (us++[]):=r.append .nil;have hl:(us++[]).length=ps.length:=by rw[<- y.length];exact F.g.len _ _ _ _ q
 refine wpAny_call (codeAny_mono (F.g.run X.A i X.stack j H1 ⟨us,[]⟩ (us++[]) (o++[]) _ E0 (hr.mono hn) I1.env0 (F.b j us I1.qg hl) y q) λr B hq=>?_);cases r with
 | error e=>exact dG (X:=Lq X i pn) a v H1 j e B I1 hq
 | ok fl=>
  cases fl with
  | ret u=>exact I1.after hq
  | next=>exact False.elim hq
  | brk=>exact False.elim hq
  | cont=>exact False.elim hq
def Itz(K:aC)(a b:AI):It:=
  ⟨λi H=>∃xs c x y,cC K H a xs/\cC K H b c/\xs[i]? =some x/\c[i]? =some y,
   λi H v H'=>∃t x y,v=.ref t/\H t=none/\H'=upd H t (.tup [x,y])/\(∀xs,cC K H a xs->xs[i]? =some x)/\∀c,cC K H b c->c[i]? =some y,
   λi H=>∃xs c,cC K H a xs/\cC K H b c/\(xs.length<=i\/c.length<=i)⟩
def Zsk(K:aC)(ta:TA):TI:=λσ H R=>ta σ H λvs c=>∃a b,vs=[.ref a,.ref b]/\(∃xs,cC K c a xs)/\(∃d,cC K c b d)/\R (Itz K a b) c
theorem Zwd{K:aC}{ta:TA}{σ:L2.St}{H:Hp}{R:It->Hp->Prop}(h:ta σ H λvs c=>∃a b,vs=[.ref a,.ref b]/\(∃xs,cC K c a xs)/\(∃d,cC K c b d)/\R (Itz K a b) c):Zsk K ta σ H R:=h
section
variable {X:Cx}{pins:At}{σ:L2.St}{H:Hp}{s:AK}{h':Heap}{t':Nat}{ch:AF}
theorem Zhi(I:Inv X pins σ H s)(k:∀b u,b∉ch->s.heap.get? b=some u->h'.get? b=some u)(f:∀e∈ch,oE X pins H e):Inv X pins σ H { s with heap:=h',toks:=t' }:=by
 have ne:∀b u,H b=some u->b∉ch:=λb u q z=>by rw[(f b z).1]at q;cases q
 refine I.step (g':=s.gens) (d':=s.drawn) (ch:=ch) (λb hb=>⟨(f b hb).2.2.2.1,(f b hb).2.1,(f b hb).2.2.2.2.1,(f b hb).2.2.2.2.2⟩) (λb o _ _ hc q _=>k b o hc q) (λb o _ _ hc q _=>⟨o.slots,k b o hc q⟩) (λ_ _ _ _ n=>n)
  (λb o hc q=>⟨o,k b o hc q⟩) (λ_ _ q=>q) (λ_ _ _ q=>q) (λb h q=>⟨#[],by rw[q];simp⟩) (λm hm=>?_) (λb u q=>?_) I.bare
 ·obtain⟨o,a,g,d,r⟩:=hm;exact⟨o,a,g,k _ o (λz=>(f _ z).2.1 rfl) d,r⟩
 ·refine(I.hok b u q).stay (λc v hc z=>?_) (λ_ z=>z) λ_ _ z=>z;rcases hc with y | y
  ·rw[y]at z ⊢;exact k b v (ne b u q) z
  ·exact k c v (ne c _ y) z
theorem PX{a:AI}{o:HO}(I:Inv X pins σ H s)(k:∀b u,b∉ch->s.heap.get? b=some u->h'.get? b=some u)(f:∀e∈ch,oE X pins H e)(d:s.heap.objs.size<=a)(new:gq X.prog X.w ee h' a o):Inv X pins σ ee { s with heap:=h',toks:=t' }:=by
 have hn:=I.hok.fresh d;have ne:∀b u,H b=some u->b∉ch:=λb u q z=>by rw[(f b z).1]at q;cases q
 have l:∀b u,s.heap.get? b=some u->b≠a:=λb u q=>Nat.ne_of_lt (Nat.lt_of_lt_of_le (Heap.lt_size q) d);refine I.step (g':=s.gens) (d':=s.drawn) (ch:=ch) (λb hb=>⟨(f b hb).2.2.2.1,(f b hb).2.1,(f b hb).2.2.2.2.1,(f b hb).2.2.2.2.2⟩) (λb o _ _ hc q _=>k b o hc q) (λb o _ _ hc q _=>⟨o.slots,k b o hc q⟩) (λb u _ q n=>(aA (l b u q)).trans n)
  (λb o hc q=>⟨o,k b o hc q⟩) (λb g q=>(aA (aD q hn)).trans q) (λb o g q=>(aA (aD q hn)).trans q) (λb p q=>⟨#[],by rw[aA (aD q hn),q];simp⟩) (λm hm=>?_) (λb u q=>?_) I.bare
 ·obtain⟨o,h,j,i,r⟩:=hm;exact⟨o,h,j,k _ o (λz=>(f _ z).2.1 rfl) i,r⟩
 ·by_cases hb:b=a
  ·subst hb;rw[aq]at q;cases q;exact new
  ·rw[aA hb]at q;refine(I.hok b u q).stay (λc v hc z=>?_) (λc z=>by rw[aA (aD z hn)];exact z) λc g z=>by rw[aA (aD z hn)];exact z
   rcases hc with y | y
   ·rw[y]at z ⊢;exact k b v (ne b u q) z
   ·exact k c v (ne c _ y) z
end
structure Zd(z TI TO i1 i2:AI):Prop where
 TIz:TI≠z
 TOz:TO≠z
 i1z:i1≠z
 i2z:i2≠z
 TITO:TI≠TO
 TIi1:TI≠i1
 TIi2:TI≠i2
 TOi1:TO≠i1
 TOi2:TO≠i2
 i12:i1≠i2
def Zqb(a b z TI TO d c:AI)(i:Nat)(h:Heap):Prop:=IsZip h z TI TO .none/\IsPair h TI (.ref d) (.ref c)/\(∃u v,IsPair h TO u v)/\h.IsListIter d a i/\h.IsListIter c b i
theorem Ti{a b z TI TO j l:AI}{i:Nat}{h:Heap}{xs s:Array AJ}(d:Zd z TI TO j l)(st:Zqb a b z TI TO j l i h)(t:h.IsList a xs)(hb:h.IsList b s):ZipApart z TI TO j l a b:=by
 obtain⟨hz,r,⟨u,v,n⟩,h1,h2⟩:=st;have A:∀{c:AI}{p:Array AJ},h.IsList c p->c≠z/\c≠TO/\c≠j/\c≠l:=λ{c p} hc=>by
  obtain⟨o,g,f,hd⟩:=hc;refine⟨λe=>?_,λe=>?_,λe=>?_,λe=>?_⟩
  ·subst e;rw[hz]at g;cases g;simp at f
  ·subst e;rw[n]at g;cases g;simp at f
  ·subst e;obtain⟨o2,q,c2,d2⟩:=h1;rw[q]at g;cases g;rw[f]at c2;simp at c2
  ·subst e;obtain⟨o2,q,c2,d2⟩:=h2;rw[q]at g;cases g;rw[f]at c2;simp at c2
 have m:=A t;have k:=A hb;exact⟨d.TIz,d.TOz,d.i1z,d.i2z,d.TITO,d.TIi1,d.TIi2,d.TOi1,d.TOi2,d.i12,m.1,m.2.1,m.2.2.1,m.2.2.2,k.1,k.2.1,k.2.2.1,k.2.2.2⟩
theorem Zil{P:AM}{w:AO}{K:aC}{C:AG}{x1:Nat}{pt:Pos}(a b z TI TO m n:AI)(D:Zd z TI TO m n):
    Turn P w K (.Tuple C x1 pt) (Itz K a b) [z,TI,TO,m,n] z (Zqb a b z TI TO m n) where
  mem:=ζ
  obj:=λi h st c hc=>by
    obtain⟨hz,f,⟨u,v,g⟩,⟨o1,q1,c1,d1⟩,⟨o2,q2,c2,d2⟩⟩:=st;simp only[List.mem_cons,List.not_mem_nil,or_false]at hc;rcases hc with e | e | e | e | e
    · rw[e];exact⟨_,hz,λv z=>by cases z⟩
    · rw[e];exact⟨_,f,λv z=>by cases z⟩
    · rw[e];exact⟨_,g,λv z=>by cases z⟩
    · rw[e];exact⟨o1,q1,λv z=>by rw[d1]at z;cases z⟩
    · rw[e];exact⟨o2,q2,λv z=>by rw[d2]at z;cases z⟩
  keep:=λi h L st k=>by
    obtain⟨hz,f,⟨u,v,g⟩,h1,h2⟩:=st;exact⟨k z ζ _ hz,k TI ζ _ f,⟨u,v,k TO ζ _ g⟩,h1.at λo q=>k m ζ o q,h2.at λo q=>k n ζ o q⟩
  item:=by
    intro X O U N hc i l s Z H E I J st hg;subst O U N;obtain⟨xs,ys,x,y,hq,hr,hx,hy⟩:=hg;obtain⟨V,W,p,R⟩:=I.list hq;obtain⟨T,t,F,S⟩:=I.list hr;obtain⟨u,hu,ru⟩:=W.get hx;obtain⟨v,hv,Y⟩:=t.get hy;have AP:=Ti D st p.isList F.isList;obtain⟨hz,f,⟨o1,o2,g⟩,h1,h2⟩:=st;have lt:∀{c o},s.heap.get? c=some o->c<s.heap.objs.size:=λe=>Heap.lt_size e;have l1:m<s.heap.objs.size:=by obtain⟨_,e,_⟩:=h1;exact lt e
    have l2:n<s.heap.objs.size:=by obtain⟨_,e,_⟩:=h2;exact lt e
    refine wpAny_pyNext_zip_item AP hz f g h1 h2 p.isList F.isList (x:=u) (y:=v) (by simpa using hu) (by simpa using hv) λL a1 a2 a3 a4 a5 a6 hk=>?_;refine⟨_,rfl,wpAny_letOwnedTupleGo_zip (s:={ s with heap:=L }) a1 λB M j=>?_⟩
    replace j:Heap.SameBut z L B:=j
    have hn:H s.heap.objs.size=none:=I.hok.fresh υ;have I2:Inv X l Z (upd H s.heap.objs.size (.tup [x,y])) { s with heap:=B,toks:=s.toks }:=by
      refine PX (ch:=[z,TI,TO,m,n]) I (λc o d q=>?_) J υ ?_
      · simp only[List.mem_cons,List.not_mem_nil,or_false,not_or]at d
        exact j.extBut c o d.1 (hk c o d.1 d.2.2.1 d.2.2.2.1 d.2.2.2.2 q)
      · exact⟨by show 2<=sizeLine;decide,[u,v],.cons ru (.cons Y .nil),⟨_,j.extBut _ _ (Nat.ne_of_gt (lt hz)) a5,rfl,_,rfl⟩⟩
    refine⟨.ref s.heap.objs.size,_,I2,rfl,⟨_,x,y,rfl,hn,rfl,λzs h=>by rw[I.El h hq];exact hx,λzs h=>by rw[I.El h hr];exact hy⟩,⟨M,?_,?_,?_,?_⟩,λc r=>?_⟩
    · exact j.extBut _ _ D.TIz (hk TI _ D.TIz D.TITO D.TIi1 D.TIi2 f)
    · exact⟨u,v,j.extBut _ _ D.TOz a2⟩
    · exact a3.extBut j.extBut D.i1z
    · exact a4.extBut j.extBut D.i2z
    · have lc:c<s.heap.objs.size:=by
        simp only[List.mem_cons,List.not_mem_nil,or_false]at r;rcases r with e | e | e | e | e
        · rw[e];exact lt hz
        · rw[e];exact lt f
        · rw[e];exact lt g
        · rw[e];exact l1
        · rw[e];exact l2
      rw[aA (Nat.ne_of_lt lc)];exact(J c r).1
  done:=by
    intro X O U N hc i l s Z H E I J st hg;subst O U N;obtain⟨xs,ys,hq,hr,hx⟩:=hg;obtain⟨V,W,p,R⟩:=I.list hq;obtain⟨T,t,F,S⟩:=I.list hr;have AP:=Ti D st p.isList F.isList;obtain⟨hz,f,⟨o1,o2,g⟩,h1,h2⟩:=st;have e1:=W.length;have e2:=t.length;refine wpAny_pyNext_zip_end (I.ok.hd hc) AP hz f g h1 h2 p.isList F.isList ?_ λL hk=>⟨rfl,Zhi (ch:=[z,TI,TO,m,n]) (t':=s.toks) I (λc o d q=>?_) J⟩
    · rcases hx with hx | hx
      · exact .inl (by simp;omega)
      · exact .inr (by simp;omega)
    · simp only[List.mem_cons,List.not_mem_nil,or_false,not_or]at d
      exact hk c o d.1 d.2.2.1 d.2.2.2.1 d.2.2.2.2 q
  self:=λA i s Q E st h=>wpAny_pyIter_zip st.1 h
theorem Ztc(n:Nat):Zd (n+4) (n+2) (n+3) n (n+1):=⟨(by omega:((n+2:Nat)≠(n+4:Nat))),(by omega:((n+3:Nat)≠(n+4:Nat))),(by omega:((n:Nat)≠(n+4:Nat))),(by omega:((n+1:Nat)≠(n+4:Nat))),(by omega:((n+2:Nat)≠(n+3:Nat))),(by omega:((n+2:Nat)≠(n:Nat))),(by omega:((n+2:Nat)≠(n+1:Nat))),(by omega:((n+3:Nat)≠(n:Nat))),(by omega:((n+3:Nat)≠(n+1:Nat))),(by omega:((n:Nat)≠(n+1:Nat)))⟩
theorem Zr1{X:Cx}{i:AG}{w:Nat}{pt:Pos}{l r:AN}{ta:TA}{p g:Pos}(hg:Gl X "zip")(hm:X.mg "zip"=none)(L:PA X [l,r] ta)(hs:starEach [l,r] X.env=(false,eval l X.env)::starEach [r] X.env:=by rfl)(hp:(backTo g (starEach [r] X.env)).any (·.1)=false:=by rfl):
  PI X (.Tuple i w pt) (.Call (.Name "zip" p) [l,r] [] g) (Zsk X.K ta):=by
 intro d s v H R I h;refine Call_ (G4 I hg hm boot_zip (PyProof.Rows.callWith_type1 (fH (L g d s v H _ I h) λus f qc=>?_) hs hp));obtain⟨M,H1,I1,r1,q1⟩:=qc;obtain⟨a,b,e,⟨P,hq⟩,⟨N,hr⟩,q⟩:=q1;subst e;cases r1 with
 | cons z n=>
  cases n with
  | cons A n=>
   cases n;obtain rfl:_=Value.ref a:=z;obtain rfl:_=Value.ref b:=A;obtain⟨B,O,y,hz⟩:=I1.list hq;obtain⟨F,D,t,x⟩:=I1.list hr;refine call_zip_2 y.isList t.isList λu j k m h1 h2 E hk=>?_;have J:Inv X d v H1 { f with heap:=u }:=I1.kept (t':=f.toks) hk
   refine wpAny_pyIter_zip (s:={ f with heap:=u }) j ?_;have C:∀b,f.heap.objs.size<=b->oE X d H1 b:=λb hb=>I1.Yp hb (I1.hok.fresh hb);refine⟨_,[f.heap.objs.size+4,f.heap.objs.size+2,f.heap.objs.size+3,f.heap.objs.size,f.heap.objs.size+1],_,_,H1,rfl,J,Zil a b _ _ _ _ _ (Ztc _),⟨j,k,⟨_,_,m⟩,h1,h2⟩,λc hc=>?_,q⟩;simp only[List.mem_cons,List.not_mem_nil,or_false]at hc;have o:(f.heap.objs.size:Nat)<=(c:Nat):=by
    rcases hc with e | e | e | e | e<;>rw[e]
    ·exact Nat.le_add_right _ _
    ·exact Nat.le_add_right _ _
    ·exact Nat.le_add_right _ _
    ·exact Nat.le_refl _
    ·exact Nat.le_add_right _ _
   exact C c o
section
variable {K:aC}{a b:AI}{g:TG}{tb:TS}{σ:L2.St}{H:Hp}{n:L2.St->Hp->Prop}{r:VK}
end
theorem Zlf{M:Model}{A:Around}{E:Ap}{s:AK}{a b:AJ}{Q:Ap}(c:s.TypeIs a "list")(hb:s.TypeIs b "list")(h:wpAny M A (call (.builtin "list.__iadd__") [a,b]) Q E s):wpAny M A (inplaceOp .Add a b) Q E s:=by
 have d:fillsInplaceSlot (.type "list") "add" true=pure false:=by
  unfold fillsInplaceSlot;simp only[PySem.F.slot_list_iadd.lookup];rfl
 have e:fillsNumberSlot (.type "list") "add"=pure false:=η
 have f:seqSlot? (.type "list") (dunderI "add")=pure (some (.builtin "list.__iadd__")):=PySem.seqSlot_of PySem.F.slot_list_iadd.lookup rfl;unfold inplaceOp;refine wpAny_holding ?_;show wpAny M A (typeOf a >>= _) _ _ _;refine wpAny_bind (wpAny_typeOf c ?_);show wpAny M A (fillsInplaceSlot (.type "list") "add" true >>= _) _ _ _;rw[d];refine wpAny_bind (wpAny_pure ?_);simp only[Bool.false_eq_true,if_false];refine wpAny_bind (wpAny_binaryOp1_none c hb e ?_);show wpAny M A (seqSlot? (.type "list") (dunderI "add") >>= _) _ _ _;rw[f];refine wpAny_bind (wpAny_pure ?_);exact wpAny_bind (wpAny_rule h)
def ipL:TIp:=λx y H Q=>∃l b xs a,x=.ref l/\y=.ref b/\H l=some (.lst xs)/\H b=some (.lst a)/\xs.length+a.length<=sizeLine/\Q (.ref l) (upd H l (.lst (xs++a)))
theorem Zld{X:Cx}:PIp X .Add ipL:=by
 intro j s A H x y v u Q I m o h;obtain⟨l,b,C,B,rfl,rfl,i,k,hz,q⟩:=h;obtain rfl:v=Value.ref l:=m;obtain rfl:u=Value.ref b:=o;obtain⟨z,c,n,r,hl,e⟩:=I.RN i;obtain⟨w,a,n2,t,p,g⟩:=I.RN k;have f:c.toArray.size+a.toArray.size<=sizeLine:=by rw[List.size_toArray,List.size_toArray];omega
 have d:¬ (!c.toArray.isEmpty && Builtin.List.listTooLong (c.toArray.size+a.toArray.size))=true:=by
  rw[Ol f,Bool.and_false];exact Bool.false_ne_true
 refine Zlf ⟨_,e,rfl⟩ ⟨_,g,rfl⟩ (call_meets F.slot_list_iadd ⟨_,e,rfl⟩ F.entry_list_iadd (F.args_list_iadd_2 _ _)
  (AutoSeq1.list___iadd___list_list_0 l c.toArray n b a.toArray n2 d (by rw[List.size_toArray];omega) δ) ⟨e,g,?_⟩)
 refine⟨.ref l,_,I.Zl1 (its':=c++a) i e ζ (r.append t) ?_,rfl,q⟩;rw[List.length_append];omega
def Zmf:List V->Hp->VK->Prop:=λxs H Q=>∃(a:AI) (b:List cm),xs=[.ref a]/\Rd H a (.dK b)/\∀p,H p=none->Q (.ref p) (upd H p (.dK b))
theorem Ze5{X:Cx}:Gk X (.type "dict") Zmf:=by
 intro b s i H j us Q I r h;obtain⟨a,f,rfl,d,q⟩:=h;obtain⟨u,rfl,c⟩:=Vals.one r;obtain rfl:u=Value.ref a:=c;exact Zmc I d λp g hp e=>⟨.ref p,_,e,rfl,q p hp⟩
end G
local macro_rules|`(tactic|walk_at"g2")=>`(tactic|with_reducible first|refine G.Zwh ?_|refine G.Zon ?_|refine G.Zwi ?_|refine G.Zsf ?_|refine G.Zog ?_)
local macro_rules|`(tactic|walk_at"g2")=>`(tactic|with_reducible first|refine G.Zdi ?_|refine G.Zlg ?_|refine G.Zrx ?_|refine G.Zwe ?_|refine G.Zry ?_|refine G.Zpz ?_)
local macro_rules|`(tactic|walk_at"g2")=>`(tactic|with_reducible first|refine G.Zug ?_|refine G.Zlk ?_|refine G.Zse ?_|refine G.Zs6 ?_|refine G.Zdj ?_|refine G.Zao ?_)
local macro_rules|`(tactic|walk_at"g2")=>`(tactic|with_reducible first|refine G.Zof ?_|refine G.Zor ?_|refine G.Zsb ?_|refine G.Zok ?_|refine G.Zu2 ?_|refine G.Zsg ?_)
local macro_rules|`(tactic|walk_at"g2")=>`(tactic|with_reducible first|refine G.Zwm ?_|refine G.Zwl ?_|refine G.Zwk ?_|refine G.Zwj ?_|refine G.Qd ?_|refine G.Zoq ?_)
local macro_rules|`(tactic|walk_at"g2")=>`(tactic|with_reducible first|refine G.Zw1 ?_|refine G.Zw0 ?_|refine G.Zwp ?_|refine G.Zub ?_|refine G.Zwo ?_|refine G.Zwn ?_)
local macro_rules|`(tactic|walk_at"g2")=>`(tactic|with_reducible first|refine G.Zw7 ?_|refine G.Zw6 ?_|refine G.Zw5 ?_|refine G.Zw4 ?_|refine G.Zw3 ?_|refine G.Zw2 ?_)
local macro_rules|`(tactic|walk_at"g2")=>`(tactic|with_reducible first|refine G.Zwq ?_|refine G.Zuh ?_|refine G.Zuc ?_|refine G.Zwg ?_|refine G.Zwf ?_|refine G.Zw8 ?_)
local macro_rules|`(tactic|walk_at"g2")=>`(tactic|with_reducible first|refine G.Zs0 ?_|refine G.Zs4 ?_|refine G.Zli ?_|refine G.Zs1 ?_|refine G.Zwc ?_|refine G.Zwa ?_)
local macro_rules|`(tactic|walk_at"g2")=>`(tactic|with_reducible first|refine G.Zu9 ?_|refine G.Zu1 ?_|refine G.Zsi ?_|refine G.Zws ?_|refine G.Zs5 ?_|refine G.Zud ?_)
local macro_rules|`(tactic|walk_at"g2")=>`(tactic|with_reducible first|refine G.Zdh ?_|refine G.Yh ?_|refine G.Zoo ?_|refine G.Zop ?_|refine G.Zu6 ?_|refine G.Zsh ?_)
local macro_rules|`(tactic|walk_at"g2")=>`(tactic|with_reducible first|refine G.Zs9 ?_|refine G.Zs8 ?_|refine G.Zs7 ?_|refine G.Zoj ?_|refine G.Zoi ?_|refine G.Zoh ?_)
local macro_rules|`(tactic|walk_at"g2")=>`(tactic|with_reducible first|refine G.Zwr ?_|refine G.i_U ?_|refine G.Zuf ?_|refine G.Zue ?_|refine G.Zu8 ?_|refine G.Zu7 ?_)
local macro_rules|`(tactic|walk_at"g2")=>`(tactic|with_reducible first|refine G.Zuj ?_|refine G.Zu5 ?_|refine G.Zq0 ?_|refine G.Zsj ?_|refine G.Zu4 ?_|refine G.Zs2 ?_)
local macro_rules|`(tactic|walk_at"g2")=>`(tactic|with_reducible first|refine G.i_C ?_|refine G.Zwb ?_|refine G.Zw9 ?_|refine G.i_B ?_|refine G.Zrz ?_|refine G.Zu3 ?_)
local macro_rules|`(tactic|walk_at"g2")=>`(tactic|with_reducible first|refine G.Yg ?_|refine G.Zos ?_|refine G.Zsd ?_|refine G.Zfn ?_|refine G.Zsa ?_|refine G.Zui ?_)
local macro_rules|`(tactic|walk_at"g1")=>`(tactic|walk_at"g2")
local macro_rules|`(tactic|walk_at"g1")=>`(tactic|with_reducible refine G.Qe ?_)
local macro_rules | `(tactic| walk_at "ne")=>`(tactic| first | assumption | (exact Ne.symm (by assumption)) | exact L2.aD (by assumption) (by assumption) | exact Ne.symm (L2.aD (by assumption) (by assumption)) | exact Nat.ne_of_lt (by assumption))
local macro_rules | `(tactic| walk_at "hp")=>`(tactic| first | assumption | exact L2.aq | (refine Eq.trans (L2.aA ?hne) ?_;(case hne=>walk_at "ne");walk_at "hp"))
local macro_rules | `(tactic| walk_at"d")=>`(tactic| first | omega | decide | (show (_:Int)<_;decide) | exact ⟨ε,ε⟩ | exact ⟨ε,ε,ε⟩ | (unfold L2.zm;omega) | exact .inl (by unfold L2.zm;omega))
local macro_rules | `(tactic| walk_at"e")=>`(tactic| repeat (first | walk_at "g1" | ((with_reducible refine G.i_I ?hc ?_);(case hc=>walk_at"d"))))
local macro_rules | `(tactic| walk_at"s")=>`(tactic| repeat (first | walk_at "g2" | ((with_reducible refine G.i_I ?hc ?_);(case hc=>walk_at"d"))))
local macro_rules | `(tactic| walk_at"c")=>`(tactic| simp only [List.map_cons,List.map_nil,G.pick,List.getElem?_cons_zero,List.getElem?_cons_succ])
local macro_rules | `(tactic| apply $e)=>`(tactic| (walk_at"e";refine $e))
local macro_rules | `(tactic| exists $e,*)=>`(tactic| (walk_at"e";refine⟨$e,*, ?_⟩))
local macro_rules | `(tactic| ext)=>`(tactic| walk_at"e")
local macro_rules | `(tactic| left)=>`(tactic| walk_at"s")
local macro_rules | `(tactic| right)=>`(tactic| (have h2:=(Except.ok.inj h);rw[<- (Prod.mk.inj h2).2]))
namespace Y8
open PySem L2 G
def jL(birth:Int)(bulk:Int)(tone:Int)(load:Int)(fa:AI):List (Str×V):=[("birth",.int birth),("bulk",.int bulk),("tone",.int tone),("load",.int load),("fields",.ref fa)]
theorem fV{birth:Int}{bulk:Int}{tone:Int}{load:Int}{fa:AI}:List.lookup ("birth":Str) bS=some (.int birth:V):=rfl
theorem SN{birth:Int}{bulk:Int}{tone:Int}{load:Int}{fa:AI}:List.lookup ("bulk":Str) bS=some (.int bulk:V):=rfl
theorem SM{birth:Int}{bulk:Int}{tone:Int}{load:Int}{fa:AI}:List.lookup ("tone":Str) bS=some (.int tone:V):=rfl
theorem Aj{birth:Int}{bulk:Int}{tone:Int}{load:Int}{fa:AI}:List.lookup ("load":Str) bS=some (.int load:V):=rfl
theorem jt{birth:Int}{bulk:Int}{tone:Int}{load:Int}{fa:AI}:List.lookup ("fields":Str) bS=some (.ref fa:V):=rfl
theorem Qw{birth:Int}{bulk:Int}{tone:Int}{load:Int}{fa:AI}(y:Int):bL "tone" (.int y) bS=jL birth bulk y load fa:=rfl
theorem Qx{birth:Int}{bulk:Int}{tone:Int}{load:Int}{fa:AI}(y:Int):bL "load" (.int y) bS=jL birth bulk tone y fa:=rfl
theorem Zmd{birth:Int}{bulk:Int}{tone:Int}{load:Int}{fa:AI}:(bL "fields" (.ref fa) (bL "load" (.int load) (bL "tone" (.int tone) (bL "bulk" (.int bulk) (bL "birth" (.int birth) [])))))=jL birth bulk tone load fa:=rfl
theorem p7{birth:Int}{bulk:Int}{tone:Int}{load:Int}{fa:AI}:List.lookup ("units":Str) bS=none:=rfl
theorem Bc{birth:Int}{bulk:Int}{tone:Int}{load:Int}{fa:AI}:List.lookup ("has_field":Str) bS=none:=rfl
def iV(room:Int)(ca:AI)(used:Int)(born:Int):List (Str×V):=[("room",.int room),("cells",.ref ca),("used",.int used),("born",.int born)]
theorem Sx{room:Int}{ca:AI}{used:Int}{born:Int}:List.lookup ("room":Str) cc=some (.int room:V):=rfl
theorem bT{room:Int}{ca:AI}{used:Int}{born:Int}:List.lookup ("cells":Str) cc=some (.ref ca:V):=rfl
theorem rT{room:Int}{ca:AI}{used:Int}{born:Int}:List.lookup ("used":Str) cc=some (.int used:V):=rfl
theorem Sy{room:Int}{ca:AI}{used:Int}{born:Int}:List.lookup ("born":Str) cc=some (.int born:V):=rfl
theorem yf{room:Int}{ca:AI}{used:Int}{born:Int}(y:Int):bL "used" (.int y) cc=iV room ca y born:=rfl
theorem Qf{room:Int}{ca:AI}{used:Int}{born:Int}(y:Int):bL "born" (.int y) cc=iV room ca used y:=rfl
theorem Zlp{room:Int}{ca:AI}{used:Int}{born:Int}:(bL "born" (.int born) (bL "used" (.int used) (bL "cells" (.ref ca) (bL "room" (.int room) []))))=iV room ca used born:=rfl
theorem Ss{room:Int}{ca:AI}{used:Int}{born:Int}:List.lookup ("make":Str) cc=none:=rfl
theorem Yl{room:Int}{ca:AI}{used:Int}{born:Int}:List.lookup ("lay":Str) cc=none:=rfl
theorem Sv{room:Int}{ca:AI}{used:Int}{born:Int}:List.lookup ("back":Str) cc=none:=rfl
theorem Su{room:Int}{ca:AI}{used:Int}{born:Int}:List.lookup ("free":Str) cc=none:=rfl
theorem Qg{room:Int}{ca:AI}{used:Int}{born:Int}:List.lookup ("there":Str) cc=none:=rfl
def Pb(lk:AI)(tl:Int):List (Str×V):=[("looking",.ref lk),("tells",.int tl)]
theorem jU{lk:AI}{tl:Int}:List.lookup ("looking":Str) (Pb lk tl)=some (.ref lk:V):=rfl
theorem yd{lk:AI}{tl:Int}:List.lookup ("tells":Str) (Pb lk tl)=some (.int tl:V):=rfl
theorem Zla{lk:AI}{tl:Int}:(bL "tells" (.int tl) (bL "looking" (.ref lk) []))=Pb lk tl:=rfl
def Zfq(nm:Str)(sa:AI):List (Str×V):=[("name",.str nm),("slots",.ref sa)]
theorem pX{nm:Str}{sa:AI}:List.lookup ("slots":Str) (Zfq nm sa)=some (.ref sa:V):=rfl
theorem Zlq{nm:Str}{sa:AI}:(bL "slots" (.ref sa) (bL "name" (.str nm) []))=Zfq nm sa:=rfl
def wX(hp:AI)(ki:AI)(hl:AI)(nm:AI)(sw:AI):List (Str×V):=[("heap",.ref hp),("kind",.ref ki),("hands",.ref hl),("names",.ref nm),("sweeper",.ref sw)]
theorem bG{hp:AI}{ki:AI}{hl:AI}{nm:AI}{sw:AI}:List.lookup ("heap":Str) (wX hp ki hl nm sw)=some (.ref hp:V):=rfl
theorem iG{hp:AI}{ki:AI}{hl:AI}{nm:AI}{sw:AI}:List.lookup ("kind":Str) (wX hp ki hl nm sw)=some (.ref ki:V):=rfl
theorem dO{hp:AI}{ki:AI}{hl:AI}{nm:AI}{sw:AI}:List.lookup ("hands":Str) (wX hp ki hl nm sw)=some (.ref hl:V):=rfl
theorem jl{hp:AI}{ki:AI}{hl:AI}{nm:AI}{sw:AI}:List.lookup ("names":Str) (wX hp ki hl nm sw)=some (.ref nm:V):=rfl
theorem bw{hp:AI}{ki:AI}{hl:AI}{nm:AI}{sw:AI}:List.lookup ("sweeper":Str) (wX hp ki hl nm sw)=some (.ref sw:V):=rfl
theorem Zgg{hp:AI}{ki:AI}{hl:AI}{nm:AI}{sw:AI}:(bL "sweeper" (.ref sw) (bL "names" (.ref nm) (bL "hands" (.ref hl) (bL "kind" (.ref ki) (bL "heap" (.ref hp) [])))))=wX hp ki hl nm sw:=rfl
def bQ(se:Int)(ph:Str)(gr:AI)(lo:Int)(d:Int)(at_:Int)(st:Int)(b:Int)(a:Int)(e:Int)(c:V):List (Str×V):=[("sense",.int se),("phase",.str ph),("grey",.ref gr),("looked",.int lo),("turn",.int d),("at",.int at_),("stop",.int st),("walks",.int b),("looks",.int a),("passes",.int e),("loss",c)]
theorem kW{se:Int}{ph:Str}{gr:AI}{lo:Int}{d:Int}{at_:Int}{st:Int}{b:Int}{a:Int}{e:Int}{c:V}:List.lookup ("sense":Str) af=some (.int se:V):=rfl
theorem kY{se:Int}{ph:Str}{gr:AI}{lo:Int}{d:Int}{at_:Int}{st:Int}{b:Int}{a:Int}{e:Int}{c:V}:List.lookup ("phase":Str) af=some (.str ph:V):=rfl
theorem pJ{se:Int}{ph:Str}{gr:AI}{lo:Int}{d:Int}{at_:Int}{st:Int}{b:Int}{a:Int}{e:Int}{c:V}:List.lookup ("grey":Str) af=some (.ref gr:V):=rfl
theorem gw{se:Int}{ph:Str}{gr:AI}{lo:Int}{d:Int}{at_:Int}{st:Int}{b:Int}{a:Int}{e:Int}{c:V}:List.lookup ("looked":Str) af=some (.int lo:V):=rfl
theorem pI{se:Int}{ph:Str}{gr:AI}{lo:Int}{a:Int}{at_:Int}{st:Int}{c:Int}{b:Int}{e:Int}{d:V}:List.lookup ("turn":Str) (bQ se ph gr lo a at_ st c b e d)=some (.int a:V):=rfl
theorem Bu{se:Int}{ph:Str}{gr:AI}{lo:Int}{d:Int}{at_:Int}{st:Int}{b:Int}{a:Int}{e:Int}{c:V}:List.lookup ("at":Str) af=some (.int at_:V):=rfl
theorem LR{se:Int}{ph:Str}{gr:AI}{lo:Int}{d:Int}{at_:Int}{st:Int}{b:Int}{a:Int}{e:Int}{c:V}:List.lookup ("stop":Str) af=some (.int st:V):=rfl
theorem vL{se:Int}{ph:Str}{gr:AI}{lo:Int}{d:Int}{at_:Int}{st:Int}{a:Int}{b:Int}{e:Int}{c:V}:List.lookup ("walks":Str) (bQ se ph gr lo d at_ st a b e c)=some (.int a:V):=rfl
theorem oF{se:Int}{ph:Str}{gr:AI}{lo:Int}{d:Int}{at_:Int}{st:Int}{b:Int}{a:Int}{e:Int}{c:V}:List.lookup ("looks":Str) af=some (.int a:V):=rfl
theorem sE{se:Int}{ph:Str}{gr:AI}{lo:Int}{e:Int}{at_:Int}{st:Int}{c:Int}{b:Int}{a:Int}{d:V}:List.lookup ("passes":Str) (bQ se ph gr lo e at_ st c b a d)=some (.int a:V):=rfl
theorem Ma{se:Int}{ph:Str}{gr:AI}{lo:Int}{d:Int}{at_:Int}{st:Int}{c:Int}{b:Int}{e:Int}{a:V}:List.lookup ("loss":Str) (bQ se ph gr lo d at_ st c b e a)=some (a:V):=rfl
theorem Gq{se:Int}{ph:Str}{gr:AI}{lo:Int}{d:Int}{at_:Int}{st:Int}{b:Int}{a:Int}{e:Int}{c:V}(y:Int):bL "sense" (.int y) af=bQ y ph gr lo d at_ st b a e c:=rfl
theorem jM{se:Int}{ph:Str}{gr:AI}{lo:Int}{d:Int}{at_:Int}{st:Int}{b:Int}{a:Int}{e:Int}{c:V}(y:Str):bL "phase" (.str y) af=bQ se y gr lo d at_ st b a e c:=rfl
theorem Kq{se:Int}{ph:Str}{gr:AI}{lo:Int}{d:Int}{at_:Int}{st:Int}{b:Int}{a:Int}{e:Int}{c:V}(y:AI):bL "grey" (.ref y) af=bQ se ph y lo d at_ st b a e c:=rfl
theorem qp{se:Int}{ph:Str}{gr:AI}{lo:Int}{d:Int}{at_:Int}{st:Int}{b:Int}{a:Int}{e:Int}{c:V}(y:Int):bL "looked" (.int y) af=bQ se ph gr y d at_ st b a e c:=rfl
theorem Km{se:Int}{ph:Str}{gr:AI}{lo:Int}{e:Int}{at_:Int}{st:Int}{b:Int}{a:Int}{d:Int}{c:V}(y:Int):bL "turn" (.int y) (bQ se ph gr lo e at_ st b a d c)=bQ se ph gr lo y at_ st b a d c:=rfl
theorem zq{se:Int}{ph:Str}{gr:AI}{lo:Int}{d:Int}{at_:Int}{st:Int}{b:Int}{a:Int}{e:Int}{c:V}(y:Int):bL "at" (.int y) af=bQ se ph gr lo d y st b a e c:=rfl
theorem Ko{se:Int}{ph:Str}{gr:AI}{lo:Int}{d:Int}{at_:Int}{st:Int}{b:Int}{a:Int}{e:Int}{c:V}(y:Int):bL "stop" (.int y) af=bQ se ph gr lo d at_ y b a e c:=rfl
theorem su{se:Int}{ph:Str}{gr:AI}{lo:Int}{c:Int}{at_:Int}{st:Int}{e:Int}{a:Int}{d:Int}{b:V}(y:Int):bL "walks" (.int y) (bQ se ph gr lo c at_ st e a d b)=bQ se ph gr lo c at_ st y a d b:=rfl
theorem mF{se:Int}{ph:Str}{gr:AI}{lo:Int}{c:Int}{at_:Int}{st:Int}{a:Int}{e:Int}{d:Int}{b:V}(y:Int):bL "looks" (.int y) (bQ se ph gr lo c at_ st a e d b)=bQ se ph gr lo c at_ st a y d b:=rfl
theorem qm{se:Int}{ph:Str}{gr:AI}{lo:Int}{d:Int}{at_:Int}{st:Int}{b:Int}{a:Int}{e:Int}{c:V}(y:Int):bL "passes" (.int y) af=bQ se ph gr lo d at_ st b a y c:=rfl
theorem Kp{se:Int}{ph:Str}{gr:AI}{lo:Int}{c:Int}{at_:Int}{st:Int}{b:Int}{a:Int}{d:Int}{e:V}(y:V):bL "loss" (y) (bQ se ph gr lo c at_ st b a d e)=bQ se ph gr lo c at_ st b a d y:=rfl
theorem Zgo{se:Int}{ph:Str}{gr:AI}{lo:Int}{d:Int}{at_:Int}{st:Int}{b:Int}{a:Int}{e:Int}{c:V}:(bL "loss" (c) (bL "passes" (.int e) (bL "looks" (.int a) (bL "walks" (.int b) (bL "stop" (.int st) (bL "at" (.int at_) (bL "turn" (.int d) (bL "looked" (.int lo) (bL "grey" (.ref gr) (bL "phase" (.str ph) (bL "sense" (.int se) [])))))))))))=bQ se ph gr lo d at_ st b a e c:=rfl
def xj(rm:Int)(a:AI)(hd:AI)(rw:AI):List (Str×V):=[("room",.int rm),("kind",.ref a),("hands",.ref hd),("rows",.ref rw)]
theorem Mm{rm:Int}{a:AI}{hd:AI}{rw:AI}:List.lookup ("room":Str) (xj rm a hd rw)=some (.int rm:V):=rfl
theorem Mp{rm:Int}{a:AI}{hd:AI}{rw:AI}:List.lookup ("kind":Str) (xj rm a hd rw)=some (.ref a:V):=rfl
theorem KC{rm:Int}{a:AI}{hd:AI}{rw:AI}:List.lookup ("hands":Str) (xj rm a hd rw)=some (.ref hd:V):=rfl
theorem Ml{rm:Int}{a:AI}{hd:AI}{rw:AI}:List.lookup ("rows":Str) (xj rm a hd rw)=some (.ref rw:V):=rfl
theorem Zgv{rm:Int}{a:AI}{hd:AI}{rw:AI}:(bL "rows" (.ref rw) (bL "hands" (.ref hd) (bL "kind" (.ref a) (bL "room" (.int rm) []))))=xj rm a hd rw:=rfl
def tH(K:aC):TS:=
 (aN (dU K π χ "birth")
   (aN (dU K π aI "bulk")
   (aN (dU K π dt "tone")
   (aN (dU K π ω "load")
   (dU K π (aZ (Zgy) (iM (ak bp aG)) Ω) "fields")))))
def zR(K:aC):TS:=
 (bz (aZ Θ (aZ Θ ψ (pH ft (ak (bA K π "fields") aG))) (bA K π "bulk")))
def qD(K:aC):TS:=
 (bz (Zc0 (kj λi j=>.bl (decide (i<=j))) aT ω χ (pH ft (ak (bA K π "fields") aG))))
def tE(K:aC):TS:=
 (aN (dU K π χ "room")
   (aN (dU K π (iM aG) "cells")
   (aN (dU K π ω "used")
   (dU K π ω "born"))))
def Dg(K:aC)(a g b:AI)(e c f d:Sp)(E:XK):TS:=
 (aN (bC (sr a e [] E0 (ak (aZ Θ (bA K π "born") ψ) (ak χ (ak Ω ci)))) (aP 4))
   (aN (cX (bY (aZ (kj λi j=>.bl (decide (j<i))) (iI a "units" c [] E0 dt aG) (iI b "free" f [] E0 π aG))) (G.Gm g E (ak (tC (.str "the room does not suffice")) aG)) bM)
   (aN (dU K π (bA K dt "birth") "born")
   (aN (dU K π (aZ Θ (bA K π "used") (iI a "units" c [] E0 dt aG)) "used")
   (bz (iI b "lay" d [] E0 π (ak dt aG)))))))
def Jc(K:aC):TS:=
 (aN (cX (bY (aZ (G.Zqw K true) bp eB)) (aN (mC (tBM K "list" o5 eB cr))
   (bz (aZ eu (pH ft (ak eB aG)) ψ))) bM)
   (aN (bC (tBM K "list" (G.Zf4 K) eB (ak bp aG)) (aP 2))
   (aN (bC χ (wQ eB Ω lW))
   (bz Ω))))
def Di(K:aC)(a:AI)(b:Sp):TS:=
 (aN (bC (aZ eH eB χ) (aP 2))
   (aN (dU K π (aZ eu (bA K π "used") (iI a "units" b [] E0 Ω aG)) "used")
   (aN (bC bp (wQ eB χ lW))
   (bz (bA K Ω "birth")))))
def Dh(K:aC):TS:=
 (bz (aZ eu (bA K π "room") (bA K π "used")))
def rJ(K:aC):TS:=
 (bz (G.tLC (Zap (ak (pH ft (ak eB aG)) aG)) [0] (bY (aZ (G.tK) (aZ eH (bA K χ "cells") π) bp)) π))
def Nq(K:aC):TS:=
 (aN (cX ((tOr (bY (aZ (G.Nr) χ bp)) (tOr (bY (aZ aT χ ω)) (bY (aZ (kj λi j=>.bl (decide (j<=i))) χ (pH ft (ak eB aG))))))) (bz bp) bM)
   (bz (aZ eH eB χ)))
def IV(K:aC)(a:Sp):TS:=
 (aN (bC (aU a [] E0 (ak π cr)) (aP 2))
   (aN (cX (bY (aZ (G.Nr) Ω bp)) (bz bp) bM)
   (bz (bA K Ω "birth"))))
def Ux:TS:=
 (bz (aZ eu (aZ (rI QZ λi j=>.int (i * 2 ^ j.toNat)) ψ π) ψ))
def oO:TS:=
 (bz ω)
def nC:TS:=
 (bz ω)
def sZ:TS:=
 (bz (tC (.bl true)))
def qz(a:Sp):TS:=
 (bz (aU a [] E0 cr))
def qC:TS:=
 (aN (yZ (Zap dE) (aP 3)
   (cX (bY (aZ (qF) (aZ dA (aZ eK χ aI) ψ) ω)) (bz (aZ (rI QZ λi j=>.int (i * 2 ^ j.toNat)) ψ aI)) bM))
   (bz ω))
def qy(a:Sp):TS:=
 (bz (aU a [] E0 dE))
def zQ:TS:=
 (bz (tC (.bl false)))
def tD(K:aC):TS:=
 (aN (dU K π χ "looking")
   (dU K π Ω "tells"))
def tG(K:aC):TS:=
 (aN (dU K π χ "name")
   (dU K π (aZ (Zgy) (iM (ak bp aG)) Ω) "slots"))
def oM(K:aC):TS:=
 (aN (dU K π ω "sense")
   (aN (dU K π (tC (.str "rest")) "phase")
   (aN (dU K π (iM aG) "grey")
   (aN (dU K π ω "looked")
   (aN (dU K π ω "turn")
   (aN (dU K π ω "at")
   (aN (dU K π ω "stop")
   (aN (dU K π ω "walks")
   (aN (dU K π ω "looks")
   (aN (dU K π ω "passes")
   (dU K π bp "loss")))))))))))
def qw(K:aC)(b d a:AI)(f e c:Sp):TS:=
 (aN (dU K π (sr d e [] E0 cr) "heap")
   (aN (dU K π Ω "kind")
   (aN (dU K π (G.Zgm K (rB K aI) [] G.vK (sr b f [] E0 (ak π cr))) "hands")
   (aN (dU K π (pG) "names")
   (dU K π (sr a c [] E0 aG) "sweeper")))))
def W0(K:aC):TS:=
 (bz (G.tLC (rB K (bA K π "hands")) [] G.vK (pH (G.yl K) (ak (bA K π "slots") aG))))
def CQ(K:aC)(a:Sp):TS:=
 (bz (G.tLC (rB K χ) [0] G.vK (aU a [] E0 (ak χ dv))))
def CG(K:aC):TS:=
 (bz (aZ (qF) (aZ dA (aZ eK (bA K ba "looked") χ) ψ) ψ))
def CJ(K:aC):TS:=
 (bz (aZ (qF) (bA K χ "tone") (bA K ba "sense")))
def zH(K:aC):TS:=
 (bz (aZ (rIn K false) (bA K ba "phase") (ig (ak (tC (.str "walk")) (ak (tC (.str "lost")) aG)))))
def ZJ(K:aC)(b c e:AI)(d a:Sp):TS:=
 (aN (bC ba (aP 1))
   (aN (dU K χ (aZ eu ψ (bA K χ "sense")) "sense")
   (aN (dU K χ (aZ Θ (bA K χ "turn") ψ) "turn")
   (aN (dU K χ (tC (.str "walk")) "phase")
   (aN (dU K χ (iM aG) "grey")
   (aN (dU K χ (G.Gn (iI c "at_begin" d [] E0 (bA K (bA K π "kind") "looking") b9) (G.Gn (iI b "at_begin" a [] E0 (bA K (bA K π "kind") "looking") b9) (iI e "at_begin" a [] E0 (bA K (bA K π "kind") "looking") b9))) "looked")
   (aN (dU K χ ω "walks")
   (aN (dU K χ ω "looks")
   (dU K χ ω "passes")))))))))
def Zf2(K:aC)(b a:Sp):TS:=
 (aN (bC ba (aP 2))
   (aN (bC (aU b [] E0 (ak be cr)) (aP 3))
   (aN (cX ((tOr (bY (aZ (rNe) (bA K Ω "phase") (tC (.str "walk")))) (tOr (bY (aZ (G.Nr) aI bp)) (tB (aU a [] E0 (ak π ci)))))) (bz bp) bM)
   (aN (dU K aI (bA K Ω "sense") "tone")
   (aN (mC (tBM K "list" o5 (bA K Ω "grey") cr))
   (bz (bA K aI "birth")))))))
def Iz(K:aC)(a:Sp):TS:=
 (aN (bC (iM aG) (aP 2))
   (aN (yZ (rB K χ) (aP 3)
   (aN (bC (aU a [] E0 (ak π ci)) (aP 4))
   (cX (bY (aZ (G.tK) dt bp)) (mC (tBM K "list" o5 Ω (ak dt aG))) bM)))
   (bz Ω)))
def Zf3(K:aC)(b a:Sp):TS:=
 (aN (bC (aU b [] E0 (ak be cr)) (aP 3))
   (aN (cX ((tOr (bY (aZ (G.Nr) aI bp)) (bY (aZ (rNe) (bA K aI "birth") Ω)))) (bz (tC (.bl true))) bM)
   (bz ((zp (aZ (qF) (bA K ba "phase") (tC (.str "give"))) (Zer (aU a [] E0 (ak π ci))))))))
def ZG(K:aC)(b a:Sp)(c:Hp):TS:=
 (bz (aZ (Zqy) (aU b [] E0 dv) (iM (ak (G.Zir c (G.Zgm K (G.Zll (G.Zio (bA K π "names"))) [0] G.vK (aU a [] E0 (ak Ω (ak π cr))))) aG))))
def M8(K:aC)(b a c:Sp):TS:=
 (aN (cX (tB (aU b [] E0 (ak π (ak χ dE)))) (bz bp) bM)
   (aN (cX ((LQ (tB (aU c [] E0 dv)) (yX (tB (aU a [] E0 (ak π (ak (aZ eH (bA K be "cells") χ) aG))))))) (bz bp) bM)
   (bz χ)))
def Iw(K:aC):TS:=
 (bz (bA K (aZ eH (bA K π "hands") χ) "slots"))
def Np(K:aC)(a:AI)(c b:Sp)(E:XK):TS:=
 (aN (bC (aU c [] E0 (ak be (ak (aZ eH (aU b [] E0 (ak π cr)) Ω) aG))) (aP 3))
   (aN (cX (bY (aZ (G.Nr) aI bp)) (G.Gm a E (ak (tC (.str "the slot holds no cell")) aG)) bM)
   (bz aI)))
def CP(K:aC)(a d:AI)(c b:Sp)(E:XK):TS:=
 (aN (bC (aU b [] E (ak π (ak χ dE))) (aP 4))
   (aN (cX (yX (tB (iI a "has_field" c [] E0 dt ci))) (G.Gm d E (ak (tC (.str "the cell does not have the field")) aG)) bM)
   (bz (bA K dt "fields"))))
def xx(K:aC):TS:=
 (aN (cX (bY (aZ (qF) (aZ dA (bA K (bA K π "kind") "tells") ψ) ω)) (bz (iM aG)) bM)
   (bz (iM cr)))
def xF(K:aC)(a:Sp):TS:=
 (aN (cX ((tOr (bY (aZ (qF) (aZ dA (bA K (bA K π "kind") "tells") aE) ω)) (tB (aU a [] E0 (ak π cr))))) (bz (iM aG)) bM)
   (bz (iM dE)))
def Ni(K:aC)(a:AI)(b c d:Sp)(E:XK):TS:=
 (aN (bC (aU d [] E0 (ak π (ak cx aG))) (aP 2))
   (aN (bC (aZ am χ ap) (aP 3))
   (aN (bC (aZ am χ eT) (aP 4))
   (aN (bC (iI a "make" b [] E be (ak aI (ak dt (ak (bA K ba "sense") aG)))) (aP 5))
   (aN (bC ei (wQ Ω (aZ am χ aE) lW))
   (bz (ig (ak (tC (.str "made")) (ak (aU c [] E0 (ak be (ak ei aG))) (ak (iM aG) aG))))))))))
def Uw(K:aC)(a c b:Sp)(E:XK):TS:=
 (aN (bC cx (aP 2))
   (aN (bC (aZ am χ ap) (aP 3))
   (aN (bC (aZ am χ eT) (aP 4))
   (aN (bC (aZ eH (aU c [] E (ak π (ak Ω (ak aI (ak dt aG))))) dt) (aP 5))
   (aN (bC ei (wQ (aU b [] E0 (ak π dE)) (aZ am χ aE) lW))
   (bz (ig (ak (tC (.str "got")) (ak (aU a [] E0 (ak be (ak ei aG))) (ak (iM aG) aG))))))))))
def Uv(K:aC)(a e f d b c:Sp)(E:XK):TS:=
 (aN (bC cx (aP 2))
   (aN (bC (aZ am χ ap) (aP 3))
   (aN (bC (aU e [] E (ak π (ak Ω (ak (aZ am χ aE) ci)))) (aP 4))
   (aN (bC (aZ eH dt aI) (aP 5))
   (aN (bC (aZ eH (aU d [] E0 (ak π dE)) (aZ am χ eT)) (aP 6))
   (aN (bC (aj 6) (wQ dt aI lW))
   (aN (bC (aU f [] E0 (ak π (ak (aZ (Zqy) (aU c [] E0 (ak π (ak ei aG))) (aU b [] E0 (ak π (ak Ω (ak (aj 6) aG))))) aG))) (aP 7))
   (bz (ig (ak (tC (.str "put")) (ak (aU a [] E0 (ak be (ak ei aG))) (ak (aj 7) aG))))))))))))
def Nm(K:aC)(a b:Sp):TS:=
 (aN (bC (aU b [] E0 (ak π (ak cx aG))) (aP 2))
   (aN (bC (aZ eH Ω (aZ am χ ap)) (aP 3))
   (aN (bC aI (wQ Ω (aZ am χ aE) lW))
   (bz (ig (ak (tC (.str "copied")) (ak (aU a [] E0 (ak be ci)) (ak (iM aG) aG))))))))
def Nk(K:aC)(a b:Sp):TS:=
 (aN (bC (aU b [] E0 (ak π (ak cx aG))) (aP 2))
   (aN (bC (aZ eH Ω (aZ am χ aE)) (aP 3))
   (aN (bC bp (wQ Ω (aZ am χ aE) lW))
   (bz (ig (ak (tC (.str "dropped")) (ak (aU a [] E0 (ak be ci)) (ak (iM aG) aG))))))))
def Nj(K:aC)(b d a c:Sp):TS:=
 (aN (bC cx (aP 2))
   (aN (bC (aZ am χ ap) (aP 3))
   (aN (bC (aZ eH (aU a [] E0 (ak π dE)) (aZ am χ aE)) (aP 4))
   (aN (bC dt (wQ (aU a [] E0 (ak π ci)) (aZ am χ eT) lW))
   (aN (bC (aU d [] E0 (ak π (ak (aU c [] E0 (ak π (ak Ω (ak dt aG)))) aG))) (aP 5))
   (bz (ig (ak (tC (.str "given")) (ak (aU b [] E0 (ak be (ak dt aG))) (ak ei aG))))))))))
def IK(K:aC)(a:Sp)(E:XK):TS:=
 (aN (bC (aU a [] E (ak π (ak cx (ak (aZ am χ aE) aG)))) (aP 2))
   (aN (bC (bA K Ω "load") (aP 3))
   (aN (dU K Ω (aZ am χ ap) "load")
   (bz (ig (ak (tC (.str "wrote")) (ak aI (ak (iM aG) aG))))))))
def Ng(K:aC)(a:Sp)(E:XK):TS:=
 (aN (bC (aU a [] E (ak π (ak cx (ak (aZ am χ aE) aG)))) (aP 2))
   (bz (ig (ak (tC (.str "read")) (ak (bA K Ω "load") (ak (iM aG) aG))))))
def Nh(K:aC)(b a:Sp)(E:XK):TS:=
 (aN (bC cx (aP 2))
   (aN (bC (aZ am χ aE) (aP 3))
   (aN (bC (bA K (aU b [] E (ak π (ak Ω ci))) "birth") (aP 4))
   (aN (sV (bA K π "names") (aZ am χ ap) (ig (ak (aZ eH (aU a [] E0 (ak π dE)) aI) (ak dt aG))))
   (bz (ig (ak (tC (.str "named")) (ak dt (ak (iM aG) aG)))))))))
def Nf(K:aC)(a d c b:Sp)(E:XK):TS:=
 (aN (bC (aU c [] E (ak π (ak (aZ am χ ap) aG))) (aP 2))
   (aN (bC Ω (wQ (aU b [] E0 (ak π (ak cx aG))) (aZ am χ aE) lW))
   (aN (bC (aU d [] E0 (ak π (ak (iM dE) aG))) (aP 3))
   (bz (ig (ak (tC (.str "sought")) (ak (aU a [] E0 (ak be dE)) ci)))))))
def xG(K:aC)(a:AI)(b:Sp)(E:XK):TS:=
 (aN (cX (tB (oY χ (bA K π "names"))) (G.Gm a E (ak (tC (.str "the weak name was never given")) aG)) bM)
   (aN (bC (aZ am (jV (bA K π "names") χ) ω) (aP 2))
   (aN (bC (aZ am (jV (bA K π "names") χ) ψ) (aP 3))
   (aN (cX (tB (aU b [] E0 (ak π (ak Ω ci)))) (bz bp) bM)
   (bz Ω)))))
def Zjb(K:aC)(n q r j m k s l o p:AI)(d a b h g e c i f t:Sp)(E:XK):TS:=
 (aN (bC (G.Zn1 [("make",m),("get",r),("put",s),("copy",n),("drop",q),("give",j),("write",p),("read",l),("name",k),("seek",o)] (aZ am χ ω)) (aP 2))
   (bz (G.Wn 2 [(m,g),(r,b),(s,c),(n,d),(q,a),(j,h),(p,t),(l,i),(k,e),(o,f)] E (ak π cr))))
def qx(K:aC):TS:=
 (aN (dU K π χ "room")
   (aN (dU K π Ω "kind")
   (aN (dU K π (pH (G.yl K) ci) "hands")
   (dU K π (pH (G.yl K) (ak dt aG)) "rows"))))
def Iv(K:aC)(a:AI)(b:Sp):TS:=
 (bz (sr a b [] E0 (ak (bA K π "room") (ak (bA K π "kind") (ak (bA K π "hands") aG)))))
def Ao(K:aC)(a:Sp):TS:=
 (aN (bC (iM aG) (aP 2))
   (aN (yZ (G.Vt K cr) (Zdn K 2 (uq (aP 3) (uq (aP 4) Zdo)))
   (mC (tBM K "list" La Ω (ak (aU a [] E0 (ak π (ak dt (ak (ig ci) aG)))) aG))))
   (aN (bC (pG) (aP 5))
   (aN (bC ω (aP 6))
   (aN (Wj (bY (aZ aT (aj 6) (pH ft dE))) (aN (bC (aZ am (aZ eH Ω (aj 6)) ω) (aP 7))
   (aN (bC (aZ am (aZ eH Ω (aj 6)) ψ) (aP 8))
   (aN (bC (aZ Θ (aj 6) ψ) (aP 6))
   (cX (tB (G.Zis true (aj 7) ei)) (aN (sV ei (aj 7) (aj 8))
   (mC (tBM K "list" La Ω (ak (aU a [] E0 (ak π (ak (bA K (aZ eH eB (aj 7)) "fields") (ak (aj 8) aG)))) aG)))) bM)))))
   (bz (pH (G.Ze6) (ak (G.Zbz ei) aG))))))))
def yO(K:aC)(a:Sp):TS:=
 (bz (G.Zgm K (G.Vt K cr) [0,2] (bY (aZ (G.tK) (aU a [] E0 (ak Ω cr)) bp)) (ig (ak χ (ak (aZ (Zpp K) aI (ig dv)) aG)))))
def zG(K:aC)(a:Sp):TS:=
 (aN (bC (iM aG) (aP 2))
   (aN (yZ (G.Vt K (ak (bA K π "hands") aG)) (Zdn K 2 (uq (aP 3) (uq (aP 4) Zdo)))
   (cX (bY (aZ (qF) (aZ dA (aZ eK χ aI) ψ) ψ)) (mC (tBM K "list" La Ω (ak (aU a [] E0 (ak π (ak (bA K dt "slots") aG))) aG))) bM))
   (bz Ω)))
def vX(K:aC)(a b:Sp):TS:=
 (aN (mC (aU a [] E0 dv))
   (aN (bC (aU b [] E0 (ak π (ak (bA K ba "looked") aG))) (aP 1))
   (bz (ig (ak (tC (.str "begin")) (ak (bA K ba "turn") cr))))))
def vV(K:aC)(b a:Sp):TS:=
 (aN (cX (G.Zqk K (bA K ba "grey")) (bz (aU a [] E0 dv)) bM)
   (bz (aU b [] E0 dv)))
def Zf1(K:aC)(a:Sp):TS:=
 (aN (bC ba (aP 1))
   (aN (bC (aZ eH (bA K be "cells") (tBM K "list" Zje (bA K χ "grey") (ak ω aG))) (aP 2))
   (aN (dU K χ (aZ Θ (bA K χ "walks") ψ) "walks")
   (bz (ig (ak (tC (.str "walk")) (ak (bA K Ω "birth") (ak (aU a [] E0 (ak π (ak (bA K Ω "fields") aG))) aG))))))))
def jZ(K:aC)(c e f:AI)(d a b g:Sp):TS:=
 (aN (bC (aU g [] E0 (ak π ci)) (aP 4))
   (aN (cX ((tOr (bY (aZ (qF) aI ω)) (yX ((tOr (tB (G.Gn (iI e "stays" a [] E0 Ω aG) (G.Gn (iI c "stays" a [] E0 Ω aG) (iI f "stays" d [] E0 Ω aG)))) (G.Zqk K dt)))))) (bz (aU b [] E0 dv)) bM)
   (aN (dU K χ (aZ Θ (bA K χ "looks") ψ) "looks")
   (aN (cX (tB (G.Gn (iI e "stays" a [] E0 Ω aG) (G.Gn (iI c "stays" a [] E0 Ω aG) (iI f "stays" d [] E0 Ω aG)))) (dU K χ (aZ (kj λi j=>.int (Builtin.bitOr i j)) (bA K χ "looked") aI) "looked") bM)
   (bz (ig (ak (tC (.str "look")) (ak aI (ak dt aG)))))))))
def xH(K:aC)(b c d:AI)(f h g e i a j:Sp):TS:=
 (aN (bC ba (aP 1))
   (aN (bC (bA K (bA K π "kind") "looking") (aP 2))
   (aN (bC (G.Gn (iI c "next_look" e [] E0 Ω (ak (bA K χ "looked") b9)) (G.Gn (iI b "next_look" f [] E0 Ω (ak (bA K χ "looked") b9)) (iI d "next_look" h [] E0 Ω (ak (bA K χ "looked") b9)))) (aP 3))
   (jZ K b c d g i a j))))
def Zjc(K:aC)(a d c b:Sp):TS:=
 (aN (bC ba (aP 1))
   (aN (dU K χ (pH ft (ak (bA K be "cells") aG)) "stop")
   (aN (dU K χ ω "at")
   (aN (bC (aU d [] E0 dv) (aP 2))
   (aN (cX (bY (aZ (G.tK) Ω bp)) (aN (dU K χ (tC (.str "lost")) "phase")
   (aN (dU K χ Ω "loss")
   (bz (aU b [] E0 dE)))) bM)
   (aN (dU K χ (tC (.str "give")) "phase")
   (aN (bC (aU a [] E0 (ak be (ak (aU c [] E0 dv) aG))) (aP 3))
   (bz (ig (ak (tC (.str "cut")) (ak (pH ft ci) ci)))))))))))
def zJ(K:aC)(c b a:Sp):TS:=
 (aN (yZ (rB K (aU b [] E0 (ak be (ak (aU a [] E0 dv) aG)))) (Zdn K 2 (uq (aP 1) (uq (aP 2) Zdo)))
   (aN (bC (aZ eH (bA K be "cells") χ) (aP 3))
   (cX (yX (tB (aU c [] E0 (ak π ci)))) (bz (ig (ak (tC (.str "lost")) (ak (bA K aI "birth") (ak (pH (G.Zme K) dE) aG))))) bM)))
   (bz bp))
def xJ(K:aC)(c:AI)(b a:Sp):TS:=
 (aN (bC be (aP 1))
   (bz (G.tLC (rB K (iI c "there" b [] E0 χ aG)) [0,1] (yX (tB (aU a [] E0 (ak χ (ak (aZ eH (bA K Ω "cells") π) aG))))) π)))
def zB(K:aC):TS:=
 (bz (ig (ak eW (ak (aZ am π ψ) (ak (pH (G.yl K) (ak (aZ am π aE) aG)) aG)))))
def vW(K:aC)(a b:Sp):TS:=
 (aN (cX (bY (aZ aT (bA K ba "at") (bA K ba "stop"))) (bz (aU b [] E0 dv)) bM)
   (bz (aU a [] E0 dv)))
def zF(K:aC)(b:AI)(a d c:Sp):TS:=
 (aN (bC ba (aP 1))
   (aN (bC (bA K χ "at") (aP 2))
   (aN (dU K χ (aZ Θ Ω ψ) "at")
   (aN (dU K χ (aZ Θ (bA K χ "passes") ψ) "passes")
   (aN (bC (aU d [] E0 (ak be dE)) (aP 3))
   (aN (cX ((tOr (bY (aZ (G.Nr) aI bp)) (tB (aU c [] E0 (ak π ci))))) (bz (ig (ak (tC (.str "pass")) (ak Ω (ak (iM aG) aG))))) bM)
   (bz (ig (ak (tC (.str "back")) (ak (iI b "back" a [] E0 be dE) (ak (iM dE) aG)))))))))))
def Zja(K:aC):TS:=
 (aN (bC ba (aP 1))
   (aN (dU K χ (tC (.str "rest")) "phase")
   (bz (ig (ak (tC (.str "end")) (ak (bA K χ "turn") (ak (iM (ak (bA K χ "walks") (ak (bA K χ "looks") (ak (bA K χ "passes") aG)))) aG)))))))
def qt(K:aC)(a:Sp):TS:=
 (bz (aU a [] E0 (ak (bA K ba "loss") aG)))
def WY(K:aC)(a c d b:AI)(g h e f:Sp):TS:=
 (aN (bC (G.Zn1 [("rest",a),("walk",d),("give",c),("lost",b)] (bA K ba "phase")) (aP 1))
   (bz (G.Wn 1 [(a,g),(d,e),(c,h),(b,f)] E0 dv)))
def ZF(K:aC)(a b:Sp):TS:=
 (aN (cX (bY (aZ (qF) (aZ am χ ω) (tC (.str "sweep")))) (bz (aU a [] E0 (ak π (ak cx aG)))) bM)
   (bz (iM (ak (aU b [] E0 (ak π cr)) aG))))
def M7(K:aC)(a b:Sp):TS:=
 (aN (bC (iM aG) (aP 2))
   (aN (Wj ((LQ (bY (aZ aT (pH ft dE) χ)) (yX (tB (aU b [] E0 dE))))) (mC (tBM K "list" o5 Ω (ak (aU a [] E0 dv) aG))))
   (bz Ω)))
def zE(K:aC):TS:=
 (bz ((zp (aZ (kj λi j=>.bl (decide (j<i))) (pH ft dv) ω) (aZ (qF) (aZ am (aZ eH π (tUn (rU λi=>.int (-i)) ψ)) ω) (tC (.str "lost"))))))
def rF(d e g f:AI)(c b:Sp):TS:=
 (G.Ziq (λa=>a=Value.ref d) (λa=>a=Value.ref g) (λa=>a=Value.ref e) (λa=>a=Value.ref f) (λEx=>(bz (G.Zc1 c [] Ex (ak π cr)))) (bz (aU b [] E0 (ak (tC (.str "empty")) aG))) (bz (aU b [] E0 (ak (tC (.str "field")) aG))) (bz (aU b [] E0 (ak (tC (.str "full")) aG))) (bz (aU b [] E0 (ak (tC (.str "name")) aG))))
def M9:TS:=
 (bz (ig (ak (tC (.str "refused")) (ak π (ak (iM aG) aG)))))
def Zj9(K:aC)(a b c:Sp):TS:=
 (aN (bC (aU c [] E0 dv) (aP 2))
   (aN (bC (iM aG) (aP 3))
   (aN (yZ (rB K (tSl (Zgx K) (bA K π "rows") uH (G.Zby χ))) (aP 4)
   (aN (mC (tBM K "list" o5 aI (ak (aU b [] E0 (ak Ω (ak dt aG))) aG)))
   (cX (tB (aU a [] E0 ci)) (Zc2) bM)))
   (bz aI))))
def Nb(K:aC)(a:Sp):TS:=
 (bz ((zp (aZ (kj λi j=>.bl (decide (j<i))) (pH ft dv) ω) (aU a [] E0 (ak (aZ eH π (tUn (rU λi=>.int (-i)) ψ)) aG)))))
def Df(K:aC):TS:=
 (aN (cX (bY (aZ aT χ (pH ft dv))) (bz (aZ eH π χ)) bM)
   (bz ω))
def De:TS:=
 (aN (bC (aZ Θ (aZ ο π χ) (tC (.int 11))) (aP 3))
   (bz (aZ ο (aZ ο (aZ bc (aZ ο (aZ bc aI aI) χ) (tC (.int 16807))) χ) Ω)))
def zO(K:aC):TS:=
 (aN (bC (tC (.str "abcdefghijklmnopqrstuvwxyz")) (aP 1))
   (aN (bC (iM aG) (aP 2))
   (aN (yZ (Zap (ak (aZ Θ ψ (aZ ο π (tC (.int 5)))) aG)) (aP 3)
   (aN (bC (aZ (Zjf) χ (aZ ο (aZ Θ (aZ ag π (tC (.int 5))) (aZ bc (tC (.int 5)) aI)) (tC (.int 26)))) (aP 4))
   (aN (bC (aZ (G.ZL) (aZ (G.ZL) (tSl (G.Zgw) (tC (.str "loom")) uH (HX (aZ ο (aZ ag π (tC (.int 7))) (tC (.int 5))))) dt) (tSl (G.Zgw) (tC (.str "fernway")) uH (HX (aZ ο (aZ ag π (tC (.int 11))) (tC (.int 8)))))) (aP 5))
   (mC (tBM K "list" o5 Ω (ak (ig (ak ei (ak (aZ Θ ap (aZ bc (aZ ο (aZ Θ (aZ ag π ap) (aZ bc (aZ bc aE aI) aI)) (tC (.int 7))) (aZ ο (aZ ag π (tC (.int 17))) aE))) aG))) aG))))))
   (bz Ω))))
def CZ:TS:=
 (aN (cX (bY (aZ (qF) (aZ ο π ap) ω)) (bz (aZ Θ eT (aZ ο (aZ ag π ap) (tC (.int 60))))) bM)
   (aN (cX (bY (aZ (qF) (aZ ο π ap) ψ)) (bz (aZ eu (aZ c9 (tC (.int 10)) (tC (.int 15))) (aZ ο (aZ ag π ap) (aZ c9 (tC (.int 10)) (tC (.int 12)))))) bM)
   (bz (aZ Θ eT (aZ ο (aZ ο (aZ bc π (tC (.int 48271))) (tC (.int 1000000000000037))) (aZ eu (aZ c9 (tC (.int 10)) (tC (.int 15))) ap))))))
def CV:TS:=
 (aN (cX (bY (aZ (qF) (aZ ο π (tC (.int 5))) ω)) (bz (aZ ο (aZ ag π (tC (.int 5))) χ)) bM)
   (bz (aZ ο (aZ ag π (tC (.int 5))) ap)))
def CT:TS:=
 (aN (bC (tC (.str "abcdefghijklmnopqrstuvwxyz")) (aP 2))
   (aN (bC (aZ (Zjf) Ω (aZ ο (aZ Θ (aZ ag π ap) (aZ bc (tC (.int 7)) χ)) (tC (.int 26)))) (aP 3))
   (bz (aZ (G.ZL) (aZ (G.ZL) (tSl (G.Zgw) (tC (.str "knot")) uH (HX (aZ ο π (tC (.int 5))))) aI) (tSl (G.Zgw) (tC (.str "ted")) uH (HX (aZ ο (aZ ag π (tC (.int 5))) eT)))))))
def Dc(K:aC)(a:Sp):TS:=
 (aN (bC (aZ eH (iM (ak ψ (ak ψ (ak ψ (ak aE (ak aE (ak aE (ak aE (ak ap (ak ω (ak (tC (.int 8)) aG))))))))))) (aU a [] E0 (ak π (ak (tC (.int 998717)) (ak (tC (.int 10)) aG))))) (aP 3))
   (aN (bC (aZ ο π ap) (aP 4))
   (aN (cX (bY (aZ (qF) (aU a [] E0 (ak π (ak (tC (.int 998749)) (ak (tC (.int 8)) aG)))) ψ)) (bC (aZ ο π (aZ Θ (aZ c9 (tC (.int 10)) (tC (.int 12))) ψ)) (aP 4)) bM)
   (bz (ig (ak (tC (.str "make")) (ak χ (ak Ω (ak aI (ak dt aG))))))))))
def zK(a:Sp):TS:=
 (aN (bC (aU a [] E0 (ak π (ak (tC (.int 998759)) (ak (tC (.int 1000)) aG)))) (aP 2))
   (aN (cX (bY (aZ (qF) (aZ ο Ω aE) ω)) (bz (ig (ak (tC (.str "sweep")) (ak (aZ Θ ψ (aZ ο (aZ ag Ω aE) eT)) aG)))) bM)
   (bz (ig (ak (tC (.str "sweep")) (ak (aZ Θ ψ (aZ ο (aZ ag Ω aE) χ)) aG))))))
def zM(K:aC)(a c b:Sp):TS:=
 (aN (bC (aZ ο π (tC (.int 16))) (aP 5))
   (aN (bC (aU b [] E0 (ak dt (ak (aU a [] E0 (ak π (ak (tC (.int 998779)) (ak ap aG)))) aG))) (aP 6))
   (aN (cX (bY (aZ (qF) ei (tC (.int 9)))) (aN (bC (aU a [] E0 (ak π (ak (tC (.int 998813)) (ak (pH ft ci) aG)))) (aP 7))
   (aN (bC (aZ am (aZ eH aI (aj 7)) ψ) (aP 8))
   (bz (ig (ak (tC (.str "give")) (ak χ (ak Ω (ak (aj 7) (ak (aU c [] E0 (ak (aU a [] E0 (ak π (ak (tC (.int 998819)) (ak (tC (.int 5000)) aG)))) (ak (aj 8) aG))) aG))))))))) bM)
   (aN (cX (bY (aZ (qF) ei (tC (.int 10)))) (bz (ig (ak (tC (.str "name")) (ak χ (ak Ω (ak (aj 6) aG)))))) bM)
   (aN (cX (bY (aZ (qF) ei (tC (.int 11)))) (bz (ig (ak (tC (.str "seek")) (ak χ (ak Ω (ak (aj 6) aG)))))) bM)
   (aN (cX (bY (aZ (qF) (aZ ο (aZ ag π (tC (.int 16))) ap) ω)) (bz (ig (ak (tC (.str "read")) (ak χ dE)))) bM)
   (aN (cX (bY (aZ (qF) (aZ ο (aZ ag π (tC (.int 16))) ap) ψ)) (bz (ig (ak (tC (.str "write")) (ak χ (ak Ω (ak (aZ ο π (aZ c9 (tC (.int 10)) (tC (.int 60)))) aG)))))) bM)
   (bz (ig (ak (tC (.str "write")) (ak χ (ak Ω (ak (tUn (rU λi=>.int (-i)) (aZ ο (aZ bc π (tC (.int 48271))) (aZ c9 (tC (.int 10)) (tC (.int 60))))) aG)))))))))))))
def IW(K:aC)(a e c b d:Sp):TS:=
 (aN (bC (aU a [] E0 (ak π (ak (tC (.int 999983)) (ak (pH ft cr) aG)))) (aP 4))
   (aN (bC (aU b [] E0 (ak (aU a [] E0 (ak π (ak (tC (.int 1000003)) (ak (tC (.int 5000)) aG)))) (ak (aZ am (aZ eH χ dt) ψ) aG))) (aP 5))
   (aN (bC (aU b [] E0 (ak (aU a [] E0 (ak π (ak (tC (.int 1000033)) (ak (tC (.int 5000)) aG)))) (ak (aZ am (aZ eH χ dt) ψ) aG))) (aP 6))
   (aN (bC (aU a [] E0 (ak π (ak (tC (.int 1000037)) (ak ap aG)))) (aP 7))
   (aN (bC (aZ ο π (tC (.int 16))) (aP 8))
   (aN (cX (bY (aZ aT (aj 8) ap)) (bz (aU e [] E0 (ak π (ak dt (ak ei aG))))) bM)
   (aN (cX (bY (aZ aT (aj 8) (tC (.int 5)))) (bz (ig (ak (tC (.str "get")) (ak dt (ak ei (ak (aj 6) (ak (aj 7) aG))))))) bM)
   (aN (cX (bY (aZ aT (aj 8) (tC (.int 7)))) (bz (ig (ak (tC (.str "put")) (ak dt (ak ei (ak (aj 7) (ak (aj 6) aG))))))) bM)
   (aN (cX (bY (aZ (qF) (aj 8) (tC (.int 7)))) (bz (ig (ak (tC (.str "drop")) (ak dt (ak ei aG))))) bM)
   (aN (cX (bY (aZ (qF) (aj 8) (tC (.int 8)))) (bz (ig (ak (tC (.str "copy")) (ak dt (ak ei (ak (aj 6) aG)))))) bM)
   (aN (cX (bY (aZ (kj λi j=>.bl (decide (j<i))) (aj 8) (tC (.int 12)))) (bz (aU d [] E0 (ak π ci))) bM)
   (bz (aU c [] E0 (ak π (ak dt (ak ei (ak χ dE)))))))))))))))))
def CW(K:aC)(a:Sp):TS:=
 (aN (bC (iM aG) (aP 4))
   (aN (yZ (G.Vt K dv) (Zdn K 2 (uq (aP 5) (uq (aP 6) Zdo)))
   (mC (tBM K "list" o5 dt (ak (aU a [] E0 (ak (aZ Θ (aj 6) (aZ bc (aZ bc (tC (.int 10007)) ei) ei)) (ak χ (ak Ω ci)))) aG))))
   (bz dt)))
def Dd(c d a e:AI)(b:Sp):TS:=
 (aN (bC (aZ ο (aZ ag π ap) eT) (aP 1))
   (aN (cX (bY (aZ (qF) (aZ ο π ap) ω)) (bz (sr a b [] E0 (ak (G.Gp d) cr))) bM)
   (aN (cX (bY (aZ (qF) (aZ ο π ap) ψ)) (bz (sr a b [] E0 (ak (G.Gp c) cr))) bM)
   (bz (sr a b [] E0 (ak (G.Gp e) cr))))))
def rG:TS:=
 (bz ((zp (pH (G.Hr) (ak π (ak (tC (.ty "int")) aG))) (Zer (pH (G.Hr) (ak π (ak (tC (.ty "bool")) aG)))))))
def zL(K:aC):TS:=
 (aN (bC (iM aG) (aP 3))
   (aN (yZ (rB K π) (aP 4)
   (Zqn 3 dt G.ipL))
   (aN (bC (pG) (aP 5))
   (Wj (bY (aZ (G.Zqx K true) aI (iM aG))) (aN (bC (Zqm K "list" Ztj aI) (aP 6))
   (cX ((LQ (bY (aZ (G.tK) (aj 6) bp)) (tB (oY (aj 6) ei)))) (aN (sV ei (aj 6) (tC (.bl true)))
   (aN (sV Ω (aj 6) (tC (.bl true)))
   (Zqn 3 (jV χ (aj 6)) G.ipL))) bM))))))
def zN:TS:=
 (aN (cX (bY (aZ (G.Nr) π bp)) (bz (iM aG)) bM)
   (bz (jV χ π)))
def je(a:Sp):TS:=
 (aN (cX (bY (aZ (G.tK) (jV dt (tC (.str "met"))) bp)) (mC (aU a [] E0 (ak Ω (ak aI (ak (jV dt (tC (.str "met"))) aG))))) bM)
   (bz (tC (.bl true))))
def gF(K:aC)(a:Sp):TS:=
 (aN (cX (bY (aZ (qF) eW (tC (.str "give")))) (aN (bC (aZ eH Ω (aZ am π ap)) (aP 7))
   (bC (aZ eH ei (aZ am π aE)) (wQ (aj 7) (aZ am π eT) lW))) bM)
   (je a))
def gG(K:aC)(a:Sp):TS:=
 (aN (cX (bY (aZ (qF) eW (tC (.str "drop")))) (bC bp (wQ ei (aZ am π aE) lW)) bM)
   (gF K a))
def gH(K:aC)(a:Sp):TS:=
 (aN (cX (bY (aZ (qF) eW (tC (.str "copy")))) (bC (aZ eH ei (aZ am π ap)) (wQ ei (aZ am π aE) lW)) bM)
   (gG K a))
def gJ(K:aC)(a b:Sp):TS:=
 (aN (cX ((LQ (bY (aZ (qF) eW (tC (.str "put")))) (bY (aZ aT (aZ am π ap) (pH ft (ak (aU a [] E0 (ak (aZ eH ei (aZ am π aE)) ci)) aG)))))) (aN (bC (jV aI (aZ eH ei (aZ am π aE))) (aP 6))
   (bC (aZ eH ei (aZ am π eT)) (wQ (aj 6) (aZ am π ap) lW))) bM)
   (gH K b))
def eY(K:aC)(a b:Sp):TS:=
 (aN (cX ((LQ (bY (aZ (qF) eW (tC (.str "get")))) (bY (aZ aT (aZ am π eT) (pH ft (ak (aU a [] E0 (ak (aZ eH ei (aZ am π ap)) ci)) aG)))))) (bC (aZ eH (jV aI (aZ eH ei (aZ am π ap))) (aZ am π eT)) (wQ ei (aZ am π aE) lW)) bM)
   (gJ K a b))
def gK(K:aC)(a b:Sp):TS:=
 (aN (cX ((LQ (bY (aZ (qF) (aZ am χ ω) (tC (.str "sought")))) (bY (aZ (qF) eW (tC (.str "seek")))))) (aN (cX ((LQ (bY (aZ (G.tK) cx bp)) (tB (oY cx aI)))) cE bM)
   (bC cx (wQ ei (aZ am π aE) lW))) bM)
   (eY K a b))
def jf(K:aC)(b c a:Sp):TS:=
 (aN (cX ((LQ (bY (aZ (qF) (aZ am χ ω) (tC (.str "made")))) (bY (aZ (qF) eW (tC (.str "make")))))) (aN (cX ((tOr (yX (tB (aU a [] E0 (ak cx aG)))) (tB (Zn2 cx aI)))) cE bM)
   (aN (bC cx (wQ ei (aZ am π aE) lW))
   (aN (sV aI cx (aZ (Zgy) (iM (ak bp aG)) (aZ am π ap)))
   (sV (jV dt (tC (.str "there"))) cx (tC (.bl true)))))) bM)
   (gK K b c))
def zP(K:aC)(b c a:Sp):TS:=
 (aN (bC (aZ eH Ω (aZ am π ψ)) (aP 5))
   (jf K b c a))
def sY(K:aC)(a:Sp):TS:=
 (aN (yZ (G.Zlm (jV χ (tC (.str "early")))) (aP 3)
   (cX ((LQ (tB (oY aI (jV χ (tC (.str "met"))))) (tB (oY aI Ω)))) cE bM))
   (aN (sV χ (tC (.str "doomed")) Ω)
   (aN (sV χ (tC (.str "met")) bp)
   (bz ((zp (aU a [] E0 (ak (aZ am π ψ) aG)) (aZ (qF) (aZ am π ψ) (pH ft (ak (aZ am π aE) aG)))))))))
def Jb(K:aC)(a:Sp):TS:=
 (aN (bC (pG) (aP 2))
   (aN (yZ (rB K (aZ am π aE)) (aP 3)
   (aN (cX ((tOr (yX (tB (aU a [] E0 ci))) (tOr (tB (Zn2 aI Ω)) (tB (oY aI (jV χ (tC (.str "there")))))))) cE bM)
   (sV Ω aI (tC (.bl true)))))
   (sY K a)))
def fK(K:aC):TS:=
 (aN (cX (bY (aZ (qF) eW (tC (.str "end")))) (bz (aZ (G.Zjg false) (jV aI (tC (.str "doomed"))) (pG))) bM)
   (bz (tC (.bl true))))
def fL(K:aC):TS:=
 (aN (cX (bY (aZ (qF) eW (tC (.str "back")))) (aN (cX (tB (oY (aZ am π ψ) (jV aI (tC (.str "doomed"))))) cE bM)
   (aN (mC (Wl (jV aI (tC (.str "doomed"))) (aZ am π ψ)))
   (mC (Wl (jV aI (tC (.str "there"))) (aZ am π ψ))))) bM)
   (fK K))
def fM(K:aC)(a:Sp):TS:=
 (aN (cX (bY (aZ (qF) eW (tC (.str "cut")))) (bz ((zp (aZ (G.tK) (jV aI (tC (.str "met"))) bp) (aU a [] E0 (ak π ci))))) bM)
   (fL K))
def kZ(K:aC)(b a:Sp):TS:=
 (aN (cX (bY (aZ (qF) eW (tC (.str "begin")))) (aN (sV aI (tC (.str "early")) (pH (G.Zmf) (ak (jV aI (tC (.str "there"))) aG)))
   (aN (sV aI (tC (.str "met")) (pG))
   (mC (aU a [] E0 (ak χ (ak Ω (ak (jV aI (tC (.str "met"))) aG))))))) bM)
   (fM K b))
def rH(K:aC):TS:=
 (aN (cX ((tOr (yX (tB (pH (G.Hr) (ak π (ak (tC (.ty "tuple")) aG))))) (bY (aZ (rNe) (pH ft dv) ap)))) cE bM)
   (bz ((zp (pH (G.Hr) (ak eW (ak (tC (.ty "str")) aG))) (pH (G.Hr) (ak (aZ am π aE) (ak (tC (.ty "list")) aG)))))))
def sX(K:aC)(b c a:Sp):TS:=
 (aN (bC (pG) (aP 3))
   (aN (bC (Zpk [((tC (.str "there")),(pG)),((tC (.str "early")),(pG)),((tC (.str "met")),bp),((tC (.str "doomed")),(pG))]) (aP 4))
   (aN (bC bp (aP 5))
   (aN (yZ (G.Zsk K (ak π cr)) (Zdn K 2 (uq (aP 6) (uq (aP 7) Zdo)))
   (yZ (rB K (aj 7)) (aP 8)
   (aN (cX (yX (tB (aU c [] E0 (ak (aj 8) aG)))) cE bM)
   (aN (bC (aZ am (aj 8) ω) (aP 5))
   (cX (bY (aZ (qF) (aZ am (aj 6) ω) (tC (.str "sweep")))) (cX (yX (tB (aU a [] E0 (ak (aj 8) (ak Ω (ak aI (ak dt aG))))))) cE bM) (cX (yX (tB (aU b [] E0 (ak (aj 6) (ak (aj 8) (ak Ω (ak aI (ak dt aG)))))))) cE bM))))))
   (bz ((Zql (aZ (qF) (pH ft cr) (pH ft dv)) ((zp (aZ aT (pH ft cr) (pH ft dv)) (aZ (qF) ei (tC (.str "lost"))))))))))))
def Zcl(K:aC)(f:AI)(c a h d e g k l b:Sp):TS:=
 (aN (bC (aU e [] E0 (ak (aU a [] E0 (ak π (ak ψ aG))) aG)) (aP 1))
   (aN (bC (aU a [] E0 (ak π (ak aE aG))) (aP 2))
   (aN (bC (aU l [] E0 (ak (tSl (Zgx K) π (HX ap) (HX (tC (.int 63)))) (ak χ (ak Ω (ak (tC (.int 24)) aG))))) (aP 3))
   (aN (mC (tBM K "list" o5 aI (ak (ig (ak (tC (.str "sweep")) (ak (aZ Θ ψ (aU h [] E0 (ak Ω (ak (tC (.int 1000003)) (ak (tC (.int 150)) aG))))) aG))) aG)))
   (aN (bC (sr f c [] E0 (ak (aU k [] E0 dE) (ak (aU g [] E0 (ak (aU a [] E0 (ak π (ak ω aG))) aG)) (ak (pH (G.yl K) cr) (ak (pH (G.yl K) ci) aG))))) (aP 4))
   (aN (bC (aU b [.non] E0 (ak dt aG)) (aP 5))
   (aN (cX (yX (tB (pH (G.Hr) (ak ei (ak (tC (.ty "list")) aG))))) cE bM)
   (aN (yZ (rB K ei) (aP 6)
   (cX (yX (tB (pH (G.Hr) (ak (aj 6) (ak (tC (.ty "list")) aG))))) cE bM))
   (bz (aU d [] E0 (ak aI (ak ei (ak (G.Zgm K (rB K χ) [] G.vK (aZ (Zgy) (iM (ak bp aG)) χ)) aG)))))))))))))
structure TxC(K:aC)(cu bW:AI):Prop where
 dR:K7 K cu
 eN:cL K cu "birth"
 qT:cL K cu "bulk"
 nR:cL K cu "tone"
 lF:cL K cu "load"
 gk:cL K cu "fields"
 cZ:K7 K bW
 qR:cL K bW "room"
 bZ:cL K bW "cells"
 iT:cL K bW "used"
 nQ:cL K bW "born"
 Lj:EqD K cu
structure yK(CC:AI)(H:Hp)(p fa:AI)(birth bulk tone load:Int)(fl:List V):Prop where
 o:∃dx,H p=some (.ins CC dx bS)
 f:H fa=some (.lst fl)
theorem yK.same{a:AI}{H H':Hp}{p fa:AI}{birth bulk tone load:Int}{fl:List V}(h:yK a H p fa birth bulk tone load fl)(s:bB H H'):yK a H' p fa birth bulk tone load fl:=by
 obtain⟨⟨b,h1⟩,h2⟩:=h;exact⟨⟨b,s _ _ h1⟩,s _ _ h2⟩
structure HpO(CH:AI)(H:Hp)(hp ca:AI)(room used born:Int)(cs:List V):Prop where
 o:∃dx,H hp=some (.ins CH dx cc)
 c:H ca=some (.lst cs)
theorem Qy{a b c d e f g:Int}{x y:AI}:jL a b c d x≠iV e y f g:=λz=>by
 have:=congrArg List.length z;cases this
inductive yz(CC:AI)(p:AI)(birth:Int)(many:Int)(bulk:Int)(tone:Int)(H:Hp)(Q:VK):Prop
 | mk (dx) (_:H p=some (.ins CC dx [])) (_:0<=many) (_:many<=1000) (_:∀fa H',H fa=none->H' p=some (.ins CC dx (jL birth bulk tone 0 fa))->H' fa=some (.lst (List.replicate many.toNat V.non))->(∀b o,H b=some o->b≠p->H' b=some o)->Q .non H'):yz CC p birth many bulk tone H Q
def Kg(b:AI):Sp:=λvs H Q E=>∃p birth a bulk tone,vs=[.ref p,.int birth,.int a,.int bulk,.int tone]/\yz b p birth a bulk tone H Q
def vH(a:AI):Sp:=λvs H Q E=>∃p,vs=[.ref p]/\∃fa birth bulk tone load fl,yK a H p fa birth bulk tone load fl/\Q (.int (1+fl.length+bulk)) H
def Kd(a:AI):Sp:=λvs H Q E=>∃p room,vs=[.ref p,.int room]/\∃dx,H p=some (.ins a dx [])/\
 ∀ca H',H ca=none->H' p=some (.ins a dx (iV room ca 0 0))->H' ca=some (.lst [])->(∀b o,H b=some o->b≠p->H' b=some o)->Q .non H'
def Ke(a:AI):Sp:=λvs H Q E=>∃hp,vs=[.ref hp]/\∃ca room used born cs,HpO a H hp ca room used born cs/\Q (.int (room - used)) H
def plc(cs:List V):AE:=((List.range cs.length).filter λi=>!decide (cs[i]? =some V.non)).map λ(i:Nat)=>(i:Int)
inductive vz(CH:AI)(hp:AI)(H:Hp)(Q:VK):Prop
 | mk (ca room used born cs) (_:HpO CH H hp ca room used born cs) (_:cs.length<=1000) (_:∀l,H l=none->Q (.ref l) (upd H l (.lst ((plc cs).map V.int)))):vz CH hp H Q
def vG(a:AI):Sp:=λvs H Q E=>∃hp,vs=[.ref hp]/\vz a hp H Q
def putN(cs:List V)(v:V):List V:=if V.non∈cs then cs.set (cs.idxOf V.non) v else cs++[v]
inductive Bl(K:aC)(CH:AI)(hp:AI)(v:V)(H:Hp)(Q:VK):Prop
 | mk (ca room used born cs) (_:HpO CH H hp ca room used born cs) (_:OkN K H cs) (_:cs.length<=1000) (_:Q (.int (cs.idxOf V.non)) (upd H ca (.lst (putN cs v)))):Bl K CH hp v H Q
def QV(K:aC)(a:AI):Sp:=λvs H Q E=>∃hp v,vs=[.ref hp,v]/\Bl K a hp v H Q
inductive yw(CC:AI)(CH:AI)(hp:AI)(i:Int)(H:Hp)(Q:VK):Prop
 | mk (ca dx room used born cs p fa birth bulk tone load fl) (_:0<=i) (_:H hp=some (.ins CH dx (iV room ca used born))) (_:H ca=some (.lst cs)) (_:cs[i.toNat]? =↑p) (_:yK CC H p fa birth bulk tone load fl) (_:Q (.int birth) (upd (upd H hp (.ins CH dx (iV room ca (used - (1+fl.length+bulk)) born))) ca (.lst (cs.set i.toNat V.non)))):yw CC CH hp i H Q
def yG(b a:AI):Sp:=λvs H Q E=>∃hp i,vs=[.ref hp,.int i]/\yw b a hp i H Q
inductive yu(K:aC)(CC:AI)(CH:AI)(CF:AI)(hp:AI)(many:Int)(bulk:Int)(tone:Int)(H:Hp)(Q:VK)(E:XK):Prop
 | mk (ca dx room used born cs) (_:H hp=some (.ins CH dx (iV room ca used born))) (_:H ca=some (.lst cs)) (_:OkN K H cs) (_:cs.length<=1000) (_:0<=many) (_:many<=1000) (_:(room - used<1+many+bulk->∀H',bB H H'->E (.ref CF) none H')) (_:(1+many+bulk<=room - used->∀p fa H',H p=none->H fa=none->Fm [hp,ca] H H'->H' hp=some (.ins CH dx (iV room ca (used+(1+many+bulk)) (born+1)))->H' ca=some (.lst (putN cs (.ref p)))->
  yK CC H' p fa (born+1) bulk tone 0 (List.replicate many.toNat V.non)->Q (.int (cs.idxOf V.non)) H')):yu K CC CH CF hp many bulk tone H Q E
def Kc(K:aC)(c b d:AI):Sp:=λvs H Q E=>∃hp a bulk tone,vs=[.ref hp,.int a,.int bulk,.int tone]/\yu K c b d hp a bulk tone H Q E
section
variable {K:aC}{cu bW cR:AI}{H:Hp}{Q:VK}{E:XK}{n:ν}{bk ct:ν}
theorem Tf{p:AI}(T:TxC K cu bW)(q:∃fa birth bulk tone load fl,yK cu H p fa birth bulk tone load fl/\Q (.int (1+fl.length+bulk)) H):zR K ξ [↑p] H:=by
 obtain⟨fa,birth,bulk,tone,load,fl,⟨⟨a,h1⟩,h2⟩,h⟩:=q;unfold zR;apply aJ h1 T.dR T.gk jt ?_;apply eZ (cC.of h2) ?_;apply aJ h1 T.dR T.qT SN ?_;apply h
theorem HR{p:AI}{birth a bulk tone:Int}(T:TxC K cu bW)(q:yz cu p birth a bulk tone H Q):
  tH K ⟨λ_ H'=>Q .non H',Q,bk,ct⟩ [↑p,some (.int birth),some (.int a),some (.int bulk),some (.int tone)] H:=by
 obtain⟨c,hp,h0,h1,h⟩:=q;unfold tH;exists p,cu,c,[],rfl,hp,T.dR,T.eN,ε;apply⟨p,cu,c,_,rfl,aq,T.dR,T.qT,by show 1<1000;decide,?_⟩;rw[dz];apply⟨p,cu,c,_,rfl,aq,T.dR,T.nR,by show 2<1000;decide,?_⟩;rw[dz];apply⟨p,cu,c,_,rfl,aq,T.dR,T.lF,by show 3<1000;decide,?_⟩;rw[dz];apply⟨ε,λn m=>?_⟩;apply⟨n,a,_,rfl,rfl,aq,δ,δ,?_,λj f=>?_⟩
 ·show 1 * a.toNat<=sizeLine;exact bF δ
 have g:p≠n:=aD aq m;have d:p≠j:=aD ((aA g).trans aq) f;apply⟨p,cu,c,_,rfl,(aA d).trans ((aA g).trans aq),T.dR,T.gk,by show 4<1000;decide,?_⟩;have s:H j=none:=by
  have e:=f;have n1:j≠n:=λz=>by rw[z,aq]at e;cases e
  rw[aA n1,aA d.symm]at e;exact e
 refine h j _ s (aq.trans (congrArg (λl=>some (HO.ins cu c l)) Zmd)) ?_ λb o hb i=>?_
 ·rw[aA d.symm,aq];have e:(List.replicate a.toNat [V.non]).flatten=List.replicate a.toNat V.non:=by
   generalize a.toNat=k
   induction k with
   | zero=>rfl
   | succ k t=>rw[List.replicate_succ,List.replicate_succ,List.flatten_cons,t];rfl
  rw[e]
 ·have r:upd H p (HO.ins cu c (bL "load" (V.int 0) (bL "tone" (V.int tone) (bL "bulk" (V.int bulk) (bL "birth" (V.int birth) []))))) b=some o:=(aA i).trans hb;have n1:b≠n:=aD r m;have n2:b≠j:=aD ((aA n1).trans r) f;rw[aA i,aA n2,aA n1];exact r
theorem HN{p:AI}{room:Int}(T:TxC K cu bW)(q:∃dx,H p=some (.ins bW dx [])/\
 ∀ca H',H ca=none->H' p=some (.ins bW dx (iV room ca 0 0))->H' ca=some (.lst [])->(∀b o,H b=some o->b≠p->H' b=some o)->Q .non H'):
  tE K ⟨λ_ H'=>Q .non H',Q,bk,ct⟩ [↑p,some (.int room)] H:=by
 obtain⟨dx,hp,h⟩:=q;unfold tE;exists p,bW,dx,[],rfl,hp,T.cZ,T.qR,ε;apply⟨ε,λca a=>?_⟩;ext;have d:p≠ca:=aD aq a;refine⟨p,bW,dx,_,rfl,(aA d).trans aq,T.cZ,T.bZ,by show 1<1000;decide,?_⟩;apply⟨p,bW,dx,_,rfl,aq,T.cZ,T.iT,by show 2<1000;decide,?_⟩;rw[dz];apply⟨p,bW,dx,_,rfl,aq,T.cZ,T.nQ,by show 3<1000;decide,?_⟩;rw[dz];have f:H ca=none:=by
  have e:=a;rw[aA d.symm]at e;exact e
 refine h ca _ f (aq.trans (congrArg (λl=>some (HO.ins bW dx l)) Zlp)) ?_ λb o hb c=>?_
 ·rw[aA d.symm,aq]
 ·rw[aA c,aA (aD ((aA c).trans hb) a),aA c];exact hb
theorem Za{hp:AI}(T:TxC K cu bW)(q:∃ca room used born cs,HpO bW H hp ca room used born cs/\Q (.int (room - used)) H):Dh K ξ [↑hp] H:=by
 obtain⟨ca,room,used,born,cs,⟨⟨a,h1⟩,h2⟩,h⟩:=q;unfold Dh;apply aJ h1 T.cZ T.qR Sx ?_;apply aJ h1 T.cZ T.iT rT ?_;apply h
theorem Te{hp:AI}(T:TxC K cu bW)(q:vz bW hp H Q):rJ K ξ [↑hp] H:=by
 obtain⟨ca,room,used,born,cs,⟨⟨a,h1⟩,h2⟩,hl,h⟩:=q;unfold rJ;apply Zfo ?_;apply aJ h1 T.cZ T.bZ bT ?_;apply eZ (cC.of h2) ?_;exists _,rfl,δ,δ;refine Zl7 (n:=cs.length) δ (p:=λi=>!decide (cs[i]? =some V.non)) (f:=λi=>.int i) δ ?_ ?_ ?_
 ·intro i hi k hk;walk_at"c";apply aJ h1 T.cZ T.bZ bT ?_;apply fB (cC.of h2) (fG (bD hi)) ?_;apply Zdg ?_;rw[bD hi]at hk;ext;simpa using hk
 ·intro i hi _ k hk;walk_at"c";apply hk
 ·have e:((plc cs).map V.int)=((List.range cs.length).filter λi=>!decide (cs[i]? =some V.non)).map λ(i:Nat)=>V.int i:=by
   unfold plc;rw[List.map_map];rfl
  rw[<- e];exact h
theorem Zbs{hp:AI}{v:V}(T:TxC K cu bW)(q:Bl K bW hp v H Q):Jc K ξ [↑hp,some v,none] H:=by
 obtain⟨ca,room,used,born,cs,⟨⟨e,h1⟩,h2⟩,c,hl,h⟩:=q;unfold Jc;apply aJ h1 T.cZ T.bZ bT ?_;apply Zlh (cC.of h2) c ?_;apply Zdf (λhn=>?_) (λhn=>?_)
 ·apply aJ h1 T.cZ T.bZ bT ?_;refine⟨.inl ⟨rfl,_,cC.of h2⟩,?_⟩;exists ca,cs,v,rfl,rfl,h2,Nat.lt_of_le_of_lt hl ε;ext;have a:hp≠ca:=lE h1 h2 a8;refine aJ ((aA a).trans h1) T.cZ T.bZ bT ?_;apply eZ (cC.of aq) ?_;ext;have d:(((cs++[v]).length:Int) - 1)=(cs.idxOf V.non:Nat):=by
   rw[List.length_append,List.idxOf_eq_length hn];simp
  have b:putN cs v=cs++[v]:=by unfold putN;rw[if_neg hn]
  rw[d,<- b];exact h
 ·apply aJ h1 T.cZ T.bZ bT ?_;refine⟨.inl ⟨rfl,_,cC.of h2⟩,?_⟩;exists ca,cs,rfl,rfl,cC.of h2,c,hn;apply aJ h1 T.cZ T.bZ bT ?_;ext;have hi:cs.idxOf V.non<cs.length:=List.idxOf_lt_length_iff.mpr hn;refine⟨ca,cs,_,_,rfl,rfl,h2,lz hi,?_⟩;have b:putN cs v=cs.set (cs.idxOf V.non) v:=by unfold putN;rw[if_pos hn]
  rw[<- b];apply h
theorem Zb{hp:AI}{i:Int}(T:TxC K cu bW)(q:yw cu bW hp i H Q):Di K cu (vH cu) ξ [↑hp,some (.int i),none] H:=by
 obtain⟨ca,dx,room,used,born,cs,p,d,birth,bulk,tone,load,fl,h0,h1,h2,hi,co,h⟩:=q;obtain⟨⟨dp,c1⟩,c2⟩:=id co;unfold Di;apply aJ h1 T.cZ T.bZ bT ?_;apply fB (cC.of h2) (nu h0 hi) ?_;apply aJ h1 T.cZ T.iT rT ?_;exists p,dp,_,rfl,c1,p7;exists p,rfl,d,birth,bulk,tone,load,fl,co;apply⟨hp,bW,dx,_,rfl,h1,T.cZ,T.iT,by show 4<1000;decide,?_⟩;rw[yf];have b:hp≠ca:=lE h1 h2 a8;apply aJ aq T.cZ T.bZ bT ?_;ext;have c:i.toNat<cs.length:=(cG hi).1;refine⟨ca,cs,_,_,rfl,rfl,(aA b.symm).trans h2,Zod h0 c,?_⟩;apply aJ (C:=cu) (a:=p) (dx:=dp) (fs:=jL birth bulk tone load d) ?_ T.dR T.eN fV ?_
 ·have n1:p≠ca:=lE c1 h2 a8;have n2:p≠hp:=lE c1 h1 (λz=>by injection z with _ _ z;exact Qy z);rw[aA n1,aA n2];exact c1
 exact h
theorem Y9{hp:AI}{c bulk tone:Int}(T:TxC K cu bW)(q:yu K cu bW cR hp c bulk tone H Q E):
  Dg K cu cR bW (Kg cu) (vH cu) (Ke bW) (QV K bW) E ξ [↑hp,some (.int c),some (.int bulk),some (.int tone),none] H:=by
 obtain⟨ca,h,room,used,born,cs,h1,h2,A,hl,I,B,J,F⟩:=q;have i:hp≠ca:=lE h1 h2 a8;unfold Dg;apply aJ h1 T.cZ T.nQ Sy ?_;ext;intro p dp j l x;refine⟨p,_,c,_,_,rfl,dp,aq,I,B,λf m r c1 c2 D=>⟨rfl,?_⟩⟩;have g:H f=none:=by
  have e:=r
  by_cases z1:f=p
  ·rw[z1,aq]at e;cases e
  ·rw[aA z1]at e
   by_cases s:f=dp
   ·rw[s,aq]at e;cases e
   ·rw[aA s]at e;exact e
 have sm:bB H m:=λb o hb=>by
  refine D b o ?_ (aD hb j);rw[aA (aD hb j),aA (aD hb l)];exact hb
 have co:yK cu m p f (born+1) bulk tone 0 (List.replicate c.toNat V.non):=⟨⟨dp,c1⟩,c2⟩;have v:((List.replicate c.toNat V.non).length:Int)=c:=by rw[List.length_replicate];omega
 exists p,dp,_,rfl,c1,p7;exists p,rfl,f,_,_,_,_,_,co;exists hp,h,_,rfl,sm _ _ h1,Su;exists hp,rfl,ca,room,used,born,cs,⟨⟨h,sm _ _ h1⟩,sm _ _ h2⟩;ext;rw[v];refine j9 (λt=>?_) (λt=>?_)
 ·apply⟨ε,J t m sm⟩
 ·apply aJ c1 T.dR T.eN fV ?_;apply⟨hp,bW,h,_,rfl,sm _ _ h1,T.cZ,T.nQ,by show 4<1000;decide,?_⟩;rw[Qf];apply aJ aq T.cZ T.iT rT ?_;ext;have n1:p≠hp:=(aD h1 j).symm;have n2:f≠hp:=(aD h1 g).symm;have n3:p≠ca:=(aD h2 j).symm;have n4:f≠ca:=(aD h2 g).symm;refine⟨p,dp,_,rfl,(aA n1).trans c1,p7,?_⟩;exists p,rfl,f,_,_,_,_,_,⟨⟨dp,(aA n1).trans c1⟩,(aA n2).trans c2⟩;ext;rw[v];refine⟨hp,bW,h,_,rfl,aq,T.cZ,T.iT,by show 4<1000;decide,?_⟩;rw[yf,dz];exists hp,h,_,rfl,aq,Yl;exists hp,.ref p,rfl,ca,room,_,_,cs,⟨⟨h,aq⟩,(aA i.symm).trans (sm _ _ h2)⟩,?_,hl
  ·intro y hy;rcases A y hy with e | ⟨a,C,d,fs,e,k,hc,u⟩
   ·exact .inl e
   ·refine .inr ?_
    by_cases z:a=hp
    ·rw[z]at k e;rw[h1]at k;cases k;exact⟨hp,_,_,_,e,aq,hc,u⟩
    ·exact⟨a,C,d,fs,e,(aA z).trans (sm _ _ k),hc,u⟩
  ·refine F δ p f _ j g ?_ ((aA i).trans aq) aq ⟨⟨dp,?_⟩,?_⟩
   ·intro b o hb hn;have w:b≠hp:=λz=>hn (by rw[z];exact List.mem_cons_self);have L:b≠ca:=λz=>hn (by rw[z];exact List.mem_cons_of_mem _ List.mem_cons_self);rw[aA L,aA w];exact sm _ _ hb
   ·rw[aA n3,aA n1];exact c1
   ·rw[aA n4,aA n2];exact c2
end
structure Ce where
 birth:Int
 bulk:Int
 tone:Int
 load:Int
 fl:Au
 deriving DecidableEq
structure Sw where
 sense:Int
 phase:Str
 grey:AE
 looked:Int
 turn:Int
 at':Int
 stop:Int
 walks:Int
 looks:Int
 passes:Int
 loss:V
structure Wm where
 room:Int
 used:Int
 born:Int
 cells:List (Option Ce)
 hands:List (Str×Au)
 names:List cy
 w:Int
 tells:Int
 sw:Sw
structure Wa where
 wo:AI
 hp:AI
 ca:AI
 ki:AI
 lk:AI
 hl:AI
 nm:AI
 sw:AI
 gr:AI
 hs:List (AI×AI)
 cs:List (Option (AI×AI))
 ns:AF
def oV:AA->V
 | none=>.non
 | some i=>.int i
def pV:Option (AI×AI)->V
 | none=>.non
 | some p=>.ref p.1
structure rY(s:Nat)(t0:Nat->Prop)(H H':Hp)(T T':Tg):Prop where
 kp:∀b o,H b=some o->(T b).1=s->¬ t0 (T b).2->H' b=some o
 tg:∀b o,H b=some o->T' b=T b
section
variable {CHd CC:AI}{H H':Hp}{T T':Tg}{s j i:Nat}{t0:Nat->Prop}
theorem rY.at{a:AI}{o:HO}{m:Nat}(f:rY s t0 H H' T T')(b:T a=(s,m))(n:¬ t0 m)(h:H a=some o):H' a=some o:=f.kp a o h (by rw[b]) (by rw[b];exact n)
theorem rY.tag{a:AI}{o:HO}{x:Nat×Nat}(f:rY s t0 H H' T T')(h:H a=some o)(b:T a=x):T' a=x:=(f.tg a o h).trans b
theorem rY.xQ{a:AI}{o:HO}{m:Nat}(c:T a=(s,m)):rY s (·=m) H ee T T:=⟨λb u h e n=>by
  have:b≠a:=λz=>n (by rw[z,c]);rw[aA this];exact h,λ_ _ _=>rfl⟩
theorem rY.of_same(e:bB H H'):rY s eI H H' T T:=⟨λb o h _ _=>e b o h,λ_ _ _=>rfl⟩
theorem rY.Zkd{s':Nat}(e:eO s' H H' T T')(n:s≠s'):rY s eI H H' T T':=⟨λb o h z _=>e.kp b o h (by rw[z];exact n),e.tg⟩
structure HdO(CHd:AI)(H:Hp)(T:Tg)(s j:Nat)(p:AI×AI)(m:Str×Au):Prop where
 t1:T p.1=(s,20+2 * j)
 t2:T p.2=(s,21+2 * j)
 o1:∃dx,H p.1=some (.ins CHd dx (Zfq m.1 p.2))
 o2:H p.2=some (.lst (m.2.map oV))
theorem HdO.mv{p:AI×AI}{m:Str×Au}(h:HdO CHd H T s j p m)(f:rY s t0 H H' T T')(n1:¬ t0 (20+2 * j))(n2:¬ t0 (21+2 * j)):HdO CHd H' T' s j p m:=by
 obtain⟨a,b,⟨e,c⟩,d⟩:=h;exact⟨f.tag c a,f.tag d b,⟨e,f.at a n1 c⟩,f.at b n2 d⟩
structure CeO(CC:AI)(H:Hp)(T:Tg)(s i:Nat)(p:AI×AI)(c:Ce):Prop where
 t1:T p.1=(s,100+2 * i)
 t2:T p.2=(s,101+2 * i)
 o1:∃dx,H p.1=some (.ins CC dx (jL c.birth c.bulk c.tone c.load p.2))
 o2:H p.2=some (.lst (c.fl.map oV))
theorem CeO.mv{p:AI×AI}{c:Ce}(h:CeO CC H T s i p c)(f:rY s t0 H H' T T')(n1:¬ t0 (100+2 * i))(n2:¬ t0 (101+2 * i)):CeO CC H' T' s i p c:=by
 obtain⟨a,b,⟨g,d⟩,e⟩:=h;exact⟨f.tag d a,f.tag e b,⟨g,f.at a n1 d⟩,f.at b n2 e⟩
def CeP(CC:AI)(H:Hp)(T:Tg)(s i:Nat):Option (AI×AI)->Option Ce->Prop
 | none,none=>True
 | some p,some c=>CeO CC H T s i p c
 | _,_=>False
theorem CeP.mv{p:Option (AI×AI)}{c:Option Ce}(h:CeP CC H T s i p c)(f:rY s t0 H H' T T')(n1:¬ t0 (100+2 * i))(n2:¬ t0 (101+2 * i)):CeP CC H' T' s i p c:=by
 cases p with
 | none=>cases c with
  | none=>trivial
  | some c=>exact h.elim
 | some p=>cases c with
  | none=>exact h.elim
  | some c=>exact CeO.mv h f n1 n2
end
def NmO(H:Hp)(T:Tg)(t:AI)(m:Str×(Int×Int)):Prop:=T t=(0,0)/\H t=some (.tup [.int m.2.1,.int m.2.2])
structure Cs where
 W:AI
 H:AI
 C:AI
 K:AI
 D:AI
 S:AI
 F:AI
 E:AI
 L:AI
structure WB(X:Cs)(H:Hp)(T:Tg)(s:Nat)(A:Wa)(w tells:Int):Prop where
 tw:T A.wo=(s,0)
 tk:T A.ki=(0,0)
 tl:T A.lk=(0,0)
 tn:T A.hl=(s,5)
 ow:∃dx,H A.wo=some (.ins X.W dx (wX A.hp A.ki A.hl A.nm A.sw))
 ok:∃dx,H A.ki=some (.ins X.K dx (Pb A.lk tells))
 ol:∃dx,(w=0/\H A.lk=some (.ins X.F dx []))\/(w=1/\H A.lk=some (.ins X.E dx []))\/(w=2/\H A.lk=some (.ins X.L dx []))
 on:H A.hl=some (.lst (A.hs.map λp=>V.ref p.1))
structure WH(X:Cs)(H:Hp)(T:Tg)(s:Nat)(A:Wa)(room used born:Int):Prop where
 th:T A.hp=(s,1)
 tc:T A.ca=(s,2)
 oh:∃dx,H A.hp=some (.ins X.H dx (iV room A.ca used born))
 oc:H A.ca=some (.lst dQ)
def wO(M:List cy)(ns:AF):List ((Int ⊕ Str)×V):=List.zipWith (λ(m:Str×(Int×Int)) (t:AI)=>(Sum.inr m.1,V.ref t)) M ns
structure WN(H:Hp)(T:Tg)(s:Nat)(A:Wa)(names:List cy):Prop where
 tm:T A.nm=(s,6)
 om:H A.nm=some (.dK (wO names A.ns))
 nms:Al (NmO H T) A.ns names
structure WS(X:Cs)(H:Hp)(T:Tg)(s:Nat)(A:Wa)(S:Sw):Prop where
 ts:T A.sw=(s,7)
 tg:T A.gr=(s,8)
 os:∃dx,H A.sw=some (.ins X.S dx bt)
 og:H A.gr=some (.lst (S.grey.map V.int))
structure WD(X:Cs)(H:Hp)(T:Tg)(s:Nat)(hs:List (AI×AI))(hands:List (Str×Au)):Prop where
 lh:hs.length=hands.length
 l5:hs.length<=30
 hd:∀(j:Nat) p m,hs[j]? =some p->hands[j]? =some m->HdO X.D H T s j p m
structure WC(X:Cs)(H:Hp)(T:Tg)(s:Nat)(cs:List (Option (AI×AI)))(cells:List (Option Ce)):Prop where
 lc:cs.length=cells.length
 ce:∀(i:Nat) p c,cs[i]? =some p->cells[i]? =some c->CeP X.C H T s i p c
structure WJ(X:Cs)(H:Hp)(T:Tg)(s:Nat)(A:Wa)(M:Wm):Prop where
 jb:WB X H T s A M.w M.tells
 jh:WH X H T s A M.room M.used M.born
 jn:WN H T s A M.names
 js:WS X H T s A M.sw
 jd:WD X H T s A.hs M.hands
 jc:WC X H T s A.cs M.cells
section
variable {X:Cs}{H H':Hp}{T T':Tg}{s:Nat}{t0:Nat->Prop}{A:Wa}{M:Wm}
theorem WB.mv{w tells:Int}(j:WB X H T s A w tells)(f:rY s t0 H H' T T')(a:∀b o,H b=some o->T b=(0,0)->H' b=some o)(g:¬ t0 0)(n5:¬ t0 5):WB X H' T' s A w tells:=by
 obtain⟨tw,tk,tl,tn,⟨d1,ow⟩,⟨d3,ok⟩,⟨d4,ol⟩,on⟩:=j;have c:∃o,H A.lk=some o:=by
  rcases ol with ⟨_,e⟩ | ⟨_,e⟩ | ⟨_,e⟩
  ·exact⟨_,e⟩
  ·exact⟨_,e⟩
  ·exact⟨_,e⟩
 obtain⟨h,d⟩:=c;refine⟨f.tag ow tw,f.tag ok tk,f.tag d tl,f.tag on tn,⟨d1,f.at tw g ow⟩,⟨d3,a _ _ ok tk⟩,⟨d4,?_⟩,f.at tn n5 on⟩;rcases ol with ⟨z,e⟩ | ⟨z,e⟩ | ⟨z,e⟩
 ·exact .inl ⟨z,a _ _ e tl⟩
 ·exact .inr (.inl ⟨z,a _ _ e tl⟩)
 ·exact .inr (.inr ⟨z,a _ _ e tl⟩)
theorem WH.mv{room used born:Int}(j:WH X H T s A room used born)(f:rY s t0 H H' T T')(n1:¬ t0 1)(n2:¬ t0 2):WH X H' T' s A room used born:=by
 obtain⟨th,tc,⟨d,oh⟩,oc⟩:=j;exact⟨f.tag oh th,f.tag oc tc,⟨d,f.at th n1 oh⟩,f.at tc n2 oc⟩
theorem WN.mv{names:List cy}(j:WN H T s A names)(f:rY s t0 H H' T T')(a:∀b o,H b=some o->T b=(0,0)->H' b=some o)(n6:¬ t0 6):WN H' T' s A names:=by
 obtain⟨tm,om,nms⟩:=j;exact⟨f.tag om tm,f.at tm n6 om,nms.mono (by rintro t m ⟨z1,z2⟩;exact⟨f.tag z2 z1,a _ _ z2 z1⟩)⟩
theorem WS.mv{S:Sw}(j:WS X H T s A S)(f:rY s t0 H H' T T')(n7:¬ t0 7)(n8:¬ t0 8):WS X H' T' s A S:=by
 obtain⟨ts,tg,⟨d,os⟩,og⟩:=j;exact⟨f.tag os ts,f.tag og tg,⟨d,f.at ts n7 os⟩,f.at tg n8 og⟩
theorem WD.mv{hs:List (AI×AI)}{hands:List (Str×Au)}(j:WD X H T s hs hands)(f:rY s t0 H H' T T')(n:∀k,20<=k->k<100->¬ t0 k):WD X H' T' s hs hands:=by
 obtain⟨lh,l5,hd⟩:=j;refine⟨lh,l5,λj p m a b=>?_⟩;have hl:j<hs.length:=(cG a).1;exact(hd j p m a b).mv f (n _ δ δ) (n _ δ δ)
theorem WC.mv{cs:List (Option (AI×AI))}{cells:List (Option Ce)}(j:WC X H T s cs cells)(f:rY s t0 H H' T T')(n:∀k,100<=k->¬ t0 k):WC X H' T' s cs cells:=by
 obtain⟨lc,ce⟩:=j;exact⟨lc,λi p c b a=>(ce i p c b a).mv f (n _ δ) (n _ δ)⟩
theorem WJ.mv(j:WJ X H T s A M)(f:rY s eI H H' T T')(a:∀b o,H b=some o->T b=(0,0)->H' b=some o):WJ X H' T' s A M:=
 ⟨j.jb.mv f a id id,j.jh.mv f id id,j.jn.mv f a id,j.js.mv f id id,j.jd.mv f λ_ _ _=>id,j.jc.mv f λ_ _=>id⟩
theorem WJ.same(j:WJ X H T s A M)(e:bB H H'):WJ X H' T s A M:=j.mv (rY.of_same e) λb o h _=>e b o h
theorem WJ.other{s':Nat}(j:WJ X H T s A M)(e:eO s' H H' T T')(n:s≠s')(a:s'≠0):WJ X H' T' s A M:=j.mv (rY.Zkd e n) λb o h t=>e.kp b o h (by rw[t];exact λz=>a z.symm)
theorem lC{a:AI}{o':HO}{m:Nat}(h0:s≠0)(ta:T a=(s,m)):∀b o,H b=some o->T b=(0,0)->upd H a o' b=some o:=λb o e t=>by
 rw[aA (Oq t ta eM)];exact e
theorem WJ.slot(j:WJ X H T s A M)(w:WT H T)(h0:s≠0){h k:Nat}{p:AI×AI}{m:Str×Au}{x:AA}(hp:A.hs[h]? =some p)(hm:M.hands[h]? =some m):
  eO s H (upd H p.2 (.lst ((m.2.map oV).set k (oV x)))) T T/\WJ X (upd H p.2 (.lst ((m.2.map oV).set k (oV x)))) T s A { M with hands:=M.hands.set h (m.1,m.2.set k x) }:=by
 have hl:=j.jd.l5;have o:h<A.hs.length:=(cG hp).1;have c:h<M.hands.length:=(cG hm).1;have d:=j.jd.hd h p m hp hm;refine⟨eO.upd w d.o2 (by rw[d.t2]),?_⟩;have f:rY s (·=21+2 * h) H (upd H p.2 (.lst ((m.2.map oV).set k (oV x)))) T T:=rY.xQ d.t2;have n:upd H p.2 (.lst ((m.2.map oV).set k (oV x))) p.2=some (.lst ((m.2.set k x).map oV)):=by rw[aq,List.map_set]
 refine⟨j.jb.mv f (lC h0 d.t2) δ δ,j.jh.mv f δ δ,j.jn.mv f (lC h0 d.t2) δ,j.js.mv f δ δ,⟨by rw[List.length_set];exact j.jd.lh,hl,λg i l b a=>?_⟩,j.jc.mv f λ_ _=>δ⟩
 by_cases e:g=h
 ·subst e;dsimp only at a;rw[List.getElem?_set_self c]at a;rw[hp]at b;cases b;cases a;obtain⟨dd,o1⟩:=d.o1;exact⟨d.t1,d.t2,⟨dd,f.at d.t1 δ o1⟩,n⟩
 ·dsimp only at a;rw[List.getElem?_set_ne (λz=>e z.symm)]at a;exact(j.jd.hd g i l b a).mv f δ δ
theorem WC.at(j:WC X H T s A.cs M.cells){i:Nat}{c:Ce}(h:M.cells[i]? =some (some c)):∃p,A.cs[i]? =some (some p)/\CeO X.C H T s i p c:=by
 have hl:i<A.cs.length:=by rw[j.lc];exact(cG h).1
 have e:=j.ce i _ _ (bD hl) h;cases hg:A.cs[i]with
 | none=>rw[hg]at e;exact e.elim
 | some g=>rw[hg]at e;exact⟨g,by rw[bD hl,hg],e⟩
theorem WC.at0(j:WC X H T s A.cs M.cells){i:Nat}(h:M.cells[i]? =some none):A.cs[i]? =some none:=by
 have hl:i<A.cs.length:=by rw[j.lc];exact(cG h).1
 have e:=j.ce i _ _ (bD hl) h;cases hg:A.cs[i]with
 | none=>rw[bD hl,hg]
 | some g=>rw[hg]at e;exact e.elim
theorem WC.chg(j:WC X H T s A.cs M.cells){i:Nat}{p:AI×AI}{c':Ce}(f:rY s t0 H H' T T')(hp:A.cs[i]? =some (some p))(n:∀k,100<=k->k≠100+2 * i->k≠101+2 * i->¬ t0 k)(e:CeO X.C H' T' s i p c'):
  WC X H' T' s A.cs (M.cells.set i (some c')):=by
 have hl:i<A.cs.length:=(cG hp).1;refine⟨by rw[List.length_set];exact j.lc,λk g c b a=>?_⟩
 by_cases hk:k=i
 ·subst hk;rw[List.getElem?_set_self (by rw[<- j.lc];exact hl)]at a;rw[hp]at b;cases b;cases a;exact e
 ·rw[List.getElem?_set_ne (λz=>hk z.symm)]at a;exact(j.ce k g c b a).mv f (n _ δ δ δ) (n _ δ δ δ)
theorem WJ.field(j:WJ X H T s A M)(w:WT H T)(h0:s≠0){i k:Nat}{p:AI×AI}{c:Ce}{x:AA}(hp:A.cs[i]? =some (some p))(e:CeO X.C H T s i p c):
  eO s H (upd H p.2 (.lst ((c.fl.map oV).set k (oV x)))) T T/\WJ X (upd H p.2 (.lst ((c.fl.map oV).set k (oV x)))) T s A { M with cells:=M.cells.set i (some { c with fl:=c.fl.set k x }) }:=by
 refine⟨eO.upd w e.o2 (by rw[e.t2]),?_⟩;have f:rY s (·=101+2 * i) H (upd H p.2 (.lst ((c.fl.map oV).set k (oV x)))) T T:=rY.xQ e.t2;have a:upd H p.2 (.lst ((c.fl.map oV).set k (oV x))) p.2=some (.lst ((c.fl.set k x).map oV)):=by rw[aq,List.map_set]
 obtain⟨dd,o1⟩:=e.o1;exact⟨j.jb.mv f (lC h0 e.t2) δ δ,j.jh.mv f δ δ,j.jn.mv f (lC h0 e.t2) δ,j.js.mv f δ δ,j.jd.mv f λ_ _ _=>δ,
  j.jc.chg f hp (λk _ _ n2 z=>n2 z) ⟨e.t1,e.t2,⟨dd,f.at e.t1 δ o1⟩,a⟩⟩
theorem WJ.cell(j:WJ X H T s A M)(w:WT H T)(h0:s≠0){i:Nat}{p:AI×AI}{c:Ce}{dx:AI}{tone load:Int}(hp:A.cs[i]? =some (some p))(e:CeO X.C H T s i p c):
  eO s H (upd H p.1 (.ins X.C dx (jL c.birth c.bulk tone load p.2))) T T/\WJ X (upd H p.1 (.ins X.C dx (jL c.birth c.bulk tone load p.2))) T s A { M with cells:=M.cells.set i (some { c with tone:=tone,load:=load }) }:=by
 obtain⟨dd,o1⟩:=e.o1;refine⟨eO.upd w o1 (by rw[e.t1]),?_⟩;have f:rY s (·=100+2 * i) H (upd H p.1 (.ins X.C dx (jL c.birth c.bulk tone load p.2))) T T:=rY.xQ e.t1;exact⟨j.jb.mv f (lC h0 e.t1) δ δ,j.jh.mv f δ δ,j.jn.mv f (lC h0 e.t1) δ,j.js.mv f δ δ,j.jd.mv f λ_ _ _=>δ,
  j.jc.chg f hp (λk _ n1 _ z=>n1 z) ⟨e.t1,e.t2,⟨dx,aq⟩,f.at e.t2 δ e.o2⟩⟩
theorem WJ.sweep(j:WJ X H T s A M)(w:WT H T)(h0:s≠0){dx:AI}(S:Sw)(a:S.grey=M.sw.grey):
  eO s H (upd H A.sw (.ins X.S dx bt)) T T/\
  WJ X (upd H A.sw (.ins X.S dx bt)) T s A { M with sw:=S }:=by
 obtain⟨ts,tg,⟨dd,os⟩,og⟩:=j.js;refine⟨eO.upd w os (by rw[ts]),?_⟩;have f:rY s (·=7) H (upd H A.sw (.ins X.S dx bt)) T T:=rY.xQ ts;exact⟨j.jb.mv f (lC h0 ts) δ δ,j.jh.mv f δ δ,j.jn.mv f (lC h0 ts) δ,⟨ts,tg,⟨dx,aq⟩,by rw[a];exact f.at tg δ og⟩,j.jd.mv f λ_ _ _=>δ,j.jc.mv f λ_ _=>δ⟩
theorem WJ.Zq1(j:WJ X H T s A M)(w:WT H T)(h0:s≠0){g:AE}:eO s H (upd H A.gr (.lst (g.map V.int))) T T/\WJ X (upd H A.gr (.lst (g.map V.int))) T s A { M with sw:={ M.sw with grey:=g } }:=by
 obtain⟨ts,tg,⟨dd,os⟩,og⟩:=j.js;refine⟨eO.upd w og (by rw[tg]),?_⟩;have f:rY s (·=8) H (upd H A.gr (.lst (g.map V.int))) T T:=rY.xQ tg;exact⟨j.jb.mv f (lC h0 tg) δ δ,j.jh.mv f δ δ,j.jn.mv f (lC h0 tg) δ,⟨ts,tg,⟨dd,f.at ts δ os⟩,aq⟩,j.jd.mv f λ_ _ _=>δ,j.jc.mv f λ_ _=>δ⟩
theorem WJ.back(j:WJ X H T s A M)(w:WT H T)(h0:s≠0){i:Nat}{dx:AI}{used':Int}(hi:i<A.cs.length)(H':Hp)(kp:∀b o,H b=some o->b≠A.hp->b≠A.ca->H' b=some o)(y:H' A.hp=some (.ins X.H dx (iV M.room A.ca used' M.born)))(u:H' A.ca=some (.lst ((A.cs.map pV).set i V.non))):
  eO s H H' T T/\WJ X H' T s { A with cs:=A.cs.set i none } { M with used:=used',cells:=M.cells.set i none }:=by
 obtain⟨th,tc,⟨dd,oh⟩,oc⟩:=j.jh;have al:∀b o,H b=some o->∃B,H' b=some B:=λb o h=>by
  by_cases z1:b=A.hp
  ·exact⟨_,by rw[z1];exact y⟩
  ·by_cases r:b=A.ca
   ·exact⟨_,by rw[r];exact u⟩
   ·exact⟨o,kp b o h z1 r⟩
 have f:rY s (λk=>k=1\/k=2) H H' T T:=⟨λb o h e n=>kp b o h (λz=>n (.inl (by rw[z,th]))) (λz=>n (.inr (by rw[z,tc]))),λ_ _ _=>rfl⟩;have v:∀b o,H b=some o->T b=(0,0)->H' b=some o:=λb o h t=>kp b o h (Oq t th eM) (Oq t tc eM);refine⟨⟨λb o h n=>kp b o h (λz=>n (by rw[z,th])) (λz=>n (by rw[z,tc])),al,λ_ _ _=>rfl,λb h=>w b ?_⟩,?_⟩
 ·cases z:H b with
  | none=>rfl
  | some o=>obtain⟨B,x⟩:=al b o z;rw[h]at x;cases x
 ·refine⟨?_,⟨th,tc,⟨dx,y⟩,by rw[List.map_set];exact u⟩,?_,?_,j.jd.mv f λ_ _ _=>δ,⟨by rw[List.length_set,List.length_set];exact j.jc.lc,λk g c a d=>?_⟩⟩
  ·obtain⟨l,m,p,q,E,C,D,F⟩:=j.jb.mv f v δ δ;exact⟨l,m,p,q,E,C,D,F⟩
  ·obtain⟨l,m,p⟩:=j.jn.mv f v δ;exact⟨l,m,p⟩
  ·obtain⟨l,m,p,q⟩:=j.js.mv f δ δ;exact⟨l,m,p,q⟩
  ·by_cases hk:k=i
   ·subst hk;dsimp only at a d;rw[List.getElem?_set_self hi]at a;rw[List.getElem?_set_self (by rw[<- j.jc.lc];exact hi)]at d;cases a;cases d
    trivial
   ·dsimp only at a d;rw[List.getElem?_set_ne (λz=>hk z.symm)]at a d;exact(j.jc.ce k g c a d).mv f δ δ
end
def gW{a:Type}:List (Option a)->Nat
 | []=>0
 | none::_=>0
 | some _::l=>gW l+1
def jo{a:Type}(l:List (Option a))(x:a):List (Option a):=if gW l<l.length then l.set (gW l) (some x)else l++[some x]
theorem Yn{c:Type}(l:List (Option c)):gW l<=l.length:=by
 induction l with
 | nil=>exact Nat.le_refl _
 | cons a l b=>cases a with
  | none=>exact Nat.zero_le _
  | some a=>exact Nat.succ_le_succ b
theorem Zoy{c:Type}{l:List (Option c)}(h:gW l<l.length):l[gW l]? =some none:=by
 induction l with
 | nil=>exact absurd h (Nat.lt_irrefl _)
 | cons a l b=>cases a with
  | none=>rfl
  | some a=>exact b (Nat.lt_of_succ_lt_succ h)
theorem Zau{c:Type}{f:Option c->V}(g:∀x,f x=V.non↔x=none)(l:List (Option c)):(l.map f).idxOf V.non=gW l/\(V.non∈l.map f↔gW l<l.length):=by
 induction l with
 | nil=>exact⟨rfl,⟨λz=>fq,λz=>absurd z (Nat.lt_irrefl _)⟩⟩
 | cons a l d=>
  rw[List.map_cons,List.idxOf_cons];cases a with
  | none=>
   have e:f none=V.non:=(g none).mpr rfl;rw[e];exact⟨rfl,⟨λ_=>Nat.zero_lt_succ _,λ_=>List.mem_cons_self⟩⟩
  | some a=>
   have e:f (some a)≠V.non:=λz=>by cases (g (some a)).mp z
   have b:(f (some a) == V.non)=false:=beq_eq_false_iff_ne.mpr e;rw[b];refine⟨congrArg (· + 1) d.1,?_⟩;show _↔gW l+1<l.length+1;rw[List.mem_cons,d.2];constructor
   ·rintro(z | z)
    ·exact absurd z.symm e
    ·omega
   ·intro z;exact .inr δ
theorem Zjh{a:Type}{f:Option a->V}(c:∀x,f x=V.non↔x=none)(l:List (Option a))(x:a):putN (l.map f) (f (some x))=(jo l x).map f:=by
 obtain⟨d,b⟩:=Zau c l;unfold putN jo
 by_cases z:gW l<l.length
 ·rw[if_pos z,if_pos (b.mpr z),List.map_set];exact congrArg (λk=>(l.map f).set k (f (some x))) d
 ·rw[if_neg z,if_neg (λw=>z (b.mp w)),List.map_append];rfl
theorem Zk0(p:Option (AI×AI)):pV p=V.non↔p=none:=by cases p<;>simp[pV]
theorem Lb{a:Type}(l:List (Option a))(x:a):(jo l x)[gW l]? =some (some x):=by
 unfold jo
 by_cases z:gW l<l.length
 ·rw[if_pos z,List.getElem?_set_self z]
 ·have e:gW l=l.length:=Nat.le_antisymm (Yn l) δ;rw[if_neg z,e,List.getElem?_append_right υ,Nat.sub_self];rfl
theorem Zf5{a:Type}{l:List (Option a)}{x:a}{i:Nat}{y:Option a}(hi:i≠gW l)(h:(jo l x)[i]? =some y):l[i]? =some y:=by
 unfold jo at h
 by_cases z:gW l<l.length
 ·rw[if_pos z,List.getElem?_set_ne (λw=>hi w.symm)]at h;exact h
 ·rw[if_neg z]at h;have e:gW l=l.length:=Nat.le_antisymm (Yn l) δ;have hl:=(cG h).1;rw[List.length_append,List.length_singleton]at hl;rw[List.getElem?_append_left δ]at h;exact h
theorem Zji{b a:Type}{l:List (Option b)}{m:List (Option a)}{x:b}{y:a}(hl:l.length=m.length)(c:gW l=gW m):(jo l x).length=(jo m y).length:=by
 unfold jo
 by_cases z:gW l<l.length
 ·rw[if_pos z,if_pos δ,List.length_set,List.length_set];exact hl
 ·rw[if_neg z,if_neg δ,List.length_append,List.length_append,hl];rfl
theorem Zne{a:Type}(l:List (Option a))(x:a):(jo l x).length<=l.length+1:=by
 unfold jo
 by_cases z:gW l<l.length
 ·rw[if_pos z,List.length_set];omega
 ·rw[if_neg z,List.length_append];exact Nat.le_refl _
theorem Zox{d g:Type}:∀(l:List (Option d)) (m:List (Option g)),l.length=m.length->(∀(i:Nat) x y,l[i]? =some x->m[i]? =some y->(x=none↔y=none))->gW l=gW m:=by
 intro l
 induction l with
 | nil=>
  intro m hl _;cases m with
  | nil=>rfl
  | cons b m=>simp at hl
 | cons a l f=>
  intro m hl h;cases m with
  | nil=>simp at hl
  | cons b m=>
   have c:=f m (by simpa using hl) λi x y h1 h2=>h br x y (by simpa using h1) (by simpa using h2);have e:=h 0 a b rfl rfl;cases a with
   | none=>rw[e.mp rfl];rfl
   | some a=>cases b with
    | none=>exact absurd (e.mpr rfl) a8
    | some b=>exact congrArg (· + 1) c
section
variable {X:Cs}{H H':Hp}{T T':Tg}{s:Nat}{A:Wa}{M:Wm}
theorem WC.fst(j:WC X H T s A.cs M.cells):gW A.cs=gW M.cells:=Zox _ _ j.lc λi p c b a=>by
 have e:=j.ce i p c b a;cases p with
 | none=>cases c with
  | none=>exact⟨λ_=>rfl,λ_=>rfl⟩
  | some c=>exact e.elim
 | some p=>cases c with
  | none=>exact e.elim
  | some c=>exact⟨λz=>(by cases z),λz=>(by cases z)⟩
theorem WJ.put(j:WJ X H T s A M)(w:WT H T)(h0:s≠0){dx:AI}{used':Int}{p fa:AI}{c:Ce}(kp:∀b o,H b=some o->b≠A.hp->b≠A.ca->H' b=some o)(F:H' A.hp=some (.ins X.H dx (iV M.room A.ca used' (M.born+1))))(B:H' A.ca=some (.lst (putN dQ (.ref p))))
  (n1:H p=none) (n2:H fa=none) (K:p≠fa) (o1:∃dx,H' p=some (.ins X.C dx (jL c.birth c.bulk c.tone c.load fa))) (o2:H' fa=some (.lst (c.fl.map oV))):
  ∃T',eO s H H' T T'/\WJ X H' T' s { A with cs:=jo A.cs (p,fa) } { M with used:=used',born:=M.born+1,cells:=jo M.cells c }:=by
 obtain⟨th,tc,⟨dd,oh⟩,oc⟩:=j.jh;have v:=j.jc.fst
 let k:=gW A.cs
 let T':Tg:=cN (cN T p (s,100+2 * k)) fa (s,101+2 * k)
 have a:∀b o,H b=some o->T' b=T b:=λb o h=>by
  show cN _ _ _ b=_;rw[g8 (aD h n2),g8 (aD h n1)]
 have t1:T' p=(s,100+2 * k):=by show cN _ _ _ p=_;rw[g8 K,cH]
 have t2:T' fa=(s,101+2 * k):=by show cN _ _ _ fa=_;rw[cH]
 have al:∀b o,H b=some o->∃I,H' b=some I:=λb o h=>by
  by_cases z1:b=A.hp
  ·exact⟨_,by rw[z1];exact F⟩
  ·by_cases y:b=A.ca
   ·exact⟨_,by rw[y];exact B⟩
   ·exact⟨o,kp b o h z1 y⟩
 have f:rY s (λk=>k=1\/k=2) H H' T T':=⟨λb o h e n=>kp b o h (λz=>n (.inl (by rw[z,th]))) (λz=>n (.inr (by rw[z,tc]))),a⟩;have D:∀b o,H b=some o->T b=(0,0)->H' b=some o:=λb o h t=>kp b o h (Oq t th eM) (Oq t tc eM);refine⟨T',⟨λb o h J=>kp b o h (λz=>J (by rw[z,th])) (λz=>J (by rw[z,tc])),al,a,λb h=>?_⟩,?_⟩
 ·have l:b≠p:=λe=>by obtain⟨d,z⟩:=o1;rw[e,z]at h;cases h
  have m:b≠fa:=λe=>by rw[e,o2]at h;cases h
  have hb:H b=none:=by
   cases z:H b with
   | none=>rfl
   | some o=>obtain⟨I,E⟩:=al b o z;rw[h]at E;cases E
  show cN _ _ _ b=_;rw[g8 m,g8 l];exact w b hb
 ·refine⟨?_,⟨f.tag oh th,f.tag oc tc,⟨dx,F⟩,?_⟩,?_,?_,j.jd.mv f λ_ _ _=>δ,⟨Zji j.jc.lc v,λi g L r u=>?_⟩⟩
  ·obtain⟨l,m,q,x,P,N,O,Q⟩:=j.jb.mv f D δ δ;exact⟨l,m,q,x,P,N,O,Q⟩
  ·show H' A.ca=some (.lst ((jo A.cs (p,fa)).map pV));rw[<- Zjh Zk0];exact B
  ·obtain⟨l,m,q⟩:=j.jn.mv f D δ;exact⟨l,m,q⟩
  ·obtain⟨l,m,q,x⟩:=j.js.mv f δ δ;exact⟨l,m,q,x⟩
  ·dsimp only at r u
   by_cases hk:i=gW A.cs
   ·subst hk;rw[Lb]at r;rw[v,Lb]at u;cases r;cases u;exact⟨t1,t2,o1,o2⟩
   ·exact(j.jc.ce i g L (Zf5 hk r) (Zf5 (by rw[<- v];exact hk) u)).mv f δ δ
end
def cellAt(M:Wm)(x:Int):Option Ce:=if 0<=x then(M.cells[x.toNat]?).join else none
def jW(M:Wm):AA->AA
 | none=>none
 | some x=>(cellAt M x).map (·.birth)
def aO(M:Wm)(h k:Nat):AA:=((M.hands[h]?).bind λm=>m.2[k]?).join
def setSlot(M:Wm)(h k:Nat)(x:AA):Wm:={ M with hands:=M.hands.modify h λm=>(m.1,m.2.set k x) }
def setCell(M:Wm)(i:Int)(c:Ce):Wm:={ M with cells:=M.cells.set i.toNat (some c) }
def bV(M:Wm):AA->AA×Wm
 | none=>(none,M)
 | some i=>match cellAt M i with
  | none=>(none,M)
  | some c=>if M.sw.phase="walk"/\c.tone≠M.sw.sense then(some c.birth,{ setCell M i { c with tone:=M.sw.sense }with sw:={ M.sw with grey:=M.sw.grey++[i] } })else(none,M)
def cY(M:Wm)(h:Nat):Bool:=decide (M.sw.looked / 2 ^ h % 2=1)
def mj(M:Wm)(a birth:Int):Bool:=match cellAt M a with
 | none=>true
 | some c=>if c.birth=birth then decide (M.sw.phase="give"/\c.tone≠M.sw.sense)else true
def nF(l:List cy)(k:Str)(v:Int×Int):List cy:=if (l.any λm=>decide (m.1=k))=true then l.map (λm=>if m.1=k then(m.1,v)else m)else l++[(k,v)]
def wF(l:List cy)(k:Str):Option (Int×Int):=(l.find? λm=>decide (m.1=k)).map (·.2)
def TgO(s:Nat)(t:Nat×Nat):Prop:=t.1=0\/t.1=s+1
theorem TgO.ne{s:Nat}{t:Nat×Nat}(h:TgO s t)(a:s≠0):t.1≠s:=by unfold TgO at h;omega
inductive Rf where
 | full | empty | jB | xT
 deriving DecidableEq
structure Ev where
 word:Str
 thing:AA
 notes:AE
inductive ie where
 | make (h s:Nat) (many bulk:Int)
 | get (h s t f:Nat)
 | put (h t f s:Nat)
 | copy (h s t:Nat)
 | drop (h s:Nat)
 | give (h s g t:Nat)
 | write (h t:Nat) (load:Int)
 | read (h t:Nat)
 | name (h t:Nat) (word:Str)
 | seek (h s:Nat) (word:Str)
def old?(M:Wm):Bool:=decide (M.tells % 2=1)
def nP(M:Wm):Bool:=decide (M.tells / 2 % 2=1)
def ofN:AA->AE
 | none=>[]
 | some b=>[b]
def aQ(M:Wm):Au->AE×Wm
 | []=>([],M)
 | x::l=>(ofN (bV M x).1++(aQ (bV M x).2 l).1,(aQ (bV M x).2 l).2)
def dN(M:Wm):ie->Except Rf (Ev×Wm)
 | .make h s a bulk=>
  if M.used+(1+a+bulk)<=M.room then
   .ok (⟨"made",some (M.born+1),[]⟩,setSlot { M with used:=M.used+(1+a+bulk),born:=M.born+1,cells:=jo M.cells ⟨M.born+1,bulk,M.sw.sense,0,List.replicate a.toNat none⟩ } h s (some (gW M.cells)))
  else .error .full
 | .get h s t f=>match aO M h t with
  | none=>.error .empty
  | some x=>match cellAt M x with
   | none=>.error .empty
   | some c=>match c.fl[f]? with
    | none=>.error .jB
    | some v=>.ok (⟨"got",jW M v,[]⟩,setSlot M h s v)
 | .put h t f s=>match aO M h t with
  | none=>.error .empty
  | some x=>match cellAt M x with
   | none=>.error .empty
   | some c=>match c.fl[f]? with
    | none=>.error .jB
    | some v=>
     let M1:=setCell M x { c with fl:=c.fl.set f (aO M h s) }
     let r:=aQ M1 ((if old? M=true then [v]else [])++if (nP M && !cY M h)=true then [aO M h s]else [])
     .ok (⟨"put",jW M v,r.1⟩,r.2)
 | .copy h s t=>.ok (⟨"copied",jW M (aO M h t),[]⟩,setSlot M h s (aO M h t))
 | .drop h s=>.ok (⟨"dropped",jW M (aO M h s),[]⟩,setSlot M h s none)
 | .give h s g t=>
  let r:=aQ (setSlot M g t (aO M h s)) (if (nP M && !cY M h)=true then [aO M h s]else [])
  .ok (⟨"given",jW M (aO M h s),r.1⟩,r.2)
 | .write h t load=>match aO M h t with
  | none=>.error .empty
  | some x=>match cellAt M x with
   | none=>.error .empty
   | some c=>.ok (⟨"wrote",some c.load,[]⟩,setCell M x { c with load:=load })
 | .read h t=>match aO M h t with
  | none=>.error .empty
  | some x=>match cellAt M x with
   | none=>.error .empty
   | some c=>.ok (⟨"read",some c.load,[]⟩,M)
 | .name h t word=>match aO M h t with
  | none=>.error .empty
  | some x=>match cellAt M x with
   | none=>.error .empty
   | some c=>.ok (⟨"named",some c.birth,[]⟩,{ M with names:=nF M.names word (x,c.birth) })
 | .seek h s word=>match wF M.names word with
  | none=>.error .xT
  | some (p,b)=>
   if mj M p b=true then .ok (⟨"sought",none,[]⟩,setSlot M h s none)
   else
    let r:=aQ (setSlot M h s (some p)) [some p]
    .ok (⟨"sought",some b,r.1⟩,r.2)
def dV:ie->List V
 | .make h s a bulk=>[.str "make",.int h,.int s,.int a,.int bulk]
 | .get h s t f=>[.str "get",.int h,.int s,.int t,.int f]
 | .put h t f s=>[.str "put",.int h,.int t,.int f,.int s]
 | .copy h s t=>[.str "copy",.int h,.int s,.int t]
 | .drop h s=>[.str "drop",.int h,.int s]
 | .give h s g t=>[.str "give",.int h,.int s,.int g,.int t]
 | .write h t load=>[.str "write",.int h,.int t,.int load]
 | .read h t=>[.str "read",.int h,.int t]
 | .name h t word=>[.str "name",.int h,.int t,.str word]
 | .seek h s word=>[.str "seek",.int h,.int s,.str word]
def uG(M:Wm)(h s:Nat):Prop:=∃m,M.hands[h]? =some m/\s<m.2.length
def okD(M:Wm):ie->Prop
 | .make h s a bulk=>uG M h s/\0<=a/\a<=1000/\0<=bulk
 | .get h s t _=>uG M h s/\uG M h t
 | .put h t _ s=>uG M h t/\uG M h s
 | .copy h s t=>uG M h s/\uG M h t
 | .drop h s=>uG M h s
 | .give h s g t=>uG M h s/\uG M g t
 | .write h t _=>uG M h t
 | .read h t=>uG M h t
 | .name h t _=>uG M h t
 | .seek h s _=>uG M h s
structure Ok(M:Wm):Prop where
 sl:∀m∈M.hands,∀x,some x∈m.2->∃c,cellAt M x=some c
 fl:∀c,some c∈M.cells->∀x,some x∈c.fl->∃d,cellAt M x=some d
 tn:∀c,some c∈M.cells->c.tone=0\/c.tone=1
def Q3(b a d c:AI):Rf->AI
 | .full=>b
 | .empty=>a
 | .jB=>d
 | .xT=>c
def EvN(b H:Hp)(T:Tg)(s:Nat)(a:AI)(e:Ev):Prop:=∃l,(b l=none/\TgO s (T l)/\TgO s (T a))/\H a=some (.tup [.str e.word,oV e.thing,.ref l])/\H l=some (.lst (e.notes.map V.int))
theorem rC{H:Hp}{T:Tg}{s:Nat}{l:AI}(w:WT H T)(a:s≠0)(n:H l=none):H l=none/\TgO s (T l):=⟨n,by rw[w l n];exact .inl rfl⟩
inductive uF(X:Cs)(rf:Rf->AI)(P:ie->Prop)(wo dd:AI)(H:Hp)(Q:VK)(E:XK):Prop
 | mk (T s A M d) (_:P d) (_:WT H T) (_:s≠0) (_:WJ X H T s A M) (_:A.wo=wo) (_:H dd=some (.tup (dV d))) (_:okD M d) (_:M.cells.length<=900) (_:(M.sw.phase="walk"->M.sw.grey.length<=10000)) (_:(0<=M.tells/\M.tells<4)) (_:M.names.length<=1000) (_:(∀r,dN M d=.error r->∀H',bB H H'->E (.ref (rf r)) none H')) (_:(∀e M',dN M d=.ok (e,M')->∀H' T' A' a,eO s H H' T T'->WJ X H' T' s A' M'->A'.wo=wo->EvN H H' T' s a e->Q (.ref a) H')):uF X rf P wo dd H Q E
def cJ(X:Cs)(a:Rf->AI)(P:ie->Prop):Sp:=λvs H Q E=>∃wo dd,vs=[.ref wo,.ref dd]/\uF X a P wo dd H Q E
abbrev Zvb(X:Cs)(rf:Rf->AI):Sp:=cJ X rf λ_=>True
theorem Zgz{b:Type}{l:List (Option b)}{x a:b}{i:Nat}(h:l[i]? =some (some a)):(jo l x)[i]? =some (some a):=by
 have hl:=(cG h).1;unfold jo
 by_cases z:gW l<l.length
 ·have hi:i≠gW l:=λe=>by rw[e,Zoy z]at h;cases h
  rw[if_pos z,List.getElem?_set_ne (λw=>hi w.symm)];exact h
 ·rw[if_neg z,List.getElem?_append_left hl];exact h
theorem bK{M:Wm}{x:Int}{c:Ce}:cellAt M x=some c↔0<=x/\M.cells[x.toNat]? =some (some c):=by
 unfold cellAt
 by_cases z:0<=x
 ·rw[if_pos z];cases e:M.cells[x.toNat]? with
  | none=>simp
  | some y=>cases y with
   | none=>simp
   | some d=>simp[z]
 ·rw[if_neg z];simp[z]
theorem qb{M:Wm}{x:Int}{c:Ce}(h:cellAt M x=some c):some c∈M.cells:=List.mem_of_getElem? (bK.mp h).2
theorem p8{M:Wm}{x u b:Int}{c d:Ce}(h:cellAt M x=some d):cellAt { M with used:=u,born:=b,cells:=jo M.cells c } x=some d:=by
 obtain⟨h0,h1⟩:=bK.mp h;exact bK.mpr ⟨h0,Zgz h1⟩
theorem vd{M:Wm}{u b:Int}{c:Ce}:cellAt { M with used:=u,born:=b,cells:=jo M.cells c } (gW M.cells)=some c:=
 bK.mpr ⟨δ,by rw[Int.toNat_natCast];exact Lb _ _⟩
theorem Zkt{a:Type}{l:List (Option a)}{x:a}{y:Option a}(h:y∈jo l x):y∈l\/y=some x:=by
 unfold jo at h
 by_cases z:gW l<l.length
 ·rw[if_pos z]at h;rcases List.mem_or_eq_of_mem_set h with h | h
  ·exact .inl h
  ·exact .inr h
 ·rw[if_neg z]at h;rcases List.mem_append.mp h with h | h
  ·exact .inl h
  ·exact .inr (List.mem_singleton.mp h)
theorem Zgs{M:Wm}{h k:Nat}{m:Str×Au}{x:AA}(hm:M.hands[h]? =some m)(hk:m.2[k]? =some x):aO M h k=x:=by
 unfold aO;rw[hm];show(m.2[k]?).join=x;rw[hk];rfl
theorem Og{M:Wm}{h k:Nat}(o:uG M h k):∃m,M.hands[h]? =some m/\m.2[k]? =some (aO M h k)/\k<m.2.length:=by
 obtain⟨m,hm,hk⟩:=o;refine⟨m,hm,?_,hk⟩;rw[Zgs hm (bD hk)];exact bD hk
theorem zu{M:Wm}{h k:Nat}{x:AA}{m:Str×Au}(hm:M.hands[h]? =some m):(setSlot M h k x).hands=M.hands.set h (m.1,m.2.set k x):=by
 show M.hands.modify h _=_;refine List.ext_getElem? ?_;intro i;rw[List.getElem?_modify]
 by_cases e:h=i
 ·subst e;rw[List.getElem?_set_self (cG hm).1,hm];simp
 ·rw[List.getElem?_set_ne e];simp[e]
theorem iY{M:Wm}{h k:Nat}{x:AA}{y:AA}:jW (setSlot M h k x) y=jW M y:=by cases y<;>rfl
def rowsOf(M:Wm):List Au:=M.hands.map λm=>m.2.map (jW M)
theorem Zz{M:Wm}{h k:Nat}{x:AA}{m:Str×Au}(hm:M.hands[h]? =some m):rowsOf (setSlot M h k x)=(rowsOf M).set h ((m.2.map (jW M)).set k (jW M x)):=by
 unfold rowsOf;have e:(λm:Str×Au=>m.2.map (jW (setSlot M h k x)))=λm=>m.2.map (jW M):=funext λm=>congrArg (λf=>m.2.map f) (funext λy=>iY);rw[e,zu hm,List.map_set];dsimp only;rw[List.map_set]
theorem sW{M:Wm}{h k:Nat}(o:uG M h k):∃r,(rowsOf M)[h]? =some r/\r[k]? =some (jW M (aO M h k))/\k<r.length:=by
 obtain⟨m,hm,hk,hl⟩:=Og o;refine⟨m.2.map (jW M),?_,?_,by rw[aY];exact hl⟩
 ·unfold rowsOf;rw[cg,hm];rfl
 ·rw[cg,hk];rfl
theorem Zcv{M:Wm}(h:M.sw.phase≠"walk")(x:AA):bV M x=(none,M):=by
 cases x with
 | none=>rfl
 | some x=>
  unfold bV;dsimp only;cases cellAt M x with
  | none=>rfl
  | some c=>
   dsimp only;rw[if_neg (λz=>h z.1)]
theorem Zb4{M:Wm}{h s:Nat}{a bulk:Int}(b:M.used+(1+a+bulk)<=M.room):dN M (.make h s a bulk)=.ok (⟨"made",some (M.born+1),[]⟩,setSlot { M with used:=M.used+(1+a+bulk),born:=M.born+1,cells:=jo M.cells ⟨M.born+1,bulk,M.sw.sense,0,List.replicate a.toNat none⟩ } h s (some (gW M.cells))):=by
 show(if _ then _ else _)=_;rw[if_pos b]
structure oH(K:aC)(X:Cs):Prop where
 c:TxC K X.C X.H
 cW:K7 K X.W
 RL:cL K X.W "heap"
 nWk:cL K X.W "kind"
 nWd:cL K X.W "hands"
 nWn:cL K X.W "names"
 Ve:cL K X.W "sweeper"
 cD:K7 K X.D
 nDn:cL K X.D "name"
 nDs:cL K X.D "slots"
 cK:K7 K X.K
 nKl:cL K X.K "looking"
 nKt:cL K X.K "tells"
 cS:K7 K X.S
 n1:cL K X.S "sense"
 n2:cL K X.S "phase"
 n3:cL K X.S "grey"
 n4:cL K X.S "looked"
 n5:cL K X.S "turn"
 n6:cL K X.S "at"
 n7:cL K X.S "stop"
 n8:cL K X.S "walks"
 n9:cL K X.S "looks"
 n10:cL K X.S "passes"
 n11:cL K X.S "loss"
structure WJ0(X:Cs)(H:Hp)(T:Tg)(s:Nat)(A:Wa)(M:Wm):Prop where
 jb:WB X H T s A M.w M.tells
 jh:WH X H T s A M.room M.used M.born
 js:WS X H T s A M.sw
 jd:WD X H T s A.hs M.hands
 jc:WC X H T s A.cs M.cells
theorem WJ.w0{X:Cs}{H:Hp}{T:Tg}{s:Nat}{A:Wa}{M:Wm}(j:WJ X H T s A M):WJ0 X H T s A M:=⟨j.jb,j.jh,j.js,j.jd,j.jc⟩
theorem WJ.names{X:Cs}{H:Hp}{T:Tg}{s:Nat}{A:Wa}{M:Wm}{o:HO}(j:WJ X H T s A M)(h0:s≠0):WJ0 X (upd H A.nm o) T s A M:=by
 have f:rY s (·=6) H (upd H A.nm o) T T:=rY.xQ j.jn.tm;exact⟨j.jb.mv f (lC h0 j.jn.tm) δ δ,j.jh.mv f δ δ,j.js.mv f δ δ,j.jd.mv f λ_ _ _=>δ,j.jc.mv f λ_ _=>δ⟩
theorem WJ0.same{X:Cs}{H H':Hp}{T:Tg}{s:Nat}{A:Wa}{M:Wm}(j:WJ0 X H T s A M)(e:bB H H'):WJ0 X H' T s A M:=by
 have f:rY s eI H H' T T:=rY.of_same e;exact⟨j.jb.mv f (λb o h _=>e b o h) id id,j.jh.mv f id id,j.js.mv f id id,j.jd.mv f λ_ _ _=>id,j.jc.mv f λ_ _=>id⟩
def atO(cs:List V):V->V
 | .int i=>if 0<=i then(cs[i.toNat]?).getD .non else .non
 | _=>.non
inductive Hz(CH:AI)(hp:AI)(pl:V)(H:Hp)(Q:VK):Prop
 | mk (_:(pl=.non\/∃i,pl=.int i)) (ca room used born cs) (_:HpO CH H hp ca room used born cs) (_:Q (atO cs pl) H):Hz CH hp pl H Q
def jw(a:AI):Sp:=λvs H Q E=>∃hp pl,vs=[.ref hp,pl]/\Hz a hp pl H Q
def cO(M:Wm)(x:AA):Option Ce:=x.bind (cellAt M)
inductive Bk(X:Cs)(hp:AI)(pl:V)(H:Hp)(Q:VK):Prop
 | mk (x) (_:pl=oV x) (T s A M) (_:WJ X H T s A M) (_:A.hp=hp) (_:Q (oV (jW M x)) H):Bk X hp pl H Q
def jk(X:Cs):Sp:=λvs H Q E=>∃hp pl,vs=[.ref hp,pl]/\Bk X hp pl H Q
inductive yq(X:Cs)(p:AI)(f:Int)(H:Hp)(Q:VK):Prop
 | mk (T s i q c) (_:CeO X.C H T s i q c) (_:q.1=p) (_:Q (.bl (decide (0<=f) && decide (f<c.fl.length))) H):yq X p f H Q
def J9(X:Cs):Sp:=λvs H Q E=>∃p f,vs=[.ref p,.int f]/\yq X p f H Q
inductive Bg(X:Cs)(wo:AI)(h:Int)(H:Hp)(Q:VK):Prop
 | mk (T s A M k p) (_:WJ X H T s A M) (_:A.wo=wo) (_:h=((k:Nat):Int)) (_:A.hs[k]? =some p) (_:Q (.ref p.2) H):Bg X wo h H Q
def iu(X:Cs):Sp:=λvs H Q E=>∃wo h,vs=[.ref wo,.int h]/\Bg X wo h H Q
inductive yp(X:Cs)(wo:AI)(p:AI)(H:Hp)(Q:VK):Prop
 | mk (T s A M i q c) (_:WJ0 X H T s A M) (_:A.wo=wo) (_:CeO X.C H T s i q c) (_:q.1=p) (_:Q (.bl (decide (c.tone=M.sw.sense))) H):yp X wo p H Q
def iZ(X:Cs):Sp:=λvs H Q E=>∃wo p,vs=[.ref wo,.ref p]/\yp X wo p H Q
inductive yo(X:Cs)(wo:AI)(h:Int)(H:Hp)(Q:VK):Prop
 | mk (T s A M k) (_:WJ X H T s A M) (_:A.wo=wo) (_:h=((k:Nat):Int)) (_:Q (.bl (cY M k)) H):yo X wo h H Q
def J8(X:Cs):Sp:=λvs H Q E=>∃wo h,vs=[.ref wo,.int h]/\yo X wo h H Q
inductive Be(X:Cs)(wo:AI)(v:V)(H:Hp)(Q:VK):Prop
 | mk (T s A M) (_:WJ X H T s A M) (_:A.wo=wo) (_:(0<=M.tells/\M.tells<4)) (_:∀l,H l=none->Q (.ref l) (upd H l (.lst (if old? M=true then [v]else [])))):Be X wo v H Q
def QJ(X:Cs):Sp:=λvs H Q E=>∃wo v,vs=[.ref wo,v]/\Be X wo v H Q
inductive Bf(X:Cs)(wo:AI)(h:Int)(v:V)(H:Hp)(Q:VK):Prop
 | mk (T s A M k) (_:WJ X H T s A M) (_:A.wo=wo) (_:(0<=M.tells/\M.tells<4)) (_:h=((k:Nat):Int)) (_:∀l,H l=none->Q (.ref l) (upd H l (.lst (if (nP M && !cY M k)=true then [v]else [])))):Bf X wo h v H Q
def Bm(X:Cs):Sp:=λvs H Q E=>∃wo h v,vs=[.ref wo,.int h,v]/\Bf X wo h v H Q
inductive Hw(X:Cs)(CE:AI)(wo:AI)(h:Int)(t:Int)(H:Hp)(Q:VK)(E:XK):Prop
 | mk (T s A M hn tn) (_:WJ X H T s A M) (_:A.wo=wo) (_:h=((hn:Nat):Int)) (_:t=((tn:Nat):Int)) (_:uG M hn tn) (_:(cO M (aO M hn tn)=none->E (.ref CE) none H)) (_:(∀i c p,aO M hn tn=some i->0<=i->cellAt M i=some c->A.cs[i.toNat]? =some (some p)->CeO X.C H T s i.toNat p c->Q (.ref p.1) H)):Hw X CE wo h t H Q E
def uE(X:Cs)(CE:AI):Sp:=λvs H Q E=>∃wo h t,vs=[.ref wo,.int h,.int t]/\Hw X CE wo h t H Q E
inductive yr(X:Cs)(CE:AI)(CF:AI)(wo:AI)(h:Int)(t:Int)(f:Int)(H:Hp)(Q:VK)(E:XK):Prop
 | mk (T s A M hn tn fn) (_:WJ X H T s A M) (_:A.wo=wo) (_:h=((hn:Nat):Int)) (_:t=((tn:Nat):Int)) (_:f=((fn:Nat):Int)) (_:uG M hn tn) (_:(cO M (aO M hn tn)=none->E (.ref CE) none H)) (_:(∀i c,aO M hn tn=some i->0<=i->cellAt M i=some c->c.fl[fn]? =none->E (.ref CF) none H)) (_:(∀i c p,aO M hn tn=some i->0<=i->cellAt M i=some c->A.cs[i.toNat]? =some (some p)->CeO X.C H T s i.toNat p c->fn<c.fl.length->Q (.ref p.2) H)):yr X CE CF wo h t f H Q E
def yD(X:Cs)(CE a:AI):Sp:=λvs H Q E=>∃wo h t f,vs=[.ref wo,.int h,.int t,.int f]/\yr X CE a wo h t f H Q E
inductive Zeb(X:Cs)(wo:AI)(pl:V)(H:Hp)(Q:VK):Prop
 | mk (x) (_:pl=oV x) (T s A M) (_:WT H T) (_:s≠0) (_:WJ X H T s A M) (_:A.wo=wo) (_:(M.sw.phase="walk"->M.sw.grey.length<=20000)) (_:∀H',eO s H H' T T->WJ X H' T s A (bV M x).2->Q (oV (bV M x).1) H'):Zeb X wo pl H Q
def Zmo(X:Cs):Sp:=λvs H Q E=>∃wo pl,vs=[.ref wo,pl]/\Zeb X wo pl H Q
def PlO(H:Hp)(T:Tg)(A:Wa)(M:Wm)(pl:AI)(xs:Au):Prop:=(H pl=some (.lst (xs.map oV))/\T pl=(0,0))\/(∃(k:Nat) (p:AI×AI) (m:Str×Au),A.hs[k]? =some p/\M.hands[k]? =some m/\pl=p.2/\xs=m.2)\/(∃(k:Nat) (p:AI×AI) (c:Ce),A.cs[k]? =some (some p)/\M.cells[k]? =some (some c)/\pl=p.2/\xs=c.fl)
theorem PlO.get{X:Cs}{H:Hp}{T:Tg}{s:Nat}{A:Wa}{M:Wm}{pl:AI}{xs:Au}(h:PlO H T A M pl xs)(j:WJ X H T s A M):H pl=some (.lst (xs.map oV)):=by
 rcases h with ⟨h,_⟩ | ⟨k,p,m,h1,h2,rfl,rfl⟩ | ⟨k,p,c,h1,h2,rfl,rfl⟩
 ·exact h
 ·exact(j.jd.hd k p m h1 h2).o2
 ·have e:=j.jc.ce k _ _ h1 h2;exact(show CeO X.C H T s k p c from e).o2
inductive Bh(X:Cs)(wo:AI)(pl:AI)(H:Hp)(Q:VK):Prop
 | mk (xs T s A M) (_:WT H T) (_:s≠0) (_:WJ X H T s A M) (_:A.wo=wo) (_:PlO H T A M pl xs) (_:xs.length<=100) (_:(M.sw.phase="walk"->M.sw.grey.length<=10000)) (_:∀H' T' l,eO s H H' T T'->WJ X H' T' s A (aQ M xs).2->H' l=some (.lst ((aQ M xs).1.map V.int))->(H l=none/\TgO s (T' l))->Q (.ref l) H'):Bh X wo pl H Q
def mV(X:Cs):Sp:=λvs H Q E=>∃wo pl,vs=[.ref wo,.ref pl]/\Bh X wo pl H Q
inductive Zee(X:Cs)(wo:AI)(p:Int)(b:Int)(H:Hp)(Q:VK):Prop
 | mk (T s A M) (_:WJ0 X H T s A M) (_:A.wo=wo) (_:Q (.bl (mj M p b)) H):Zee X wo p b H Q
def Zej(X:Cs):Sp:=λvs H Q E=>∃wo p b,vs=[.ref wo,.int p,.int b]/\Zee X wo p b H Q
inductive rW(X:Cs)(CN:AI)(wo:AI)(z:Str)(H:Hp)(Q:VK)(E:XK):Prop
 | mk (T s A M) (_:WJ X H T s A M) (_:A.wo=wo) (_:(wF M.names z=none->E (.ref CN) none H)) (_:(∀p b,wF M.names z=some (p,b)->Q (if mj M p b=true then .non else .int p) H)):rW X CN wo z H Q E
def Ak(X:Cs)(a:AI):Sp:=λvs H Q E=>∃wo z,vs=[.ref wo,.str z]/\rW X a wo z H Q E
theorem t8(x:AA):oV x=.non\/∃i,oV x=.int i:=by cases x with
 | none=>exact .inl rfl
 | some i=>exact .inr ⟨i,rfl⟩
section
variable {X:Cs}{H H':Hp}{T T':Tg}{s:Nat}{A:Wa}{M:Wm}
theorem WJ0.hpO(j:WJ0 X H T s A M):HpO X.H H A.hp A.ca M.room M.used M.born dQ:=⟨j.jh.oh,j.jh.oc⟩
theorem WJ0.look(j:WJ0 X H T s A M)(x:AA):(cO M x=none/\atO dQ (oV x)=.non)\/∃i c p,x=some i/\0<=i/\cellAt M i=some c/\M.cells[i.toNat]? =some (some c)/\A.cs[i.toNat]? =some (some p)/\atO dQ (oV x)=.ref p.1/\CeO X.C H T s i.toNat p c:=by
 cases x with
 | none=>exact .inl ⟨rfl,rfl⟩
 | some i=>
  show(cellAt M i=none/\atO _ (.int i)=_)\/_
  by_cases h0:0<=i
  ·cases hc:M.cells[i.toNat]? with
   | none=>
    have hl:A.cs[i.toNat]? =none:=by
     rw[List.getElem?_eq_none_iff]at hc ⊢;rw[j.jc.lc];exact hc
    refine .inl ⟨by unfold cellAt;rw[if_pos h0,hc];rfl,?_⟩;show(if 0<=i then _ else _)=_;rw[if_pos h0,cg,hl];rfl
   | some y=>cases y with
    | none=>
     refine .inl ⟨by unfold cellAt;rw[if_pos h0,hc];rfl,?_⟩;show(if 0<=i then _ else _)=_;rw[if_pos h0,cg,j.jc.at0 hc];rfl
    | some c=>
     obtain⟨p,hp,e⟩:=j.jc.at hc;refine .inr ⟨i,c,p,rfl,h0,by unfold cellAt;rw[if_pos h0,hc];rfl,hc,hp,?_,e⟩;show(if 0<=i then _ else _)=_;rw[if_pos h0,cg,hp];rfl
  ·refine .inl ⟨by unfold cellAt;rw[if_neg h0],?_⟩;show(if 0<=i then _ else _)=_;rw[if_neg h0]
theorem WJ.hpO(j:WJ X H T s A M):HpO X.H H A.hp A.ca M.room M.used M.born dQ:=j.w0.hpO
theorem WJ.look(j:WJ X H T s A M)(x:AA):(cO M x=none/\atO dQ (oV x)=.non)\/∃i c p,x=some i/\0<=i/\cellAt M i=some c/\M.cells[i.toNat]? =some (some c)/\A.cs[i.toNat]? =some (some p)/\atO dQ (oV x)=.ref p.1/\CeO X.C H T s i.toNat p c:=j.w0.look x
theorem WJ.hand(j:WJ X H T s A M){k:Nat}{p:AI×AI}(hp:A.hs[k]? =some p):∃m,M.hands[k]? =some m/\HdO X.D H T s k p m:=by
 have hl:k<M.hands.length:=by rw[<- j.jd.lh];exact(cG hp).1
 exact⟨_,bD hl,j.jd.hd k p _ hp (bD hl)⟩
theorem WJ.handOf(j:WJ X H T s A M){h t:Nat}(o:uG M h t):∃p m,A.hs[h]? =some p/\M.hands[h]? =some m/\m.2[t]? =some (aO M h t)/\t<m.2.length/\HdO X.D H T s h p m:=by
 obtain⟨m,hm,hk,hl⟩:=Og o;have a:h<A.hs.length:=by rw[j.jd.lh];exact(cG hm).1
 exact⟨_,m,bD a,hm,hk,hl,j.jd.hd h _ m (bD a) hm⟩
theorem WJ.fresh(j:WJ X H T s A M){l:AI}{o:HO}{v:Nat×Nat}(h:H l=none):WJ X (upd H l o) (cN T l v) s A M:=
 j.mv (H':=upd H l o) (T':=cN T l v) ⟨λb u e _ _=>by rw[aA (aD e h)];exact e,λb u e=>g8 (aD e h)⟩ λb u e _=>by rw[aA (aD e h)];exact e
end
theorem Zv8{t:Int}(h:0<=t/\t<4):Builtin.bitAnd t 1=t % 2/\(Builtin.bitAnd t 2=0↔¬ t / 2 % 2=1):=by
 have:t=0\/t=1\/t=2\/t=3:=δ
 rcases this with rfl | rfl | rfl | rfl<;>decide
section
variable {K:aC}{X:Cs}{H:Hp}{Q:VK}{E:XK}{n:ν}{bk ct:ν}
theorem Ze3{hp:AI}{pl:V}(T:oH K X)(q:Hz X.H hp pl H Q):Nq K ξ [↑hp,some pl] H:=by
 obtain⟨a,ca,room,used,born,cs,⟨⟨b,h1⟩,h2⟩,q⟩:=q;unfold Nq;rcases a with rfl | ⟨i,rfl⟩
 ·apply q
 ·apply j9 dB dB
  ·ext;rw[show atO cs (.int i)=.non from if_neg δ]at q;exact q
  ·rw[show atO cs (.int i)=(cs[i.toNat]?).getD .non from if_pos δ]at q;apply aJ h1 T.c.cZ T.c.bZ bT ?_;apply eZ (cC.of h2) ?_;apply j9 (λy=>?_) (λy=>?_)
   ·ext;rw[List.getElem?_eq_none_iff.mpr δ]at q;exact q
   ·apply aJ h1 T.c.cZ T.c.bZ bT ?_;ext;have hl:i.toNat<cs.length:=δ
    refine fB (cC.of h2) (nu δ (bD hl)) ?_;rw[bD hl]at q;exact q
theorem Zbe{hp:AI}{pl:V}(T:oH K X)(q:Bk X hp pl H Q):IV K (jw X.H) ξ [↑hp,some pl,none] H:=by
 obtain⟨x,rfl,Tg,s,A,M,j,rfl,q⟩:=q;unfold IV;exists _,_,rfl,t8 x,_,_,_,_,_,j.hpO;rcases j.look x with ⟨b,a⟩ | ⟨i,c,p,rfl,h0,d,_,_,a,⟨t1,t2,⟨e,o1⟩,o2⟩⟩
 ·rw[a];have:jW M x=none:=by
   cases x with
   | none=>rfl
   | some i=>show(cellAt M i).map _=none;rw[show cellAt M i=none from b];rfl
  rw[this]at q;apply q
 ·rw[a];have:jW M (some i)=some c.birth:=by show(cellAt M i).map _=_;rw[d];rfl
  rw[this]at q;apply aJ o1 T.c.dR T.c.eN fV ?_;exact q
theorem Gj{p:AI}{f:Int}(T:oH K X)(q:yq X p f H Q):qD K ξ [↑p,some (.int f)] H:=by
 obtain⟨Tg,s,i,r,c,⟨t1,t2,⟨a,o1⟩,o2⟩,rfl,q⟩:=q;unfold qD;apply j9 dB dB
 ·rw[decide_eq_true z,Bool.true_and]at q;apply aJ o1 T.c.dR T.c.gk jt ?_;apply eZ (cC.of o2) ?_;ext;rw[aY];exact q
 ·rw[decide_eq_false z,Bool.false_and]at q;apply q
theorem Zt{wo:AI}{h:Int}(T:oH K X)(q:Bg X wo h H Q):Iw K ξ [↑wo,some (.int h)] H:=by
 obtain⟨Tg,s,A,M,k,p,j,rfl,rfl,hp,q⟩:=q;obtain⟨d1,ow⟩:=j.jb.ow;obtain⟨m,hm,⟨t1,t2,⟨a,o1⟩,o2⟩⟩:=j.hand hp;unfold Iw;apply aJ ow T.cW T.nWd dO ?_;apply fB (cC.of j.jb.on) (fG (v:=.ref p.1) (by rw[cg,hp];rfl)) ?_;refine aJ o1 T.cD T.nDs pX ?_;exact q
theorem Ym{wo p:AI}(T:oH K X)(q:yp X wo p H Q):CJ K ξ [↑wo,↑p] H:=by
 obtain⟨Tg,s,A,M,i,r,c,j,rfl,⟨t1,t2,⟨a,o1⟩,o2⟩,rfl,q⟩:=q;obtain⟨d1,ow⟩:=j.jb.ow;obtain⟨d2,os⟩:=j.js.os;unfold CJ;apply aJ o1 T.c.dR T.c.nR SM ?_;apply aJ ow T.cW T.Ve bw ?_;apply aJ os T.cS T.n1 kW ?_;apply q
end
theorem Zt1{y:Int}:Builtin.bitAnd y 1=y % 2:=by
 unfold Builtin.bitAnd
 by_cases h:0<=y
 ·rw[decide_eq_true h,decide_eq_true (show(0:Int)<=1 by decide)];show((y.toNat &&& 1:Nat):Int)=_;rw[Nat.and_one_is_mod];omega
 ·rw[decide_eq_false h,decide_eq_true (show(0:Int)<=1 by decide)];show(1:Int) - ((1 &&& (Builtin.bitNot y).toNat:Nat):Int)=_;rw[Nat.and_comm,Nat.and_one_is_mod];unfold Builtin.bitNot;omega
section
variable {K:aC}{X:Cs}{H:Hp}{Q:VK}{E:XK}{n:ν}{bk ct:ν}{CE CF CN:AI}
theorem Xu{wo:AI}{h:Int}(T:oH K X)(q:yo X wo h H Q):CG K ξ [↑wo,some (.int h)] H:=by
 obtain⟨Tg,s,A,M,k,j,rfl,rfl,q⟩:=q;obtain⟨d1,ow⟩:=j.jb.ow;obtain⟨d2,os⟩:=j.js.os;unfold CG;apply aJ ow T.cW T.Ve bw ?_;apply aJ os T.cS T.n4 gw ?_;ext;rw[Zt1,Int.toNat_natCast];exact q
theorem Lz{wo:AI}{v:V}(T:oH K X)(q:Be X wo v H Q):
  xx K ξ [↑wo,some v] H:=by
 obtain⟨Tg,s,A,M,j,rfl,b,q⟩:=q;obtain⟨d1,ow⟩:=j.jb.ow;obtain⟨d2,ok⟩:=j.jb.ok;obtain⟨a,_⟩:=Zv8 b;unfold xx;apply aJ ow T.cW T.nWk iG ?_;apply aJ ok T.cK T.nKt yd ?_;ext;rw[a];refine j9 dB dB
 ·apply⟨bF ζ,λl hl=>?_⟩;have:=q l hl;rw[if_neg (by unfold old?;rw[decide_eq_true_iff];omega)]at this;exact this
 ·apply⟨bF ζ,λl hl=>?_⟩;have:=q l hl;rw[if_pos (by unfold old?;rw[decide_eq_true_iff];omega)]at this;exact this
theorem LC{wo:AI}{h:Int}{v:V}(T:oH K X)(q:Bf X wo h v H Q):
  xF K (J8 X) ξ [↑wo,some (.int h),some v] H:=by
 obtain⟨Tg,s,A,M,k,j,rfl,b,rfl,q⟩:=q;obtain⟨d1,ow⟩:=j.jb.ow;obtain⟨d2,ok⟩:=j.jb.ok;obtain⟨_,a⟩:=Zv8 b;unfold xF;apply aJ ow T.cW T.nWk iG ?_;apply aJ ok T.cK T.nKt yd ?_;apply j9 dB dB
 ·apply⟨bF ζ,λl hl=>?_⟩;have:=q l hl;have e:nP M=false:=by unfold nP;exact decide_eq_false (a.mp z)
  rw[e,Bool.false_and,if_neg ε]at this;exact this
 ·have e:nP M=true:=by unfold nP;exact decide_eq_true (Decidable.not_not.mp λw=>z (a.mpr w))
  rw[e,Bool.true_and]at q;exists _,_,rfl,Tg,s,A,M,k,j,rfl,rfl;cases hl:cY M k with
  | true=>
   rw[hl]at q;apply⟨bF ζ,λl hl=>?_⟩;exact q l hl
  | false=>
   rw[hl]at q;apply⟨bF ζ,λl hl=>?_⟩;exact q l hl
theorem Ze2{wo:AI}{h t:Int}(T:oH K X)(q:Hw X CE wo h t H Q E):
  Np K CE (jw X.H) (iu X) E ξ [↑wo,some (.int h),some (.int t),none] H:=by
 obtain⟨Tg,s,A,M,hn,tn,j,rfl,rfl,rfl,ok,k,g⟩:=q;obtain⟨d1,ow⟩:=j.jb.ow;obtain⟨p,m,hp,hm,hs,hl,⟨t1,t2,o1,o2⟩⟩:=j.handOf ok;unfold Np;apply aJ ow T.cW T.RL bG ?_;exists _,_,rfl,Tg,s,A,M,hn,p,j,rfl,rfl,hp;apply fB (cC.of o2) (fG (v:=oV (aO M hn tn)) (by rw[cg,hs];rfl)) ?_;exists _,_,rfl,t8 _,_,_,_,_,_,j.hpO;rcases j.look (aO M hn tn)with ⟨e,b⟩ | ⟨i,c,f,d,h0,l,_,a,b,ce⟩
 ·rw[b];apply⟨ε,k e⟩
 ·rw[b];apply g i c f d h0 l a ce
theorem Ys{wo:AI}{h t f:Int}(T:oH K X)(q:yr X CE CF wo h t f H Q E):
  CP K X.C CF (J9 X) (uE X CE) E ξ [↑wo,some (.int h),some (.int t),some (.int f),none] H:=by
 obtain⟨Tg,s,A,M,hn,tn,fn,j,rfl,rfl,rfl,rfl,ok,k,e,g⟩:=q;unfold CP;apply⟨_,_,_,rfl,Tg,s,A,M,hn,tn,j,rfl,rfl,rfl,ok,k,λi c p a h0 b hp ce=>?_⟩;obtain⟨t1,t2,⟨d,o1⟩,o2⟩:=id ce;exists p.1,d,_,rfl,o1,Bc;exists _,_,rfl,Tg,s,_,p,c,ce,rfl
 by_cases z:fn<c.fl.length
 ·rw[show(decide ((0:Int)<=(fn:Int)) && decide ((fn:Int)<c.fl.length))=true from by simp;omega];apply aJ o1 T.c.dR T.c.gk jt ?_;exact g i c p a h0 b hp ce z
 ·rw[show(decide ((0:Int)<=(fn:Int)) && decide ((fn:Int)<c.fl.length))=false from by simp;omega];apply⟨ε,e i c a h0 b (List.getElem?_eq_none_iff.mpr δ)⟩
theorem Zow{wo:AI}{pl b:Int}(T:oH K X)(q:Zee X wo pl b H Q):Zf3 K (jw X.H) (iZ X) ξ [↑wo,some (.int pl),some (.int b),none] H:=by
 obtain⟨Tg,s,A,M,j,rfl,q⟩:=q;obtain⟨d1,ow⟩:=j.jb.ow;obtain⟨d2,os⟩:=j.js.os;unfold Zf3;apply aJ ow T.cW T.RL bG ?_;exists _,_,rfl,t8 (some pl),_,_,_,_,_,j.hpO;unfold mj at q;rcases j.look (some pl)with ⟨d,a⟩ | ⟨i,c,p,e,h0,f,_,hp,a,ce⟩
 ·rw[show atO dQ (.int pl)=.non from a];rw[show cellAt M pl=none from d]at q;apply q
 ·cases e;rw[show atO dQ (.int pl)=.ref p.1 from a];rw[f]at q;dsimp only at q;obtain⟨t1,t2,⟨g,o1⟩,o2⟩:=id ce;apply aJ o1 T.c.dR T.c.eN fV ?_;apply Zdf dB dB
  ·rw[if_neg z]at q;apply q
  ·rw[if_pos z]at q;apply aJ ow T.cW T.Ve bw ?_;apply aJ os T.cS T.n2 kY ?_;apply j9 (λy=>?_) (λy=>?_)
   ·exists _,_,rfl,Tg,s,A,M,_,p,c,j,rfl,ce,rfl;ext;have:decide (M.sw.phase="give"/\c.tone≠M.sw.sense)=!decide (c.tone=M.sw.sense):=by simp[y]
    rw[this]at q;exact q
   ·have:decide (M.sw.phase="give"/\c.tone≠M.sw.sense)=false:=decide_eq_false λw=>y w.1;rw[this]at q;exact q
theorem Zo5{wo:AI}{pl:V}(T:oH K X)(q:Zeb X wo pl H Q):Zf2 K (jw X.H) (iZ X) ξ [↑wo,some pl,none,none] H:=by
 obtain⟨x,rfl,Tg,s,A,M,w,r,j,rfl,hg,q⟩:=q;obtain⟨d1,ow⟩:=j.jb.ow;obtain⟨d2,os⟩:=j.js.os;unfold Zf2;apply aJ ow T.cW T.Ve bw ?_;apply aJ ow T.cW T.RL bG ?_;exists _,_,rfl,t8 x,_,_,_,_,_,j.hpO;apply aJ os T.cS T.n2 kY ?_;ext;have stay:bV M x=(none,M)->Q .non H:=λe=>by
  have:=q H (eO.refl w);rw[e]at this;exact this j
 refine Zdf dB dB
 ·apply stay (Zcv z x)
 ·rcases j.look x with ⟨v,m⟩ | ⟨i,c,p,rfl,h0,t,hc,hp,m,ce⟩
  ·rw[m];apply stay ?_;cases x with
   | none=>rfl
   | some i=>unfold bV;dsimp only;rw[show cellAt M i=none from v]
  ·rw[m];obtain⟨t1,t2,⟨dx,o1⟩,o2⟩:=id ce;exists _,_,rfl,Tg,s,A,M,_,p,c,j.w0,rfl,ce,rfl
   by_cases y:c.tone=M.sw.sense
   ·rw[decide_eq_true y];apply stay ?_;unfold bV;dsimp only;rw[t];dsimp only;rw[if_neg λw=>w.2 y]
   ·rw[decide_eq_false y];have E:bV M (some i)=(some c.birth,{ setCell M i { c with tone:=M.sw.sense }with sw:={ M.sw with grey:=M.sw.grey++[i] } }):=by
     unfold bV;dsimp only;rw[t];dsimp only;rw[if_pos ⟨z,y⟩]
    rw[E]at q;apply aJ os T.cS T.n1 kW ?_;apply⟨p.1,X.C,dx,_,rfl,o1,T.c.dR,T.c.nR,by show 5<1000;decide,?_⟩;rw[Qw];obtain⟨st1,a⟩:=j.cell w r (dx:=dx) (tone:=M.sw.sense) (load:=c.load) hp ce;generalize upd H p.1 (.ins X.C dx (jL c.birth c.bulk M.sw.sense c.load p.2))=o at st1 a ⊢;obtain⟨d3,f⟩:=a.js.os;obtain⟨J,b,I⟩:=a.jc.at (i:=i.toNat) (c:={ c with tone:=M.sw.sense,load:=c.load }) (by rw[List.getElem?_set_self (cG hc).1]);rw[hp]at b;cases b;apply aJ f T.cS T.n3 pJ ?_;ext;have h:=hg z;refine⟨.inl ⟨rfl,_,cC.of a.js.og⟩,?_⟩;exists _,_,_,rfl,rfl,a.js.og,?_
    ·rw[aY];exact Nat.lt_of_le_of_lt h ε
    obtain⟨st2,k⟩:=a.Zq1 st1.wt r (g:=M.sw.grey++[i]);have u:(M.sw.grey.map V.int++[V.int i])=(M.sw.grey++[i]).map V.int:=by rw[List.map_append];rfl
    show bz _ _ _ (upd o A.gr (.lst (M.sw.grey.map V.int++[oV (some i)])));rw[show(M.sw.grey.map V.int++[oV (some i)])=(M.sw.grey++[i]).map V.int from u];generalize upd o A.gr (.lst ((M.sw.grey++[i]).map V.int))=D at st2 k ⊢;obtain⟨L,d,l⟩:=k.jc.at (i:=i.toNat) (c:={ c with tone:=M.sw.sense,load:=c.load }) (by show(M.cells.set _ _)[_]? =_;rw[List.getElem?_set_self (cG hc).1]);rw[hp]at d;cases d;obtain⟨_,_,⟨B,F⟩,_⟩:=l;apply aJ F T.c.dR T.c.eN fV ?_;exact q D (st1.trans st2) k
theorem Zrf{Tg:Tg}{z:Str}:∀{ns:AF}{names:List cy},Al (NmO H Tg) ns names->(wF names z=none/\gR (wO names ns) (Sum.inr z)=none)\/∃p b t,wF names z=some (p,b)/\gR (wO names ns) (Sum.inr z)=↑t/\H t=some (.tup [.int p,.int b])/\Tg t=(0,0):=by
 intro ns names h
 induction h with
 | nil=>exact .inl ⟨rfl,rfl⟩
 | @cons t m ns names h1 _ a=>
  by_cases e:m.1=z
  ·refine .inr ⟨m.2.1,m.2.2,t,?_,?_,h1.2,h1.1⟩
   ·unfold wF;rw[List.find?_cons_of_pos fh];rfl
   ·show(List.find? _ ((Sum.inr m.1,V.ref t)::wO names ns)).map _=_;rw[List.find?_cons_of_pos fh];rfl
  ·have g:wF (m::names) z=wF names z:=by unfold wF;rw[List.find?_cons_of_neg fh]
   have v:gR (wO (m::names) (t::ns)) (Sum.inr z)=gR (wO names ns) (Sum.inr z):=by
    show(List.find? _ ((Sum.inr m.1,V.ref t)::wO names ns)).map _=_;rw[List.find?_cons_of_neg fh];rfl
   rw[g,v];exact a
theorem Nu{wo:AI}{z:Str}(T:oH K X)(q:rW X CN wo z H Q E):
  xG K CN (Zej X) E ξ [↑wo,some (.str z),none,none] H:=by
 obtain⟨Tg,s,A,M,j,rfl,f,e⟩:=q;obtain⟨d1,ow⟩:=j.jb.ow;obtain⟨tm,om,nms⟩:=j.jn;unfold xG;apply aJ ow T.cW T.nWn jl ?_;refine⟨_,_,rfl,Zma om,?_⟩;rcases Zrf (z:=z) nms with ⟨c,a⟩ | ⟨p,b,t,c,a,d,_⟩
 ·rw[a];apply⟨ε,f c⟩
 ·rw[a,show(!(some (V.ref t)).isSome)=false from rfl];apply aJ ow T.cW T.nWn jl ?_;apply⟨_,_,rfl,by have:=Zma (z:=z) om;rw[a]at this;exact this,?_⟩;exists t,_,0,_,rfl,rfl,cP.of d,rfl;apply aJ ow T.cW T.nWn jl ?_;apply⟨_,_,rfl,by have:=Zma (z:=z) om;rw[a]at this;exact this,?_⟩;exists t,_,1,_,rfl,rfl,cP.of d,rfl;exists _,_,_,rfl,Tg,s,A,M,j.w0,rfl;have:=e p b c;cases hg:mj M p b with
  | true=>
   rw[hg]at this;apply this
  | false=>
   rw[hg]at this;apply this
theorem eO.new{s:Nat}{H a:Hp}{T c:Tg}{l:AI}{o d:HO}(e:eO s H a T c)(hl:H l=none)(hx:a l=some d):eO s H (upd a l o) T c where
 kp:=λb u h z=>by rw[aA (aD h hl)];exact e.kp b u h z
 al:=λb u h=>by rw[aA (aD h hl)];exact e.al b u h
 tg:=e.tg
 wt:=λb h=>e.wt b (by
  by_cases z:b=l
  ·rw[z,aq]at h;cases h
  ·rw[aA z]at h;exact h)
theorem eO.fresh{s:Nat}{H:Hp}{T:Tg}{l:AI}{o:HO}{v:Nat×Nat}(w:WT H T)(hl:H l=none):eO s H (upd H l o) T (cN T l v) where
 kp:=λb u h z=>by rw[aA (aD h hl)];exact h
 al:=λb u h=>⟨u,by rw[aA (aD h hl)];exact h⟩
 tg:=λb u h=>g8 (aD h hl)
 wt:=λb h=>by
  by_cases z:b=l
  ·rw[z,aq]at h;cases h
  ·rw[aA z]at h;rw[g8 z];exact w b h
theorem Zcw{M:Wm}{x:AA}:(bV M x).2.sw.phase=M.sw.phase/\(bV M x).2.sw.grey.length<=M.sw.grey.length+1/\(bV M x).2.tells=M.tells/\(bV M x).2.names=M.names:=by
 cases x with
 | none=>exact⟨rfl,Nat.le_succ _,rfl,rfl⟩
 | some i=>
  unfold bV;dsimp only;cases cellAt M i with
  | none=>exact⟨rfl,Nat.le_succ _,rfl,rfl⟩
  | some c=>
   dsimp only
   by_cases z:M.sw.phase="walk"/\c.tone≠M.sw.sense
   ·rw[if_pos z];exact⟨rfl,by show(M.sw.grey++[i]).length<=_;rw[List.length_append];exact Nat.le_refl _,rfl,rfl⟩
   ·rw[if_neg z];exact⟨rfl,Nat.le_succ _,rfl,rfl⟩
theorem Ju{M:Wm}{x:AA}:(bV M x).2.hands=M.hands:=by
 cases x with
 | none=>rfl
 | some i=>
  unfold bV;dsimp only;cases cellAt M i with
  | none=>rfl
  | some c=>
   dsimp only;split<;>rfl
theorem Zcx{M:Wm}{x:AA}{k:Nat}{c:Ce}(h:M.cells[k]? =some (some c)):∃c',(bV M x).2.cells[k]? =some (some c')/\c'.fl=c.fl/\c'.birth=c.birth/\c'.bulk=c.bulk/\c'.load=c.load:=by
 cases x with
 | none=>exact⟨c,h,rfl,rfl,rfl,rfl⟩
 | some i=>
  unfold bV;dsimp only;cases hc:cellAt M i with
  | none=>exact⟨c,h,rfl,rfl,rfl,rfl⟩
  | some d=>
   dsimp only;split
   ·show ∃c',(M.cells.set i.toNat _)[k]? =_/\_
    by_cases z:i.toNat=k
    ·subst z;obtain⟨_,hd⟩:=bK.mp hc;rw[h]at hd;cases hd;exact⟨_,List.getElem?_set_self (cG h).1,rfl,rfl,rfl,rfl⟩
    ·rw[List.getElem?_set_ne z];exact⟨c,h,rfl,rfl,rfl,rfl⟩
   ·exact⟨c,h,rfl,rfl,rfl,rfl⟩
theorem ir:∀{l:Au}{M:Wm}{x:AA},aQ M (l++[x])=((aQ M l).1++ofN (bV (aQ M l).2 x).1,(bV (aQ M l).2 x).2)
 | [],M,x=>by
  show(ofN (bV M x).1++[],(bV M x).2)=([]++ofN (bV M x).1,(bV M x).2);rw[List.append_nil,List.nil_append]
 | y::l,M,x=>by
  show(ofN (bV M y).1++(aQ (bV M y).2 (l++[x])).1,(aQ (bV M y).2 (l++[x])).2)=_;rw[ir];show _=((ofN (bV M y).1++(aQ (bV M y).2 l).1)++_,_);rw[List.append_assoc];rfl
theorem qQ:∀{l:Au}{M:Wm},(aQ M l).2.sw.phase=M.sw.phase/\(aQ M l).2.sw.grey.length<=M.sw.grey.length+l.length
 | [],M=>⟨rfl,Nat.le_refl _⟩
 | y::l,M=>by
  obtain⟨a,b,_⟩:=Zcw (M:=M) (x:=y);obtain⟨c,d⟩:=qQ (l:=l) (M:=(bV M y).2);refine⟨c.trans a,?_⟩;show(aQ (bV M y).2 l).2.sw.grey.length<=_;rw[List.length_cons];omega
theorem uU:∀{l:Au}{M:Wm},(aQ M l).1.length<=l.length
 | [],M=>Nat.le_refl _
 | y::l,M=>by
  have:=uU (l:=l) (M:=(bV M y).2);show(ofN (bV M y).1++(aQ (bV M y).2 l).1).length<=_;rw[List.length_append,List.length_cons];have:(ofN (bV M y).1).length<=1:=by cases (bV M y).1<;>simp[ofN]
  omega
theorem Z3{wo pl:AI}(T:oH K X)(q:Bh X wo pl H Q):Iz K (Zmo X) ξ [↑wo,↑pl,none,none,none] H:=by
 obtain⟨d,Tg,s,A,M,w,W,j,rfl,C,hx,hg,q⟩:=q;have F:=C.get j;unfold Iz;apply⟨bF ζ,λl hl=>?_⟩;have f:pl≠l:=aD F hl;have st1:eO s H eP Tg (cN Tg l (s+1,0)):=eO.fresh w hl;have R:WJ X eP (cN Tg l (s+1,0)) s A M:=j.fresh hl;have S:upd H l (.lst []) l=some (.lst []):=aq;have tl:cN Tg l (s+1,0) l=(s+1,0):=cH;have o:PlO eP (cN Tg l (s+1,0)) A M pl d:=by
  rcases C with ⟨h1,h2⟩ | h
  ·exact .inl ⟨(aA f).trans h1,(g8 f).trans h2⟩
  ·exact .inr h
 have B:upd H l (.lst []) pl=some (.lst (d.map oV)):=(aA f).trans F;generalize upd H l (.lst [])=H1 at st1 R S B o ⊢;generalize cN Tg l (s+1,0)=u at st1 R tl o;apply⟨pl,rfl,⟨_,cC.of B⟩,forL (d.map oV) (λi P r=>∃L O,P=[↑A.wo,↑pl,↑l,L,O]/\eO s H r Tg u/\WJ X r u s A (aQ M (d.take i)).2/\r l=some (.lst ((aQ M (d.take i)).1.map V.int))/\PlO r u A (aQ M (d.take i)).2 pl d) ⟨_,_,rfl,st1,R,S,o⟩ (by rintro _ _ _ _ ⟨_,_,_,_,j,_,e⟩;exact cC.of (e.get j)) ?_ ?_⟩
 ·rintro i x P r hi ⟨L,O,rfl,st2,J,I,v⟩;obtain⟨y,hy,rfl⟩:∃y,d[i]? =some y/\oV y=x:=by
   rw[cg]at hi;obtain⟨y,a,b⟩:=Option.map_eq_some_iff.mp hi;exact⟨y,a,b⟩
  have il:=(cG hy).1;have t:d.take br=d.take i++[y]:=by
   rw[List.take_add_one,hy];rfl
  obtain⟨gp,gl⟩:=qQ (l:=d.take i) (M:=M);have nl:=uU (l:=d.take i) (M:=M);have tk:(d.take i).length<=100:=by rw[List.length_take];omega
  apply⟨_,_,rfl,y,rfl,u,s,A,_,st2.wt,W,J,rfl,λz=>?_,λHy g Y=>?_⟩
  ·have:=hg (gp.symm.trans z);omega
  have D:Hy l=some (.lst ((aQ M (d.take i)).1.map V.int)):=g.kp _ _ I (by rw[tl];show s+1≠s;omega);have U:PlO Hy u A (bV (aQ M (d.take i)).2 y).2 pl d:=by
   rcases v with ⟨h1,h2⟩ | ⟨k,p,m,h1,h2,N,h4⟩ | ⟨k,p,c,h1,h2,N,h4⟩
   ·exact .inl ⟨g.kp _ _ h1 (by rw[h2];exact λz=>W z.symm),h2⟩
   ·exact .inr (.inl ⟨k,p,m,h1,by rw[Ju];exact h2,N,h4⟩)
   ·obtain⟨c',Z,e2,_⟩:=Zcx (x:=y) h2;exact .inr (.inr ⟨k,p,c',h1,Z,N,by rw[e2];exact h4⟩)
  have E:=st2.trans g;ext;cases hn:(bV (aQ M (d.take i)).2 y).1 with
  | none=>
   dsimp only[oV];apply⟨_,_,rfl,E,?_,?_,by rw[t,ir];exact U⟩
   ·rw[t,ir];exact Y
   ·rw[t,ir];show Hy l=some (.lst (((aQ M (d.take i)).1++ofN (bV (aQ M (d.take i)).2 y).1).map V.int));rw[hn];show Hy l=some (.lst (((aQ M (d.take i)).1++[]).map V.int));rw[List.append_nil];exact D
  | some b=>
   dsimp only[oV];exists .inl ⟨rfl,_,cC.of D⟩;exists _,_,_,rfl,rfl,D,?_
   ·rw[aY];exact Nat.lt_of_le_of_lt (show _<=100 by omega) ε
   exists _,_,rfl,eO.new E hl D,?_,?_
   ·rw[t,ir];exact Y.other (s':=s+1) (eO.upd g.wt D (by rw[tl])) δ δ
   ·rw[t,ir,aq];show some (HO.lst _)=some (HO.lst (((aQ M (d.take i)).1++ofN (bV (aQ M (d.take i)).2 y).1).map V.int));rw[hn,List.map_append];rfl
   ·rw[t,ir];rcases U with ⟨h1,h2⟩ | h
    ·exact .inl ⟨by rw[aA f];exact h1,h2⟩
    ·exact .inr h
 ·rintro P r ⟨L,O,rfl,st2,J,I,v⟩;ext;rw[show(d.map oV).length=d.length from aY _,List.take_length]at J I;exact q r u l st2 J I ⟨hl,by rw[tl];exact .inr rfl⟩
end
theorem mH{M:Wm}{h k:Nat}{x:AA}{m:Str×Au}(hm:M.hands[h]? =some m):{ M with hands:=M.hands.set h (m.1,m.2.set k x) }=setSlot M h k x:=by
 have e:=zu (k:=k) (x:=x) hm;show _={ M with hands:=_ };rw[show(M.hands.modify h λm=>(m.1,m.2.set k x))=M.hands.set h (m.1,m.2.set k x)from e]
def Pq(d:ie):Prop:=∃h s a bulk,d=.make h s a bulk
def Zan(d:ie):Prop:=∃h s t f,d=.get h s t f
def Zak(d:ie):Prop:=∃h t f s,d=.put h t f s
def PN(d:ie):Prop:=∃h s t,d=.copy h s t
def PL(d:ie):Prop:=∃h s,d=.drop h s
def PJ(d:ie):Prop:=∃h s g t,d=.give h s g t
def Eo(d:ie):Prop:=∃h t load,d=.write h t load
def Pn(d:ie):Prop:=∃h t,d=.read h t
def isName(d:ie):Prop:=∃h t word,d=.name h t word
def Pk(d:ie):Prop:=∃h s word,d=.seek h s word
section
variable {X:Cs}{H Hx:Hp}{T Tx:Tg}{s:Nat}{A Ax:Wa}{M M':Wm}{d:ie}{e:Ev}{wo:AI}{Q:VK}
theorem eO.free{s:Nat}{H Hx:Hp}{T Tx:Tg}{l:AI}(e:eO s H Hx T Tx)(h:Hx l=none):H l=none:=by
 cases z:H l with
 | none=>rfl
 | some o=>obtain⟨b,a⟩:=e.al l o z;rw[h]at a;cases a
theorem ev0(f:s≠0)(m:∀e M',dN M d=.ok (e,M')->∀H' T' h a,eO s H H' T T'->WJ X H' T' s h M'->h.wo=wo->EvN H H' T' s a e->Q (.ref a) H')(k:dN M d=.ok (e,M'))(hn:e.notes=[])(st:eO s H Hx T Tx)(j:WJ X Hx Tx s Ax M')(aw:Ax.wo=wo){l a:AI}(hl:Hx l=none)(i:upd Hx l (.lst []) a=none):
  Q (.ref a) (upd (upd Hx l (.lst [])) a (.tup [.str e.word,oV e.thing,.ref l])):=by
 have g:=aL hl (.lst []);have b:=aL i (.tup [.str e.word,oV e.thing,.ref l]);have c:=g.trans b;refine m e M' k _ Tx Ax a (st.trans (eO.same st.wt c)) (j.same c) aw ⟨l,⟨eO.free st hl,(rC st.wt f hl).2,(rC st.wt f (g.free i)).2⟩,aq,?_⟩;rw[hn];exact b _ _ aq
theorem ev1(i:s≠0){l a:AI}(b:H l=none/\TgO s (Tx l))(k:∀e M',dN M d=.ok (e,M')->∀H' T' f a,eO s H H' T T'->WJ X H' T' s f M'->f.wo=wo->EvN H H' T' s a e->Q (.ref a) H')(h:dN M d=.ok (e,M'))(st:eO s H Hx T Tx)(j:WJ X Hx Tx s Ax M')(aw:Ax.wo=wo)(hl:Hx l=some (.lst (e.notes.map V.int)))(g:Hx a=none):
  Q (.ref a) (upd Hx a (.tup [.str e.word,oV e.thing,.ref l])):=by
 have c:=aL g (.tup [.str e.word,oV e.thing,.ref l]);exact k e M' h _ Tx Ax a (st.trans (eO.same st.wt c)) (j.same c) aw ⟨l,⟨b.1,b.2,(rC st.wt i g).2⟩,aq,c _ _ hl⟩
end
theorem HY{M:Wm}{i:Int}{c c':Ce}(h:cellAt M i=some c)(hb:c'.birth=c.birth)(x:AA):jW (setCell M i c') x=jW M x:=by
 cases x with
 | none=>rfl
 | some y=>
  obtain⟨h0,h1⟩:=bK.mp h;show(cellAt (setCell M i c') y).map _=(cellAt M y).map _
  by_cases e:y=i
  ·subst e;rw[h,show cellAt (setCell M y c') y=some c' from bK.mpr ⟨h0,by show(M.cells.set _ _)[_]? =_;rw[List.getElem?_set_self (cG h1).1]⟩];show some c'.birth=some c.birth;rw[hb]
  ·have:cellAt (setCell M i c') y=cellAt M y:=by
    unfold cellAt setCell
    by_cases z:0<=y
    ·rw[if_pos z,if_pos z];show((M.cells.set _ _)[_]?).join=_;rw[List.getElem?_set_ne δ]
    ·rw[if_neg z,if_neg z]
   rw[this]
theorem Zh9{M:Wm}{y:AA}(x:AA):jW (bV M y).2 x=jW M x:=by
 cases y with
 | none=>rfl
 | some i=>
  unfold bV;dsimp only;cases hc:cellAt M i with
  | none=>rfl
  | some c=>
   dsimp only
   by_cases z:M.sw.phase="walk"/\c.tone≠M.sw.sense
   ·rw[if_pos z];have e:=HY (M:=M) (i:=i) (c:=c) (c':={ c with tone:=M.sw.sense }) hc rfl x;cases x with
    | none=>rfl
    | some y=>exact e
   ·rw[if_neg z]
theorem uV:∀{l:Au}{M:Wm} (x:AA),jW (aQ M l).2 x=jW M x
 | [],_,_=>rfl
 | y::l,M,x=>(uV (l:=l) (M:=(bV M y).2) x).trans (Zh9 x)
theorem Zle{b:Bool}{x:AA}:(if b=true then [oV x]else [])=(if b=true then [x]else []).map oV:=by cases b<;>rfl
section
variable {K:aC}{X:Cs}{H:Hp}{Q:VK}{E:XK}{n:ν}{bk ct:ν}{rf:Rf->AI}
theorem Zdy{wo dd:AI}(T:oH K X)(q:uF X rf PN wo dd H Q E):Nm K (jk X) (iu X) ξ [↑wo,↑dd,none,none] H:=by
 obtain⟨Tg,s,A,M,_,⟨h,sl,t,rfl⟩,w,f,j,rfl,od,⟨o1,o2⟩,hc,hg,r,hn,y,i⟩:=q;obtain⟨p,m,hp,hm,hs,hl,hd⟩:=j.handOf o2;obtain⟨u,b,_,e⟩:=Og o1;rw[hm]at b;cases b;unfold Nm;exists dd,_,1,_,rfl,rfl,cP.of od,rfl;exists _,_,rfl,Tg,s,A,M,h,p,j,rfl,rfl,hp;exists dd,_,3,_,rfl,rfl,cP.of od,rfl;refine fB (cC.of hd.o2) (fG (v:=oV (aO M h t)) (by rw[cg,hs];rfl)) ?_;exists dd,_,2,_,rfl,rfl,cP.of od,rfl;refine⟨p.2,_,_,sl,rfl,rfl,hd.o2,lz (by rw[aY];exact e),?_⟩;obtain⟨st1,c⟩:=j.slot w f (k:=sl) (x:=aO M h t) hp hm;rw[mH hm]at c;generalize upd H p.2 (.lst ((m.2.map oV).set sl (oV (aO M h t))))=o at st1 c ⊢;obtain⟨d1,ow⟩:=c.jb.ow;apply aJ ow T.cW T.RL bG ?_;exists _,_,rfl,aO M h t,rfl,Tg,s,A,_,c,rfl;rw[iY];apply⟨bF ζ,λl hl=>⟨bF ζ,λa g=>?_⟩⟩;exact ev0 f i (d:=.copy h sl t) rfl rfl st1 c rfl hl g
theorem Zdx{wo dd:AI}(T:oH K X)(q:uF X rf PL wo dd H Q E):Nk K (jk X) (iu X) ξ [↑wo,↑dd,none,none] H:=by
 obtain⟨Tg,s,A,M,_,⟨h,sl,rfl⟩,w,c,j,rfl,od,o1,hc,hg,i,hn,o,f⟩:=q;obtain⟨p,m,hp,hm,hs,hl,hd⟩:=j.handOf o1;unfold Nk;exists dd,_,1,_,rfl,rfl,cP.of od,rfl;exists _,_,rfl,Tg,s,A,M,h,p,j,rfl,rfl,hp;exists dd,_,2,_,rfl,rfl,cP.of od,rfl;refine fB (cC.of hd.o2) (fG (v:=oV (aO M h sl)) (by rw[cg,hs];rfl)) ?_;exists dd,_,2,_,rfl,rfl,cP.of od,rfl;refine⟨p.2,_,_,sl,rfl,rfl,hd.o2,lz (by rw[aY];exact hl),?_⟩;obtain⟨st1,b⟩:=j.slot w c (k:=sl) (x:=none) hp hm;rw[mH hm]at b;show bz _ _ _ (upd H p.2 (.lst ((m.2.map oV).set sl (oV none))));generalize upd H p.2 (.lst ((m.2.map oV).set sl (oV none)))=g at st1 b ⊢;obtain⟨d1,ow⟩:=b.jb.ow;apply aJ ow T.cW T.RL bG ?_;exists _,_,rfl,aO M h sl,rfl,Tg,s,A,_,b,rfl;rw[iY];apply⟨bF ζ,λl hl=>⟨bF ζ,λa e=>?_⟩⟩;exact ev0 c f (d:=.drop h sl) rfl rfl st1 b rfl hl e
theorem Zdw{wo dd:AI}(T:oH K X)(q:uF X rf PJ wo dd H Q E):Nj K (jk X) (mV X) (iu X) (Bm X) ξ [↑wo,↑dd,none,none,none,none] H:=by
 obtain⟨Tg,s,A,M,_,⟨h,sl,g,t,rfl⟩,w,u,j,rfl,od,⟨o1,o2⟩,hc,hg,I,hn,U,L⟩:=q;obtain⟨p,m,hp,hm,hs,hl,hd⟩:=j.handOf o1;obtain⟨r,J,f,c,N,y,z⟩:=j.handOf o2;unfold Nj;exists dd,_,1,_,rfl,rfl,cP.of od,rfl;exists dd,_,3,_,rfl,rfl,cP.of od,rfl;exists _,_,rfl,Tg,s,A,M,h,p,j,rfl,rfl,hp;exists dd,_,2,_,rfl,rfl,cP.of od,rfl;refine fB (cC.of hd.o2) (fG (v:=oV (aO M h sl)) (by rw[cg,hs];rfl)) ?_;exists _,_,rfl,Tg,s,A,M,g,r,j,rfl,rfl,f;exists dd,_,4,_,rfl,rfl,cP.of od,rfl;refine⟨r.2,_,_,t,rfl,rfl,z.o2,lz (by rw[aY];exact y),?_⟩;obtain⟨st1,l⟩:=j.slot w u (k:=t) (x:=aO M h sl) f c;rw[mH c]at l;generalize upd H r.2 (.lst ((J.2.map oV).set t (oV (aO M h sl))))=F at st1 l ⊢;apply⟨_,_,_,rfl,Tg,s,A,_,h,l,rfl,I,rfl,λO e=>?_⟩;rw[show(nP (setSlot M g t (aO M h sl)) && !cY (setSlot M g t (aO M h sl)) h)=(nP M && !cY M h)from rfl,Zle];generalize zz:upd F O _=H2;obtain⟨i,D⟩:=nwO e zz;apply⟨_,_,rfl,_,Tg,s,A,_,st1.wt.same i,u,l.same i,rfl,.inl ⟨D,st1.wt _ e⟩,by cases (nP M && !cY M h)<;>simp,hg,λR B S st3 o P b=>?_⟩;obtain⟨d1,ow⟩:=o.jb.ow;apply aJ ow T.cW T.RL bG ?_;exists _,_,rfl,aO M h sl,rfl,B,s,A,_,o,rfl;rw[uV,iY];apply⟨bF ζ,λa C=>?_⟩;exact ev1 u ⟨eO.free st1 (i.free b.1),b.2⟩ L (d:=.give h sl g t) rfl (st1.trans ((eO.same st1.wt i).trans st3)) o rfl P C
theorem Zdv{wo dd N:AI}(T:oH K X)(S:rf .full=N)(q:uF X rf Pq wo dd H Q E):Ni K X.H (Kc K X.C X.H N) (jk X) (iu X) E ξ [↑wo,↑dd,none,none,none,none] H:=by
 obtain⟨Tg,s,A,M,_,⟨h,sl,f,bulk,rfl⟩,w,F,j,rfl,od,⟨o1,m0,U,b0⟩,hc,hg,ht,hn,Y,hQ⟩:=q;obtain⟨p,m,hp,hm,hs,hl,hd⟩:=j.handOf o1;obtain⟨d1,ow⟩:=j.jb.ow;obtain⟨d2,os⟩:=j.js.os;obtain⟨th,tc,⟨d3,oh⟩,oc⟩:=j.jh;have hcs:A.cs.length<=900:=by rw[j.jc.lc];exact hc
 unfold Ni;exists dd,_,1,_,rfl,rfl,cP.of od,rfl;exists _,_,rfl,Tg,s,A,M,h,p,j,rfl,rfl,hp;exists dd,_,3,_,rfl,rfl,cP.of od,rfl;exists dd,_,4,_,rfl,rfl,cP.of od,rfl;apply aJ ow T.cW T.RL bG ?_;refine⟨A.hp,d3,_,rfl,oh,Ss,?_⟩;apply aJ ow T.cW T.Ve bw ?_;apply aJ os T.cS T.n1 kW ?_;apply⟨_,_,_,_,rfl,A.ca,d3,_,_,_,_,oh,oc,?_,by rw[aY];omega,m0,U,λhf H' sm=>?_,λhf O fa u I B P a1 W co=>?_⟩
 ·intro y hy;obtain⟨o,ho,rfl⟩:=List.mem_map.mp hy;cases o with
  | none=>exact .inl rfl
  | some g=>
   obtain⟨i,hi,L⟩:=List.getElem_of_mem ho;have e:=j.jc.ce i _ _ (bD hi) (bD (by rw[<- j.jc.lc];exact hi));rw[L]at e;cases t:M.cells[i]'(by rw[<- j.jc.lc];exact hi)with
   | none=>rw[t]at e;exact e.elim
   | some c=>
    rw[t]at e;obtain⟨_,_,⟨dx,o1⟩,_⟩:=(show CeO X.C H Tg s i g c from e);exact .inr ⟨g.1,X.C,dx,_,rfl,o1,T.c.dR,T.c.Lj⟩
 ·rw[<- S];refine Y .full ?_ H' sm;show(if _ then _ else _)=_;rw[if_neg δ]
 ·obtain⟨⟨dp,c1⟩,c2⟩:=co;have v:O≠fa:=lE c1 c2 a8;obtain⟨T1,st1,R⟩:=j.put w F (H':=u) (dx:=d3) (used':=M.used+(1+f+bulk)) (p:=O) (fa:=fa) (c:=⟨M.born+1,bulk,M.sw.sense,0,List.replicate f.toNat none⟩)
   (λb o hb n1 n2=>P b o hb (by simp[n1,n2])) a1 W I B v ⟨dp,c1⟩ (by rw[c2,List.map_replicate];rfl)
  have L:((A.cs.map pV).idxOf V.non:Int)=(gW M.cells:Nat):=by rw[(Zau Zk0 A.cs).1,j.jc.fst]
  ext;rw[L];refine⟨dd,_,2,_,rfl,rfl,cP.of (P _ _ od ?_),rfl,?_⟩
  ·intro z;rcases List.mem_cons.mp z with z | z
   ·rw[z,oh]at od;cases od
   ·rw[List.mem_singleton.mp z,oc]at od;cases od
  have D:=R.jd.hd h p m hp hm;refine⟨p.2,_,_,sl,rfl,rfl,D.o2,lz (by rw[aY];exact hl),?_⟩;obtain⟨st2,r⟩:=R.slot st1.wt F (k:=sl) (x:=some (gW M.cells:Nat)) hp hm;rw[mH (M:={ M with used:=M.used+(1+f+bulk),born:=M.born+1,cells:=jo M.cells ⟨M.born+1,bulk,M.sw.sense,0,List.replicate f.toNat none⟩ }) hm]at r;show bz _ _ _ (upd u p.2 (.lst ((m.2.map oV).set sl (oV (some (gW M.cells:Nat))))));generalize upd u p.2 (.lst ((m.2.map oV).set sl (oV (some (gW M.cells:Nat)))))=H2 at st2 r ⊢;obtain⟨d5,J⟩:=r.jb.ow;apply aJ J T.cW T.RL bG ?_;exists _,_,rfl,some (gW M.cells:Nat),rfl,T1,s,_,_,r,rfl;rw[iY];rw[show jW { M with used:=M.used+(1+f+bulk),born:=M.born+1,cells:=jo M.cells ⟨M.born+1,bulk,M.sw.sense,0,List.replicate f.toNat none⟩ } (some (gW M.cells:Nat))=some (M.born+1)from by
   show(cellAt _ _).map _=_;rw[vd];rfl]
  apply⟨bF ζ,λl hl=>⟨bF ζ,λa Z=>?_⟩⟩;exact ev0 F hQ (d:=.make h sl f bulk) (Zb4 δ) rfl (st1.trans st2) r rfl hl Z
end
theorem Zia{M:Wm}{h s t f:Nat}(e:cO M (aO M h t)=none):dN M (.get h s t f)=.error .empty:=by
 show(match aO M h t with | none=>_ | some x=>_)=_;cases hs:aO M h t with
 | none=>rfl
 | some x=>
  rw[hs]at e;show(match cellAt M x with | none=>_ | some c=>_)=_;rw[show cellAt M x=none from e]
theorem Zi8{M:Wm}{h s t f:Nat}(e:cO M (aO M h t)=none):dN M (.put h t f s)=.error .empty:=by
 show(match aO M h t with | none=>_ | some x=>_)=_;cases hs:aO M h t with
 | none=>rfl
 | some x=>
  rw[hs]at e;show(match cellAt M x with | none=>_ | some c=>_)=_;rw[show cellAt M x=none from e]
theorem Zb5{M:Wm}{h t:Nat}{l:Int}(e:cO M (aO M h t)=none):dN M (.write h t l)=.error .empty:=by
 show(match aO M h t with | none=>_ | some x=>_)=_;cases hs:aO M h t with
 | none=>rfl
 | some x=>
  rw[hs]at e;show(match cellAt M x with | none=>_ | some c=>_)=_;rw[show cellAt M x=none from e]
theorem Ze0{M:Wm}{h t:Nat}(e:cO M (aO M h t)=none):dN M (.read h t)=.error .empty:=by
 show(match aO M h t with | none=>_ | some x=>_)=_;cases hs:aO M h t with
 | none=>rfl
 | some x=>
  rw[hs]at e;show(match cellAt M x with | none=>_ | some c=>_)=_;rw[show cellAt M x=none from e]
theorem Ze1{M:Wm}{h t:Nat}{z:Str}(e:cO M (aO M h t)=none):dN M (.name h t z)=.error .empty:=by
 show(match aO M h t with | none=>_ | some x=>_)=_;cases hs:aO M h t with
 | none=>rfl
 | some x=>
  rw[hs]at e;show(match cellAt M x with | none=>_ | some c=>_)=_;rw[show cellAt M x=none from e]
theorem Zm9{M:Wm}{h s t f:Nat}{i:Int}{c:Ce}(a:aO M h t=some i)(d:cellAt M i=some c)(b:c.fl[f]? =none):dN M (.get h s t f)=.error .jB:=by
 show(match aO M h t with | none=>_ | some x=>_)=_;rw[a];show(match cellAt M i with | none=>_ | some c=>_)=_;rw[d];show(match c.fl[f]? with | none=>_ | some v=>_)=_;rw[b]
theorem Zm7{M:Wm}{h s t f:Nat}{i:Int}{c:Ce}(a:aO M h t=some i)(d:cellAt M i=some c)(b:c.fl[f]? =none):dN M (.put h t f s)=.error .jB:=by
 show(match aO M h t with | none=>_ | some x=>_)=_;rw[a];show(match cellAt M i with | none=>_ | some c=>_)=_;rw[d];show(match c.fl[f]? with | none=>_ | some v=>_)=_;rw[b]
theorem Zm8{M:Wm}{h s t f:Nat}{i:Int}{c:Ce}{v:AA}(a:aO M h t=some i)(d:cellAt M i=some c)(b:c.fl[f]? =some v):dN M (.get h s t f)=.ok (⟨"got",jW M v,[]⟩,setSlot M h s v):=by
 show(match aO M h t with | none=>_ | some x=>_)=_;rw[a];show(match cellAt M i with | none=>_ | some c=>_)=_;rw[d];show(match c.fl[f]? with | none=>_ | some v=>_)=_;rw[b]
def putL(M:Wm)(h s:Nat)(v:AA):Au:=(if old? M=true then [v]else [])++if (nP M && !cY M h)=true then [aO M h s]else []
theorem Zm6{M:Wm}{h s t f:Nat}{i:Int}{c:Ce}{v:AA}(a:aO M h t=some i)(d:cellAt M i=some c)(b:c.fl[f]? =some v):dN M (.put h t f s)=.ok (⟨"put",jW M v,(aQ (setCell M i { c with fl:=c.fl.set f (aO M h s) }) (putL M h s v)).1⟩,(aQ (setCell M i { c with fl:=c.fl.set f (aO M h s) }) (putL M h s v)).2):=by
 show(match aO M h t with | none=>_ | some x=>_)=_;rw[a];show(match cellAt M i with | none=>_ | some c=>_)=_;rw[d];show(match c.fl[f]? with | none=>_ | some v=>_)=_;rw[b];rfl
theorem Zdz{M:Wm}{h t:Nat}{l i:Int}{c:Ce}(a:aO M h t=some i)(b:cellAt M i=some c):dN M (.write h t l)=.ok (⟨"wrote",some c.load,[]⟩,setCell M i { c with load:=l }):=by
 show(match aO M h t with | none=>_ | some x=>_)=_;rw[a];show(match cellAt M i with | none=>_ | some c=>_)=_;rw[b]
theorem Zi7{M:Wm}{h t:Nat}{i:Int}{c:Ce}(a:aO M h t=some i)(b:cellAt M i=some c):dN M (.read h t)=.ok (⟨"read",some c.load,[]⟩,M):=by
 show(match aO M h t with | none=>_ | some x=>_)=_;rw[a];show(match cellAt M i with | none=>_ | some c=>_)=_;rw[b]
theorem Zi9{M:Wm}{h t:Nat}{z:Str}{i:Int}{c:Ce}(a:aO M h t=some i)(b:cellAt M i=some c):dN M (.name h t z)=.ok (⟨"named",some c.birth,[]⟩,{ M with names:=nF M.names z (i,c.birth) }):=by
 show(match aO M h t with | none=>_ | some x=>_)=_;rw[a];show(match cellAt M i with | none=>_ | some c=>_)=_;rw[b]
section
variable {X:Cs}{H H':Hp}{T T':Tg}{s:Nat}{A:Wa}{M:Wm}
theorem Zre{z:Str}{v:Int×Int}{t:AI}(d:NmO H T t (z,v)):∀{ns:AF}{names:List cy},Al (NmO H T) ns names->(∃b,(wO names ns).map (λkv=>if kv.1=Sum.inr z then(kv.1,V.ref t)else kv)=wO (names.map λm=>if m.1=z then(m.1,v)else m) b/\Al (NmO H T) b (names.map λm=>if m.1=z then(m.1,v)else m))/\
  ((wO names ns).any λkv=>decide (kv.1=Sum.inr z))=(names.any λm=>decide (m.1=z))/\wO names ns++[(Sum.inr z,V.ref t)]=wO (names++[(z,v)]) (ns++[t])/\Al (NmO H T) (ns++[t]) (names++[(z,v)]):=by
 intro ns names h
 induction h with
 | nil=>exact⟨⟨[],rfl,.nil⟩,rfl,rfl,.cons d .nil⟩
 | @cons a m ns names h1 _ j=>
  obtain⟨⟨b,c,f⟩,e3,g,i⟩:=j;refine⟨?_,?_,?_,.cons h1 i⟩
  ·by_cases e:m.1=z
   ·refine⟨t::b,?_,?_⟩
    ·show(if (Sum.inr m.1:Int ⊕ Str)=Sum.inr z then _ else _)::_=_;rw[if_pos (by rw[e]),List.map_cons,if_pos e];show _::_=(Sum.inr m.1,V.ref t)::wO _ b;rw[<- c];rfl
    ·rw[List.map_cons,if_pos e];exact .cons (by rw[e];exact d) f
   ·refine⟨a::b,?_,?_⟩
    ·show(if (Sum.inr m.1:Int ⊕ Str)=Sum.inr z then _ else _)::_=_;rw[if_neg (λw=>e (Sum.inr.inj w)),List.map_cons,if_neg e];show _::_=(Sum.inr m.1,V.ref a)::wO _ b;rw[<- c];rfl
    ·rw[List.map_cons,if_neg e];exact .cons h1 f
  ·show(decide ((Sum.inr m.1:Int ⊕ Str)=Sum.inr z) || (wO names ns).any _)=(decide (m.1=z) || names.any _);rw[e3];congr 1
   by_cases e:m.1=z<;>simp[e]
  ·show(Sum.inr m.1,V.ref a)::(wO names ns++_)=(Sum.inr m.1,V.ref a)::wO (names++_) (ns++_);rw[g]
theorem Zkk{ns:AF}{names:List cy}(h:Al (NmO H T) ns names):(wO names ns).length=names.length:=by
 induction h with
 | nil=>rfl
 | @cons a m ns names h1 _ b=>show(_::wO names ns).length=_;rw[List.length_cons,List.length_cons,b]
theorem WJ.named(j:WJ X H T s A M)(w:WT H T)(h0:s≠0){z:Str}{v:Int×Int}{t:AI}(r:NmO H T t (z,v)):∃a,eO s H bx T T/\
  WJ X bx T s { A with ns:=a } { M with names:=nF M.names z v }:=by
 obtain⟨tm,om,nms⟩:=j.jn;obtain⟨⟨n1,o,C⟩,e3,n,q⟩:=Zre r nms;have f:rY s (·=6) H bx T T:=rY.xQ tm;have i:∀{ns:AF}{names:List cy},Al (NmO H T) ns names->Al (NmO bx T) ns names:=λh=>h.mono (by rintro t m ⟨z1,z2⟩;exact⟨z1,lC h0 tm _ _ z2 z1⟩);have go:∀a,putK (wO M.names A.ns) (Sum.inr z) (.ref t)=wO (nF M.names z v) a->Al (NmO H T) a (nF M.names z v)->WJ X bx T s { A with ns:=a } { M with names:=nF M.names z v }:=λa l k=>by
  refine⟨?_,?_,⟨tm,by show upd _ A.nm _ A.nm=_;rw[aq,l],i k⟩,?_,j.jd.mv f λ_ _ _=>δ,j.jc.mv f λ_ _=>δ⟩
  ·obtain⟨c,e,g,d,x,p,u,B⟩:=j.jb.mv f (lC h0 tm) δ δ;exact⟨c,e,g,d,x,p,u,B⟩
  ·obtain⟨c,e,g,d⟩:=j.jh.mv f δ δ;exact⟨c,e,g,d⟩
  ·obtain⟨c,e,g,d⟩:=j.js.mv f δ δ;exact⟨c,e,g,d⟩
 by_cases b:(M.names.any λm=>decide (m.1=z))=true
 ·refine⟨n1,eO.upd w om (by rw[tm]),go n1 ?_ ?_⟩
  ·unfold putK nF;rw[if_pos (e3.trans b),if_pos b,o]
  ·unfold nF;rw[if_pos b];exact C
 ·refine⟨A.ns++[t],eO.upd w om (by rw[tm]),go _ ?_ ?_⟩
  ·unfold putK nF;rw[if_neg (λy=>b (e3.symm.trans y)),if_neg b,n]
  ·unfold nF;rw[if_neg b];exact q
end
section
variable {K:aC}{X:Cs}{H:Hp}{Q:VK}{E:XK}{n:ν}{bk ct:ν}{rf:Rf->AI}{CE CF CN:AI}
theorem Zi6{wo dd:AI}(T:oH K X)(u:rf .empty=CE)(o:rf .jB=CF)(q:uF X rf Zan wo dd H Q E):Uw K (jk X) (yD X CE CF) (iu X) E ξ [↑wo,↑dd,none,none,none,none] H:=by
 obtain⟨Tg,s,A,M,_,⟨h,sl,t,f,rfl⟩,w,z,j,rfl,od,⟨o1,o2⟩,hc,hg,J,hn,B,D⟩:=q;obtain⟨p,m,hp,hm,hs,hl,hd⟩:=j.handOf o1;unfold Uw;exists dd,_,1,_,rfl,rfl,cP.of od,rfl;exists dd,_,3,_,rfl,rfl,cP.of od,rfl;exists dd,_,4,_,rfl,rfl,cP.of od,rfl;apply⟨_,_,_,_,rfl,Tg,s,A,M,h,t,f,j,rfl,rfl,rfl,rfl,o2,λe=>?_,λi c g h0 y r=>?_,λi c L g h0 y C ce r=>?_⟩
 ·rw[<- u];exact B .empty (Zia e) H (bB.refl _)
 ·rw[<- o];exact B .jB (Zm9 g y r) H (bB.refl _)
 ·have hv:=bD r;apply fB (cC.of ce.o2) (fG (v:=oV (c.fl[f])) (by rw[cg,hv];rfl)) ?_;exists _,_,rfl,Tg,s,A,M,h,p,j,rfl,rfl,hp;exists dd,_,2,_,rfl,rfl,cP.of od,rfl;refine⟨p.2,_,_,sl,rfl,rfl,hd.o2,lz (by rw[aY];exact hl),?_⟩;obtain⟨st1,b⟩:=j.slot w z (k:=sl) (x:=c.fl[f]) hp hm;rw[mH hm]at b;generalize upd H p.2 (.lst ((m.2.map oV).set sl (oV c.fl[f])))=I at st1 b ⊢;obtain⟨d1,ow⟩:=b.jb.ow;apply aJ ow T.cW T.RL bG ?_;exists _,_,rfl,c.fl[f],rfl,Tg,s,A,_,b,rfl;rw[iY];apply⟨bF ζ,λl hl=>⟨bF ζ,λa F=>?_⟩⟩;exact ev0 z D (d:=.get h sl t f) (Zm8 g y hv) rfl st1 b rfl hl F
theorem Zi5{wo dd:AI}(T:oH K X)(L:rf .empty=CE)(B:rf .jB=CF)(q:uF X rf Zak wo dd H Q E):Uv K (jk X) (yD X CE CF) (mV X) (iu X) (Bm X) (QJ X) E ξ [↑wo,↑dd,none,none,none,none,none,none] H:=by
 obtain⟨Tg,s,A,M,_,⟨h,t,f,sl,rfl⟩,w,D,j,rfl,od,⟨o2,o1⟩,hc,hg,S,hn,V,hQ⟩:=q;obtain⟨p,m,hp,hm,hs,hl,hd⟩:=j.handOf o1;unfold Uv;exists dd,_,1,_,rfl,rfl,cP.of od,rfl;exists dd,_,3,_,rfl,rfl,cP.of od,rfl;exists dd,_,2,_,rfl,rfl,cP.of od,rfl;apply⟨_,_,_,_,rfl,Tg,s,A,M,h,t,f,j,rfl,rfl,rfl,rfl,o2,λe=>?_,λi c z h0 u r=>?_,λi c Y z h0 u F ce r=>?_⟩
 ·rw[<- L];exact V .empty (Zi8 e) H (bB.refl _)
 ·rw[<- B];exact V .jB (Zm7 z u r) H (bB.refl _)
 ·have hv:=bD r;apply fB (cC.of ce.o2) (fG (v:=oV (c.fl[f])) (by rw[cg,hv];rfl)) ?_;exists _,_,rfl,Tg,s,A,M,h,p,j,rfl,rfl,hp;exists dd,_,4,_,rfl,rfl,cP.of od,rfl;refine fB (cC.of hd.o2) (fG (v:=oV (aO M h sl)) (by rw[cg,hs];rfl)) ?_;exists Y.2,_,_,f,rfl,rfl,ce.o2,lz (by rw[aY];exact r);obtain⟨st1,g⟩:=j.field w D (k:=f) (x:=aO M h sl) F ce;have g:WJ X _ Tg s A (setCell M i { c with fl:=c.fl.set f (aO M h sl) }):=g;generalize upd H Y.2 (.lst ((c.fl.map oV).set f (oV (aO M h sl))))=H1 at st1 g ⊢;apply⟨_,_,rfl,Tg,s,A,_,g,rfl,S,λW J=>?_⟩;rw[show old? (setCell M i { c with fl:=c.fl.set f (aO M h sl) })=old? M from rfl,Zle];generalize zz:upd H1 W _=H2;obtain⟨I,g1⟩:=nwO J zz;apply⟨_,_,_,rfl,Tg,s,A,_,h,g.same I,rfl,S,rfl,λR P=>?_⟩;rw[show(nP (setCell M i { c with fl:=c.fl.set f (aO M h sl) }) && !cY (setCell M i { c with fl:=c.fl.set f (aO M h sl) }) h)=(nP M && !cY M h)from rfl,Zle];generalize zz:upd H2 R _=H3;obtain⟨y,g2⟩:=nwO P zz;apply⟨W,R,_,_,rfl,rfl,y _ _ g1,g2,?_,λU l=>?_⟩
  ·refine bF ?_;cases old? M<;>cases (nP M && !cY M h)<;>simp
  rw[<- List.map_append];generalize zz:upd H3 U _=H4;obtain⟨Z,N⟩:=nwO l zz;have N:H4 U=some (.lst ((putL M h sl c.fl[f]).map oV)):=N;have b:=I.trans (y.trans Z);apply⟨_,_,rfl,putL M h sl c.fl[f],Tg,s,A,_,st1.wt.same b,D,g.same b,rfl,.inl ⟨N,(st1.wt.same (I.trans y)) _ l⟩,?_,hg,λH5 T5 l5 O C g5 o=>?_⟩
  ·unfold putL;cases old? M<;>cases (nP M && !cY M h)<;>simp
  obtain⟨d1,ow⟩:=C.jb.ow;apply aJ ow T.cW T.RL bG ?_;exists _,_,rfl,c.fl[f],rfl,T5,s,A,_,C,rfl;rw[uV,HY (c':={ c with fl:=c.fl.set f (aO M h sl) }) u rfl];apply⟨bF ζ,λa ha=>?_⟩;exact ev1 D ⟨eO.free st1 (b.free o.1),o.2⟩ hQ (d:=.put h t f sl) (Zm6 z u hv) (st1.trans ((eO.same st1.wt b).trans O)) C rfl g5 ha
theorem Zb3{wo dd:AI}(T:oH K X)(g:rf .empty=CE)(q:uF X rf Eo wo dd H Q E):IK K (uE X CE) E ξ [↑wo,↑dd,none,none] H:=by
 obtain⟨Tg,s,A,M,_,⟨h,t,load,rfl⟩,w,m,j,rfl,od,o1,hc,hg,B,hn,u,r⟩:=q;unfold IK;exists dd,_,1,_,rfl,rfl,cP.of od,rfl;exists dd,_,2,_,rfl,rfl,cP.of od,rfl;apply⟨_,_,_,rfl,Tg,s,A,M,h,t,j,rfl,rfl,rfl,o1,λe=>?_,λi c k p h0 y f ce=>?_⟩
 ·rw[<- g];exact u .empty (Zb5 e) H (bB.refl _)
 ·obtain⟨t1,t2,⟨dx,b⟩,v⟩:=id ce;apply aJ b T.c.dR T.c.lF Aj ?_;exists dd,_,3,_,rfl,rfl,cP.of od,rfl;apply⟨k.1,X.C,dx,_,rfl,b,T.c.dR,T.c.lF,by show 5<1000;decide,?_⟩;rw[Qx];obtain⟨st1,o⟩:=j.cell w m (dx:=dx) (tone:=c.tone) (load:=load) f ce;generalize upd H k.1 (.ins X.C dx (jL c.birth c.bulk c.tone load k.2))=z at st1 o ⊢;apply⟨bF ζ,λl hl=>⟨bF ζ,λa x=>?_⟩⟩;exact ev0 m r (d:=.write h t load) (Zdz p y) rfl st1 o rfl hl x
theorem Zdt{wo dd:AI}(T:oH K X)(b:rf .empty=CE)(q:uF X rf Pn wo dd H Q E):Ng K (uE X CE) E ξ [↑wo,↑dd,none] H:=by
 obtain⟨Tg,s,A,M,_,⟨h,t,rfl⟩,w,k,j,rfl,od,o1,hc,hg,y,hn,p,o⟩:=q;unfold Ng;exists dd,_,1,_,rfl,rfl,cP.of od,rfl;exists dd,_,2,_,rfl,rfl,cP.of od,rfl;apply⟨_,_,_,rfl,Tg,s,A,M,h,t,j,rfl,rfl,rfl,o1,λe=>?_,λi c z g h0 v m ce=>?_⟩
 ·rw[<- b];exact p .empty (Ze0 e) H (bB.refl _)
 ·obtain⟨t1,t2,⟨x,f⟩,r⟩:=id ce;apply aJ f T.c.dR T.c.lF Aj ?_;apply⟨bF ζ,λl hl=>⟨bF ζ,λa u=>?_⟩⟩;exact ev0 k o (d:=.read h t) (Zi7 g v) rfl (eO.refl w) j rfl hl u
theorem Zdu{wo dd:AI}(T:oH K X)(o:rf .empty=CE)(q:uF X rf isName wo dd H Q E):Nh K (uE X CE) (iu X) E ξ [↑wo,↑dd,none,none,none] H:=by
 obtain⟨Tg,s,A,M,_,⟨h,t,z,rfl⟩,w,x,j,rfl,od,o1,hc,hg,O,hn,F,D⟩:=q;obtain⟨p,m,hp,hm,hs,hl,hd⟩:=j.handOf o1;unfold Nh;exists dd,_,1,_,rfl,rfl,cP.of od,rfl;exists dd,_,2,_,rfl,rfl,cP.of od,rfl;apply⟨_,_,_,rfl,Tg,s,A,M,h,t,j,rfl,rfl,rfl,o1,λe=>?_,λi c R u h0 L C ce=>?_⟩
 ·rw[<- o];exact F .empty (Ze1 e) H (bB.refl _)
 ·obtain⟨t1,t2,⟨N,r⟩,I⟩:=id ce;apply aJ r T.c.dR T.c.eN fV ?_;exists _,_,rfl,Tg,s,A,M,h,p,j,rfl,rfl,hp;apply fB (cC.of hd.o2) (fG (v:=oV (aO M h t)) (by rw[cg,hs];rfl)) ?_;rw[u];apply⟨bF ζ,λtp b=>?_⟩;generalize zz:upd H tp _=H1;obtain⟨f,k⟩:=nwO b zz;have k:H1 tp=some (.tup [.int i,.int c.birth]):=k;have g:=j.same f;have w1:=w.same f;obtain⟨d1,ow⟩:=g.jb.ow;apply aJ ow T.cW T.nWn jl ?_;exists dd,_,3,_,rfl,rfl,cP.of (f _ _ od),rfl;refine⟨_,_,rfl,Zuw g.jn.om (by rw[Zkk g.jn.nms];exact Nat.lt_of_le_of_lt hn ε),?_⟩;obtain⟨B,st2,y⟩:=g.named w1 x (z:=z) (v:=(i,c.birth)) (t:=tp) ⟨w _ b,k⟩;generalize upd H1 A.nm (.dK (putK (wO M.names A.ns) (Sum.inr z) (.ref tp)))=P at st2 y ⊢;apply⟨bF ζ,λl hl=>⟨bF ζ,λa J=>?_⟩⟩;exact ev0 x D (d:=.name h t z) (Zi9 u L) rfl ((eO.same w f).trans st2) y rfl hl J
theorem Zds{wo dd:AI}(T:oH K X)(C:rf .xT=CN)(q:uF X rf Pk wo dd H Q E):Nf K (jk X) (mV X) (Ak X CN) (iu X) E ξ [↑wo,↑dd,none,none] H:=by
 obtain⟨Tg,s,A,M,_,⟨h,sl,z,rfl⟩,w,v,j,rfl,od,o1,hc,hg,R,hn,N,L⟩:=q;obtain⟨p,m,hp,hm,hs,hl,hd⟩:=j.handOf o1;unfold Nf;exists dd,_,3,_,rfl,rfl,cP.of od,rfl;apply⟨_,_,rfl,Tg,s,A,M,j,rfl,λe=>?_,λg b e=>?_⟩
 ·rw[<- C];refine N .xT ?_ H (bB.refl _);show(match wF M.names z with | none=>_ | some (p,b)=>_)=_;rw[e]
 ·let x:AA:=if mj M g b=true then none else some g
  have ex:(if mj M g b=true then V.non else .int g)=oV x:=by
   show _=oV (if _ then _ else _);cases mj M g b<;>rfl
  rw[ex];have J:dN M (.seek h sl z)=.ok (⟨"sought",jW M x,(aQ (setSlot M h sl x) [x]).1⟩,(aQ (setSlot M h sl x) [x]).2):=by
   show(match wF M.names z with | none=>_ | some (p,b)=>_)=_;rw[e];dsimp only;cases f:mj M g b with
   | true=>
    have:x=none:=by show(if _ then _ else _)=_;rw[f];rfl
    rw[this];rfl
   | false=>
    have hx:x=some g:=by show(if _ then _ else _)=_;rw[f];rfl
    have:jW M (some g)=some b:=by
     unfold mj at f;show(cellAt M g).map _=_;cases o:cellAt M g with
     | none=>rw[o]at f;cases f
     | some c=>
      rw[o]at f;dsimp only at f
      by_cases y:c.birth=b
      ·rw[<- y];rfl
      ·rw[if_neg y]at f;cases f
    rw[hx,this];rfl
  clear_value x;exists dd,_,1,_,rfl,rfl,cP.of od,rfl;exists _,_,rfl,Tg,s,A,M,h,p,j,rfl,rfl,hp;exists dd,_,2,_,rfl,rfl,cP.of od,rfl;refine⟨p.2,_,_,sl,rfl,rfl,hd.o2,lz (by rw[aY];exact hl),?_⟩;obtain⟨st1,B⟩:=j.slot w v (k:=sl) (x:=x) hp hm;rw[mH hm]at B;generalize upd H p.2 (.lst ((m.2.map oV).set sl (oV x)))=I at st1 B ⊢;apply⟨bF ζ,λD l=>?_⟩;generalize zz:upd I D _=H2;obtain⟨r,u⟩:=nwO l zz;have u:H2 D=some (.lst ([x].map oV)):=u;apply⟨_,_,rfl,[x],Tg,s,A,_,st1.wt.same r,v,B.same r,rfl,.inl ⟨u,st1.wt _ l⟩,ζ,hg,λS F U st3 t O i=>?_⟩;obtain⟨d1,ow⟩:=t.jb.ow;apply aJ ow T.cW T.RL bG ?_;exists _,_,rfl,x,rfl,F,s,A,_,t,rfl;rw[uV,iY];apply⟨bF ζ,λa P=>?_⟩;exact ev1 v ⟨eO.free st1 (r.free i.1),i.2⟩ L (d:=.seek h sl z) J (st1.trans ((eO.same st1.wt r).trans st3)) t rfl O P
end
section
variable {K:aC}{X:Cs}{H:Hp}{Q:VK}{E:XK}{n:ν}{bk ct:ν}{rf:Rf->AI}{f1 f2 f3 f4 f5 f6 f7 f8 f9 f10:AI}
theorem Zux{wo dd:AI}(T:oH K X)(q:uF X rf eQ wo dd H Q E):
  Zjb K f1 f2 f3 f4 f5 f6 f7 f8 f9 f10 (cJ X rf PN) (cJ X rf PL) (cJ X rf Zan) (cJ X rf PJ) (cJ X rf Pq) (cJ X rf isName) (cJ X rf Zak) (cJ X rf Pn) (cJ X rf Pk) (cJ X rf Eo) E ξ [↑wo,↑dd,none] H:=by
 obtain⟨Tg,s,A,M,d,_,w,b,j,rfl,od,m,k,e,c,l,a,i⟩:=q;unfold Zjb;cases d with
 | make h o p bulk=>
  exists dd,_,0,_,rfl,rfl,cP.of od,rfl;refine⟨_,f5,rfl,rfl,?_⟩;apply jC (cJ X rf Pq) rfl ζ ?_;apply⟨_,_,rfl,Tg,s,A,M,_,⟨_,_,_,_,rfl⟩,w,b,j,rfl,od,m,k,e,c,l,a,i⟩
 | get h o t f=>
  exists dd,_,0,_,rfl,rfl,cP.of od,rfl;refine⟨_,f3,rfl,rfl,?_⟩;apply jC (cJ X rf Zan) rfl ζ ?_;apply⟨_,_,rfl,Tg,s,A,M,_,⟨_,_,_,_,rfl⟩,w,b,j,rfl,od,m,k,e,c,l,a,i⟩
 | put h t f o=>
  exists dd,_,0,_,rfl,rfl,cP.of od,rfl;refine⟨_,f7,rfl,rfl,?_⟩;apply jC (cJ X rf Zak) rfl ζ ?_;apply⟨_,_,rfl,Tg,s,A,M,_,⟨_,_,_,_,rfl⟩,w,b,j,rfl,od,m,k,e,c,l,a,i⟩
 | copy h o t=>
  exists dd,_,0,_,rfl,rfl,cP.of od,rfl;refine⟨_,f1,rfl,rfl,?_⟩;apply jC (cJ X rf PN) rfl ζ ?_;apply⟨_,_,rfl,Tg,s,A,M,_,⟨_,_,_,rfl⟩,w,b,j,rfl,od,m,k,e,c,l,a,i⟩
 | drop h o=>
  exists dd,_,0,_,rfl,rfl,cP.of od,rfl;refine⟨_,f2,rfl,rfl,?_⟩;apply jC (cJ X rf PL) rfl ζ ?_;apply⟨_,_,rfl,Tg,s,A,M,_,⟨_,_,rfl⟩,w,b,j,rfl,od,m,k,e,c,l,a,i⟩
 | give h o g t=>
  exists dd,_,0,_,rfl,rfl,cP.of od,rfl;refine⟨_,f4,rfl,rfl,?_⟩;apply jC (cJ X rf PJ) rfl ζ ?_;apply⟨_,_,rfl,Tg,s,A,M,_,⟨_,_,_,_,rfl⟩,w,b,j,rfl,od,m,k,e,c,l,a,i⟩
 | write h t load=>
  exists dd,_,0,_,rfl,rfl,cP.of od,rfl;refine⟨_,f10,rfl,rfl,?_⟩;apply jC (cJ X rf Eo) rfl ζ ?_;apply⟨_,_,rfl,Tg,s,A,M,_,⟨_,_,_,rfl⟩,w,b,j,rfl,od,m,k,e,c,l,a,i⟩
 | read h t=>
  exists dd,_,0,_,rfl,rfl,cP.of od,rfl;refine⟨_,f8,rfl,rfl,?_⟩;apply jC (cJ X rf Pn) rfl ζ ?_;apply⟨_,_,rfl,Tg,s,A,M,_,⟨_,_,rfl⟩,w,b,j,rfl,od,m,k,e,c,l,a,i⟩
 | name h t z=>
  exists dd,_,0,_,rfl,rfl,cP.of od,rfl;refine⟨_,f6,rfl,rfl,?_⟩;apply jC (cJ X rf isName) rfl ζ ?_;apply⟨_,_,rfl,Tg,s,A,M,_,⟨_,_,_,rfl⟩,w,b,j,rfl,od,m,k,e,c,l,a,i⟩
 | seek h o z=>
  exists dd,_,0,_,rfl,rfl,cP.of od,rfl;refine⟨_,f9,rfl,rfl,?_⟩;apply jC (cJ X rf Pk) rfl ζ ?_;apply⟨_,_,rfl,Tg,s,A,M,_,⟨_,_,_,rfl⟩,w,b,j,rfl,od,m,k,e,c,l,a,i⟩
end
inductive yt(X:Cs)(hp:AI)(sl:AI)(H:Hp)(Q:VK):Prop
 | mk (T s A M) (xs:Au) (_:WJ X H T s A M) (_:A.hp=hp) (_:H sl=some (.lst (xs.map oV))) (_:xs.length<=1000) (_:∀l,H l=none->Q (.ref l) (upd H l (.lst ((xs.map (jW M)).map oV)))):yt X hp sl H Q
def Ka(X:Cs):Sp:=λvs H Q E=>∃hp sl,vs=[.ref hp,.ref sl]/\yt X hp sl H Q
section
variable {K:aC}{X:Cs}{H:Hp}{Q:VK}{E:XK}{n:ν}{bk ct:ν}
theorem YB{hp sl:AI}(T:oH K X)(q:yt X hp sl H Q):
  CQ K (jk X) ξ [↑hp,↑sl] H:=by
 obtain⟨Tg,s,A,M,b,j,rfl,o,hx,q⟩:=q;unfold CQ;apply Zfo ?_;exists _,rfl,⟨_,cC.of o⟩;refine Zfj (cC.of o) (λi=>(b[i]?).map λx=>oV (jW M x)) (by rw[aY];omega) (λi x hx=>?_) ?_
 ·rw[cg]at hx;obtain⟨y,hy,rfl⟩:=Option.map_eq_some_iff.mp hx;refine⟨λq hq=>?_,λz q hz hq=>?_⟩
  ·rw[hy]at hq;exact Qd hq
  ·rw[hy]at hz;cases hz;walk_at"c";apply⟨_,_,rfl,y,rfl,Tg,s,A,M,j,rfl,hq⟩
 ·intro p hp;have:(List.range (b.map oV).length).filterMap (λi=>(b[i]?).map λx=>oV (jW M x))=(b.map (jW M)).map oV:=by
   rw[aY,List.map_map];clear q o hx
   induction b with
   | nil=>rfl
   | cons a l c=>
    rw[List.length_cons,List.range_succ_eq_map,List.filterMap_cons];simp only[List.getElem?_cons_zero,Option.map_some,List.map_cons,List.filterMap_map];congr 1
  rw[this];exact q p hp
end
inductive yx(CD:AI)(p:AI)(nm:Str)(many:Int)(H:Hp)(Q:VK):Prop
 | mk (dx) (_:H p=some (.ins CD dx [])) (_:0<=many) (_:many<=1000) (_:∀sa H',H sa=none->H' p=some (.ins CD dx (Zfq nm sa))->H' sa=some (.lst (List.replicate many.toNat V.non))->(∀b o,H b=some o->b≠p->H' b=some o)->Q .non H'):yx CD p nm many H Q
def Kf(b:AI):Sp:=λvs H Q E=>∃p nm a,vs=[.ref p,.str nm,.int a]/\yx b p nm a H Q
def yE(a:AI):Sp:=λvs H Q E=>∃p,vs=[.ref p]/\∃dx,H p=some (.ins a dx [])/\
 ∀gr H',H gr=none->H' p=some (.ins a dx (bQ 0 "rest" gr 0 0 0 0 0 0 0 .non))->H' gr=some (.lst [])->(∀b o,H b=some o->b≠p->H' b=some o)->Q .non H'
section
variable {K:aC}{X:Cs}{H:Hp}{Q:VK}{E:XK}{n:ν}{bk ct:ν}
theorem HQ{p:AI}{nm:Str}{a:Int}(T:oH K X)(q:yx X.D p nm a H Q):
  tG K ⟨λ_ H'=>Q .non H',Q,bk,ct⟩ [↑p,some (.str nm),some (.int a)] H:=by
 obtain⟨n,hp,h0,h1,h⟩:=q;unfold tG;exists p,X.D,n,[],rfl,hp,T.cD,T.nDn,ε;apply⟨ε,λj f=>?_⟩;apply⟨j,a,_,rfl,rfl,aq,δ,δ,?_,λl c=>?_⟩
 ·show 1 * a.toNat<=sizeLine;exact bF δ
 have d:p≠j:=aD aq f;have g:p≠l:=aD (by rw[aA d];exact aq) c;have i:H l=none:=by
  by_cases z:l=j
  ·rw[z,aq]at c;cases c
  ·rw[aA z,aA (λe=>g e.symm)]at c;exact c
 have m:H j=none:=by rw[aA (λe=>d e.symm)]at f;exact f
 apply⟨p,X.D,n,_,rfl,by rw[aA g,aA d];exact aq,T.cD,T.nDs,by show 1<1000;decide,?_⟩;refine h l _ i ?_ ?_ λb o hb r=>?_
 ·rw[aq,Zlq]
 ·rw[aA g.symm,aq];congr 2;generalize a.toNat=k
  induction k with
  | zero=>rfl
  | succ k s=>rw[List.replicate_succ,List.replicate_succ,List.flatten_cons,s];rfl
 ·rw[aA r,aA (aD hb i),aA (aD hb m),aA r];exact hb
theorem zg{p:AI}(T:oH K X)(q:∃dx,H p=some (.ins X.S dx [])/\
 ∀gr H',H gr=none->H' p=some (.ins X.S dx (bQ 0 "rest" gr 0 0 0 0 0 0 0 .non))->H' gr=some (.lst [])->(∀b o,H b=some o->b≠p->H' b=some o)->Q .non H'):
  oM K ⟨λ_ H'=>Q .non H',Q,bk,ct⟩ [↑p] H:=by
 obtain⟨dx,hp,h⟩:=q;unfold oM;exists p,X.S,dx,[],rfl,hp,T.cS,T.n1,ε;apply⟨p,X.S,dx,_,rfl,aq,T.cS,T.n2,by show 1<1000;decide,?_⟩;rw[dz];apply⟨ε,λgr c=>?_⟩;have a:p≠gr:=aD aq c;have d:H gr=none:=by rw[aA a.symm]at c;exact c
 apply⟨p,X.S,dx,_,rfl,by rw[aA a];exact aq,T.cS,T.n3,by show 2<1000;decide,?_⟩;apply⟨p,X.S,dx,_,rfl,aq,T.cS,T.n4,by show 3<1000;decide,?_⟩;rw[dz];apply⟨p,X.S,dx,_,rfl,aq,T.cS,T.n5,by show 4<1000;decide,?_⟩;rw[dz];apply⟨p,X.S,dx,_,rfl,aq,T.cS,T.n6,by show 5<1000;decide,?_⟩;rw[dz];apply⟨p,X.S,dx,_,rfl,aq,T.cS,T.n7,by show 6<1000;decide,?_⟩;rw[dz];apply⟨p,X.S,dx,_,rfl,aq,T.cS,T.n8,by show 7<1000;decide,?_⟩;rw[dz];apply⟨p,X.S,dx,_,rfl,aq,T.cS,T.n9,by show 8<1000;decide,?_⟩;rw[dz];apply⟨p,X.S,dx,_,rfl,aq,T.cS,T.n10,by show 9<1000;decide,?_⟩;rw[dz];apply⟨p,X.S,dx,_,rfl,aq,T.cS,T.n11,by show 10<1000;decide,?_⟩;rw[dz];refine h gr _ d ?_ ?_ λb o hb e=>?_
 ·rw[aq,Zgo]
 ·rw[aA a.symm,aq]
 ·rw[aA e,aA (aD hb d),aA e];exact hb
end
def wd(w:Int):Str:=if w=0 then "first" else if w=1 then "each" else "last"
def tlS(t:Int):Str:=if t=0 then "" else if t=1 then " old" else if t=2 then " new" else " old new"
def words(w t:Int):Str:=wd w++tlS t
structure KdO(X:Cs)(H:Hp)(ki lk:AI)(w t:Int):Prop where
 ok:∃dx,H ki=some (.ins X.K dx (Pb lk t))
 ol:∃dx,(w=0/\H lk=some (.ins X.F dx []))\/(w=1/\H lk=some (.ins X.E dx []))\/(w=2/\H lk=some (.ins X.L dx []))
theorem KdO.same{X:Cs}{H H':Hp}{ki lk:AI}{w t:Int}(k:KdO X H ki lk w t)(s:bB H H'):KdO X H' ki lk w t:=by
 obtain⟨⟨d1,a⟩,⟨d2,b⟩⟩:=k;refine⟨⟨d1,s _ _ a⟩,⟨d2,?_⟩⟩;rcases b with ⟨z,e⟩ | ⟨z,e⟩ | ⟨z,e⟩
 ·exact .inl ⟨z,s _ _ e⟩
 ·exact .inr (.inl ⟨z,s _ _ e⟩)
 ·exact .inr (.inr ⟨z,s _ _ e⟩)
def xV(room:Int)(hands:List (Str×Int))(w t:Int):Wm:=⟨room,0,0,[],hands.map λm=>(m.1,List.replicate m.2.toNat none),[],w,t,⟨0,"rest",[],0,0,0,0,0,0,0,.non⟩⟩
inductive vp(X:Cs)(p:AI)(room:Int)(ki:AI)(hl0:AI)(H:Hp)(Q:VK):Prop
 | mk (dx T s lk w t) (ts:AF) (hands) (_:H p=some (.ins X.W dx [])) (_:WT H T) (_:s≠0) (_:KdO X H ki lk w t) (_:T ki=(0,0)) (_:T lk=(0,0)) (_:ki≠p) (_:lk≠p) (_:H hl0=some (.lst (ts.map V.ref))) (_:Al (λ(t:AI) (m:Str×Int)=>H t=some (.tup [.str m.1,.int m.2])/\0<=m.2/\m.2<=1000) ts hands) (_:hands.length<=30) (_:∀H' T' A,(∀b o,H b=some o->b≠p->H' b=some o)->(∀b o,H b=some o->b≠p->T' b=T b)->WT H' T'->A.wo=p->WJ X H' T' s A (xV room hands w t)->Q .non H'):vp X p room ki hl0 H Q
def Gf(X:Cs):Sp:=λvs H Q E=>∃p room ki a,vs=[.ref p,.int room,.ref ki,.ref a]/\vp X p room ki a H Q
def yF(a:AI):Sp:=λvs H Q E=>∃p l t,vs=[.ref p,.ref l,.int t]/\∃dx,H p=some (.ins a dx [])/\∀H',H' p=some (.ins a dx (Pb l t))->(∀b o,H b=some o->b≠p->H' b=some o)->Q .non H'
def vB(v:V):Sp:=λvs H Q E=>∃a,vs=[.ref a]/\Q v H
section
variable {K:aC}{X:Cs}{H:Hp}{Q:VK}{E:XK}{n:ν}{bk ct:ν}
theorem HJ{p l:AI}{t:Int}(T:oH K X)(q:∃dx,H p=some (.ins X.K dx [])/\∀H',H' p=some (.ins X.K dx (Pb l t))->(∀b o,H b=some o->b≠p->H' b=some o)->Q .non H'):
  tD K ⟨λ_ H'=>Q .non H',Q,bk,ct⟩ [↑p,↑l,some (.int t)] H:=by
 obtain⟨dx,hp,h⟩:=q;unfold tD;exists p,X.K,dx,[],rfl,hp,T.cK,T.nKl,ε;apply⟨p,X.K,dx,_,rfl,aq,T.cK,T.nKt,by show 1<1000;decide,?_⟩;rw[dz];refine h _ ?_ λb o hb a=>?_
 ·rw[aq,Zla]
 ·rw[aA a];exact hb
theorem w0{w:Int}(a:w=0\/w=1\/w=2):words w 0=wd w:=by rcases a with rfl | rfl | rfl<;>decide +kernel
theorem w3{w:Int}(a:w=0\/w=1\/w=2):words w 3=(wd w++" old")++" new":=by rcases a with rfl | rfl | rfl<;>decide +kernel
end
structure Ex(p:AI)(H H':Hp)(T T':Tg):Prop where
 kp:∀b o,H b=some o->b≠p->H' b=some o
 al:∀b o,H b=some o->∃o',H' b=some o'
 tg:∀b o,H b=some o->T' b=T b
 wt:WT H' T'
section
variable {p:AI}{H H1 H2 H':Hp}{T T1 T2 T':Tg}
theorem Ex.trans(a:Ex p H H1 T T1)(b:Ex p H1 H2 T1 T2):Ex p H H2 T T2 where
 kp:=λx o h n=>b.kp x o (a.kp x o h n) n
 al:=λx o h=>by obtain⟨o1,h1⟩:=a.al x o h;exact b.al x o1 h1
 tg:=λx o h=>by obtain⟨o1,h1⟩:=a.al x o h;rw[b.tg x o1 h1,a.tg x o h]
 wt:=b.wt
theorem Ztd(w:WT H T)(al:∀b o,H b=some o->∃o',H' b=some o'):WT H' T:=λb h=>w b (by
 cases z:H b with
 | none=>rfl
 | some o=>obtain⟨o',e⟩:=al b o z;rw[h]at e;cases e)
theorem Zbt{a:AI}{o:HO}{v:Nat×Nat}(w:WT H T)(h:H a=some o):WT H (cN T a v):=λb hb=>by
 rw[g8 (λe=>by rw[e,h]at hb;cases hb)];exact w b hb
theorem Ex.Zij{o a:HO}(w:WT H T)(h:H p=some a):Ex p H (upd H p o) T T where
 kp:=λx u hx n=>by rw[aA n];exact hx
 al:=λx u hx=>by
  by_cases e:x=p
  ·exact⟨o,by rw[e,aq]⟩
  ·exact⟨u,by rw[aA e];exact hx⟩
 tg:=λ_ _ _=>rfl
 wt:=Ztd w λx u hx=>by
  by_cases e:x=p
  ·exact⟨o,by rw[e,aq]⟩
  ·exact⟨u,by rw[aA e];exact hx⟩
theorem Ex.news{vs:List (AI×(Nat×Nat))}(w:WT H T)(s:bB H H')(hn:∀v∈vs,H v.1=none/\∃o,H' v.1=some o):Ex p H H' T (vs.foldr cn T):=by
 have tg:∀b o,H b=some o->(vs.foldr cn T) b=T b:=by
  intro b o hb
  induction vs with
  | nil=>rfl
  | cons v vs a=>
   show cN _ v.1 v.2 b=_;rw[g8 (aD hb (hn v List.mem_cons_self).1)];exact a λu hu=>hn u (List.mem_cons_of_mem _ hu)
 refine⟨λb o hb _=>s _ _ hb,λb o hb=>⟨o,s _ _ hb⟩,tg,?_⟩;clear tg
 induction vs with
 | nil=>exact w.same s
 | cons v vs a=>
  obtain⟨o,c⟩:=(hn v List.mem_cons_self).2;exact Zbt (a λu hu=>hn u (List.mem_cons_of_mem _ hu)) c
end
section
variable {K:aC}{X:Cs}{H:Hp}{Q:VK}{E:XK}{n:ν}{bk ct:ν}
theorem FZ{p ki hl0:AI}{room:Int}(T:oH K X)(q:vp X p room ki hl0 H Q):
  qw K X.D X.H X.S (Kf X.D) (Kd X.H) (yE X.S) ⟨λ_ H'=>Q .non H',Q,bk,ct⟩ [↑p,some (.int room),↑ki,↑hl0] H:=by
 obtain⟨f,T0,s,lk,w,t,ts,hands,hp,wt0,s0,kd,tki,tlk,nki,U,oh0,al,hn,hQ⟩:=q;have x0:WT H (cN T0 p (s,0)):=Zbt wt0 hp;have tp:cN T0 p (s,0) p=(s,0):=cH;have Y:∀b o,H b=some o->b≠p->cN T0 p (s,0) b=T0 b:=λb _ _ hb=>g8 hb;generalize hT:cN T0 p (s,0)=Ta at x0 tp Y;unfold qw;ext;intro hq dh nh ndh neh;refine⟨hq,room,rfl,dh,aq,λca H1 l L J k1=>⟨rfl,?_⟩⟩;have Zrj:H ca=none:=by
  by_cases z:ca=hq
  ·rw[z,aq]at l;cases l
  ·rw[aA z]at l
   by_cases y:ca=dh
   ·rw[y,aq]at l;cases l
   ·rw[aA y]at l;exact l
 have sm1:bB H H1:=λb o hb=>k1 b o (by rw[aA (aD hb nh),aA (aD hb ndh)];exact hb) (aD hb nh);have e1:Ex p H H1 Ta _:=Ex.news (vs:=[(hq,(s,1)),(ca,(s,2))]) x0 sm1 (by
  intro v hv;simp only[List.mem_cons,List.not_mem_nil,or_false]at hv;rcases hv with rfl | rfl
  ·exact⟨nh,_,L⟩
  ·exact⟨Zrj,_,J⟩)
 have nhc:hq≠ca:=lE L J a8;have th1:([(hq,(s,1)),(ca,(s,2))].foldr cn Ta) hq=(s,1):=cH;have tc1:([(hq,(s,1)),(ca,(s,2))].foldr cn Ta) ca=(s,2):=(g8 nhc.symm).trans cH;generalize ([(hq,(s,1)),(ca,(s,2))]:List (AI×(Nat×Nat))).foldr cn Ta=Tb at e1 th1 tc1;have hp1:=sm1 _ _ hp;have nph:hq≠p:=λz=>by rw[z,hp]at nh;cases nh
 have npc:ca≠p:=λz=>by rw[z,hp]at Zrj;cases Zrj
 clear k1 l;exists p,X.W,f,[],rfl,hp1,T.cW,T.RL,ε;have e2:=e1.trans (Ex.Zij (o:=.ins X.W f bf) e1.wt hp1);have g2:upd H1 p (.ins X.W f bf) p=some (.ins X.W f bf):=aq;have L:=(aA (o:=.ins X.W f bf) nph).trans L;have J:=(aA (o:=.ins X.W f bf) npc).trans J;generalize upd H1 p (.ins X.W f bf)=H2 at e2 g2 L J ⊢;apply⟨p,X.W,f,_,rfl,g2,T.cW,T.nWk,by show 1<1000;decide,?_⟩;have e3:=e2.trans (Ex.Zij (o:=.ins X.W f (bL "kind" (.ref ki) bf)) e2.wt g2);have g3:upd H2 p (.ins X.W f (bL "kind" (.ref ki) bf)) p=some (.ins X.W f (bL "kind" (.ref ki) bf)):=aq;have L:=(aA (o:=.ins X.W f (bL "kind" (.ref ki) bf)) nph).trans L;have J:=(aA (o:=.ins X.W f (bL "kind" (.ref ki) bf)) npc).trans J;generalize upd H2 p (.ins X.W f (bL "kind" (.ref ki) bf))=H3 at e3 g3 L J ⊢;generalize O:(bL "kind" (.ref ki) bf)=u at g3 ⊢;have lF3:u.length=2:=by rw[<- O];rfl
 have M:H3 hl0=some (.lst cf):=e3.kp _ _ oh0 (λz=>by rw[z,hp]at oh0;cases oh0);have ltl:ts.length=hands.length:=al.length;have Zvf:∀(i:Nat) a,ts[i]? =some a->∃m,hands[i]? =some m/\H3 a=some (.tup [.str m.1,.int m.2])/\0<=m.2/\m.2<=1000:=λi a ha=>by
  have hl:i<hands.length:=by rw[<- ltl];exact(cG ha).1
  obtain⟨a',ha',z1,E,z3⟩:=al.get (bD hl);rw[ha]at ha';cases ha';exact⟨_,bD hl,e3.kp _ _ z1 (λz=>by rw[z,hp]at z1;cases z1),E,z3⟩
 have lo:=e3.wt;apply⟨_,rfl,⟨_,cC.of M⟩,Zfi ?_⟩;refine⟨λi m ys Hx=>i<=ts.length/\m=ts.length - i/\∃(hs:List (AI×AI)) (Tx:Tg),ys=hs.map (λq=>V.ref q.1)/\hs.length=i/\bB H3 Hx/\Ex p H3 Hx Tb Tx/\∀(j:Nat) q m,hs[j]? =some q->hands[j]? =some m->HdO X.D Hx Tx s j q (m.1,List.replicate m.2.toNat none)/\q.1≠p/\q.2≠p,
  ⟨ts.length,Nat.zero_le _,rfl,[],Tb,rfl,rfl,bB.refl _,⟨λ_ _ h _=>h,λ_ o h=>⟨o,h⟩,λ_ _ _=>rfl,lo⟩,λj q m e=>by simp at e⟩,?_⟩
 rintro i m ys Hx ⟨hi,rfl,hs,Tx,rfl,hl,sx,ex,hds⟩
 by_cases hk:i=ts.length
 ·refine .inl ⟨⟨_,cC.of (sx _ _ M),by rw[aY];omega⟩,λd I=>?_⟩;have Zzc:H3 d=none:=sx.free I;have s4:=aL I (.lst (hs.map λq=>V.ref q.1));have e4:Ex p Hx _ Tx _:=Ex.news (p:=p) (vs:=[(d,(s,5))]) ex.wt s4 (by
   intro v hv;rw[List.mem_singleton.mp hv];exact⟨I,_,aq⟩)
  have t4:([(d,(s,5))].foldr cn Tx) d=(s,5):=cH;have o4:upd Hx d (.lst (hs.map λq=>V.ref q.1)) d=some (.lst (hs.map λq=>V.ref q.1)):=aq;have B:=sx _ _ g3;have nhp:d≠p:=λz=>by rw[z,B]at I;cases I
  have hp4:=s4 _ _ B;generalize upd Hx d (.lst (hs.map λq=>V.ref q.1))=H4 at s4 e4 o4 hp4 ⊢;generalize ([(d,(s,5))]:List (AI×(Nat×Nat))).foldr cn Tx=T4 at e4 t4;apply⟨p,X.W,f,_,rfl,hp4,T.cW,T.nWd,by rw[lF3];decide,?_⟩;have e5:=Ex.Zij (p:=p) (o:=.ins X.W f (bL "hands" (.ref d) u)) e4.wt hp4;have hp5:upd H4 p (.ins X.W f (bL "hands" (.ref d) u)) p=some (.ins X.W f (bL "hands" (.ref d) u)):=aq;generalize upd H4 p (.ins X.W f (bL "hands" (.ref d) u))=H5 at e5 hp5 ⊢;ext;intro nm Z;have nnp:nm≠p:=λz=>by rw[z,hp5]at Z;cases Z
  have s6:=aL Z (.dK []);have e6:Ex p H5 _ T4 _:=Ex.news (p:=p) (vs:=[(nm,(s,6))]) e5.wt s6 (by
   intro v hv;rw[List.mem_singleton.mp hv];exact⟨Z,_,aq⟩)
  have t6:([(nm,(s,6))].foldr cn T4) nm=(s,6):=cH;have o6:upd H5 nm (.dK []) nm=some (.dK []):=aq;have hp6:=s6 _ _ hp5;generalize upd H5 nm (.dK [])=H6 at s6 e6 o6 hp6 ⊢;generalize ([(nm,(s,6))]:List (AI×(Nat×Nat))).foldr cn T4=T6 at e6 t6;apply⟨p,X.W,f,_,rfl,hp6,T.cW,T.nWn,by rw[<- O];show 3<1000;decide,?_⟩;have e7:=Ex.Zij (p:=p) (o:=.ins X.W f bg) e6.wt hp6;have R:upd H6 p (.ins X.W f bg) p=some (.ins X.W f bg):=aq;generalize upd H6 p (.ins X.W f bg)=H7 at e7 R ⊢;ext;intro sw ds C nds nes;refine⟨sw,rfl,ds,aq,λgr H8 n b1 b2 k8=>⟨rfl,?_⟩⟩;have Zrg:H7 gr=none:=by
   by_cases z:gr=sw
   ·rw[z,aq]at n;cases n
   ·rw[aA z]at n
    by_cases y:gr=ds
    ·rw[y,aq]at n;cases n
    ·rw[aA y]at n;exact n
  have s8:bB H7 H8:=λb o hb=>k8 b o (by rw[aA (aD hb C),aA (aD hb nds)];exact hb) (aD hb C);have e8:Ex p H7 H8 T6 _:=Ex.news (p:=p) (vs:=[(sw,(s,7)),(gr,(s,8))]) e7.wt s8 (by
   intro v hv;simp only[List.mem_cons,List.not_mem_nil,or_false]at hv;rcases hv with rfl | rfl
   ·exact⟨C,_,b1⟩
   ·exact⟨Zrg,_,b2⟩)
  have nsg:sw≠gr:=lE b1 b2 a8;have ts8:([(sw,(s,7)),(gr,(s,8))].foldr cn T6) sw=(s,7):=cH;have tg8:([(sw,(s,7)),(gr,(s,8))].foldr cn T6) gr=(s,8):=(g8 nsg.symm).trans cH;generalize ([(sw,(s,7)),(gr,(s,8))]:List (AI×(Nat×Nat))).foldr cn T6=T8 at e8 ts8 tg8;have hp8:=s8 _ _ R;have nsp:sw≠p:=λz=>by rw[z,R]at C;cases C
  have ngp:gr≠p:=λz=>by rw[z,R]at Zrg;cases Zrg
  clear k8 n;apply⟨p,X.W,f,_,rfl,hp8,T.cW,T.Ve,by rw[<- O];show 4<1000;decide,?_⟩;have e9:=Ex.Zij (p:=p) (o:=.ins X.W f (bL "sweeper" (.ref sw) bg)) e8.wt hp8;have hp9:upd H8 p (.ins X.W f (bL "sweeper" (.ref sw) bg)) p=some (.ins X.W f (wX hq ki d nm sw)):=by
   rw[aq,<- O,Zgg]
  generalize upd H8 p (.ins X.W f (bL "sweeper" (.ref sw) bg))=H9 at e9 hp9 ⊢;have N:=e9;have f69:=e7.trans (e8.trans e9);have f49:=e5.trans (e6.trans f69);have A:=e4.trans f49;have F:=ex.trans A;have g:=e3.trans F;obtain⟨⟨dk,ok⟩,⟨dl,ol⟩⟩:=kd;have hlk:∃o,H lk=some o:=by
   rcases ol with ⟨_,z⟩ | ⟨_,z⟩ | ⟨_,z⟩
   ·exact⟨_,z⟩
   ·exact⟨_,z⟩
   ·exact⟨_,z⟩
  obtain⟨olk,elk⟩:=hlk;refine hQ H9 T8 ⟨p,hq,ca,ki,lk,d,nm,sw,gr,hs,[],[]⟩ g.kp (λb o hb nb=>(g.tg b o hb).trans (Y b o hb nb)) g.wt rfl ⟨⟨(g.tg _ _ hp).trans tp,(g.tg _ _ ok).trans ((Y _ _ ok nki).trans tki),(g.tg _ _ elk).trans ((Y _ _ elk U).trans tlk),(f49.tg _ _ o4).trans t4,⟨f,hp9⟩,⟨dk,g.kp _ _ ok nki⟩,⟨dl,?_⟩,f49.kp _ _ o4 nhp⟩,
   ⟨(F.tg _ _ L).trans th1,(F.tg _ _ J).trans tc1,⟨dh,F.kp _ _ L nph⟩,F.kp _ _ J npc⟩,⟨(f69.tg _ _ o6).trans t6,f69.kp _ _ o6 nnp,.nil⟩,
   ⟨(N.tg _ _ b1).trans ts8,(N.tg _ _ b2).trans tg8,⟨ds,N.kp _ _ b1 nsp⟩,N.kp _ _ b2 ngp⟩,⟨?_,by show hs.length<=30;rw[hl,hk,ltl];exact hn,?_⟩,⟨rfl,λi q c z=>by simp at z⟩⟩
  ·rcases ol with ⟨z,y⟩ | ⟨z,y⟩ | ⟨z,y⟩
   ·exact .inl ⟨z,g.kp _ _ y U⟩
   ·exact .inr (.inl ⟨z,g.kp _ _ y U⟩)
   ·exact .inr (.inr ⟨z,g.kp _ _ y U⟩)
  ·show hs.length=(hands.map _).length;rw[aY,hl,hk,ltl]
  ·intro j q m z1 E;have E:(hands.map λm=>(m.1,List.replicate m.2.toNat none))[j]? =some m:=E;rw[cg]at E;obtain⟨m0,y1,rfl⟩:=Option.map_eq_some_iff.mp E;obtain⟨⟨u1,u2,⟨du,u3⟩,u4⟩,v1,v2⟩:=hds j q m0 z1 y1;exact⟨(A.tg _ _ u3).trans u1,(A.tg _ _ u4).trans u2,⟨du,A.kp _ _ u3 v1⟩,A.kp _ _ u4 v2⟩
 ·have P:i<ts.length:=δ
  refine .inr ⟨⟨_,_,cC.of (sx _ _ M),by rw[cg,bD P];rfl⟩,?_,λx H' y=>?_⟩
  ·rw[aY,hl];exact Nat.lt_of_lt_of_le P (bF δ)
  obtain⟨y1,y2⟩:=y;subst y1;have ey:=y2 _ (cC.of (sx _ _ M));rw[cg,bD P]at ey;have ey:x=.ref ts[i]:=(Option.some.inj ey).symm;subst ey;obtain⟨m,hm,ot,m0,m1⟩:=Zvf i _ (bD P);refine Qd (Zdb ⟨ts[i],.str m.1,.int m.2,_,rfl,cP.of (sx _ _ ot),?_⟩);walk_at"c";ext;intro q1 dq nq ndq neq;refine⟨q1,m.1,m.2,rfl,dq,aq,m0,m1,λsa Hy r b1 b2 k=>⟨rfl,?_⟩⟩;have Zrb:H' sa=none:=by
   by_cases z:sa=q1
   ·rw[z,aq]at r;cases r
   ·rw[aA z]at r
    by_cases y:sa=dq
    ·rw[y,aq]at r;cases r
    ·rw[aA y]at r;exact r
  have sy:bB H' Hy:=λb o hb=>k b o (by rw[aA (aD hb nq),aA (aD hb ndq)];exact hb) (aD hb nq);have ey:Ex p H' Hy Tx _:=Ex.news (p:=p) (vs:=[(q1,(s,20+2 * i)),(sa,(s,21+2 * i))]) ex.wt sy (by
   intro v hv;simp only[List.mem_cons,List.not_mem_nil,or_false]at hv;rcases hv with rfl | rfl
   ·exact⟨nq,_,b1⟩
   ·exact⟨Zrb,_,b2⟩)
  have nqs:q1≠sa:=lE b1 b2 a8;have B:=sx _ _ g3;refine⟨ts.length - br,δ,δ,rfl,hs++[(q1,sa)],_,by rw[List.map_append];rfl,by rw[List.length_append,hl];rfl,sx.trans sy,ex.trans ey,λj q m' z1 E=>?_⟩
  by_cases hj:j<hs.length
  ·rw[List.getElem?_append_left hj]at z1;obtain⟨⟨u1,u2,⟨du,u3⟩,u4⟩,v1,v2⟩:=hds j q m' z1 E;exact⟨⟨(ey.tg _ _ u3).trans u1,(ey.tg _ _ u4).trans u2,⟨du,sy _ _ u3⟩,sy _ _ u4⟩,v1,v2⟩
  ·have hj':=(cG z1).1;rw[List.length_append,List.length_singleton]at hj';have ej:j=hs.length:=δ
   subst ej;rw[List.getElem?_append_right υ,Nat.sub_self]at z1;cases z1;rw[hl]at E ⊢;rw[hm]at E;cases E;exact⟨⟨cH,(g8 nqs.symm).trans cH,⟨dq,b1⟩,by rw[b2,List.map_replicate];rfl⟩,(λz=>by rw[show q1=p from z,B]at nq;cases nq),(λz=>by rw[show sa=p from z,B]at Zrb;cases Zrb)⟩
end
section
variable {K:aC}{X:Cs}{H:Hp}{Q:VK}{E:XK}{T:Tg}{s:Nat}{A:Wa}{M:Wm}
theorem Zi0{i:Nat}{c:Ce}(j:WJ X H T s A M)(w:WT H T)(h0:s≠0)(hc:M.cells[i]? =some (some c))
  (k:∀H' l,eO s H H' T T->WJ X H' T s l { M with used:=M.used - (1+c.fl.length+c.bulk),cells:=M.cells.set i none }->l.wo=A.wo->Q (.int c.birth) H'):
  yG X.C X.H [.ref A.hp,.int i] H Q E:=by
 obtain⟨th,tc,⟨g,oh⟩,oc⟩:=j.jh;obtain⟨h,d,ce⟩:=j.jc.at hc;obtain⟨_,_,⟨n,o1⟩,a⟩:=id ce;have hl:=(cG hc).1;refine⟨A.hp,i,rfl,A.ca,g,M.room,M.used,M.born,A.cs.map pV,h.1,h.2,c.birth,c.bulk,c.tone,c.load,c.fl.map oV,δ,oh,oc,by rw[Int.toNat_natCast,cg,d];rfl,⟨⟨n,o1⟩,a⟩,?_⟩;rw[Int.toNat_natCast,aY];have e:A.hp≠A.ca:=lE oh oc a8;obtain⟨f,m⟩:=j.back w h0 (i:=i) (used':=M.used - (1+c.fl.length+c.bulk)) (by rw[j.jc.lc];exact hl) (upd (upd H A.hp (.ins X.H g (iV M.room A.ca (M.used - (1+c.fl.length+c.bulk)) M.born))) A.ca (.lst ((A.cs.map pV).set i V.non)))
  (λb o hb n1 n2=>by rw[aA n2,aA n1];exact hb) (by rw[aA e];exact aq) aq
 exact k _ _ f m rfl
end
def heldOf(M:Wm):List Au:=M.hands.map (·.2)
inductive Zed(X:Cs)(wo:AI)(H:Hp)(Q:VK):Prop
 | mk (T s A M) (_:WJ X H T s A M) (_:A.wo=wo) (_:M.hands.length<=1000) (_:∀(l:AI) (ls:AF) H',bB H H'->H l=none->H' l=some (.lst (ls.map V.ref))->ls.length=(heldOf M).length->ls.Nodup->(∀r∈ls,H r=none)->l∉ls->(∀(j:Nat) r x,ls[j]? =some r->(heldOf M)[j]? =some x->H' r=some (.lst (x.map oV)))->Q (.ref l) H'):Zed X wo H Q
def Zmq(X:Cs):Sp:=λvs H Q E=>∃wo,vs=[.ref wo]/\Zed X wo H Q
section
variable {K:aC}{X:Cs}{H:Hp}{Q:VK}{E:XK}{n:ν}{bk ct:ν}
theorem Zot{wo:AI}(T:oH K X)(q:Zed X wo H Q):
  W0 K ξ [↑wo] H:=by
 obtain⟨Tg,s,A,M,j,rfl,hl,q⟩:=q;obtain⟨d,ow⟩:=j.jb.ow;unfold W0;apply Zfo ?_;apply aJ ow T.cW T.nWd dO ?_;have l5:=j.jd.l5;refine⟨_,rfl,⟨_,cC.of j.jb.on⟩,?_⟩;refine Zl8 (cC.of j.jb.on) (by rw[aY];omega) (λi r u=>∃x,(heldOf M)[i]? =some x/\u r=some (.lst (x.map oV))) (by rintro _ _ _ _ ⟨x,e,z⟩ s;exact⟨x,e,s _ _ z⟩) (by rintro _ _ _ ⟨_,_,z⟩;exact⟨_,z⟩) (λx g q hq=>Qd hq) (λi x g hi a B hq=>?_) ?_
 ·rw[cg]at hi;obtain⟨p,hp,rfl⟩:=Option.map_eq_some_iff.mp hi;have t:=j.same a;obtain⟨m,hm,hd⟩:=t.hand hp;obtain⟨d,o1⟩:=hd.o1;walk_at"c";apply aJ o1 T.cD T.nDs pX ?_;apply Li (cC.of hd.o2) λl hl=>?_;exact hq l _ (aL hl _) hl ⟨_,by unfold heldOf;rw[cg,hm];rfl,aq⟩
 ·intro rs w a hl nd h hr p hp;have b:=aL hp (.lst (rs.map V.ref));refine q p rs _ (a.trans b) (a.free hp) aq ?_ nd h dB λo r x f v=>?_
  ·rw[hl,aY];unfold heldOf;rw[aY,j.jd.lh]
  ·obtain⟨k,hk,e⟩:=List.getElem_of_mem z;obtain⟨_,_,c⟩:=hr k p (by rw[bD hk,e]);rw[hp]at c;cases c
  ·obtain⟨y,e3,z⟩:=hr o r f;rw[v]at e3;cases e3;exact b _ _ z
end
def gP(w:Int)(h:Nat):Int:=if w=0 then 2 ^ h - 1 else 0
def jA(M:Wm):Wm:={ M with sw:={ M.sw with sense:=1 - M.sw.sense,phase:="walk",grey:=[],looked:=gP M.w M.hands.length,turn:=M.sw.turn+1,walks:=0,looks:=0,passes:=0 } }
def QT:Sp:=λvs H Q E=>∃h,vs=[.int h]/\0<=h/\h<=30/\Q (.int (2 ^ h.toNat - 1)) H
def vC(k:Nat):Sp:=λvs H Q E=>∃a h,vs=[.ref a,.int h]/\0<=h/\h<=30/\Q (.int (if k=0 then 2 ^ h.toNat - 1 else 0)) H
inductive Y0(X:Cs)(wo:AI)(H:Hp)(Q:VK):Prop
 | mk (T s A M) (_:WT H T) (_:s≠0) (_:WJ X H T s A M) (_:A.wo=wo) (_:∀H' T' A',eO s H H' T T'->WJ X H' T' s A' (jA M)->A'.wo=wo->Q .non H'):Y0 X wo H Q
def Zgd(X:Cs):Sp:=λvs H Q E=>∃wo,vs=[.ref wo]/\Y0 X wo H Q
section
variable {X:Cs}{H H':Hp}{T T':Tg}{s:Nat}{A:Wa}{M:Wm}
theorem WJ.Zo8(j:WJ X H T s A M)(w:WT H T)(h0:s≠0){dx l:AI}(S:Sw)(hl:H l=none)(m:S.grey=[]):
  eO s H bv T (cN T l (s,8))/\
  WJ X bv (cN T l (s,8)) s { A with gr:=l } { M with sw:=S }:=by
 obtain⟨ts,tg,⟨dd,os⟩,og⟩:=id j.js;have e:l≠A.sw:=(aD os hl).symm;have w1:WT eP (cN T l (s,8)):=Zbt (w.same (aL hl _)) aq;have st1:eO s H eP T (cN T l (s,8)):=⟨λb o h _=>(aL hl _) _ _ h,λb o h=>⟨o,(aL hl _) _ _ h⟩,λb o h=>g8 (aD h hl),w1⟩;have c:WJ X eP (cN T l (s,8)) s A M:=j.fresh hl;obtain⟨a,C,⟨x,d⟩,E⟩:=id c.js;refine⟨st1.trans (eO.upd w1 d (by rw[a])),?_⟩;have f:rY s (·=7) eP bv (cN T l (s,8)) (cN T l (s,8)):=rY.xQ a;have n:=c.jb.mv f (lC h0 a) δ δ;have I:=c.jh.mv f δ δ;have K:=c.jn.mv f (lC h0 a) δ;have F:=c.jd.mv f λ_ _ _=>δ
 have t:=c.jc.mv f λ_ _=>δ
 obtain⟨k,J,g,u,p,q,v,D⟩:=n;obtain⟨y1,r,B,y⟩:=I;obtain⟨z1,i,z⟩:=K;exact⟨⟨k,J,g,u,p,q,v,D⟩,⟨y1,r,B,y⟩,⟨z1,i,z⟩,⟨a,cH,⟨dx,aq⟩,by rw[aA e,aq,m];rfl⟩,F,t⟩
end
section
variable {K:aC}{X:Cs}{H:Hp}{Q:VK}{E:XK}{n:ν}{bk ct:ν}
theorem Zq9{j:Int}(h0:0<=j)(h1:j<=1000):QZ 1 j:=⟨h0,δ,ε⟩
theorem Zie{h:Int}(q:0<=h/\h<=30/\Q (.int (2 ^ h.toNat - 1)) H):Ux ξ [some (.int h)] H:=by
 obtain⟨h0,h1,q⟩:=q;unfold Ux;exists _,_,rfl,rfl,Zq9 h0 δ;ext;rw[Int.one_mul];exact q
theorem zj{a:AI}{h:Int}(q:0<=h/\h<=30/\Q (.int (if (1:Nat)=0 then 2 ^ h.toNat - 1 else 0)) H):oO ξ [↑a,some (.int h)] H:=by
 unfold oO;apply q.2.2
theorem Gh{a:AI}{h:Int}(q:0<=h/\h<=30/\Q (.int (if (0:Nat)=0 then 2 ^ h.toNat - 1 else 0)) H):qz QT ξ [↑a,some (.int h)] H:=by
 obtain⟨h0,h1,q⟩:=q;unfold qz;apply⟨h,rfl,h0,h1,q⟩
theorem Zmg{wo:AI}(c:oH K X)(q:Y0 X wo H Q):
  ZJ K X.E X.F X.L (vC 0) (vC 1) ⟨λ_ H'=>Q .non H',Q,bk,ct⟩ [↑wo,none] H:=by
 obtain⟨T,s,A,M,w,h0,j,rfl,q⟩:=q;obtain⟨R,ow⟩:=j.jb.ow;obtain⟨g,os⟩:=j.js.os;obtain⟨U,ok⟩:=j.jb.ok;obtain⟨dl,ol⟩:=j.jb.ol;have on:=j.jb.on;have lh:=j.jd.lh;have l5:=j.jd.l5;unfold ZJ;apply aJ ow c.cW c.Ve bw ?_;apply aJ os c.cS c.n1 kW ?_;apply⟨A.sw,X.S,g,_,rfl,os,c.cS,c.n1,by show 11<1000;decide,?_⟩;rw[Gq];apply aJ aq c.cS c.n5 pI ?_;apply⟨A.sw,X.S,g,_,rfl,aq,c.cS,c.n5,by show 11<1000;decide,?_⟩;rw[Km,dz];apply⟨A.sw,X.S,g,_,rfl,aq,c.cS,c.n2,by show 11<1000;decide,?_⟩;rw[jM,dz];apply⟨ε,λgr m=>?_⟩;have t:A.sw≠gr:=aD aq m;have r:H gr=none:=by rw[aA t.symm]at m;exact m
 apply⟨A.sw,X.S,g,_,rfl,by rw[aA t];exact aq,c.cS,c.n3,by show 11<1000;decide,?_⟩;rw[Kq];have I:∀(a b:HO) (o:HO),upd (upd (upd H A.sw a) gr o) A.sw b=upd (upd H gr o) A.sw b:=λa b o=>by
  funext x
  by_cases z:x=A.sw
  ·rw[z,aq,aq]
  ·rw[aA z,aA z]
   by_cases y:x=gr
   ·rw[y,aq,aq]
   ·rw[aA y,aA y,aA z]
 rw[I];have fin:∀{lo:Int}{J:St},J=[↑A.wo,↑A.sw]->lo=gP M.w M.hands.length->∀(u:Hp),u=upd (upd H gr (.lst [])) A.sw (.ins X.S g bP)->
   (∃a C dx fs,V.ref A.sw=.ref a/\u a=some (.ins C dx fs)/\K7 K C/\cL K C "looked"/\fs.length<1000/\(aN (dU K χ ω "walks") (aN (dU K χ ω "looks") (dU K χ ω "passes"))) ⟨λ_ H'=>Q .non H',Q,bk,ct⟩ J (upd u a (.ins C dx (bL "looked" (.int lo) fs)))):=by
  rintro lo J rfl N u rfl;refine⟨A.sw,X.S,g,_,rfl,aq,c.cS,c.n4,by show 11<1000;decide,?_⟩;rw[qp,dz];apply⟨A.sw,X.S,g,_,rfl,aq,c.cS,c.n8,by show 11<1000;decide,?_⟩;rw[su,dz];apply⟨A.sw,X.S,g,_,rfl,aq,c.cS,c.n9,by show 11<1000;decide,?_⟩;rw[mF,dz];apply⟨A.sw,X.S,g,_,rfl,aq,c.cS,c.n10,by show 11<1000;decide,?_⟩;rw[qm,dz];obtain⟨st,P⟩:=j.Zo8 w h0 (dx:=g) (l:=gr) { M.sw with sense:=1 - M.sw.sense,phase:="walk",grey:=[],looked:=gP M.w M.hands.length,turn:=M.sw.turn+1,walks:=0,looks:=0,passes:=0 } r rfl;subst N;exact q _ _ _ st P rfl
 have kp:∀b o,H b=some o->b≠A.sw->upd (upd H gr (.lst [])) A.sw (.ins X.S g bP) b=some o:=λb o hb O=>by
  rw[aA O,aA (aD hb r)];exact hb
 have v:∀{a:AI}{C d:AI}{fs:List (Str×V)},H a=some (.ins C d fs)->fs.length<11->a≠A.sw:=λe hl z=>by
  rw[z,os]at e;have:=Option.some.inj e
  injection this with _ _ e3
  rw[<- e3]at hl;exact absurd hl (by show ¬ 11<11;decide)
 have f:=kp _ _ ow (v ow (by show 5<11;decide));have i:=kp _ _ ok (v ok (by show 2<11;decide));have h:=kp _ _ on (lE on os a8);generalize n:upd (upd H gr (.lst [])) A.sw (.ins X.S g bP)=u at kp f i h ⊢;have k:((A.hs.map λp=>V.ref p.1).length:Int)=(M.hands.length:Int):=by rw[aY,lh]
 refine Qe ?_;left;rcases ol with ⟨D,o⟩ | ⟨D,o⟩ | ⟨D,o⟩
 ·have B:=kp _ _ o (v o (by show 0<11;decide));refine Vs ?_;left;refine aJ f c.cW c.nWk iG ?_;refine aJ i c.cK c.nKl jU ?_;left;refine⟨A.lk,dl,_,rfl,B,rfl,?_⟩;left;refine aJ f c.cW c.nWd dO ?_;left;refine eZ (cC.of h) ?_;rw[k];left;refine⟨A.lk,_,rfl,δ,δ,?_⟩;left;exact fin rfl (by unfold gP;rw[if_pos D,if_pos rfl,Int.toNat_natCast]) _ n.symm
 ·have B:=kp _ _ o (v o (by show 0<11;decide));refine Eu (Vs ?_);left;refine aJ f c.cW c.nWk iG ?_;refine aJ i c.cK c.nKl jU ?_;left;refine⟨A.lk,dl,_,rfl,B,rfl,?_⟩;left;refine aJ f c.cW c.nWd dO ?_;left;refine eZ (cC.of h) ?_;rw[k];left;refine⟨A.lk,_,rfl,δ,δ,?_⟩;left;exact fin rfl (by unfold gP;rw[if_neg (show ¬ (1:Nat)=0 by decide),if_neg δ]) _ n.symm
 ·have B:=kp _ _ o (v o (by show 0<11;decide));refine Eu (Eu ?_);left;refine aJ f c.cW c.nWk iG ?_;refine aJ i c.cK c.nKl jU ?_;left;refine⟨A.lk,dl,_,rfl,B,rfl,?_⟩;left;refine aJ f c.cW c.nWd dO ?_;left;refine eZ (cC.of h) ?_;rw[k];left;refine⟨A.lk,_,rfl,δ,δ,?_⟩;left;exact fin rfl (by unfold gP;rw[if_neg (show ¬ (1:Nat)=0 by decide),if_neg δ]) _ n.symm
end
def Lx(M:Wm):Bool:=decide (M.sw.phase="walk"\/M.sw.phase="lost")
def M5(M:Wm)(p b:Int):AA:=if mj M p b=true then none else match cellAt M p with
 | none=>none
 | some c=>if Lx M=true/\¬ c.tone=M.sw.sense then none else some p
inductive vm(X:Cs)(wo:AI)(H:Hp)(Q:VK):Prop
 | mk (T s A M) (_:WJ0 X H T s A M) (_:A.wo=wo) (_:∀H',bB H H'->Q (.bl (Lx M)) H'):vm X wo H Q
def Gd(X:Cs):Sp:=λvs H Q E=>∃wo,vs=[.ref wo]/\vm X wo H Q
inductive Hv(X:Cs)(wo:AI)(p:Int)(b:Int)(H:Hp)(Q:VK):Prop
 | mk (T s A M) (_:WJ0 X H T s A M) (_:A.wo=wo) (_:∀H',bB H H'->Q (oV (M5 M p b)) H'):Hv X wo p b H Q
def Wb(X:Cs):Sp:=λvs H Q E=>∃wo p b,vs=[.ref wo,.int p,.int b]/\Hv X wo p b H Q
section
variable {K:aC}{X:Cs}{H:Hp}{Q:VK}{E:XK}{n:ν}{bk ct:ν}
theorem RZ{wo:AI}(T:oH K X)(q:vm X wo H Q):zH K ξ [↑wo] H:=by
 obtain⟨Tg,s,A,M,j,rfl,q⟩:=q;obtain⟨d1,ow⟩:=j.jb.ow;obtain⟨d2,os⟩:=j.js.os;unfold zH;apply aJ ow T.cW T.Ve bw ?_;apply aJ os T.cS T.n2 kY ?_;apply⟨bF ζ,λtp a=>?_⟩;generalize zz:upd H tp _=H1;obtain⟨d,b⟩:=nwO a zz;refine⟨tp,_,rfl,.inr (cP.of b),rfl,rfl,?_⟩;have q:=q H1 d;rw[show Lx M=(if false=true then !inV (V.str M.sw.phase) [V.str "walk",.str "lost"]else inV (V.str M.sw.phase) [V.str "walk",.str "lost"])from by
  rw[if_neg Bool.false_ne_true];show Lx M=(("walk":Str) == M.sw.phase || (("lost":Str) == M.sw.phase || false));unfold Lx
  by_cases h1:M.sw.phase="walk"
  ·simp[h1]
  ·by_cases h2:M.sw.phase="lost"
   ·simp[h2]
   ·have c:¬ ("walk":Str)=M.sw.phase:=λz=>h1 z.symm;have e:¬ ("lost":Str)=M.sw.phase:=λz=>h2 z.symm;simp[h1,h2,c,e]]at q
 exact q
theorem Zch{wo:AI}{p b:Int}(T:oH K X)(q:Hv X wo p b H Q):M8 K (Zej X) (iZ X) (Gd X) ξ [↑wo,some (.int p),some (.int b)] H:=by
 obtain⟨Tg,s,A,M,j,rfl,q⟩:=q;unfold M8;exists _,_,_,rfl,Tg,s,A,M,j,rfl;have g:∀c,cellAt M p=some c->mj M p b=false->M5 M p b=if Lx M=true/\¬ c.tone=M.sw.sense then none else some p:=λc hc hg=>by
  unfold M5;rw[hg,if_neg Bool.false_ne_true,hc]
 cases hg:mj M p b with
 | true=>
  ext;have:=q H (bB.refl _);rw[show M5 M p b=none from if_pos hg]at this;exact this
 | false=>
  apply⟨_,rfl,Tg,s,A,M,j,rfl,λo l=>?_⟩;obtain⟨c,hc⟩:∃c,cellAt M p=some c:=by
   cases e:cellAt M p with
   | none=>
    have:mj M p b=true:=by unfold mj;rw[e]
    rw[this]at hg;cases hg
   | some c=>exact⟨c,rfl⟩
  have q:=q o l;rw[g c hc hg]at q;have a:=j.same l;cases k:Lx M with
  | false=>
   ext;rw[if_neg (λz=>by rw[k]at z;cases z.1)]at q;exact q
  | true=>
   ext;obtain⟨d1,ow⟩:=a.jb.ow;obtain⟨u,oh⟩:=a.jh.oh;rcases a.look (some p)with ⟨d,_⟩ | ⟨i,w,h,r,h0,m,t,hp,_,ce⟩
   ·have d:cellAt M p=none:=d;rw[hc]at d;cases d
   cases r;rw[hc]at m;cases m;refine aJ ow T.cW T.RL bG ?_;apply aJ oh T.c.cZ T.c.bZ bT ?_;apply fB (cC.of a.jh.oc) (nu (v:=.ref h.1) h0 (by rw[cg,hp];rfl)) ?_;exists _,_,rfl,Tg,s,A,M,_,h,c,a,rfl,ce,rfl;ext
   by_cases f:c.tone=M.sw.sense
   ·rw[if_neg (λz=>z.2 f)]at q;refine Zdf (λz=>absurd f z) Δ;apply q
   ·rw[if_pos ⟨k,f⟩]at q;refine Zdf Δ (λz=>absurd z f);apply q
end
def nA(M:Wm):Au:=M.names.map λm=>M5 M m.2.1 m.2.2
def iw(M:Wm):List Au:=heldOf M++[nA M]
inductive YZ(X:Cs)(wo:AI)(H:Hp)(Q:VK):Prop
 | mk (T s A M) (_:s≠0) (_:WJ X H T s A M) (_:A.wo=wo) (_:M.hands.length<=1000) (_:M.names.length<=1000) (_:∀(l:AI) (ls:AF) H',bB H H'->H l=none->H' l=some (.lst (ls.map V.ref))->ls.length=(iw M).length->(∀r∈ls,H r=none)->l∉ls->(∀(j:Nat) r x,ls[j]? =some r->(iw M)[j]? =some x->H' r=some (.lst (x.map oV)))->Q (.ref l) H'):YZ X wo H Q
def Zgb(X:Cs):Sp:=λvs H Q E=>∃wo,vs=[.ref wo]/\YZ X wo H Q
section
variable {K:aC}{X:Cs}{H:Hp}{Q:VK}{E:XK}{n:ν}{bk ct:ν}
theorem Ztt{T:Tg}{ns:AF}{names:List cy}(h:Al (NmO H T) ns names):∀{i:Nat}{kv:L2.Key×V},(wO names ns)[i]? =some kv->∃t m,names[i]? =some m/\kv.2=.ref t/\H t=some (.tup [.int m.2.1,.int m.2.2])/\T t=(0,0):=by
 induction h with
 | nil=>intro i kv e;simp[wO]at e
 | cons h0 h a=>
  intro i kv e;cases i with
  | zero=>cases e;exact⟨_,_,rfl,rfl,h0.2,h0.1⟩
  | succ i=>exact a (i:=i) (kv:=kv) (by simpa[wO]using e)
theorem Zj8{wo:AI}(T:oH K X)(q:YZ X wo H Q):
  ZG K (Zmq X) (Wb X) H ξ [↑wo] H:=by
 obtain⟨Tg,s,A,M,h0,j,rfl,hh,hn,q⟩:=q;unfold ZG;apply⟨_,rfl,Tg,s,A,M,j,rfl,hh,λl1 a H1 s1 nl1 W L nd1 nn1 Zzb g1=>?_⟩;have j1:=j.same s1;obtain⟨dw,ow⟩:=j1.jb.ow;have om:=j1.jn.om;apply aJ ow T.cW T.nWn jl ?_;refine⟨_,_,rfl,.inl om,λvv nvv=>?_⟩;generalize zz:upd H1 vv _=H2;obtain⟨P,g2⟩:=nwO nvv zz;have S:=j1.same P;have v:=S.jn.om;refine⟨_,_,_,rfl,g2,v,λo=>?_⟩;have lnm:(wO M.names A.ns).length=M.names.length:=Zkk S.jn.nms;have w3:=S.names (o:=.oX o (.dK (wO M.names A.ns))) h0;have f:∀b u,H2 b=some u->b≠A.nm->upd H2 A.nm (.oX o (.dK (wO M.names A.ns))) b=some u:=λb u hb nb=>by rw[aA nb];exact hb
 have O:upd H2 A.nm (.oX o (.dK (wO M.names A.ns))) A.nm=some (.oX o (.dK (wO M.names A.ns))):=aq;generalize upd H2 A.nm (.oX o (.dK (wO M.names A.ns)))=H3 at w3 f O ⊢;have nmn:∀t xs,H2 t=some (.tup xs)->t≠A.nm:=λt xs z=>lE z v (λy=>by cases y);refine Zfi ?_;refine Zd6 M.names.length δ (λi y _=>∃m,M.names[i]? =some m/\y=oV (M5 M m.2.1 m.2.2)) (λ_ _ _ _ h _=>h) (λH' s=>⟨s _ _ O,δ⟩) (λi H' hi s=>⟨s _ _ O,δ⟩) (λi x H4 N hi C y=>?_) ?_
 ·obtain⟨rfl,kv,ekv,rfl⟩:=y;obtain⟨t,m,em,et,ot,tt⟩:=Ztt S.jn.nms ekv;refine⟨rfl,λq hq=>Qd hq,λq hq=>?_⟩;have ot4:=C _ _ (f _ _ ot (nmn _ _ ot));refine⟨t,_,_,_,by rw[et],cP.of ot4,?_⟩;walk_at"c";apply⟨_,_,_,rfl,Tg,s,A,M,w3.same C,rfl,λH6 d=>hq _ _ d ⟨m,em,rfl⟩⟩
 ·intro Z H4 C ly hy p R;have ey:Z=(nA M).map oV:=by
   refine List.ext_getElem? λi=>?_
   by_cases hi:i<Z.length
   ·obtain⟨m,g,l⟩:=hy i Z[i] (bD hi);rw[bD hi,l];unfold nA;rw[cg,cg,g];rfl
   ·rw[List.getElem?_eq_none δ,List.getElem?_eq_none];unfold nA;rw[aY,aY];omega
  subst ey;have g5:=C _ _ O;have w:p≠A.nm:=λz=>by rw[z,g5]at R;cases R
  refine⟨A.nm,o,_,by rw[aA w.symm];exact g5,(λo' u z=>by rw[j.jn.om]at z;cases z),?_⟩;generalize D:upd (upd H4 p (.lst ((nA M).map oV))) A.nm (.dK (wO M.names A.ns))=N;have E:bB H2 N:=λb u hb=>by
   rw[<- D]
   by_cases z:b=A.nm
   ·subst z;rw[aq];rw[v]at hb;exact hb
   ·have h3:=f b u hb z;rw[aA z,aA (aD (C _ _ h3) R)];exact C _ _ h3
  have np2:H2 p=none:=by
   cases z:H2 p with
   | none=>rfl
   | some u=>
    have:=C _ _ (f p u z w);rw[R]at this;cases this
  have F:N p=some (.lst ((nA M).map oV)):=by rw[<- D,aA w];exact aq
  clear D;have I:=s1.trans (P.trans E);have B:=P.trans E;apply⟨bF ζ,λl2 nl2=>?_⟩;generalize zz:upd N l2 _=H6;obtain⟨d,g6⟩:=nwO nl2 zz;refine⟨l1,l2,_,_,rfl,rfl,d _ _ (B _ _ W),g6,?_,λl3 c=>?_⟩
  ·rw[aY];have:(heldOf M).length=M.hands.length:=by unfold heldOf;rw[aY]
   exact bF (by simp;omega)
  have U:=aL c (.lst (a.map V.ref++[.ref p]));have J:=I.trans (d.trans U);have e7:a.map V.ref++[V.ref p]=(a++[p]).map V.ref:=by rw[List.map_append];rfl
  rw[e7]at U J ⊢;have fp:H p=none:=s1.free (P.free np2);refine q l3 (a++[p]) _ J (I.free (d.free c)) aq ?_ (λr hr=>?_) (λhr=>?_) λk r x g l=>?_
  ·unfold iw;rw[List.length_append,List.length_append,L];rfl
  ·rcases List.mem_append.mp hr with hr | hr
   ·exact nn1 r hr
   ·rw[List.mem_singleton.mp hr];exact fp
  ·rcases List.mem_append.mp hr with hr | hr
   ·obtain⟨k,hk,e⟩:=List.getElem_of_mem hr;have:=g1 k l3 (heldOf M)[k] (by rw[bD hk,e]) (bD δ);rw[d _ _ (B _ _ this)]at c;cases c
   ·rw[List.mem_singleton.mp hr,d _ _ F]at c;cases c
  ·unfold iw at l
   by_cases hk:k<a.length
   ·rw[List.getElem?_append_left hk]at g;rw[List.getElem?_append_left δ]at l;exact U _ _ (d _ _ (B _ _ (g1 k r x g l)))
   ·have Y:=(cG g).1;rw[List.length_append,List.length_singleton]at Y;have ek:k=a.length:=δ
    rw[List.getElem?_append_right δ]at g l;rw[ek,Nat.sub_self]at g;rw[ek,L,Nat.sub_self]at l;cases g;cases l;exact U _ _ (d _ _ F)
end
namespace KB
abbrev Fd:=List (Option Au)
def K4(F:Fd)(p:Int):Option Au:=if 0<=p then(F[p.toNat]?).join else none
def nxt(F:Fd)(pl:AA)(f:Int):AA:=match pl with
 | none=>none
 | some p=>match K4 F p with
  | none=>none
  | some fl=>if 0<=f then(fl[f.toNat]?).join else none
abbrev Rw:=List Au
def slt(R:Rw)(r s:Int):AA:=((R[r.toNat]?).bind λx=>x[s.toNat]?).join
def W7(F:Fd)(w:AE)(x:AA×Nat):Option dL:=match x.1 with
 | none=>none
 | some q=>if (K4 F q).isSome then some (q,w++[(x.2:Int)])else none
def onw(F:Fd)(w:AE)(n:Nat)(ps:Au):List dL:=(ps.zipIdx n).filterMap (W7 F w)
def q0(F:Fd)(n:Nat)(R:Rw):List dL:=(R.zipIdx n).flatMap λx=>onw F [(x.2:Int)] 0 x.1
structure Good(F:Fd)(R:Rw)(p:Int)(w:AE):Prop where
 ex:∃r s fs row,w=r::s::fs/\0<=r/\0<=s/\R[r.toNat]? =some row/\s.toNat<row.length/\(∀f∈fs,0<=f)/\fs.foldl (nxt F) (slt R r s)=some p
 there:(K4 F p).isSome=true
theorem Lg{F:Fd}{w:AE}{n:Nat}{ps:Au}{q:Int}{v:AE}(h:(q,v)∈onw F w n ps):∃k,ps[k]? =some (some q)/\v=w++[((n+k:Nat):Int)]/\(K4 F q).isSome=true:=by
 obtain⟨⟨x,m⟩,hm,e⟩:=List.mem_filterMap.mp h;obtain⟨a,b⟩:=List.mem_zipIdx_iff_le_and_getElem?_sub.mp hm;unfold W7 at e;cases x with
 | none=>cases e
 | some c=>
  simp only at e;split at e
  ·rename_i hs
   cases e;refine⟨m - n,b,?_,hs⟩;have:n+(m - n)=m:=by have:=a;simp only at this;omega
   rw[this]
  ·cases e
theorem Zls{F:Fd}{R:Rw}{p q:Int}{w v:AE}{fl:Au}(g:Good F R p w)(b:K4 F p=some fl)(h:(q,v)∈onw F w 0 fl):Good F R q v:=by
 obtain⟨k,hk,rfl,hs⟩:=Lg h;obtain⟨⟨r,s,fs,a,rfl,h1,h2,d,h4,h5,c⟩,_⟩:=g;refine⟨⟨r,s,fs++[((0+k:Nat):Int)],a,rfl,h1,h2,d,h4,λf b=>?_,?_⟩,hs⟩
 ·rcases List.mem_append.mp b with z | z
  ·exact h5 f z
  ·have:f=((0+k:Nat):Int):=by simpa using z
   omega
 ·rw[List.foldl_append,c];show nxt F (some p) _=some q;unfold nxt;simp only[b];rw[if_pos δ];have:(((0+k:Nat):Int)).toNat=k:=δ
  rw[this,hk];rfl
theorem Zov{F:Fd}{R:Rw}{q:Int}{v:AE}(h:(q,v)∈q0 F 0 R):Good F R q v:=by
 obtain⟨⟨a,n⟩,hm,h⟩:=List.mem_flatMap.mp h;have hr:R[n]? =some a:=List.mem_zipIdx_iff_getElem?.mp hm;obtain⟨k,hk,rfl,hs⟩:=Lg h;refine⟨⟨(n:Int),((0+k:Nat):Int),[],a,rfl,δ,δ,by simpa using hr,?_,(λf b=>by cases b),?_⟩,hs⟩
 ·have:k<a.length:=(cG hk).1;omega
 ·show slt R _ _=some q;unfold slt;have d:((n:Int)).toNat=n:=δ
  have c:(((0+k:Nat):Int)).toNat=k:=δ
  rw[d,c,hr];simp only[Option.bind_some,hk,Option.join_some]
inductive Th(F:Fd)(R:Rw):List dL->Nat->List dL->Prop
 | start:Th F R (q0 F 0 R) 0 []
 | old {q k l p w}:Th F R q k l->q[k]? =some (p,w)->p∈l.map (·.1)->Th F R q (k+1) l
 | new {q k l p w fl}:Th F R q k l->q[k]? =some (p,w)->p∉l.map (·.1)->K4 F p=some fl->Th F R (q++onw F w 0 fl) (k+1) (l++[(p,w)])
theorem Th.good{F:Fd}{R:Rw}{q l:List dL}{k:Nat}(b:Th F R q k l):(∀x∈q,Good F R x.1 x.2)/\∀x∈l,Good F R x.1 x.2:=by
 induction b with
 | start=>exact⟨λx hx=>Zov hx,λx hx=>nomatch hx⟩
 | old _ _ _ a=>exact a
 | new b hq hn d a=>
  have g:=a.1 _ (List.mem_of_getElem? hq);refine⟨λx hx=>?_,λx hx=>?_⟩
  ·rcases List.mem_append.mp hx with z | z
   ·exact a.1 x z
   ·exact Zls g d z
  ·rcases List.mem_append.mp hx with z | z
   ·exact a.2 x z
   ·have c:=List.mem_singleton.mp z;rw[c];exact g
def wgt:Option Au->Nat
 | none=>0
 | some fl=>fl.length
def Zbx(F:Fd)(l:List dL):Nat:=((F.zipIdx).map λx=>if (x.2:Int)∈l.map (·.1)then 0 else wgt x.1).sum
theorem Ziu{a:Type}(f g:a->Nat):∀(xs:List a),(∀x∈xs,g x<=f x)->(xs.map g).sum<=(xs.map f).sum
 | [],_=>Nat.le_refl _
 | x::xs,h=>by
  have h1:=h x ζ;have h2:=Ziu f g xs λy hy=>h y (by simp[hy]);simp only[List.map_cons,List.sum_cons];omega
theorem Zk{b:Type}(f g:b->Nat)(d:Nat):∀(xs:List b) (a:b),a∈xs->(∀x∈xs,g x<=f x)->g a+d<=f a->(xs.map g).sum+d<=(xs.map f).sum
 | [],_,h,_,_=>nomatch h
 | x::xs,a,c,h,hd=>by
  have h1:=h x ζ;have h2:=Ziu f g xs λy hy=>h y (by simp[hy]);simp only[List.map_cons,List.sum_cons];rcases List.mem_cons.mp c with z | z
  ·subst z;omega
  ·have e:=Zk f g d xs a z (λy hy=>h y (by simp[hy])) hd;omega
theorem Le{F:Fd}{w:AE}{n:Nat}{ps:Au}:(onw F w n ps).length<=ps.length:=by
 unfold onw;have:=List.length_filterMap_le (W7 F w) (ps.zipIdx n);rw[List.length_zipIdx]at this;exact this
theorem Zin{F:Fd}{l:List dL}{p:Int}{w:AE}{fl:Au}(hn:p∉l.map (·.1))(a:K4 F p=some fl):Zbx F (l++[(p,w)])+fl.length<=Zbx F l:=by
 unfold K4 at a;split at a
 ·rename_i h0
  have hp:F[p.toNat]? =some (some fl):=by
   cases e:F[p.toNat]? with
   | none=>rw[e]at a;cases a
   | some x=>rw[e]at a;simp only[Option.join_some]at a;rw[a]
  unfold Zbx;refine Zk _ _ fl.length _ (some fl,p.toNat) (List.mem_zipIdx_iff_getElem?.mpr hp) (λx _=>?_) ?_
  ·simp only[List.map_append,List.map_cons,List.map_nil,List.mem_append]
   by_cases h1:(x.2:Int)∈l.map (·.1)
   ·simp only[h1,true_or,↓reduceIte,Nat.le_refl]
   ·simp only[h1,false_or];split
    ·exact Nat.zero_le _
    ·exact Nat.le_refl _
  ·have e:((p.toNat:Nat):Int)=p:=δ
   simp only[List.map_append,List.map_cons,List.map_nil,List.mem_append,e];rw[if_pos (.inr ζ),if_neg hn];show 0+fl.length<=wgt (some fl);show 0+fl.length<=fl.length;omega
 ·cases a
def total(F:Fd)(R:Rw):Nat:=(q0 F 0 R).length+Zbx F []
theorem Th.bound{F:Fd}{R:Rw}{q l:List dL}{k:Nat}(b:Th F R q k l):q.length+Zbx F l<=total F R:=by
 induction b with
 | start=>exact Nat.le_refl _
 | old _ _ _ a=>exact a
 | new b hq hn c a=>
  have h2:=@Le F;rw[List.length_append];refine Nat.le_trans ?_ a
  rename_i w fl
  have d:=h2 (w:=w) (n:=0) (ps:=fl);have h4:=Zin (w:=w) hn c;omega
end KB
def Zp8(cs:List V)(i:Int):V:=if 0<=i then(cs[i.toNat]?).getD .non else .non
def CO(a:AI)(H:Hp)(cs:List V)(i:Nat):Option Au->Prop
 | none=>cs[i]? =some .non
 | some fl=>∃p fa b u t l,cs[i]? =↑p/\yK a H p fa b u t l (fl.map oV)
structure HV(CC CH:AI)(H:Hp)(hp:AI)(F:KB.Fd):Prop where
 ex:∃ca room used born cs,HpO CH H hp ca room used born cs/\cs.length=F.length/\∀(i:Nat) x,F[i]? =some x->CO CC H cs i x
theorem HpO.same{a:AI}{H H':Hp}{hp ca:AI}{room used born:Int}{cs:List V}(h:HpO a H hp ca room used born cs)(s:bB H H'):HpO a H' hp ca room used born cs:=by
 obtain⟨⟨b,h1⟩,h2⟩:=h;exact⟨⟨b,s _ _ h1⟩,s _ _ h2⟩
theorem CO.same{a:AI}{H H':Hp}{cs:List V}{i:Nat}{x:Option Au}(h:CO a H cs i x)(s:bB H H'):CO a H' cs i x:=by
 cases x with
 | none=>exact h
 | some fl=>
  obtain⟨p,d,b,u,t,l,e,c⟩:=h;exact⟨p,d,b,u,t,l,e,c.same s⟩
theorem HV.same{a b:AI}{H H':Hp}{hp:AI}{F:KB.Fd}(h:HV a b H hp F)(s:bB H H'):HV a b H' hp F:=by
 obtain⟨ca,room,used,born,cs,o,l,e⟩:=h;exact⟨ca,room,used,born,cs,o.same s,l,λi x hx=>(e i x hx).same s⟩
theorem Zlx{a:AI}{H:Hp}{cs:List V}{F:KB.Fd}(hl:cs.length=F.length)(e:∀(i:Nat) x,F[i]? =some x->CO a H cs i x)(i:Int):
  (KB.K4 F i=none/\Zp8 cs i=.non)\/∃fl p fa b u t l,KB.K4 F i=some fl/\Zp8 cs i=.ref p/\cs[i.toNat]? =↑p/\0<=i/\yK a H p fa b u t l (fl.map oV):=by
 unfold KB.K4 Zp8
 by_cases h0:0<=i
 ·simp only[h0,↓reduceIte];cases f:F[i.toNat]? with
  | none=>
   have:cs[i.toNat]? =none:=by rw[List.getElem?_eq_none_iff]at f ⊢;omega
   exact .inl ⟨rfl,by rw[this];rfl⟩
  | some x=>
   have c:=e _ _ f;cases x with
   | none=>exact .inl ⟨rfl,by rw[show cs[i.toNat]? =some V.non from c];rfl⟩
   | some fl=>
    obtain⟨p,fa,b,u,t,l,d,c1⟩:=c;exact .inr ⟨fl,p,fa,b,u,t,l,rfl,by rw[d];rfl,d,trivial,c1⟩
 ·simp only[h0,↓reduceIte];exact .inl ⟨trivial,trivial⟩
def Bs(H:Hp):AF->List dL->Prop
 | [],[]=>True
 | t::ts,x::b=>(∃a,H t=some (.tup [.int x.1,.ref a])/\H a=some (.tup (x.2.map V.int)))/\Bs H ts b
 | _,_=>False
theorem Bs.same{H H':Hp}(s:bB H H'):∀{ts:AF}{b:List dL},Bs H ts b->Bs H' ts b
 | [],[],_=>trivial
 | [],_::_,h=>h.elim
 | _::_,[],h=>h.elim
 | _::_,_::_,⟨⟨a,h1,h2⟩,c⟩=>⟨⟨a,s _ _ h1,s _ _ h2⟩,Bs.same s c⟩
theorem Bs.app{H:Hp}:∀{ts us:AF}{a rs:List dL},Bs H ts a->Bs H us rs->Bs H (ts++us) (a++rs)
 | [],_,[],_,_,h=>h
 | [],_,_::_,_,h,_=>h.elim
 | _::_,_,[],_,h,_=>h.elim
 | _::_,_,_::_,_,⟨h1,b⟩,h=>⟨h1,Bs.app b h⟩
theorem Bs.len{H:Hp}:∀{ts:AF}{a:List dL},Bs H ts a->ts.length=a.length
 | [],[],_=>rfl
 | [],_::_,h=>h.elim
 | _::_,[],h=>h.elim
 | _::_,_::_,⟨_,b⟩=>by rw[List.length_cons,List.length_cons,Bs.len b]
theorem Bs.at{H:Hp}:∀{ts:AF}{b:List dL}{i:Nat}{x:Int×AE},Bs H ts b->b[i]? =some x->∃t a,ts[i]? =some t/\H t=some (.tup [.int x.1,.ref a])/\H a=some (.tup (x.2.map V.int))
 | [],[],_,_,_,e=>by simp at e
 | [],_::_,_,_,h,_=>h.elim
 | _::_,[],_,_,h,_=>h.elim
 | t::_,_::_,0,_,⟨⟨a,h1,h2⟩,_⟩,e=>by cases e;exact⟨t,a,rfl,h1,h2⟩
 | _::_,_::_,i+1,_,⟨_,c⟩,e=>Bs.at (i:=i) c e
def QL(K:aC)(c b:AI):Sp:=λvs H Q E=>∃hp a wt F ps w,vs=[.ref hp,.ref a,.ref wt]/\HV c b H hp F/\cC K H a (ps.map oV)/\cP K H wt (w.map V.int)/\w≠[]/\w.length<=100000/\ps.length<=1000/\
 ∀l ts H',H l=none->bB H H'->H' l=some (.lst cf)->Bs H' ts (KB.onw F w 0 ps)->Q (.ref l) H'
def Br(K:aC)(H:Hp):AF->KB.Rw->Prop
 | [],[]=>True
 | a::b,r::R=>cC K H a (r.map oV)/\Br K H b R
 | _,_=>False
theorem Br.same{K:aC}{H H':Hp}(s:bB H H'):∀{a:AF}{R:KB.Rw},Br K H a R->Br K H' a R
 | [],[],_=>trivial
 | [],_::_,h=>h.elim
 | _::_,[],h=>h.elim
 | _::_,_::_,⟨h1,b⟩=>⟨s.seq h1,Br.same s b⟩
theorem Br.len{K:aC}{H:Hp}:∀{a:AF}{R:KB.Rw},Br K H a R->a.length=R.length
 | [],[],_=>rfl
 | [],_::_,h=>h.elim
 | _::_,[],h=>h.elim
 | _::_,_::_,⟨_,b⟩=>by rw[List.length_cons,List.length_cons,Br.len b]
theorem Br.at{K:aC}{H:Hp}:∀{b:AF}{R:KB.Rw}{i:Nat}{a:AI},Br K H b R->b[i]? =some a->∃r,R[i]? =some r/\cC K H a (r.map oV)
 | [],[],_,_,_,e=>by simp at e
 | [],_::_,_,_,h,_=>h.elim
 | _::_,[],_,_,h,_=>h.elim
 | _::_,r::_,0,_,⟨h1,_⟩,e=>by cases e;exact⟨r,rfl,h1⟩
 | _::_,_::_,i+1,_,⟨_,c⟩,e=>Br.at (i:=i) c e
structure Few(F:KB.Fd)(R:KB.Rw):Prop where
 f:F.length<=1000
 g:∀p fl,KB.K4 F p=some fl->fl.length<=1000
 r:R.length<=1000
 s:∀x∈R,x.length<=1000
 t:KB.total F R<=90000
def Wc(K:aC)(d c:AI):Sp:=λvs H Q E=>∃hp b F rs R,vs=[.ref hp,.ref b]/\HV d c H hp F/\cC K H b (rs.map V.ref)/\Br K H rs R/\Few F R/\
 ∀l ts q a H',KB.Th F R q q.length a->H l=none->bB H H'->H' l=some (.lst cf)->Bs H' ts a->Q (.ref l) H'
theorem Zv6{f g hp:AI}{H:Hp}{Q:VK}{E:XK}{pl:AA}{F:KB.Fd}(v:HV f g H hp F)(e:pl.bind (KB.K4 F)=none->Q .non H)(j:∀fl p fa b u t l,pl.bind (KB.K4 F)=some fl->yK f H p fa b u t l (fl.map oV)->Q (.ref p) H):jw g [.ref hp,oV pl] H Q E:=by
 obtain⟨ca,room,used,born,cs,o,hl,h⟩:=v;refine⟨hp,oV pl,rfl,t8 pl,ca,room,used,born,cs,o,?_⟩;cases pl with
 | none=>exact e rfl
 | some i=>
  show Q (Zp8 cs i) H;rcases Zlx hl h i with ⟨a,d⟩ | ⟨fl,p,fa,b,u,t,l,a,d,_,_,c⟩
  ·rw[d];exact e a
  ·rw[d];exact j fl p fa b u t l a c
theorem ZX(F:KB.Fd)(w:AE)(n:Nat)(ps:Au)(x:AA):KB.onw F w n (ps++[x])=KB.onw F w n ps++(KB.W7 F w (x,n+ps.length)).toList:=by
 unfold KB.onw;rw[List.zipIdx_append,List.filterMap_append];congr 1
theorem take_snoc{a:Type}{xs:List a}{i:Nat}{x:a}(h:xs[i]? =some x):xs.take br=xs.take i++[x]:=by
 rw[List.take_add_one,h];rfl
theorem iJ{H:Hp}{a:AI}{o:HO}(h:H a=none):bB H ee:=λb u q=>by rw[aA (aD q h)];exact q
section
variable {K:aC}{cu bW cR:AI}{H:Hp}{Q:VK}{E:XK}{n:ν}{bk ct:ν}
theorem Zcr{hp a wt:AI}{F:KB.Fd}{ps:Au}{w:AE}(v:HV cu bW H hp F)(O:cC K H a (ps.map oV))(X:cP K H wt (w.map V.int))(B:w≠[])(W:w.length<=100000)(U:ps.length<=1000)
  (Zqr:∀{H':Hp},bB H H'->cP K H' wt (w.map V.int))
  (q:∀l ts H',H l=none->bB H H'->H' l=some (.lst cf)->Bs H' ts (KB.onw F w 0 ps)->Q (.ref l) H'):
  yO K (jw bW) ξ [↑hp,↑a,↑wt] H:=by
 unfold yO;apply⟨a,rfl,⟨_,O⟩,Zob O (by rw[aY];omega) (λi r f=>bB H f/\i<=ps.length/\∃ts,r=ts.map V.ref/\Bs f ts (KB.onw F w 0 (ps.take i))) ⟨bB.refl _,Nat.zero_le _,[],rfl,trivial⟩ ?_ ?_ ?_⟩
 ·rintro i r f ⟨sm,hi,ts,rfl,g⟩;refine⟨sm,?_⟩;rw[aY,g.len];refine Nat.le_trans KB.Le ?_;rw[List.length_take];omega
 ·rintro i x r f t C M hx ⟨sm,hi,ts,rfl,g⟩ R;walk_at"c";rw[cg]at hx;obtain⟨y,hy,rfl⟩:=Option.map_eq_some_iff.mp hx;have h:i<ps.length:=(cG hy).1;have k:0+(ps.take i).length=i:=by rw[List.length_take];omega
  have I:bB f (upd f t (.tup [.int i,oV y])):=iJ R;have m:=sm.trans I;apply Zv6 (v.same m) (λe=>?_) (λfl p Y b u Z l e c=>?_)
  ·refine Zdg ?_;apply Zoe (M _ _ ⟨m,h,ts,rfl,?_⟩);rw[take_snoc hy,ZX,k];have s:KB.W7 F w (y,i)=none:=by
    unfold KB.W7;cases y with
    | none=>rfl
    | some d=>simp only;rw[show KB.K4 F d=none from e];rfl
   rw[s];simp only[Option.toList_none,List.append_nil];exact g.same I
  ·refine Zdg ?_;apply Zdb ?_;obtain⟨d,rfl⟩:∃d,y=some d:=by
    cases y with
    | none=>cases e
    | some d=>exact⟨d,rfl⟩
   have T:KB.K4 F d=some fl:=e;apply⟨(by show 1<=sizeLine;decide),λt2 A=>?_⟩;have L:=I.trans (iJ (o:=.tup [.int i]) A);refine⟨wt,t2,w.map V.int,[.int i],rfl,rfl,Zqr (sm.trans L),cP.of aq,by simpa using B,by rw[aY];exact bF (by simp only[List.length_cons,List.length_nil];omega),ar,(λ_ t3 E=>?_)⟩;have P:=L.trans (iJ (o:=.tup (w.map V.int++[.int i])) E);apply⟨(by show 2<=sizeLine;decide),λJ j=>?_⟩;have N:=P.trans (iJ (o:=.tup [oV (some d),.ref t3]) j);have D:t3≠J:=aD aq j;have S:upd (upd (upd (upd f t (.tup [.int i,oV (some d)])) t2 (.tup [.int i])) t3 (.tup (w.map V.int++[.int i]))) J (.tup [oV (some d),.ref t3]) t3=some (.tup (w.map V.int++[.int i])):=by
    rw[aA D,aq]
   apply M _ _ ⟨sm.trans N,h,ts++[J],ζ,?_⟩;rw[take_snoc hy,ZX,k];have s:KB.W7 F w (some d,i)=some (d,w++[(i:Int)]):=by
    unfold KB.W7;simp only[T,Option.isSome_some,↓reduceIte]
   rw[s];refine(g.same N).app ⟨⟨t3,aq,?_⟩,trivial⟩;rw[S,List.map_append];rfl
 ·rintro r f ⟨sm,_,ts,rfl,g⟩ l hl;ext;rw[aY,List.take_length]at g;exact q l ts _ (sm.free hl) (sm.trans (iJ hl)) aq (g.same (iJ hl))
end
theorem Zqr{K:aC}{H H':Hp}{a:AI}{xs:List V}(e:bB H H')(h:cP K H a xs):cP K H' a xs:=by
 rcases h with (h | ⟨o,h⟩) | h
 ·exact .inl (.inl (e _ _ h))
 ·exact .inl (.inr ⟨o,e _ _ h⟩)
 ·exact .inr h
def TK(H H':Hp):Prop:=∀b xs,H b=some (.tup xs)->H' b=some (.tup xs)
theorem TK.same{H H':Hp}(s:bB H H'):TK H H':=λb _ h=>s b _ h
theorem TK.upd{H:Hp}{a:AI}{o:HO}(h:∀xs,H a≠some (.tup xs)):TK H (L2.upd H a o):=λb xs q=>by
 have n:b≠a:=λz=>h xs (by rw[<- z];exact q);rw[aA n];exact q
theorem TK.trans{H d e:Hp}(a:TK H d)(b:TK d e):TK H e:=λc xs h=>b c xs (a c xs h)
theorem Bs.tk{H H':Hp}(s:TK H H'):∀{ts:AF}{b:List dL},Bs H ts b->Bs H' ts b
 | [],[],_=>trivial
 | [],_::_,h=>h.elim
 | _::_,[],h=>h.elim
 | _::_,_::_,⟨⟨a,h1,h2⟩,c⟩=>⟨⟨a,s _ _ h1,s _ _ h2⟩,Bs.tk s c⟩
def Wd(H:Hp):List cm->List dL->Prop
 | [],[]=>True
 | kv::b,x::c=>(kv.1=Sum.inl x.1/\∃a,kv.2=.ref a/\H a=some (.tup (x.2.map V.int)))/\Wd H b c
 | _,_=>False
theorem Wd.tk{H H':Hp}(s:TK H H'):∀{b:List cm}{c:List dL},Wd H b c->Wd H' b c
 | [],[],_=>trivial
 | [],_::_,h=>h.elim
 | _::_,[],h=>h.elim
 | _::_,_::_,⟨⟨h0,a,h1,h2⟩,d⟩=>⟨⟨h0,a,h1,s _ _ h2⟩,Wd.tk s d⟩
theorem Wd.app{H:Hp}:∀{c a:List cm}{b rs:List dL},Wd H c b->Wd H a rs->Wd H (c++a) (b++rs)
 | [],_,[],_,_,h=>h
 | [],_,_::_,_,h,_=>h.elim
 | _::_,_,[],_,h,_=>h.elim
 | _::_,_,_::_,_,⟨h1,d⟩,h=>⟨h1,Wd.app d h⟩
theorem Wd.len{H:Hp}:∀{ts:List cm}{a:List dL},Wd H ts a->ts.length=a.length
 | [],[],_=>rfl
 | [],_::_,h=>h.elim
 | _::_,[],h=>h.elim
 | _::_,_::_,⟨_,b⟩=>by rw[List.length_cons,List.length_cons,Wd.len b]
theorem Wd.val{H:Hp}(p:Int):∀{a:List cm}{b:List dL},Wd H a b->(gR a (Sum.inl p)).isSome=decide (p∈b.map (·.1))
 | [],[],_=>by simp[gR]
 | [],_::_,h=>h.elim
 | _::_,[],h=>h.elim
 | kv::a,x::b,⟨⟨h0,_⟩,c⟩=>by
  by_cases e:x.1=p
  ·rw[iH (by rw[h0,e])];simp[e]
  ·rw[jm (by rw[h0];exact λz=>e (Sum.inl.inj z)),Wd.val p c];simp only[List.map_cons,List.mem_cons];have d:¬ p=x.1:=λz=>e z.symm;simp only[d,false_or]
theorem Wd.prs{H:Hp}:∀{ts:AF}{b:List cm}{c:List dL},Wd H b c->Zbr H ts b->Bs H ts c
 | [],[],[],_,_=>trivial
 | _,[],_::_,h,_=>h.elim
 | _,_::_,[],h,_=>h.elim
 | [],_::_,_::_,_,h=>h.elim
 | _::_,[],[],_,h=>h.elim
 | t::ts,kv::b,x::c,⟨⟨h0,a,h1,h2⟩,d⟩,⟨f,e⟩=>⟨⟨a,by rw[f,h0,h1];rfl,h2⟩,Wd.prs d e⟩
theorem Znd(F:KB.Fd)(R:KB.Rw)(i:Nat)(r:Au)(h:R[i]? =some r):KB.q0 F 0 (R.take br)=KB.q0 F 0 (R.take i)++KB.onw F [(i:Int)] 0 r:=by
 unfold KB.q0;rw[take_snoc h,List.zipIdx_append,List.flatMap_append];have hl:(R.take i).length=i:=by
  have:=(cG h).1;rw[List.length_take];omega
 rw[hl];simp only[List.zipIdx_cons,List.zipIdx_nil,List.flatMap_cons,List.flatMap_nil,List.append_nil,Nat.zero_add]
structure RS(K:aC)(CC CH:AI)(H0 H:Hp)(ql d:AI)(F:KB.Fd)(R:KB.Rw)(q qs:List dL)(k:Nat):Prop where
 sm:bB H0 H
 nq:H0 ql=none
 b:KB.Th F R q k qs
 hk:k<=q.length
 oq:∃ts,H ql=some (.lst cf)/\Bs H ts q
 od:∃kvs,H d=some (.dK kvs)/\Wd H kvs qs
 nd:H0 d=none
theorem Zl0{H:Hp}{a:AI}{xs:List V}{o:HO}(h:H a=some (.lst xs)):TK H ee:=TK.upd λb z=>by rw[h]at z;cases z
theorem Zuy{H:Hp}{a:AI}{xs:List cm}{o:HO}(h:H a=some (.dK xs)):TK H ee:=TK.upd λb z=>by rw[h]at z;cases z
theorem Mq{c H:Hp}{a:AI}{o:HO}(s:bB c H)(h:c a=none):bB c ee:=λb u q=>by rw[aA (aD q h)];exact s b u q
theorem Zph{F:KB.Fd}{R:KB.Rw}{q l:List dL}{k:Nat}(b:KB.Th F R q k l):l.length<=k:=by
 induction b with
 | start=>exact Nat.le_refl _
 | old _ _ _ a=>omega
 | new _ _ _ _ a=>rw[List.length_append];simp only[List.length_cons,List.length_nil];omega
theorem Zmy{F:KB.Fd}{R:KB.Rw}{q l:List dL}{k:Nat}(b:KB.Th F R q k l):∀x∈q,x.2.length<=k+2:=by
 induction b with
 | start=>
  intro x hx;obtain⟨⟨c,n⟩,hm,h⟩:=List.mem_flatMap.mp hx;obtain⟨j,_,e,_⟩:=KB.Lg (q:=x.1) (v:=x.2) h;rw[e];simp
 | old _ _ _ a=>intro x hx;have:=a x hx;omega
 | new b hq _ _ a=>
  intro x hx;rcases List.mem_append.mp hx with z | z
  ·have:=a x z;omega
  ·obtain⟨j,_,e,_⟩:=KB.Lg (q:=x.1) (v:=x.2) z;have:=a _ (List.mem_of_getElem? hq);rw[e,List.length_append];simp only[List.length_cons,List.length_nil];simp only at this;omega
theorem Zqz(F:KB.Fd):∀(R S:KB.Rw) (n:Nat),(KB.q0 F n R).length<=(KB.q0 F n (R++S)).length:=λR S n=>by
 unfold KB.q0;rw[List.zipIdx_append,List.flatMap_append,List.length_append];omega
theorem Znc(F:KB.Fd)(R:KB.Rw)(i:Nat):(KB.q0 F 0 (R.take i)).length<=KB.total F R:=by
 have:=Zqz F (R.take i) (R.drop i) 0;rw[List.take_append_drop]at this;unfold KB.total;omega
section
variable {K:aC}{cu bW cR:AI}{H:Hp}{Q:VK}{E:XK}{n:ν}{bk ct:ν}
theorem ZC{hp Z:AI}{F:KB.Fd}{rs:AF}{R:KB.Rw}{v2 v3 v4 v5 v6 M L:Option V}(T:TxC K cu bW)(v:HV cu bW H hp F)(hr:cC K H Z (rs.map V.ref))(rw':Br K H rs R)(fw:Few F R)
  (q:∀l ts q N H',KB.Th F R q q.length N->H l=none->bB H H'->H' l=some (.lst cf)->Bs H' ts N->Q (.ref l) H'):
  Ao K (QL K cu bW) ξ [↑hp,↑Z,v2,v3,v4,v5,v6,M,L] H:=by
 have hrl:=rw'.len;have f1:=fw.r;unfold Ao;apply⟨(by show 0<=sizeLine;decide),λA J=>?_⟩;apply⟨Z,rfl,⟨_,(iJ J).seq hr⟩,Zsp (rs.map V.ref) (λi U O=>i<=rs.length/\bB H O/\(∃ts,O A=some (.lst cf)/\Bs O ts (KB.q0 F 0 (R.take i)))/\∃x y,U=[↑hp,↑Z,↑A,x,y,v5,v6,M,L])
  ⟨Nat.zero_le _,iJ J,⟨[],aq,trivial⟩,_,_,rfl⟩ (by rintro i U O _ ⟨_,sm,_⟩;exact sm.seq hr) ?_ ?_⟩
 ·rintro i x t U O hx ⟨hi,sm,⟨ts,f,D⟩,y,z,rfl⟩ ht;rw[cg]at hx;obtain⟨r,er,rfl⟩:=Option.map_eq_some_iff.mp hx;obtain⟨row,eR,hrow⟩:=rw'.at er;have hil:i<rs.length:=(cG er).1;have C:=iJ (o:=.tup [.int i,.ref r]) ht;refine⟨t,_,rfl,cP.of aq,rfl,.int i,_,rfl,?_⟩;exists .ref r,_,rfl;exists rfl;exists .inl ⟨rfl,_,cC.of (C _ _ f)⟩;apply⟨(by show 1<=sizeLine;decide),λt2 ht2=>?_⟩;have B:=C.trans (iJ (o:=.tup [.int i]) ht2);apply⟨hp,r,t2,F,row,[(i:Int)],rfl,v.same (sm.trans B),(sm.trans B).seq hrow,cP.of aq,ar,(by show 1<=100000;decide),fw.s _ (List.mem_of_getElem? eR),λl us H' hl s3 hl' qa'=>?_⟩;have s4:=B.trans s3;have hq':H' A=some (.lst cf):=s4 _ _ f;ext;have hlen:ts.length<=100000:=by
   rw[D.len];exact Nat.le_trans (Nat.le_trans (Znc F R i) fw.t) ε
  have hlen2:us.length<=1000:=by
   rw[qa'.len];exact Nat.le_trans KB.Le (fw.s _ (List.mem_of_getElem? eR))
  refine⟨A,l,_,_,rfl,rfl,hq',hl',by rw[aY,aY];exact bF δ,?_⟩;apply⟨hil,Mq (sm.trans s4) J,⟨ts++us,by rw[aq,List.map_append],?_⟩,_,_,rfl⟩;rw[Znd F R i row eR];exact((D.same s4).app qa').tk (Zl0 hq')
 ·rintro U O ⟨hi,sm,⟨ts,f,D⟩,y,z,rfl⟩;rw[aY,hrl,List.take_length]at D;ext;intro d hd;ext;have ndq:d≠A:=λe=>by rw[e,f]at hd;cases hd
  refine⟨λm U O=>∃q N k x y M L,m=KB.total F R - k/\U=[↑hp,↑Z,↑A,x,y,↑d,some (.int (k:Nat)),M,L]/\RS K cu bW H O A d F R q N k,⟨_,KB.q0 F 0 R,[],0,_,_,_,_,rfl,rfl,?_⟩,?_⟩
  ·exact⟨sm.trans (iJ hd),J,.start,Nat.zero_le _,⟨ts,by rw[aA ndq.symm];exact f,D.same (iJ hd)⟩,⟨[],aq,trivial⟩,sm.free hd⟩
  ·rintro m U Hy ⟨X,N,k,x,y,M,L,rfl,rfl,rs'⟩;obtain⟨I,nq,b,hk,⟨ts,f,D⟩,⟨h,j,la⟩,nd⟩:=rs';have hlq:=D.len;apply eZ (cC.of f) ?_;ext;have hb:=b.bound;refine j9 dB dB
   ·rw[aY]at z;have S:k<X.length:=δ
    have hq:X[k]? =some X[k]:=bD S;obtain⟨t,a,et,ht,W⟩:=D.at hq;generalize hx:X[k]=pw at hq ht W;obtain⟨p,w⟩:=pw;refine⟨λσ' H'=>∃q2 P x y M L,σ'=[↑hp,↑Z,↑A,x,y,↑d,some (.int ((k:Int)+1)),M,L]/\RS K cu bW H H' A d F R q2 P dC,?_,?_⟩
    ·rintro σ' H' ⟨q2,P,x,y,M,L,rfl,r2⟩;exact⟨KB.total F R - dC,δ,q2,P,k+1,x,y,M,L,rfl,by rw[show((k+1:Nat):Int)=(k:Int)+1 from δ],r2⟩
    have hix:YG cf ((k:Nat):Int)=↑t:=fG (by rw[cg,et];rfl);apply fB (cC.of f) hix ?_;exists t,_,0,.int p,rfl,rfl,cP.of ht,nu ε rfl;apply fB (cC.of f) hix ?_;exists t,_,1,.ref a,rfl,rfl,cP.of ht,nu ε rfl;exists d,h,_,rfl,.inl j,rfl;ext;have gd:=b.good.1 _ (List.mem_of_getElem? hq);refine Zrv (λy=>?_) (λy=>?_)
    ·have hno:gR h (Sum.inl p)=none:=by
      cases e:gR h (Sum.inl p)with
      | none=>rfl
      | some _=>rw[e]at y;simp at y
     have hnp:p∉N.map (·.1):=by
      have:=la.val p;rw[hno]at this;simpa using this
     obtain⟨fl,E⟩:∃fl,KB.K4 F p=some fl:=Option.isSome_iff_exists.mp gd.there;exists d,_,rfl,rZ.k (k:=Sum.inl p) j ?_
     ·have h2:=la.len;have h3:=Zph b;have h4:=fw.t;exact Nat.lt_of_le_of_lt (show h.length<=1000000 by omega) (show 1000000<sizeLine by decide)
     rw[Zjj _ hno];have nd':A≠d:=lE f j a8;have C:bB H (upd Hy d (.dK (h++[(Sum.inl p,.ref a)]))):=Mq I nd;have k1:TK Hy (upd Hy d (.dK (h++[(Sum.inl p,.ref a)]))):=Zuy j;have q1:upd Hy d (.dK (h++[(Sum.inl p,.ref a)])) A=some (.lst cf):=(aA nd').trans f;exists .inl ⟨rfl,_,cC.of q1⟩;ext;obtain⟨ca,room,used,born,cs,ho,hl,he⟩:=(v.same C).ex;have ho':=ho;obtain⟨⟨dx,o1⟩,o2⟩:=ho';refine aJ o1 T.cZ T.bZ bT ?_;ext;rcases Zlx hl he p with ⟨e1,_⟩ | ⟨fl',p',fa,b',u,t',l,e1,_,e3,e4,c⟩
     ·rw[E]at e1;cases e1
     rw[E]at e1;cases e1;refine fB (cC.of o2) (nu e4 e3) ?_;obtain⟨⟨dc,c1⟩,c2⟩:=c;refine aJ c1 T.dR T.gk jt ?_;ext;have hw:=Zmy b _ (List.mem_of_getElem? hq);have hgt:=fw.t;refine⟨hp,fa,a,F,fl,w,rfl,v.same C,cC.of c2,cP.of (k1 _ _ W),?_,?_,fw.g p fl E,λl2 us Y hl2 B hl2' qa2=>?_⟩
     ·obtain⟨r0,s0,fs0,_,e0,_⟩:=gd.ex;intro z;rw[show w=(p,w).2 from rfl,e0]at z;cases z
     ·simp only at hw;omega
     have hq2:Y A=some (.lst cf):=B _ _ q1;have hd2:Y d=some (.dK (h++[(Sum.inl p,.ref a)])):=B _ _ aq;have k2:=k1.trans (TK.same B);have k3:TK Y (upd Y A (.lst (ts.map V.ref++us.map V.ref))):=Zl0 hq2;have b2:=KB.Th.new b hq hnp E;have hb2:=b2.bound;rw[List.length_append,<- qa2.len,<- hlq]at hb2;apply⟨A,l2,_,_,rfl,rfl,hq2,hl2',by rw[aY,aY];exact bF δ,?_⟩;apply⟨_,_,_,_,_,_,rfl,⟨Mq (C.trans B) nq,nq,b2,by rw[List.length_append];omega,⟨ts++us,by rw[aq,List.map_append],(((D.tk k2).app qa2).tk k3)⟩,⟨_,by rw[aA nd'.symm];exact hd2,((la.tk k2).app ?_).tk k3⟩,nd⟩⟩;exact⟨⟨rfl,a,rfl,k2 _ _ W⟩,trivial⟩
    ·have hin:p∈N.map (·.1):=by
      have:=la.val p;cases e:gR h (Sum.inl p)with
      | none=>rw[e]at y;simp at y
      | some _=>rw[e]at this;simpa using this.symm
     apply⟨_,_,_,_,_,_,rfl,⟨I,nq,.old b hq hin,δ,⟨ts,f,D⟩,⟨h,j,la⟩,nd⟩⟩
   ·rw[aY]at z;have S:k=X.length:=δ
    subst S;apply⟨d,h,rfl,.inl j,λvw hvw=>?_⟩;ext;have C:=iJ (o:=G9 vw d) hvw;refine Zom aq (.inl (C _ _ j)) λl us Y hl B hl2 pa=>?_;apply q l us X N Y b ((I.trans C).free hl) ((I.trans C).trans B) hl2 ((la.tk (TK.same (C.trans B))).prs pa)
end
def fdOf(M:Wm):KB.Fd:=M.cells.map λo=>o.map (·.fl)
theorem WJ0.hv{X:Cs}{H:Hp}{T:Tg}{s:Nat}{A:Wa}{M:Wm}(j:WJ0 X H T s A M):HV X.C X.H H A.hp (fdOf M):=by
 have hl:=j.jc.lc;refine⟨A.ca,M.room,M.used,M.born,A.cs.map pV,j.hpO,by unfold fdOf;rw[aY,aY];exact hl,λi x hx=>?_⟩;unfold fdOf at hx;rw[cg]at hx;obtain⟨o,a,rfl⟩:=Option.map_eq_some_iff.mp hx;cases o with
 | none=>
  show(A.cs.map pV)[i]? =some .non;rw[cg,j.jc.at0 a];rfl
 | some c=>
  obtain⟨p,hp,ce⟩:=j.jc.at a;obtain⟨_,_,o1,o2⟩:=ce;exact⟨p.1,p.2,c.birth,c.bulk,c.tone,c.load,by rw[cg,hp];rfl,⟨o1,o2⟩⟩
theorem Zdp{M:Wm}(x:Int):KB.K4 (fdOf M) x=(cellAt M x).map (·.fl):=by
 unfold KB.K4 fdOf cellAt
 by_cases h:0<=x
 ·rw[if_pos h,if_pos h,cg];cases M.cells[x.toNat]? with
  | none=>rfl
  | some o=>cases o<;>rfl
 ·rw[if_neg h,if_neg h];rfl
section
variable {K:aC}{X:Cs}{H:Hp}{Q:VK}{E:XK}{n:ν}{bk ct:ν}
theorem Zh7{hp a wt:AI}{F:KB.Fd}{ps:Au}{w:AE}(q:HV X.C X.H H hp F/\cC K H a (ps.map oV)/\cP K H wt (w.map V.int)/\w≠[]/\w.length<=100000/\ps.length<=1000/\∀l ts H',H l=none->bB H H'->H' l=some (.lst cf)->Bs H' ts (KB.onw F w 0 ps)->Q (.ref l) H'):
  yO K (jw X.H) ξ [↑hp,↑a,↑wt] H:=by
 obtain⟨v,h1,h2,b,h4,h5,q⟩:=q;exact Zcr v h1 h2 b h4 h5 (λe=>Zqr e h2) q
theorem Zck{hp b:AI}{F:KB.Fd}{rs:AF}{R:KB.Rw}(T:oH K X)(q:HV X.C X.H H hp F/\cC K H b (rs.map V.ref)/\Br K H rs R/\Few F R/\∀l ts q a H',KB.Th F R q q.length a->H l=none->bB H H'->H' l=some (.lst cf)->Bs H' ts a->Q (.ref l) H'):
  Ao K (QL K X.C X.H) ξ [↑hp,↑b,none,none,none,none,none,none,none] H:=by
 obtain⟨v,h1,h2,d,q⟩:=q;exact ZC T.c v h1 h2 d q
end
def fO(a:Int):List (Str×Au)->Nat->Wm->AE×Wm
 | [],_,M=>([],M)
 | m::l,k,M=>if a / 2 ^ k % 2=1 then((aQ M m.2).1++(fO a l dC (aQ M m.2).2).1,(fO a l dC (aQ M m.2).2).2)else fO a l dC M
def lsE(x:Int):Nat->Nat->Int
 | _,0=>0
 | i,n+1=>if x / 2 ^ i % 2=0 then 2 ^ i else lsE x br n
def Jv(k:Nat)(lo:Int)(n:Nat):Int:=if k=0 then 0 else if k=1 then lsE lo 0 n else 2 ^ n - 1
theorem Oo(b:Int)(m:Str×Au):∀(l:List (Str×Au)) (k:Nat) (M:Wm),fO b (l++[m]) k M=if b / 2 ^ (k+l.length) % 2=1 then((fO b l k M).1++(aQ (fO b l k M).2 m.2).1,(aQ (fO b l k M).2 m.2).2)else fO b l k M
 | [],k,M=>by
  show(if b / 2 ^ k % 2=1 then((aQ M m.2).1++[],(aQ M m.2).2)else([],M))=_;rw[List.append_nil];rfl
 | a::l,k,M=>by
  have e:k+(a::l).length=k+1+l.length:=by rw[List.length_cons];omega
  rw[e,List.cons_append];show(if b / 2 ^ k % 2=1 then((aQ M a.2).1++(fO b (l++[m]) dC (aQ M a.2).2).1,(fO b (l++[m]) dC (aQ M a.2).2).2)else fO b (l++[m]) dC M)=_;show _=if b / 2 ^ (k+1+l.length) % 2=1 then(((if b / 2 ^ k % 2=1 then((aQ M a.2).1++(fO b l dC (aQ M a.2).2).1,(fO b l dC (aQ M a.2).2).2)else fO b l dC M)).1++(aQ (if b / 2 ^ k % 2=1 then((aQ M a.2).1++(fO b l dC (aQ M a.2).2).1,(fO b l dC (aQ M a.2).2).2)else fO b l dC M).2 m.2).1,(aQ (if b / 2 ^ k % 2=1 then((aQ M a.2).1++(fO b l dC (aQ M a.2).2).1,(fO b l dC (aQ M a.2).2).2)else fO b l dC M).2 m.2).2)else(if b / 2 ^ k % 2=1 then((aQ M a.2).1++(fO b l dC (aQ M a.2).2).1,(fO b l dC (aQ M a.2).2).2)else fO b l dC M)
  by_cases h:b / 2 ^ k % 2=1
  ·simp only[if_pos h];rw[Oo b m l dC]
   by_cases h2:b / 2 ^ (k+1+l.length) % 2=1
   ·simp only[if_pos h2,List.append_assoc]
   ·simp only[if_neg h2]
  ·simp only[if_neg h];rw[Oo b m l dC]
theorem DQ:∀{l:Au}{M:Wm},(aQ M l).2.hands=M.hands
 | [],_=>rfl
 | x::l,M=>by
  show(aQ (bV M x).2 l).2.hands=_;rw[DQ,Ju]
theorem xU(a:Int)(B:Nat):∀(l:List (Str×Au)) (k:Nat) (M:Wm),(∀m∈l,m.2.length<=B)->(fO a l k M).2.sw.phase=M.sw.phase/\(fO a l k M).2.sw.grey.length<=M.sw.grey.length+l.length * B/\(fO a l k M).1.length<=l.length * B/\(fO a l k M).2.hands=M.hands
 | [],_,_,_=>by simp[fO]
 | m::l,k,M,h=>by
  have hm:=h m ζ;have e:(m::l).length * B=l.length * B+B:=by rw[List.length_cons,Nat.succ_mul]
  unfold fO
  by_cases z:a / 2 ^ k % 2=1
  ·rw[if_pos z];obtain⟨b,d,g,c⟩:=xU a B l dC (aQ M m.2).2 λx hx=>h x (by simp[hx]);obtain⟨f,i⟩:=qQ (l:=m.2) (M:=M);have j:=uU (l:=m.2) (M:=M);exact⟨b.trans f,by show(fO a l dC (aQ M m.2).2).2.sw.grey.length<=_;omega,by show((aQ M m.2).1++_).length<=_;rw[List.length_append];omega,c.trans DQ⟩
  ·rw[if_neg z];obtain⟨b,d,g,c⟩:=xU a B l dC M λx hx=>h x (by simp[hx]);exact⟨b,δ,δ,c⟩
structure NtR(M M':Wm):Prop where
 rm:M'.room=M.room
 us:M'.used=M.used
 bn:M'.born=M.born
 hd:M'.hands=M.hands
 nm:M'.names=M.names
 ww:M'.w=M.w
 tl:M'.tells=M.tells
 sw:∃g,M'.sw={ M.sw with grey:=g }
 ce:M'.cells.map (λo=>o.map λc=>{ c with tone:=0 })=M.cells.map (λo=>o.map λc=>{ c with tone:=0 })
theorem NtR.refl(M:Wm):NtR M M:=⟨rfl,rfl,rfl,rfl,rfl,rfl,rfl,⟨_,rfl⟩,rfl⟩
theorem NtR.trans{M M1 M2:Wm}(a:NtR M M1)(b:NtR M1 M2):NtR M M2:=by
 obtain⟨j,c,v,r,o,m,p,⟨g,i⟩,d⟩:=a;obtain⟨e,s,t,k,q,h,l,⟨f,u⟩,n⟩:=b;exact⟨e.trans j,s.trans c,t.trans v,k.trans r,q.trans o,h.trans m,l.trans p,⟨f,by rw[u,i]⟩,n.trans d⟩
theorem Zke(M:Wm)(x:AA):NtR M (bV M x).2:=by
 cases x with
 | none=>exact NtR.refl M
 | some i=>
  unfold bV;dsimp only;cases hc:cellAt M i with
  | none=>exact NtR.refl M
  | some c=>
   dsimp only;split
   ·obtain⟨h0,h1⟩:=bK.mp hc;refine⟨rfl,rfl,rfl,rfl,rfl,rfl,rfl,⟨_,rfl⟩,?_⟩;show(M.cells.set i.toNat _).map _=_;rw[List.map_set];refine List.ext_getElem? λk=>?_
    by_cases z:i.toNat=k
    ·subst z;rw[List.getElem?_set_self (by rw[aY];exact(cG h1).1),cg,h1];rfl
    ·rw[List.getElem?_set_ne z]
   ·exact NtR.refl M
theorem yR:∀(l:Au) (M:Wm),NtR M (aQ M l).2
 | [],M=>NtR.refl M
 | x::l,M=>(Zke M x).trans (yR l _)
theorem GP(a:Int):∀(l:List (Str×Au)) (k:Nat) (M:Wm),NtR M (fO a l k M).2
 | [],_,M=>NtR.refl M
 | m::l,k,M=>by
  unfold fO;split
  ·exact(yR m.2 M).trans (GP a l dC _)
  ·exact GP a l dC M
theorem Zkl(a:Int)(l:List (Str×Au))(k:Nat)(M:Wm):(fO a l k M).2.sw.turn=M.sw.turn/\(fO a l k M).2.sw.looked=M.sw.looked/\(fO a l k M).2.sw.looks=M.sw.looks:=by
 obtain⟨g,e⟩:=(GP a l k M).sw;rw[e];exact⟨rfl,rfl,rfl⟩
theorem Zh8{M:Wm}{x:AA}(h:(bV M x).1=none):(bV M x).2=M:=by
 cases x with
 | none=>rfl
 | some i=>
  unfold bV at h ⊢;dsimp only at h ⊢;cases hc:cellAt M i with
  | none=>rfl
  | some c=>
   rw[hc]at h;dsimp only at h ⊢;split
   ·rename_i z
    rw[if_pos z]at h;cases h
   ·rfl
theorem Oi:∀{l:Au}{M:Wm},(aQ M l).1=[]->(aQ M l).2=M
 | [],_,_=>rfl
 | x::l,M,h=>by
  have h:ofN (bV M x).1++(aQ (bV M x).2 l).1=[]:=h;obtain⟨h1,h2⟩:=List.append_eq_nil_iff.mp h;have a:(bV M x).1=none:=by
   cases e:(bV M x).1 with
   | none=>rfl
   | some b=>rw[e]at h1;cases h1
  show(aQ (bV M x).2 l).2=M;rw[Oi h2,Zh8 a]
theorem Xj(a:Int):∀{l:List (Str×Au)}{k:Nat}{M:Wm},(fO a l k M).1=[]->(fO a l k M).2=M
 | [],_,_,_=>rfl
 | m::l,k,M,h=>by
  unfold fO at h ⊢;split
  ·rename_i z
   rw[if_pos z]at h;obtain⟨h1,h2⟩:=List.append_eq_nil_iff.mp h;show(fO a l dC (aQ M m.2).2).2=M;rw[Xj a h2,Oi h1]
  ·rename_i z
   rw[if_neg z]at h;exact Xj a h
theorem Z9:∀(l:List (Str×Au)) (k:Nat) (M:Wm),fO 0 l k M=([],M)
 | [],_,_=>rfl
 | m::l,k,M=>by
  unfold fO;rw[if_neg ζ,Z9 l dC M]
inductive vh(X:Cs)(wo:AI)(bits:Int)(H:Hp)(Q:VK):Prop
 | mk (T s A M) (_:WT H T) (_:s≠0) (_:WJ X H T s A M) (_:A.wo=wo) (_:(∀m∈M.hands,m.2.length<=100)) (_:(M.sw.phase="walk"->M.sw.grey.length<=5000)) (_:∀H' T' l,eO s H H' T T'->WJ X H' T' s A (fO bits M.hands 0 M).2->H' l=some (.lst ((fO bits M.hands 0 M).1.map V.int))->(H l=none/\TgO s (T' l))->Q (.ref l) H'):vh X wo bits H Q
def pC(X:Cs):Sp:=λvs H Q E=>∃wo a,vs=[.ref wo,.int a]/\vh X wo a H Q
def lR(k:Nat):Sp:=λvs H Q E=>∃a lo h,vs=[.ref a,.int lo,.int h]/\0<=h/\h<=30/\Q (.int (Jv k lo h.toNat)) H
section
variable {K:aC}{X:Cs}{H:Hp}{Q:VK}{E:XK}{n:ν}{bk ct:ν}
theorem HH{a:AI}(q:Q (.bl true) H):sZ ξ [↑a] H:=by
 unfold sZ;apply q
theorem Td{a:AI}(q:Q (.bl false) H):zQ ξ [↑a] H:=by
 unfold zQ;apply q
theorem yI{a:AI}{lo h:Int}(q:0<=h/\h<=30/\Q (.int (Jv 0 lo h.toNat)) H):nC ξ [↑a,some (.int lo),some (.int h)] H:=by
 unfold nC;apply q.2.2
theorem Gg{a:AI}{lo h:Int}(q:0<=h/\h<=30/\Q (.int (Jv 2 lo h.toNat)) H):qy QT ξ [↑a,some (.int lo),some (.int h)] H:=by
 obtain⟨h0,h1,q⟩:=q;unfold qy;apply⟨h,rfl,h0,h1,q⟩
theorem Gi{a:AI}{lo h:Int}(q:0<=h/\h<=30/\Q (.int (Jv 1 lo h.toNat)) H):qC ξ [↑a,some (.int lo),some (.int h),none] H:=by
 obtain⟨h0,h1,q⟩:=q;have q:Q (.int (lsE lo 0 h.toNat)) H:=q;unfold qC;exists h,rfl,δ,δ;refine forR (λi c d=>∃v,c=[↑a,some (.int lo),some (.int h),v]/\d=H/\(i<=h.toNat->lsE lo 0 h.toNat=lsE lo i (h.toNat - i))) ⟨none,rfl,rfl,λ_=>rfl⟩ ?_ ?_
 ·rintro i c d hi ⟨v,rfl,rfl,b⟩;have b:=b δ;have f:h.toNat - i=(h.toNat - br)+1:=δ
  rw[f]at b;have g:lsE lo i (h.toNat - (i+1)+1)=if lo / 2 ^ i % 2=0 then 2 ^ i else lsE lo br (h.toNat - br):=rfl
  rw[g]at b;have e:((0:Int)+(i:Int)).toNat=i:=δ
  ext;rw[e,Zt1];refine j9 dB dB
  ·rw[if_pos z]at b;apply i_I (Zq9 δ δ) ?_;rw[e,Int.one_mul,<- b];exact q
  ·rw[if_neg z]at b;apply⟨_,rfl,rfl,λ_=>b⟩
 ·rintro c d ⟨v,rfl,rfl,b⟩;have b:=b υ;rw[Nat.sub_self]at b;have b:lsE lo 0 h.toNat=0:=b;ext;rw[b]at q;exact q
theorem RC{wo:AI}{a:Int}(r:oH K X)(q:vh X wo a H Q):
  zG K (mV X) ξ [↑wo,some (.int a),none,none,none] H:=by
 obtain⟨T,s,A,M,w,s0,j,rfl,hs,hg,q⟩:=q;have lh:=j.jd.lh;have l5:=j.jd.l5;unfold zG;apply⟨bF ζ,λl hl=>?_⟩;have st1:eO s H eP T (cN T l (s+1,1)):=eO.fresh w hl;have k:WJ X eP (cN T l (s+1,1)) s A M:=j.fresh hl;have R:upd H l (.lst []) l=some (.lst []):=aq;have tl:cN T l (s+1,1) l=(s+1,1):=cH;generalize upd H l (.lst [])=H1 at st1 k R ⊢;generalize cN T l (s+1,1)=T1 at st1 k tl;obtain⟨dw,ow⟩:=k.jb.ow;apply aJ ow r.cW r.nWd dO ?_;apply⟨A.hl,rfl,⟨_,cC.of k.jb.on⟩,Zsp (A.hs.map λp=>V.ref p.1) (λi P e=>∃L N D,P=[↑A.wo,some (.int a),↑l,N,D]/\eO s H e T L/\L l=(s+1,1)/\WJ X e L s A (fO a (M.hands.take i) 0 M).2/\e l=some (.lst ((fO a (M.hands.take i) 0 M).1.map V.int))) ⟨T1,_,_,rfl,st1,tl,k,R⟩ (by rintro _ _ _ _ ⟨_,_,_,_,_,_,z,_⟩;exact cC.of z.jb.on) ?_ ?_⟩
 ·rintro i x t P e hx ⟨o,N,D,rfl,st2,b,B,v⟩ ht;rw[cg]at hx;obtain⟨p,hp,rfl⟩:=Option.map_eq_some_iff.mp hx;have Y:i<A.hs.length:=(cG hp).1;obtain⟨m,hm⟩:∃m,M.hands[i]? =some m:=⟨_,bD δ⟩;have J:M.hands.take br=M.hands.take i++[m]:=by rw[List.take_add_one,hm];rfl
  have g:(M.hands.take i).length=i:=by rw[List.length_take];omega
  obtain⟨n1,n2,n3,n4⟩:=xU a 100 (M.hands.take i) 0 M λx hx=>hs x (List.mem_of_mem_take hx);have d:=Oo a m (M.hands.take i) 0 M;rw[<- J,Nat.zero_add,g]at d;generalize zz:upd e t _=H3;obtain⟨E,I⟩:=nwO ht zz;have C:=B.same E;have st3:=st2.trans (eO.same (s:=s) st2.wt E);have u:=E _ _ v;refine⟨t,_,rfl,cP.of I,rfl,.int i,_,rfl,?_⟩;exists .ref p.1,_,rfl;exists rfl;ext;rw[Zt1,Int.toNat_natCast];refine j9 dB dB
  ·rw[if_pos z]at d;exists .inl ⟨rfl,_,cC.of u⟩;have f:(fO a (M.hands.take i) 0 M).2.hands[i]? =some m:=by rw[n4];exact hm
   have hd:=C.jd.hd i p m hp f;obtain⟨dx,o1⟩:=hd.o1;have F:=hs m (List.mem_of_getElem? hm);have hB:(M.hands.take i).length * 100<=3000:=by rw[g];omega
   apply aJ o1 r.cD r.nDs pX ?_;apply⟨_,_,rfl,m.2,o,s,A,_,st3.wt,s0,C,rfl,.inr (.inl ⟨i,p,m,hp,f,rfl,rfl⟩),F,λy=>?_,λH4 S Z c U W nl4=>?_⟩
   ·have:=hg (n1.symm.trans y);omega
   have O:H4 l=some (.lst ((fO a (M.hands.take i) 0 M).1.map V.int)):=c.kp _ _ u (by rw[b];show s+1≠s;omega);have nl:=uU (l:=m.2) (M:=(fO a (M.hands.take i) 0 M).2);apply⟨l,Z,_,_,rfl,rfl,O,W,by rw[aY,aY];exact bF δ,?_⟩;ext;have h:S l=(s+1,1):=(c.tg _ _ u).trans b;refine⟨S,_,_,rfl,eO.new (st3.trans c) hl O,h,?_,?_⟩
   ·rw[d];exact U.other (s':=s+1) (eO.upd c.wt O (by rw[h])) δ δ
   ·rw[d,aq,List.map_append]
  ·rw[if_neg z]at d;apply⟨o,_,_,rfl,st3,b,by rw[d];exact C,by rw[d];exact u⟩
 ·rintro P e ⟨o,N,D,rfl,st2,b,B,v⟩;ext;rw[aY,lh,List.take_length]at B v;exact q e o l st2 B v ⟨hl,by rw[b];exact .inr rfl⟩
end
structure Zig(M:Wm):Prop where
 cl:M.cells.length<=900
 hl:∀m∈M.hands,m.2.length<=100
 fl:∀c,some c∈M.cells->c.fl.length<=50
 nl:M.names.length<=900
 gl:M.sw.phase="walk"->M.sw.grey.length<=900
 gc:M.sw.phase="walk"->∀x∈M.sw.grey,∃c,cellAt M x=some c
 ph:M.sw.phase="rest"\/M.sw.phase="walk"\/M.sw.phase="give"\/M.sw.phase="lost"
 a0:0<=M.sw.at'
inductive Zqc(H:Hp)(T:Tg)(M:Wm)(b:Int)(w:AE):Prop
 | mk (a wl) (_:M.sw.loss=.ref a) (_:T a=(0,0)) (_:H a=some (.tup [.str "lost",.int b,.ref wl])) (_:T wl=(0,0)) (_:H wl=some (.lst (w.map V.int))):Zqc H T M b w
inductive Zmt(H0 H:Hp)(T:Tg)(fr:Prop)(M:Wm)(b:Int)(w:AE)(ev:AI):Prop
 | mk (a wl) (_:M.sw.loss=.ref a) (_:T a=(0,0)) (_:H a=some (.tup [.str "lost",.int b,.ref wl])) (_:T wl=(0,0)) (_:H wl=some (.lst (w.map V.int))) (_:(∀x y l,H ev=some (.tup [x,y,.ref l])->wl≠l)) (_:(fr->H0 wl=none)):Zmt H0 H T fr M b w ev
def mD(M:Wm)(i:Nat):Option Ce:=((M.cells[i]?).join).bind λc=>if c.tone=M.sw.sense then none else some c
def pN(M:Wm):AE:=(List.range M.cells.length).filterMap λi=>(mD M i).map λ_=>(i:Int)
def jg(M:Wm):AE:=(List.range M.cells.length).filterMap λi=>(mD M i).map (·.birth)
def fW(M:Wm):Wm:={ M with sw:={ M.sw with stop:=M.cells.length,at':=0 } }
def bI(M:Wm):Int:=Jv M.w.toNat M.sw.looked M.hands.length
def yj(M:Wm):Prop:=bI M=0\/(M.w=2/\(fO bi M.hands 0 M).1=[])
inductive lQ(lb:Int)(lw:AE)(M:Wm):Ev->Wm->Prop
 | begin:M.sw.phase="rest"->lQ lb lw M ⟨"begin",some (M.sw.turn+1),(fO (gP M.w M.hands.length) M.hands 0 (jA M)).1⟩ (fO (gP M.w M.hands.length) M.hands 0 (jA M)).2
 | walk (x:Int) (g:AE) (c:Ce):M.sw.phase="walk"->M.sw.grey=x::g->cellAt M x=some c->lQ lb lw M ⟨"walk",some c.birth,(aQ { M with sw:={ M.sw with grey:=g,walks:=M.sw.walks+1 } } c.fl).1⟩ (aQ { M with sw:={ M.sw with grey:=g,walks:=M.sw.walks+1 } } c.fl).2
 | look (N:Wm):M.sw.phase="walk"->M.sw.grey=[]->¬ yj M->N=(fO (bI M) M.hands 0 M).2->lQ lb lw M ⟨"look",some (bI M),(fO (bI M) M.hands 0 M).1⟩ { N with sw:={ N.sw with looks:=N.sw.looks+1,looked:=if M.w=2 then N.sw.looked else Builtin.bitOr N.sw.looked (bI M) } }
 | cut (q qs:List (Int×AE)):M.sw.phase="walk"->M.sw.grey=[]->yj M->KB.Th (fdOf M) (iw M) q q.length qs->(∀x∈qs,∀c,cellAt M x.1=some c->c.tone=M.sw.sense)->lQ lb lw M ⟨"cut",some (jg M).length,jg M⟩ { fW M with sw:={ (fW M).sw with phase:="give" } }
 | lost (q qs:List (Int×AE)) (i:Nat) (x:Int×AE) (c:Ce) (v:V):M.sw.phase="walk"->M.sw.grey=[]->yj M->KB.Th (fdOf M) (iw M) q q.length qs->qs[i]? =some x->(∀(k:Nat) y d,k<i->qs[k]? =some y->cellAt M y.1=some d->d.tone=M.sw.sense)->cellAt M x.1=some c->c.tone≠M.sw.sense->lQ lb lw M ⟨"lost",some c.birth,x.2⟩ { fW M with sw:={ (fW M).sw with phase:="lost",loss:=v } }
 | pass:M.sw.phase="give"->M.sw.at'<M.sw.stop->(∀c,cellAt M M.sw.at'=some c->c.tone=M.sw.sense)->lQ lb lw M ⟨"pass",some M.sw.at',[]⟩ { M with sw:={ M.sw with at':=M.sw.at'+1,passes:=M.sw.passes+1 } }
 | back (c:Ce):M.sw.phase="give"->M.sw.at'<M.sw.stop->cellAt M M.sw.at'=some c->c.tone≠M.sw.sense->lQ lb lw M ⟨"back",some c.birth,[M.sw.at']⟩ { M with used:=M.used - (1+c.fl.length+c.bulk),cells:=M.cells.set M.sw.at'.toNat none,sw:={ M.sw with at':=M.sw.at'+1,passes:=M.sw.passes+1 } }
 | fin:M.sw.phase="give"->¬ M.sw.at'<M.sw.stop->lQ lb lw M ⟨"end",some M.sw.turn,[M.sw.walks,M.sw.looks,M.sw.passes]⟩ { M with sw:={ M.sw with phase:="rest" } }
 | again:M.sw.phase="lost"->lQ lb lw M ⟨"lost",some lb,lw⟩ M
inductive wN(X:Cs)(P:Wm->Prop)(wo:AI)(H:Hp)(Q:VK):Prop
 | mk (T s A M lb lw) (_:WT H T) (_:s≠0) (_:WJ X H T s A M) (_:A.wo=wo) (_:Zig M) (_:P M) (_:(M.sw.phase="lost"->Zqc H T M lb lw)) (_:∀e M',lQ lb lw M e M'->∀H' T' A' a,eO s H H' T T'->WJ X H' T' s A' M'->A'.wo=wo->EvN H H' T' s a e->(M'.sw.phase="lost"->∃b,e.thing=some b/\Zmt H H' T' (M.sw.phase≠"lost") M' b e.notes a)->Q (.ref a) H'):wN X P wo H Q
def cV(X:Cs)(P:Wm->Prop):Sp:=λvs H Q E=>∃wo,vs=[.ref wo]/\wN X P wo H Q
def Zjz(M:Wm):Prop:=M.sw.phase="walk"/\M.sw.grey≠[]
def Zk2(M:Wm):Prop:=M.sw.phase="walk"/\M.sw.grey=[]
def Zk3(M:Wm):Prop:=M.sw.phase="walk"/\M.sw.grey=[]/\yj M
def Zk1(M:Wm):Prop:=M.sw.phase="give"/\M.sw.at'<M.sw.stop
def pEnd(M:Wm):Prop:=M.sw.phase="give"/\¬ M.sw.at'<M.sw.stop
def U6(z:Str)(M:Wm):Prop:=M.sw.phase=z
def Znr(_:Wm):Prop:=True
inductive vg(K:aC)(ev:AI)(H:Hp)(Q:VK):Prop
 | mk (z b l) (ns:AE) (_:H ev=some (.tup [.str z,.int b,.ref l])) (_:H l=some (.lst (ns.map V.int))) (_:∀a l' H',bB H H'->H a=none->H l'=none->H' a=some (.tup [.str z,.int b,.ref l'])->H' l'=some (.lst (ns.map V.int))->Q (.ref a) H'):vg K ev H Q
def vA(K:aC):Sp:=λvs H Q E=>∃ev,vs=[.ref ev]/\vg K ev H Q
inductive Bj(X:Cs)(wo:AI)(H:Hp)(Q:VK):Prop
 | mk (T s A M) (_:WJ X H T s A M) (_:A.wo=wo) (_:M.cells.length<=900) (_:∀l H',bB H H'->H l=none->H' l=some (.lst ((pN M).map V.int))->Q (.ref l) H'):Bj X wo H Q
def QM(X:Cs):Sp:=λvs H Q E=>∃wo,vs=[.ref wo]/\Bj X wo H Q
section
variable {K:aC}{X:Cs}{H:Hp}{Q:VK}{E:XK}{n:ν}{bk ct:ν}
theorem Q7{ev:AI}(q:vg K ev H Q):
  zB K ξ [↑ev] H:=by
 obtain⟨z,b,l,ns,o1,o2,q⟩:=q;unfold zB;exists ev,_,0,_,rfl,rfl,cP.of o1,rfl;exists ev,_,1,_,rfl,rfl,cP.of o1,rfl;exists ev,_,2,_,rfl,rfl,cP.of o1,rfl;apply Li (cC.of o2) λd c=>?_;generalize zz:upd H d _=H1;obtain⟨e,h⟩:=nwO c zz;apply⟨bF ζ,λa g=>?_⟩;have f:=aL g (.tup [.str z,.int b,.ref d]);exact q a d _ (e.trans f) (e.free g) c aq (f _ _ h)
theorem Qi{a b:Type}{f g:a->Option b}:∀{l:List a},(∀x∈l,f x=g x)->l.filterMap f=l.filterMap g
 | [],_=>rfl
 | x::l,h=>by
  rw[List.filterMap_cons,List.filterMap_cons,h x ζ,Qi λy hy=>h y (by simp[hy])]
theorem ZK{a b:Type}(f:a->Option b):∀(xs:List a),(List.range xs.length).filterMap (λi=>(xs[i]?).bind f)=xs.filterMap f
 | []=>rfl
 | x::xs=>by
  rw[List.length_cons,List.range_succ_eq_map,List.filterMap_cons];simp only[List.getElem?_cons_zero,Option.bind_some,List.filterMap_map,List.filterMap_cons];have e:((λi=>((x::xs)[i]?).bind f) ∘ Nat.succ)=λi=>(xs[i]?).bind f:=by
   funext i
   simp
  rw[e,ZK f xs]
theorem Zh2{A:Wa}{M:Wm}{T:Tg}{s:Nat}(j:WJ X H T s A M)(f:V->Option V)(d:∀(i:Nat) (c:Ce),M.cells[i]? =some (some c)->f (.int i)=(mD M i).map λ_=>V.int i):((plc dQ).map V.int).filterMap f=(pN M).map V.int:=by
 unfold plc pN;rw[List.filterMap_map,List.filterMap_map,List.filterMap_filter,List.map_filterMap,aY,j.jc.lc];refine Qi λi hi=>?_;have a:=List.mem_range.mp hi;have e:(A.cs.map pV)[i]? =some V.non↔M.cells[i]? =some none:=by
  constructor
  ·intro z;cases hc:M.cells[i]with
   | none=>rw[bD a,hc]
   | some c=>
    obtain⟨p,hp,_⟩:=j.jc.at (i:=i) (c:=c) (by rw[bD a,hc]);rw[cg,hp]at z;cases z
  ·intro z;rw[cg,j.jc.at0 z];rfl
 by_cases z:M.cells[i]? =some none
 ·rw[if_neg (by simp[e.mpr z])];unfold mD;rw[z];rfl
 ·have b:¬ (A.cs.map pV)[i]? =some V.non:=λy=>z (e.mp y);rw[if_pos (by simp only[b,decide_false,Bool.not_false])];cases hc:M.cells[i]with
  | none=>exact absurd (by rw[bD a,hc]) z
  | some c=>
   show f (.int (i:Int))=_;rw[d i c (by rw[bD a,hc]),Option.map_map];rfl
theorem Zat{wo:AI}(d:oH K X)(q:Bj X wo H Q):
  xJ K X.H (vG X.H) (iZ X) ξ [↑wo,none] H:=by
 obtain⟨T,s,A,M,j,rfl,hc,q⟩:=q;obtain⟨J,ow⟩:=j.jb.ow;obtain⟨D,oh⟩:=j.jh.oh;unfold xJ;apply aJ ow d.cW d.RL bG ?_;apply Zfo ?_;exists A.hp,D,_,rfl,oh,Qg;apply⟨_,rfl,A.ca,M.room,M.used,M.born,_,j.hpO,by rw[aY,j.jc.lc];omega,λlt g=>?_⟩;generalize zz:upd H lt _=H1;obtain⟨o,t⟩:=nwO g zz;have e:=j.same o;have I:(plc dQ).length<=900:=by
  unfold plc;rw[aY];refine Nat.le_trans (List.length_filter_le _ _) ?_;rw[List.length_range,aY,j.jc.lc];exact hc
 refine⟨lt,rfl,⟨_,cC.of t⟩,?_⟩
 let f:V->Option V:=λv=>match v with
  | .int p=>(mD M p.toNat).map λ_=>V.int p
  | _=>none
 refine Zfj (cC.of t) (λi=>(((plc dQ).map V.int)[i]?).bind f) (by rw[aY];omega) (λi x hi=>?_) ?_
 ·rw[cg]at hi;obtain⟨p,hp,rfl⟩:=Option.map_eq_some_iff.mp hi;have hm:=List.mem_of_getElem? hp;unfold plc at hm;obtain⟨k,hk,rfl⟩:=List.mem_map.mp hm;obtain⟨l,m⟩:=List.mem_filter.mp hk;have b:k<M.cells.length:=by
   have:=List.mem_range.mp l;rw[aY,j.jc.lc]at this;exact this
  obtain⟨c,a⟩:∃c,M.cells[k]? =some (some c):=by
   cases B:M.cells[k]with
   | none=>
    exfalso
    have:(A.cs.map pV)[k]? =some V.non:=by rw[cg,j.jc.at0 (i:=k) (by rw[bD b,B])];rfl
    simp[this]at m
   | some c=>exact⟨c,by rw[bD b,B]⟩
  obtain⟨w,r,ce⟩:=e.jc.at a;have u:(((plc dQ).map V.int)[i]?).bind f=(mD M k).map λ_=>V.int (k:Int):=by
   rw[cg,hp];show(mD M (Int.toNat k)).map _=_;rw[Int.toNat_natCast]
  have F:(mD M k)=if c.tone=M.sw.sense then none else some c:=by unfold mD;rw[a];rfl
  obtain⟨E,h⟩:=e.jh.oh;refine⟨λq hq=>?_,λy q hy hq=>?_⟩
  ·rw[u,F]at hq;walk_at"c";apply aJ h d.c.cZ d.c.bZ bT ?_;apply fB (cC.of e.jh.oc) (fG (v:=.ref w.1) (by rw[cg,r];rfl)) ?_;exists _,_,rfl,T,s,A,M,_,w,c,e.w0,rfl,ce,rfl;ext
   by_cases z:c.tone=M.sw.sense
   ·rw[if_pos z]at hq;rw[decide_eq_true z];exact hq
   ·rw[if_neg z]at hq;rw[decide_eq_false z];exact hq
  ·rw[u]at hy;obtain⟨_,_,rfl⟩:=Option.map_eq_some_iff.mp hy;walk_at"c";apply hq
 ·intro p C;rw[ZK f,Zh2 j f (λi c hc=>by show(mD M (Int.toNat i)).map _=_;rw[Int.toNat_natCast])];exact q p _ (o.trans (aL C _)) (o.free C) aq
theorem Ku{wo:AI}(c:oH K X)(q:wN X (U6 "rest") wo H Q):vX K (Zgd X) (pC X) ξ [↑wo,none] H:=by
 obtain⟨T,s,A,M,lb,E,w,k,j,rfl,ok,ph,lo,q⟩:=q;unfold vX;apply⟨_,rfl,T,s,A,M,w,k,j,rfl,λB x m st1 o b=>?_⟩;obtain⟨C,ow⟩:=o.jb.ow;obtain⟨D,os⟩:=o.js.os;rw[b]at ow;apply aJ ow c.cW c.Ve bw ?_;apply aJ os c.cS c.n4 gw ?_;apply⟨_,_,rfl,x,s,m,_,st1.wt,k,o,b,ok.hl,λ_=>Nat.zero_le _,λt u l st2 f h e=>?_⟩;have f:WJ X t u s m (fO cT M.hands 0 (jA M)).2:=f;have h:t l=some (.lst ((fO cT M.hands 0 (jA M)).1.map V.int)):=h;obtain⟨v,d⟩:=f.jb.ow;obtain⟨y,p⟩:=f.js.os;rw[b]at d;have i:=Zkl cT M.hands 0 (jA M);apply aJ d c.cW c.Ve bw ?_;apply aJ p c.cS c.n5 pI ?_;apply⟨bF ζ,λa r=>?_⟩;rw[i.1];have g:=aL r (.tup [.str "begin",.int (M.sw.turn+1),.ref l]);refine q _ _ (.begin ph) _ u m a (st1.trans (st2.trans (eO.same st2.wt g))) (f.same g) b ⟨l,⟨eO.free st1 e.1,e.2,(rC st2.wt k r).2⟩,aq,g _ _ h⟩ λz=>?_;have:=(xU cT 100 M.hands 0 (jA M) ok.hl).1;rw[this]at z;exact absurd z (show ¬ ("walk":Str)="lost" by decide)
end
inductive vo(X:Cs)(wo:AI)(H:Hp)(Q:VK):Prop
 | mk (T s A M) (_:WT H T) (_:s≠0) (_:WJ X H T s A M) (_:A.wo=wo) (_:Zig M) (_:(∀q qs H',KB.Th (fdOf M) (iw M) q q.length qs->(∀x∈qs,∀c,cellAt M x.1=some c->c.tone=M.sw.sense)->bB H H'->Q .non H')) (_:(∀q qs (i:Nat) x c a wl H',KB.Th (fdOf M) (iw M) q q.length qs->qs[i]? =some x->(∀(k:Nat) y d,k<i->qs[k]? =some y->cellAt M y.1=some d->d.tone=M.sw.sense)->cellAt M x.1=some c->c.tone≠M.sw.sense->bB H H'->H a=none->H wl=none->H' a=some (.tup [.str "lost",.int c.birth,.ref wl])->H' wl=some (.lst (x.2.map V.int))->Q (.ref a) H')):vo X wo H Q
def Ge(X:Cs):Sp:=λvs H Q E=>∃wo,vs=[.ref wo]/\vo X wo H Q
section
variable {K:aC}{X:Cs}{H:Hp}{Q:VK}{E:XK}{n:ν}{bk ct:ν}
theorem Ziv{a:Type}(f:a->Nat)(B:Nat):∀(xs:List a),(∀x∈xs,f x<=B)->(xs.map f).sum<=xs.length * B
 | [],_=>ζ
 | x::xs,h=>by
  have h1:=h x ζ;have h2:=Ziv f B xs λy hy=>h y (by simp[hy]);rw[List.map_cons,List.sum_cons,List.length_cons,Nat.succ_mul];omega
theorem Zq4{a b:Type}(f:a->List b)(B:Nat):∀(xs:List a),(∀x∈xs,(f x).length<=B)->(xs.flatMap f).length<=xs.length * B
 | [],_=>ζ
 | x::xs,h=>by
  have h1:=h x ζ;have h2:=Zq4 f B xs λy hy=>h y (by simp[hy]);rw[List.flatMap_cons,List.length_append,List.length_cons,Nat.succ_mul];omega
theorem Zsr{M:Wm}{T:Tg}{s:Nat}{A:Wa}(j:WJ X H T s A M)(ok:Zig M):Few (fdOf M) (iw M):=by
 have l5:=j.jd.l5;have lh:=j.jd.lh;have hl:(heldOf M).length=M.hands.length:=by unfold heldOf;rw[aY]
 have hr:(iw M).length<=31:=by unfold iw;rw[List.length_append,hl,<- lh];simp;omega
 have a:∀x∈iw M,x.length<=900:=λx hx=>by
  unfold iw at hx;rcases List.mem_append.mp hx with hx | hx
  ·obtain⟨m,hm,rfl⟩:=List.mem_map.mp hx;exact Nat.le_trans (ok.hl m hm) ε
  ·rw[List.mem_singleton.mp hx];unfold nA;rw[aY];exact ok.nl
 have f:(fdOf M).length=M.cells.length:=by unfold fdOf;rw[aY]
 have d:=ok.cl;have b:∀(i:Nat) x,(fdOf M)[i]? =some x->KB.wgt x<=50:=λi x hx=>by
  unfold fdOf at hx;rw[cg]at hx;obtain⟨o,e,rfl⟩:=Option.map_eq_some_iff.mp hx;cases o with
  | none=>exact Nat.zero_le _
  | some c=>exact ok.fl c (List.mem_of_getElem? e)
 refine⟨δ,λp fl hp=>?_,δ,λx hx=>by have:=a x hx;omega,?_⟩
 ·rw[Zdp]at hp;obtain⟨c,hc,rfl⟩:=Option.map_eq_some_iff.mp hp;have:=ok.fl c (qb hc);omega
 ·unfold KB.total;have h1:(KB.q0 (fdOf M) 0 (iw M)).length<=31 * 900:=by
   unfold KB.q0;refine Nat.le_trans (Zq4 _ 900 _ λx hx=>?_) (by rw[List.length_zipIdx];exact Nat.mul_le_mul_right _ hr);refine Nat.le_trans KB.Le (a x.1 ?_);obtain⟨_,h2⟩:=List.mem_zipIdx_iff_le_and_getElem?_sub.mp hx;exact List.mem_of_getElem? h2
  have h2:KB.Zbx (fdOf M) []<=900 * 50:=by
   unfold KB.Zbx;refine Nat.le_trans (Ziv _ 50 _ λx hx=>?_) (by rw[List.length_zipIdx,f];exact Nat.mul_le_mul_right _ d);obtain⟨_,h2⟩:=List.mem_zipIdx_iff_le_and_getElem?_sub.mp hx;simp only[List.map_nil,List.not_mem_nil,↓reduceIte];exact b _ _ h2
  omega
theorem Zez{M:Wm}:∀{rows:List Au}{a:AF},a.length=rows.length->(∀(j:Nat) r x,a[j]? =some r->rows[j]? =some x->H r=some (.lst (x.map oV)))->Br K H a rows
 | [],[],_,_=>trivial
 | [],_::_,h,_=>by simp at h
 | _::_,[],h,_=>by simp at h
 | x::rows,r::a,h,g=>⟨cC.of (g 0 r x rfl rfl),Zez (M:=M) (by simpa using h) λj r x b c=>g (j+1) r x (by simpa using b) (by simpa using c)⟩
theorem SJ{wo:AI}(g:oH K X)(q:vo X wo H Q):
  zJ K (iZ X) (Wc K X.C X.H) (Zgb X) ξ [↑wo,none,none,none] H:=by
 obtain⟨T,s,A,M,w,s0,j,rfl,ok,q1,q2⟩:=q;obtain⟨dw,ow⟩:=j.jb.ow;have l5:=j.jd.l5;have lh:=j.jd.lh;have nl:=ok.nl;unfold zJ;apply aJ ow g.cW g.RL bG ?_;apply⟨_,rfl,T,s,A,M,s0,j,rfl,δ,δ,λra rs H1 s1 nra F U nrs nrl g1=>?_⟩;apply⟨A.hp,ra,fdOf M,rs,iw M,rfl,(j.same s1).w0.hv,cC.of F,Zez (M:=M) U g1,Zsr j ok,λl ts q m H2 S nl2 s2 ol qa=>?_⟩;have b:=s1.trans s2;have E:=j.same b;have good:=S.good.2;have p:=qa.len;obtain⟨dw2,O⟩:=E.jb.ow;obtain⟨dh2,I⟩:=E.jh.oh;refine⟨l,rfl,⟨_,cC.of ol⟩,forL cf (λi Z B=>∃J W R,Z=[↑A.wo,J,W,R]/\B=H2/\∀(k:Nat) y d,k<i->m[k]? =some y->cellAt M y.1=some d->d.tone=M.sw.sense) ⟨_,_,_,rfl,rfl,λk y d hk=>absurd hk (Nat.not_lt_zero _)⟩ (by rintro _ _ _ _ ⟨_,_,_,_,z,_⟩;rw[z];exact cC.of ol) ?_ ?_⟩
 ·rintro i x Z B hi ⟨J,W,R,rfl,rfl,f⟩;rw[cg]at hi;obtain⟨t,ht,rfl⟩:=Option.map_eq_some_iff.mp hi;have u:i<m.length:=by rw[<- p];exact(cG ht).1
  obtain⟨t',wa,et,ot,o⟩:=qa.at (bD u);rw[ht]at et;cases et;have hx:m[i]? =some m[i]:=bD u;generalize m[i]=x at hx ot o;obtain⟨fl,r⟩:=Option.isSome_iff_exists.mp (good x (List.mem_of_getElem? hx)).there;rw[Zdp]at r;obtain⟨c,hc,_⟩:=Option.map_eq_some_iff.mp r;obtain⟨x0,hcc⟩:=bK.mp hc;obtain⟨pp,Y,ce⟩:=E.jc.at hcc;obtain⟨_,_,⟨dc,oc⟩,_⟩:=id ce;refine⟨t,_,rfl,cP.of ot,rfl,?_⟩;refine⟨_,_,rfl,?_⟩;exists _,_,rfl;exists rfl;apply aJ O g.cW g.RL bG ?_;refine aJ I g.c.cZ g.c.bZ bT ?_;apply fB (cC.of E.jh.oc) (nu (v:=.ref pp.1) x0 (by rw[cg,Y];rfl)) ?_;exists _,_,rfl,T,s,A,M,_,pp,c,E.w0,rfl,ce,rfl;apply Zdf dB dB
  ·apply aJ oc g.c.dR g.c.eN fV ?_;apply Zol (cP.of o) λN D=>?_;generalize zz:upd B N _=H3;obtain⟨s3,g3⟩:=nwO D zz;apply⟨bF ζ,λa na=>?_⟩;have s4:=aL na (.tup [.str "lost",.int c.birth,.ref N]);exact q2 q m i x c a N _ S hx f hc z (b.trans (s3.trans s4)) (b.free (s3.free na)) (b.free D) aq (s4 _ _ g3)
  ·apply⟨_,_,_,rfl,rfl,λk y d hk L P=>?_⟩
   by_cases h:k<i
   ·exact f k y d h L P
   ·have:k=i:=δ
    subst this;rw[hx]at L;cases L;rw[hc]at P;cases P;exact z
 ·rintro Z B ⟨J,W,R,rfl,rfl,f⟩;rw[aY,p]at f;apply q1 q m B S (λx hx c hc=>?_) b;obtain⟨k,hk,e⟩:=List.getElem_of_mem hx;exact f k x c hk (by rw[bD hk,e]) hc
theorem W5{M:Wm}:((pN M).map some).map (jW M)=(jg M).map some:=by
 unfold pN jg;rw[List.map_map,List.map_filterMap,List.map_filterMap];refine Qi λi hi=>?_;rw[Option.map_map,Option.map_map];cases hp:mD M i with
 | none=>rfl
 | some c=>
  unfold mD at hp;obtain⟨d,hd,e⟩:=Option.bind_eq_some_iff.mp hp;have a:d=c:=by
   split at e
   ·cases e
   ·exact Option.some.inj e
  subst a;show some (jW M (some (i:Int)))=some (some d.birth);have:cellAt M (i:Int)=some d:=by
   unfold cellAt;rw[if_pos δ,Int.toNat_natCast,hd]
  show some ((cellAt M (i:Int)).map _)=_;rw[this];rfl
theorem Zcp{M:Wm}(h:M.cells.length<=900):(jg M).length<=900/\(pN M).length<=900:=by
 unfold jg pN;have h1:=List.length_filterMap_le (λi=>(mD M i).map (·.birth)) (List.range M.cells.length);have h2:=List.length_filterMap_le (λ(i:Nat)=>(mD M i).map λ_=>(i:Int)) (List.range M.cells.length);rw[List.length_range]at h1 h2;exact⟨δ,δ⟩
theorem Zsy{wo:AI}(d:oH K X)(q:wN X Zk3 wo H Q):Zjc K (Ka X) (Ge X) (QM X) (vA K) ξ [↑wo,none,none,none] H:=by
 obtain⟨T,s,A,M,lb,lw,w,m,j,rfl,ok,⟨ph,gr,cd⟩,lo,q⟩:=q;obtain⟨dw,ow⟩:=j.jb.ow;obtain⟨N,os⟩:=j.js.os;obtain⟨dh,oh⟩:=j.jh.oh;have u:=ok.cl;unfold Zjc;apply aJ ow d.cW d.Ve bw ?_;apply aJ ow d.cW d.RL bG ?_;refine aJ oh d.c.cZ d.c.bZ bT ?_;apply eZ (cC.of j.jh.oc) ?_;rw[aY,j.jc.lc];apply⟨A.sw,X.S,N,_,rfl,os,d.cS,d.n7,by show 11<1000;decide,?_⟩;rw[Ko];apply⟨A.sw,X.S,N,_,rfl,aq,d.cS,d.n6,by show 11<1000;decide,?_⟩;rw[zq,dz];obtain⟨st1,t⟩:=j.sweep w m (dx:=N) { M.sw with stop:=M.cells.length,at':=0 } rfl;have t:WJ X _ T s A (fW M):=t;generalize upd H A.sw (.ins X.S N (bQ M.sw.sense M.sw.phase A.gr M.sw.looked M.sw.turn 0 M.cells.length M.sw.walks M.sw.looks M.sw.passes M.sw.loss))=H1 at st1 t ⊢;have W:Zig (fW M):=⟨ok.cl,ok.hl,ok.fl,ok.nl,ok.gl,ok.gc,ok.ph,Int.le_refl _⟩;apply⟨_,rfl,T,s,A,fW M,st1.wt,m,t,rfl,W,λR U D Z o h=>?_,λR U i x c a C D Z hx o hc ht h O F oa I=>?_⟩
 ·have r:=t.same h;obtain⟨dw2,ow2⟩:=r.jb.ow;obtain⟨b,f⟩:=r.js.os;apply⟨A.sw,X.S,b,_,rfl,f,d.cS,d.n2,by show 11<1000;decide,?_⟩;rw[jM];obtain⟨st3,e⟩:=r.sweep (st1.wt.same h) m (dx:=b) { (fW M).sw with phase:="give" } rfl;have e:WJ X _ T s A { fW M with sw:={ (fW M).sw with phase:="give" } }:=e;generalize upd D A.sw (.ins X.S b (bQ (fW M).sw.sense "give" A.gr (fW M).sw.looked (fW M).sw.turn (fW M).sw.at' (fW M).sw.stop (fW M).sw.walks (fW M).sw.looks (fW M).sw.passes (fW M).sw.loss))=H3 at st3 e ⊢;obtain⟨dw3,P⟩:=e.jb.ow;obtain⟨ob,ol⟩:=Zcp u;apply aJ P d.cW d.RL bG ?_;apply⟨_,rfl,T,s,A,_,e,rfl,u,λl4 H4 k nl4 g4=>?_⟩;have e4:(pN { fW M with sw:={ (fW M).sw with phase:="give" } }).map V.int=((pN M).map some).map oV:=by
   rw[List.map_map];rfl
  rw[e4]at g4;apply⟨A.hp,l4,rfl,T,s,A,_,(pN M).map some,e.same k,rfl,g4,by rw[aY];omega,λl5 E=>?_⟩;have e5:(((pN M).map some).map (jW { fW M with sw:={ (fW M).sw with phase:="give" } })).map oV=(jg M).map V.int:=by
   have:jW { fW M with sw:={ (fW M).sw with phase:="give" } }=jW M:=by funext x;cases x<;>rfl
   rw[this,W5,List.map_map];rfl
  rw[e5];generalize zz:upd H4 l5 _=H5;obtain⟨s5,g5⟩:=nwO E zz;apply eZ (cC.of g5) ?_;rw[aY];apply⟨bF ζ,λa O=>?_⟩;have s6:=aL O (.tup [.str "cut",.int (jg M).length,.ref l5]);have v:=k.trans (s5.trans s6);have L:H l5=none:=eO.free st1 (h.free (eO.free st3 (k.free E)));exact q _ _ (.cut R U ph gr cd Z o) _ T A a (st1.trans ((eO.same st1.wt h).trans (st3.trans (eO.same st3.wt v)))) (e.same v) rfl ⟨l5,⟨L,(rC w m L).2,(rC st3.wt m ((k.trans s5).free O)).2⟩,aq,s6 _ _ g5⟩ λz=>absurd z eC
 ·have r:=t.same h;have w2:=st1.wt.same h;obtain⟨b,f⟩:=r.js.os;apply⟨A.sw,X.S,b,_,rfl,f,d.cS,d.n2,by show 11<1000;decide,?_⟩;rw[jM];apply⟨A.sw,X.S,b,_,rfl,aq,d.cS,d.n11,by show 11<1000;decide,?_⟩;rw[Kp,dz];obtain⟨st3,e⟩:=r.sweep w2 m (dx:=b) { (fW M).sw with phase:="lost",loss:=.ref a } rfl;have e:WJ X _ T s A { fW M with sw:={ (fW M).sw with phase:="lost",loss:=.ref a } }:=e;have ta:T a=(0,0):=st1.wt _ O;have tw:T C=(0,0):=st1.wt _ F;have p:upd D A.sw (.ins X.S b bb) a=some (.tup [.str "lost",.int c.birth,.ref C]):=(aA (lE oa f a8)).trans oa;have g:upd D A.sw (.ins X.S b bb) C=some (.lst (x.2.map V.int)):=(aA (lE I f a8)).trans I;generalize upd D A.sw (.ins X.S b bb)=H3 at st3 e p g ⊢;apply⟨a,rfl,"lost",c.birth,C,x.2,p,g,λa' l' H4 k na' B J Y=>?_⟩;have L:H l'=none:=eO.free st1 (h.free (eO.free st3 B));exact q _ _ (.lost R U i x c (.ref a) ph gr cd Z hx o hc ht) _ T A a' (st1.trans ((eO.same st1.wt h).trans (st3.trans (eO.same st3.wt k)))) (e.same k) rfl ⟨l',⟨L,(rC w m L).2,(rC st3.wt m na').2⟩,J,Y⟩ λ_=>⟨c.birth,rfl,a,C,rfl,ta,k _ _ p,tw,k _ _ g,(λx y l z=>by rw[J]at z;cases z;exact aD g B),λ_=>eO.free st1 F⟩
end
theorem toN{x:Int}(h:0<=x):∃k:Nat,x=k:=⟨x.toNat,δ⟩
section
variable {K:aC}{X:Cs}{H:Hp}{Q:VK}{E:XK}{n:ν}{bk ct:ν}
theorem Zmz{wo:AI}(b:oH K X)(q:wN X Zjz wo H Q):Zf1 K (mV X) ξ [↑wo,none,none] H:=by
 obtain⟨T,s,A,M,lb,Z,w,r,j,rfl,ok,⟨ph,gr⟩,lo,q⟩:=q;obtain⟨W,ow⟩:=j.jb.ow;obtain⟨Y,os⟩:=j.js.os;obtain⟨O,oh⟩:=j.jh.oh;have og:=j.js.og;cases hg:M.sw.grey with
 | nil=>exact absurd hg gr
 | cons x g=>
  obtain⟨c,hc⟩:=ok.gc ph x (by rw[hg];simp);obtain⟨I,e⟩:=bK.mp hc;have t:=ok.gl ph;have F:=ok.fl c (qb hc);rw[hg]at og;unfold Zf1;apply aJ ow b.cW b.Ve bw ?_;apply aJ ow b.cW b.RL bG ?_;refine aJ oh b.c.cZ b.c.bZ bT ?_;apply aJ os b.cS b.n3 pJ ?_;exists .inl ⟨rfl,_,cC.of og⟩;exists A.gr,_,0,0,.int x,rfl,rfl,og,ε,ε,by simp[seqIndex?],rfl;obtain⟨st1,m⟩:=j.Zq1 w r (g:=g);show iQ K _ _ (upd H A.gr (.lst (g.map V.int))) _;generalize upd H A.gr (.lst (g.map V.int))=H1 at st1 m ⊢;obtain⟨B,d,ce⟩:=m.jc.at (i:=x.toNat) (c:=c) e;refine fB (cC.of m.jh.oc) (nu (v:=.ref B.1) I (by rw[cg,d];rfl)) ?_;obtain⟨f,h⟩:=m.js.os;apply aJ h b.cS b.n8 vL ?_;apply⟨A.sw,X.S,f,_,rfl,h,b.cS,b.n8,by show 11<1000;decide,?_⟩;rw[su];obtain⟨st2,o⟩:=m.sweep st1.wt r (dx:=f) { M.sw with grey:=g,walks:=M.sw.walks+1 } rfl;have o:WJ X _ T s A { M with sw:={ M.sw with grey:=g,walks:=M.sw.walks+1 } }:=o;generalize upd H1 A.sw _=U at st2 o ⊢;obtain⟨J,p,y⟩:=o.jc.at (i:=x.toNat) (c:=c) e;rw[d]at p;cases p;obtain⟨_,_,⟨P,oc⟩,L⟩:=id y;apply aJ oc b.c.dR b.c.eN fV ?_;apply aJ oc b.c.dR b.c.gk jt ?_;apply⟨_,_,rfl,c.fl,T,s,A,_,st2.wt,r,o,rfl,.inr (.inr ⟨x.toNat,B,c,d,e,rfl,rfl⟩),δ,λ_=>?_,λR E l st3 D N k=>?_⟩
  ·show g.length<=10000;rw[hg,List.length_cons]at t;omega
  apply⟨bF ζ,λa C=>?_⟩;have u:=aL C (.tup [.str "walk",.int c.birth,.ref l]);refine q _ _ (.walk x g c ph hg hc) _ E A a (st1.trans (st2.trans (st3.trans (eO.same st3.wt u)))) (D.same u) rfl ⟨l,⟨eO.free st1 (eO.free st2 k.1),k.2,(rC st3.wt r C).2⟩,aq,u _ _ N⟩ λz=>?_;rw[(qQ (l:=c.fl) (M:={ M with sw:={ M.sw with grey:=g,walks:=M.sw.walks+1 } })).1]at z;exact absurd bd (show ¬ ("walk":Str)="lost" by decide)
theorem Ro{wo:AI}(b:oH K X)(q:wN X Zk1 wo H Q):zF K X.H (yG X.C X.H) (jw X.H) (iZ X) ξ [↑wo,none,none,none] H:=by
 obtain⟨T,s,A,M,lb,lw,w,m,j,rfl,ok,⟨ph,lt⟩,lo,q⟩:=q;obtain⟨dw,ow⟩:=j.jb.ow;obtain⟨J,os⟩:=j.js.os;unfold zF;apply aJ ow b.cW b.Ve bw ?_;apply aJ os b.cS b.n6 Bu ?_;apply⟨A.sw,X.S,J,_,rfl,os,b.cS,b.n6,by show 11<1000;decide,?_⟩;rw[zq];apply aJ aq b.cS b.n10 sE ?_;apply⟨A.sw,X.S,J,_,rfl,aq,b.cS,b.n10,by show 11<1000;decide,?_⟩;rw[qm,dz];obtain⟨st1,h⟩:=j.sweep w m (dx:=J) { M.sw with at':=M.sw.at'+1,passes:=M.sw.passes+1 } rfl;generalize upd H A.sw _=F at st1 h ⊢;obtain⟨V,t⟩:=h.jb.ow;obtain⟨I,D⟩:=h.jh.oh;apply aJ t b.cW b.RL bG ?_;exists _,_,rfl,t8 (some M.sw.at'),_,_,_,_,_,h.hpO;have u:(∀c,cellAt M M.sw.at'=some c->c.tone=M.sw.sense)->∀l a o,F a=none->F l=none->bB F o->o a=some (.tup [.str "pass",.int M.sw.at',.ref l])->o l=some (.lst [])->Q (.ref a) o:=λhp l a o e nl f Y ol=>
  q _ _ (.pass ph lt hp) _ T A a (st1.trans (eO.same st1.wt f)) (h.same f) rfl ⟨l,⟨eO.free st1 nl,(rC st1.wt m nl).2,(rC st1.wt m e).2⟩,Y,ol⟩ λz=>absurd bd eC
 rcases h.look (some M.sw.at')with ⟨E,L⟩ | ⟨i,c,O,W,h0,x,r,Z,L,ce⟩
 ·have E:cellAt M M.sw.at'=none:=E;rw[show atO dQ (.int M.sw.at')=.non from L];apply⟨bF ζ,λl nl=>⟨bF ζ,λa e=>?_⟩⟩;have f:=aL nl (.lst []);have g:=aL e (.tup [.str "pass",.int M.sw.at',.ref l]);exact u (λc hc=>by rw[E]at hc;cases hc) l a _ (f.free e) nl (f.trans g) aq (g _ _ aq)
 ·cases W;have x:cellAt M M.sw.at'=some c:=x;rw[show atO dQ (.int M.sw.at')=.ref O.1 from L];exists _,_,rfl,T,s,A,_,_,O,c,h.w0,rfl,ce,rfl
  by_cases z:c.tone=M.sw.sense
  ·rw[decide_eq_true (show c.tone=({ M.sw with at':=M.sw.at'+1,passes:=M.sw.passes+1 }:Sw).sense from z)];apply⟨bF ζ,λl nl=>⟨bF ζ,λa e=>?_⟩⟩;have f:=aL nl (.lst []);have g:=aL e (.tup [.str "pass",.int M.sw.at',.ref l]);exact u (λd hd=>by rw[x]at hd;cases hd;exact z) l a _ (f.free e) nl (f.trans g) aq (g _ _ aq)
  ·rw[decide_eq_false (show ¬ c.tone=({ M.sw with at':=M.sw.at'+1,passes:=M.sw.passes+1 }:Sw).sense from z)];obtain⟨k,v⟩:=toN h0;have hk:M.cells[k]? =some (some c):=by rw[v,Int.toNat_natCast]at r;exact r
   apply aJ t b.cW b.RL bG ?_;exists A.hp,I,_,rfl,D,Sv;ext;rw[v];refine Zi0 h st1.wt m hk λo U st2 R B=>?_;apply⟨bF ζ,λl nl=>⟨bF ζ,λa e=>?_⟩⟩;have g:=aL nl (.lst [.int (k:Int)]);have P:=aL e (.tup [.str "back",.int c.birth,.ref l]);have p:=g.trans P;have N:=lQ.back (lb:=lb) (lw:=lw) (M:=M) c ph lt x z;rw[v,Int.toNat_natCast]at N;rw[v]at R;exact q _ _ N _ T U a (st1.trans (st2.trans (eO.same st2.wt p))) (R.same p) B ⟨l,⟨eO.free st1 (eO.free st2 nl),(rC st2.wt m nl).2,(rC st2.wt m (g.free e)).2⟩,aq,P _ _ aq⟩ λy=>absurd (ph.symm.trans y) eC
theorem Zsv{wo:AI}(b:oH K X)(q:wN X pEnd wo H Q):Zja K ξ [↑wo,none] H:=by
 obtain⟨T,s,A,M,lb,r,w,e,j,rfl,ok,⟨ph,lt⟩,lo,q⟩:=q;obtain⟨p,ow⟩:=j.jb.ow;obtain⟨k,os⟩:=j.js.os;unfold Zja;apply aJ ow b.cW b.Ve bw ?_;apply⟨A.sw,X.S,k,_,rfl,os,b.cS,b.n2,by show 11<1000;decide,?_⟩;rw[jM];obtain⟨st1,f⟩:=j.sweep w e (dx:=k) { M.sw with phase:="rest" } rfl;generalize upd H A.sw _=o at st1 f ⊢;obtain⟨m,c⟩:=f.js.os;apply aJ c b.cS b.n5 pI ?_;apply aJ c b.cS b.n8 vL ?_;apply aJ c b.cS b.n9 oF ?_;apply aJ c b.cS b.n10 sE ?_;apply⟨bF ζ,λl nl=>⟨bF ζ,λa i=>?_⟩⟩;have g:=aL nl (.lst [.int M.sw.walks,.int M.sw.looks,.int M.sw.passes]);have h:=aL i (.tup [.str "end",.int M.sw.turn,.ref l]);have d:=g.trans h;exact q _ _ (.fin ph lt) _ T A a (st1.trans (eO.same st1.wt d)) (f.same d) rfl ⟨l,⟨eO.free st1 nl,(rC st1.wt e nl).2,(rC st1.wt e (g.free i)).2⟩,aq,h _ _ aq⟩ λz=>absurd z (show ¬ ("rest":Str)="lost" by decide)
theorem Ks{wo:AI}(a:oH K X)(q:wN X (U6 "give") wo H Q):vW K (cV X pEnd) (cV X Zk1) ξ [↑wo] H:=by
 obtain⟨T,s,A,M,lb,c,w,b,j,rfl,ok,ph,lo,q⟩:=q;obtain⟨d,ow⟩:=j.jb.ow;obtain⟨e,os⟩:=j.js.os;unfold vW;apply aJ ow a.cW a.Ve bw ?_;apply aJ os a.cS a.n6 Bu ?_;apply aJ ow a.cW a.Ve bw ?_;apply aJ os a.cS a.n7 LR ?_;apply j9 dB dB
 ·apply⟨_,rfl,T,s,A,M,lb,c,w,b,j,rfl,ok,⟨ph,z⟩,lo,q⟩
 ·apply⟨_,rfl,T,s,A,M,lb,c,w,b,j,rfl,ok,⟨ph,z⟩,lo,q⟩
theorem Kr{wo:AI}(a:oH K X)(q:wN X (U6 "walk") wo H Q):vV K (cV X Zk2) (cV X Zjz) ξ [↑wo] H:=by
 obtain⟨T,s,A,M,lb,c,w,b,j,rfl,ok,ph,lo,q⟩:=q;obtain⟨d,ow⟩:=j.jb.ow;obtain⟨e,os⟩:=j.js.os;unfold vV;apply aJ ow a.cW a.Ve bw ?_;apply aJ os a.cS a.n3 pJ ?_;refine Ztf (cC.of j.js.og) ?_;cases hg:M.sw.grey with
 | nil=>
  refine Yh ?_;apply⟨_,rfl,T,s,A,M,lb,c,w,b,j,rfl,ok,⟨ph,hg⟩,lo,q⟩
 | cons x g=>
  refine Zdh ?_;apply⟨_,rfl,T,s,A,M,lb,c,w,b,j,rfl,ok,⟨ph,by rw[hg];simp⟩,lo,q⟩
theorem Bv{wo:AI}(c:oH K X)(q:wN X (U6 "lost") wo H Q):qt K (vA K) ξ [↑wo] H:=by
 obtain⟨T,s,A,M,lb,k,w,e,j,rfl,ok,ph,lo,q⟩:=q;obtain⟨o,ow⟩:=j.jb.ow;obtain⟨p,os⟩:=j.js.os;obtain⟨g,f,d,t1,o1,t2,o2⟩:=lo ph;rw[d]at os;unfold qt;apply aJ ow c.cW c.Ve bw ?_;apply aJ os c.cS c.n11 Ma ?_;apply⟨g,rfl,"lost",lb,f,k,o1,o2,λa l m b i nl h ol=>?_⟩;exact q _ _ (.again ph) _ T A a (eO.same w b) (j.same b) rfl ⟨l,⟨nl,(rC w e nl).2,(rC w e i).2⟩,h,ol⟩ λ_=>⟨lb,rfl,g,f,d,t1,b _ _ o1,t2,b _ _ o2,(λx y l z=>by rw[h]at z;cases z;exact aD o2 nl),λz=>absurd ph z⟩
theorem Zn3{wo d f e g:AI}(c:oH K X)(q:wN X Znr wo H Q):WY K d f e g (cV X (U6 "rest")) (cV X (U6 "give")) (cV X (U6 "walk")) (cV X (U6 "lost")) ξ [↑wo,none] H:=by
 obtain⟨T,s,A,M,lb,b,w,a,j,rfl,ok,_,lo,q⟩:=q;obtain⟨h,ow⟩:=j.jb.ow;obtain⟨i,os⟩:=j.js.os;unfold WY;apply aJ ow c.cW c.Ve bw ?_;apply aJ os c.cS c.n2 kY ?_;rcases ok.ph with ph | ph | ph | ph
 ·rw[ph];refine⟨_,d,rfl,rfl,?_⟩;apply jC (cV X (U6 "rest")) rfl ζ ?_;apply⟨_,rfl,T,s,A,M,lb,b,w,a,j,rfl,ok,ph,lo,q⟩
 ·rw[ph];refine⟨_,e,rfl,rfl,?_⟩;apply jC (cV X (U6 "walk")) rfl ζ ?_;apply⟨_,rfl,T,s,A,M,lb,b,w,a,j,rfl,ok,ph,lo,q⟩
 ·rw[ph];refine⟨_,f,rfl,rfl,?_⟩;apply jC (cV X (U6 "give")) rfl ζ ?_;apply⟨_,rfl,T,s,A,M,lb,b,w,a,j,rfl,ok,ph,lo,q⟩
 ·rw[ph];refine⟨_,g,rfl,rfl,?_⟩;apply jC (cV X (U6 "lost")) rfl ζ ?_;apply⟨_,rfl,T,s,A,M,lb,b,w,a,j,rfl,ok,ph,lo,q⟩
end
section
variable {K:aC}{X:Cs}{H:Hp}{Q:VK}{E:XK}{n:ν}{bk ct:ν}
theorem Mg{A:Wa}{w:Int}{σ:St}{b:TE}{q:Bool->Hp->Prop}(ol:∃dx,(w=0/\H A.lk=some (.ins X.F dx []))\/(w=1/\H A.lk=some (.ins X.E dx []))\/(w=2/\H A.lk=some (.ins X.L dx [])))(a:∀c:VK,c (.ref A.lk) H->b σ H c)(h:q (decide (w≠2)) H):
  tB (G.Gn (iI X.F "stays" (vB (.bl true)) [] E0 b aG) (G.Gn (iI X.E "stays" (vB (.bl true)) [] E0 b aG) (iI X.L "stays" (vB (.bl false)) [] E0 b aG))) σ H q:=by
 refine Zu3 ?_;obtain⟨dl,⟨d,o⟩ | ⟨d,o⟩ | ⟨d,o⟩⟩:=ol
 ·rw[show decide (w≠2)=true from decide_eq_true δ]at h;refine Vs ?_;left;refine a _ ?_;refine⟨A.lk,dl,_,rfl,o,rfl,?_⟩;left;exact⟨_,rfl,i_B h⟩
 ·rw[show decide (w≠2)=true from decide_eq_true δ]at h;refine Eu (Vs ?_);left;refine a _ ?_;refine⟨A.lk,dl,_,rfl,o,rfl,?_⟩;left;exact⟨_,rfl,i_B h⟩
 ·rw[show decide (w≠2)=false from decide_eq_false δ]at h;refine Eu (Eu ?_);left;refine a _ ?_;refine⟨A.lk,dl,_,rfl,o,rfl,?_⟩;left;exact⟨_,rfl,i_B h⟩
theorem Zhd{T:Tg}{s:Nat}{A:Wa}{M:Wm}{lb:Int}{lw:AE}(g:oH K X)(w:WT H T)(x:s≠0)(j:WJ X H T s A M)(ok:Zig M)(ph:M.sw.phase="walk")(gr:M.sw.grey=[])
  (q:∀e M',lQ lb lw M e M'->∀H' T' N a,eO s H H' T T'->WJ X H' T' s N M'->N.wo=A.wo->EvN H H' T' s a e->(M'.sw.phase="lost"->∃b,e.thing=some b/\Zmt H H' T' (M.sw.phase≠"lost") M' b e.notes a)->Q (.ref a) H'):
  jZ K X.E X.F X.L (vB (.bl false)) (vB (.bl true)) (cV X Zk3) (pC X) ξ [↑A.wo,↑A.sw,↑A.lk,some (.int bi),none] H:=by
 unfold jZ;apply⟨_,_,rfl,T,s,A,M,w,x,j,rfl,ok.hl,λ_=>by rw[gr];exact Nat.zero_le _,λv D l st1 p B nl=>?_⟩;have nt:=GP bi M.hands 0 M;have ww:=nt.ww;have ol:=p.jb.ol;rw[ww]at ol;have I:yj M->cV X Zk3 [.ref A.wo] v Q E0:=λcd=>by
  have e:(fO bi M.hands 0 M).2=M:=by
   rcases cd with z | ⟨_,z⟩
   ·rw[z,Z9]
   ·exact Xj _ z
  rw[e]at p;refine⟨_,rfl,D,s,A,M,lb,lw,st1.wt,x,p,rfl,ok,⟨ph,gr,cd⟩,λz=>absurd bd ε,λe' M' r H' T' N a P j' W R U=>?_⟩;obtain⟨l',J,o1,o2⟩:=R;exact q e' M' r H' T' N a (st1.trans P) j' W ⟨l',⟨eO.free st1 J.1,J.2⟩,o1,o2⟩ λz=>let ⟨b,h0,a0,wl,h1,h2,h3,h4,h5,h6,h7⟩:=U z;⟨b,h0,a0,wl,h1,h2,h3,h4,h5,h6,λf=>eO.free st1 (h7 f)⟩
 have m:¬ yj M->∀(lo:Int),lo=(if M.w=2 then(fO bi M.hands 0 M).2.sw.looked else Builtin.bitOr (fO bi M.hands 0 M).2.sw.looked bi)->∀k,eO s v k D D->WJ X k D s A { (fO bi M.hands 0 M).2 with sw:={ (fO bi M.hands 0 M).2.sw with looks:=(fO bi M.hands 0 M).2.sw.looks+1,looked:=lo } }->k l=some (.lst ((fO bi M.hands 0 M).1.map V.int))->∀a,k a=none->Q (.ref a) (upd k a (.tup [.str "look",.int bi,.ref l])):=λC lo Z k st2 o t a y=>by
  have O:=aL y (.tup [.str "look",.int bi,.ref l]);subst Z;refine q _ _ (.look _ ph gr C rfl) _ D A a (st1.trans (st2.trans (eO.same st2.wt O))) (o.same O) rfl ⟨l,⟨nl.1,nl.2,(rC st2.wt x y).2⟩,aq,O _ _ t⟩ λz=>?_;have:=(xU bi 100 M.hands 0 M ok.hl).1;have z:(fO bi M.hands 0 M).2.sw.phase="lost":=z;rw[this]at z;exact absurd bd ε
 apply j9 (λhz=>?_) (λhz=>?_)
 ·apply I (.inl hz)
 ·refine Zq0 ?_;refine Zu5 ?_;refine Mg ol (λQ' h=>by left;exact h) ?_
  by_cases w2:M.w=2
  ·rw[show decide (M.w≠2)=false from decide_eq_false δ];refine Yh ?_;refine Zpz ?_;left;refine Ztf (cC.of B) ?_;cases hn:(fO bi M.hands 0 M).1 with
   | nil=>
    refine Zdh ?_;apply I (.inr ⟨w2,hn⟩)
   | cons b bs=>
    have C:¬ yj M:=λz=>by
     rcases z with z | ⟨_,z⟩
     ·exact hz z
     ·rw[hn]at z;cases z
    have m:=m C _ rfl;rw[if_pos w2]at m;obtain⟨c,d⟩:=p.js.os;refine Yh ?_;apply aJ d g.cS g.n9 oF ?_;apply⟨A.sw,X.S,c,_,rfl,d,g.cS,g.n9,by show 11<1000;decide,?_⟩;rw[mF];obtain⟨st2,o⟩:=p.sweep st1.wt x (dx:=c) { (fO bi M.hands 0 M).2.sw with looks:=(fO bi M.hands 0 M).2.sw.looks+1 } rfl;have t:upd v A.sw (.ins X.S c (bQ (fO bi M.hands 0 M).2.sw.sense (fO bi M.hands 0 M).2.sw.phase A.gr (fO bi M.hands 0 M).2.sw.looked (fO bi M.hands 0 M).2.sw.turn (fO bi M.hands 0 M).2.sw.at' (fO bi M.hands 0 M).2.sw.stop (fO bi M.hands 0 M).2.sw.walks ((fO bi M.hands 0 M).2.sw.looks+1) (fO bi M.hands 0 M).2.sw.passes (fO bi M.hands 0 M).2.sw.loss)) l=some (.lst ((fO bi M.hands 0 M).1.map V.int)):=(aA (lE B d a8)).trans B;generalize upd v A.sw _=k at st2 o t ⊢;have i:=o.jb.ol;have u:({ (fO bi M.hands 0 M).2 with sw:={ (fO bi M.hands 0 M).2.sw with looks:=(fO bi M.hands 0 M).2.sw.looks+1 } }:Wm).w=M.w:=ww;rw[u]at i;refine Qe ?_;refine Zsa ?_;refine Mg i (λQ' h=>by left;exact h) ?_;rw[show decide (M.w≠2)=false from decide_eq_false δ];apply⟨bF ζ,λa y=>m k st2 o t a y⟩
  ·rw[show decide (M.w≠2)=true from decide_eq_true δ];have C:¬ yj M:=λz=>by
    rcases z with z | ⟨z,_⟩
    ·exact hz z
    ·exact w2 z
   have m:=m C _ rfl;rw[if_neg w2]at m;obtain⟨c,d⟩:=p.js.os;apply aJ d g.cS g.n9 oF ?_;apply⟨A.sw,X.S,c,_,rfl,d,g.cS,g.n9,by show 11<1000;decide,?_⟩;rw[mF];obtain⟨Zza,Y⟩:=p.sweep st1.wt x (dx:=c) { (fO bi M.hands 0 M).2.sw with looks:=(fO bi M.hands 0 M).2.sw.looks+1 } rfl;have i:=Y.jb.ol;have u:({ (fO bi M.hands 0 M).2 with sw:={ (fO bi M.hands 0 M).2.sw with looks:=(fO bi M.hands 0 M).2.sw.looks+1 } }:Wm).w=M.w:=ww;rw[u]at i;refine Qe ?_;refine Zsa ?_;refine Mg i (λQ' h=>by left;exact h) ?_;rw[show decide (M.w≠2)=true from decide_eq_true δ];apply aJ aq g.cS g.n4 gw ?_;apply⟨A.sw,X.S,c,_,rfl,aq,g.cS,g.n4,by show 11<1000;decide,?_⟩;rw[qp,dz];obtain⟨st2,o⟩:=p.sweep st1.wt x (dx:=c) { (fO bi M.hands 0 M).2.sw with looks:=(fO bi M.hands 0 M).2.sw.looks+1,looked:=Builtin.bitOr (fO bi M.hands 0 M).2.sw.looked bi } rfl;have t:upd v A.sw (.ins X.S c (bQ (fO bi M.hands 0 M).2.sw.sense (fO bi M.hands 0 M).2.sw.phase A.gr (Builtin.bitOr (fO bi M.hands 0 M).2.sw.looked bi) (fO bi M.hands 0 M).2.sw.turn (fO bi M.hands 0 M).2.sw.at' (fO bi M.hands 0 M).2.sw.stop (fO bi M.hands 0 M).2.sw.walks ((fO bi M.hands 0 M).2.sw.looks+1) (fO bi M.hands 0 M).2.sw.passes (fO bi M.hands 0 M).2.sw.loss)) l=some (.lst ((fO bi M.hands 0 M).1.map V.int)):=(aA (lE B d a8)).trans B;generalize upd v A.sw _=k at st2 o t ⊢;apply⟨bF ζ,λa y=>m k st2 o t a y⟩
theorem O8{wo:AI}(a:oH K X)(q:wN X Zk2 wo H Q):xH K X.E X.F X.L (lR 1) (lR 2) (vB (.bl false)) (lR 0) (vB (.bl true)) (cV X Zk3) (pC X) ξ [↑wo,none,none,none,none] H:=by
 obtain⟨T,s,A,M,lb,k,w,g,j,rfl,ok,⟨ph,gr⟩,lo,q⟩:=q;obtain⟨h,ow⟩:=j.jb.ow;obtain⟨i,os⟩:=j.js.os;obtain⟨l,f⟩:=j.jb.ok;have on:=j.jb.on;have lh:=j.jd.lh;have l5:=j.jd.l5;have c:((A.hs.map λp=>V.ref p.1).length:Int)=(M.hands.length:Int):=by rw[aY,lh]
 have b:=Zhd (n:=n) (bk:=bk) (ct:=ct) a w g j ok ph gr q;obtain⟨dl,ol⟩:=j.jb.ol;unfold xH;apply aJ ow a.cW a.Ve bw ?_;apply aJ ow a.cW a.nWk iG ?_;refine aJ f a.cK a.nKl jU ?_;refine Zub ?_;refine Qe ?_;left;rcases ol with ⟨d,o⟩ | ⟨d,o⟩ | ⟨d,o⟩
 ·have e:bI M=Jv 0 M.sw.looked M.hands.length:=by unfold bI;rw[d];rfl
  refine Vs ?_;left;refine⟨A.lk,dl,_,rfl,o,rfl,?_⟩;left;refine aJ os a.cS a.n4 gw ?_;left;refine aJ ow a.cW a.nWd dO ?_;left;refine eZ (cC.of on) ?_;rw[c];left;refine⟨A.lk,_,_,rfl,δ,δ,?_⟩;rw[Int.toNat_natCast,<- e];left;exact b
 ·have e:bI M=Jv 1 M.sw.looked M.hands.length:=by unfold bI;rw[d];rfl
  refine Eu (Vs ?_);left;refine⟨A.lk,dl,_,rfl,o,rfl,?_⟩;left;refine aJ os a.cS a.n4 gw ?_;left;refine aJ ow a.cW a.nWd dO ?_;left;refine eZ (cC.of on) ?_;rw[c];left;refine⟨A.lk,_,_,rfl,δ,δ,?_⟩;rw[Int.toNat_natCast,<- e];left;exact b
 ·have e:bI M=Jv 2 M.sw.looked M.hands.length:=by unfold bI;rw[d];rfl
  refine Eu (Eu ?_);left;refine⟨A.lk,dl,_,rfl,o,rfl,?_⟩;left;refine aJ os a.cS a.n4 gw ?_;left;refine aJ ow a.cW a.nWd dO ?_;left;refine eZ (cC.of on) ?_;rw[c];left;refine⟨A.lk,_,_,rfl,δ,δ,?_⟩;rw[Int.toNat_natCast,<- e];left;exact b
end
abbrev yW:=List (Str×Int)
structure HsB(hs:yW):Prop where
 n1:1<=hs.length
 n5:hs.length<=5
 sb:∀m∈hs,3<=m.2/\m.2<=9
def Xg(hs:yW)(h s:Nat):Prop:=∃m,hs[h]? =some m/\(s:Int)<m.2
def okR(hs:yW):ie->Prop
 | .make h s a bulk=>Xg hs h s/\0<=a/\a<=8/\0<=bulk
 | .get h s t _=>Xg hs h s/\Xg hs h t
 | .put h t _ s=>Xg hs h t/\Xg hs h s
 | .copy h s t=>Xg hs h s/\Xg hs h t
 | .drop h s=>Xg hs h s
 | .give h s g t=>Xg hs h s/\Xg hs g t
 | .write h t _=>Xg hs h t
 | .read h t=>Xg hs h t
 | .name h t _=>Xg hs h t
 | .seek h s _=>Xg hs h s
def Zmv(M:Wm):Prop:=M.sw.phase="walk"->M.sw.grey.Nodup/\∀x∈M.sw.grey,∃c,cellAt M x=some c/\c.tone=M.sw.sense
structure KW(M:Wm)(hs:yW)(k:Nat):Prop where
 hl:M.hands.length=hs.length
 hn:∀(i:Nat) m n,M.hands[i]? =some m->hs[i]? =some n->m.2.length=n.2.toNat
 cl:M.cells.length<=k
 nl:M.names.length<=k
 fl:∀c,some c∈M.cells->c.fl.length<=8
 gr:Zmv M
 ph:M.sw.phase="rest"\/M.sw.phase="walk"\/M.sw.phase="give"\/M.sw.phase="lost"
 a0:0<=M.sw.at'
 tl:0<=M.tells/\M.tells<4
section
variable {M:Wm}{hs:yW}{k:Nat}
theorem Om:∀(n:Nat) (l:AE),l.Nodup->(∀x∈l,0<=x/\x<n)->l.length<=n
 | 0,l,_,h=>by
  cases l with
  | nil=>exact Nat.le_refl _
  | cons x l=>have:=h x ζ;omega
 | n+1,l,nd,h=>by
  have h1:(l.erase (n:Int)).length<=n:=Om n _ (nd.erase _) λx hx=>by
   have h2:=h x (List.mem_of_mem_erase hx);have b:x≠(n:Int):=((nd.mem_erase_iff).mp hx).1
   push_cast at h2
   omega
  have h4:=List.length_erase (a:=(n:Int)) (l:=l);split at h4<;>omega
theorem Hq{x:Int}{c:Ce}(h:cellAt M x=some c):0<=x/\x<M.cells.length:=by
 obtain⟨h0,h1⟩:=bK.mp h;have:=(cG h1).1;omega
theorem KW.ok(p:KW M hs k)(hb:HsB hs)(hk:k<=900):Zig M:=by
 have d:=p.cl;have b:=p.nl;refine⟨δ,λm hm=>?_,λc hc=>by have:=p.fl c hc;omega,δ,λph=>?_,λph x hx=>?_,p.ph,p.a0⟩
 ·obtain⟨i,hi,e⟩:=List.getElem_of_mem hm;have a:i<hs.length:=by rw[<- p.hl];exact hi
  have h1:=p.hn i m _ (by rw[bD hi,e]) (bD a);have h2:=hb.sb _ (List.getElem_mem a);omega
 ·obtain⟨nd,h1⟩:=p.gr ph;refine Nat.le_trans (Om M.cells.length _ nd λx hx=>?_) δ;obtain⟨c,hc,_⟩:=h1 x hx;exact Hq hc
 ·obtain⟨c,hc,_⟩:=(p.gr ph).2 x hx;exact⟨c,hc⟩
theorem KW.uG(p:KW M hs k){h s:Nat}(o:Xg hs h s):uG M h s:=by
 obtain⟨m,hm,b⟩:=o;have a:h<M.hands.length:=by rw[p.hl];exact(cG hm).1
 refine⟨_,bD a,?_⟩;have:=p.hn h _ m (bD a) hm;omega
theorem KW.okD(p:KW M hs k){d:ie}(o:okR hs d):okD M d:=by
 cases d with
 | make h s a bulk=>exact⟨p.uG o.1,o.2.1,by have:=o.2.2.1;omega,o.2.2.2⟩
 | get h s t f=>exact⟨p.uG o.1,p.uG o.2⟩
 | put h t f s=>exact⟨p.uG o.1,p.uG o.2⟩
 | copy h s t=>exact⟨p.uG o.1,p.uG o.2⟩
 | drop h s=>exact p.uG o
 | give h s g t=>exact⟨p.uG o.1,p.uG o.2⟩
 | write h t l=>exact p.uG o
 | read h t=>exact p.uG o
 | name h t z=>exact p.uG o
 | seek h s z=>exact p.uG o
theorem KW.mono{a:Nat}(p:KW M hs k)(h:k<=a):KW M hs a:=by
 obtain⟨e,f,l,j,b,i,c,d,g⟩:=p;exact⟨e,f,δ,δ,b,i,c,d,g⟩
theorem KW.slot(p:KW M hs k)(h s:Nat)(x:AA):KW (setSlot M h s x) hs k:=by
 obtain⟨j,d,t,r,o,l,q,g,f⟩:=p;refine⟨by show(M.hands.modify h _).length=_;rw[List.length_modify];exact j,λi m n a e=>?_,t,r,o,l,q,g,f⟩;have a:(M.hands.modify h λm=>(m.1,m.2.set s x))[i]? =some m:=a;rw[List.getElem?_modify]at a;cases c:M.hands[i]? with
 | none=>rw[c]at a;cases a
 | some b=>
  rw[c]at a
  by_cases z:h=i
  ·have e3:(b.1,b.2.set s x)=m:=by simpa[z]using a
   rw[<- e3];show(b.2.set s x).length=_;rw[List.length_set];exact d i b n c e
  ·have e3:b=m:=by simpa[z]using a
   rw[<- e3];exact d i b n c e
theorem dJ{i:Int}{c c':Ce}(h:cellAt M i=some c)(x:Int):cellAt (setCell M i c') x=if x=i then some c' else cellAt M x:=by
 obtain⟨h0,h1⟩:=bK.mp h;unfold cellAt;show(if 0<=x then((M.cells.set i.toNat (some c'))[x.toNat]?).join else none)=_
 by_cases e:x=i
 ·subst e;rw[if_pos h0,if_pos rfl,List.getElem?_set_self (cG h1).1];rfl
 ·rw[if_neg e]
  by_cases a:0<=x
  ·rw[if_pos a,if_pos a,List.getElem?_set_ne δ]
  ·rw[if_neg a,if_neg a]
theorem KW.cell(p:KW M hs k){i:Int}{c c':Ce}(h:cellAt M i=some c)(j:c'.tone=c.tone)(s:c'.fl.length=c.fl.length):KW (setCell M i c') hs k:=by
 have h8:=p.fl c (qb h);obtain⟨l,b,r,q,n,m,o,g,f⟩:=p;refine⟨l,b,by show(M.cells.set _ _).length<=_;rw[List.length_set];exact r,q,λd hd=>?_,λph=>?_,o,g,f⟩
 ·rcases List.mem_or_eq_of_mem_set (show some d∈M.cells.set _ _ from hd)with hd | hd
  ·exact n d hd
  ·cases hd;omega
 ·obtain⟨nd,h1⟩:=m ph;refine⟨nd,λx hx=>?_⟩;obtain⟨d,hd,a⟩:=h1 x hx;rw[dJ h]
  by_cases e:x=i
  ·subst e;rw[h]at hd;cases hd;exact⟨c',by rw[if_pos rfl],by rw[j];exact a⟩
  ·exact⟨d,by rw[if_neg e];exact hd,a⟩
theorem KW.note(p:KW M hs k)(x:AA):KW (bV M x).2 hs k:=by
 cases x with
 | none=>exact p
 | some i=>
  unfold bV;dsimp only;cases hc:cellAt M i with
  | none=>exact p
  | some c=>
   dsimp only;split
   ·rename_i z
    obtain⟨z1,h⟩:=z;have h8:=p.fl c (qb hc);obtain⟨n,j,u,s,q,o,r,m,l⟩:=p;obtain⟨nd,h1⟩:=o z1;have g:i∉M.sw.grey:=λhi=>by
     obtain⟨d,hd,f⟩:=h1 i hi;rw[hc]at hd;cases hd;exact h f
    refine⟨n,j,by show(M.cells.set _ _).length<=_;rw[List.length_set];exact u,s,λd hd=>?_,λ_=>⟨?_,λx hx=>?_⟩,r,m,l⟩
    ·rcases List.mem_or_eq_of_mem_set (show some d∈M.cells.set _ _ from hd)with hd | hd
     ·exact q d hd
     ·cases hd;exact h8
    ·show(M.sw.grey++[i]).Nodup;rw[List.nodup_append];exact⟨nd,ζ,λa t b hb e=>g (by rw[List.mem_singleton.mp hb]at e;rw[<- e];exact t)⟩
    ·have e:=dJ (c':={ c with tone:=M.sw.sense }) hc x;show ∃d,cellAt (setCell M i { c with tone:=M.sw.sense }) x=some d/\d.tone=M.sw.sense;rw[e]
     by_cases ex:x=i
     ·exact⟨_,by rw[if_pos ex],rfl⟩
     ·rcases List.mem_append.mp (show x∈M.sw.grey++[i]from hx)with hx | hx
      ·obtain⟨d,hd,f⟩:=h1 x hx;exact⟨d,by rw[if_neg ex];exact hd,f⟩
      ·exact absurd (List.mem_singleton.mp hx) ex
   ·exact p
theorem KW.notes:∀{l:Au}{M:Wm},KW M hs k->KW (aQ M l).2 hs k
 | [],_,p=>p
 | x::l,_,p=>KW.notes (l:=l) (p.note x)
theorem KW.nh(a:Int):∀{l:List (Str×Au)}{j:Nat}{M:Wm},KW M hs k->KW (fO a l j M).2 hs k
 | [],_,_,p=>p
 | m::l,j,M,p=>by
  unfold fO;split
  ·exact KW.nh a (l:=l) (KW.notes p)
  ·exact KW.nh a (l:=l) p
theorem KW.put(p:KW M hs k){u b:Int}{c:Ce}(h:c.fl.length<=8):KW { M with used:=u,born:=b,cells:=jo M.cells c } hs dC:=by
 obtain⟨i,e,o,n,l,j,m,g,f⟩:=p;refine⟨i,e,?_,by show M.names.length<=_;omega,λd hd=>?_,λph=>?_,m,g,f⟩
 ·have:=Zne M.cells c;show(jo M.cells c).length<=_;omega
 ·rcases Zkt hd with hd | hd
  ·exact l d hd
  ·cases hd;exact h
 ·obtain⟨nd,h1⟩:=j ph;refine⟨nd,λx hx=>?_⟩;obtain⟨d,hd,a⟩:=h1 x hx;exact⟨d,p8 hd,a⟩
theorem Zh0{l:List cy}{z:Str}{v:Int×Int}:(nF l z v).length<=l.length+1:=by
 unfold nF;split
 ·rw[aY];omega
 ·rw[List.length_append];simp
theorem KW.name(p:KW M hs k){z:Str}{v:Int×Int}:KW { M with names:=nF M.names z v } hs dC:=by
 obtain⟨d,e,i,h,a,g,b,c,f⟩:=p;refine⟨d,e,by show M.cells.length<=_;omega,?_,a,g,b,c,f⟩;have:=Zh0 (l:=M.names) (z:=z) (v:=v);show(nF M.names z v).length<=_;omega
theorem KW.deed(p:KW M hs k){d:ie}{e:Ev}{M':Wm}(o:okR hs d)(h:dN M d=.ok (e,M')):KW M' hs dC:=by
 have le:k<=k+1:=δ
 cases d with
 | make a s b bulk=>
  simp only[dN]at h;split at h
  ·right;refine KW.slot (KW.put p ?_) _ _ _;show(List.replicate b.toNat none).length<=8;rw[List.length_replicate];have:=o.2.2.1;omega
  ·cases h
 | get a s t f=>
  simp only[dN]at h;split at h
  ·cases h
  ·split at h
   ·cases h
   ·split at h
    ·cases h
    ·right;exact(p.slot _ _ _).mono le
 | put a t f s=>
  simp only[dN]at h;split at h
  ·cases h
  ·split at h
   ·cases h
   ·rename_i c hc
    split at h
    ·cases h
    ·right;exact(KW.notes (p.cell (c':={ c with fl:=c.fl.set f (aO M a s) }) hc rfl (by show(List.set _ _ _).length=_;rw[List.length_set]))).mono le
 | copy a s t=>
  right;exact(p.slot _ _ _).mono le
 | drop a s=>
  right;exact(p.slot _ _ _).mono le
 | give a s g t=>
  right;exact(KW.notes (p.slot _ _ _)).mono le
 | write a t l=>
  simp only[dN]at h;split at h
  ·cases h
  ·split at h
   ·cases h
   ·rename_i c hc
    right;exact(p.cell (c':={ c with load:=l }) hc rfl rfl).mono le
 | read a t=>
  simp only[dN]at h;split at h
  ·cases h
  ·split at h
   ·cases h
   ·right;exact p.mono le
 | name a t z=>
  simp only[dN]at h;split at h
  ·cases h
  ·split at h
   ·cases h
   ·right;exact p.name
 | seek a s z=>
  simp only[dN]at h;split at h
  ·cases h
  ·split at h
   ·right;exact(p.slot _ _ _).mono le
   ·right;exact(KW.notes (p.slot _ _ _)).mono le
theorem KW.step(p:KW M hs k){lb:Int}{lw:AE}{e:Ev}{M':Wm}(h:lQ lb lw M e M'):KW M' hs k:=by
 cases h with
 | begin ph=>
  refine KW.nh _ ?_;obtain⟨f,a,m,l,j,r,o,n,b⟩:=p;exact⟨f,a,m,l,j,λ_=>⟨List.nodup_nil,λx hx=>(nomatch hx)⟩,.inr (.inl rfl),n,b⟩
 | walk x g c ph hg hc=>
  refine KW.notes ?_;obtain⟨f,a,m,l,j,r,o,n,b⟩:=p;refine⟨f,a,m,l,j,λ_=>?_,o,n,b⟩;obtain⟨nd,h1⟩:=r ph;rw[hg]at nd h1;exact⟨(List.nodup_cons.mp nd).2,λy hy=>h1 y (List.mem_cons_of_mem _ hy)⟩
 | look N ph hg C hN=>
  have u:KW N hs k:=by rw[hN];exact KW.nh _ p
  obtain⟨f,a,m,l,j,r,o,n,b⟩:=u;exact⟨f,a,m,l,j,r,o,n,b⟩
 | cut q w ph hg t A s=>
  obtain⟨f,a,m,l,j,r,o,n,b⟩:=p;exact⟨f,a,m,l,j,λz=>absurd z eD,.inr (.inr (.inl rfl)),Int.le_refl _,b⟩
 | lost q w i x c v ph hg t A hx s hc B=>
  obtain⟨f,a,m,l,j,r,o,n,b⟩:=p;exact⟨f,a,m,l,j,λz=>absurd z (show ¬ ("lost":Str)="walk" by decide),.inr (.inr (.inr rfl)),Int.le_refl _,b⟩
 | pass ph lt hp=>
  obtain⟨f,a,m,l,j,r,o,n,b⟩:=p;exact⟨f,a,m,l,j,r,o,by show 0<=M.sw.at'+1;omega,b⟩
 | back c ph lt hc B=>
  obtain⟨f,a,m,l,j,r,o,n,b⟩:=p;refine⟨f,a,by show(M.cells.set _ _).length<=_;rw[List.length_set];exact m,l,λd hd=>?_,λz=>absurd bd ε,o,by show 0<=M.sw.at'+1;omega,b⟩;rcases List.mem_or_eq_of_mem_set (show some d∈M.cells.set _ _ from hd)with hd | hd
  ·exact j d hd
  ·cases hd
 | fin ph lt=>
  obtain⟨f,a,m,l,j,r,o,n,b⟩:=p;exact⟨f,a,m,l,j,λz=>absurd z a7,.inl rfl,n,b⟩
 | again ph=>exact p
theorem KW.new{room:Int}{w t:Int}(h0:0<=t)(h1:t<4):KW (xV room hs w t) hs 0:=by
 refine⟨by show(hs.map _).length=_;rw[aY],λi m n a b=>?_,Nat.le_refl _,Nat.le_refl _,λc hc=>(nomatch hc),λz=>absurd z a7,.inl rfl,Int.le_refl _,⟨h0,h1⟩⟩;have a:(hs.map λm=>(m.1,List.replicate m.2.toNat (none:AA)))[i]? =some m:=a;rw[cg,b]at a;cases a;exact List.length_replicate
end
abbrev Rz:=Str×V×AE
def rfS:Rf->Str
 | .full=>"full"
 | .empty=>"empty"
 | .jB=>"field"
 | .xT=>"name"
def jY:Except Rf (Ev×Wm)->Rz
 | .ok x=>(x.1.word,oV x.1.thing,x.1.notes)
 | .error r=>("refused",.str (rfS r),[])
def stM(M:Wm):Except Rf (Ev×Wm)->Wm
 | .ok x=>x.2
 | .error _=>M
def evz(e:Ev):Rz:=(e.word,oV e.thing,e.notes)
def jr(a:List Rz):Bool:=match a.getLast? with
 | some x=>decide (x.1=("lost":Str))
 | none=>false
theorem O7(a:List Rz)(x:Rz):jr (a++[x])=decide (x.1=("lost":Str)):=by
 unfold jr;rw[List.getLast?_concat]
inductive Q4 where
 | sw (n:Nat)
 | dd (d:ie)
def rV:Q4->List V
 | .sw n=>[.str "sweep",.int n]
 | .dd d=>dV d
inductive SwC:Wm->Nat->List Rz->Wm->Prop
 | stop (M:Wm):SwC M 0 [] M
 | lost {M M':Wm}{n:Nat}{e:Ev}:lQ 0 [] M e M'->e.word=("lost":Str)->SwC M (n+1) [evz e] M'
 | go {M N M':Wm}{n:Nat}{e:Ev}{es:List Rz}:lQ 0 [] M e N->e.word≠("lost":Str)->SwC N n es M'->SwC M (n+1) (evz e::es) M'
def Zmr(M:Wm):Q4->List Rz->Wm->Prop
 | .sw n,a,M'=>SwC M n a M'
 | .dd d,a,M'=>a=[jY bE]/\M'=stM M bE
inductive HF:Wm->List Q4->List (List Rz)->Wm->Prop
 | nil (M:Wm):HF M [] [] M
 | lost {M M':Wm}{r:Q4}{rs:List Q4}{es:List Rz}:Zmr M r es M'->jr es=true->HF M (r::rs) [es] M'
 | go {M N M':Wm}{r:Q4}{rs:List Q4}{es:List Rz}{lg:List (List Rz)}:Zmr M r es N->jr es=false->HF N rs lg M'->HF M (r::rs) (es::lg) M'
def Nl(M:Wm):Prop:=M.sw.phase≠("lost":Str)/\M.sw.loss=.non
section
variable {F:KB.Fd}{R:KB.Rw}
end
theorem Yw{M M':Wm}{d:ie}{e:Ev}(h:dN M d=.ok (e,M')):∃g,M'.sw={ M.sw with grey:=g }:=by
 cases d<;>simp only[dN]at h<;>(repeat' split at h)<;>first | (cases h;done) | (cases h;exact⟨_,rfl⟩) | (cases h;exact(yR _ _).sw)
section
variable {M M' M2 N:Wm}{e e2:Ev}{a c:Int}{b d:AE}
theorem Nl.keep(n:Nl M)(h:∃g,M'.sw={ M.sw with grey:=g }):Nl M':=by
 obtain⟨g,h⟩:=h;exact⟨by rw[h];exact n.1,by rw[h];exact n.2⟩
theorem Nl.deed(n:Nl M)(d:ie):Nl (stM M bE):=by
 cases z:dN M d with
 | error r=>exact n
 | ok x=>exact n.keep (Yw (e:=x.1) (by rw[z];rfl))
theorem Nl.step(n:Nl M)(h:lQ a b M e M'):(e.word=("lost":Str)/\M'.sw.phase=("lost":Str))\/(e.word≠("lost":Str)/\Nl M'):=by
 cases h with
 | begin ph=>
  obtain⟨g,h⟩:=(GP cT M.hands 0 (jA M)).sw;exact .inr ⟨by show ¬("begin":Str)="lost";decide,by rw[h];show ¬("walk":Str)="lost";decide,by rw[h];exact n.2⟩
 | walk x g c ph hg hc=>
  obtain⟨f,h⟩:=(yR c.fl { M with sw:={ M.sw with grey:=g,walks:=M.sw.walks+1 } }).sw;exact .inr ⟨by show ¬("walk":Str)="lost";decide,by rw[h];exact n.1,by rw[h];exact n.2⟩
 | look N ph hg o hN=>
  obtain⟨f,h⟩:=(GP bi M.hands 0 M).sw;subst hN;exact .inr ⟨by show ¬("look":Str)="lost";decide,by show(fO bi M.hands 0 M).2.sw.phase≠_;rw[h];exact n.1,by show(fO bi M.hands 0 M).2.sw.loss=_;rw[h];exact n.2⟩
 | cut q k ph hg j l d=>exact .inr ⟨by show ¬("cut":Str)="lost";decide,by show ¬("give":Str)="lost";decide,n.2⟩
 | lost q k i x c v ph hg j l hx d hc m=>exact .inl ⟨rfl,rfl⟩
 | pass ph lt hp=>exact .inr ⟨by show ¬("pass":Str)="lost";decide,n⟩
 | back c ph lt hc m=>exact .inr ⟨by show ¬("back":Str)="lost";decide,n⟩
 | fin ph lt=>exact .inr ⟨by show ¬("end":Str)="lost";decide,by show ¬("rest":Str)="lost";decide,n.2⟩
 | again ph=>exact absurd ph n.1
end
theorem Zd4(x:Rz){a:List Rz}(h:a≠[]):jr (x::a)=jr a:=by
 unfold jr;rw[List.getLast?_cons_of_ne_nil h]
theorem SwC.ne{M M':Wm}{n:Nat}{a:List Rz}(h:SwC M n a M')(z:n≠0):a≠[]:=by
 cases h with
 | stop=>exact absurd rfl z
 | lost=>exact λy=>nomatch y
 | go=>exact λy=>nomatch y
theorem SwC.nl{M M':Wm}{n:Nat}{a:List Rz}(h:SwC M n a M'):Nl M->jr a=false->Nl M':=by
 induction h with
 | stop M=>exact λn _=>n
 | @lost M M' k e s l=>
  intro n z;rw[show jr [evz e]=true from decide_eq_true l]at z;cases z
 | @go M N M' k e a s l h c=>
  intro n z;have b:Nl N:=by
   rcases n.step s with y | y
   ·exact absurd y.1 l
   ·exact y.2
  by_cases hz:a=[]
  ·subst hz;exact c b rfl
  ·rw[Zd4 _ hz]at z;exact c b z
theorem Zmr.nl{M M':Wm}{r:Q4}{a:List Rz}(h:Zmr M r a M')(n:Nl M)(z:jr a=false):Nl M':=by
 cases r with
 | sw k=>exact SwC.nl h n z
 | dd d=>
  obtain⟨rfl,rfl⟩:=h;exact n.deed d
def HsO(H:Hp)(l:AI)(hs:yW):Prop:=∃ts:AF,H l=some (.lst cf)/\Al (λ(a:AI) (m:Str×Int)=>H a=some (.tup [.str m.1,.int m.2])) ts hs
theorem HsO.same{H H':Hp}{l:AI}{hs:yW}(h:HsO H l hs)(s:bB H H'):HsO H' l hs:=by
 obtain⟨ts,h1,h2⟩:=h;exact⟨ts,s _ _ h1,h2.mono λa m z=>s _ _ z⟩
theorem HsO.at{H:Hp}{l:AI}{hs:yW}(h:HsO H l hs){i:Nat}{m:Str×Int}(hm:hs[i]? =some m):∃ts:AF,∃t,H l=some (.lst cf)/\ts[i]? =some t/\H t=some (.tup [.str m.1,.int m.2]):=by
 obtain⟨ts,h1,h2⟩:=h;obtain⟨t,e,z⟩:=h2.get hm;exact⟨ts,t,h1,e,z⟩
theorem Zmh{e d:Type}{P:e->d->Prop}:∀{xs:List e}{c:List d},xs.length=c.length->(∀(i:Nat) x y,xs[i]? =some x->c[i]? =some y->P x y)->Al P xs c
 | [],[],_,_=>.nil
 | [],_::_,h,_=>by simp at h
 | _::_,[],h,_=>by simp at h
 | x::xs,y::c,h,p=>.cons (p 0 x y rfl rfl) (Zmh (by simpa using h) λi a b h1 h2=>p br a b (by simpa using h1) (by simpa using h2))
inductive Zeg(K:aC)(a:AI)(k:Int)(H:Hp)(Q:VK):Prop
 | mk (ns:AE) (_:cC K H a (ns.map V.int)) (_:0<=k) (_:∀z:Int,Q (.int z) H):Zeg K a k H Q
def Zek(K:aC):Sp:=λvs H Q E=>∃a k,vs=[.ref a,.int k]/\Zeg K a k H Q
inductive Zef(c:Int)(p:Int)(m:Int)(H:Hp)(Q:VK):Prop
 | mk (_:0<p) (_:p<2 ^ 32) (_:0<m) (_:∀z:Int,0<=z->z<m->Q (.int z) H):Zef c p m H Q
def Bp:Sp:=λvs H Q E=>∃c p m,vs=[.int c,.int p,.int m]/\Zef c p m H Q
def Y6:Sp:=λvs H Q E=>∃c,vs=[.int c]/\∀l hs H',bB H H'->H l=none->HsO H' l hs->HsB hs->Q (.ref l) H'
def Zei:Sp:=λvs H Q E=>∃c,vs=[.int c]/\∀z:Int,Q (.int z) H
def Zeh:Sp:=λvs H Q E=>∃d n,vs=[.int d,.int n]/\3<=n/\∀z:Nat,(z:Int)<n->Q (.int z) H
def Zml:Sp:=λvs H Q E=>∃c w,vs=[.int c,.int w]/\0<=w/\w<=1000/\∀z:Str,Q (.str z) H
def okW(hs:yW):Q4->Prop
 | .sw n=>1<=n/\n<=200
 | .dd d=>okR hs d
def Zms(hs:yW)(H:Hp)(Q:VK):Prop:=∀a r H',bB H H'->H' a=some (.tup (rV r))->okW hs r->Q (.ref a) H'
inductive Zec(c:Int)(h:Int)(s:Int)(H:Hp)(Q:VK):Prop
 | mk (hn sn:Nat) (hs:yW) (_:h=(hn:Int)) (_:s=(sn:Int)) (_:Xg hs hn sn) (_:Zms hs H Q):Zec c h s H Q
def Zmp:Sp:=λvs H Q E=>∃c h s,vs=[.int c,.int h,.int s]/\Zec c h s H Q
inductive QD(c:Int)(m:Int)(H:Hp)(Q:VK):Prop
 | mk (_:1<=m) (_:m<=200) (hs) (_:Zms hs H Q):QD c m H Q
def Zbm:Sp:=λvs H Q E=>∃c m,vs=[.int c,.int m]/\QD c m H Q
inductive QF(c:Int)(h:Int)(s:Int)(l:AI)(d:Int)(H:Hp)(Q:VK):Prop
 | mk (hn sn:Nat) (hs:yW) (_:h=(hn:Int)) (_:s=(sn:Int)) (_:Xg hs hn sn) (_:HsO H l hs) (_:HsB hs) (_:Zms hs H Q):QF c h s l d H Q
def Zbn:Sp:=λvs H Q E=>∃c h s l d,vs=[.int c,.int h,.int s,.ref l,.int d]/\QF c h s l d H Q
inductive Zea(c:Int)(l:AI)(d:Int)(m:Int)(H:Hp)(Q:VK):Prop
 | mk (hs:yW) (_:HsO H l hs) (_:HsB hs) (_:1<=m) (_:m<=200) (_:Zms hs H Q):Zea c l d m H Q
def Zmn:Sp:=λvs H Q E=>∃c l d m,vs=[.int c,.ref l,.int d,.int m]/\Zea c l d m H Q
def RwL(H:Hp)(l:AI)(rs:List Q4):Prop:=∃b:AF,H l=some (.lst (b.map V.ref))/\b.length=rs.length/\∀(i:Nat) a,b[i]? =some a->∃r,rs[i]? =some r/\H a=some (.tup (rV r))
inductive YX(K:aC)(a:AI)(l:AI)(d:Int)(m:Int)(H:Hp)(Q:VK):Prop
 | mk (ns:AE) (hs:yW) (_:cC K H a (ns.map V.int)) (_:ns.length<=100) (_:HsO H l hs) (_:HsB hs) (_:1<=m) (_:m<=200) (_:∀p rs H',bB H H'->H p=none->RwL H' p rs->rs.length=ns.length->(∀r∈rs,okW hs r)->Q (.ref p) H'):YX K a l d m H Q
def Y4(K:aC):Sp:=λvs H Q E=>∃a l d m,vs=[.ref a,.ref l,.int d,.int m]/\YX K a l d m H Q
def Y5(X:Cs):Sp:=λvs H Q E=>∃c,vs=[.int c]/\∀ki lk w t H',0<=t->t<4->w=c % 3->bB H H'->H ki=none->H lk=none->KdO X H' ki lk w t->Q (.ref ki) H'
theorem Zet(c:Nat):(⟨#[c]⟩:Str).length=1:=rfl
theorem Zpl(a b:Str):(a++b).length=a.length+b.length:=by
 show(a.cps++b.cps).size=_;rw[Array.size_append];rfl
variable {K:aC}{X:Cs}{rf:Rf->AI}{H:Hp}{Q:VK}{E:XK}{n:ν}{bk ct:ν}
section
theorem YT{a:AI}{k:Int}(q:Zeg K a k H Q):Df K ξ [↑a,some (.int k)] H:=by
 obtain⟨ns,b,h0,h⟩:=q;unfold Df;apply eZ b ?_;apply j9 (λh1=>?_) (λh1=>?_)
 ·ext;rw[aY]at h1;have hk:k.toNat<ns.length:=δ
  exact fB b (nu h0 (by rw[cg,bD hk]<;>rfl)) (h _)
 ·apply h _
theorem YS{c p m:Int}(q:Zef c p m H Q):De ξ [some (.int c),some (.int p),some (.int m),none] H:=by
 obtain⟨a,f,b,q⟩:=q;have h1:=Int.emod_nonneg c (show p≠0 by omega);have h2:=Int.emod_lt_of_pos c a;unfold De;ext;generalize c % p+11=d at *;have e:=Int.emod_nonneg (d * d) (show p≠0 by omega);have h4:=Int.emod_lt_of_pos (d * d) a;apply q _ (Int.emod_nonneg _ δ) (Int.emod_lt_of_pos _ b)
theorem YJ{d m:Int}(q:3<=m/\∀z:Nat,(z:Int)<m->Q (.int z) H):CV ξ [some (.int d),some (.int m)] H:=by
 obtain⟨a,q⟩:=q;unfold CV;apply j9 Δ Δ
 ·ext;obtain⟨k,hk⟩:=Int.eq_ofNat_of_zero_le (Int.emod_nonneg (d / 5) (show m≠0 by omega));have:=Int.emod_lt_of_pos (d / 5) (show 0<m by omega);rw[hk]at this ⊢;exact q k this
 ·ext;obtain⟨k,hk⟩:=Int.eq_ofNat_of_zero_le (Int.emod_nonneg (d / 5) (show(3:Int)≠0 by decide));have:=Int.emod_lt_of_pos (d / 5) (show(0:Int)<3 by decide);rw[hk]at this ⊢;exact q k δ
theorem YL{c:Int}(q:∀z:Int,Q (.int z) H):CZ ξ [some (.int c)] H:=by
 unfold CZ;apply j9 Δ Δ
 ·apply q _
 ·apply j9 Δ Δ
  ·apply q _
  ·apply q _
theorem YH{c w:Int}(q:0<=w/\w<=1000/\∀z:Str,Q (.str z) H):CT ξ [some (.int c),some (.int w),none,none] H:=by
 obtain⟨w0,w1,q⟩:=q;unfold CT;apply Zlj ε (Int.emod_nonneg _ ε) (Int.emod_lt_of_pos _ ε) λf=>?_;ext;have d:=nZ "knot" none (some (c % 5));have a:=nZ "ted" none (some (c / 5 % 4));have e:("knot":Str).length=4:=rfl;have b:("ted":Str).length=3:=rfl;refine Zfm ε ?_;apply Yj (by rw[Zet];exact bF δ) ?_;apply Zfm ε ?_;apply Yj (by rw[Zpl,Zet];exact bF δ) ?_;exact q _
theorem S8{c:Int}(q:∀l hs H',bB H H'->H l=none->HsO H' l hs->HsB hs->Q (.ref l) H'):zO K ξ [some (.int c),none,none,none,none,none] H:=by
 unfold zO;apply⟨ε,λl nl=>?_⟩;generalize zz:upd H l _=H1;obtain⟨N,v⟩:=nwO nl zz;have v:H1 l=some (.lst (([]:AF).map V.ref)):=v;ext;have U:=Int.emod_nonneg c (show(5:Int)≠0 by decide);have z1:=Int.emod_lt_of_pos c (show(0:Int)<5 by decide);refine⟨_,rfl,δ,δ,?_⟩;refine forR (λk B d=>∃(ts:AF) (hs:yW) (w A s:Option V),B=[some (.int c),some (.str "abcdefghijklmnopqrstuvwxyz"),↑l,w,A,s]/\bB H d/\d l=some (.lst cf)/\Al (λ(a:AI) (m:Str×Int)=>d a=some (.tup [.str m.1,.int m.2])) ts hs/\hs.length=k/\∀m∈hs,3<=m.2/\m.2<=9) ⟨[],[],none,none,none,rfl,N,v,.nil,rfl,λm hm=>by cases hm⟩ ?_ ?_
 ·rintro k B d hk ⟨ts,hs,w,A,s,rfl,p,j,al,hl,hb⟩;have J:k<5:=δ
  have C:=al.length;apply Zlj ε (Int.emod_nonneg _ ε) (Int.emod_lt_of_pos _ ε) λP=>?_;ext;have Z:=nZ "loom" none (some (c / 7 % 5));have T:=nZ "fernway" none (some (c / 11 % 8));have S:("loom":Str).length=4:=rfl;have X:("fernway":Str).length=7:=rfl;refine Zfm ε ?_;apply Yj (by rw[Zet];exact bF δ) ?_;apply Zfm ε ?_;apply Yj (by rw[Zpl,Zet];exact bF δ) ?_;generalize Yy "loom" none (some (c / 7 % 5))++⟨#[P]⟩++Yy "fernway" none (some (c / 11 % 8))=wd;exists .inl ⟨rfl,_,cC.of j⟩;ext;have L:=Int.emod_nonneg (c / 3+2 * ((0:Int)+k) * ((0:Int)+k)) (show(7:Int)≠0 by decide);have M:=Int.emod_lt_of_pos (c / 3+2 * ((0:Int)+k) * ((0:Int)+k)) (show(0:Int)<7 by decide);have y1:=Int.emod_nonneg (c / 17) (show(2:Int)≠0 by decide);have W:=Int.emod_lt_of_pos (c / 17) (show(0:Int)<2 by decide);have F:3<=3+(c / 3+2 * ((0:Int)+k) * ((0:Int)+k)) % 7 * (c / 17 % 2)/\3+(c / 3+2 * ((0:Int)+k) * ((0:Int)+k)) % 7 * (c / 17 % 2)<=9:=by
   generalize (c / 3+2 * ((0:Int)+k) * ((0:Int)+k)) % 7=u at L M ⊢;rcases(by omega:c / 17 % 2=0\/c / 17 % 2=1)with e | e<;>rw[e]<;>omega
  generalize 3+(c / 3+2 * ((0:Int)+k) * ((0:Int)+k)) % 7 * (c / 17 % 2)=h at F ⊢;refine⟨bF ζ,λt O=>?_⟩;generalize zz:upd d t _=H3;obtain⟨r,R⟩:=nwO O zz;have I:=r _ _ j;exists l,_,_,rfl,rfl,I,?_
  ·rw[aY];exact Nat.lt_of_le_of_lt (show _<=1000 by omega) ε
  rw[show ts.map V.ref++[V.ref t]=(ts++[t]).map V.ref from by rw[List.map_append];rfl];have E:∀b D,H3 b=some (.tup D)->upd H3 l (.lst ((ts++[t]).map V.ref)) b=some (.tup D):=λb D hb=>by
   rw[aA (lE hb I a8)];exact hb
  apply⟨ts++[t],hs++[(wd,h)],_,_,_,rfl,λb o hb=>by rw[aA (aD hb nl)];exact r _ _ (p _ _ hb),aq,?_,by rw[List.length_append,hl];rfl,λm hm=>?_⟩
  ·refine Zmh (by rw[List.length_append,List.length_append,C];rfl) λi x y f g=>?_
   by_cases hi:i<ts.length
   ·rw[List.getElem?_append_left hi]at f;rw[List.getElem?_append_left δ]at g;obtain⟨Y,e3,z⟩:=al.get g;rw[f]at e3;cases e3;exact E _ _ (r _ _ z)
   ·have h1:=(cG f).1;rw[List.length_append,List.length_singleton]at h1;rw[List.getElem?_append_right δ]at f g;rw[show i - ts.length=0 by omega]at f;rw[show i - hs.length=0 by omega]at g;cases f;cases g;exact E _ _ R
  ·rcases List.mem_append.mp hm with hm | hm
   ·exact hb m hm
   ·rw[List.mem_singleton.mp hm];exact F
 ·rintro B d ⟨ts,hs,w,A,s,rfl,p,j,al,hl,hb⟩;apply q l hs d p nl ⟨ts,j,al⟩ ⟨δ,δ,hb⟩
theorem YM{c h s:Int}(q:Zec c h s H Q):Dc K Bp ξ [some (.int c),some (.int h),some (.int s),none,none] H:=by
 obtain⟨hn,g,hs,rfl,rfl,oh,q⟩:=q;unfold Dc;apply⟨by show 10<=sizeLine;decide,λp j=>?_⟩;generalize zz:upd H p _=H1;obtain⟨e,i⟩:=nwO j zz;apply⟨_,_,_,rfl,ε,ε,ε,λz k z1=>?_⟩;obtain⟨a,hm,f,d⟩:∃a:Int,YG [V.int 1,.int 1,.int 1,.int 2,.int 2,.int 2,.int 2,.int 3,.int 0,.int 8] z=some (.int a)/\0<=a/\a<=8:=by
  rcases(by omega:z=0\/z=1\/z=2\/z=3\/z=4\/z=5\/z=6\/z=7\/z=8\/z=9)with rfl | rfl | rfl | rfl | rfl | rfl | rfl | rfl | rfl | rfl<;>exact⟨_,rfl,ε,ε⟩
 refine fB (cC.of i) hm ?_;apply⟨_,_,_,rfl,ε,ε,ε,λy l y1=>?_⟩;apply j9 Δ Δ
 ·apply⟨by show 5<=sizeLine;decide,λt b=>?_⟩;exact q t (.dd (.make hn g a _)) _ (e.trans (aL b _)) aq ⟨oh,f,d,Int.emod_nonneg _ ε⟩
 ·apply⟨by show 5<=sizeLine;decide,λt b=>?_⟩;exact q t (.dd (.make hn g a _)) _ (e.trans (aL b _)) aq ⟨oh,f,d,Int.emod_nonneg _ ε⟩
end
section
theorem Ub{m:Int}{hs:yW}(g:0<=m)(i:m<200)(q:Zms hs H Q){a c d:Option V}{e:TE}(f:∀b:VK,b (.int (1+m)) H->e [a,c,d] H b):bz (ig (ak (tC (.str "sweep")) (ak e aG))) ξ [a,c,d] H:=by
 apply f _ ?_;apply⟨by show 2<=sizeLine;decide,λt h=>?_⟩;obtain⟨k,rfl⟩:=Int.eq_ofNat_of_zero_le g;exact q t (.sw dC) _ (aL h _) (by rw[aq];show _=some (HO.tup [V.str "sweep",V.int ((k+1:Nat):Int)]);rw[show(1+(k:Int))=((k+1:Nat):Int) by omega]) ⟨δ,δ⟩
theorem SX{c m:Int}(q:QD c m H Q):zK Bp ξ [some (.int c),some (.int m),none] H:=by
 obtain⟨f,b,hs,q⟩:=q;unfold zK;apply⟨_,_,_,rfl,ε,ε,ε,λz e z1=>?_⟩;apply j9 Δ Δ
 ·exact Ub (m:=z / 2 % 4) (Int.emod_nonneg _ ε) δ q λa h=>by apply h
 ·refine Qe ?_;have a0:=Int.emod_nonneg (z / 2) (show m≠0 by omega);have d:=Int.emod_lt_of_pos (z / 2) (show 0<m by omega);refine Yg ?_;exact Ub (m:=z / 2 % m) a0 δ q λa h=>by apply h
theorem S6{c h s d:Int}{l:AI}(q:QF c h s l d H Q):zM K Bp Zeh Zml ξ [some (.int c),some (.int h),some (.int s),↑l,some (.int d),none,none,none,none] H:=by
 obtain⟨hn,b,hs,rfl,rfl,oh,f,hb,q⟩:=q;have n1:=hb.n1;have n5:=hb.n5;unfold zM;apply⟨_,_,_,rfl,ε,ε,ε,λz B z1=>?_⟩;apply⟨_,_,rfl,δ,δ,λwd=>?_⟩;ext;obtain⟨r,j,m⟩:=id f;refine j9 Δ Δ
 ·apply eZ (cC.of j) ?_;rw[aY,m.length];apply⟨_,_,_,rfl,ε,ε,δ,λg w A=>?_⟩;obtain⟨g,rfl⟩:=Int.eq_ofNat_of_zero_le w;have hg:g<hs.length:=δ
  have e:hs[g]? =some hs[g]:=bD hg;obtain⟨ts,t,i,k,o⟩:=f.at e;have x:=hb.sb _ (List.getElem_mem hg);apply fB (v:=.ref t) (cC.of i) (fG (by rw[cg,k];rfl)) ?_;exists t,_,1,_,rfl,rfl,cP.of o,rfl;apply⟨_,_,_,rfl,ε,ε,ε,λy C y1=>?_⟩;apply⟨_,_,rfl,x.1,λu hu=>?_⟩;apply⟨by show 5<=sizeLine;decide,λp a=>?_⟩;exact q p (.dd (.give hn b g u)) _ (aL a _) aq ⟨oh,_,e,hu⟩
 ·apply j9 Δ Δ
  ·apply⟨by show 4<=sizeLine;decide,λp a=>?_⟩;exact q p (.dd (.name hn b wd)) _ (aL a _) aq oh
  apply j9 Δ Δ
  ·apply⟨by show 4<=sizeLine;decide,λp a=>?_⟩;exact q p (.dd (.seek hn b wd)) _ (aL a _) aq oh
  apply j9 Δ Δ
  ·apply⟨by show 3<=sizeLine;decide,λp a=>?_⟩;exact q p (.dd (.read hn b)) _ (aL a _) aq oh
  apply j9 Δ Δ
  ·apply⟨by show 4<=sizeLine;decide,λp a=>?_⟩;exact q p (.dd (.write hn b _)) _ (aL a _) aq oh
  apply⟨by show 4<=sizeLine;decide,λp a=>?_⟩;exact q p (.dd (.write hn b _)) _ (aL a _) aq oh
theorem Zbj{c d m:Int}{l:AI}(q:Zea c l d m H Q):IW K Bp Zmp Zbn Zeh Zbm ξ [some (.int c),↑l,some (.int d),some (.int m),none,none,none,none,none] H:=by
 obtain⟨hs,h,hb,C,x,q⟩:=q;have n1:=hb.n1;have n5:=hb.n5;obtain⟨B,w,A⟩:=id h;unfold IW;apply eZ (cC.of w) ?_;rw[aY,A.length];apply⟨_,_,_,rfl,ε,ε,δ,λg D I=>?_⟩;obtain⟨g,rfl⟩:=Int.eq_ofNat_of_zero_le D;have hg:g<hs.length:=δ
 have e:hs[g]? =some hs[g]:=bD hg;obtain⟨ts,t,k,o,r⟩:=h.at e;have s:=hb.sb _ (List.getElem_mem hg);apply⟨_,_,_,rfl,ε,ε,ε,λy E y1=>?_⟩;apply fB (v:=.ref t) (cC.of k) (fG (by rw[cg,o];rfl)) ?_;exists t,_,1,_,rfl,rfl,cP.of r,rfl;apply⟨_,_,rfl,s.1,λu hu=>?_⟩;apply⟨_,_,_,rfl,ε,ε,ε,λy E y1=>?_⟩;apply fB (v:=.ref t) (cC.of k) (fG (by rw[cg,o];rfl)) ?_;exists t,_,1,_,rfl,rfl,cP.of r,rfl;apply⟨_,_,rfl,s.1,λi hi=>?_⟩;apply⟨_,_,_,rfl,ε,ε,ε,λf z F=>?_⟩;obtain⟨f,rfl⟩:=Int.eq_ofNat_of_zero_le z;have b:Xg hs g u:=⟨_,e,hu⟩;have j:Xg hs g i:=⟨_,e,hi⟩;apply j9 Δ Δ
 ·apply⟨_,_,_,rfl,g,u,hs,rfl,rfl,b,q⟩
 apply j9 Δ Δ
 ·apply⟨by show 5<=sizeLine;decide,λp a=>?_⟩;exact q p (.dd (.get g u i f)) _ (aL a _) aq ⟨b,j⟩
 apply j9 Δ Δ
 ·apply⟨by show 5<=sizeLine;decide,λp a=>?_⟩;exact q p (.dd (.put g u f i)) _ (aL a _) aq ⟨b,j⟩
 apply j9 Δ Δ
 ·apply⟨by show 3<=sizeLine;decide,λp a=>?_⟩;exact q p (.dd (.drop g u)) _ (aL a _) aq b
 apply j9 Δ Δ
 ·apply⟨by show 4<=sizeLine;decide,λp a=>?_⟩;exact q p (.dd (.copy g u i)) _ (aL a _) aq ⟨b,j⟩
 apply j9 Δ Δ
 ·apply⟨_,_,rfl,C,x,hs,q⟩
 apply⟨_,_,_,l,_,rfl,g,u,hs,rfl,rfl,b,h,hb,q⟩
theorem RwL.add{H:Hp}{l b:AI}{rs:List Q4}{r:Q4}{d:AF}(h1:H l=some (.lst (d.map V.ref)))(h2:d.length=rs.length)(h:∀(i:Nat) a,d[i]? =some a->∃r,rs[i]? =some r/\H a=some (.tup (rV r)))(hb:H b=some (.tup (rV r))):RwL (upd H l (.lst (d.map V.ref++[.ref b]))) l (rs++[r]):=by
 have g:∀{c:AI}{k:List V},H c=some (.tup k)->c≠l:=λhc e=>by rw[e,h1]at hc;cases hc
 refine⟨d++[b],by rw[aq,List.map_append];rfl,by rw[List.length_append,List.length_append,h2];rfl,λi a f=>?_⟩
 by_cases hi:i<d.length
 ·rw[List.getElem?_append_left hi]at f;obtain⟨y,j,hy⟩:=h i a f;exact⟨y,by rw[List.getElem?_append_left δ];exact j,by rw[aA (g hy)];exact hy⟩
 ·have hl:=(cG f).1;rw[List.length_append,List.length_singleton]at hl;obtain rfl:i=d.length:=δ
  rw[List.getElem?_append_right υ,Nat.sub_self]at f;cases f;exact⟨r,by rw[h2,List.getElem?_append_right υ,Nat.sub_self];rfl,by rw[aA (g hb)];exact hb⟩
theorem YK{a l:AI}{d m:Int}(q:YX K a l d m H Q):CW K Zmn ξ [↑a,↑l,some (.int d),some (.int m),none,none,none] H:=by
 obtain⟨ns,hs,F,hn,M,hb,P,N,q⟩:=q;unfold CW;apply⟨ε,λp C=>?_⟩;generalize zz:upd H p _=H1;obtain⟨E,z⟩:=nwO C zz;have z:H1 p=some (.lst (([]:AF).map V.ref)):=z;exists a,rfl,⟨_,E.seq F⟩;refine Zsp (ns.map V.int) (λi u j=>∃rs w y,u=[↑a,↑l,some (.int d),some (.int m),↑p,w,y]/\bB H j/\RwL j p rs/\rs.length=i/\∀r∈rs,okW hs r) ⟨[],none,none,rfl,E,⟨[],z,rfl,λi a h=>by cases h⟩,rfl,λr hr=>by cases hr⟩ (by rintro i u j _ ⟨_,_,_,_,s,_⟩;exact s.seq F) ?_ ?_
 ·rintro i x t u j hx ⟨rs,w,y,rfl,k,g,hl,hok⟩ R;rw[cg]at hx;obtain⟨c,hc,rfl⟩:=Option.map_eq_some_iff.mp hx;have hi:=(cG hc).1;obtain⟨W,D,I,O⟩:=g;generalize zz:upd j t _=H2;obtain⟨v,L⟩:=nwO R zz;refine⟨t,_,rfl,cP.of L,rfl,?_⟩;refine⟨_,_,rfl,?_⟩;exists _,_,rfl;exists rfl;exists .inl ⟨rfl,_,cC.of (v _ _ D)⟩;apply⟨_,l,_,_,rfl,hs,M.same (k.trans v),hb,P,N,λb r U J B A=>?_⟩;have f:=v.trans J;apply⟨p,_,_,rfl,rfl,f _ _ D,by rw[aY,I,hl,sizeLine_eq];omega,?_⟩;apply⟨rs++[r],_,_,rfl,λb o hb=>by rw[aA (aD hb C)];exact f _ _ (k _ _ hb),RwL.add (f _ _ D) I (λi a T=>let ⟨r,e,q⟩:=O i a T;⟨r,e,f _ _ q⟩) B,by rw[List.length_append,hl];rfl,λS hr=>?_⟩;rcases List.mem_append.mp hr with hr | hr
  ·exact hok S hr
  ·rw[List.mem_singleton.mp hr];exact A
 ·rintro u j ⟨rs,w,y,rfl,k,g,hl,hok⟩;rw[aY]at hl;apply q p rs j k C g hl hok
theorem Pa{C:AI}{w t:Int}{σ:St}{m:TE}(y:∀(a:Hp) (r:VK),r (.int t) a->m σ a r)(u:∀{a:Hp}{lk dl:AI},a lk=some (.ins C dl [])->(w=0/\a lk=some (.ins X.F dl []))\/(w=1/\a lk=some (.ins X.E dl []))\/(w=2/\a lk=some (.ins X.L dl [])))
  (q:∀ki lk H',bB H H'->H ki=none->H lk=none->KdO X H' ki lk w t->Q (.ref ki) H'):sr X.K (yF X.K) [] E0 (ak (G.Gp C) (ak m aG)) σ H Q:=by
 ext;intro lk dl e j v;have f:bB H (upd (upd H dl (.own lk)) lk (.ins C dl [])):=λb o hb=>by rw[aA (aD hb e),aA (aD hb j)];exact hb
 have h:upd (upd H dl (.own lk)) lk (.ins C dl []) lk=some (.ins C dl []):=aq;generalize upd (upd H dl (.own lk)) lk (.ins C dl [])=a at f h ⊢;left;refine y a _ ?_;left;intro ki d c k x;have g:bB a (upd (upd a d (.own ki)) ki (.ins X.K d [])):=λb o hb=>by rw[aA (aD hb c),aA (aD hb k)];exact hb
 have l:upd (upd a d (.own ki)) ki (.ins X.K d []) ki=some (.ins X.K d []):=aq;generalize upd (upd a d (.own ki)) ki (.ins X.K d [])=A at g l ⊢;refine⟨ki,lk,t,rfl,d,l,λp z n=>⟨rfl,?_⟩⟩;have s:bB H p:=λb o hb=>n b o (g _ _ (f _ _ hb)) (aD (f _ _ hb) c);have i:lk≠ki:=aD h c;exact q ki lk p s (f.free c) e ⟨⟨d,z⟩,⟨dl,u (n _ _ (g _ _ h) i)⟩⟩
theorem YQ{c:Int}(q:∀ki lk w t H',0<=t->t<4->w=c % 3->bB H H'->H ki=none->H lk=none->KdO X H' ki lk w t->Q (.ref ki) H'):Dd X.E X.F X.K X.L (yF X.K) ξ [some (.int c),none] H:=by
 have b:=Int.emod_nonneg (c / 3) (show(4:Int)≠0 by decide);have t1:=Int.emod_lt_of_pos (c / 3) (show(0:Int)<4 by decide);have w0:=Int.emod_nonneg c (show(3:Int)≠0 by decide);have w1:=Int.emod_lt_of_pos c (show(0:Int)<3 by decide);unfold Dd;apply j9 dB dB
 ·refine Zfn ?_;exact Pa (λd f h=>by apply h) (λe=>.inl ⟨rfl,e⟩) λki lk H' s n1 n2 a=>q ki lk 0 (c / 3 % 4) H' b t1 z.symm s n1 n2 a
 ·refine Yg ?_;refine Qe ?_;left;refine j9 (λy=>?_) (λy=>?_)
  ·refine Zfn ?_;exact Pa (λd f h=>by apply h) (λe=>.inr (.inl ⟨rfl,e⟩)) λki lk H' s n1 n2 a=>q ki lk 1 (c / 3 % 4) H' b t1 y.symm s n1 n2 a
  ·refine Yg ?_;refine Zfn ?_;exact Pa (λd f h=>by apply h) (λe=>.inr (.inr ⟨rfl,e⟩)) λki lk H' s n1 n2 a=>q ki lk 2 (c / 3 % 4) H' b t1 δ s n1 n2 a
end
def QX(b H:Hp)(T:Tg)(s:Nat)(a:AI)(x:Rz):Prop:=∃l,b l=none/\H a=some (.tup [.str x.1,x.2.1,.ref l])/\H l=some (.lst (x.2.2.map V.int))/\TgO s (T a)/\TgO s (T l)
theorem QX.mv{b H H':Hp}{T T':Tg}{s:Nat}{a:AI}{x:Rz}(c:s≠0)(h:QX b H T s a x)(st:eO s H H' T T'):QX b H' T' s a x:=by
 obtain⟨l,f,h1,h2,t1,t2⟩:=h;exact⟨l,f,st.kp _ _ h1 (t1.ne c),st.kp _ _ h2 (t2.ne c),by rw[st.tg _ _ h1];exact t1,by rw[st.tg _ _ h2];exact t2⟩
theorem QX.put{b H:Hp}{T:Tg}{s:Nat}{a p:AI}{x:Rz}{xs:List V}{o c:HO}(h:QX b H T s a x)(hp:b p=some c)(hl:H p=some (.lst xs)):QX b (upd H p o) T s a x:=by
 obtain⟨l,f,h1,h2,t⟩:=h;exact⟨l,f,by rw[aA λz=>by rw[z,hl]at h1;cases h1];exact h1,by rw[aA λz=>by rw[z,hp]at f;cases f];exact h2,t⟩
theorem QX.base{b c H:Hp}{T:Tg}{s:Nat}{a:AI}{x:Rz}(h:QX b H T s a x)(sm:bB c b):QX c H T s a x:=by
 obtain⟨l,f,r⟩:=h;exact⟨l,sm.free f,r⟩
def Zvd(X:Cs)(M:Wm)(r:Q4)(hs:yW)(k:Nat)(T:Tg)(s:Nat)(wo:AI)(H:Hp)(Q:VK):Prop:=
 ∀a c M' H' T' b p,Zmr M r a M'->a≠[]->a.length<=1000->KW M' hs dC->eO s H H' T T'->WJ X H' T' s b M'->b.wo=wo->Al (QX H H' T' s) c a->H' p=some (.lst (c.map V.ref))->H p=none->TgO s (T' p)->Q (.ref p) H'
inductive DnQ(X:Cs)(wo dd:AI)(H:Hp)(Q:VK):Prop
 | mk (T s A M r hs k) (_:WT H T) (_:s≠0) (_:WJ X H T s A M) (_:A.wo=wo) (_:H dd=some (.tup (rV r))) (_:okW hs r) (_:KW M hs k) (_:HsB hs) (_:k<=800) (_:Nl M) (_:Zvd X M r hs k T s wo H Q):DnQ X wo dd H Q
def HB:Sp:=λvs H Q E=>∃z,vs=[.str z]/\∀a l H',bB H H'->H a=none->H l=none->H' a=some (.tup [.str "refused",.str z,.ref l])->H' l=some (.lst [])->Q (.ref a) H'
inductive DdQ(X:Cs)(wo dd:AI)(H:Hp)(Q:VK):Prop
 | mk (T s A M d hs k) (_:WT H T) (_:s≠0) (_:WJ X H T s A M) (_:A.wo=wo) (_:H dd=some (.tup (dV d))) (_:okR hs d) (_:KW M hs k) (_:k<=800) (_:∀H' T' A' a,eO s H H' T T'->WJ X H' T' s A' (stM M (dN M d))->A'.wo=wo->QX H H' T' s a (jY (dN M d))->Q (.ref a) H'):DdQ X wo dd H Q
def Zg9(X:Cs):Sp:=λvs H Q E=>∃wo dd,vs=[.ref wo,.ref dd]/\DdQ X wo dd H Q
theorem KW.turn{M:Wm}{hs:yW}{k:Nat}(p:KW M hs k){d:ie}(o:okR hs d):KW (stM M bE) hs dC:=by
 cases e:dN M d with
 | ok x=>exact p.deed (e:=x.1) o (by rw[e];rfl)
 | error r=>exact p.mono (Nat.le_succ _)
theorem KW.grl{M:Wm}{hs:yW}{k:Nat}(p:KW M hs k)(hk:k<=800)(z:M.sw.phase="walk"):M.sw.grey.length<=800:=by
 obtain⟨nd,gr⟩:=p.gr z;have:=Om M.cells.length M.sw.grey nd λx hx=>by
  obtain⟨c,hc,_⟩:=gr x hx;exact Hq hc
 have:=p.cl;omega
theorem Zp3{X:Cs}{rf:Rf->AI}{wo dd:AI}{T:Tg}{s:Nat}{A:Wa}{M:Wm}{d:ie}{hs:yW}{k:Nat}{H:Hp}{Q:VK}{E:XK}(w:WT H T)(f:s≠0)(j:WJ X H T s A M)(aw:A.wo=wo)(c:H dd=some (.tup (dV d)))(o:okR hs d)(kw:KW M hs k)(hk:k<=800)
  (h1:∀r,dN M d=.error r->∀H',bB H H'->E (.ref (rf r)) none H') (h2:∀e M',dN M d=.ok (e,M')->∀H' T' b a,eO s H H' T T'->WJ X H' T' s b M'->b.wo=wo->EvN H H' T' s a e->Q (.ref a) H'):Zvb X rf [.ref wo,.ref dd] H Q E:=
 ⟨wo,dd,rfl,T,s,A,M,d,trivial,w,f,j,aw,c,kw.okD o,by have:=kw.cl;omega,λz=>Nat.le_trans (kw.grl hk z) ε,kw.tl,by have:=kw.nl;omega,h1,h2⟩
section
theorem Zcj{z:Str}(q:∀a l H',bB H H'->H a=none->H l=none->H' a=some (.tup [.str "refused",.str z,.ref l])->H' l=some (.lst [])->Q (.ref a) H'):M9 ξ [some (.str z)] H:=by
 unfold M9;apply⟨ε,λl nl=>?_⟩;refine⟨bF ζ,λa b=>?_⟩;exact q a l _ ((aL nl _).trans (aL b _)) ((aL nl _).free b) nl aq ((aL b _) _ _ aq)
theorem Q6{wo dd CE x t v:AI}(h1:rf .empty=CE)(h2:rf .full=x)(F:rf .jB=t)(h4:rf .xT=v)(q:DdQ X wo dd H Q):
  rF CE x t v (Zvb X rf) HB ξ [↑wo,↑dd] H:=by
 obtain⟨T,s,A,M,d,hs,k,w,i,j,aw,C,o,kw,hk,q⟩:=q;subst h1 h2 F h4;have p:∀r,dN M d=.error r->∀b,bB H b->∀a l f,bB b f->b a=none->b l=none->f a=some (.tup [.str "refused",.str (rfS r),.ref l])->f l=some (.lst [])->Q (.ref a) f:=λr h b c a l f y D fl L hl=>by
  have g:=c.trans y;refine q f T A a (eO.same w g) (by rw[h];exact j.same g) aw ?_;rw[h];exact⟨l,c.free fl,L,hl,(rC w i (c.free D)).2,(rC w i (c.free fl)).2⟩
 unfold rF;apply Zp3 w i j aw C o kw hk (λr h b c=>?_) λe N u b B J a st K m ev=>?_
 ·have z:=p r h b c;cases r with
  | full=>
   refine .inr (.inr (.inl ⟨rfl,?_⟩));apply⟨_,rfl,z⟩
  | empty=>
   refine .inl ⟨rfl,?_⟩;apply⟨_,rfl,z⟩
  | jB=>
   refine .inr (.inl ⟨rfl,?_⟩);apply⟨_,rfl,z⟩
  | xT=>
   refine .inr (.inr (.inr ⟨rfl,?_⟩));apply⟨_,rfl,z⟩
 ·ext;obtain⟨l,⟨fl,t1,t2⟩,I,E⟩:=ev;exact q b B J a st (by rw[u];exact K) m (by rw[u];exact⟨l,fl,I,E,t2,t1⟩)
end
def EvH(H:Hp)(a:AI)(x:Rz):Prop:=∃l,H a=some (.tup [.str x.1,x.2.1,.ref l])/\H l=some (.lst (x.2.2.map V.int))
theorem QX.h{b H:Hp}{T:Tg}{s:Nat}{a:AI}{x:Rz}(h:QX b H T s a x):EvH H a x:=by
 obtain⟨l,_,h1,h2,_⟩:=h;exact⟨l,h1,h2⟩
inductive YW(p:AI)(H:Hp)(Q:VK):Prop
 | mk (as es) (_:H p=some (.lst (as.map V.ref))) (_:Al (EvH H) as es) (_:Q (.bl (jr es)) H):YW p H Q
def Ls:Sp:=λvs H Q E=>∃p,vs=[.ref p]/\YW p H Q
inductive SwQ(X:Cs)(wo:AI)(m:Int)(H:Hp)(Q:VK):Prop
 | mk (T s A M hs k) (n:Nat) (_:m=n) (_:WT H T) (_:s≠0) (_:WJ X H T s A M) (_:A.wo=wo) (_:KW M hs k) (_:HsB hs) (_:k<=800) (_:Nl M) (_:n<=1000) (_:∀es as M' H' T' A' p,SwC M n es M'->es.length<=n->KW M' hs k->eO s H H' T T'->WJ X H' T' s A' M'->A'.wo=wo->Al (QX H H' T' s) as es->H' p=some (.lst (as.map V.ref))->H p=none->TgO s (T' p)->Q (.ref p) H'):SwQ X wo m H Q
def Zga(X:Cs):Sp:=λvs H Q E=>∃wo m,vs=[.ref wo,.int m]/\SwQ X wo m H Q
structure SwI(X:Cs)(M:Wm)(hs:yW)(k n:Nat)(s:Nat)(wo p:AI)(H H1:Hp)(T:Tg)(Hx:Hp)(es:List Rz)(as:AF)(N:Wm)(Tx:Tg)(Ax:Wa):Prop where
 st:eO s H Hx T Tx
 j:WJ X Hx Tx s Ax N
 aw:Ax.wo=wo
 kw:KW N hs k
 hp:Hx p=some (.lst (as.map V.ref))
 tp:(Tx p).1=s+1
 ev:Al (QX H1 Hx Tx s) as es
 le:es.length<=n
 al:∀b o,H1 b=some o->∃o',Hx b=some o'
 go:(jr es=false/\Nl N/\∀n' es' M',SwC N n' es' M'->SwC M (es.length+n') (es++es') M')\/(jr es=true/\SwC M n es N)
theorem SwI.turn{X:Cs}{M:Wm}{hs:yW}{k n s:Nat}{wo p:AI}{H g:Hp}{T:Tg}{v:Hp}{c:List Rz}{d:AF}{N:Wm}{E:Tg}{L:Wa}(i:SwI X M hs k n s wo p H g T v c d N E L)(F:s≠0)(D:H p=none)(j:∃o,g p=some o)(lt:c.length<n)(nl:jr c=false)
  {e:Ev}{M':Wm} (r:lQ 0 [] N e M') {Hy:Hp}{Ty:Tg}{A:Wa}{a:AI} (st:eO s v Hy E Ty) (Q:WJ X Hy Ty s A M') (aw:A.wo=wo) (ev:EvN v Hy Ty s a e):
  Hy p=some (.lst (d.map V.ref))/\SwI X M hs k n s wo p H g T (upd Hy p (.lst (d.map V.ref++[.ref a]))) (c++[evz e]) (d++[a]) M' Ty A:=by
 have f:Hy p=some (.lst (d.map V.ref)):=st.kp _ _ i.hp (by rw[i.tp];omega);have q:(Ty p).1=s+1:=by rw[st.tg _ _ i.hp];exact i.tp
 have m:eO (s+1) Hy (upd Hy p (.lst (d.map V.ref++[.ref a]))) Ty Ty:=eO.upd st.wt f q;have C:∀b,v b=none->g b=none:=λb hb=>by
  cases z:g b with
  | none=>rfl
  | some o=>obtain⟨W,e⟩:=i.al b o z;rw[hb]at e;cases e
 obtain⟨o1,j⟩:=j;obtain⟨l,⟨fl,t1,t2⟩,R,K⟩:=ev;have I:QX g Hy Ty s a (evz e):=⟨l,C _ fl,R,K,t2,t1⟩;have B:Al (QX g (upd Hy p (.lst (d.map V.ref++[.ref a]))) Ty s) (d++[a]) (c++[evz e]):=((i.ev.mono λa x h=>h.mv F st).app I).mono λa x h=>h.put j f;have st2:eO s H (upd Hy p (.lst (d.map V.ref++[.ref a]))) T Ty:=by
  have z:=i.st.trans st;exact⟨λb o hb S=>by rw[aA (aD hb D)];exact z.kp b o hb S,λb o hb=>by rw[aA (aD hb D)];exact z.al b o hb,z.tg,m.wt⟩
 refine⟨f,st2,Q.other m δ δ,aw,i.kw.step r,by rw[aq,List.map_append];rfl,q,B,by rw[List.length_append];show _+1<=_;omega,λb o hb=>?_,?_⟩
 ·obtain⟨o2,h2⟩:=i.al b o hb;obtain⟨U,O⟩:=st.al b o2 h2;exact m.al b U O
 rcases i.go with ⟨_,J,co⟩ | ⟨z,_⟩
 ·rw[O7];rcases J.step r with ⟨t,ph⟩ | ⟨t,P⟩
  ·refine .inr ⟨decide_eq_true t,?_⟩
   ·have:=co (n - c.length) [evz e] M' (by rw[show n - c.length=(n - c.length - 1)+1 by omega];exact .lost r t);rw[show c.length+(n - c.length)=n by omega]at this;exact this
  ·refine .inl ⟨decide_eq_false t,P,λu y w h=>?_⟩;have:=co (u+1) (evz e::y) w (.go r t h);rw[List.length_append,List.append_assoc];rw[show c.length+(u+1)=c.length + [evz e].length+u by show _=c.length+1+u;omega]at this;exact this
 ·rw[nl]at z;cases z
def Zg8(X:Cs):Sp:=λvs H Q E=>∃wo dd,vs=[.ref wo,.ref dd]/\DnQ X wo dd H Q
section
theorem Q8{p:AI}(q:YW p H Q):zE K ξ [↑p] H:=by
 obtain⟨d,e,hp,al,h⟩:=q;have hl:=al.length;unfold zE;apply eZ (cC.of hp) ?_;rw[aY];ext;rcases List.eq_nil_or_concat e with rfl | ⟨c,x,rfl⟩
 ·have:d=[]:=List.length_eq_zero_iff.mp hl;subst this;rw[if_neg ε];exact h
 ·rw[List.concat_eq_append]at hl al h;rcases List.eq_nil_or_concat d with rfl | ⟨bs,a,rfl⟩
  ·rw[List.length_append]at hl;cases hl
  rw[List.concat_eq_append]at hl al hp ⊢;rw[List.length_append,List.length_append]at hl;have j:[x].length=1:=rfl;have m:[a].length=1:=rfl;obtain⟨k,b,l,f,g⟩:=al.get (i:=c.length) (y:=x) (by rw[List.getElem?_append_right υ,Nat.sub_self];rfl);rw[show c.length=bs.length by omega,List.getElem?_append_right υ,Nat.sub_self]at b;cases b;rw[List.length_append,if_pos (decide_eq_true (by show(0:Int)<((bs.length+1:Nat):Int);omega))];apply fB (v:=.ref a) (cC.of hp) (by rw[List.map_append];exact Zbh _ _) ?_;exists a,_,0,_,rfl,rfl,cP.of f,rfl;ext;rw[O7]at h;exact h
theorem SwI.fin{M:Wm}{hs:yW}{k nn s:Nat}{wo p:AI}{c:Hp}{T:Tg}{f:Hp}{b:List Rz}{d:AF}{N:Wm}{e:Tg}{j:Wa}(i:SwI X M hs k nn s wo p H c T f b d N e j)(sm:bB H c)(z:b.length=nn\/jr b=true):SwC M nn b N/\Al (QX H f e s) d b:=by
 refine⟨?_,i.ev.mono λa x h=>h.base sm⟩
 ·rcases i.go with ⟨g,_,co⟩ | ⟨_,h⟩
  ·rcases z with z | z
   ·have:=co 0 [] N (.stop N);rw[List.append_nil,Nat.add_zero,z]at this;exact this
   ·rw[g]at z;cases z
  ·exact h
theorem SwI.new{M:Wm}{hs:yW}{k nn s:Nat}{wo p:AI}{T:Tg}{A:Wa}(w:WT H T)(d:s≠0)(j:WJ X H T s A M)(aw:A.wo=wo)(kw:KW M hs k)(nl:Nl M)(a:H p=none):SwI X M hs k nn s wo p H (upd H p (.lst [])) T (upd H p (.lst [])) [] [] M (cN T p (s+1,0)) A:=
 ⟨eO.fresh w a,j.other (eO.fresh (s:=s+1) (v:=(s+1,0)) (o:=.lst []) w a) δ δ,aw,kw,aq,by rw[cH],.nil,Nat.zero_le _,λb o hb=>⟨o,hb⟩,.inl ⟨rfl,nl,λe c M' h=>by rw[List.length_nil,Nat.zero_add];exact h⟩⟩
theorem Zgn{wo:AI}{m:Int}(q:SwQ X wo m H Q):M7 K (cV X Znr) Ls ξ [↑wo,some (.int m),none] H:=by
 obtain⟨T,s,A,M,hs,k,nn,rfl,w,u,j,aw,kw,hb,hk,nl,O,q⟩:=q;unfold M7;apply⟨ε,λp l=>?_⟩;have sm:=aL l (.lst []);have B:=SwI.new (nn:=nn) w u j aw kw nl l;have c1:upd H p (.lst []) p=some (.lst (([]:AF).map V.ref)):=aq;generalize upd H p (.lst [])=C at sm c1 B ⊢;have fin:∀{g b c N f d},SwI X M hs k nn s wo p H C T g b c N f d->(b.length=nn\/jr b=true)->Q (.ref p) g:=λ{g b c N f d} i z=>by
  obtain⟨I,U⟩:=i.fin sm z;exact q b c N g f d p I i.le i.kw i.st i.j i.aw U i.hp l (.inr i.tp)
 exists λE F g=>∃b c N f d,F=[↑wo,some (.int nn),↑p]/\E=nn - b.length/\SwI X M hs k nn s wo p H C T g b c N f d,⟨_,[],[],M,_,A,rfl,rfl,B⟩;rintro E F g ⟨b,c,N,f,d,rfl,rfl,i⟩;have hl:=i.ev.length;apply eZ (cC.of i.hp) ?_;rw[aY];apply j9 (λlt=>?_) (λW=>?_)
 ·exists p,rfl,c,b,i.hp,i.ev.mono λa x h=>h.h;refine⟨jr b,rfl,?_⟩;cases z:jr b with
  | true=>
   apply fin i (.inr z)
  | false=>
   exists _,λ_ _ h=>h;exists .inl ⟨rfl,_,cC.of i.hp⟩;ext;have L:Nl N:=by
    rcases i.go with ⟨_,h,_⟩ | ⟨D,_⟩
    ·exact h
    ·rw[z]at D;cases D
   refine⟨wo,rfl,f,s,d,N,0,[],i.st.wt,u,i.j,i.aw,i.kw.ok hb δ,trivial,λy=>absurd y L.1,λe J r Hy Ty R a v S t ev lo=>?_⟩;obtain⟨o,P⟩:=i.turn u l ⟨_,c1⟩ δ z r v S t ev;apply⟨p,_,_,rfl,rfl,o,by rw[aY,sizeLine_eq];omega,?_⟩;apply⟨nn - (b++[evz e]).length,by rw[List.length_append];show nn - (b.length+1)<_;omega,b++[evz e],c++[a],J,Ty,R,rfl,rfl,P⟩
 ·apply fin i (.inl (by have:=i.le;omega))
theorem Zit{wo:AI}{m:Int}(q:SwQ X wo m H Q):M7 K (cV X Znr) Ls ξ [↑wo,some (.int m),none] H:=Zgn q
theorem Zim{wo dd:AI}(q:DnQ X wo dd H Q):ZF K (Zga X) (Zg9 X) ξ [↑wo,↑dd] H:=by
 obtain⟨T,s,A,M,r,hs,k,w,h,j,aw,g,o,kw,hb,hk,nl,q⟩:=q;unfold ZF;cases r with
 | sw m=>
  have o1:1<=m:=o.1;have o2:m<=200:=o.2;exists dd,_,0,_,rfl,rfl,cP.of g,rfl;apply j9 Δ (λz=>absurd rfl z);exists dd,_,1,_,rfl,rfl,cP.of g,rfl;apply⟨wo,_,rfl,T,s,A,M,hs,k,m,rfl,w,h,j,aw,kw,hb,hk,nl,δ,λy F B i e u p sw le v st x b ev hp E tp=>?_⟩;exact q y F B i e u p sw (sw.ne δ) δ (v.mono (Nat.le_succ _)) st x b ev hp E tp
 | dd d=>
  have wd:∃w,¬ w=("sweep":Str)/\(dV d)[0]? =some (.str w):=by cases d<;>exact⟨_,ε,rfl⟩
  obtain⟨I,nw,D⟩:=wd;exists dd,_,0,_,rfl,rfl,cP.of g,nu ε D;apply j9 (λz=>absurd z nw) Δ;apply⟨wo,dd,rfl,T,s,A,M,d,hs,k,w,h,j,aw,g,o,kw,hk,λi e u a st x b ev=>?_⟩;apply⟨by show 1<=_;decide,λp hp=>?_⟩;have c:=aL hp (.lst [.ref a]);have C:QX H (upd i p (.lst [.ref a])) e s a (jY bE):=by
   obtain⟨l,f,h1,h2,t⟩:=ev;exact⟨l,f,c _ _ h1,c _ _ h2,t⟩
  exact q [jY bE] [a] _ _ e u p ⟨rfl,rfl⟩ ζ (by show 1<=1000;decide) (kw.turn o) (st.trans (eO.same st.wt c)) (x.same c) b (.cons C .nil) aq (eO.free st hp) (rC st.wt h hp).2
end
structure TxS(K:aC)(X:Cs)(cj:AI):Prop where
 w:oH K X
 oA:K7 K cj
 Zkp:cL K cj "room"
 Zkq:cL K cj "kind"
 Zfd:cL K cj "hands"
 Zko:cL K cj "rows"
inductive vq(C:AI)(p:AI)(m:Int)(kd:AI)(hl:AI)(rl:AI)(H:Hp)(Q:VK):Prop
 | mk (dx xs ys) (_:H p=some (.ins C dx [])) (_:H hl=some (.lst xs)) (_:H rl=some (.lst ys)) (_:∀H' h2 r2,H' p=some (.ins C dx (xj m kd h2 r2))->H' h2=some (.lst xs)->H' r2=some (.lst ys)->(∀b o,H b=some o->b≠p->H' b=some o)->H h2=none->H r2=none->h2≠r2->Q .non H'):vq C p m kd hl rl H Q
def vD(C:AI):Sp:=λvs H Q E=>∃p m b hl a,vs=[.ref p,.int m,.ref b,.ref hl,.ref a]/\vq C p m b hl a H Q
def LgH(H:Hp)(ps:AF)(d:List (List Rz)):Prop:=Al (λb c=>∃a:AF,H b=some (.lst (a.map V.ref))/\Al (EvH H) a c) ps d
def LgR(a H:Hp)(T:Tg)(s:Nat)(ps:AF)(e:List (List Rz)):Prop:=Al (λb d=>∃c:AF,H b=some (.lst (c.map V.ref))/\a b=none/\TgO s (T b)/\Al (QX a H T s) c d) ps e
def O6(a:List (List Rz)):Bool:=match a.getLast? with
 | some b=>jr b
 | none=>false
theorem u6(b:List (List Rz))(a:List Rz):O6 (b++[a])=jr a:=by
 unfold O6;rw[List.getLast?_concat]
theorem LgR.h{d H:Hp}{T:Tg}{s:Nat}{ps:AF}{c:List (List Rz)}(h:LgR d H T s ps c):LgH H ps c:=h.mono (by rintro b f ⟨e,h1,_,_,h2⟩;exact⟨e,h1,h2.mono λa x z=>QX.h z⟩)
theorem LgR.mv{c H H':Hp}{T T':Tg}{s:Nat}{ps:AF}{e:List (List Rz)}(h:LgR c H T s ps e)(d:s≠0)(st:eO s H H' T T'):LgR c H' T' s ps e:=h.mono (by rintro b i ⟨g,h1,f,t,h2⟩;exact⟨g,st.kp _ _ h1 (t.ne d),f,by rw[st.tg _ _ h1];exact t,h2.mono λa x z=>QX.mv d z st⟩)
theorem LgR.put{c H:Hp}{T:Tg}{s:Nat}{ps:AF}{d:List (List Rz)}{p:AI}{o g:HO}{xs:List V}(h:LgR c H T s ps d)(hp:c p=some g)(hl:H p=some (.lst xs)):LgR c (upd H p o) T s ps d:=h.mono (by rintro b i ⟨e,h1,f,t,h2⟩;exact⟨e,by rw[aA λz=>by rw[z,hp]at f;cases f];exact h1,f,t,h2.mono λa x z=>QX.put z hp hl⟩)
inductive QG(p:AI)(H:Hp)(Q:VK):Prop
 | mk (ps lg) (_:H p=some (.lst (ps.map V.ref))) (_:LgH H ps lg) (_:Q (.bl (O6 lg)) H):QG p H Q
def Zbo:Sp:=λvs H Q E=>∃p,vs=[.ref p]/\QG p H Q
inductive Hu(CS:AI)(X:Cs)(sc:AI)(H:Hp)(Q:VK):Prop
 | mk (T s dx m kd hl rl lk w t hs) (_:H sc=some (.ins CS dx (xj m kd hl rl))) (_:KdO X H kd lk w t) (_:HsO H hl hs) (_:HsB hs) (_:WT H T) (_:s≠0) (_:T kd=(0,0)) (_:T lk=(0,0)) (_:∀H' T' A,bB H H'->(∀b o,H b=some o->T' b=T b)->WT H' T'->WJ X H' T' s A (xV m hs w t)->Q (.ref A.wo) H'):Hu CS X sc H Q
def V9(b:AI)(X:Cs):Sp:=λvs H Q E=>∃a,vs=[.ref a]/\Hu b X a H Q
inductive Zt9(CS:AI)(X:Cs)(sc:AI)(most:Option Nat)(H:Hp)(Q:VK):Prop
 | mk (dx m kd hl rl lk w t hs) (rs:List Q4) (_:H sc=some (.ins CS dx (xj m kd hl rl))) (_:KdO X H kd lk w t) (_:0<=t) (_:t<4) (_:HsO H hl hs) (_:HsB hs) (_:RwL H rl rs) (_:rs.length<=100) (_:(∀r∈rs,okW hs r)) (_:∀H' p ps lg M',bB H H'->HF (xV m hs w t) (rs.take (most.getD rs.length)) lg M'->H' p=some (.lst (ps.map V.ref))->LgH H' ps lg->H p=none->Q (.ref p) H'):Zt9 CS X sc most H Q
def oN:Option Nat->V
 | none=>.non
 | some k=>.int k
def Zmm(c:AI)(X:Cs):Sp:=λvs H Q E=>∃b v,vs=[.ref b,v]/\∃a,v=oN a/\Zt9 c X b a H Q
theorem Nl.new{m:Int}{hs:yW}{w t:Int}:Nl (xV m hs w t):=⟨by show ¬("rest":Str)="lost";decide,rfl⟩
section
variable {K:aC}{X:Cs}{cj:AI}{H:Hp}{Q:VK}{E:XK}{n:ν}{bk ct:ν}
theorem Ga{p w hl s:AI}{m:Int}(T:TxS K X cj)(q:vq cj p m w hl s H Q):
  qx K ⟨λ_ H'=>Q .non H',Q,bk,ct⟩ [↑p,some (.int m),↑w,↑hl,↑s] H:=by
 obtain⟨r,y,x,hp,u,hr,h⟩:=q;have v:hl≠p:=λe=>by rw[e,hp]at u;cases u
 have f:s≠p:=λe=>by rw[e,hp]at hr;cases hr
 unfold qx;exists p,cj,r,[],rfl,hp,T.oA,T.Zkp,ε;apply⟨p,cj,r,_,rfl,aq,T.oA,T.Zkq,by show 1<1000;decide,?_⟩;rw[dz];apply Li (cC.of (by rw[aA v];exact u)) λh2 c=>?_;have k:p≠h2:=λe=>by rw[<- e,aq]at c;cases c
 apply⟨p,cj,r,_,rfl,by rw[aA k];exact aq,T.oA,T.Zfd,by show 2<1000;decide,?_⟩;ext;have d:h2≠p:=Ne.symm k;have t:s≠h2:=λe=>by rw[<- e,aA f,hr]at c;cases c
 refine Li (cC.of (by rw[aA f,aA t,aA f];exact hr)) λn a=>?_;have l:p≠n:=λe=>by rw[<- e,aq]at a;cases a
 have i:n≠p:=Ne.symm l;have g:h2≠n:=λe=>by rw[<- e,aA d,aq]at a;cases a
 apply⟨p,cj,r,_,rfl,by rw[aA l];exact aq,T.oA,T.Zko,by show 3<1000;decide,?_⟩;refine h _ h2 n ?_ ?_ ?_ (λb o hb j=>?_) (by rw[aA d]at c;exact c) (by rw[aA i,aA (Ne.symm g),aA i]at a;exact a) g
 ·rw[aq,Zgv]
 ·rw[aA d,aA g,aA d,aq]
 ·rw[aA i,aq]
 ·have n1:b≠h2:=λe=>by rw[<- e,aA j,hb]at c;cases c
  have n2:b≠n:=λe=>by rw[<- e,aA j,aA n1,aA j,hb]at a;cases a
  rw[aA j,aA n2,aA j,aA n1,aA j];exact hb
theorem Zdc{p:AI}(q:QG p H Q):Nb K Ls ξ [↑p] H:=by
 obtain⟨e,f,hp,al,h⟩:=q;have hl:=al.length;unfold Nb;apply eZ (cC.of hp) ?_;rw[aY];ext;rcases List.eq_nil_or_concat f with rfl | ⟨d,x,rfl⟩
 ·have:e=[]:=List.length_eq_zero_iff.mp hl;subst this;rw[if_neg ε];exact h
 ·rw[List.concat_eq_append]at hl al h;rcases List.eq_nil_or_concat e with rfl | ⟨bs,a,rfl⟩
  ·rw[List.length_append]at hl;cases hl
  rw[List.concat_eq_append]at hl al hp ⊢;rw[List.length_append,List.length_append]at hl;have k:[x].length=1:=rfl;have m:[a].length=1:=rfl;obtain⟨l,b,c,j,g⟩:=Al.get al (i:=d.length) (y:=x) (by rw[List.getElem?_append_right υ,Nat.sub_self];rfl);rw[show d.length=bs.length by omega,List.getElem?_append_right υ,Nat.sub_self]at b;cases b;rw[List.length_append,if_pos (decide_eq_true (by show(0:Int)<((bs.length+1:Nat):Int);omega))];apply fB (v:=.ref a) (cC.of hp) (by rw[List.map_append];exact Zbh _ _) ?_;ext;rw[u6]at h;exact⟨a,rfl,c,x,j,g,h⟩
theorem Zh{p:AI}(TT:TxS K X cj)(q:Hu cj X p H Q):
  Iv K X.W (Gf X) ξ [↑p] H:=by
 obtain⟨T,s,L,m,B,hl,M,lk,w,t,hs,o,kk,g,hb,wt,C,tk,tl,h⟩:=q;obtain⟨J,u,l⟩:=id g;obtain⟨⟨d1,f⟩,⟨d2,ol⟩⟩:=id kk;unfold Iv;apply aJ o TT.oA TT.Zkp Mm ?_;apply aJ o TT.oA TT.Zkq Mp ?_;apply aJ o TT.oA TT.Zfd KC ?_;ext;intro x k nx j ne;have c:bB H (upd (upd H k (.own x)) x (.ins X.W k [])):=λb o hb=>by rw[aA (aD hb nx),aA (aD hb j)];exact hb
 have d:lk≠x:=by
  rcases ol with ⟨_,e⟩ | ⟨_,e⟩ | ⟨_,e⟩<;>exact aD e nx
 have n5:=hb.n5;refine⟨x,m,B,hl,rfl,k,T,s,lk,w,t,J,hs,aq,wt.same c,C,kk.same c,tk,tl,aD f nx,d,c _ _ u,Zmh l.length λi a y v r=>?_,δ,λE I A D t2 w2 aw F=>⟨rfl,?_⟩⟩
 ·obtain⟨N,e3,z⟩:=l.get r;rw[v]at e3;cases e3;have:=hb.sb y (List.mem_of_getElem? r);exact⟨c _ _ z,δ,δ⟩
 ·have:=h E I A (λb o hb=>D b o (c b o hb) (aD hb nx)) (λb o hb=>t2 b o (c b o hb) (aD hb nx)) w2 F;rw[aw]at this;exact this
end
structure TB(w0:Int)(M:Wm):Prop where
 bu:∀i j c d,cellAt M i=some c->cellAt M j=some d->c.birth=d.birth->i=j
 bn:∀i c,cellAt M i=some c->1<=c.birth/\c.birth<=M.born
 b0:0<=M.born
 se:M.sw.sense=0\/M.sw.sense=1
 tn:∀i c,cellAt M i=some c->c.tone=0\/c.tone=1
 rs:M.sw.phase="rest"->∀i c,cellAt M i=some c->c.tone=M.sw.sense
 gv:M.sw.phase="give"->∀i c,cellAt M i=some c->c.tone≠M.sw.sense->M.sw.at'<=i/\i<M.sw.stop
 ww:M.w=w0
structure Sb(M M':Wm):Prop where
 ce:∀i,(cellAt M' i).map (·.birth)=(cellAt M i).map (·.birth)
 tn:∀i c c',cellAt M i=some c->cellAt M' i=some c'->c'.tone=c.tone\/(M.sw.phase="walk"/\c'.tone=M.sw.sense)
 bn:M'.born=M.born
 se:M'.sw.sense=M.sw.sense
 ph:M'.sw.phase=M.sw.phase
 at_:M'.sw.at'=M.sw.at'
 st:M'.sw.stop=M.sw.stop
 ww:M'.w=M.w
section
variable {M M':Wm}{w0:Int}
theorem Sb.get(h:Sb M M'){i:Int}{c':Ce}(e:cellAt M' i=some c'):∃c,cellAt M i=some c/\c'.birth=c.birth/\(c'.tone=c.tone\/(M.sw.phase="walk"/\c'.tone=M.sw.sense)):=by
 have h1:=h.ce i;rw[e]at h1;cases hc:cellAt M i with
 | none=>rw[hc]at h1;cases h1
 | some c=>
  rw[hc]at h1;exact⟨c,rfl,Option.some.inj h1,h.tn i c c' hc e⟩
theorem Sb.nO(h:M'.cells=M.cells)(bn:M'.born=M.born)(se:M'.sw.sense=M.sw.sense)(ph:M'.sw.phase=M.sw.phase)(at_:M'.sw.at'=M.sw.at')(st:M'.sw.stop=M.sw.stop)(ww:M'.w=M.w):Sb M M':=by
 have e:∀i,cellAt M' i=cellAt M i:=λi=>by unfold cellAt;rw[h]
 exact⟨λi=>by rw[e],λi c a h1 h2=>by rw[e,h1]at h2;cases h2;exact .inl rfl,bn,se,ph,at_,st,ww⟩
theorem Sb.refl(M:Wm):Sb M M:=Sb.nO rfl rfl rfl rfl rfl rfl rfl
theorem Sb.trans{d:Wm}(a:Sb M M')(b:Sb M' d):Sb M d:=by
 refine⟨λi=>(b.ce i).trans (a.ce i),λi c c2 h1 h2=>?_,b.bn.trans a.bn,b.se.trans a.se,b.ph.trans a.ph,b.at_.trans a.at_,b.st.trans a.st,b.ww.trans a.ww⟩;obtain⟨c1,e,_,h4⟩:=b.get h2;have h5:=a.tn i c c1 h1 e;rw[a.ph,a.se]at h4;rcases h4 with h4 | h4
 ·rcases h5 with h5 | h5
  ·exact .inl (h4.trans h5)
  ·exact .inr ⟨h5.1,h4.trans h5.2⟩
 ·exact .inr h4
theorem Sb.slot(M:Wm)(h s:Nat)(x:AA):Sb M (setSlot M h s x):=Sb.nO rfl rfl rfl rfl rfl rfl rfl
theorem Sb.cell{i:Int}{c c':Ce}(h:cellAt M i=some c)(hb:c'.birth=c.birth)(a:c'.tone=c.tone\/(M.sw.phase="walk"/\c'.tone=M.sw.sense)):Sb M (setCell M i c'):=by
 refine⟨λx=>?_,λx d b h1 h2=>?_,rfl,rfl,rfl,rfl,rfl,rfl⟩
 ·rw[dJ h]
  by_cases e:x=i
  ·subst e;rw[if_pos rfl,h];exact congrArg some hb
  ·rw[if_neg e]
 ·rw[dJ h]at h2
  by_cases e:x=i
  ·subst e;rw[if_pos rfl]at h2;rw[h]at h1;cases h1;cases h2;exact a
  ·rw[if_neg e,h1]at h2;cases h2;exact .inl rfl
theorem Sb.note(M:Wm)(x:AA):Sb M (bV M x).2:=by
 cases x with
 | none=>exact Sb.refl M
 | some i=>
  unfold bV;dsimp only;cases hc:cellAt M i with
  | none=>exact Sb.refl M
  | some c=>
   dsimp only;split
   ·rename_i z
    exact(Sb.cell (c':={ c with tone:=M.sw.sense }) hc rfl (.inr ⟨z.1,rfl⟩)).trans (Sb.nO rfl rfl rfl rfl rfl rfl rfl)
   ·exact Sb.refl M
theorem Sb.notes:∀(l:Au) (M:Wm),Sb M (aQ M l).2
 | [],M=>Sb.refl M
 | x::l,M=>(Sb.note M x).trans (Sb.notes l _)
theorem Sb.nh(a:Int):∀(l:List (Str×Au)) (j:Nat) (M:Wm),Sb M (fO a l j M).2
 | [],_,M=>Sb.refl M
 | m::l,j,M=>by
  unfold fO;split
  ·exact(Sb.notes m.2 M).trans (Sb.nh a l (j+1) _)
  ·exact Sb.nh a l (j+1) M
theorem TB.sb(p:TB w0 M)(h:Sb M M'):TB w0 M':=by
 refine⟨λi j c d h1 h2 e=>?_,λi c h1=>?_,by rw[h.bn];exact p.b0,by rw[h.se];exact p.se,λi c h1=>?_,λph i c h1=>?_,λph i c h1 g=>?_,by rw[h.ww];exact p.ww⟩
 ·obtain⟨a,b,f,_⟩:=h.get h1;obtain⟨k,m,l,_⟩:=h.get h2;exact p.bu i j a k b m (by rw[<- f,<- l];exact e)
 ·obtain⟨a,b,f,_⟩:=h.get h1;rw[f,h.bn];exact p.bn i a b
 ·obtain⟨a,b,_,t1⟩:=h.get h1;rcases t1 with t1 | t1
  ·rw[t1];exact p.tn i a b
  ·rw[t1.2];exact p.se
 ·obtain⟨a,b,_,t1⟩:=h.get h1;rw[h.ph]at ph;rw[h.se];rcases t1 with t1 | t1
  ·rw[t1];exact p.rs ph i a b
  ·exact t1.2
 ·obtain⟨a,b,_,t1⟩:=h.get h1;rw[h.ph]at ph;rw[h.se]at g;rw[h.at_,h.st];rcases t1 with t1 | t1
  ·exact p.gv ph i a b (by rw[<- t1];exact g)
  ·exact absurd t1.2 g
theorem dM{x u b:Int}{c d:Ce}(h:cellAt { M with used:=u,born:=b,cells:=jo M.cells c } x=some d):(x=gW M.cells/\d=c)\/cellAt M x=some d:=by
 obtain⟨h0,h1⟩:=bK.mp h;have h1:(jo M.cells c)[x.toNat]? =some (some d):=h1
 by_cases z:x.toNat=gW M.cells
 ·rw[z,Lb]at h1;cases h1;exact .inl ⟨δ,rfl⟩
 ·refine .inr (bK.mpr ⟨h0,?_⟩);unfold jo at h1;split at h1
  ·rw[List.getElem?_set_ne (λe=>z e.symm)]at h1;exact h1
  ·rename_i y
   rw[List.getElem?_append]at h1;split at h1
   ·exact h1
   ·rename_i g
    have a:=(cG h1).1;have f:=Yn M.cells;have:x.toNat - M.cells.length<1:=a;omega
theorem TB.put(p:TB w0 M){u:Int}{c:Ce}(hb:c.birth=M.born+1)(b:c.tone=M.sw.sense):TB w0 { M with used:=u,born:=M.born+1,cells:=jo M.cells c }:=by
 have b0:=p.b0;refine⟨λi j d e h1 h2 f=>?_,λi d h1=>?_,by show 0<=M.born+1;omega,p.se,λi d h1=>?_,λph i d h1=>?_,λph i d h1 hp=>?_,p.ww⟩
 ·rcases dM h1 with ⟨z1,a⟩ | z1
  ·rcases dM h2 with ⟨y1,g⟩ | y1
   ·rw[z1,y1]
   ·have:=p.bn j e y1;rw[a,hb]at f;omega
  ·rcases dM h2 with ⟨y1,g⟩ | y1
   ·have:=p.bn i d z1;rw[g,hb]at f;omega
   ·exact p.bu i j d e z1 y1 f
 ·show 1<=d.birth/\d.birth<=M.born+1;rcases dM h1 with ⟨z1,a⟩ | z1
  ·rw[a,hb];omega
  ·have:=p.bn i d z1;omega
 ·rcases dM h1 with ⟨z1,a⟩ | z1
  ·rw[a,b];exact p.se
  ·exact p.tn i d z1
 ·rcases dM h1 with ⟨z1,a⟩ | z1
  ·rw[a];exact b
  ·exact p.rs ph i d z1
 ·rcases dM h1 with ⟨z1,a⟩ | z1
  ·rw[a]at hp;exact absurd b hp
  ·exact p.gv ph i d z1 hp
theorem Ln{d:ie}{e:Ev}(h:dN M d=.ok (e,M')):(∃b s a bulk,d=.make b s a bulk/\e=⟨"made",some (M.born+1),[]⟩/\∃u,Sb { M with used:=u,born:=M.born+1,cells:=jo M.cells ⟨M.born+1,bulk,M.sw.sense,0,List.replicate a.toNat none⟩ } M')\/((∀b s a bulk,d≠.make b s a bulk)/\Sb M M'):=by
 cases d with
 | make b s a bulk=>
  simp only[dN]at h;split at h
  ·right;exact .inl ⟨b,s,a,bulk,rfl,(Prod.mk.inj h2).1.symm,_,Sb.slot _ _ _ _⟩
  ·cases h
 | get b s t f=>
  simp only[dN]at h;split at h
  ·cases h
  ·split at h
   ·cases h
   ·split at h
    ·cases h
    ·right;exact .inr ⟨λ_ _ _ _ z=>fq,(Sb.slot _ _ _ _)⟩
 | put b t f s=>
  simp only[dN]at h;split at h
  ·cases h
  ·split at h
   ·cases h
   ·rename_i c hc
    split at h
    ·cases h
    ·right;exact .inr ⟨λ_ _ _ _ z=>fq,((Sb.cell (c':={ c with fl:=c.fl.set f (aO M b s) }) hc rfl (.inl rfl)).trans (Sb.notes _ _))⟩
 | copy b s t=>
  right;exact .inr ⟨λ_ _ _ _ z=>fq,(Sb.slot _ _ _ _)⟩
 | drop b s=>
  right;exact .inr ⟨λ_ _ _ _ z=>fq,(Sb.slot _ _ _ _)⟩
 | give b s g t=>
  right;exact .inr ⟨λ_ _ _ _ z=>fq,((Sb.slot _ _ _ _).trans (Sb.notes _ _))⟩
 | write b t l=>
  simp only[dN]at h;split at h
  ·cases h
  ·split at h
   ·cases h
   ·rename_i c hc
    right;exact .inr ⟨λ_ _ _ _ z=>fq,(Sb.cell (c':={ c with load:=l }) hc rfl (.inl rfl))⟩
 | read b t=>
  simp only[dN]at h;split at h
  ·cases h
  ·split at h
   ·cases h
   ·right;exact .inr ⟨λ_ _ _ _ z=>fq,Sb.refl _⟩
 | name b t z=>
  simp only[dN]at h;split at h
  ·cases h
  ·split at h
   ·cases h
   ·right;exact .inr ⟨λ_ _ _ _ z=>fq,(Sb.nO rfl rfl rfl rfl rfl rfl rfl)⟩
 | seek b s z=>
  simp only[dN]at h;split at h
  ·cases h
  ·split at h
   ·right;exact .inr ⟨λ_ _ _ _ z=>fq,(Sb.slot _ _ _ _)⟩
   ·right;exact .inr ⟨λ_ _ _ _ z=>fq,((Sb.slot _ _ _ _).trans (Sb.notes _ _))⟩
theorem TB.deed(p:TB w0 M){d:ie}{e:Ev}(h:dN M d=.ok (e,M')):TB w0 M':=by
 rcases Ln h with ⟨_,_,_,_,_,_,_,s⟩ | ⟨_,s⟩
 ·exact(TB.put p rfl rfl).sb s
 ·exact p.sb s
theorem TB.step(p:TB w0 M){lb:Int}{lw:AE}{e:Ev}(h:lQ lb lw M e M'):TB w0 M':=by
 cases h with
 | begin ph=>
  refine TB.sb ?_ (Sb.nh _ _ _ _);obtain⟨k,b,m,n,l,s,o,f⟩:=p;exact⟨k,b,m,by show 1 - M.sw.sense=0\/1 - M.sw.sense=1;omega,l,λz=>absurd z (show ¬ ("walk":Str)="rest" by decide),λz=>absurd z (show ¬ ("walk":Str)="give" by decide),f⟩
 | walk x g c ph hg hc=>
  have a:Sb M { M with sw:={ M.sw with grey:=g,walks:=M.sw.walks+1 } }:=Sb.nO rfl rfl rfl rfl rfl rfl rfl;exact p.sb (a.trans (Sb.notes c.fl _))
 | look N ph hg F hN=>
  subst hN;exact p.sb ((Sb.nh _ _ _ _).trans (Sb.nO rfl rfl rfl rfl rfl rfl rfl))
 | cut q C ph hg B D y=>
  obtain⟨k,b,m,n,l,s,o,f⟩:=p;exact⟨k,b,m,n,l,λz=>absurd z (show ¬ ("give":Str)="rest" by decide),λ_ i c hc _=>Hq (M:=M) hc,f⟩
 | lost q C i x c v ph hg B D hx y hc r=>
  obtain⟨k,b,m,n,l,s,o,f⟩:=p;exact⟨k,b,m,n,l,λz=>absurd z (show ¬ ("lost":Str)="rest" by decide),λz=>absurd z (show ¬ ("lost":Str)="give" by decide),f⟩
 | pass ph lt hp=>
  obtain⟨k,b,m,n,l,s,o,f⟩:=p;refine⟨k,b,m,n,l,s,λ_ i c hc r=>?_,f⟩;have h1:=o ph i c hc r;have h2:i≠M.sw.at':=λz=>r (hp c (by rw[<- z];exact hc));show M.sw.at'+1<=i/\i<M.sw.stop;omega
 | back c ph lt hc r=>
  obtain⟨k,b,m,n,l,s,o,f⟩:=p;have t:∀(u:Int) (w:Sw) (i:Int) (d:Ce),cellAt { M with used:=u,cells:=M.cells.set M.sw.at'.toNat none,sw:=w } i=some d->i≠M.sw.at'/\cellAt M i=some d:=λu w i d hd=>by
   obtain⟨h0,h1⟩:=bK.mp hd;have h1:(M.cells.set M.sw.at'.toNat none)[i.toNat]? =some (some d):=h1;obtain⟨H,A⟩:=bK.mp hc
   by_cases z:M.sw.at'.toNat=i.toNat
   ·rw[z,List.getElem?_set_self (by rw[<- z];exact(cG A).1)]at h1;cases h1
   ·rw[List.getElem?_set_ne z]at h1;exact⟨λe=>z (by rw[e]),bK.mpr ⟨h0,h1⟩⟩
  refine⟨λi j d e h1 h2 E=>k i j d e (t _ _ i d h1).2 (t _ _ j e h2).2 E,λi d h1=>b i d (t _ _ i d h1).2,m,n,λi d h1=>l i d (t _ _ i d h1).2,λz=>absurd bd ε,λ_ i d h1 hp=>?_,f⟩;obtain⟨n1,n2⟩:=t _ _ i d h1;have I:=o ph i d n2 hp;show M.sw.at'+1<=i/\i<M.sw.stop;omega
 | fin ph lt=>
  obtain⟨k,b,m,n,l,s,o,f⟩:=p;refine⟨k,b,m,n,l,λ_ i c hc=>?_,λz=>absurd z (show ¬ ("rest":Str)="give" by decide),f⟩;refine Decidable.byContradiction λr=>?_;have h1:=o ph i c hc r;omega
 | again ph=>exact p
theorem TB.new{room:Int}{hs:yW}{w t:Int}:TB w (xV room hs w t):=by
 have e:∀i c,cellAt (xV room hs w t) i=some c->False:=λi c h=>nomatch qb h;exact⟨λi _ c _ h=>(e i c h).elim,λi c h=>(e i c h).elim,Int.le_refl _,.inl rfl,λi c h=>(e i c h).elim,λ_ i c h=>(e i c h).elim,λ_ i c h=>(e i c h).elim,rfl⟩
end
def RD(a:Int):List (Str×Au)->Nat->Au
 | [],_=>[]
 | m::l,k=>if a / 2 ^ k % 2=1 then m.2++RD a l dC else RD a l dC
theorem Oj:∀(a b:Au) (M:Wm),aQ M (a++b)=((aQ M a).1++(aQ (aQ M a).2 b).1,(aQ (aQ M a).2 b).2)
 | [],b,M=>rfl
 | x::a,b,M=>by
  show(ofN (bV M x).1++(aQ (bV M x).2 (a++b)).1,(aQ (bV M x).2 (a++b)).2)=((ofN (bV M x).1++(aQ (bV M x).2 a).1)++(aQ (aQ (bV M x).2 a).2 b).1,(aQ (aQ (bV M x).2 a).2 b).2);rw[Oj a b,List.append_assoc]
theorem Vd(a:Int):∀(l:List (Str×Au)) (k:Nat) (M:Wm),fO a l k M=aQ M (RD a l k)
 | [],_,_=>rfl
 | m::l,k,M=>by
  unfold fO RD;split
  ·rw[Oj,Vd a l dC]
  ·exact Vd a l dC M
section
variable {M N:Wm}
theorem Lf{b:Int}{x:AA}:∀(l:List (Str×Au)) (j:Nat),x∈RD b l j->∃m∈l,x∈m.2
 | [],_,h=>by cases h
 | a::l,j,h=>by
  unfold RD at h;split at h
  ·rcases List.mem_append.mp h with h | h
   ·exact⟨a,ζ,h⟩
   ·obtain⟨m,h1,h2⟩:=Lf l (j+1) h;exact⟨m,by simp[h1],h2⟩
  ·obtain⟨m,h1,h2⟩:=Lf l (j+1) h;exact⟨m,by simp[h1],h2⟩
theorem Zks{h s:Nat}{x y:AA}{m:Str×Au}(hm:m∈(setSlot M h s x).hands)(hy:y∈m.2):y=x\/∃a∈M.hands,y∈a.2:=by
 obtain⟨i,hi,d⟩:=List.getElem_of_mem hm;have b:(M.hands.modify h λm=>(m.1,m.2.set s x))[i]? =some m:=by rw[<- d];exact bD hi
 rw[List.getElem?_modify]at b;cases c:M.hands[i]? with
 | none=>rw[c]at b;cases b
 | some a=>
  rw[c]at b
  by_cases z:h=i
  ·have e3:(a.1,a.2.set s x)=m:=by simpa[z]using b
   rw[<- e3]at hy;rcases List.mem_or_eq_of_mem_set (show y∈a.2.set s x from hy)with w | w
   ·exact .inr ⟨a,List.mem_of_getElem? c,w⟩
   ·exact .inl w
  ·have e3:a=m:=by simpa[z]using b
   exact .inr ⟨a,List.mem_of_getElem? c,by rw[e3];exact hy⟩
theorem slot_mem{h k:Nat}{j:Int}(e:aO M h k=some j):∃m,M.hands[h]? =some m/\some j∈m.2:=by
 unfold aO at e;cases hm:M.hands[h]? with
 | none=>rw[hm]at e;cases e
 | some m=>
  rw[hm]at e;have e:(m.2[k]?).join=some j:=e;cases hk:m.2[k]? with
  | none=>rw[hk]at e;cases e
  | some x=>
   rw[hk]at e;have e:x=some j:=e;subst e;exact⟨m,rfl,List.mem_of_getElem? hk⟩
theorem Zfb{F:KB.Fd}{w:AE}{ps:Au}{q:Int}(n:Nat)(h:some q∈ps)(a:(KB.K4 F q).isSome=true):∃v,(q,v)∈KB.onw F w n ps:=by
 obtain⟨k,hk,e⟩:=List.getElem_of_mem h;refine⟨w++[((n+k:Nat):Int)],List.mem_filterMap.mpr ⟨(some q,n+k),?_,?_⟩⟩
 ·refine List.mem_zipIdx_iff_le_and_getElem?_sub.mpr ⟨ζ,?_⟩;show ps[n+k - n]? =_;rw[Nat.add_sub_cancel_left,bD hk,e]
 ·unfold KB.W7;dsimp only;rw[if_pos a]
theorem Ze8{F:KB.Fd}{R:KB.Rw}{q l:List dL}{k:Nat}(b:KB.Th F R q k l):
  (∀i x,i<k->q[i]? =some x->x.1∈l.map (·.1))/\(∀c∈R,∀y,some y∈c->(KB.K4 F y).isSome=true->∃v,(y,v)∈q)/\(∀x∈l,∀fl,KB.K4 F x.1=some fl->∀y,some y∈fl->(KB.K4 F y).isSome=true->∃v,(y,v)∈q):=by
 induction b with
 | start=>
  refine⟨λi x h=>absurd h (Nat.not_lt_zero _),λc hr y hy j=>?_,λx hx=>(nomatch hx)⟩;obtain⟨n,hn,e⟩:=List.getElem_of_mem hr;obtain⟨v,hv⟩:=Zfb (F:=F) (w:=[((n:Nat):Int)]) 0 hy j;exact⟨v,List.mem_flatMap.mpr ⟨(c,n),List.mem_zipIdx_iff_getElem?.mpr (by rw[bD hn,e]),hv⟩⟩
 | @old q k l p w b hq hp d=>
  refine⟨λi x hi hx=>?_,d.2.1,d.2.2⟩
  by_cases e:i=k
  ·rw[e,hq]at hx;cases hx;exact hp
  ·exact d.1 i x δ hx
 | @new q k l p w fl b hq hp j d=>
  have hk:k<q.length:=(cG hq).1;have up:∀{y:Int},(∃v,(y,v)∈q)->∃v,(y,v)∈q++KB.onw F w 0 fl:=λ⟨v,h⟩=>⟨v,List.mem_append.mpr (.inl h)⟩;refine⟨λi x hi hx=>?_,λc hr y hy j=>up (d.2.1 c hr y hy j),λx hx f a y hy g=>?_⟩
  ·rw[List.getElem?_append_left δ]at hx;rw[List.map_append]
   by_cases e:i=k
   ·rw[e,hq]at hx;cases hx;exact List.mem_append.mpr (.inr (List.mem_singleton.mpr rfl))
   ·exact List.mem_append.mpr (.inl (d.1 i x δ hx))
  ·rcases List.mem_append.mp hx with hx | hx
   ·exact up (d.2.2 x hx f a y hy g)
   ·rw[List.mem_singleton.mp hx]at a;have a:KB.K4 F p=some f:=a;rw[j]at a;cases a;obtain⟨v,hv⟩:=Zfb (F:=F) (w:=w) 0 hy g;exact⟨v,List.mem_append.mpr (.inr hv)⟩
theorem Zhb{l:List cy}{k:Str}{v:Int×Int}{x:Str×(Int×Int)}(h:x∈nF l k v):x∈l\/x.2=v:=by
 unfold nF at h;split at h
 ·obtain⟨m,hm,e⟩:=List.mem_map.mp h;split at e
  ·rw[<- e];exact .inr rfl
  ·rw[<- e];exact .inl hm
 ·rcases List.mem_append.mp h with h | h
  ·exact .inl h
  ·rw[List.mem_singleton.mp h];exact .inr rfl
theorem YC{c:Ce}(hc:cellAt M M.sw.at'=some c){u:Int}{w:Sw}{i:Int}{d:Ce}(hd:cellAt { M with used:=u,cells:=M.cells.set M.sw.at'.toNat none,sw:=w } i=some d):i≠M.sw.at'/\cellAt M i=some d:=by
 obtain⟨h0,h1⟩:=bK.mp hd;have h1:(M.cells.set M.sw.at'.toNat none)[i.toNat]? =some (some d):=h1;obtain⟨b,a⟩:=bK.mp hc
 by_cases z:M.sw.at'.toNat=i.toNat
 ·rw[z,List.getElem?_set_self (by rw[<- z];exact(cG a).1)]at h1;cases h1
 ·rw[List.getElem?_set_ne z]at h1;exact⟨λe=>z (by rw[e]),bK.mpr ⟨h0,h1⟩⟩
theorem YD{c:Ce}(hc:cellAt M M.sw.at'=some c){u:Int}{w:Sw}{i:Int}(hi:i≠M.sw.at'):cellAt { M with used:=u,cells:=M.cells.set M.sw.at'.toNat none,sw:=w } i=cellAt M i:=by
 obtain⟨b,a⟩:=bK.mp hc;unfold cellAt
 by_cases h0:0<=i
 ·have:M.sw.at'.toNat≠i.toNat:=λe=>hi δ;simp[h0,List.getElem?_set_ne this]
 ·simp[h0]
end
inductive Rl(rs:List Au)(lk:Int->Option Au):Int->Prop
 | root {r:Au}{b:Int}:r∈rs->some b∈r->Rl rs lk b
 | via {b b':Int}{fs:Au}:Rl rs lk b->lk b=some fs->some b'∈fs->Rl rs lk b'
structure Bq(lk:Int->Option Au)(ea me S:Int->Prop)(M:Wm):Prop where
 hd:∀m∈M.hands,∀j,some j∈m.2->S j
 nm:∀x∈M.names,∀c,cellAt M x.2.1=some c->c.birth=x.2.2->(M.sw.phase=("give":Str)->c.tone=M.sw.sense)->S x.2.1
 ce:∀i,S i->∃c,cellAt M i=some c/\(M.sw.phase=("give":Str)->c.tone=M.sw.sense)/\(∀j,some j∈c.fl->S j)/\lk c.birth=some (c.fl.map (jW M))
 w2:M.sw.phase=("walk":Str)->∀i c,cellAt M i=some c->c.tone=M.sw.sense->ea c.birth->me c.birth
 w3:M.sw.phase=("walk":Str)->∀i c,cellAt M i=some c->(ea c.birth->me c.birth)->∀j,some j∈c.fl->∀d,cellAt M j=some d->ea d.birth->me d.birth
 w4:M.sw.phase=("walk":Str)->∀b,ea b->∃i c,cellAt M i=some c/\c.birth=b
structure Up(M M':Wm)(T:Int->Prop):Prop where
 hd:M'.hands=M.hands
 nm:M'.names=M.names
 ph:M'.sw.phase=M.sw.phase
 se:M'.sw.sense=M.sw.sense
 fw:∀i c,cellAt M i=some c->∃c',cellAt M' i=some c'/\c'.birth=c.birth/\c'.fl=c.fl/\(M.sw.phase=("walk":Str)\/c'.tone=c.tone)/\(c'.tone=M.sw.sense->c.tone=M.sw.sense\/T i)
 no:∀i,cellAt M i=none->cellAt M' i=none
section
variable {M M' N:Wm}{lk:Int->Option Au}{ea me S T T':Int->Prop}{w0:Int}
theorem Up.cells(hd:M'.hands=M.hands)(nm:M'.names=M.names)(ph:M'.sw.phase=M.sw.phase)(se:M'.sw.sense=M.sw.sense)(ce:M'.cells=M.cells):Up M M' T:=by
 have e:∀i,cellAt M' i=cellAt M i:=λi=>by unfold cellAt;rw[ce]
 exact⟨hd,nm,ph,se,λi c h=>⟨c,(e i).trans h,rfl,rfl,.inr rfl,.inl⟩,λi h=>(e i).trans h⟩
theorem Up.trans(a:Up M M' T)(b:Up M' N T'):Up M N (λi=>T i\/T' i):=by
 refine⟨b.hd.trans a.hd,b.nm.trans a.nm,b.ph.trans a.ph,b.se.trans a.se,λi c h=>?_,λi h=>b.no i (a.no i h)⟩;obtain⟨c1,h1,j,f,l,g⟩:=a.fw i c h;obtain⟨c2,h2,m,k,e,d⟩:=b.fw i c1 h1;refine⟨c2,h2,m.trans j,k.trans f,?_,λz=>?_⟩
 ·rw[a.ph]at e;rcases l with p | p
  ·exact .inl p
  ·exact e.imp id λy=>y.trans p
 ·rw[a.se]at d;rcases d z with y | y
  ·exact(g y).imp id .inl
  ·exact .inr (.inr y)
theorem Up.mono(a:Up M M' T)(h:∀i,T i->T' i):Up M M' T':=⟨a.hd,a.nm,a.ph,a.se,λi c hc=>by
 obtain⟨c1,h1,f,b,d,e⟩:=a.fw i c hc;exact⟨c1,h1,f,b,d,λz=>(e z).imp id (h i)⟩,a.no⟩
theorem Up.note(M:Wm)(x:AA):Up M (bV M x).2 (λi=>x=some i):=by
 cases x with
 | none=>exact Up.cells rfl rfl rfl rfl rfl
 | some i=>
  unfold bV;dsimp only;split
  ·exact Up.cells rfl rfl rfl rfl rfl
  ·rename_i c hc
   split
   ·rename_i z
    have e:∀k,cellAt { setCell M i { c with tone:=M.sw.sense }with sw:={ M.sw with grey:=M.sw.grey++[i] } } k=if k=i then some { c with tone:=M.sw.sense }else cellAt M k:=dJ (c':={ c with tone:=M.sw.sense }) hc
    refine⟨rfl,rfl,rfl,rfl,λk d hd=>?_,λk hk=>?_⟩
    ·by_cases a:k=i
     ·rw[a,hc]at hd;cases hd;exact⟨_,(e k).trans (if_pos a),rfl,rfl,.inl z.1,λ_=>.inr (by rw[a])⟩
     ·exact⟨d,(e k).trans ((if_neg a).trans hd),rfl,rfl,.inr rfl,.inl⟩
    ·have a:k≠i:=λy=>by rw[y,hc]at hk;cases hk
     exact(e k).trans ((if_neg a).trans hk)
   ·exact Up.cells rfl rfl rfl rfl rfl
theorem Up.notes:∀(l:Au) (M:Wm),Up M (aQ M l).2 (λi=>some i∈l)
 | [],M=>Up.cells rfl rfl rfl rfl rfl
 | x::l,M=>((Up.note M x).trans (Up.notes l _)).mono λi h=>by
  rcases h with h | h
  ·rw[h];exact List.mem_cons_self ..
  ·exact List.mem_cons_of_mem _ h
theorem Up.jW(u:Up M M' T):jW M'=jW M:=by
 funext x
 cases x with
 | none=>rfl
 | some i=>
  show(cellAt M' i).map _=(cellAt M i).map _;cases h:cellAt M i with
  | none=>rw[u.no i h]
  | some c=>
   obtain⟨a,h1,h2,_⟩:=u.fw i c h;rw[h1];exact congrArg some h2
theorem Up.inv(u:Up M M' T){i:Int}{c':Ce}(h:cellAt M' i=some c'):∃c,cellAt M i=some c/\c'.birth=c.birth/\c'.fl=c.fl/\(M.sw.phase=("walk":Str)\/c'.tone=c.tone)/\(c'.tone=M.sw.sense->c.tone=M.sw.sense\/T i):=by
 cases hc:cellAt M i with
 | none=>rw[u.no i hc]at h;cases h
 | some c=>
  obtain⟨d,h1,h2⟩:=u.fw i c hc;rw[h]at h1;cases h1;exact⟨c,rfl,h2⟩
theorem Up.rows(u:Up M M' T):rowsOf M'=rowsOf M:=by
 unfold rowsOf;rw[u.hd,u.jW]
theorem ng{P:Wm}(h:P.sw.phase=("give":Str)):¬ P.sw.phase=("walk":Str):=by rw[h];decide
theorem Bq.up(p:Bq lk ea me S M)(u:Up M M' T)(k:M.sw.phase=("walk":Str)->∀i c,T i->cellAt M i=some c->ea c.birth->me c.birth):Bq lk ea me S M':=by
 have hb:=u.jW;refine⟨λm hm j e=>p.hd m (by rw[<- u.hd];exact hm) j e,λx hx c hc n k=>?_,λi hi=>?_,λph i c hc t a=>?_,λph i c hc g j e d hd=>?_,λph b n=>?_⟩
 ·rw[u.nm]at hx;rw[u.ph,u.se]at k;obtain⟨d,h1,h2,_,h4,_⟩:=u.inv hc;refine p.nm x hx d h1 (h2.symm.trans n) λz=>?_;rw[<- h4.resolve_left (ng z)];exact k z
 ·obtain⟨c,h1,h2,l,h4⟩:=p.ce i hi;obtain⟨d,f,h,o,r,_⟩:=u.fw i c h1;refine⟨d,f,λz=>?_,λj e=>l j (by rw[<- o];exact e),by rw[h,o,hb];exact h4⟩;rw[u.ph]at z;rw[r.resolve_left (ng z),u.se];exact h2 z
 ·rw[u.ph]at ph;rw[u.se]at t;obtain⟨d,h1,h2,_,_,h5⟩:=u.inv hc;rw[h2]at a ⊢;rcases h5 t with y | y
  ·exact p.w2 ph i d h1 y a
  ·exact k ph i d y h1 a
 ·rw[u.ph]at ph;obtain⟨q,h1,h2,l,_⟩:=u.inv hc;obtain⟨s,f,h,_⟩:=u.inv hd;rw[h2]at g;rw[l]at e;rw[h];exact p.w3 ph i q h1 g j e s f
 ·rw[u.ph]at ph;obtain⟨i,c,h1,h2⟩:=p.w4 ph b n;obtain⟨d,f,h,_⟩:=u.fw i c h1;exact⟨i,d,f,h.trans h2⟩
theorem Zqv(p:Bq lk ea me S M){b:Int}(h:Rl ad lk b):∃i c,S i/\cellAt M i=some c/\c.birth=b:=by
 have a:∀{x:AA}{b:Int},(∀j,x=some j->S j)->jW M x=some b->∃i c,S i/\cellAt M i=some c/\c.birth=b:=λ{x b} hx e=>by
  cases x with
  | none=>cases e
  | some j=>
   obtain⟨c,h1,h2⟩:=Option.map_eq_some_iff.mp (show(cellAt M j).map (·.birth)=some b from e);exact⟨j,c,hx j rfl,h1,h2⟩
 induction h with
 | root hr hb=>
  obtain⟨m,hm,rfl⟩:=List.mem_map.mp hr;obtain⟨x,hx,e⟩:=List.mem_map.mp hb;exact a (λj y=>p.hd m hm j (by rw[<- y];exact hx)) e
 | via _ hl hb k=>
  obtain⟨i,c,h1,h2,rfl⟩:=k;obtain⟨l,d,_,g,f⟩:=p.ce i h1;rw[h2]at d;cases d;rw[hl]at f;cases f;obtain⟨x,hx,e⟩:=List.mem_map.mp hb;exact a (λj y=>g j (by rw[<- y];exact hx)) e
theorem K9{h k:Nat}{j:Int}{d:Ce}(e:aO M h k=some j)(hd:cellAt M j=some d):Rl ad lk d.birth:=by
 obtain⟨m,hm,a⟩:=slot_mem e;refine .root (r:=m.2.map (jW M)) (List.mem_map.mpr ⟨m,List.mem_of_getElem? hm,rfl⟩) (List.mem_map.mpr ⟨_,a,?_⟩);show(cellAt M j).map _=_;rw[hd];rfl
theorem Zci(p:Bq lk ea me S M){i j:Int}{c d:Ce}(hi:S i)(hc:cellAt M i=some c)(r:Rl ad lk c.birth)(b:some j∈c.fl)(hd:cellAt M j=some d):Rl ad lk d.birth:=by
 obtain⟨f,a,_,_,e⟩:=p.ce i hi;rw[hc]at a;cases a;refine .via r e (List.mem_map.mpr ⟨_,b,?_⟩);show(cellAt M j).map _=_;rw[hd];rfl
end
abbrev HD:=List Au
abbrev wV:=Int->Option Au
def setB(rs:HD)(h s:Nat)(v:AA):HD:=rs.set h (((rs[h]?).getD []).set s v)
def inB(rs:HD)(h s:Nat):AA:=((rs[h]?).bind λr=>r[s]?).join
def lkU(lk:wV)(b:Int)(fs:Au):wV:=λx=>if x=b then some fs else lk x
def Yq(lk:wV):AA->Au
 | none=>[]
 | some b=>(lk b).getD []
def vO:V->AA
 | .int i=>some i
 | _=>none
def zf(rs:HD)(lk:wV)(z:Rz):ie->HD×wV
 | .make h s a _=>if z.1=("made":Str)then(setB rs h s (vO z.2.1),lkU lk ((vO z.2.1).getD 0) (List.replicate a.toNat none))else(rs,lk)
 | .get h s t f=>if f<(Yq lk (inB rs h t)).length then(setB rs h s ((Yq lk (inB rs h t))[f]?).join,lk)else(rs,lk)
 | .put h t f s=>if f<(Yq lk (inB rs h t)).length then(rs,lkU lk ((inB rs h t).getD 0) ((Yq lk (inB rs h t)).set f (inB rs h s)))else(rs,lk)
 | .copy h s t=>(setB rs h s (inB rs h t),lk)
 | .drop h s=>(setB rs h s none,lk)
 | .give h s g t=>(setB rs g t (inB rs h s),lk)
 | .seek h s _=>if z.1=("sought":Str)then(setB rs h s (vO z.2.1),lk)else(rs,lk)
 | _=>(rs,lk)
section
variable {M M' N:Wm}{lk:wV}{ea me S T T':Int->Prop}{w0:Int}
theorem mJ{h s:Nat}{x:AA}(o:uG M h s):rowsOf (setSlot M h s x)=setB ad h s (jW M x):=by
 obtain⟨m,hm,_⟩:=o;have e:(rowsOf M)[h]? =some (m.2.map (jW M)):=by unfold rowsOf;rw[cg,hm];rfl
 unfold setB;rw[Zz hm,e];rfl
theorem Cz{h s:Nat}(o:uG M h s):inB ad h s=jW M (aO M h s):=by
 obtain⟨r,h1,h2,_⟩:=sW o;unfold inB;rw[h1];show(r[s]?).join=_;rw[h2];rfl
theorem Bq.slot(p:Bq lk ea me S M){h s:Nat}{x:AA}(hx:∀j,x=some j->S j):Bq lk ea me S (setSlot M h s x):=by
 have c:jW (setSlot M h s x)=jW M:=funext λy=>iY;refine⟨λm hm j a=>?_,p.nm,λi hi=>?_,p.w2,p.w3,p.w4⟩
 ·rcases Zks hm a with e | ⟨b,h0,h1⟩
  ·exact hx j e.symm
  ·exact p.hd b h0 j h1
 ·rw[c];exact p.ce i hi
theorem Bq.grow(p:Bq lk ea me S M)(tb:TB w0 M):Bq lk ea (λb=>me b\/Rl ad lk b) S M:=by
 refine⟨p.hd,p.nm,p.ce,λph i c hc t e=>.inl (p.w2 ph i c hc t e),λph i c hc h j a d hd e=>?_,p.w4⟩
 by_cases f:ea c.birth
 ·rcases h f with y | y
  ·exact .inl (p.w3 ph i c hc (λ_=>y) j a d hd e)
  ·obtain⟨k,l,h1,h2,g⟩:=Zqv p y;have:=tb.bu k i l c h2 hc g;subst this;exact .inr (Zci p h1 hc y a hd)
 ·exact .inl (p.w3 ph i c hc (λz=>absurd z f) j a d hd e)
theorem QC(hx:∀y,(∃c,cellAt M y=some c)->cellAt N y=cellAt M y\/∃c c',cellAt M y=some c/\cellAt N y=some c'/\c'.birth=c.birth){fl:Au}(b:∀j,some j∈fl->∃c,cellAt M j=some c):fl.map (jW N)=fl.map (jW M):=by
 refine List.map_congr_left λx hm=>?_;cases x with
 | none=>rfl
 | some j=>
  show(cellAt N j).map _=(cellAt M j).map _;rcases hx j (b j hm)with e | ⟨c,c',a,d,e3⟩
  ·rw[e]
  ·rw[a,d];exact congrArg some e3
theorem Bq.put(p:Bq lk ea me S M)(tb:TB w0 M){i:Int}{c:Ce}{f:Nat}{y:AA}(hi:S i)(hc:cellAt M i=some c)(hy:∀j,y=some j->S j)(hm:M.sw.phase=("walk":Str)->∀j d,y=some j->cellAt M j=some d->me d.birth):
  Bq (lkU lk c.birth ((c.fl.map (jW M)).set f (jW M y))) ea me S (setCell M i { c with fl:=c.fl.set f y }):=by
 have e:∀k,cellAt (setCell M i { c with fl:=c.fl.set f y }) k=if k=i then some { c with fl:=c.fl.set f y }else cellAt M k:=dJ hc
 have w:jW (setCell M i { c with fl:=c.fl.set f y })=jW M:=by
  funext x
  cases x with
  | none=>rfl
  | some k=>
   show(cellAt _ k).map _=(cellAt M k).map _;rw[e k]
   by_cases a:k=i
   ·rw[if_pos a,a,hc];rfl
   ·rw[if_neg a]
 have old:∀{k d},cellAt (setCell M i { c with fl:=c.fl.set f y }) k=some d->∃l,cellAt M k=some l/\l.birth=d.birth/\l.tone=d.tone/\∀j,some j∈d.fl->some j∈l.fl\/(k=i/\y=some j):=λ{k d} h=>by
  rw[e k]at h
  by_cases a:k=i
  ·rw[if_pos a]at h;cases h;refine⟨c,by rw[a];exact hc,rfl,rfl,λj m=>?_⟩;rcases List.mem_or_eq_of_mem_set m with z | z
   ·exact .inl z
   ·exact .inr ⟨a,z.symm⟩
  ·rw[if_neg a]at h;exact⟨d,h,rfl,rfl,λj m=>.inl m⟩
 refine⟨p.hd,λx hx d hd n u=>?_,λk hk=>?_,λph k d hd t q=>?_,λph k d hd h j m g hg q=>?_,λph b n=>?_⟩
 ·obtain⟨l,h1,h2,o,_⟩:=old hd;exact p.nm x hx l h1 (h2.trans n) λz=>o.trans (u z)
 ·obtain⟨d,h1,h2,o,h4⟩:=p.ce k hk;rw[w,e k];unfold lkU
  by_cases a:k=i
  ·rw[if_pos a];rw[a,hc]at h1;cases h1;refine⟨_,rfl,h2,λj m=>?_,by rw[if_pos rfl,List.map_set]⟩;rcases List.mem_or_eq_of_mem_set m with z | z
   ·exact o j z
   ·exact hy j z.symm
  ·rw[if_neg a];exact⟨d,h1,h2,o,by rw[if_neg (λz=>a (tb.bu k i d c h1 hc z))];exact h4⟩
 ·obtain⟨l,h1,h2,o,_⟩:=old hd;rw[<- h2]at q ⊢;exact p.w2 ph k l h1 (o.trans t) q
 ·obtain⟨l,h1,h2,_,h4⟩:=old hd;obtain⟨s,r,v,_⟩:=old hg;rw[<- h2]at h;rw[<- v]at q ⊢;rcases h4 j m with z | ⟨_,z⟩
  ·exact p.w3 ph k l h1 h j z s r q
  ·exact hm ph j s z r
 ·obtain⟨k,d,h1,h2⟩:=p.w4 ph b n
  by_cases a:k=i
  ·rw[a,hc]at h1;cases h1;exact⟨i,_,(e i).trans (if_pos rfl),h2⟩
  ·exact⟨k,d,(e k).trans ((if_neg a).trans h1),h2⟩
theorem Bq.make(p:Bq lk ea me S M)(tb:TB w0 M){u:Int}{c:Ce}(hb:c.birth=M.born+1)(r:c.tone=M.sw.sense){n:Nat}(l:c.fl=List.replicate n none):
  Bq (lkU lk (M.born+1) (List.replicate n none)) ea me (λi=>S i\/i=((gW M.cells:Nat):Int)) { M with used:=u,born:=M.born+1,cells:=jo M.cells c }:=by
 have nw:cellAt { M with used:=u,born:=M.born+1,cells:=jo M.cells c } ((gW M.cells:Nat):Int)=some c:=vd;have kp:∀{i d},cellAt M i=some d->cellAt { M with used:=u,born:=M.born+1,cells:=jo M.cells c } i=some d:=λh=>p8 h;have inv:∀{i d},cellAt { M with used:=u,born:=M.born+1,cells:=jo M.cells c } i=some d->(i=((gW M.cells:Nat):Int)/\d=c)\/cellAt M i=some d:=λh=>dM h;have ne:∀{i d},cellAt M i=some d->d.birth≠M.born+1:=λh=>by have:=(tb.bn _ _ h).2;omega
 have f:M.sw.phase=("walk":Str)->¬ ea (M.born+1):=λph z=>by
  obtain⟨i,d,h1,h2⟩:=p.w4 ph _ z;exact ne h1 h2
 refine⟨λm hm j a=>.inl (p.hd m hm j a),λx hx d hd o t=>?_,λk hk=>?_,λph k d hd t e=>?_,λph k d hd h j a g hg e=>?_,λph b o=>?_⟩
 ·rcases inv hd with ⟨z,_⟩ | h
  ·exact .inr z
  ·exact .inl (p.nm x hx d h o t)
 ·rcases hk with hk | rfl
  ·obtain⟨d,h1,h2,q,h4⟩:=p.ce k hk;refine⟨d,kp h1,h2,λj a=>.inl (q j a),?_⟩;unfold lkU;rw[if_neg (ne h1),h4];refine congrArg some (QC (M:=M) (by rintro y ⟨g,hg⟩;exact .inr ⟨g,g,hg,kp hg,rfl⟩) λj a=>?_).symm;obtain⟨g,hg,_⟩:=p.ce j (q j a);exact⟨g,hg⟩
  ·refine⟨c,nw,λ_=>r,λj a=>?_,?_⟩
   ·rw[l]at a;cases List.eq_of_mem_replicate a
   ·unfold lkU;rw[if_pos hb,l,List.map_replicate];rfl
 ·rcases inv hd with ⟨_,rfl⟩ | h
  ·rw[hb]at e;exact absurd e (f ph)
  ·exact p.w2 ph k d h t e
 ·rcases inv hg with ⟨_,rfl⟩ | hg
  ·rw[hb]at e;exact absurd e (f ph)
  ·rcases inv hd with ⟨_,rfl⟩ | hd
   ·rw[l]at a;cases List.eq_of_mem_replicate a
   ·exact p.w3 ph k d hd h j a g hg e
 ·obtain⟨k,d,h1,h2⟩:=p.w4 ph b o;exact⟨k,d,kp h1,h2⟩
end
section
variable {M M' N:Wm}{lk:wV}{ea me S T T':Int->Prop}{w0:Int}
theorem oG(p:Bq lk ea me S M){h t:Nat}{x:Int}(e:aO M h t=some x):S x:=by
 obtain⟨m,hm,a⟩:=slot_mem e;exact p.hd m (List.mem_of_getElem? hm) x a
theorem Zfw{h t:Nat}(o:uG M h t)(e:jW M (aO M h t)=none):Yq lk (inB ad h t)=[]:=by
 rw[Cz o,e];rfl
theorem Zfv(p:Bq lk ea me S M){h t:Nat}(o:uG M h t){x:Int}{c:Ce}(e:aO M h t=some x)(hc:cellAt M x=some c):inB ad h t=some c.birth/\Yq lk (inB ad h t)=c.fl.map (jW M):=by
 have b:inB ad h t=some c.birth:=by
  rw[Cz o,e];show(cellAt M x).map _=_;rw[hc];rfl
 refine⟨b,?_⟩;obtain⟨f,a,_,_,d⟩:=p.ce x (oG p e);rw[hc]at a;cases a;rw[b];show(lk c.birth).getD []=_;rw[d];rfl
def DkR(lk:wV)(ea me:Int->Prop)(M:Wm)(d:ie):Prop:=(zf ad lk (jY bE) d).1=rowsOf (stM M bE)/\∃a,Bq (zf ad lk (jY bE) d).2 ea (λb=>me b\/Rl (rowsOf (stM M bE)) (zf ad lk (jY bE) d).2 b) a (stM M bE)
theorem FP(p:Bq lk ea me S M)(tb:TB w0 M){d:ie}{r:Rf}(h:dN M d=.error r)(hb:zf ad lk (jY (.error r)) d=(rowsOf M,lk)):DkR lk ea me M d:=by
 unfold DkR;rw[h,hb];exact⟨rfl,S,p.grow tb⟩
theorem Ai{a:wV}{d:ie}{e:Ev}{b:Int->Prop}(h:dN M d=.ok (e,N))(tb:TB w0 M)(hb:zf ad lk (jY (.ok (e,N))) d=(rowsOf N,a))(p:Bq a ea me b N):DkR lk ea me M d:=by
 unfold DkR;rw[h,hb];exact⟨rfl,b,p.grow (tb.deed h)⟩
theorem Zp4(p:Bq lk ea me S M)(tb:TB w0 M)(w1:M.sw.phase=("walk":Str)->∀b,Rl ad lk b->me b){d:ie}(o:okD M d):DkR lk ea me M d:=by
 cases d with
 | make h s a bulk=>
  by_cases z:M.used+(1+a+bulk)<=M.room
  ·have hd:dN M (.make h s a bulk)=_:=if_pos z;have q:=p.make tb (u:=M.used+(1+a+bulk)) (c:=⟨M.born+1,bulk,M.sw.sense,0,List.replicate a.toNat none⟩) rfl rfl (n:=a.toNat) rfl;refine Ai hd tb ?_ (q.slot λj e=>.inr (Option.some.inj e).symm);obtain⟨o,_⟩:=o;have F:rowsOf { M with used:=M.used+(1+a+bulk),born:=M.born+1,cells:=jo M.cells ⟨M.born+1,bulk,M.sw.sense,0,List.replicate a.toNat none⟩ }=rowsOf M:=by
    unfold rowsOf;refine List.map_congr_left λm hm=>QC (M:=M) (by rintro y ⟨g,hg⟩;exact .inr ⟨g,g,hg,p8 hg,rfl⟩) λj J=>?_;obtain⟨g,hg,_⟩:=p.ce j (p.hd m hm j J);exact⟨g,hg⟩
   have A:=mJ (x:=some ((gW M.cells:Nat):Int)) (M:={ M with used:=M.used+(1+a+bulk),born:=M.born+1,cells:=jo M.cells ⟨M.born+1,bulk,M.sw.sense,0,List.replicate a.toNat none⟩ }) o;rw[F]at A;have e3:jW { M with used:=M.used+(1+a+bulk),born:=M.born+1,cells:=jo M.cells ⟨M.born+1,bulk,M.sw.sense,0,List.replicate a.toNat none⟩ } (some ((gW M.cells:Nat):Int))=some (M.born+1):=by
    show(cellAt _ _).map _=_;rw[vd];rfl
   rw[e3]at A;exact Prod.ext A.symm rfl
  ·exact FP p tb (r:=.full) (if_neg z) (by unfold zf jY;exact if_neg (show ¬ ("refused":Str)="made" by decide))
 | get h s t f=>
  cases hx:aO M h t with
  | none=>exact FP p tb (r:=.empty) (by simp only[dN,hx]) (if_neg (by rw[Zfw o.2 (by rw[hx];rfl)];exact Nat.not_lt_zero _))
  | some x=>
   obtain⟨c,hc,_,I,_⟩:=p.ce x (oG p hx);obtain⟨_,A⟩:=Zfv p o.2 hx hc;cases hv:c.fl[f]? with
   | none=>exact FP p tb (r:=.jB) (by simp only[dN,hx,hc,hv]) (if_neg (by rw[A,aY];exact Nat.not_lt.mpr (List.getElem?_eq_none_iff.mp hv)))
   | some v=>
    have hd:dN M (.get h s t f)=.ok (⟨"got",jW M v,[]⟩,setSlot M h s v):=by simp only[dN,hx,hc,hv]
    refine Ai hd tb ?_ (p.slot λj e=>I j (by rw[<- e];exact List.mem_of_getElem? hv));refine(if_pos (by rw[A,aY];exact(cG hv).1)).trans ?_;rw[mJ o.1,A,cg,hv];rfl
 | put h t f s=>
  cases hx:aO M h t with
  | none=>exact FP p tb (r:=.empty) (by simp only[dN,hx]) (if_neg (by rw[Zfw o.1 (by rw[hx];rfl)];exact Nat.not_lt_zero _))
  | some x=>
   obtain⟨c,hc,_,I,_⟩:=p.ce x (oG p hx);obtain⟨F,A⟩:=Zfv p o.1 hx hc;cases hv:c.fl[f]? with
   | none=>exact FP p tb (r:=.jB) (by simp only[dN,hx,hc,hv]) (if_neg (by rw[A,aY];exact Nat.not_lt.mpr (List.getElem?_eq_none_iff.mp hv)))
   | some v=>
    have hd:=show dN M (.put h t f s)=_ by simp only[dN,hx,hc,hv];rfl
    have q:=p.put tb (f:=f) (y:=aO M h s) (oG p hx) hc (λj e=>oG p e) λph j g e hg=>w1 ph _ (K9 e hg);have V:∀{i g},cellAt (setCell M x { c with fl:=c.fl.set f (aO M h s) }) i=some g->∃O,cellAt M i=some O/\O.birth=g.birth:=λ{i g} hg=>by
     rw[dJ hc i]at hg
     by_cases E:i=x
     ·rw[if_pos E]at hg;cases hg;exact⟨c,by rw[E];exact hc,rfl⟩
     ·rw[if_neg E]at hg;exact⟨g,hg,rfl⟩
    refine Ai hd tb ?_ (q.up (Up.notes _ _) λph i g hi hg _=>?_)
    ·refine(if_pos (by rw[A,aY];exact(cG hv).1)).trans ?_;have H:rowsOf (setCell M x { c with fl:=c.fl.set f (aO M h s) })=rowsOf M:=by
      unfold rowsOf;refine List.map_congr_left λm hm=>QC (M:=M) (λy ⟨g,hg⟩=>?_) λj J=>?_
      ·rw[dJ hc y]
       by_cases E:y=x
       ·rw[if_pos E];exact .inr ⟨c,_,by rw[E];exact hc,rfl,rfl⟩
       ·rw[if_neg E];exact .inl rfl
      ·obtain⟨g,hg,_⟩:=p.ce j (p.hd m hm j J);exact⟨g,hg⟩
     rw[(Up.notes _ _).rows,H,A,F,Cz o.2];rfl
    ·obtain⟨O,P,R⟩:=V hg;rw[<- R];have rc:=K9 (lk:=lk) hx hc;rcases List.mem_append.mp hi with hi | hi
     ·split at hi
      ·have:=List.mem_singleton.mp hi;exact w1 ph _ (Zci p (oG p hx) hc rc (by rw[this];exact List.mem_of_getElem? hv) P)
      ·cases hi
     ·split at hi
      ·exact w1 ph _ (K9 (List.mem_singleton.mp hi).symm P)
      ·cases hi
 | copy h s t=>
  refine Ai (e:=⟨"copied",jW M (aO M h t),[]⟩) rfl tb ?_ (p.slot λj e=>oG p e);rw[mJ o.1,<- Cz o.2];rfl
 | drop h s=>
  refine Ai (e:=⟨"dropped",jW M (aO M h s),[]⟩) rfl tb ?_ (p.slot λj e=>nomatch e);rw[mJ o];rfl
 | give h s g t=>
  refine Ai rfl tb ?_ ((p.slot (h:=g) (s:=t) (x:=aO M h s) λj e=>oG p e).up (Up.notes _ _) λph i c hi hc _=>?_)
  ·rw[(Up.notes _ _).rows,mJ o.2,<- Cz o.1];rfl
  ·split at hi
   ·exact w1 ph _ (K9 (List.mem_singleton.mp hi).symm hc)
   ·cases hi
 | write h t l=>
  cases hx:aO M h t with
  | none=>exact FP p tb (r:=.empty) (by simp only[dN,hx]) rfl
  | some x=>
   obtain⟨c,hc,_⟩:=p.ce x (oG p hx);have hd:dN M (.write h t l)=.ok (⟨"wrote",some c.load,[]⟩,setCell M x { c with load:=l }):=by simp only[dN,hx,hc]
   have u:Up M (setCell M x { c with load:=l }) eI:=by
    refine⟨rfl,rfl,rfl,rfl,λk g hg=>?_,λk hk=>?_⟩
    ·rw[dJ hc k]
     by_cases K:k=x
     ·rw[if_pos K];rw[K,hc]at hg;cases hg;exact⟨_,rfl,rfl,rfl,.inr rfl,.inl⟩
     ·rw[if_neg K];exact⟨g,hg,rfl,rfl,.inr rfl,.inl⟩
    ·rw[dJ hc k,if_neg (λy=>by rw[y,hc]at hk;cases hk)];exact hk
   exact Ai hd tb (by rw[u.rows];rfl) (p.up u λ_ _ _ f=>f.elim)
 | read h t=>
  cases hx:aO M h t with
  | none=>exact FP p tb (r:=.empty) (by simp only[dN,hx]) rfl
  | some x=>
   obtain⟨c,hc,_⟩:=p.ce x (oG p hx);exact Ai (show dN M (.read h t)=.ok (⟨"read",some c.load,[]⟩,M) by simp only[dN,hx,hc]) tb rfl p
 | name h t z=>
  cases hx:aO M h t with
  | none=>exact FP p tb (r:=.empty) (by simp only[dN,hx]) rfl
  | some x=>
   obtain⟨c,hc,_⟩:=p.ce x (oG p hx);refine Ai (show dN M (.name h t z)=.ok (⟨"named",some c.birth,[]⟩,{ M with names:=nF M.names z (x,c.birth) }) by simp only[dN,hx,hc]) tb rfl ⟨p.hd,λy hy g hg D T=>?_,p.ce,p.w2,p.w3,p.w4⟩;rcases Zhb hy with hy | hy
   ·exact p.nm y hy g hg D T
   ·rw[hy];exact oG p hx
 | seek h s z=>
  cases hg:wF M.names z with
  | none=>exact FP p tb (r:=.xT) (by simp only[dN,hg]) (by unfold zf jY;exact if_neg (show ¬ ("refused":Str)="sought" by decide))
  | some y=>
   obtain⟨w,b⟩:=y
   by_cases B:mj M w b=true
   ·have hd:dN M (.seek h s z)=.ok (⟨"sought",none,[]⟩,setSlot M h s none):=by simp only[dN,hg];exact if_pos B
    refine Ai hd tb ?_ (p.slot λj e=>nomatch e);rw[mJ o];rfl
   ·have hd:dN M (.seek h s z)=.ok (⟨"sought",some b,(aQ ez [some w]).1⟩,(aQ ez [some w]).2):=by simp only[dN,hg];exact if_neg B
    obtain⟨x,hx,ex⟩:=Option.map_eq_some_iff.mp hg;have L:=List.mem_of_find?_eq_some hx;have F:x.2.1=w:=by rw[ex]
    have A:x.2.2=b:=by rw[ex]
    obtain⟨c,hc,D,I⟩:∃c,cellAt M w=some c/\c.birth=b/\S w:=by
     unfold mj at B;cases hc:cellAt M w with
     | none=>rw[hc]at B;exact absurd rfl B
     | some c=>
      rw[hc]at B;dsimp only at B
      by_cases D:c.birth=b
      ·rw[if_pos D]at B;have:=p.nm x L c (by rw[F];exact hc) (by rw[A];exact D) (λgv=>Decidable.byContradiction λy=>B (decide_eq_true ⟨gv,y⟩));rw[F]at this;exact⟨c,rfl,D,this⟩
      ·rw[if_neg D]at B;exact absurd rfl B
    have q:=(p.slot (h:=h) (s:=s) (x:=some w) λj e=>by cases e;exact I).grow (tb.sb (Sb.slot M h s (some w)));have H:=mJ (x:=some w) o;have U:=q.up (Up.notes [some w] _) λph i g hi C _=>by
     have hi:i=w:=Option.some.inj (List.mem_singleton.mp hi);rw[hi]at C;have C:cellAt M w=some g:=C;rw[hc]at C;cases C;refine .inr (.root (r:=((rowsOf M)[h]?.getD []).set s (some c.birth)) ?_ ?_)
     ·rw[H];obtain⟨r,h1,_,Q⟩:=sW o;have hl:=(cG h1).1;have e3:jW M (some w)=some c.birth:=by show(cellAt M w).map _=_;rw[hc];rfl
      rw[e3];unfold setB;exact List.mem_iff_getElem?.mpr ⟨h,by rw[List.getElem?_set_self hl]⟩
     ·obtain⟨r,h1,_,Q⟩:=sW o;rw[h1];exact List.mem_iff_getElem?.mpr ⟨s,by show(r.set s _)[s]? =_;rw[List.getElem?_set_self Q]⟩
    unfold DkR;rw[hd];have N:zf ad lk (jY (.ok (⟨"sought",some b,(aQ ez [some w]).1⟩,(aQ ez [some w]).2))) (.seek h s z)=(rowsOf ez,lk):=by
     rw[H];have e3:jW M (some w)=some b:=by show(cellAt M w).map _=_;rw[hc];exact congrArg some D
     rw[e3];rfl
    rw[N];refine⟨(Up.notes [some w] ez).rows.symm,S,?_⟩;show Bq lk ea (λb=>me b\/Rl (rowsOf (aQ ez [some w]).2) lk b) S _;rw[(Up.notes [some w] ez).rows];exact U
end
theorem Zcy{M:Wm}{b:Int}:b∈jg M↔∃i c,cellAt M i=some c/\c.birth=b/\c.tone≠M.sw.sense:=by
 unfold jg;constructor
 ·intro h;obtain⟨i,_,e⟩:=List.mem_filterMap.mp h;obtain⟨c,hc,rfl⟩:=Option.map_eq_some_iff.mp e;unfold mD at hc;obtain⟨d,h1,h2⟩:=Option.bind_eq_some_iff.mp hc;split at h2
  ·cases h2
  ·rename_i a
   cases h2;exact⟨i,c,by unfold cellAt;rw[if_pos δ,Int.toNat_natCast];exact h1,rfl,a⟩
 ·rintro⟨i,c,hc,rfl,a⟩;obtain⟨h0,h1⟩:=bK.mp hc;refine List.mem_filterMap.mpr ⟨i.toNat,List.mem_range.mpr (cG h1).1,?_⟩;unfold mD;rw[h1];show(if c.tone=M.sw.sense then none else some c).map _=_;rw[if_neg a];rfl
theorem Zk4{M:Wm}{w0:Int}(tb:TB w0 M):(jg M).Nodup:=by
 unfold jg;refine List.Pairwise.filterMap _ (λi j f b hi m g e=>?_) List.nodup_range;have a:∀{i:Nat}{b:Int},b∈(mD M i).map (·.birth)->∃c,cellAt M (i:Int)=some c/\c.birth=b:=λ{i b} h=>by
  obtain⟨c,hc,rfl⟩:=Option.map_eq_some_iff.mp h;unfold mD at hc;obtain⟨l,h1,h2⟩:=Option.bind_eq_some_iff.mp hc;split at h2
  ·cases h2
  ·cases h2;exact⟨c,by unfold cellAt;rw[if_pos δ,Int.toNat_natCast];exact h1,rfl⟩
 obtain⟨c,h1,h2⟩:=a hi;obtain⟨d,k,h4⟩:=a g;have:=tb.bu _ _ c d h1 k (h2.trans (e.trans h4.symm));exact f δ
section
variable {M M' N:Wm}{lk:wV}{ea me S T T':Int->Prop}{w0 lb:Int}{lw:AE}{e:Ev}
theorem Bq.give{a b:Int->Prop}(p:Bq lk ea me S M)(ph:M.sw.phase≠("walk":Str)):Bq lk a b S M:=⟨p.hd,p.nm,p.ce,λz=>absurd z ph,λz=>absurd z ph,λz=>absurd z ph⟩
theorem Bq.begin(p:Bq lk ea me S M)(tb:TB w0 M)(ph:M.sw.phase=("rest":Str))(a:Int):
  Bq lk (λb=>∃i c,cellAt M i=some c/\c.birth=b) (Rl ad lk) S (aQ (jA M) (RD a M.hands 0)).2/\rowsOf (aQ (jA M) (RD a M.hands 0)).2=rowsOf M:=by
 have g:rowsOf (jA M)=rowsOf M:=rfl;have q:Bq lk (λb=>∃i c,cellAt M i=some c/\c.birth=b) (Rl ad lk) S (jA M):=by
  refine⟨p.hd,λx hx c hc n _=>p.nm x hx c hc n λz=>absurd bd ε,λi hi=>?_,λ_ i c hc t _=>?_,λ_ i c hc h j f d hd _=>?_,λ_ b h=>h⟩
  ·obtain⟨c,h1,_,e,h4⟩:=p.ce i hi;exact⟨c,h1,λz=>absurd z (show ¬ ("walk":Str)="give" by decide),e,h4⟩
  ·have h1:=tb.rs ph i c hc;have t:c.tone=1 - M.sw.sense:=t;have:=tb.se;omega
  ·have r:=h ⟨i,c,hc,rfl⟩;obtain⟨k,l,h1,h2,e⟩:=Zqv p r;have:=tb.bu k i l c h2 hc e;subst this;exact Zci p h1 hc r f hd
 have u:=Up.notes (RD a M.hands 0) (jA M);refine⟨q.up u λ_ i c hi hc _=>?_,u.rows.trans g⟩;obtain⟨m,hm,hx⟩:=Lf M.hands 0 hi;refine .root (r:=m.2.map (jW M)) (List.mem_map.mpr ⟨m,hm,rfl⟩) (List.mem_map.mpr ⟨_,hx,?_⟩);show(cellAt M i).map _=_;rw[show cellAt M i=some c from hc];rfl
theorem Bq.step(p:Bq lk ea me S M)(tb:TB w0 M)(w1:M.sw.phase=("walk":Str)->∀b,Rl ad lk b->me b)(gr:Zmv M)(J:M.sw.phase≠("rest":Str))(h:lQ lb lw M e M'):
  M'.sw.phase=("lost":Str)\/(∃I,Bq lk ea me I M')/\rowsOf M'=rowsOf M:=by
 cases h with
 | begin ph=>exact absurd ph J
 | walk x g c ph hg hc=>
  have P:Up M { M with sw:={ M.sw with grey:=g,walks:=M.sw.walks+1 } } (λ_=>False):=Up.cells rfl rfl rfl rfl rfl;have u:=P.trans (Up.notes c.fl { M with sw:={ M.sw with grey:=g,walks:=M.sw.walks+1 } });refine .inr ⟨⟨S,p.up u λ_ i d hi hd T=>?_⟩,u.rows⟩;obtain⟨W,h1,h2⟩:=(gr ph).2 x (by rw[hg];exact List.mem_cons_self ..);rw[hc]at h1;cases h1;exact p.w3 ph x c hc (p.w2 ph x c hc h2) i (hi.resolve_left id) d hd T
 | look V ph hg Y hN=>
  subst hN;rw[Vd];have L:Up (aQ M (RD bi M.hands 0)).2 { (aQ M (RD bi M.hands 0)).2 with sw:={ (aQ M (RD bi M.hands 0)).2.sw with looks:=(aQ M (RD bi M.hands 0)).2.sw.looks+1,looked:=if M.w=2 then(aQ M (RD bi M.hands 0)).2.sw.looked else Builtin.bitOr (aQ M (RD bi M.hands 0)).2.sw.looked bi } } (λ_=>False):=Up.cells rfl rfl rfl rfl rfl;have u:=(Up.notes (RD bi M.hands 0) M).trans L;refine .inr ⟨⟨S,p.up u λ_ i d hi hd _=>?_⟩,u.rows⟩;obtain⟨m,hm,hx⟩:=Lf M.hands 0 (hi.resolve_right id);refine w1 ph _ (.root (r:=m.2.map (jW M)) (List.mem_map.mpr ⟨m,hm,rfl⟩) (List.mem_map.mpr ⟨_,hx,?_⟩));show(cellAt M i).map _=_;rw[hd];rfl
 | cut q C ph hg X U D=>
  obtain⟨O,Q,R⟩:=Ze8 U;have F:∀{i c},cellAt M i=some c->KB.K4 (fdOf M) i=some c.fl:=λh=>by rw[Zdp,h];rfl
  have s:∀{y},(∃v,(y,v)∈q)->y∈C.map (·.1):=λ⟨v,hv⟩=>by
   obtain⟨k,hk,e⟩:=List.getElem_of_mem hv;exact O k _ hk (by rw[bD hk,e])
  have A:∀r∈iw M,∀y,some y∈r->S y->y∈C.map (·.1):=λr hr y hy a=>by
   obtain⟨c,hc,_⟩:=p.ce y a;exact s (Q r hr y hy (by rw[F hc];rfl))
  have E:∀{y c},y∈C.map (·.1)->cellAt M y=some c->c.tone=M.sw.sense:=λ{y c} hy hc=>by
   obtain⟨x,hx,rfl⟩:=List.mem_map.mp hy;exact D x hx c hc
  refine .inr ⟨⟨λi=>S i/\i∈C.map (·.1),⟨λm hm j l=>?_,λx hx c hc o B=>?_,λi hi=>?_,λz=>absurd z eD,λz=>absurd z eD,λz=>absurd z eD⟩⟩,rfl⟩
  ·have a:=p.hd m hm j l;exact⟨a,A m.2 (List.mem_append.mpr (.inl (List.mem_map.mpr ⟨m,hm,rfl⟩))) j l a⟩
  ·have hc:cellAt M x.2.1=some c:=hc;have B:c.tone=M.sw.sense:=B rfl;have a:=p.nm x hx c hc o λz=>absurd bd ε;refine⟨a,A (nA M) (List.mem_append.mpr (.inr (List.mem_singleton.mpr rfl))) x.2.1 (List.mem_map.mpr ⟨x,hx,?_⟩) a⟩;have K:mj M x.2.1 x.2.2=false:=by
    unfold mj;rw[hc];dsimp only;rw[if_pos o];exact decide_eq_false λz=>absurd (ph.symm.trans z.1) ε
   unfold M5;rw[K,if_neg ε,hc];exact if_neg λz=>z.2 B
  ·obtain⟨a,hq⟩:=hi;obtain⟨c,h1,_,n,h4⟩:=p.ce i a;obtain⟨x,hx,ex⟩:=List.mem_map.mp hq;refine⟨c,h1,λ_=>E hq h1,λj l=>⟨n j l,?_⟩,h4⟩;obtain⟨d,hd,_⟩:=p.ce j (n j l);exact s (R x hx c.fl (by rw[ex];exact F h1) j l (by rw[F hd];rfl))
 | lost=>exact .inl rfl
 | pass ph lt hp=>
  have u:Up M { M with sw:={ M.sw with at':=M.sw.at'+1,passes:=M.sw.passes+1 } } (λ_=>False):=Up.cells rfl rfl rfl rfl rfl;exact .inr ⟨⟨S,p.up u λ_ _ _ f=>f.elim⟩,u.rows⟩
 | back c ph lt hc B=>
  have N:¬ S M.sw.at':=λr=>by
   obtain⟨d,h1,h2,_⟩:=p.ce _ r;rw[hc]at h1;cases h1;exact B (h2 ph)
  have kp:∀{i d},S i->cellAt M i=some d->cellAt { M with used:=M.used - (1+c.fl.length+c.bulk),cells:=M.cells.set M.sw.at'.toNat none,sw:={ M.sw with at':=M.sw.at'+1,passes:=M.sw.passes+1 } } i=some d:=λ{i d} r h=>by rw[YD hc (λz=>N (by rw[<- z];exact r))];exact h
  have bl:∀{fl:Au},(∀j,some j∈fl->S j)->fl.map (jW { M with used:=M.used - (1+c.fl.length+c.bulk),cells:=M.cells.set M.sw.at'.toNat none,sw:={ M.sw with at':=M.sw.at'+1,passes:=M.sw.passes+1 } })=fl.map (jW M):=λ{fl} H=>by
   refine List.map_congr_left λx hm=>?_;cases x with
   | none=>rfl
   | some j=>
    obtain⟨d,hd,_⟩:=p.ce j (H j hm);show(cellAt _ j).map _=(cellAt M j).map _;rw[kp (H j hm) hd,hd]
  refine .inr ⟨⟨S,⟨p.hd,λx hx d hd o t=>p.nm x hx d (YC hc hd).2 o t,λi hi=>?_,λz=>absurd bd ε,λz=>absurd bd ε,λz=>absurd bd ε⟩⟩,?_⟩
  ·obtain⟨d,h1,h2,n,h4⟩:=p.ce i hi;exact⟨d,kp hi h1,h2,n,by rw[bl n];exact h4⟩
  ·unfold rowsOf;exact List.map_congr_left λm hm=>bl λj l=>p.hd m hm j l
 | fin ph lt=>
  have tn:∀i c,cellAt M i=some c->c.tone=M.sw.sense:=λi c hc=>Decidable.byContradiction λy=>by
   have:=tb.gv ph i c hc y;omega
  refine .inr ⟨⟨S,⟨p.hd,λx hx c hc o _=>p.nm x hx c hc o λ_=>tn _ _ hc,λi hi=>?_,λz=>absurd z a7,λz=>absurd z a7,λz=>absurd z a7⟩⟩,rfl⟩;obtain⟨c,h1,h2,n,h4⟩:=p.ce i hi;exact⟨c,h1,λz=>absurd z (show ¬ ("rest":Str)="give" by decide),n,h4⟩
 | again ph=>exact .inl ph
end
def RwO(H:Hp)(l:AI)(rows:List Au):Prop:=∃a:AF,H l=some (.lst (a.map V.ref))/\a.length=rows.length/\∀(j:Nat) r x,a[j]? =some r->rows[j]? =some x->H r=some (.lst (x.map oV))
def Lw(H:Hp)(d:AI)(f:Int->Option V)(k:Nat):Prop:=∃a:List (L2.Key×V),H d=some (.dK a)/\a.length<=k/\∀b:Int,gR a (Sum.inl b)=f b
theorem Lw.get{H:Hp}{d:AI}{f:Int->Option V}{k:Nat}(h:Lw H d f k){b:Int}{v:V}(e:f b=some v):mz H d (.int b) (some v):=by
 obtain⟨a,h1,_,h2⟩:=h;have:=mz.k (k:=Sum.inl b) h1;rw[h2 b,e]at this;exact this
theorem Lw.put{H:Hp}{d:AI}{f:Int->Option V}{k:Nat}(h:Lw H d f k)(hk:k<=100000)(b:Int)(v:V):∃H',rZ H d (.int b) v H'/\Lw H' d (λx=>if x=b then some v else f x) dC/\∃o,H'=upd H d o:=by
 obtain⟨a,h1,c,h2⟩:=h;refine⟨_,rZ.k (k:=Sum.inl b) (v:=v) h1 (Nat.lt_of_le_of_lt c (Nat.lt_of_le_of_lt hk ε)),⟨_,aq,?_,λx=>?_⟩,_,rfl⟩
 ·have:=nU a (Sum.inl b) v;omega
 ·rw[Zi,h2 x];dsimp only
  by_cases e:x=b
  ·rw[if_pos e,if_pos (by rw[e])]
  ·rw[if_neg e,if_neg (λz=>e (Sum.inl.inj z))]
theorem Lw.same{H H':Hp}{d:AI}{f:Int->Option V}{k:Nat}(s:bB H H')(h:Lw H d f k):Lw H' d f k:=by
 obtain⟨a,h1,b,h2⟩:=h;exact⟨a,s _ _ h1,b,h2⟩
theorem Lw.ask{H:Hp}{d:AI}{f:Int->Option V}{k:Nat}(h:Lw H d f k)(b:Int):mz H d (.int b) (f b):=by
 obtain⟨a,h1,_,h2⟩:=h;have:=mz.k (k:=Sum.inl b) h1;rw[h2 b]at this;exact this
theorem Lw.upd{H:Hp}{d l:AI}{f:Int->Option V}{k:Nat}{o:HO}(h:Lw H d f k)(n:l≠d):Lw (upd H l o) d f k:=by
 obtain⟨a,h1,h2⟩:=h;exact⟨a,(aA n.symm).trans h1,h2⟩
section
variable {K:aC}{H:Hp}
theorem Zs3{Q:VK}{p q:AI}{xs:List V}(h1:cC K H p xs)(h2:cC K H q [])(h:Q (.bl (decide (xs≠[]))) H):G.Zqx K true (.ref p) (.ref q) H Q:=by
 refine⟨p,q,_,_,rfl,rfl,h1,h2,λe=>?_,?_⟩
 ·have:xs=[]:=List.length_eq_zero_iff.mp e;subst this;exact⟨rfl,rfl⟩
 ·cases xs with
  | nil=>exact h
  | cons a l=>
   rw[decide_eq_true (show a::l≠[]from λz=>nomatch z)]at h;exact h
end
def LkO(H:Hp)(d:AI)(lk:wV)(k:Nat):Prop:=∃f,Lw H d f k/\∀b,(lk b=none->f b=none)/\∀fs,lk b=some fs->∃a,f b=↑a/\H a=some (.lst (fs.map oV))
def Kx(H H':Hp)(m:AI):Prop:=∀b o,H b=some o->b≠m->H' b=some o
theorem LkO.kx{H H':Hp}{m d:AI}{lk:wV}{n:Nat}{c:List (L2.Key×V)}(h:LkO H d lk n)(hm:H m=some (.dK c))(nd:d≠m)(k:Kx H H' m):LkO H' d lk n:=by
 obtain⟨f,⟨o,j,l,i⟩,h2⟩:=h;refine⟨f,⟨o,k _ _ j nd,l,i⟩,λb=>⟨(h2 b).1,λfs e=>?_⟩⟩;obtain⟨a,z1,g⟩:=(h2 b).2 fs e;exact⟨a,z1,k _ _ g (lE g hm λz=>by cases z)⟩
structure PfL(rs:HD)(lk:wV)(f:Int->Option V)(ys:Au):Prop where
 c1:∀b,f b≠none->Rl rs lk b
 c2:∀b,some b∈ys->Rl rs lk b
 c3:∀r∈rs,∀b,some b∈r->f b≠none\/some b∈ys
 c4:∀b fs,f b≠none->lk b=some fs->∀b',some b'∈fs->f b'≠none\/some b'∈ys
def mS(w:Int->Nat)(f:Int->Option V):AE->Nat
 | []=>0
 | b::bs=>(if (f b).isSome=true then 0 else w b)+mS w f bs
def wL(lk:wV)(b:Int):Nat:=(Yq lk (some b)).length
section
variable {rs:HD}{lk:wV}{w:Int->Nat}{f:Int->Option V}{zs:Au}
theorem PfL.pop{y:AA}(h:PfL rs lk f (zs++[y]))(hy:∀b,y=some b->f b≠none):PfL rs lk f zs:=by
 have k:∀b,(f b≠none\/some b∈zs++[y])->f b≠none\/some b∈zs:=λb z=>by
  rcases z with z | z
  ·exact .inl z
  ·rcases List.mem_append.mp z with z | z
   ·exact .inr z
   ·exact .inl (hy b (List.mem_singleton.mp z).symm)
 exact⟨h.c1,λb hb=>h.c2 b (List.mem_append.mpr (.inl hb)),λr hr b hb=>k b (h.c3 r hr b hb),λx fs hg e b hb=>k b (h.c4 x fs hg e b hb)⟩
theorem PfL.put{b0:Int}{fs:Au}{v:V}(hr:lk b0=some fs)(h:PfL rs lk f (zs++[some b0])):PfL rs lk (λx=>if x=b0 then some v else f x) (zs++fs):=by
 have c:Rl rs lk b0:=h.c2 _ (List.mem_append.mpr (.inr (List.mem_singleton.mpr rfl)));have up:∀b,f b≠none\/some b∈zs++[some b0]->(if b=b0 then some v else f b)≠none\/some b∈zs++fs:=λb z=>by
  by_cases e:b=b0
  ·exact .inl (by rw[if_pos e];exact λz=>nomatch z)
  ·rw[if_neg e];rcases z with z | z
   ·exact .inl z
   ·rcases List.mem_append.mp z with z | z
    ·exact .inr (List.mem_append.mpr (.inl z))
    ·exact absurd (Option.some.inj (List.mem_singleton.mp z)) e
 refine⟨λb hb=>?_,λb hb=>?_,λw g b hb=>up b (h.c3 w g b hb),λx d hg a b hb=>?_⟩
 ·have hb:(if b=b0 then some v else f b)≠none:=hb
  by_cases e:b=b0
  ·rw[e];exact c
  ·rw[if_neg e]at hb;exact h.c1 b hb
 ·rcases List.mem_append.mp hb with hb | hb
  ·exact h.c2 b (List.mem_append.mpr (.inl hb))
  ·exact .via c hr hb
 ·have hg:(if x=b0 then some v else f x)≠none:=hg
  by_cases e:x=b0
  ·rw[e,hr]at a;cases a;exact .inr (List.mem_append.mpr (.inr hb))
  ·rw[if_neg e]at hg;exact up b (h.c4 x d hg a b hb)
theorem PfL.all(h:PfL rs lk f [])(b:Int):f b≠none↔Rl rs lk b:=by
 refine⟨h.c1 b,λr=>?_⟩
 induction r with
 | root hr hb=>exact(h.c3 _ hr _ hb).resolve_right ar
 | via _ hx hb a=>exact(h.c4 _ _ a hx _ hb).resolve_right ar
theorem Zpx{b0:Int}{v:V}:∀{bs:AE},b0∉bs->mS w (λx=>if x=b0 then some v else f x) bs=mS w f bs
 | [],_=>rfl
 | b::bs,h=>by
  have h1:b≠b0:=λe=>h (by rw[e];exact List.mem_cons_self ..);show(if (if b=b0 then some v else f b).isSome=true then 0 else _)+_=_;rw[if_neg h1,Zpx (λz=>h (List.mem_cons_of_mem _ z))];rfl
theorem Zd3{b0:Int}{v:V}(a:f b0=none):∀{bs:AE},bs.Nodup->b0∈bs->mS w (λx=>if x=b0 then some v else f x) bs+w b0=mS w f bs
 | [],_,h=>nomatch h
 | b::bs,nd,h=>by
  have n1:=List.nodup_cons.mp nd;show(if (if b=b0 then some v else f b).isSome=true then 0 else w b)+mS w (λx=>if x=b0 then some v else f x) bs+_=(if (f b).isSome=true then 0 else w b)+mS w f bs
  by_cases e:b=b0
  ·subst e;rw[if_pos rfl,a,if_pos (show(some v).isSome=true from rfl),if_neg (show ¬ (none:Option V).isSome=true by decide),Zpx n1.1];omega
  ·rw[if_neg e];rcases List.mem_cons.mp h with z | z
   ·exact absurd z.symm e
   ·have:=Zd3 (v:=v) a n1.2 z;omega
theorem Zkz{c:Nat}:∀{bs:AE},(∀b∈bs,w b<=c)->mS w f bs<=bs.length * c
 | [],_=>Nat.zero_le _
 | b::bs,h=>by
  have h1:=h b (List.mem_cons_self ..);have h2:=Zkz λx hx=>h x (List.mem_cons_of_mem _ hx);show(if _ then 0 else _)+mS w f bs<=(bs.length+1) * c;rw[Nat.succ_mul];split<;>omega
end
def RaB(H:Hp)(rs:HD)(lk:wV)(bs:AE)(g:Int->Option V)(n:Nat)(l d m e h:AI)(i:Nat)(σ:St)(a:Hp):Prop:=∃(o j:Option V) (c:Au) (f g':Int->Option V) (k:Nat),σ=[↑l,↑d,↑m,↑e,o,↑h,j]/\Kx H a m/\a e=some (.lst (c.map oV))/\Lw a h f k/\Lw a m g' (n+k)/\(∀b,g' b≠none↔g b≠none\/f b≠none)/\i=c.length+mS (wL lk) f bs/\k + i<=50000/\k+mS (λ_=>1) f bs<=bs.length/\PfL rs lk f c
inductive ReQ(l d m:AI)(H:Hp)(Q:VK):Prop
 | mk (rs:HD) (lk:wV) (bs:AE) (g:Int->Option V) (km:Nat) (_:RwO H l rs) (_:rs.length<=40) (_:(∀r∈rs,r.length<=100)) (_:LkO H d lk 10000) (_:Lw H m g km) (_:km<=20000) (_:d≠m) (_:bs.Nodup) (_:bs.length<=1000) (_:(∀b∈bs,wL lk b<=20)) (_:(∀b,Rl rs lk b->b∈bs/\∃fs,lk b=some fs)) (_:∀H' g',Kx H H' m->Lw H' m g' (km+bs.length)->(∀b,g' b≠none↔g b≠none\/Rl rs lk b)->Q .non H'):ReQ l d m H Q
def dZ(K:aC):Sp:=λvs H Q E=>∃l d m,vs=[.ref l,.ref d,.ref m]/\ReQ l d m H Q
section
theorem S5{l d m:AI}(q:ReQ l d m H Q):zL K ⟨λ_ H'=>Q .non H',Q,bk,ct⟩ [↑l,↑d,↑m,none,none,none,none] H:=by
 obtain⟨rs,lk,bs,g,km,or,l40,Za6,od,om,hkm,ndm,X,lbs,Z,hR,q⟩:=q;obtain⟨ls,o1,hl,o2⟩:=id or;obtain⟨kvs,N,_⟩:=id om;unfold zL;apply⟨bF ζ,λa j=>?_⟩;generalize zz:upd H a _=H1;obtain⟨s1,g1⟩:=nwO j zz;have g1:H1 a=some (.lst (([]:Au).map oV)):=g1;apply⟨l,rfl,⟨_,cC.of (s1 _ _ o1)⟩,forL (ls.map V.ref) (λi σ R=>∃B,σ=[↑l,↑d,↑m,↑a,B,none,none]/\bB H R/\R a=some (.lst ((rs.take i).flatten.map oV))/\(rs.take i).flatten.length<=i * 100) ⟨_,rfl,s1,g1,Nat.zero_le _⟩ (by rintro _ _ _ _ ⟨_,_,y,_⟩;exact cC.of (y _ _ o1)) ?_ ?_⟩
 ·rintro i y σ R hy ⟨B,rfl,S,t,ly⟩;rw[cg]at hy;obtain⟨r,hr,rfl⟩:=Option.map_eq_some_iff.mp hy;have hi:i<ls.length:=(cG hr).1;obtain⟨x,hx⟩:∃x,rs[i]? =some x:=⟨_,bD δ⟩;have etk:(rs.take br).flatten=(rs.take i).flatten++x:=by rw[List.take_add_one,hx,List.flatten_append];simp
  have orr:=S _ _ (o2 i r x hr hx);have lx:=Za6 x (List.mem_of_getElem? hx);exists _,rfl;exists a,r,_,_,rfl,rfl,t,orr,bF (by rw[aY,aY];omega);rw[<- List.map_append,<- etk];exact⟨_,rfl,λc o hc=>by rw[aA (aD hc j)];exact S _ _ hc,aq,by rw[etk,List.length_append];omega⟩
 ·rintro σ R ⟨B,rfl,S,t,ly⟩;rw[aY]at ly t;rw[hl,List.take_length]at ly t;have hm0:=Zkz (f:=λ_=>none) Z;have hm1:=Zkz (w:=λ_=>1) (f:=λ_=>none) (c:=1) (bs:=bs) λ_ _=>Nat.le_refl _;have hm:∀b,some b∈rs.flatten->∃r∈rs,some b∈r:=λb hb=>List.mem_flatten.mp hb;ext;intro p J;have s:=aL J (.dK []);have E:Lw (upd R p (.dK [])) p (λ_=>none) 0:=⟨[],aq,Nat.le_refl _,λb=>rfl⟩;have I:=s _ _ t;have A:=S.trans s;have M:=S.free J;have P:a≠p:=aD t J;generalize upd R p (.dK [])=T at s E I A ⊢;have W:p≠m:=λz=>by rw[z,N]at M;cases M
  have F:a≠m:=λz=>by rw[z,N]at j;cases j
  clear s t S;exists RaB H rs lk bs g km l d m a p,⟨_,B,none,rs.flatten,λ_=>none,g,0,rfl,λb o hb _=>A _ _ hb,I,E,om.same A,λb=>⟨.inl,λz=>z.elim id λy=>absurd rfl y⟩,rfl,δ,δ,⟨λb h=>absurd rfl h,λb hb=>let ⟨r,h1,h2⟩:=hm b hb;.root h1 h2,λr hr b hb=>.inr (List.mem_flatten.mpr ⟨r,hr,hb⟩),λx fs h=>absurd rfl h⟩⟩;clear hm ly I E A;rintro μ σ Hy ⟨B,v6,ys,f,g',k,rfl,kx,t,gf,gm,hg,rfl,hk,hn,pf⟩;apply⟨bF ζ,λe0 ne0=>?_⟩;have s:=aL ne0 (.lst []);refine Zs3 (cC.of (s _ _ t)) (cC.of aq) ?_;generalize upd Hy e0 (.lst [])=T at s ⊢;have Y:Kx H T m:=λb o hb nb=>s _ _ (kx b o hb nb);have E:=s _ _ t;have gf4:=gf.same s;have gm4:=gm.same s;rcases List.eq_nil_or_concat ys with e | ⟨n,y,e⟩
  ·subst e;rw[decide_eq_false (λz=>z rfl)];ext;obtain⟨ks,k1,k2,k3⟩:=gm4;exact q T g' Y ⟨ks,k1,δ,k3⟩ λb=>(hg b).trans (or_congr Iff.rfl (pf.all b))
  ·rw[List.concat_eq_append]at e;subst e;rw[decide_eq_true ζ];exists _,λ_ _ h=>h;rw[List.map_append,List.map_singleton]at E;rw[List.length_append,List.length_singleton]at hk;exists .inl ⟨rfl,_,cC.of E⟩;refine⟨a,_,oV y,rfl,rfl,E,ζ,?_⟩;rw[List.dropLast_concat];have g5:upd T a (.lst (n.map oV)) a=some (.lst (n.map oV)):=aq;have u:=gf4.upd (o:=.lst (n.map oV)) P;have C:=gm4.upd (o:=.lst (n.map oV)) F;have L:Kx H (upd T a (.lst (n.map oV))) m:=λb o hb nb=>by rw[aA (aD hb j)];exact Y b o hb nb
   generalize upd T a (.lst (n.map oV))=H5 at g5 u C L ⊢;have skip:(∀b,y=some b->f b≠none)->∃m',m'<(n++[y]).length+mS (wL lk) f bs/\RaB H rs lk bs g km l d m a p m' [↑l,↑d,↑m,↑a,B,↑p,some (oV y)] H5:=λhy=>⟨_,by rw[List.length_append,List.length_singleton];omega,B,_,n,f,g',k,rfl,L,g5,u,C,hg,rfl,δ,hn,pf.pop hy⟩;ext;cases y with
   | none=>
    rw[show oV none=V.non from rfl]at skip ⊢;apply skip λb e=>nomatch e
   | some b=>
    rw[show oV (some b)=V.int b from rfl]at skip ⊢;obtain⟨D,fs,O⟩:=hR b (pf.c2 b (List.mem_append.mpr (.inr (List.mem_singleton.mpr rfl))));exists p,_,rfl,u.ask b;cases hf:f b with
    | some v=>
     apply skip λb e=>by cases e;rw[hf];exact λz=>nomatch z
    | none=>
     rw[show(!(none:Option V).isSome)=true from rfl];ext;obtain⟨H6,p1,mk,o,p3⟩:=u.put δ b (.bl true);have g6:H6 a=some (.lst (n.map oV)):=by rw[p3,aA P];exact g5
     have gm6:Lw H6 m g' (km+k):=by rw[p3];exact C.upd W
     have kx6:Kx H H6 m:=λc o' hc U=>by rw[p3,aA (aD hc M)];exact L c o' hc U
     refine⟨p,H6,rfl,p1,?_⟩;ext;obtain⟨H7,p4,mk7,o7,p6⟩:=gm6.put δ b (.bl true);refine⟨m,H7,rfl,p4,?_⟩;have g7:H7 a=some (.lst (n.map oV)):=by rw[p6,aA F];exact g6
     have gf7:Lw H7 p (λx=>if x=b then some (.bl true)else f x) dC:=by rw[p6];exact mk.upd (Ne.symm W)
     have kx7:Kx H H7 m:=λc o' hc U=>by rw[p6,aA U];exact kx6 c o' hc U
     obtain⟨ff,fm,fx⟩:=od.kx N ndm kx7;obtain⟨fa,z1,z2⟩:=(fx b).2 fs O;have fl:=Zd3 (w:=wL lk) (v:=.bl true) hf X D;have fl1:=Zd3 (w:=λ_=>1) (v:=.bl true) hf X D;have efl:wL lk b=fs.length:=by show((lk b).getD []).length=_;rw[O];rfl
     have h5:=Z b D;exists _,rfl;exists d,_,rfl,fm.get z1;refine⟨a,fa,_,_,rfl,rfl,g7,z2,bF (by rw[aY,aY];omega),?_⟩;rw[<- List.map_append];refine⟨_,?_,B,_,n++fs,_,_,k+1,rfl,λc o' hc U=>by rw[aA (aD hc j)];exact kx7 c o' hc U,aq,gf7.upd P,by rw[<- Nat.add_assoc];exact mk7.upd F,λx=>?_,rfl,?_,δ,pf.put O⟩
     ·rw[List.length_append,List.length_append,List.length_singleton];omega
     ·show(if x=b then _ else g' x)≠none↔_\/(if x=b then _ else f x)≠none
      by_cases e:x=b
      ·rw[if_pos e,if_pos e];exact⟨λz=>.inr z,λz y=>nomatch y⟩
      ·rw[if_neg e,if_neg e];exact hg x
     ·rw[List.length_append];omega
end
def Ob(b H:Hp)(T:Tg)(a:AI)(t:Nat×Nat)(o:HO):Prop:=H a=some o/\b a=none/\T a=t
structure Mv(H H':Hp)(T T':Tg)(P:Nat×Nat->Prop):Prop where
 kp:∀b o,H b=some o->P (T b)->H' b=some o
 tg:∀b o,H b=some o->T' b=T b
section
variable {H0 H H':Hp}{T T':Tg}{P:Nat×Nat->Prop}{a ls D Tl:AI}{t:Nat×Nat}{ob:HO}{rs:HD}{lk:wV}
theorem Ob.mv(h:Ob H0 H T a t ob)(m:Mv H H' T T' P)(hp:P t):Ob H0 H' T' a t ob:=⟨m.kp _ _ h.1 (by rw[h.2.2];exact hp),h.2.1,(m.tg _ _ h.1).trans h.2.2⟩
theorem Mv.upd{o':HO}(h:Ob H0 H T a t ob):Mv H (upd H a o') T T (·≠t):=⟨λb o hb n=>(aA λz=>n (by rw[z];exact h.2.2)).trans hb,λ_ _ _=>rfl⟩
theorem Mv.new{o':HO}{t':Nat×Nat}(n:H a=none):Mv H (L2.upd H a o') T (cN T a t') eQ:=⟨λb o hb _=>(aA (aD hb n)).trans hb,λb o hb=>g8 (aD hb n)⟩
theorem Mv.same(s:bB H H'):Mv H H' T T eQ:=⟨λb o hb _=>s _ _ hb,λ_ _ _=>rfl⟩
theorem Mv.kx(h:Ob H0 H T a t ob)(k:Kx H H' a):Mv H H' T T (·≠t):=⟨λb o hb n=>k b o hb λz=>n (by rw[z];exact h.2.2),λ_ _ _=>rfl⟩
theorem Ob.sm{o':HO}(h:Ob H0 H T a t ob)(s:bB H0 H):bB H0 (upd H a o'):=λb o hb=>(aA (aD hb h.2.1)).trans (s _ _ hb)
def SlO(H0 H:Hp)(T:Tg)(ls:AI)(rs:HD):Prop:=∃a:AF,Ob H0 H T ls (1,0) (.lst (a.map V.ref))/\a.length=rs.length/\∀(j:Nat) r x,a[j]? =some r->rs[j]? =some x->Ob H0 H T r (2,j) (.lst (x.map oV))
theorem SlO.mv(h:SlO H0 H T ls rs)(m:Mv H H' T T' P)(hp:∀t:Nat×Nat,t.1=1\/t.1=2->P t):SlO H0 H' T' ls rs:=by
 obtain⟨b,h1,h2,a⟩:=h;exact⟨b,h1.mv m (hp _ (.inl rfl)),h2,λj r x d c=>(a j r x d c).mv m (hp _ (.inr rfl))⟩
theorem SlO.o(h:SlO H0 H T ls rs):RwO H ls rs:=by
 obtain⟨b,h1,h2,a⟩:=h;exact⟨b,h1.1,h2,λj r x d c=>(a j r x d c).1⟩
theorem SlO.at(h:SlO H0 H T ls rs){j:Nat}{x:Au}(hx:rs[j]? =some x):∃(a:AF) (r:AI),H ls=some (.lst (a.map V.ref))/\a[j]? =some r/\Ob H0 H T r (2,j) (.lst (x.map oV)):=by
 obtain⟨a,h1,h2,c⟩:=h;have b:j<a.length:=by rw[h2];exact(cG hx).1
 exact⟨a,_,h1.1,bD b,c j _ x (bD b) hx⟩
theorem SlO.set(h:SlO H0 H T ls rs){j s:Nat}{x:Au}{g:AF}{r:AI}{v:AA}(hl:H ls=some (.lst (g.map V.ref)))(hr:g[j]? =some r)(hx:rs[j]? =some x):SlO H0 (upd H r (.lst ((x.set s v).map oV))) T ls (setB rs j s v):=by
 obtain⟨b,h1,h2,k⟩:=h;have e:b=g:=by
  have:=h1.1;rw[hl]at this;have:=HO.lst.inj (Option.some.inj this);exact((List.map_inj_right λx y z=>V.ref.inj z).mp this).symm
 subst e;have a:=k j r x hr hx;have m:Mv H (upd H r (.lst ((x.set s v).map oV))) T T (·≠(2,j)):=Mv.upd a;have l:=(cG hx).1;unfold setB;refine⟨b,h1.mv m ζ,by rw[List.length_set];exact h2,λi n y d c=>?_⟩
 by_cases f:i=j
 ·subst f;rw[hr]at d;cases d;rw[List.getElem?_set_self l,hx]at c;cases c;exact⟨aq,a.2.1,a.2.2⟩
 ·rw[List.getElem?_set_ne (Ne.symm f)]at c;exact(k i n y d c).mv m (λz=>f (Prod.mk.inj z).2)
def LkB(H0 H:Hp)(T:Tg)(D:AI)(lk:wV)(k:Nat):Prop:=∃(c:List (L2.Key×V)) (f:Int->Option V),Ob H0 H T D (3,0) (.dK c)/\c.length<=k/\(∀b:Int,gR c (Sum.inl b)=f b)/\∀b,(lk b=none->f b=none)/\∀fs,lk b=some fs->0<=b/\∃a,f b=↑a/\Ob H0 H T a (4,b.toNat) (.lst (fs.map oV))
theorem LkB.mv{k:Nat}(h:LkB H0 H T D lk k)(m:Mv H H' T T' P)(hp:∀t:Nat×Nat,t.1=3\/t.1=4->P t):LkB H0 H' T' D lk k:=by
 obtain⟨c,f,h1,h2,g,h4⟩:=h;refine⟨c,f,h1.mv m (hp _ (.inl rfl)),h2,g,λb=>⟨(h4 b).1,λfs e=>?_⟩⟩;obtain⟨b0,a,z1,d⟩:=(h4 b).2 fs e;exact⟨b0,a,z1,d.mv m (hp _ (.inr rfl))⟩
theorem LkB.mono{k b:Nat}(h:LkB H0 H T D lk k)(hk:k<=b):LkB H0 H T D lk b:=by
 obtain⟨a,f,h1,h2,c⟩:=h;exact⟨a,f,h1,δ,c⟩
theorem LkB.o{k:Nat}(h:LkB H0 H T D lk k):LkO H D lk k:=by
 obtain⟨c,f,h1,h2,d,h4⟩:=h;refine⟨f,⟨c,h1.1,h2,d⟩,λb=>⟨(h4 b).1,λfs e=>?_⟩⟩;obtain⟨_,a,z1,g⟩:=(h4 b).2 fs e;exact⟨a,z1,g.1⟩
theorem LkO.ask{k:Nat}{b:Int}(h:LkO H D lk k):∃v,mz H D (.int b) v/\(v.isSome=(lk b).isSome)/\∀fs,lk b=some fs->∃a,v=↑a/\H a=some (.lst (fs.map oV)):=by
 obtain⟨f,m,h2⟩:=h;refine⟨f b,m.ask b,?_,λfs e=>(h2 b).2 fs e⟩;cases e:lk b with
 | none=>rw[(h2 b).1 e];rfl
 | some fs=>obtain⟨a,z,_⟩:=(h2 b).2 fs e;rw[z];rfl
theorem LkB.new{k:Nat}{b:Int}{fs:Au}{p:AI}(h:LkB H0 H T D lk k)(hk:k<=100000)(b0:0<=b)(hp:Ob H0 H T p (4,b.toNat) (.lst (fs.map oV))):∃H',rZ H D (.int b) (.ref p) H'/\(∃o,H'=upd H D o)/\LkB H0 H' T D (lkU lk b fs) dC:=by
 obtain⟨c,f,h1,h2,q,h4⟩:=h;obtain⟨H',t,⟨s,n,r,l⟩,o,g⟩:=Lw.put (H:=H) (d:=D) (f:=f) ⟨c,h1.1,h2,q⟩ hk b (.ref p);have m:Mv H H' T T (·≠(3,0)):=by rw[g];exact Mv.upd h1
 refine⟨H',t,⟨o,g⟩,s,_,⟨n,h1.2.1,h1.2.2⟩,r,l,λx=>?_⟩;unfold lkU
 by_cases e:x=b
 ·subst e;rw[if_pos rfl];refine⟨λz=>fq,λi z=>?_⟩;cases z;exact⟨b0,p,if_pos rfl,hp.mv m ζ⟩
 ·rw[if_neg e,if_neg e];refine⟨(h4 x).1,λi z=>?_⟩;obtain⟨u,a,z1,j⟩:=(h4 x).2 i z;exact⟨u,a,z1,j.mv m ζ⟩
theorem LkB.at{k:Nat}{b:Int}{fs:Au}(h:LkB H0 H T D lk k)(hb:lk b=some fs):∃a,mz H D (.int b) (↑a)/\Ob H0 H T a (4,b.toNat) (.lst (fs.map oV))/\∀i:Au,LkB H0 (upd H a (.lst (i.map oV))) T D (lkU lk b i) k:=by
 obtain⟨c,f,h1,h2,j,h4⟩:=h;obtain⟨b0,a,z1,g⟩:=(h4 b).2 fs hb;refine⟨a,Lw.get (H:=H) (d:=D) (f:=f) ⟨c,h1.1,h2,j⟩ z1,g,λi=>?_⟩;have m:Mv H (upd H a (.lst (i.map oV))) T T (·≠(4,b.toNat)):=Mv.upd g;refine⟨c,f,h1.mv m ζ,h2,j,λx=>?_⟩;unfold lkU
 by_cases e:x=b
 ·subst e;rw[if_pos rfl];refine⟨λz=>fq,λhs z=>?_⟩;cases z;exact⟨b0,a,z1,aq,g.2.1,g.2.2⟩
 ·rw[if_neg e];refine⟨(h4 x).1,λhs z=>?_⟩;obtain⟨p,l,o,n⟩:=(h4 x).2 hs z;exact⟨p,l,o,n.mv m (λy=>e (by have:=(Prod.mk.inj y).2;omega))⟩
def wW(q:Bool)(H0 H:Hp)(T:Tg)(a:AI)(t:Nat)(p:Int->Prop)(k:Nat):Prop:=∃(c:List (L2.Key×V)) (f:Int->Option V),Ob H0 H T a (t,0) (.dK c)/\c.length<=k/\(∀b:Int,gR c (Sum.inl b)=f b)/\(∀b,f b≠none↔p b)/\(q=true->∀kv∈c,∃b,kv.1=Sum.inl b)
theorem wW.mv{q:Bool}{n k:Nat}{p:Int->Prop}(h:wW q H0 H T a n p k)(m:Mv H H' T T' P)(hp:P (n,0)):wW q H0 H' T' a n p k:=by
 obtain⟨b,f,h1,h2⟩:=h;exact⟨b,f,h1.mv m hp,h2⟩
theorem wW.mono{q:Bool}{n k c:Nat}{p:Int->Prop}(h:wW q H0 H T a n p k)(hk:k<=c):wW q H0 H T a n p c:=by
 obtain⟨b,f,h1,h2,d⟩:=h;exact⟨b,f,h1,δ,d⟩
theorem wW.iff{q:Bool}{n k:Nat}{p d:Int->Prop}(h:wW q H0 H T a n p k)(e:∀b,p b↔d b):wW q H0 H T a n d k:=by
 obtain⟨c,f,h1,h2,g,h4,h5⟩:=h;exact⟨c,f,h1,h2,g,λb=>(h4 b).trans (e b),h5⟩
theorem wW.ask{q:Bool}{n k:Nat}{p:Int->Prop}(h:wW q H0 H T a n p k)(b:Int):∃v,mz H a (.int b) v/\(v≠none↔p b):=by
 obtain⟨c,f,h1,h2,e,h4,_⟩:=h;exact⟨f b,Lw.ask (H:=H) (d:=a) (f:=f) ⟨c,h1.1,h2,e⟩ b,h4 b⟩
theorem Zjk{a:List (L2.Key×V)}{x:L2.Key}{v:V}{kv:L2.Key×V}(h:kv∈putK a x v):kv.1=x\/∃y∈a,y.1=kv.1:=by
 unfold putK at h;split at h
 ·obtain⟨y,hy,e⟩:=List.mem_map.mp h;refine .inr ⟨y,hy,?_⟩;rw[<- e];split<;>rfl
 ·rcases List.mem_append.mp h with h | h
  ·exact .inr ⟨kv,h,rfl⟩
  ·exact .inl (by rw[List.mem_singleton.mp h])
theorem wW.put{q:Bool}{n k:Nat}{p:Int->Prop}(h:wW q H0 H T a n p k)(hk:k<=100000)(b:Int):∃H',rZ H a (.int b) (.bl true) H'/\(∃o,H'=upd H a o)/\wW q H0 H' T a n (λx=>p x\/x=b) dC:=by
 obtain⟨d,f,h1,h2,g,h4,h5⟩:=h;refine⟨_,rZ.k (k:=Sum.inl b) (v:=.bl true) h1.1 (Nat.lt_of_le_of_lt h2 (Nat.lt_of_le_of_lt hk ε)),⟨_,rfl⟩,putK d (Sum.inl b) (.bl true),λx=>if x=b then some (.bl true)else f x,⟨aq,h1.2⟩,?_,λx=>?_,λx=>?_,λe i hv=>?_⟩
 ·have:=nU d (Sum.inl b) (V.bl true);omega
 ·rw[Zi,g x];dsimp only
  by_cases e:x=b
  ·rw[if_pos e,if_pos (by rw[e])]
  ·rw[if_neg e,if_neg (λz=>e (Sum.inl.inj z))]
 ·show(if x=b then some (V.bl true)else f x)≠none↔_
  by_cases e:x=b
  ·rw[if_pos e];exact⟨λ_=>.inr e,λ_ z=>nomatch z⟩
  ·rw[if_neg e];exact(h4 x).trans ⟨.inl,λz=>z.resolve_right e⟩
 ·rcases Zjk hv with z | ⟨y,hy,z⟩
  ·exact⟨b,z⟩
  ·obtain⟨c,hc⟩:=h5 e y hy;exact⟨c,z.symm.trans hc⟩
theorem wW.pop{q:Bool}{n k:Nat}{p:Int->Prop}(h:wW q H0 H T a n p k){b:Int}(hb:p b):∃c v,H a=some (.dK c)/\gR c (Sum.inl b)=some v/\Ob H0 H T a (n,0) (.dK c)/\wW q H0 (upd H a (.dK (uB c (Sum.inl b)))) T a n (λx=>p x/\x≠b) k:=by
 obtain⟨c,f,h1,h2,d,h4,h5⟩:=h;obtain⟨v,ev⟩:=Option.ne_none_iff_exists'.mp ((h4 b).mpr hb);refine⟨c,v,h1.1,(d b).trans ev,h1,_,λx=>if x=b then none else f x,⟨aq,h1.2⟩,Nat.le_trans (Zb2 _ _) h2,λx=>?_,λx=>?_,λe g hv=>h5 e g (List.mem_filter.mp hv).1⟩
 ·show gR (c.filter _) _=(if x=b then none else f x)
  by_cases e:x=b
  ·rw[if_pos e,e];unfold gR;rw[List.find?_filter,Option.map_eq_none_iff,List.find?_eq_none];intro y _ z;simp at z
  ·rw[if_neg e,<- d x];unfold gR;rw[List.find?_filter];congr 2
   funext y
   by_cases z:y.1=Sum.inl x
   ·rw[decide_eq_true z];simp[z,e]
   ·rw[decide_eq_false z];simp
 ·show(if x=b then none else f x)≠none↔_
  by_cases e:x=b
  ·rw[if_pos e];exact⟨λz=>absurd rfl z,λz=>absurd e z.2⟩
  ·rw[if_neg e];exact(h4 x).trans ⟨λz=>⟨z,e⟩,λz=>z.1⟩
theorem wW.emp{n k:Nat}{p:Int->Prop}(h:wW true H0 H T a n p k)(hp:∀b,¬ p b):H a=some (.dK []):=by
 obtain⟨c,f,h1,h2,d,h4,h5⟩:=h;cases c with
 | nil=>exact h1.1
 | cons e c=>
  obtain⟨b,g⟩:=h5 rfl e (List.mem_cons_self ..);refine absurd ((h4 b).mp ?_) (hp b);rw[<- d b,iH g];exact λz=>nomatch z
theorem wW.nil{q:Bool}{n k:Nat}{p:Int->Prop}(h:Ob H0 H T a (n,0) (.dK []))(hp:∀b,¬ p b):wW q H0 H T a n p k:=⟨[],λ_=>none,h,Nat.zero_le _,λ_=>rfl,λb=>⟨λz=>absurd rfl z,λz=>absurd z (hp b)⟩,λ_ _ z=>nomatch z⟩
def Am(c b:AI)(mv:V)(a:AI):List (L2.Key×V):=[(.inr "there",.ref c),(.inr "early",.ref b),(.inr "met",mv),(.inr "doomed",.ref a)]
def TaO(H0 H:Hp)(T:Tg)(Tl:AI)(th h f:Int->Prop)(e:Option df)(k:Nat):Prop:=∃b d mv a,Ob H0 H T Tl (5,0) (.dK (Am b d mv a))/\wW true H0 H T b 6 th k/\wW true H0 H T a 9 f k/\((e=none/\mv=.non)\/∃g c,e=some g/\mv=.ref c/\wW false H0 H T c 8 g k/\wW true H0 H T d 7 h k)
theorem TaO.mv{k:Nat}{th c a:Int->Prop}{b:Option df}(h:TaO H0 H T Tl th c a b k)(m:Mv H H' T T' P)(hp:∀t:Nat×Nat,5<=t.1->P t):TaO H0 H' T' Tl th c a b k:=by
 obtain⟨l,i,mv,f,h1,h2,j,h4⟩:=h;refine⟨l,i,mv,f,h1.mv m (hp _ ε),h2.mv m (hp _ ε),j.mv m (hp _ ε),?_⟩;rcases h4 with h4 | ⟨g,n,e,o,e3,d⟩
 ·exact .inl h4
 ·exact .inr ⟨g,n,e,o,e3.mv m (hp _ ε),d.mv m (hp _ ε)⟩
theorem TaO.mono{k b:Nat}{th d a:Int->Prop}{c:Option df}(h:TaO H0 H T Tl th d a c k)(hk:k<=b):TaO H0 H T Tl th d a c b:=by
 obtain⟨m,j,mv,i,h1,h2,l,h4⟩:=h;refine⟨m,j,mv,i,h1,h2.mono hk,l.mono hk,?_⟩;rcases h4 with h4 | ⟨g,n,f,o,e3,e⟩
 ·exact .inl h4
 ·exact .inr ⟨g,n,f,o,e3.mono hk,e.mono hk⟩
structure Bo(H0 H:Hp)(T:Tg)(ls D Tl:AI)(rs:HD)(lk:wV)(th ea dm:Int->Prop)(me:Option df)(k:Nat):Prop where
 sm:bB H0 H
 sl:SlO H0 H T ls rs
 dl:LkB H0 H T D lk k
 ta:TaO H0 H T Tl th ea dm me k
theorem Bo.mv{k:Nat}{th b a:Int->Prop}{c:Option df}(h:Bo H0 H T ls D Tl rs lk th b a c k)(s:bB H H'):Bo H0 H' T ls D Tl rs lk th b a c k:=⟨h.sm.trans s,h.sl.mv (Mv.same s) λ_ _=>trivial,h.dl.mv (Mv.same s) λ_ _=>trivial,h.ta.mv (Mv.same s) λ_ _=>trivial⟩
theorem Bo.mono{k c:Nat}{th b a:Int->Prop}{d:Option df}(h:Bo H0 H T ls D Tl rs lk th b a d k)(hk:k<=c):Bo H0 H T ls D Tl rs lk th b a d c:=⟨h.sm,h.sl,h.dl.mono hk,h.ta.mono hk⟩
theorem pF{b c d:AI}{mv:V}(od:H a=some (.dK (Am b c mv d))):mz H a (.str "there") (↑b)/\mz H a (.str "early") (↑c)/\mz H a (.str "met") (some mv)/\mz H a (.str "doomed") (↑d):=
 ⟨mz.k (k:=Sum.inr "there") od,mz.k (k:=Sum.inr "early") od,mz.k (k:=Sum.inr "met") od,mz.k (k:=Sum.inr "doomed") od⟩
end
def Gb:Sp:=λvs H Q E=>∃i,vs=[.int i]/\Q (.bl true) H
def kO(K:aC):Sp:=λvs H Q E=>∃x d,vs=[oV x,.ref d]/\∃lk k,LkO H d lk k/\(∀b,x=some b->lk b≠none)/\∀a H',bB H H'->H' a=some (.lst ((Yq lk x).map oV))->Q (.ref a) H'
inductive QH(a:AI)(H:Hp)(Q:VK):Prop
 | mk (z:Str) (v:V) (l:AI) (xs:List V) (_:H a=some (.tup [.str z,v,.ref l])) (_:H l=some (.lst xs)) (_:Q (.bl true) H):QH a H Q
def Zbp:Sp:=λvs H Q E=>∃a,vs=[.ref a]/\QH a H Q
section
theorem SQ{i:Int}(q:Q (.bl true) H):rG ξ [some (.int i)] H:=by
 unfold rG;apply q
theorem S7{x:AA}{d:AI}(q:∃lk k,LkO H d lk k/\(∀b,x=some b->lk b≠none)/\∀a H',bB H H'->H' a=some (.lst ((Yq lk x).map oV))->Q (.ref a) H'):zN ξ [some (oV x),↑d] H:=by
 obtain⟨lk,k,o,hx,q⟩:=q;unfold zN;cases x with
 | none=>
  rw[show oV none=V.non from rfl];apply⟨bF ζ,λp c=>q p _ (aL c _) aq⟩
 | some b=>
  rw[show oV (some b)=V.int b from rfl];ext;obtain⟨v,g,_,h2⟩:=o.ask (b:=b);cases e:lk b with
  | none=>exact absurd e (hx b rfl)
  | some fs=>
   obtain⟨a,rfl,f⟩:=h2 fs e;refine⟨d,_,rfl,g,?_⟩;refine q a H (λ_ _ h=>h) ?_;rw[show Yq lk (some b)=fs by show(lk b).getD []=_;rw[e];rfl];exact f
theorem S9{a:AI}(q:QH a H Q):rH K ξ [↑a] H:=by
 obtain⟨z,v,l,c,b,ol,q⟩:=q;unfold rH;apply Yi b ?_;exists a,_,rfl,.inr (cP.of b);apply Zdf (λz=>absurd rfl z) Δ;exists a,_,0,_,rfl,rfl,cP.of b,rfl;exists a,_,2,_,rfl,rfl,cP.of b,rfl;apply ye ol ?_;exact q
end
def Wg:ie->Str
 | .make _ _ _ _=>"make"
 | .get _ _ _ _=>"get"
 | .put _ _ _ _=>"put"
 | .copy _ _ _=>"copy"
 | .drop _ _=>"drop"
 | .give _ _ _ _=>"give"
 | .write _ _ _=>"write"
 | .read _ _=>"read"
 | .name _ _ _=>"name"
 | .seek _ _ _=>"seek"
theorem wd0(d:ie):YG (dV d) 0=some (.str (Wg d)):=by cases d<;>rfl
theorem Zte(d:ie):Wg d≠("sweep":Str):=by
 obtain⟨z,h,n⟩:∃z:Str,YG (dV d) 0=some (.str z)/\z≠("sweep":Str):=by cases d<;>exact⟨_,rfl,ε⟩
 rw[wd0 d]at h;rw[V.str.inj (Option.some.inj h)];exact n
def okI(rs:HD)(h s:Nat):Prop:=∃x,rs[h]? =some x/\s<x.length
def thD(th:Int->Prop)(z:Rz):ie->Int->Prop
 | .make _ _ _ _=>λb=>th b\/(z.1=("made":Str)/\vO z.2.1=some b)
 | _=>th
def CdB(rs:HD)(lk:wV)(z:Rz):ie->Prop
 | .make h s a _=>okI rs h s/\0<=a/\a<=1000/\(z.1=("made":Str)->∃b,z.2.1=.int b/\0<=b/\lk b=none)
 | .get h s t _=>okI rs h s/\okI rs h t
 | .put h t _ s=>okI rs h t/\okI rs h s
 | .copy h s t=>okI rs h s/\okI rs h t
 | .drop h s=>okI rs h s
 | .give h s g t=>okI rs h s/\okI rs g t
 | .write h t _=>okI rs h t
 | .read h t=>okI rs h t
 | .name h t _=>okI rs h t
 | .seek h s _=>okI rs h s/\(z.1=("sought":Str)->∃x,z.2.1=oV x/\∀b,x=some b->lk b≠none)
structure RcB(rs:HD)(lk:wV)(bs:AE):Prop where
 l40:rs.length<=40
 Za6:∀r∈rs,r.length<=100
 nd:bs.Nodup
 lb:bs.length<=100
 w20:∀b∈bs,wL lk b<=20
 hr:∀b,Rl rs lk b->b∈bs/\∃fs,lk b=some fs
def meU(rs:HD)(lk:wV)(a:Option df):Option df:=a.map λg b=>g b\/Rl rs lk b
section
variable {K:aC}{H0 H:Hp}{T:Tg}{Q:VK}{E:XK}{n:ν}{bk ct:ν}{rs:HD}{lk:wV}{th ea dm:Int->Prop}{me:Option df}{k:Nat}{d:ie}{z:Rz}{row ev ls D Tl l:AI}{v5 v6 v7:Option V}
theorem ZD{g:Int->Prop}{d:AI}{c:Nat}{bs:AE}(sm:bB H0 H)(sl:SlO H0 H T ls rs)(dl:LkB H0 H T D lk k)(hk:k<=10000)(s:wW false H0 H T d 8 g c)(hm:c<=10000)(rc:RcB rs lk bs)
  (q:∀H',Mv H H' T T (·≠(8,0))->bB H0 H'->wW false H0 H' T d 8 (λb=>g b\/Rl rs lk b) (c+100)->Q .non H'):ReQ ls D d H Q:=by
 obtain⟨h,f,a,n,i,m,_⟩:=s;have e:D≠d:=λy=>by
  obtain⟨_,_,h1,_⟩:=dl;rw[y]at h1;have:=h1.2.2.symm.trans a.2.2;cases this
 refine⟨rs,lk,bs,f,c,sl.o,rc.l40,rc.Za6,(dl.mono hk).o,⟨h,a.1,n,i⟩,δ,e,rc.nd,by have:=rc.lb;omega,rc.w20,rc.hr,λH' j kx mk hg=>?_⟩;have lb:=rc.lb;obtain⟨p,l,t,r⟩:=mk;exact q H' (Mv.kx a kx) (λb o hb=>kx b o (sm _ _ hb) (aD hb a.2.1)) ⟨p,j,⟨l,a.2.1,a.2.2⟩,δ,r,λb=>(hg b).trans (or_congr (m b) Iff.rfl),λz=>nomatch z⟩
theorem mq{bs:AE}(o:Bo H0 H T ls D Tl rs lk th ea dm me k)(hk:k<=10000)(rc:RcB rs lk bs)(q:∀H',Bo H0 H' T ls D Tl rs lk th ea dm (meU rs lk me) (k+100)->Q (.bl true) H'):
  je (dZ K) ξ [↑row,↑ev,↑ls,↑D,↑Tl,v5,v6,v7] H:=by
 obtain⟨i,f,mv,d,t1,t2,t3,l⟩:=id o.ta;obtain⟨_,_,c,_⟩:=pF t1.1;unfold je;exists Tl,_,rfl,c;rcases l with ⟨rfl,rfl⟩ | ⟨g,j,rfl,rfl,r,p⟩
 ·apply q H (o.mono δ)
 ·exists Tl,_,rfl,c;apply⟨_,_,_,rfl,ZD o.sm o.sl o.dl hk r hk rc λH' m a b=>?_⟩;apply q H' ⟨a,o.sl.mv m (λt h e=>by rw[e]at h;rcases h with h | h<;>cases h),(o.dl.mv m (λt h e=>by rw[e]at h;rcases h with h | h<;>cases h)).mono δ,i,f,_,d,t1.mv m ζ,(t2.mv m ζ).mono δ,(t3.mv m ζ).mono δ,.inr ⟨_,j,rfl,rfl,b,(p.mv m ζ).mono δ⟩⟩
end
section
variable {K:aC}{H0 H:Hp}{T:Tg}{Q:VK}{E:XK}{n:ν}{bk ct:ν}{rs:HD}{lk:wV}{th ea dm:Int->Prop}{me:Option df}{k:Nat}{d:ie}{z:Rz}{row ev ls D Tl l r:AI}{v5 v6 v7:Option V}
theorem sk7(or:H row=some (.tup (dV d))){w:Str}(a:Wg d=w)(ne:w≠("give":Str))(h:je (dZ K) ξ [↑row,↑ev,↑ls,↑D,↑Tl,v5,v6,v7] H):gF K (dZ K) ξ [↑row,↑ev,↑ls,↑D,↑Tl,v5,v6,v7] H:=by
 unfold gF;exists row,_,0,_,rfl,rfl,cP.of or,wd0 d;apply j9 (λy=>absurd (a.symm.trans y) ne) Δ;apply h
theorem sk6(or:H row=some (.tup (dV d))){w:Str}(a:Wg d=w)(ne:w≠("drop":Str))(h:gF K (dZ K) ξ [↑row,↑ev,↑ls,↑D,↑Tl,v5,v6,v7] H):gG K (dZ K) ξ [↑row,↑ev,↑ls,↑D,↑Tl,v5,v6,v7] H:=by
 unfold gG;exists row,_,0,_,rfl,rfl,cP.of or,wd0 d;apply j9 (λy=>absurd (a.symm.trans y) ne) Δ;apply h
theorem sk5(or:H row=some (.tup (dV d))){w:Str}(a:Wg d=w)(ne:w≠("copy":Str))(h:gG K (dZ K) ξ [↑row,↑ev,↑ls,↑D,↑Tl,v5,v6,v7] H):gH K (dZ K) ξ [↑row,↑ev,↑ls,↑D,↑Tl,v5,v6,v7] H:=by
 unfold gH;exists row,_,0,_,rfl,rfl,cP.of or,wd0 d;apply j9 (λy=>absurd (a.symm.trans y) ne) Δ;apply h
theorem sk4(or:H row=some (.tup (dV d))){w:Str}(a:Wg d=w)(ne:w≠("put":Str))(h:gH K (dZ K) ξ [↑row,↑ev,↑ls,↑D,↑Tl,v5,v6,v7] H):gJ K (kO K) (dZ K) ξ [↑row,↑ev,↑ls,↑D,↑Tl,v5,v6,v7] H:=by
 unfold gJ;exists row,_,0,_,rfl,rfl,cP.of or,wd0 d;apply j9 (λy=>absurd (a.symm.trans y) ne) Δ;apply h
theorem sk3(or:H row=some (.tup (dV d))){w:Str}(a:Wg d=w)(ne:w≠("get":Str))(h:gJ K (kO K) (dZ K) ξ [↑row,↑ev,↑ls,↑D,↑Tl,v5,v6,v7] H):eY K (kO K) (dZ K) ξ [↑row,↑ev,↑ls,↑D,↑Tl,v5,v6,v7] H:=by
 unfold eY;exists row,_,0,_,rfl,rfl,cP.of or,wd0 d;apply j9 (λy=>absurd (a.symm.trans y) ne) Δ;apply h
theorem sk2(or:H row=some (.tup (dV d)))(a:H ev=some (.tup [.str z.1,z.2.1,.ref l])){w:Str}(b:Wg d=w)(ne:z.1=("sought":Str)->w≠("seek":Str))(h:eY K (kO K) (dZ K) ξ [↑row,↑ev,↑ls,↑D,↑Tl,v5,v6,v7] H):gK K (kO K) (dZ K) ξ [↑row,↑ev,↑ls,↑D,↑Tl,v5,v6,v7] H:=by
 unfold gK;exists ev,_,0,_,rfl,rfl,cP.of a,rfl;apply j9 (λy=>?_) Δ
 ·exists row,_,0,_,rfl,rfl,cP.of or,wd0 d;apply j9 (λc=>absurd (b.symm.trans c) (ne y)) Δ;apply h
 ·apply h
theorem sk1(or:H row=some (.tup (dV d)))(a:H ev=some (.tup [.str z.1,z.2.1,.ref l])){w:Str}(b:Wg d=w)(ne:z.1=("made":Str)->w≠("make":Str))(h:gK K (kO K) (dZ K) ξ [↑row,↑ev,↑ls,↑D,↑Tl,v5,v6,v7] H):jf K (kO K) (dZ K) Gb ξ [↑row,↑ev,↑ls,↑D,↑Tl,v5,v6,v7] H:=by
 unfold jf;exists ev,_,0,_,rfl,rfl,cP.of a,rfl;apply j9 (λy=>?_) Δ
 ·exists row,_,0,_,rfl,rfl,cP.of or,wd0 d;apply j9 (λc=>absurd (b.symm.trans c) (ne y)) Δ;apply h
 ·apply h
end
theorem Zf0(m:Nat):(List.replicate m [V.non]).flatten=(List.replicate m (none:AA)).map oV:=by
 induction m with
 | zero=>rfl
 | succ m a=>rw[List.replicate_succ,List.flatten_cons,a];rfl
def hdD:ie->Nat
 | .make h _ _ _=>h
 | .get h _ _ _=>h
 | .put h _ _ _=>h
 | .copy h _ _=>h
 | .drop h _=>h
 | .give h _ _ _=>h
 | .write h _ _=>h
 | .read h _=>h
 | .name h _ _=>h
 | .seek h _ _=>h
theorem wd1(d:ie):YG (dV d) 1=some (.int (hdD d)):=by cases d<;>rfl
theorem CdB.hd{rs:HD}{lk:wV}{z:Rz}{d:ie}(h:CdB rs lk z d):∃x,rs[hdD d]? =some x:=by
 cases d<;>first | (obtain⟨⟨x,hx,_⟩,_⟩:=h;exact⟨x,hx⟩) | (obtain⟨x,hx,_⟩:=h;exact⟨x,hx⟩)
inductive DeQ(row ev ls D Tl:AI)(H:Hp)(Q:VK):Prop
 | mk (H0 T rs lk th ea dm me k d z bs l) (_:Bo H0 H T ls D Tl rs lk th ea dm me k) (_:k<=9000) (_:H0 row=some (.tup (dV d))) (_:H0 ev=some (.tup [.str z.1,z.2.1,.ref l])) (_:CdB rs lk z d) (_:(∀r∈rs,∀b,some b∈r->lk b≠none)) (_:RcB (zf rs lk z d).1 (zf rs lk z d).2 bs) (_:∀H' T',Bo H0 H' T' ls D Tl (zf rs lk z d).1 (zf rs lk z d).2 (thD th z d) ea dm (meU (zf rs lk z d).1 (zf rs lk z d).2 me) (k+102)->Q (.bl true) H'):DeQ row ev ls D Tl H Q
def Zbq(K:aC):Sp:=λvs H Q E=>∃a ev b D c,vs=[.ref a,.ref ev,.ref b,.ref D,.ref c]/\DeQ a ev b D c H Q
section
variable {K:aC}{H0 H:Hp}{T:Tg}{Q:VK}{E:XK}{n:ν}{bk ct:ν}{rs:HD}{lk:wV}{th ea dm:Int->Prop}{me:Option df}{k:Nat}{d:ie}{z:Rz}{row ev ls D Tl l r:AI}{v5 v6 v7:Option V}
theorem Bo.slot{h s:Nat}{x:Au}{a:AF}{v:AA}(o:Bo H0 H T ls D Tl rs lk th ea dm me k)(hl:H ls=some (.lst (a.map V.ref)))(hr:a[h]? =some r)(hx:rs[h]? =some x)(b:Ob H0 H T r (2,h) (.lst (x.map oV))):Bo H0 (upd H r (.lst ((x.map oV).set s (oV v)))) T ls D Tl (setB rs h s v) lk th ea dm me k:=by
 have m:Mv H (upd H r (.lst ((x.map oV).set s (oV v)))) T T (·≠(2,h)):=Mv.upd b;refine⟨b.sm o.sm,?_,o.dl.mv m λt y e=>?_,o.ta.mv m λt y e=>?_⟩
 ·have:=o.sl.set (s:=s) (v:=v) hl hr hx;rw[List.map_set]at this;exact this
 ·rw[e]at y;rcases y with y | y<;>cases y
 ·rw[e]at y;exact absurd (show 5<=2 from y) ε
theorem Qa{h s:Nat}{x:Au}(hx:rs[h]? =some x)(hs:s<x.length):YG (x.map oV) (s:Int)=some (oV (inB rs h s)):=by
 refine fG ?_;rw[cg,bD hs];unfold inB;rw[hx];show some (oV _)=some (oV (x[s]?).join);rw[bD hs];rfl
theorem Ye{h s:Nat}{b:Int}(e:inB rs h s=some b):∃x∈rs,some b∈x:=by
 unfold inB at e;cases hx:rs[h]? with
 | none=>rw[hx]at e;cases e
 | some x=>
  rw[hx]at e;have e:(x[s]?).join=some b:=e;cases hs:x[s]? with
  | none=>rw[hs]at e;cases e
  | some y=>
   rw[hs]at e;have e:y=some b:=e;subst e;exact⟨x,List.mem_of_getElem? hx,List.mem_of_getElem? hs⟩
theorem Tc(q:DeQ row ev ls D Tl H Q):zP K (kO K) (dZ K) Gb ξ [↑row,↑ev,↑ls,↑D,↑Tl,none,none,none] H:=by
 obtain⟨H0,T,rs,lk,th,ea,dm,me,k,d,z,bs,l,o,hk,m,U,cd,sk,rc,q⟩:=q;obtain⟨x,hx⟩:=cd.hd;obtain⟨rl,r,hl,hr,J⟩:=o.sl.at hx;have or:=o.sm _ _ m;have u:=o.sm _ _ U;unfold zP;exists row,_,1,_,rfl,rfl,cP.of or,wd1 d;refine fB (v:=.ref r) (cC.of hl) (fG (by rw[cg,hr];rfl)) ?_;ext;have S:∀{s:Nat}{v:AA}{Hx:Hp} (P:Hp->Prop),Hx r=some (.lst (x.map oV))->s<x.length->P (upd Hx r (.lst ((x.map oV).set s (oV v))))->lW (.ref r) (.int s) (oV v) Hx P:=λP h1 h2 h3=>⟨r,_,_,_,rfl,rfl,h1,lz (by rw[aY];exact h2),h3⟩;cases d with
 | write h t w=>
  have c:Wg (.write h t w)="write":=rfl;exact sk1 or u c fv (sk2 or u c fv a9)
 | read h t=>
  have c:Wg (.read h t)="read":=rfl;exact sk1 or u c fv (sk2 or u c fv a9)
 | name h t w=>
  have c:Wg (.name h t w)="name":=rfl;exact sk1 or u c fv (sk2 or u c fv a9)
 | drop h s=>
  have c:Wg (.drop h s)="drop":=rfl;have hx:rs[h]? =some x:=hx;refine sk1 or u c fv (sk2 or u c fv (sk3 or c ε (sk4 or c ε (sk5 or c ε ?_))));obtain⟨x',j,hs⟩:=id cd;rw[hx]at j;cases j;unfold gG;exists row,_,0,_,rfl,rfl,cP.of or,rfl;apply j9 Δ c6;exists row,_,2,_,rfl,rfl,cP.of or,rfl;refine S (v:=none) _ J.1 hs ?_;have o2:=o.slot (s:=s) (v:=none) hl hr hx J;generalize upd H r _=F at o2 ⊢;exact sk7 (o2.sm _ _ m) c ε dn
 | copy h s t=>
  have c:Wg (.copy h s t)="copy":=rfl;have hx:rs[h]? =some x:=hx;refine sk1 or u c fv (sk2 or u c fv (sk3 or c ε (sk4 or c ε ?_)));obtain⟨⟨x',j,hs⟩,x'',C,Y⟩:=id cd;rw[hx]at j C;cases j;cases C;unfold gH;exists row,_,0,_,rfl,rfl,cP.of or,rfl;apply j9 Δ c6;exists row,_,3,_,rfl,rfl,cP.of or,rfl;refine fB (cC.of J.1) (Qa hx Y) ?_;exists row,_,2,_,rfl,rfl,cP.of or,rfl;refine S _ J.1 hs ?_;have o2:=o.slot (s:=s) (v:=inB rs h t) hl hr hx J;generalize upd H r _=F at o2 ⊢;exact sk6 (o2.sm _ _ m) c ε (sk7 (o2.sm _ _ m) c ε dn)
 | give h s g t=>
  have c:Wg (.give h s g t)="give":=rfl;have hx:rs[h]? =some x:=hx;refine sk1 or u c fv (sk2 or u c fv (sk3 or c ε (sk4 or c ε (sk5 or c ε (sk6 or c ε ?_)))));obtain⟨⟨x',j,hs⟩,y,hy,Y⟩:=id cd;rw[hx]at j;cases j;obtain⟨rl',r',hl',hr',ho'⟩:=o.sl.at hy;unfold gF;exists row,_,0,_,rfl,rfl,cP.of or,rfl;apply j9 Δ c6;exists row,_,3,_,rfl,rfl,cP.of or,rfl;refine fB (v:=.ref r') (cC.of hl') (fG (by rw[cg,hr'];rfl)) ?_;exists row,_,2,_,rfl,rfl,cP.of or,rfl;refine fB (cC.of J.1) (Qa hx hs) ?_;exists row,_,4,_,rfl,rfl,cP.of or,rfl;refine⟨r',_,_,_,rfl,rfl,ho'.1,lz (by rw[aY];exact Y),?_⟩;have o2:=o.slot (s:=t) (v:=inB rs h s) hl' hr' hy ho';generalize upd H r' _=F at o2 ⊢;exact mq o2 δ rc λA B=>q A T (B.mono δ)
 | seek h s w=>
  have c:Wg (.seek h s w)="seek":=rfl;have hx:rs[h]? =some x:=hx;refine sk1 or u c fv ?_;obtain⟨⟨x',j,hs⟩,sz⟩:=id cd;rw[hx]at j;cases j
  by_cases O:z.1=("sought":Str)
  ·obtain⟨y,ey,hy⟩:=sz O;have fin:∀(P:Hp->Prop),(∀F,Bo H0 F T ls D Tl (setB rs h s y) lk th ea dm me k->P F)->lW (.ref r) (.int s) (oV y) H P:=λP hp=>S _ J.1 hs (hp _ (o.slot hl hr hx J));have L:zf rs lk z (.seek h s w)=(setB rs h s y,lk):=by
    show(if z.1=("sought":Str)then _ else _)=_;rw[if_pos O,ey];cases y<;>rfl
   rw[L]at rc q;have Z:∀F,Bo H0 F T ls D Tl (setB rs h s y) lk th ea dm me k->eY K (kO K) (dZ K) ξ [↑row,↑ev,↑ls,↑D,↑Tl,↑r,none,none] F:=λF o2=>by
    have E:=o2.sm _ _ m;exact sk3 E c ε (sk4 E c ε (sk5 E c ε (sk6 E c ε (sk7 E c ε dn))))
   rw[ey]at u;unfold gK;exists ev,_,0,_,rfl,rfl,cP.of u,rfl;apply j9 Δ (λy=>absurd O y);exists row,_,0,_,rfl,rfl,cP.of or,rfl;apply j9 Δ c6;exists ev,_,1,_,rfl,rfl,cP.of u,rfl;cases y with
   | none=>
    rw[show oV none=V.non from rfl]at u ⊢;exists ev,_,1,_,rfl,rfl,cP.of u,rfl;exists row,_,2,_,rfl,rfl,cP.of or,rfl;exact fin _ Z
   | some b=>
    rw[show oV (some b)=V.int b from rfl]at u ⊢;exists ev,_,1,_,rfl,rfl,cP.of u,rfl;ext;obtain⟨v,g1,g2,_⟩:=o.dl.o.ask (b:=b);refine⟨D,v,rfl,g1,?_⟩;have:(!v.isSome)=false:=by
     rw[g2];cases e:lk b with
     | none=>exact absurd e (hy b rfl)
     | some fs=>rfl
    rw[this];exists ev,_,1,_,rfl,rfl,cP.of u,rfl;exists row,_,2,_,rfl,rfl,cP.of or,rfl;exact fin _ Z
  ·have L:zf rs lk z (.seek h s w)=(rs,lk):=if_neg O;rw[L]at rc q;exact sk2 or u c (λy=>absurd y O) a9
 | make h s i bulk=>
  have hx:rs[h]? =some x:=hx;have c:Wg (.make h s i bulk)="make":=rfl;obtain⟨⟨x',j,hs⟩,m0,m1,sz⟩:=id cd;rw[hx]at j;cases j
  by_cases O:z.1=("made":Str)
  ·obtain⟨b,ey,b0,lb⟩:=sz O;have L:zf rs lk z (.make h s i bulk)=(setB rs h s (some b),lkU lk b (List.replicate i.toNat none)):=by
    show(if z.1=("made":Str)then _ else _)=_;rw[if_pos O,ey];rfl
   have et:∀x,thD th z (.make h s i bulk) x↔th x\/x=b:=λx=>by
    show th x\/(z.1=("made":Str)/\vO z.2.1=some x)↔_;rw[ey];exact or_congr Iff.rfl ⟨λy=>(Option.some.inj y.2).symm,λy=>⟨O,by rw[y];rfl⟩⟩
   rw[L]at rc q;rw[ey]at u U;unfold jf;exists ev,_,0,_,rfl,rfl,cP.of u,rfl;apply j9 Δ (λy=>absurd O y);exists row,_,0,_,rfl,rfl,cP.of or,rfl;apply j9 Δ c6;exists ev,_,1,_,rfl,rfl,cP.of u,rfl;exists _,rfl;exists ev,_,1,_,rfl,rfl,cP.of u,rfl;ext;obtain⟨v,g1,g2,_⟩:=o.dl.o.ask (b:=b);refine⟨D,v,rfl,g1,?_⟩;rw[g2,lb,show(none:Option Au).isSome=false from rfl];exists ev,_,1,_,rfl,rfl,cP.of u,rfl;exists row,_,2,_,rfl,rfl,cP.of or,rfl;refine S (v:=some b) _ J.1 hs ?_;have o2:=o.slot (s:=s) (v:=some b) hl hr hx J;generalize upd H r _=F at o2 ⊢;apply⟨ε,λp0 np0=>?_⟩;generalize zz:upd F p0 _=H3;obtain⟨s3,g3⟩:=nwO np0 zz;have M:=o2.mv s3;exists row,_,3,_,rfl,rfl,cP.of (M.sm _ _ m),rfl;refine⟨p0,i,_,rfl,rfl,g3,δ,δ,by show 1 * i.toNat<=sizeLine;exact bF δ,λp np=>?_⟩;rw[Zf0];have m4:Mv H3 (upd H3 p (.lst ec)) T (cN T p (4,b.toNat)) eQ:=Mv.new np;have s4:=aL np (.lst ec);have p4:Ob H0 (upd H3 p (.lst ec)) (cN T p (4,b.toNat)) p (4,b.toNat) (.lst ec):=⟨aq,M.sm.free np,cH⟩;generalize upd H3 p (.lst ec)=H4 at m4 p4 s4 ⊢;have sl4:=M.sl.mv m4 λ_ _=>trivial;have ta4:=M.ta.mv m4 λ_ _=>trivial;have W:=M.dl.mv m4 λ_ _=>trivial;have sm4:=M.sm.trans s4;generalize cN T p (4,b.toNat)=T4 at m4 p4 sl4 ta4 W;obtain⟨H5,d5,⟨ob,e5⟩,dl5⟩:=W.new δ b0 p4;exists ev,_,1,_,rfl,rfl,cP.of (sm4 _ _ U),rfl;refine⟨D,H5,rfl,d5,?_⟩;have m5:Mv H4 H5 T4 T4 (·≠(3,0)):=by
    obtain⟨kvs,f,h1,_⟩:=W;rw[e5];exact Mv.upd h1
   have sm5:bB H0 H5:=by
    obtain⟨kvs,f,h1,_⟩:=W;rw[e5];exact h1.sm sm4
   have sl5:=sl4.mv m5 λt y e=>by rw[e]at y;rcases y with y | y<;>cases y
   have ta5:=ta4.mv m5 λt y e=>by rw[e]at y;exact absurd (show 5<=3 from y) ε
   obtain⟨A1,A2,mv,A4,t1,t2,t3,t4⟩:=ta5;obtain⟨tg,_⟩:=pF t1.1;obtain⟨H6,d6,⟨N,e6⟩,t26⟩:=t2.put δ b;exists Tl,_,rfl,tg;exists ev,_,1,_,rfl,rfl,cP.of (sm5 _ _ U),rfl;refine⟨A1,H6,rfl,d6,?_⟩;have m6:Mv H5 H6 T4 T4 (·≠(6,0)):=by
    obtain⟨kvs,f,h1,_⟩:=t2;rw[e6];exact Mv.upd h1
   have WQ:bB H0 H6:=by
    obtain⟨kvs,f,h1,_⟩:=t2;rw[e6];exact h1.sm sm5
   have o6:Bo H0 H6 T4 ls D Tl (setB rs h s (some b)) (lkU lk b (List.replicate i.toNat none)) (thD th z (.make h s i bulk)) ea dm me dC:=by
    refine⟨WQ,sl5.mv m6 (λt y e=>by rw[e]at y;rcases y with y | y<;>cases y),dl5.mv m6 (λt y e=>by rw[e]at y;rcases y with y | y<;>cases y),A1,A2,mv,A4,t1.mv m6 ζ,t26.iff λx=>(et x).symm,(t3.mv m6 ζ).mono δ,?_⟩;rcases t4 with t4 | ⟨g,A3,z1,z2,z3,z4⟩
    ·exact .inl t4
    ·exact .inr ⟨g,A3,z1,z2,(z3.mv m6 ζ).mono δ,(z4.mv m6 ζ).mono δ⟩
   have R:=WQ _ _ m;exact sk2 R (z:=(z.1,.int b,z.2.2)) (WQ _ _ U) c fv (sk3 R c ε (sk4 R c ε (sk5 R c ε (sk6 R c ε (sk7 R c ε (mq o6 δ rc λA B=>q A T4 (B.mono δ)))))))
  ·have L:zf rs lk z (.make h s i bulk)=(rs,lk):=if_neg O;rw[L]at rc q;have o2:Bo H0 H T ls D Tl rs lk (thD th z (.make h s i bulk)) ea dm me k:=by
    obtain⟨sm,sl,dl,A1,A2,mv,A4,t1,t2,t3⟩:=o;exact⟨sm,sl,dl,A1,A2,mv,A4,t1,t2.iff λx=>⟨.inl,λy=>y.resolve_right λy=>O y.1⟩,t3⟩
   exact sk1 or u c (λy=>absurd y O) (sk2 or u c fv (sk3 or c ε (sk4 or c ε (sk5 or c ε (sk6 or c ε (sk7 or c ε dn))))))
 | get h s t f=>
  have hx:rs[h]? =some x:=hx;have c:Wg (.get h s t f)="get":=rfl;obtain⟨⟨x',j,hs⟩,x'',C,Y⟩:=id cd;rw[hx]at j C;cases j;cases C;refine sk1 or u c fv (sk2 or u c fv ?_);unfold eY;exists row,_,0,_,rfl,rfl,cP.of or,rfl;apply j9 Δ c6;exists row,_,4,_,rfl,rfl,cP.of or,rfl;exists row,_,3,_,rfl,rfl,cP.of or,rfl;refine fB (cC.of J.1) (Qa hx Y) ?_;apply⟨_,_,rfl,lk,k,o.dl.o,λb e=>let ⟨y,h1,h2⟩:=Ye e;sk y h1 b h2,λa F X ha=>?_⟩;apply eZ (cC.of ha) ?_;rw[aY];ext;have o2:=o.mv X;have E:=o2.sm _ _ m;refine j9 (λlt=>?_) (λge=>?_)
  ·have lt:f<(Yq lk (inB rs h t)).length:=δ
   have L:zf rs lk z (.get h s t f)=(setB rs h s ((Yq lk (inB rs h t))[f]?).join,lk):=if_pos lt;rw[L]at rc q;cases hb:inB rs h t with
   | none=>rw[hb]at lt;exact absurd lt (Nat.not_lt_zero _)
   | some b=>
    cases hf:lk b with
    | none=>obtain⟨y,h1,h2⟩:=Ye hb;exact absurd hf (sk y h1 b h2)
    | some fs=>
     have ef:Yq lk (some b)=fs:=by show(lk b).getD []=_;rw[hf];rfl
     rw[hb,ef]at lt rc q;obtain⟨a2,g2,N,_⟩:=o2.dl.at hf;exists row,_,3,_,rfl,rfl,cP.of E,rfl;refine fB (cC.of (X _ _ J.1)) (Qa hx Y) ?_;rw[hb];refine⟨D,_,rfl,g2,?_⟩;exists row,_,4,_,rfl,rfl,cP.of E,rfl;refine fB (v:=oV fs[f]) (cC.of N.1) (fG (by rw[cg,bD lt];rfl)) ?_;exists row,_,2,_,rfl,rfl,cP.of E,rfl;refine S _ (X _ _ J.1) hs ?_;have M:=o2.slot (s:=s) (v:=fs[f]) (X _ _ hl) hr hx (J.mv (Mv.same X) trivial);generalize upd F r _=H3 at M ⊢;rw[bD lt,show(some fs[f]).join=fs[f]from rfl]at rc q;have I:=M.sm _ _ m;exact sk4 I c ε (sk5 I c ε (sk6 I c ε (sk7 I c ε (mq M δ rc λA B=>q A T (B.mono δ)))))
  ·have L:zf rs lk z (.get h s t f)=(rs,lk):=if_neg δ;rw[L]at rc q;apply sk4 E c ε (sk5 E c ε (sk6 E c ε (sk7 E c ε dn)))
 | put h t f s=>
  have hx:rs[h]? =some x:=hx;have c:Wg (.put h t f s)="put":=rfl;obtain⟨⟨x',j,Y⟩,x'',C,hs⟩:=id cd;rw[hx]at j C;cases j;cases C;refine sk1 or u c fv (sk2 or u c fv (sk3 or c ε ?_));unfold gJ;exists row,_,0,_,rfl,rfl,cP.of or,rfl;apply j9 Δ c6;exists row,_,3,_,rfl,rfl,cP.of or,rfl;exists row,_,2,_,rfl,rfl,cP.of or,rfl;refine fB (cC.of J.1) (Qa hx Y) ?_;apply⟨_,_,rfl,lk,k,o.dl.o,λb e=>let ⟨y,h1,h2⟩:=Ye e;sk y h1 b h2,λa F X ha=>?_⟩;apply eZ (cC.of ha) ?_;rw[aY];ext;have o2:=o.mv X;have E:=o2.sm _ _ m;refine j9 (λlt=>?_) (λge=>?_)
  ·have lt:f<(Yq lk (inB rs h t)).length:=δ
   have L:zf rs lk z (.put h t f s)=(rs,lkU lk ((inB rs h t).getD 0) ((Yq lk (inB rs h t)).set f (inB rs h s))):=if_pos lt;rw[L]at rc q;cases hb:inB rs h t with
   | none=>rw[hb]at lt;exact absurd lt (Nat.not_lt_zero _)
   | some b=>
    cases hf:lk b with
    | none=>obtain⟨y,h1,h2⟩:=Ye hb;exact absurd hf (sk y h1 b h2)
    | some fs=>
     have ef:Yq lk (some b)=fs:=by show(lk b).getD []=_;rw[hf];rfl
     rw[hb,ef]at lt rc q;rw[show(some b).getD 0=b from rfl]at rc q;obtain⟨a2,g2,N,h3⟩:=o2.dl.at hf;exists row,_,2,_,rfl,rfl,cP.of E,rfl;refine fB (cC.of (X _ _ J.1)) (Qa hx Y) ?_;rw[hb];refine⟨D,_,rfl,g2,?_⟩;exists row,_,4,_,rfl,rfl,cP.of E,rfl;refine fB (cC.of (X _ _ J.1)) (Qa hx hs) ?_;exists row,_,3,_,rfl,rfl,cP.of E,rfl;refine⟨a2,_,_,_,rfl,rfl,N.1,lz (by rw[aY];exact lt),?_⟩;have m3:Mv F (upd F a2 (.lst ((fs.map oV).set f (oV (inB rs h s))))) T T (·≠(4,b.toNat)):=Mv.upd N;have M:Bo H0 (upd F a2 (.lst ((fs.map oV).set f (oV (inB rs h s))))) T ls D Tl rs (lkU lk b (fs.set f (inB rs h s))) th ea dm me k:=by
      refine⟨N.sm o2.sm,o2.sl.mv m3 λt y e=>?_,?_,o2.ta.mv m3 λt y e=>?_⟩
      ·rw[e]at y;rcases y with y | y<;>cases y
      ·have:=h3 (fs.set f (inB rs h s));rw[List.map_set]at this;exact this
      ·rw[e]at y;exact absurd (show 5<=4 from y) ε
     generalize upd F a2 _=H3 at M ⊢;have I:=M.sm _ _ m;exact sk5 I c ε (sk6 I c ε (sk7 I c ε (mq M δ rc λA B=>q A T (B.mono δ))))
  ·have L:zf rs lk z (.put h t f s)=(rs,lk):=if_neg δ;rw[L]at rc q;apply sk5 E c ε (sk6 E c ε (sk7 E c ε dn))
end
structure Co(H0 H:Hp)(T:Tg)(ls D Tl:AI)(rs:HD)(lk:wV)(th ea g:Int->Prop)(A1 A2 A3 A4:AI)(k:Nat):Prop where
 sm:bB H0 H
 sl:SlO H0 H T ls rs
 dl:LkB H0 H T D lk k
 t1:Ob H0 H T Tl (5,0) (.dK (Am A1 A2 (.ref A3) A4))
 t2:wW true H0 H T A1 6 th k
 t3:wW false H0 H T A3 8 g k
inductive CuQ(ev Tl:AI)(H:Hp)(Q:VK):Prop
 | mk (H0 T ls D rs lk th ea dm g k l) (ns:AE) (zw:Str) (_:Bo H0 H T ls D Tl rs lk th ea dm (some g) k) (_:k<=10000) (_:100<=k) (_:H0 ev=some (.tup [.str zw,.int (ns.length:Nat),.ref l])) (_:H0 l=some (.lst (ns.map V.int))) (_:ns.Nodup) (_:ns.length<=100) (_:(∀b∈ns,th b)) (_:(∀b,ea b->g b\/b∈ns)) (_:∀H' T',Bo H0 H' T' ls D Tl rs lk th ea (λb=>b∈ns) none k->Q (.bl true) H'):CuQ ev Tl H Q
def QS(K:aC):Sp:=λvs H Q E=>∃ev a,vs=[.ref ev,.ref a]/\CuQ ev a H Q
section
variable {K:aC}{H0 H H':Hp}{T T':Tg}{Q:VK}{E:XK}{n:ν}{bk ct:ν}{rs:HD}{lk:wV}{th ea dm g:Int->Prop}{me:Option df}{k:Nat}{row ev ls D Tl l r A1 A2 A3 A4:AI}{P:Nat×Nat->Prop}
theorem Co.mv(c:Co H0 H T ls D Tl rs lk th ea g A1 A2 A3 A4 k)(m:Mv H H' T T' P)(hp:∀t:Nat×Nat,t.1<=6\/t.1=8->P t)(sm:bB H0 H'):Co H0 H' T' ls D Tl rs lk th ea g A1 A2 A3 A4 k:=
 ⟨sm,c.sl.mv m λt h=>hp t δ,c.dl.mv m λt h=>hp t δ,c.t1.mv m (hp _ (.inl ε)),c.t2.mv m (hp _ (.inl ε)),c.t3.mv m (hp _ (.inr rfl))⟩
theorem Bo.co(o:Bo H0 H T ls D Tl rs lk th ea dm (some g) k):∃A1 A2 A3 A4,Co H0 H T ls D Tl rs lk th ea g A1 A2 A3 A4 k/\wW true H0 H T A2 7 ea k:=by
 obtain⟨sm,sl,dl,A1,A2,mv,A4,t1,t2,t3,b⟩:=o;rcases b with ⟨e,_⟩ | ⟨f,A3,a,rfl,d,c⟩
 ·cases e
 cases a;exact⟨A1,A2,A3,A4,⟨sm,sl,dl,t1,t2,d⟩,c⟩
theorem Zbk(q:CuQ ev Tl H Q):Jb K Gb ξ [↑ev,↑Tl,none,none] H:=by
 obtain⟨H0,T,ls,D,rs,lk,th,ea,dm,g,k,l,ns,zw,o,hk,hk1,r,hl,nd,Za6,hth,hea,q⟩:=q;obtain⟨A1,A2,A3,A4,co,t6⟩:=o.co;unfold Jb;ext;intro dd B;have m1:Mv H (upd H dd (.dK [])) T (cN T dd (9,0)) eQ:=Mv.new B;have s1:=aL B (.dK []);have d1:wW true H0 (upd H dd (.dK [])) (cN T dd (9,0)) dd 9 (λb=>b∈ns.take 0) 0:=.nil ⟨aq,co.sm.free B,cH⟩ λb=>(nomatch ·);have c1:=co.mv m1 (λ_ _=>trivial) (co.sm.trans s1);have e1:=t6.mv m1 trivial;generalize upd H dd (.dK [])=H1 at s1 d1 c1 e1 ⊢;generalize cN T dd (9,0)=a at d1 c1 e1;exists ev,_,2,_,rfl,rfl,cP.of (c1.sm _ _ r),rfl;refine⟨l,rfl,⟨_,cC.of (c1.sm _ _ hl)⟩,forL (ns.map V.int) (λi u m=>∃S,u=[↑ev,↑Tl,↑dd,S]/\Co H0 m a ls D Tl rs lk th ea g A1 A2 A3 A4 k/\wW true H0 m a A2 7 ea k/\wW true H0 m a dd 9 (λb=>b∈ns.take i) i) ⟨_,rfl,c1,e1,d1⟩ (by rintro _ _ _ _ ⟨_,_,c,_⟩;exact cC.of (c.sm _ _ hl)) ?_ ?_⟩
 ·rintro i x u m hi ⟨S,rfl,c,e,s⟩;rw[cg]at hi;obtain⟨b,hb,rfl⟩:=Option.map_eq_some_iff.mp hi;have hil:=(cG hb).1;have R:ns.take br=ns.take i++[b]:=by rw[List.take_add_one,hb];rfl
  have nin:b∉ns.take i:=λz=>by
   have h2:=nd;rw[<- List.take_append_drop br ns,R]at h2;exact(List.nodup_append.mp (List.nodup_append.mp h2).1).2.2 b z b (List.mem_singleton.mpr rfl) rfl
  obtain⟨v,g1,g2⟩:=s.ask b;have vn:v=none:=Decidable.byContradiction λy=>nin (g2.mp y);subst vn;obtain⟨w,g3,g4⟩:=c.t2.ask b;obtain⟨A,ew⟩:∃A,w=some A:=Option.ne_none_iff_exists'.mp (g4.mpr (hth b (List.mem_of_getElem? hb)));subst ew;obtain⟨tg,_⟩:=pF c.t1.1;obtain⟨M,p1,⟨ob,Y⟩,j⟩:=s.put δ b;obtain⟨_,_,od,_⟩:=id s;have O:Mv m M a a (·≠(9,0)):=by rw[Y];exact Mv.upd od
  have Z:bB H0 M:=by rw[Y];exact od.sm c.sm
  exists _,rfl;exists dd,_,rfl,g1;rw[show(none:Option V).isSome=false from rfl];exists Tl,_,rfl,tg;exists A1,_,rfl,g3;rw[show(!(some A).isSome)=false from rfl];apply⟨dd,M,rfl,p1,_,rfl,c.mv O (λt h e=>by rw[e]at h;exact absurd h ε) Z,e.mv O ζ,j.iff λx=>?_⟩;rw[R,List.mem_append,List.mem_singleton]
 ·rintro u m ⟨S,rfl,c,e,s⟩;rw[aY,List.take_length]at s;have s:=s.mono (show ns.length<=k by omega);obtain⟨tg1,tg2,J,_⟩:=pF c.t1.1;obtain⟨d,f,oe,e2,e3,e4,e5⟩:=e;unfold sY;exists Tl,_,rfl,tg2;refine⟨A2,d,rfl,oe.1,λob=>?_⟩;have O:Mv m (upd m A2 (.oX ob (.dK d))) a a (·≠(7,0)):=Mv.upd oe;have c2:=c.mv O (λt h e=>by rw[e]at h;exact absurd h ε) (oe.sm c.sm);have j:=s.mv O ζ;have f2:upd m A2 (.oX ob (.dK d)) A2=some (.oX ob (.dK d)):=aq;generalize upd m A2 (.oX ob (.dK d))=M at c2 j f2 ⊢;refine Zwz d (λ_ u Hy=>Hy=M/\∃S,u=[↑ev,↑Tl,↑dd,S]) ⟨rfl,_,rfl⟩ (by rintro i u Hy _ ⟨z,_⟩;rw[z];exact f2) ?_ ?_
  ·rintro i kv u Hy hi ⟨rfl,v3',rfl⟩;have P:=List.mem_of_getElem? hi;obtain⟨b,eb⟩:=e5 rfl kv P;have hb:ea b:=(e4 b).mp (by
    rw[<- e3 b];unfold gR;intro z;have:=List.find?_eq_none.mp (Option.map_eq_none_iff.mp z) kv P;exact this (decide_eq_true eb))
   rw[eb,show kV (Sum.inl b:L2.Key)=V.int b from rfl];obtain⟨_,_,J,_⟩:=pF c2.t1.1;obtain⟨v,g1,g2⟩:=c2.t3.ask b;obtain⟨w,g3,g4⟩:=j.ask b;exists Tl,_,rfl,J;exists A3,v,rfl,g1;cases v with
   | some v=>
    rw[show(!(some v).isSome)=false from rfl];apply⟨rfl,_,rfl⟩
   | none=>
    have hn:b∈ns:=(hea b hb).resolve_left λy=>g2.mpr y rfl;obtain⟨A,ew⟩:∃A,w=some A:=Option.ne_none_iff_exists'.mp (g4.mpr hn);subst ew;rw[show(!(none:Option V).isSome)=true from rfl];exists dd,_,rfl,g3;rw[show(!(some A).isSome)=false from rfl];apply⟨rfl,_,rfl⟩
  ·rintro u Hy ⟨rfl,v3',rfl⟩;have p:=c2.t1;ext;have p1:rZ Hy Tl (.str "doomed") (.ref dd) (upd Hy Tl (.dK (Am A1 A2 (.ref A3) dd))):=rZ.k (k:=Sum.inr "doomed") (v:=.ref dd) p.1 (show 4<sizeLine from ε);refine⟨Tl,_,rfl,p1,?_⟩;have N:Mv Hy (upd Hy Tl (.dK (Am A1 A2 (.ref A3) dd))) a a (·≠(5,0)):=Mv.upd p;have W:Ob H0 (upd Hy Tl (.dK (Am A1 A2 (.ref A3) dd))) a Tl (5,0) (.dK (Am A1 A2 (.ref A3) dd)):=⟨aq,p.2⟩;have F:=p.sm (o':=.dK (Am A1 A2 (.ref A3) dd)) c2.sm;have I:=c2.sl.mv N λt h e=>by rw[e]at h;rcases h with h | h<;>cases h
   have L:=c2.dl.mv N λt h e=>by rw[e]at h;rcases h with h | h<;>cases h
   have E:=c2.t2.mv N ζ;have U:=j.mv N ζ;generalize upd Hy Tl (.dK (Am A1 A2 (.ref A3) dd))=H3 at N W F I L E U ⊢;ext;have Y:rZ H3 Tl (.str "met") .non (upd H3 Tl (.dK (Am A1 A2 .non dd))):=rZ.k (k:=Sum.inr "met") (v:=.non) W.1 (show 4<sizeLine from ε);refine⟨Tl,_,rfl,Y,?_⟩;have X:Mv H3 (upd H3 Tl (.dK (Am A1 A2 .non dd))) a a (·≠(5,0)):=Mv.upd W;have C:Bo H0 (upd H3 Tl (.dK (Am A1 A2 .non dd))) a ls D Tl rs lk th ea (λb=>b∈ns) none k:=⟨W.sm F,I.mv X (λt h e=>by rw[e]at h;rcases h with h | h<;>cases h),L.mv X (λt h e=>by rw[e]at h;rcases h with h | h<;>cases h),A1,A2,.non,dd,⟨aq,W.2⟩,E.mv X ζ,U.mv X ζ,.inl ⟨rfl,rfl⟩⟩;generalize upd H3 Tl (.dK (Am A1 A2 .non dd))=H4 at C ⊢;exists ev,_,1,_,rfl,rfl,cP.of (C.sm _ _ r),rfl;exists _,rfl;exists ev,_,1,_,rfl,rfl,cP.of (C.sm _ _ r),rfl;exists ev,_,2,_,rfl,rfl,cP.of (C.sm _ _ r),rfl;apply eZ (cC.of (C.sm _ _ hl)) ?_;rw[aY];ext;rw[decide_eq_true rfl];exact q H4 a C
end
inductive StC(rs:HD)(lk:wV)(th ea dm:Int->Prop):Option df->Rz->(Int->Prop)->(Int->Prop)->(Int->Prop)->Option df->Prop
 | begin {me:Option (Int->Prop)}{v:V}{ns:AE}:StC rs lk th ea dm me (("begin":Str),v,ns) th th dm (some (Rl rs lk))
 | cut {g:Int->Prop}{ns:AE}:ns.Nodup->ns.length<=100->(∀b∈ns,th b)->(∀b,ea b->g b\/b∈ns)->StC rs lk th ea dm (some g) (("cut":Str),.int (ns.length:Nat),ns) th ea (λb=>b∈ns) none
 | back {me:Option (Int->Prop)}{b:Int}{ns:AE}:dm b->th b->StC rs lk th ea dm me (("back":Str),.int b,ns) (λx=>th x/\x≠b) ea (λx=>dm x/\x≠b) me
 | fin {me:Option (Int->Prop)}{v:V}{ns:AE}:(∀b,¬ dm b)->StC rs lk th ea dm me (("end":Str),v,ns) th ea dm me
 | oth {me:Option (Int->Prop)}{z:Rz}:z.1≠("begin":Str)->z.1≠("cut":Str)->z.1≠("back":Str)->z.1≠("end":Str)->StC rs lk th ea dm me z th ea dm me
inductive StQ(ev ls D Tl:AI)(H:Hp)(Q:VK):Prop
 | mk (H0 T rs lk th ea dm me k z l bs th' ea' dm' RM) (_:Bo H0 H T ls D Tl rs lk th ea dm me k) (_:k<=10000) (_:100<=k) (_:H0 ev=some (.tup [.str z.1,z.2.1,.ref l])) (_:H0 l=some (.lst (z.2.2.map V.int))) (_:RcB rs lk bs) (_:StC rs lk th ea dm me z th' ea' dm' RM) (_:∀H' T',Bo H0 H' T' ls D Tl rs lk th' ea' dm' RM k->Q (.bl true) H'):StQ ev ls D Tl H Q
def QK(K:aC):Sp:=λvs H Q E=>∃ev a D b,vs=[.ref ev,.ref a,.ref D,.ref b]/\StQ ev a D b H Q
section
variable {K:aC}{H0 H H':Hp}{T T':Tg}{Q:VK}{E:XK}{n:ν}{bk ct:ν}{rs:HD}{lk:wV}{th ea dm g:Int->Prop}{me:Option df}{k:Nat}{zw:Str}{v:V}{row ev ls D Tl l r A1 A2 A3 A4:AI}
theorem Zfp{d ty:TE}{σ:St}(h:d σ H λx c=>∃a,x=.ref a/\IsD c a/\ty σ c λy e=>∃b k v,e a=some (.dK b)/\y=kV k/\gR b k=some v/\Q v (upd e a (.dK (uB b k)))):Wl d ty σ H Q:=h
theorem st3(a:H ev=some (.tup [.str zw,v,.ref l]))(ne:zw≠("end":Str))(q:Q (.bl true) H):fK K ξ [↑ev,↑ls,↑D,↑Tl] H:=by
 unfold fK;exists ev,_,0,_,rfl,rfl,cP.of a,rfl;apply j9 (λy=>absurd y ne) Δ;apply q
theorem st2(a:H ev=some (.tup [.str zw,v,.ref l]))(ne:zw≠("back":Str))(q:fK K ξ [↑ev,↑ls,↑D,↑Tl] H):fL K ξ [↑ev,↑ls,↑D,↑Tl] H:=by
 unfold fL;exists ev,_,0,_,rfl,rfl,cP.of a,rfl;apply j9 (λy=>absurd y ne) Δ;apply q
theorem st1(a:H ev=some (.tup [.str zw,v,.ref l]))(ne:zw≠("cut":Str))(q:fL K ξ [↑ev,↑ls,↑D,↑Tl] H):fM K (QS K) ξ [↑ev,↑ls,↑D,↑Tl] H:=by
 unfold fM;exists ev,_,0,_,rfl,rfl,cP.of a,rfl;apply j9 (λy=>absurd y ne) Δ;apply q
theorem st0(a:H ev=some (.tup [.str zw,v,.ref l]))(ne:zw≠("begin":Str))(q:fM K (QS K) ξ [↑ev,↑ls,↑D,↑Tl] H):kZ K (QS K) (dZ K) ξ [↑ev,↑ls,↑D,↑Tl] H:=by
 unfold kZ;exists ev,_,0,_,rfl,rfl,cP.of a,rfl;apply j9 (λy=>absurd y ne) Δ;apply q
theorem K6(q:StQ ev ls D Tl H Q):kZ K (QS K) (dZ K) ξ [↑ev,↑ls,↑D,↑Tl] H:=by
 obtain⟨H0,T,rs,lk,th,ea,dm,me,k,z,l,bs,th',ea',dm',RM,o,hk,hk1,d,hl,rc,st,q⟩:=q;have c:=o.sm _ _ d;cases st with
 | oth n1 n2 n3 n4=>exact st0 c n1 (st1 c n2 (st2 c n3 (st3 c n4 (q H T o))))
 | @fin me v ns he=>
  have c:H ev=some (.tup [.str "end",v,.ref l]):=c;refine st0 c ε (st1 c ε (st2 c ε ?_));obtain⟨A1,A2,mv,A4,t1,t2,t3,L⟩:=id o.ta;obtain⟨_,_,_,g4⟩:=pF t1.1;have e4:=t3.emp he;unfold fK;exists ev,_,0,_,rfl,rfl,cP.of c,rfl;apply j9 Δ c6;exists Tl,_,rfl,g4;ext;intro p X;have s1:=aL X (.dK []);refine Zsc (s1 _ _ e4) aq ?_;exact q _ T (o.mv s1)
 | @back me b ns hd ht=>
  have c:H ev=some (.tup [.str "back",.int b,.ref l]):=c;have d:H0 ev=some (.tup [.str "back",.int b,.ref l]):=d;refine st0 c ε (st1 c ε ?_);obtain⟨A1,A2,mv,A4,t1,t2,t3,L⟩:=id o.ta;obtain⟨g1,_,_,g4⟩:=pF t1.1;obtain⟨v,a1,a2⟩:=t3.ask b;obtain⟨v',ev'⟩:=Option.ne_none_iff_exists'.mp (a2.mpr hd);subst ev';obtain⟨a,w,k1,k2,k3,k4⟩:=t3.pop hd;unfold fL;exists ev,_,0,_,rfl,rfl,cP.of c,rfl;apply j9 Δ c6;exists ev,_,1,_,rfl,rfl,cP.of c,rfl;exists Tl,_,rfl,g4;exists A4,_,rfl,a1;rw[show(!(some v').isSome)=false from rfl];apply Zfp ?_;exists Tl,_,rfl,g4;refine⟨A4,rfl,.inl ⟨_,.inl k1⟩,?_⟩;exists ev,_,1,_,rfl,rfl,cP.of c,rfl;refine⟨a,Sum.inl b,w,k1,rfl,k2,?_⟩;have j:Mv H (upd H A4 (.dK (uB a (Sum.inl b)))) T T (·≠(9,0)):=Mv.upd k3;have s:=k3.sm (o':=.dK (uB a (Sum.inl b))) o.sm;generalize upd H A4 (.dK (uB a (Sum.inl b)))=u at k4 j s ⊢;have F:=o.sl.mv j λt h e=>by rw[e]at h;rcases h with h | h<;>cases h
  have J:=o.dl.mv j λt h e=>by rw[e]at h;rcases h with h | h<;>cases h
  have m:=t1.mv j ζ;have N:=t2.mv j ζ;have t45:(me=none/\mv=.non)\/∃g A3,me=some g/\mv=.ref A3/\wW false H0 u T A3 8 g k/\wW true H0 u T A2 7 ea k:=by
   rcases L with L | ⟨g,A3,z1,z2,z3,z4⟩
   ·exact .inl L
   ·exact .inr ⟨g,A3,z1,z2,z3.mv j ζ,z4.mv j ζ⟩
  obtain⟨g1,_⟩:=pF m.1;obtain⟨x,w2,j1,j2,j3,j4⟩:=N.pop ht;apply Zfp ?_;exists Tl,_,rfl,g1;refine⟨A1,rfl,.inl ⟨_,.inl j1⟩,?_⟩;exists ev,_,1,_,rfl,rfl,cP.of (s _ _ d),rfl;refine⟨x,Sum.inl b,w2,j1,rfl,j2,?_⟩;have r:Mv u (upd u A1 (.dK (uB x (Sum.inl b)))) T T (·≠(6,0)):=Mv.upd j3;have I:=j3.sm (o':=.dK (uB x (Sum.inl b))) s;generalize upd u A1 (.dK (uB x (Sum.inl b)))=P at j4 r I ⊢;refine st3 (I _ _ d) ε (q P T ⟨I,F.mv r (λt h e=>by rw[e]at h;rcases h with h | h<;>cases h),J.mv r (λt h e=>by rw[e]at h;rcases h with h | h<;>cases h),A1,A2,mv,A4,m.mv r ζ,j4,k4.mv r ζ,?_⟩);rcases t45 with L | ⟨g,A3,z1,z2,z3,z4⟩
  ·exact .inl L
  ·exact .inr ⟨g,A3,z1,z2,z3.mv r ζ,z4.mv r ζ⟩
 | @cut g ns nd Za6 hth hea=>
  have c:H ev=some (.tup [.str "cut",.int (ns.length:Nat),.ref l]):=c;have d:H0 ev=some (.tup [.str "cut",.int (ns.length:Nat),.ref l]):=d;refine st0 c ε ?_;obtain⟨A1,A2,A3,A4,co,_⟩:=o.co;obtain⟨_,_,g3,_⟩:=pF co.t1.1;unfold fM;exists ev,_,0,_,rfl,rfl,cP.of c,rfl;apply j9 Δ c6;exists Tl,_,rfl,g3;apply⟨_,_,rfl,H0,T,ls,D,rs,lk,th,ea,dm,g,k,l,ns,_,o,hk,hk1,d,hl,nd,Za6,hth,hea,λH' T' o'=>?_⟩;exact q H' T' o'
 | @begin me v ns=>
  obtain⟨A1,A2,mv,A4,t1,t2,t3,L⟩:=id o.ta;obtain⟨g1,_⟩:=pF t1.1;obtain⟨a,f,k1,k2,k3,k4,k5⟩:=id t2;unfold kZ;exists ev,_,0,_,rfl,rfl,cP.of c,rfl;apply j9 Δ c6;exists Tl,_,rfl,g1;apply⟨A1,a,rfl,.inl k1.1,λp X=>?_⟩;have j:Mv H (upd H p (.dK a)) T (cN T p (7,0)) eQ:=Mv.new X;have s:=o.sm.trans (aL X (.dK a));have d5:wW true H0 (upd H p (.dK a)) (cN T p (7,0)) p 7 th k:=⟨a,f,⟨aq,o.sm.free X,cH⟩,k2,k3,k4,k5⟩;generalize upd H p (.dK a)=u at j s d5 ⊢;generalize cN T p (7,0)=T5 at j d5;have F:=o.sl.mv j λ_ _=>trivial;have J:=o.dl.mv j λ_ _=>trivial;have m:=t1.mv j trivial;have N:=t2.mv j trivial;have t35:=t3.mv j trivial;ext;have p1:rZ u Tl (.str "early") (.ref p) (upd u Tl (.dK (Am A1 p mv A4))):=rZ.k (k:=Sum.inr "early") (v:=.ref p) m.1 (show 4<sizeLine from ε);refine⟨Tl,_,rfl,p1,?_⟩;have r:Mv u (upd u Tl (.dK (Am A1 p mv A4))) T5 T5 (·≠(5,0)):=Mv.upd m;have Z:Ob H0 (upd u Tl (.dK (Am A1 p mv A4))) T5 Tl (5,0) (.dK (Am A1 p mv A4)):=⟨aq,m.2⟩;have I:=m.sm (o':=.dK (Am A1 p mv A4)) s;generalize upd u Tl (.dK (Am A1 p mv A4))=P at r Z I ⊢;ext;intro i C;have B:Mv P (upd P i (.dK [])) T5 (cN T5 i (8,0)) eQ:=Mv.new C;have S:=I.trans (aL C (.dK []));have d7:wW false H0 (upd P i (.dK [])) (cN T5 i (8,0)) i 8 eI 0:=.nil ⟨aq,I.free C,cH⟩ λb=>id;generalize upd P i (.dK [])=H7 at B S d7 ⊢;generalize cN T5 i (8,0)=T7 at B d7;have A:=Z.mv B trivial;ext;have p2:rZ H7 Tl (.str "met") (.ref i) (upd H7 Tl (.dK (Am A1 p (.ref i) A4))):=rZ.k (k:=Sum.inr "met") (v:=.ref i) A.1 (show 4<sizeLine from ε);refine⟨Tl,_,rfl,p2,?_⟩;have O:Mv H7 (upd H7 Tl (.dK (Am A1 p (.ref i) A4))) T7 T7 (·≠(5,0)):=Mv.upd A;have E:Ob H0 (upd H7 Tl (.dK (Am A1 p (.ref i) A4))) T7 Tl (5,0) (.dK (Am A1 p (.ref i) A4)):=⟨aq,A.2⟩;have U:=A.sm (o':=.dK (Am A1 p (.ref i) A4)) S;generalize upd H7 Tl (.dK (Am A1 p (.ref i) A4))=H8 at O E U ⊢;have f1:∀t:Nat×Nat,t.1=1\/t.1=2->t≠(5,0):=λt h e=>by rw[e]at h;rcases h with h | h<;>cases h
  have f3:∀t:Nat×Nat,t.1=3\/t.1=4->t≠(5,0):=λt h e=>by rw[e]at h;rcases h with h | h<;>cases h
  have V:=((F.mv r f1).mv B λ_ _=>trivial).mv O f1;have W:=((J.mv r f3).mv B λ_ _=>trivial).mv O f3;have th8:=((N.mv r ζ).mv B trivial).mv O ζ;have dm8:=((t35.mv r ζ).mv B trivial).mv O ζ;have ea8:=((d5.mv r ζ).mv B trivial).mv O ζ;have me8:=d7.mv O ζ;obtain⟨_,_,g3,_⟩:=pF E.1;exists Tl,_,rfl,g3;apply⟨_,_,_,rfl,ZD U V W hk me8 ε rc λH9 R Y me9=>?_⟩;ext;have M:H9 ev=some (.tup [.str "begin",v,.ref l]):=Y _ _ d;refine st1 M ε (st2 M ε (st3 M ε (q H9 T7 ⟨Y,V.mv R (λt h e=>by rw[e]at h;rcases h with h | h<;>cases h),W.mv R (λt h e=>by rw[e]at h;rcases h with h | h<;>cases h),A1,p,_,A4,E.mv R ζ,th8.mv R ζ,dm8.mv R ζ,.inr ⟨_,i,rfl,rfl,?_,ea8.mv R ζ⟩⟩)));exact(me9.iff λb=>⟨λy=>y.resolve_left id,.inr⟩).mono δ
end
def brs(M:Wm):AE:=(List.range M.cells.length).filterMap λi=>((M.cells[i]?).join).map (·.birth)
def Hb(M:Wm)(b:Int):Prop:=∃i c,cellAt M i=some c/\c.birth=b
def Hp4(M:Wm)(b:Int):Prop:=∃i c,cellAt M i=some c/\c.birth=b/\c.tone≠M.sw.sense
structure Fw(w0:Int)(M:Wm)(lk:wV)(th ea dm:Int->Prop)(me:Option df):Prop where
 tb:TB w0 M
 bq:∃S,Bq lk ea (me.getD λ_=>False) S M
 w1:M.sw.phase=("walk":Str)->∃g,me=some g/\∀b,Rl ad lk b->g b
 nw:M.sw.phase≠("walk":Str)->me=none
 th:∀b,th b↔Hb M b
 dg:M.sw.phase=("give":Str)->∀b,dm b↔Hp4 M b
 ld:∀b fs,lk b=some fs->b<=M.born/\fs.length<=8
section
variable {M N:Wm}{lk:wV}{th ea dm:Int->Prop}{me:Option df}{w0 lb:Int}{lw:AE}{hs:yW}{k:Nat}{d:ie}{e:Ev}{S:Int->Prop}
theorem Zo9{b:Int}:b∈brs M↔Hb M b:=by
 unfold brs Hb;constructor
 ·intro h;obtain⟨i,_,a⟩:=List.mem_filterMap.mp h;obtain⟨c,hc,rfl⟩:=Option.map_eq_some_iff.mp a;exact⟨i,c,by unfold cellAt;rw[if_pos δ,Int.toNat_natCast];exact hc,rfl⟩
 ·rintro⟨i,c,hc,rfl⟩;obtain⟨h0,h1⟩:=bK.mp hc;exact List.mem_filterMap.mpr ⟨i.toNat,List.mem_range.mpr (cG h1).1,by rw[h1];rfl⟩
theorem Zid(tb:TB w0 M):(brs M).Nodup:=by
 unfold brs;refine List.Pairwise.filterMap _ (λi j e b hi l f g=>?_) List.nodup_range;have a:∀{i:Nat}{b:Int},b∈((M.cells[i]?).join).map (·.birth)->∃c,cellAt M (i:Int)=some c/\c.birth=b:=λ{i b} h=>by
  obtain⟨c,hc,rfl⟩:=Option.map_eq_some_iff.mp h;exact⟨c,by unfold cellAt;rw[if_pos δ,Int.toNat_natCast];exact hc,rfl⟩
 obtain⟨c,h1,h2⟩:=a hi;obtain⟨d,k,h4⟩:=a f;have:=tb.bu _ _ c d h1 k (h2.trans (g.trans h4.symm));exact e δ
theorem Zp6:(brs M).length<=M.cells.length:=by
 unfold brs;exact Nat.le_trans (List.length_filterMap_le _ _) (by rw[List.length_range];exact Nat.le_refl _)
theorem Sb.hb(s:Sb M N)(b:Int):Hb N b↔Hb M b:=by
 constructor
 ·rintro⟨i,c,hc,hb⟩;obtain⟨a,h1,h2,_⟩:=s.get hc;exact⟨i,a,h1,h2.symm.trans hb⟩
 ·rintro⟨i,c,hc,hb⟩;have:=s.ce i;rw[hc]at this;obtain⟨a,h1,h2⟩:=Option.map_eq_some_iff.mp this;exact⟨i,a,h1,h2.trans hb⟩
theorem Sb.hp(s:Sb M N)(ph:M.sw.phase=("give":Str))(b:Int):Hp4 N b↔Hp4 M b:=by
 have a:¬ M.sw.phase="walk":=by rw[ph];decide
 constructor
 ·rintro⟨i,c,hc,hb,e⟩;obtain⟨d,h1,h2,f⟩:=s.get hc;refine⟨i,d,h1,h2.symm.trans hb,?_⟩;rw[<- f.resolve_right λz=>a z.1,<- s.se];exact e
 ·rintro⟨i,c,hc,hb,e⟩;have:=s.ce i;rw[hc]at this;obtain⟨d,h1,h2⟩:=Option.map_eq_some_iff.mp this;refine⟨i,d,h1,h2.trans hb,?_⟩;rw[(s.tn i c d hc h1).resolve_right λz=>a z.1,s.se];exact e
theorem Bq.lnk{e:Int->Prop}(p:Bq lk ea e S M){b:Int}(h:Rl ad lk b):Hb M b/\∃fs,lk b=some fs:=by
 obtain⟨i,c,h1,h2,rfl⟩:=Zqv p h;obtain⟨f,a,_,_,d⟩:=p.ce i h1;rw[h2]at a;cases a;exact⟨⟨i,c,h2,rfl⟩,_,d⟩
theorem Fw.rc(f:Fw w0 M lk th ea dm me)(kw:KW M hs k)(hb:HsB hs)(hk:k<=100):RcB ad lk (brs M):=by
 obtain⟨S,p⟩:=f.bq;have n5:=hb.n5;have hl:=kw.hl;refine⟨by unfold rowsOf;rw[aY];omega,λr hr=>?_,Zid f.tb,by have:=Zp6 (M:=M);have:=kw.cl;omega,λb _=>?_,λb h=>?_⟩
 ·unfold rowsOf at hr;obtain⟨m,hm,rfl⟩:=List.mem_map.mp hr;rw[aY];obtain⟨i,hi,d⟩:=List.getElem_of_mem hm;have c:M.hands[i]? =some m:=by rw[bD hi,d]
  have a:hs[i]? =some hs[i]:=bD δ;rw[kw.hn i m _ c a];have:=hb.sb _ (List.mem_of_getElem? a);omega
 ·show((lk b).getD []).length<=20;cases e:lk b with
  | none=>exact Nat.zero_le _
  | some fs=>have:=(f.ld b fs e).2;show fs.length<=20;omega
 ·obtain⟨h1,h2⟩:=Bq.lnk p h;exact⟨Zo9.mpr h1,h2⟩
theorem qP{h s:Nat}(o:uG M h s):okI ad h s:=by
 obtain⟨r,h1,_,a⟩:=sW o;exact⟨r,h1,a⟩
theorem Zv7(ld:∀b fs,lk b=some fs->b<=M.born/\fs.length<=8)(tb:TB w0 M)(o:okD M d)(i:okR hs d):∀b fs,(zf ad lk (jY bE) d).2 b=some fs->b<=(stM M bE).born/\fs.length<=8:=by
 have bn:M.born<=(stM M bE).born:=by
  cases h:dN M d with
  | error r=>exact Int.le_refl _
  | ok x=>
   obtain⟨e,N⟩:=x;rcases Ln h with ⟨_,_,_,_,_,_,_,s⟩ | ⟨_,s⟩
   ·show M.born<=N.born;rw[s.bn];show M.born<=M.born+1;omega
   ·show M.born<=N.born;rw[s.bn];exact Int.le_refl _
 have same:∀b fs,lk b=some fs->b<=(stM M bE).born/\fs.length<=8:=λb fs e=>⟨Int.le_trans (ld b fs e).1 bn,(ld b fs e).2⟩;cases d with
 | make h s a bulk=>
  intro b fs e;have e:(if (jY (dN M (.make h s a bulk))).1=("made":Str)then(setB ad h s (vO (jY (dN M (.make h s a bulk))).2.1),lkU lk ((vO (jY (dN M (.make h s a bulk))).2.1).getD 0) (List.replicate a.toNat none))else(rowsOf M,lk)).2 b=some fs:=e;split at e
  ·rename_i hm
   by_cases z:M.used+(1+a+bulk)<=M.room
   ·have hd:dN M (.make h s a bulk)=_:=if_pos z;rw[hd]at e ⊢;have e:(if b=M.born+1 then some (List.replicate a.toNat none)else lk b)=some fs:=e;split at e
    ·rename_i c
     cases e;refine⟨by show b<=M.born+1;omega,?_⟩;rw[List.length_replicate];have:=i.2.2.1;omega
    ·have:=ld b fs e;exact⟨by show b<=M.born+1;omega,this.2⟩
   ·have hd:dN M (.make h s a bulk)=_:=if_neg z;rw[hd]at hm;exact absurd hm (show ¬ ("refused":Str)="made" by decide)
  ·exact same b fs e
 | get h s t f=>
  intro b fs e;unfold zf at e;dsimp only at e;split at e<;>exact same b fs e
 | put h t f s=>
  intro b fs e;have e:(if f<(Yq lk (inB ad h t)).length then(rowsOf M,lkU lk ((inB ad h t).getD 0) ((Yq lk (inB ad h t)).set f (inB ad h s)))else(rowsOf M,lk)).2 b=some fs:=e;split at e
  ·rename_i lt
   have e:(if b=(inB ad h t).getD 0 then some ((Yq lk (inB ad h t)).set f (inB ad h s))else lk b)=some fs:=e;split at e
   ·rename_i c
    cases e;cases hi:inB ad h t with
    | none=>rw[hi]at lt;exact absurd lt (Nat.not_lt_zero _)
    | some b0=>
     rw[hi]at lt c;have lt:f<((lk b0).getD []).length:=lt;have c:b=b0:=c;cases hl:lk b0 with
     | none=>rw[hl]at lt;exact absurd lt (Nat.not_lt_zero _)
     | some j=>
      obtain⟨h1,h2⟩:=same b0 j hl;refine⟨δ,?_⟩;rw[List.length_set];show((lk b0).getD []).length<=8;rw[hl];exact h2
   ·exact same b fs e
  ·exact same b fs e
 | copy h s t=>exact same
 | drop h s=>exact same
 | give h s g t=>exact same
 | write h t l=>exact same
 | read h t=>exact same
 | name h t z=>exact same
 | seek h s z=>
  intro b fs e;unfold zf at e;dsimp only at e;split at e<;>exact same b fs e
theorem Fw.deed(f:Fw w0 M lk th ea dm me)(kw:KW M hs k)(o:okR hs d):
  CdB ad lk (jY bE) d/\(zf ad lk (jY bE) d).1=rowsOf (stM M bE)/\Fw w0 (stM M bE) (zf ad lk (jY bE) d).2 (thD th (jY bE) d) ea dm (meU (rowsOf (stM M bE)) (zf ad lk (jY bE) d).2 me):=by
 obtain⟨S,p⟩:=f.bq;have od:=kw.okD o;have w1:M.sw.phase=("walk":Str)->∀b,Rl ad lk b->(me.getD λ_=>False) b:=λph b h=>by
  obtain⟨g,e,hg⟩:=f.w1 ph;rw[e];exact hg b h
 obtain⟨n,A,j⟩:=Zp4 p f.tb w1 od;have ld:=Zv7 f.ld f.tb od o;have ph:(stM M bE).sw.phase=M.sw.phase:=by
  cases h:dN M d with
  | error r=>rfl
  | ok x=>obtain⟨g,hg⟩:=Yw h;show x.2.sw.phase=_;rw[hg]
 have m:TB w0 (stM M bE):=by
  cases h:dN M d with
  | error r=>exact f.tb
  | ok x=>exact f.tb.deed h
 have v:∀b,thD th (jY bE) d b↔Hb (stM M bE) b:=λb=>by
  cases h:dN M d with
  | error r=>
   refine Iff.trans ?_ (f.th b);cases d with
   | make=>exact⟨λy=>y.resolve_right λy=>absurd y.1 (show ¬ ("refused":Str)="made" by decide),.inl⟩
   | _=>exact Iff.rfl
  | ok x=>
   obtain⟨e,N⟩:=x;rcases Ln h with ⟨D,s,a,bulk,rfl,rfl,u,sb⟩ | ⟨nm,sb⟩
   ·refine Iff.trans ?_ (sb.hb b).symm;show th b\/(("made":Str)="made"/\some (M.born+1)=some b)↔_;rw[f.th b];constructor
    ·rintro(⟨i,c,hc,hb⟩ | ⟨_,z⟩)
     ·exact⟨i,c,p8 hc,hb⟩
     ·exact⟨_,_,vd,Option.some.inj z⟩
    ·rintro⟨i,c,hc,hb⟩;rcases dM hc with ⟨_,rfl⟩ | hc
     ·exact .inr ⟨rfl,congrArg some hb⟩
     ·exact .inl ⟨i,c,hc,hb⟩
   ·refine Iff.trans ?_ ((f.th b).trans (sb.hb b).symm);cases d with
    | make=>exact absurd rfl (nm _ _ _ _)
    | _=>exact Iff.rfl
 have t:M.sw.phase=("give":Str)->∀b,dm b↔Hp4 (stM M bE) b:=λpg b=>by
  refine(f.dg pg b).trans ?_;cases h:dN M d with
  | error r=>exact Iff.rfl
  | ok x=>
   obtain⟨e,N⟩:=x;rcases Ln h with ⟨D,s,a,bulk,rfl,rfl,u,sb⟩ | ⟨nm,sb⟩
   ·refine Iff.trans ?_ (sb.hp pg b).symm;constructor
    ·rintro⟨i,c,hc,hb,l⟩;exact⟨i,c,p8 hc,hb,l⟩
    ·rintro⟨i,c,hc,hb,l⟩;rcases dM hc with ⟨_,rfl⟩ | hc
     ·exact absurd rfl l
     ·exact⟨i,c,hc,hb,l⟩
   ·exact(sb.hp pg b).symm
 refine⟨?_,n,m,⟨A,?_⟩,λz=>?_,λz=>?_,v,λz=>t bd,ld⟩
 ·cases d with
  | make h s a bulk=>
   refine⟨qP od.1,od.2.1,by have:=od.2.2.1;omega,λz=>?_⟩
   by_cases y:M.used+(1+a+bulk)<=M.room
   ·have hd:dN M (.make h s a bulk)=_:=if_pos y;rw[hd];refine⟨M.born+1,rfl,by have:=f.tb.b0;omega,?_⟩;cases e:lk (M.born+1)with
    | none=>rfl
    | some fs=>have:=(f.ld _ _ e).1;omega
   ·have hd:dN M (.make h s a bulk)=_:=if_neg y;rw[hd]at z;exact absurd z (show ¬ ("refused":Str)="made" by decide)
  | get=>exact⟨qP od.1,qP od.2⟩
  | put=>exact⟨qP od.1,qP od.2⟩
  | copy=>exact⟨qP od.1,qP od.2⟩
  | drop=>exact qP od
  | give=>exact⟨qP od.1,qP od.2⟩
  | write=>exact qP od
  | read=>exact qP od
  | name=>exact qP od
  | seek h s w=>
   refine⟨qP od,λz=>?_⟩;cases hd:dN M (.seek h s w)with
   | error r=>rw[hd]at z;exact absurd z (show ¬ ("refused":Str)="sought" by decide)
   | ok x=>
    refine⟨x.1.thing,rfl,λb E=>?_⟩;have B:zf ad lk (jY (dN M (.seek h s w))) (.seek h s w)=(setB ad h s (some b),lk):=by
     rw[hd]at z ⊢;show(if (jY (.ok x)).1=("sought":Str)then _ else _)=_;rw[if_pos z];show(setB ad h s (vO (oV x.1.thing)),lk)=_;rw[E];rfl
    rw[B]at n j;obtain⟨r,h1,_,C⟩:=sW od;have hl:=(cG h1).1;have hr:Rl (rowsOf (stM M (dN M (.seek h s w)))) lk b:=by
     rw[<- n];refine .root (r:=r.set s (some b)) ?_ (List.mem_iff_getElem?.mpr ⟨s,List.getElem?_set_self C⟩);show _∈(rowsOf M).set h (((rowsOf M)[h]?.getD []).set s (some b));rw[h1];exact List.mem_iff_getElem?.mpr ⟨h,List.getElem?_set_self hl⟩
    obtain⟨_,fs,q⟩:=Bq.lnk j hr;have q:lk b=some fs:=q;rw[q];exact λy=>nomatch y
 ·cases me with
  | some g=>exact j
  | none=>
   refine j.give λz=>?_;obtain⟨g,e,_⟩:=f.w1 bd;cases e
 ·obtain⟨g,e,hg⟩:=f.w1 bd;rw[e];exact⟨_,rfl,λb h=>.inr h⟩
 ·rw[f.nw λy=>z (ph.trans y)];rfl
end
section
variable {M N:Wm}{lk:wV}{th ea dm:Int->Prop}{me:Option df}{w0 lb:Int}{lw:AE}{hs:yW}{k:Nat}{d:ie}{e:Ev}{S:Int->Prop}
theorem Fw.step(f:Fw w0 M lk th ea dm me)(kw:KW M hs k)(hk:k<=100)(h:lQ lb lw M e N)(nl:e.word≠("lost":Str)):
  ∃l o m A,StC ad lk th ea dm me (evz e) l o m A/\Fw w0 N lk l o m A/\rowsOf N=rowsOf M:=by
 obtain⟨S,p⟩:=f.bq;have a:=f.tb.step h;have w1:M.sw.phase=("walk":Str)->∀b,Rl ad lk b->(me.getD λ_=>False) b:=λph b h=>by
  obtain⟨g,E,hg⟩:=f.w1 ph;rw[E];exact hg b h
 by_cases r:M.sw.phase=("rest":Str)
 ·cases h with
  | begin ph=>
   rw[Vd]at a ⊢;obtain⟨q,j⟩:=p.begin f.tb ph cT;have E:(λb=>∃i c,cellAt M i=some c/\c.birth=b)=th:=funext λb=>propext (f.th b).symm;rw[E]at q;have sb:Sb (jA M) (aQ (jA M) (RD cT M.hands 0)).2:=Sb.notes _ _;have u:=Up.notes (RD cT M.hands 0) (jA M);have H:(aQ (jA M) (RD cT M.hands 0)).2.sw.phase=("walk":Str):=u.ph;refine⟨th,th,dm,some (Rl ad lk),.begin,⟨a,⟨S,q⟩,λ_=>⟨_,rfl,λb hb=>by rw[j]at hb;exact hb⟩,λz=>absurd H z,λb=>(f.th b).trans (sb.hb b).symm,λz=>absurd (H.symm.trans z) ε,λb fs B=>?_⟩,j⟩;have:=f.ld b fs B;exact⟨by rw[sb.bn];exact this.1,this.2⟩
  | walk _ _ _ ph=>exact absurd (r.symm.trans ph) ε
  | look _ ph=>exact absurd (r.symm.trans ph) ε
  | cut _ _ ph=>exact absurd (r.symm.trans ph) ε
  | lost _ _ _ _ _ _ ph=>exact absurd (r.symm.trans ph) ε
  | pass ph=>exact absurd (r.symm.trans ph) ε
  | back _ ph=>exact absurd (r.symm.trans ph) ε
  | fin ph=>exact absurd (r.symm.trans ph) ε
  | again ph=>exact absurd (r.symm.trans ph) ε
 ·have st:=p.step f.tb w1 kw.gr r h;have keep:N.sw.phase=M.sw.phase->N.sw.phase≠("lost":Str)->Sb M N->e.word≠("begin":Str)->e.word≠("cut":Str)->e.word≠("back":Str)->e.word≠("end":Str)->∃l o m A,StC ad lk th ea dm me (evz e) l o m A/\Fw w0 N lk l o m A/\rowsOf N=rowsOf M:=λph C sb n1 n2 n3 n4=>by
   obtain⟨⟨s,v⟩,j⟩:=st.resolve_left C;refine⟨th,ea,dm,me,.oth n1 n2 n3 n4,⟨a,⟨s,v⟩,λz=>?_,λz=>f.nw λy=>z (ph.trans y),λb=>(f.th b).trans (sb.hb b).symm,λz b=>(f.dg bd b).trans (sb.hp bd b).symm,λb fs B=>by have:=f.ld b fs B;exact⟨by rw[sb.bn];exact this.1,this.2⟩⟩,j⟩;obtain⟨g,D,hg⟩:=f.w1 bd;exact⟨g,D,λb hb=>hg b (by rw[j]at hb;exact hb)⟩
  cases h with
  | begin ph=>exact absurd ph r
  | walk x g c ph hg hc=>
   have u:=Up.notes c.fl { M with sw:={ M.sw with grey:=g,walks:=M.sw.walks+1 } };exact keep u.ph (λz=>absurd (ph.symm.trans (u.ph.symm.trans z)) ε) ((Sb.nO (M:=M) (M':={ M with sw:={ M.sw with grey:=g,walks:=M.sw.walks+1 } }) rfl rfl rfl rfl rfl rfl rfl).trans (Sb.notes _ _)) (show ¬ ("walk":Str)="begin" by decide) (show ¬ ("walk":Str)="cut" by decide) (show ¬ ("walk":Str)="back" by decide) (show ¬ ("walk":Str)="end" by decide)
  | look O ph hg Q hN=>
   subst hN;have sb:=Sb.nh bi M.hands 0 M;exact keep sb.ph (λz=>absurd (ph.symm.trans (sb.ph.symm.trans z)) ε) (sb.trans (Sb.nO rfl rfl rfl rfl rfl rfl rfl)) (show ¬ ("look":Str)="begin" by decide) (show ¬ ("look":Str)="cut" by decide) (show ¬ ("look":Str)="back" by decide) (show ¬ ("look":Str)="end" by decide)
  | cut q R ph hg L T I=>
   obtain⟨⟨s,v⟩,j⟩:=st.resolve_left eC;obtain⟨g,D,J⟩:=f.w1 ph;subst D;have ng:∀{P:Prop},("give":Str)="walk"->P:=λz=>absurd z ε;refine⟨th,ea,λb=>b∈jg M,none,.cut (Zk4 f.tb) ?_ (λb hb=>?_) (λb hb=>?_),⟨a,⟨s,v.give eD⟩,λz=>ng z,λ_=>rfl,f.th,λ_ b=>Zcy,f.ld⟩,j⟩
   ·have:(jg M).length<=M.cells.length:=by
     unfold jg;exact Nat.le_trans (List.length_filterMap_le _ _) (by rw[List.length_range];exact Nat.le_refl _)
    have:=kw.cl;omega
   ·obtain⟨i,c,hc,B,_⟩:=Zcy.mp hb;exact(f.th b).mpr ⟨i,c,hc,B⟩
   ·obtain⟨i,c,hc,rfl⟩:=p.w4 ph b hb
    by_cases t:c.tone=M.sw.sense
    ·exact .inl (p.w2 ph i c hc t hb)
    ·exact .inr (Zcy.mpr ⟨i,c,hc,rfl,t⟩)
  | lost=>exact absurd rfl nl
  | pass ph lt hp=>
   obtain⟨⟨s,v⟩,j⟩:=st.resolve_left (show ¬ M.sw.phase=("lost":Str) by rw[ph];decide);exact⟨th,ea,dm,me,.oth (show ¬ ("pass":Str)="begin" by decide) (show ¬ ("pass":Str)="cut" by decide) (show ¬ ("pass":Str)="back" by decide) (show ¬ ("pass":Str)="end" by decide),⟨a,⟨s,v⟩,λz=>absurd bd ε,λ_=>f.nw (by rw[ph];decide),f.th,λ_=>f.dg ph,f.ld⟩,j⟩
  | back c ph lt hc K=>
   obtain⟨⟨s,v⟩,j⟩:=st.resolve_left (show ¬ M.sw.phase=("lost":Str) by rw[ph];decide);have hn:=f.nw (by rw[ph];decide);refine⟨_,ea,_,me,.back ((f.dg ph _).mpr ⟨_,c,hc,rfl,K⟩) ((f.th _).mpr ⟨_,c,hc,rfl⟩),⟨a,⟨s,v⟩,λz=>absurd bd ε,λ_=>hn,λb=>?_,λ_ b=>?_,f.ld⟩,j⟩
   ·rw[f.th b];constructor
    ·rintro⟨⟨i,d,hd,rfl⟩,F⟩;exact⟨i,d,by rw[YD hc (λz=>F (by rw[z,hc]at hd;cases hd;rfl))];exact hd,rfl⟩
    ·rintro⟨i,d,hd,rfl⟩;obtain⟨ne,n⟩:=YC hc hd;exact⟨⟨i,d,n,rfl⟩,λz=>ne (f.tb.bu _ _ d c n hc z)⟩
   ·rw[f.dg ph b];constructor
    ·rintro⟨⟨i,d,hd,rfl,t⟩,F⟩;exact⟨i,d,by rw[YD hc (λz=>F (by rw[z,hc]at hd;cases hd;rfl))];exact hd,rfl,t⟩
    ·rintro⟨i,d,hd,rfl,t⟩;obtain⟨ne,n⟩:=YC hc hd;exact⟨⟨i,d,n,rfl,t⟩,λz=>ne (f.tb.bu _ _ d c n hc z)⟩
  | fin ph lt=>
   obtain⟨⟨s,v⟩,j⟩:=st.resolve_left (show ¬ ("rest":Str)="lost" by decide);have hn:=f.nw (by rw[ph];decide);refine⟨th,ea,dm,me,.fin λb hb=>?_,⟨a,⟨s,v⟩,λz=>absurd z a7,λ_=>hn,f.th,λz=>absurd z (show ¬ ("rest":Str)="give" by decide),f.ld⟩,j⟩;obtain⟨i,c,hc,_,t⟩:=(f.dg ph b).mp hb;have:=f.tb.gv ph i c hc t;omega
  | again ph=>exact absurd rfl nl
theorem Fw.new{room w t:Int}{hs:yW}:Fw w (xV room hs w t) (λ_=>none) eI eI eI none:=by
 have no:∀i c,cellAt (xV room hs w t) i=some c->False:=λi c hc=>by
  obtain⟨_,h⟩:=bK.mp hc;exact nomatch h
 refine⟨TB.new,⟨λ_=>False,λm hm j a=>?_,λx hx=>(nomatch hx),λ_ z=>z.elim,λz=>absurd z a7,λz=>absurd z a7,λz=>absurd z a7⟩,λz=>absurd z a7,λ_=>rfl,λb=>⟨λz=>z.elim,(by rintro ⟨i,c,hc,_⟩;exact no i c hc)⟩,λz=>absurd z (show ¬ ("rest":Str)="give" by decide),λb fs z=>nomatch z⟩;obtain⟨h,_,rfl⟩:=List.mem_map.mp (show _∈hs.map _ from hm);exact nomatch List.eq_of_mem_replicate a
end
section
variable {K:aC}{a b:AI}{g:TG}{tb:TS}{σ:St}{H:Hp}{n:ν}{r:VK}
theorem Zur(xs c:List V)(h:c.length<=xs.length)(Pv:Nat->ν)(h0:Pv 0 σ H)(hl:∀i σ H,i<=c.length->Pv i σ H->cC K H a xs/\cC K H b c)
  (hs:∀i x y t σ H,xs[i]? =some x->c[i]? =some y->Pv i σ H->H t=none->g (.ref t) σ (upd H t (.tup [x,y])) λd f=>tb ⟨Pv br,r,n,Pv br⟩ d f) (hd:∀ σ H,Pv c.length σ H->n σ H):
  ∃W:Nat->Nat->ν,(∃m,W 0 m σ H)/\∀i m σ H,W i m σ H->
   ((Itz K a b).stop i H/\n σ H)\/((Itz K a b).go i H/\∃N:ν,(∀ e H',N e H'->∃j,j<m/\W br j e H')/\∀x H',(Itz K a b).Zf i H x H'->g x σ H' λd f=>tb ⟨N,r,n,N⟩ d f):=by
 refine⟨λi m σ H=>i<=c.length/\m=c.length - i/\Pv i σ H,⟨c.length,Nat.zero_le _,rfl,h0⟩,?_⟩;rintro i m σ H ⟨hi,rfl,p⟩;obtain⟨hq,hr⟩:=hl i σ H hi p
 by_cases hk:i=c.length
 ·subst hk;exact .inl ⟨⟨xs,c,hq,hr,.inr υ⟩,hd σ H p⟩
 ·have hx:xs[i]? =some (xs[i]' δ):=bD δ;have hy:c[i]? =some (c[i]' δ):=bD δ;refine .inr ⟨⟨xs,c,_,_,hq,hr,hx,hy⟩,Pv br,λe H' k=>⟨c.length - br,δ,δ,rfl,k⟩,?_⟩;rintro v H' ⟨t,x,y,rfl,l,rfl,h1,h2⟩;exact hs i x y t σ H (h1 xs hq) (h2 c hr) p l
end
theorem Zn9{M M':Wm}{rs:List Q4}{a:List (List Rz)}(h:HF M rs a M'):a.length<=rs.length/\(a.length=rs.length\/O6 a=true):=by
 induction h with
 | nil=>exact⟨Nat.le_refl _,.inl rfl⟩
 | lost _ l=>exact⟨by show 1<=_+1;omega,.inr l⟩
 | @go M N M' r rs c a _ _ _ b=>
  obtain⟨h1,h2⟩:=b;refine⟨Nat.succ_le_succ h1,?_⟩;rcases h2 with h2 | h2
  ·exact .inl (congrArg Nat.succ h2)
  ·refine .inr ?_;cases a with
   | nil=>cases h2
   | cons x a=>
    unfold O6 at h2 ⊢;rw[List.getLast?_cons_cons];exact h2
theorem Av{a:List Rz}{z:Rz}(h:a.getLast? =some z):jr a=true↔z.1=("lost":Str):=by
 unfold jr;rw[h];exact decide_eq_true_iff
def Wh(hs:yW)(w0:Int)(M':Wm)(rs:List Q4)(b:List (List Rz))(i:Nat)(a:HD)(lk:wV)(th d c:Int->Prop)(e:Option df):Prop:=
 b=[]\/∃M,a=rowsOf M/\Fw w0 M lk th d c e/\KW M hs i/\M.sw.phase≠("lost":Str)/\HF M rs b M'
def Ws(hs:yW)(w0:Int)(N:Wm)(b:List Rz)(f:Str)(i:Nat)(a:HD)(lk:wV)(th e c:Int->Prop)(d:Option df):Prop:=
 b=[]/\f=("lost":Str)\/∃M n,a=rowsOf M/\Fw w0 M lk th e c d/\KW M hs i/\M.sw.phase≠("lost":Str)/\SwC M n b N
inductive FlQ(rl p ls:AI)(H:Hp)(Q:VK):Prop
 | mk (H0 T rs ps lg hs m w t M') (_:bB H0 H) (_:RwL H0 rl rs) (_:H0 p=some (.lst (ps.map V.ref))) (_:LgH H0 ps lg) (_:HF (xV m hs w t) rs lg M') (_:HsB hs) (_:(∀r∈rs,okW hs r)) (_:rs.length<=70) (_:0<=t) (_:t<4) (_:SlO H0 H T ls (rowsOf (xV m hs w t))) (_:∀H',Q (.bl true) H'):FlQ rl p ls H Q
def yC(K:aC):Sp:=λvs H Q E=>∃a p b,vs=[.ref a,.ref p,.ref b]/\FlQ a p b H Q
section
variable {hs:yW}{w0:Int}{N M':Wm}{es:List Rz}{i:Nat}{rw':HD}{lk:wV}{th ea dm:Int->Prop}{me:Option df}
theorem Ws.turn{z:Rz}{o:Str}(hb:HsB hs)(hi:i<=100)(h:Ws hs w0 N (z::es) o i rw' lk th ea dm me):∃bs a c b d,RcB rw' lk bs/\StC rw' lk th ea dm me z a c b d/\Ws hs w0 N es z.1 i rw' lk a c b d:=by
 rcases h with ⟨h,_⟩ | ⟨M,n,rfl,f,kw,nl,sw⟩
 ·cases h
 have rc:=f.rc kw hb hi;cases sw with
 | @lost _ M1 n e st l=>
  have l:(evz e).1=("lost":Str):=l;exact⟨_,th,ea,dm,me,rc,.oth (by rw[l];decide) (by rw[l];decide) (by rw[l];decide) (by rw[l];decide),.inl ⟨rfl,l⟩⟩
 | @go _ M1 _ n e es st l g=>
  obtain⟨a,c,b,d,m,j,k⟩:=f.step kw hi st l;refine⟨_,a,c,b,d,rc,m,.inr ⟨M1,n,k.symm,j,kw.step st,λz=>?_,g⟩⟩;cases st with
  | lost=>exact absurd rfl l
  | again ph=>exact absurd ph nl
  | begin ph=>rw[Vd]at z;exact absurd ((Up.notes (RD cT M.hands 0) (jA M)).ph.symm.trans z) (show ¬ ("walk":Str)="lost" by decide)
  | walk _ _ _ ph=>rw[(Up.notes _ _).ph]at z;exact nl z
  | look p ph hg q hN=>subst hN;rw[Vd]at z;exact nl ((Up.notes (RD bi M.hands 0) M).ph.symm.trans z)
  | cut=>exact absurd z eC
  | pass=>exact nl z
  | back=>exact nl z
  | fin=>exact absurd z (show ¬ ("rest":Str)="lost" by decide)
end
section
variable {K:aC}{H:Hp}{Q:VK}{E:XK}{n:ν}{bk ct:ν}{rl p ls:AI}
theorem Hs(q:FlQ rl p ls H Q):sX K (Zbq K) Zbp (QK K) ξ [↑rl,↑p,↑ls,none,none,none,none,none,none] H:=by
 obtain⟨I,T,rs,ps,C,hs,m,w,t,M',sm,⟨ra,Z,lra,hro⟩,hp,al,run,hb,okr,l70,t0,t1,sl,q⟩:=q;obtain⟨Zzd,Zvz⟩:=Zn9 run;have lps:=al.length;unfold sX;ext;intro D nD;have m1:Mv H (upd H D (.dK [])) T (cN T D (3,0)) eQ:=Mv.new nD;have sm1:=sm.trans (aL nD (.dK []));have oD:Ob I (upd H D (.dK [])) (cN T D (3,0)) D (3,0) (.dK []):=⟨aq,sm.free nD,cH⟩;generalize upd H D (.dK [])=H1 at m1 sm1 oD ⊢;generalize cN T D (3,0)=T1 at m1 oD;have sl1:=sl.mv m1 λ_ _=>trivial;ext;intro v nTl;simp only[Wk];have m2:Mv H1 (upd H1 v (.dK [])) T1 (cN T1 v (5,0)) eQ:=Mv.new nTl;have sm2:=sm1.trans (aL nTl (.dK []));have oT:Ob I (upd H1 v (.dK [])) (cN T1 v (5,0)) v (5,0) (.dK []):=⟨aq,sm1.free nTl,cH⟩;generalize upd H1 v (.dK [])=H2 at m2 sm2 oT ⊢;generalize cN T1 v (5,0)=T2 at m2 oT;have sl2:=sl1.mv m2 λ_ _=>trivial;have oD2:=oD.mv m2 trivial;ext;intro L nA1;have m3:Mv H2 (upd H2 L (.dK [])) T2 (cN T2 L (6,0)) eQ:=Mv.new nA1;have sm3:=sm2.trans (aL nA1 (.dK []));have o1:Ob I (upd H2 L (.dK [])) (cN T2 L (6,0)) L (6,0) (.dK []):=⟨aq,sm2.free nA1,cH⟩;generalize upd H2 L (.dK [])=H3 at m3 sm3 o1 ⊢;generalize cN T2 L (6,0)=T3 at m3 o1;ext;intro U nA2;have m4:Mv H3 (upd H3 U (.dK [])) T3 (cN T3 U (7,0)) eQ:=Mv.new nA2;have sm4:=sm3.trans (aL nA2 (.dK []));generalize upd H3 U (.dK [])=H4 at m4 sm4 ⊢;generalize cN T3 U (7,0)=T4 at m4;ext;intro J nA4;have m5:Mv H4 (upd H4 J (.dK [])) T4 (cN T4 J (9,0)) eQ:=Mv.new nA4;have sm5:=sm4.trans (aL nA4 (.dK []));have o4:Ob I (upd H4 J (.dK [])) (cN T4 J (9,0)) J (9,0) (.dK []):=⟨aq,sm4.free nA4,cH⟩;generalize upd H4 J (.dK [])=H5 at m5 sm5 o4 ⊢;generalize cN T4 J (9,0)=T5 at m5 o4;have sl5:=((sl2.mv m3 λ_ _=>trivial).mv m4 λ_ _=>trivial).mv m5 λ_ _=>trivial;have oD5:=((oD2.mv m3 trivial).mv m4 trivial).mv m5 trivial;have oT5:=((oT.mv m3 trivial).mv m4 trivial).mv m5 trivial;have o15:=(o1.mv m4 trivial).mv m5 trivial;apply⟨oT5.1,Am L U .non J,rfl,show 4<=15 by decide,?_⟩;rw[show GZ [] (Am L U .non J)=Am L U .non J from rfl];have m6:Mv H5 (upd H5 v (.dK (Am L U .non J))) T5 T5 (·≠(5,0)):=Mv.upd oT5;have b6:Bo I (upd H5 v (.dK (Am L U .non J))) T5 ls D v (rowsOf (xV m hs w t)) (λ_=>none) eI eI eI none 100:=by
  refine⟨oT5.sm sm5,sl5.mv m6 (λt h e=>by rw[e]at h;rcases h with h | h<;>cases h),⟨[],λ_=>none,oD5.mv m6 ζ,Nat.zero_le _,λ_=>rfl,λb=>⟨λ_=>rfl,λfs z=>fq⟩⟩,L,U,.non,J,⟨aq,oT5.2⟩,.nil (o15.mv m6 ζ) λ_=>id,.nil (o4.mv m6 ζ) λ_=>id,.inl ⟨rfl,rfl⟩⟩
 generalize upd H5 v (.dK (Am L U .non J))=H6 at b6 ⊢;have wh0:Wh hs w M' rs C 0 (rowsOf (xV m hs w t)) (λ_=>none) eI eI eI none:=.inr ⟨_,rfl,Fw.new,KW.new t0 t1,show ¬ ("rest":Str)="lost" by decide,run⟩;apply Zwd ?_;exists rl,p,rfl,⟨_,cC.of (b6.sm _ _ Z)⟩,⟨_,cC.of (b6.sm _ _ hp)⟩;refine Zur (ra.map V.ref) (ps.map V.ref) (by rw[aY,aY];omega) (λi W R=>∃T X lk th E A B k u v6 v7 F,W=[↑rl,↑p,↑ls,↑D,↑v,some u,v6,v7,F]/\Bo I R T ls D v X lk th E A B k/\100<=k/\k<=100+102 * i/\Wh hs w M' (rs.drop i) (C.drop i) i X lk th E A B/\(O6 (C.take i)=true->u=.str "lost")) ⟨T5,_,_,_,_,_,_,100,_,_,_,_,rfl,b6,Nat.le_refl _,Nat.le_refl _,wh0,λz=>by rw[List.take_zero]at z;cases z⟩ (by rintro _ _ _ _ ⟨_,_,_,_,_,_,_,_,_,_,_,_,_,o,_⟩;exact⟨cC.of (o.sm _ _ Z),cC.of (o.sm _ _ hp)⟩) ?_ ?_
 ·rintro i x y tt W R hix hiy ⟨T,X,lk,th,E,A,B,k,u,v6,v7,F,rfl,o,hk0,hk1,wh,_⟩ ntt;rw[cg]at hix hiy;obtain⟨c,hrow,rfl⟩:=Option.map_eq_some_iff.mp hix;obtain⟨pe,hpe,rfl⟩:=Option.map_eq_some_iff.mp hiy;obtain⟨r,hr,f⟩:=hro i c hrow;obtain⟨O,hes,as,oas,ale⟩:=al.getL hpe;have hil:i<C.length:=(cG hes).1;have lae:=ale.length;have edl:C.drop i=O::C.drop br:=by rw[List.drop_eq_getElem_cons hil];congr 1;exact(cG hes).2
  have edr:rs.drop i=r::rs.drop br:=by
   have hir:=(cG hr).1;rw[List.drop_eq_getElem_cons hir];congr 1;exact(cG hr).2
  have etk:C.take br=C.take i++[O]:=by rw[List.take_add_one,hes];rfl
  have o:=o.mv (aL ntt (.tup [.ref c,.ref pe]));have ot:upd R tt (.tup [.ref c,.ref pe]) tt=some (.tup [.ref c,.ref pe]):=aq;generalize upd R tt (.tup [.ref c,.ref pe])=H7 at o ot ⊢;obtain⟨M,rfl,fo,kw,nl,Y⟩:∃M,X=rowsOf M/\Fw w M lk th E A B/\KW M hs i/\M.sw.phase≠("lost":Str)/\HF M (rs.drop i) (C.drop i) M':=by
   rcases wh with wh | wh
   ·rw[edl]at wh;cases wh
   ·exact wh
  rw[edl,edr]at Y;have okw:=okr r (List.mem_of_getElem? hr);refine⟨tt,_,rfl,cP.of ot,rfl,_,_,rfl,?_⟩;exists _,_,rfl;exists rfl;ext;cases r with
  | sw nn=>
   have f:I c=some (.tup [.str "sweep",.int nn]):=f;obtain⟨N,sw,hN⟩:∃N,SwC M nn O N/\(C.drop br=[]\/(jr O=false/\HF N (rs.drop br) (C.drop br) M')):=by
    cases hg:C.drop br with
    | nil=>
     rw[hg]at Y;cases Y with
     | lost h _=>exact⟨_,h,.inl rfl⟩
     | go h _ _=>exact⟨_,h,.inl rfl⟩
    | cons e1 l1=>
     rw[hg]at Y;cases Y with
     | go h1 h2 h3=>exact⟨_,h1,.inr ⟨h2,h3⟩⟩
   refine⟨pe,rfl,⟨_,cC.of (o.sm _ _ oas)⟩,forL (as.map V.ref) (λj W R=>∃T th E A B u F zl,W=[↑rl,↑p,↑ls,↑D,↑v,some u,↑c,↑pe,F]/\Bo I R T ls D v ad lk th E A B k/\Ws hs w N (O.drop j) zl i ad lk th E A B/\(j=0\/∃z,O[j - 1]? =some z/\zl=z.1/\u=.str z.1)) ⟨T,th,E,A,B,u,F,"",rfl,o,.inr ⟨M,nn,rfl,fo,kw,nl,sw⟩,.inl rfl⟩ (by rintro _ _ _ _ ⟨_,_,_,_,_,_,_,_,_,o,_⟩;exact cC.of (o.sm _ _ oas)) ?_ ?_⟩
   ·rintro j x W Hy hj ⟨T,th,E,A,B,u,F,zl,rfl,o,ws,_⟩;rw[cg]at hj;obtain⟨a,ha,rfl⟩:=Option.map_eq_some_iff.mp hj;obtain⟨z,hz,l,oa,ol⟩:=ale.getL ha;have hjl:=(cG hz).1;have ed:O.drop j=z::O.drop (j+1):=by rw[List.drop_eq_getElem_cons hjl];congr 1;exact(cG hz).2
    rw[ed]at ws;obtain⟨bs,th',ea',dm',RM,rc,st,ws'⟩:=ws.turn hb δ;exists _,rfl,z.1,z.2.1,l,_,o.sm _ _ oa,o.sm _ _ ol;exists a,_,0,_,rfl,rfl,cP.of (o.sm _ _ oa),rfl;exists c,_,0,_,rfl,rfl,cP.of (o.sm _ _ f),rfl;apply j9 Δ c6;apply⟨_,_,_,_,rfl,I,T,rowsOf M,lk,th,E,A,B,k,z,l,bs,th',ea',dm',RM,o,δ,hk0,oa,ol,rc,st,λH' T' o'=>?_⟩;apply⟨T',th',ea',dm',RM,_,_,z.1,rfl,o',ws',.inr ⟨z,hz,rfl,rfl⟩⟩
   ·rintro W Hy ⟨T,th,E,A,B,u,F,zl,rfl,o,ws,hl⟩;rw[aY,lae]at ws hl;rw[List.drop_length]at ws;have P:∀z,O.getLast? =some z->zl=z.1/\u=.str z.1:=λz hz=>by
     rcases hl with hl | ⟨z',h1,h2,h3⟩
     ·rw[List.length_eq_zero_iff.mp hl]at hz;cases hz
     ·rw[List.getLast?_eq_getElem?,h1]at hz;cases hz;exact⟨h2,h3⟩
    refine⟨T,rowsOf M,lk,th,E,A,B,k,u,_,_,F,rfl,o,hk0,δ,?_,λz=>?_⟩
    ·rcases hN with hN | ⟨hf,hr2⟩
     ·exact .inl hN
     ·rcases ws with ⟨_,zl0⟩ | ⟨M1,n1,er,f1,kw1,nl1,sw1⟩
      ·exfalso
       cases hz:O.getLast? with
       | none=>
        have:=List.getLast?_eq_none_iff.mp hz;subst this;cases sw;rcases hl with _ | ⟨z',h1,_⟩
        ·have:=okw.1;omega
        ·cases h1
       | some z=>
        have:=(Av hz).mpr ((P z hz).1.symm.trans zl0);rw[hf]at this;cases this
      ·cases sw1;exact .inr ⟨_,er,f1,kw1.mono δ,nl1,hr2⟩
    ·rw[etk,u6]at z;cases hz:O.getLast? with
     | none=>rw[List.getLast?_eq_none_iff.mp hz]at z;cases z
     | some y=>rw[(P y hz).2,(Av hz).mp z]
  | dd d=>
   have f:I c=some (.tup (dV d)):=f;have okd:okR hs d:=okw;obtain⟨rfl,hN⟩:O=[jY bE]/\(C.drop br=[]\/HF (stM M bE) (rs.drop br) (C.drop br) M'):=by
    cases hg:C.drop br with
    | nil=>
     rw[hg]at Y;cases Y with
     | lost h _=>exact⟨h.1,.inl rfl⟩
     | go h _ _=>exact⟨h.1,.inl rfl⟩
    | cons e1 l1=>
     rw[hg]at Y;cases Y with
     | go h1 _ h3=>obtain⟨h1,h2⟩:=h1;subst h2;exact⟨h1,.inr h3⟩
   obtain⟨a,rfl⟩:∃a,as=[a]:=by
    cases as with
    | nil=>cases lae
    | cons a as=>cases as with
     | nil=>exact⟨a,rfl⟩
     | cons b as=>cases lae
   obtain⟨_,hz,l,oa,ol⟩:=ale.getL (i:=0) (x:=a) rfl;cases hz;obtain⟨cd,er,f1⟩:=fo.deed kw okd;have kw1:KW (stM M bE) hs br:=by
    cases h:dN M d with
    | error r=>exact kw.mono δ
    | ok x=>exact kw.deed okd h
   have nl1:(stM M bE).sw.phase≠("lost":Str):=by
    cases h:dN M d with
    | error r=>exact nl
    | ok x=>obtain⟨g,hg⟩:=Yw h;show x.2.sw.phase≠_;rw[hg];exact nl
   have rc:=f1.rc kw1 hb δ;rw[<- er]at rc;obtain⟨S,bq⟩:=fo.bq;refine⟨pe,rfl,⟨_,cC.of (o.sm _ _ oas)⟩,forL [V.ref a] (λj W R=>∃u F,W=[↑rl,↑p,↑ls,↑D,↑v,some u,↑c,↑pe,F]/\bB I R/\((j=0/\Bo I R T ls D v ad lk th E A B k)\/(j=1/\u=.str (jY bE).1/\∃T',Bo I R T' ls D v (zf ad lk (jY bE) d).1 (zf ad lk (jY bE) d).2 (thD th (jY bE) d) E A (meU (zf ad lk (jY bE) d).1 (zf ad lk (jY bE) d).2 B) (k+102)))) ⟨u,F,rfl,o.sm,.inl ⟨rfl,o⟩⟩ (by rintro _ _ _ _ ⟨_,_,_,s,_⟩;exact cC.of (s _ _ oas)) ?_ ?_⟩
   ·rintro j x W Hy hj ⟨u,F,rfl,s,h⟩;rcases h with ⟨rfl,o⟩ | ⟨rfl,_⟩
    ·cases hj;exists _,rfl,_,_,l,_,o.sm _ _ oa,o.sm _ _ ol;exists a,_,0,_,rfl,rfl,cP.of (o.sm _ _ oa),rfl;exists c,_,0,_,rfl,rfl,cP.of (o.sm _ _ f),wd0 d;apply j9 (λy=>absurd y (Zte d)) Δ;apply⟨_,_,_,_,_,rfl,I,T,rowsOf M,lk,th,E,A,B,k,d,jY bE,brs (stM M bE),l,o,δ,f,oa,cd,λr hr b hb=>?_,rc,λH' T' o'=>?_⟩
     ·obtain⟨_,fs,hf⟩:=Bq.lnk bq (.root hr hb);rw[hf];exact λy=>nomatch y
     ·apply⟨_,_,rfl,o'.sm,.inr ⟨rfl,rfl,T',o'⟩⟩
    ·cases hj
   ·rintro W Hy ⟨u,F,rfl,s,h⟩;rcases h with ⟨z,_⟩ | ⟨_,rfl,T',o'⟩
    ·cases z
    rw[er]at o';refine⟨T',_,_,_,_,_,_,k+102,_,_,_,F,rfl,o',δ,δ,?_,λz=>?_⟩
    ·rcases hN with hN | hN
     ·exact .inl hN
     ·exact .inr ⟨_,rfl,f1,kw1,nl1,hN⟩
    ·rw[etk,u6]at z;rw[(Av (z:=jY bE) rfl).mp z]
 ·rintro W R ⟨T,X,lk,th,E,A,B,k,u,v6,v7,F,rfl,o,hk0,hk1,wh,P⟩;rw[aY,lps,List.take_length]at P;apply eZ (cC.of (o.sm _ _ hp)) ?_;apply eZ (cC.of (o.sm _ _ Z)) ?_;rw[aY,aY];apply j9 (λ_=>q _) (λe=>?_);have hlt:O6 C=true:=Zvz.resolve_left λz=>e (by rw[lps,lra,z]);rw[P hlt];apply eZ (cC.of (o.sm _ _ hp)) ?_;apply eZ (cC.of (o.sm _ _ Z)) ?_;rw[aY,aY];apply j9 Δ (λy=>absurd δ y);ext;rw[decide_eq_true rfl];exact q _
end
inductive Zmk(K:aC)(a:AI)(H:Hp)(Q:VK):Prop
 | mk (ns:AE) (_:cC K H a (ns.map V.int)) (_:ns.length<=63) (_:∀H',Q (.bl true) H'):Zmk K a H Q
def Zgc(K:aC):Sp:=λvs H Q E=>∃a,vs=[.ref a]/\Zmk K a H Q
theorem Zv3(ns:AE):∃cs:AE,Yx (ns.map V.int) (some 3) (some 63)=cs.map V.int/\cs.length<=60:=by
 refine⟨(ns.drop (HT.jX ns.length 0 (some 3))).take (HT.jX ns.length ns.length (some 63) - HT.jX ns.length 0 (some 3)),?_,?_⟩
 ·unfold Yx;rw[List.map_take,List.map_drop,aY]
 ·rw[List.length_take];have:HT.jX ns.length ns.length (some 63) - HT.jX ns.length 0 (some 3)<=60:=by
   simp only[HT.jX];rw[if_neg ε,if_neg ε];omega
  omega
theorem RwL.same{H H':Hp}{l:AI}{rs:List Q4}(h:RwL H l rs)(s:bB H H'):RwL H' l rs:=by
 obtain⟨c,h1,h2,b⟩:=h;exact⟨c,s _ _ h1,h2,λi a d=>let ⟨x,e,q⟩:=b i a d;⟨x,e,s _ _ q⟩⟩
theorem RwL.app{H:Hp}{l t:AI}{rs:List Q4}{r:Q4}{f:AF}(h:RwL H l rs)(g:H l=some (.lst (f.map V.ref)))(n:H t=some (.tup (rV r))):RwL (upd H l (.lst ((f++[t]).map V.ref))) l (rs++[r]):=by
 obtain⟨a,h1,h2,m⟩:=h;have e:a=f:=by
  rw[g]at h1;exact((List.map_inj_right λx y z=>V.ref.inj z).mp (HO.lst.inj (Option.some.inj h1))).symm
 subst e;have ne:∀b d,H b=some (.tup d)->upd H l (.lst ((a++[t]).map V.ref)) b=some (.tup d):=λb d hb=>(aA λz=>by rw[z,g]at hb;cases hb).trans hb;refine⟨a++[t],aq,by rw[List.length_append,List.length_append,h2];rfl,λi c hc=>?_⟩
 by_cases hi:i<a.length
 ·rw[List.getElem?_append_left hi]at hc;obtain⟨x,k,o⟩:=m i c hc;exact⟨x,by rw[List.getElem?_append_left δ];exact k,ne _ _ o⟩
 ·rw[List.getElem?_append_right δ]at hc ⊢;have hz:=(cG hc).1;have j:i - a.length=0:=by rw[List.length_singleton]at hz;omega
  rw[j]at hc;cases hc;exact⟨r,by rw[show i - rs.length=0 by omega];rfl,ne _ _ n⟩
theorem MP{m w t:Int}{hs:yW}:rowsOf (xV m hs w t)=hs.map λx=>List.replicate x.2.toNat none:=by
 show(hs.map _).map _=_;rw[List.map_map];refine List.map_congr_left λx _=>?_;show(List.replicate _ none).map _=_;rw[List.map_replicate];rfl
section
variable {K:aC}{X:Cs}{cj:AI}{H:Hp}{Q:VK}{E:XK}{n:ν}{bk ct:ν}
theorem Zqs{sc:AI}{v:V}(TT:TxS K X cj)(q:∃d,v=oN d/\Zt9 cj X sc d H Q):
  Zj9 K Zbo (Zg8 X) (V9 cj X) ξ [↑sc,some v,none,none,none] H:=by
 obtain⟨d,rfl,dx,m,kd,hl,rl,lk,w,t,hs,rs,o,kk,t0,t1,hls,hb,⟨j,hr,len,hrow⟩,h1,rok,h⟩:=q;unfold Zj9;apply⟨sc,rfl,λ_=>(0,0),1,dx,m,kd,hl,rl,lk,w,t,hs,o,kk,hls,hb,λ_ _=>rfl,ε,rfl,rfl,λH1 T1 A s1 tg1 wt1 j1=>?_⟩;apply⟨ε,λp hp=>?_⟩;have st2:eO 7 H1 (upd H1 p (.lst [])) T1 (cN T1 p (7,0)):=eO.fresh wt1 hp;have j2:=j1.other st2 ε ε;have s2:=s1.trans (aL hp (.lst []));have tp2:cN T1 p (7,0) p=(7,0):=cH;have tg2:∀b o,H b=some o->cN T1 p (7,0) b=(0,0):=λb o hb=>by rw[st2.tg _ _ (s1 _ _ hb)];exact tg1 b o hb
 have c2:upd H1 p (.lst []) p=some (.lst (([]:AF).map V.ref)):=aq;have fp:H p=none:=s1.free hp;have M:=st2.wt;generalize cN T1 p (7,0)=T2 at st2 j2 tp2 tg2 M;generalize upd H1 p (.lst [])=H2 at st2 j2 s2 c2 M ⊢;apply aJ (s2 _ _ o) TT.oA TT.Zko Ml ?_;ext;have cut:∃hi:AA,((oN d=.non/\hi=none)\/∃i,oN d=.int i/\hi=some i)/\Yx (j.map V.ref) none hi=(j.take fi).map V.ref:=by
  cases d with
  | none=>
   refine⟨none,.inl ⟨rfl,rfl⟩,?_⟩;unfold Yx;rw[show HT.jX (j.map V.ref).length 0 none=0 from rfl,show HT.jX (j.map V.ref).length (j.map V.ref).length none=(j.map V.ref).length from rfl,List.drop_zero,Nat.sub_zero,List.take_length];show _=(j.take rs.length).map V.ref;rw[<- len,List.take_length]
  | some k=>
   refine⟨some k,.inr ⟨_,rfl,rfl⟩,?_⟩;unfold Yx;rw[HT.Zj7,List.drop_zero,Nat.sub_zero];show _=(j.take k).map V.ref;have:HT.jX (j.map V.ref).length (j.map V.ref).length (some (k:Int))=min k j.length:=by
    rw[aY];simp only[HT.jX];rw[if_neg δ];omega
   rw[this,List.map_take];rcases Nat.le_total k j.length with z | z
   ·rw[Nat.min_eq_left z]
   ·rw[Nat.min_eq_right z,List.take_of_length_le (by rw[aY];exact Nat.le_refl _),List.take_of_length_le (by rw[aY];exact z)]
 obtain⟨hi,ehi,Zsw⟩:=cut;have key:∀R:VK,Zgx K (.ref rl) none hi H2 R->(oN d=.non/\Zgx K (.ref rl) none none H2 R)\/∃i,oN d=.int i/\Zgx K (.ref rl) none (some i) H2 R:=λR Z=>by
  rcases ehi with ⟨e1,e2⟩ | ⟨i,e1,e2⟩
  ·rw[e2]at Z;exact .inl ⟨e1,Z⟩
  ·rw[e2]at Z;exact .inr ⟨i,e1,Z⟩
 refine key _ ?_;refine⟨rl,_,rfl,cC.of (s2 _ _ hr),λql hq=>?_⟩;rw[Zsw];have okt:∀r∈rs.take fi,okW hs r:=λr hr=>rok r (List.mem_of_mem_take hr);have W:∀(i:Nat) a,(j.take fi)[i]? =some a->∃r,(rs.take fi)[i]? =some r/\H a=some (.tup (rV r)):=λi a Y=>by
  have hi:i<d.getD rs.length:=by
   have:=(cG Y).1;rw[List.length_take]at this;omega
  rw[List.getElem?_take_of_lt hi]at Y ⊢;exact hrow i a Y
 have C:(j.take fi).length=(rs.take fi).length:=by rw[List.length_take,List.length_take,len]
 have Za6:(j.take fi).length<=100:=by rw[List.length_take];omega
 generalize rs.take fi=rt at okt W C h;generalize j.take fi=at' at W C Za6 ⊢;generalize zz:upd H2 ql _=H3;obtain⟨s3,c3⟩:=nwO hq zz;have tq:T2 ql=(0,0):=M ql hq;have cp3:=s3 _ _ c2;have j3:=j2.same s3;have wt3:=M.same s3;have s03:=s2.trans s3;have k0:KW (xV m hs w t) hs 0:=KW.new t0 t1;refine⟨ql,rfl,⟨_,cC.of c3⟩,forL (at'.map V.ref) (λi σ u=>∃J Ax N s E v4,σ=[↑sc,some (oN d),↑A.wo,↑p,v4]/\bB H u/\(∀b o,H b=some o->J b=(0,0))/\(u ql=some (.lst (at'.map V.ref))/\J ql=(0,0))/\WT u J/\WJ X u J 1 Ax N/\Ax.wo=A.wo/\KW N hs i/\Nl N/\(u p=some (.lst (s.map V.ref))/\J p=(7,0))/\LgR H3 u J 1 s E/\E.length<=i/\(∀b o,H3 b=some o->∃o',u b=some o')/\∀B y S,HF N B y S->HF (xV m hs w t) (rt.take i++B) (E++y) S) ⟨T2,A,_,[],[],none,rfl,s03,tg2,⟨c3,tq⟩,wt3,j3,rfl,k0,Nl.new,⟨cp3,tp2⟩,.nil,Nat.le_refl _,λb o hb=>⟨o,hb⟩,λB y S h=>h⟩ (by rintro i σ u _ ⟨_,_,_,_,_,_,_,_,_,⟨c,_⟩,_⟩;exact cC.of c) ?_ ?_⟩
 ·rintro i v σ u hv ⟨J,Ax,N,s,E,v4,rfl,sx,F,⟨cq,L⟩,wtx,jx,aw,kx,nl,⟨cp,T⟩,I,hlg,al,co⟩;rw[cg]at hv;obtain⟨a,Y,rfl⟩:=Option.map_eq_some_iff.mp hv;obtain⟨r,er,hd⟩:=W i a Y;have hi:=(cG Y).1;have et:rt.take br=rt.take i++[r]:=by rw[List.take_add_one,er];rfl
  exists .inl ⟨rfl,_,cC.of cp⟩;apply⟨A.wo,a,rfl,J,1,Ax,N,r,hs,i,wtx,ε,jx,aw,sx _ _ hd,okt r (List.mem_of_getElem? er),kx,hb,δ,nl,λU as' S Hy Ty Ay b rr ne le kw' g jy awy ev hbb fb tb=>?_⟩;have P:=g.kp _ _ cp (by rw[T];decide);have tpy:Ty p=(7,0):=by rw[g.tg _ _ cp];exact T
  have lps:s.length=E.length:=I.length;apply⟨p,_,_,rfl,rfl,P,by rw[aY,sizeLine_eq];omega,?_⟩;have D:eO 7 Hy (upd Hy p (.lst (s.map V.ref++[.ref b]))) Ty Ty:=eO.upd g.wt P (by rw[tpy]);have jz:=jy.other D ε ε;have fr3:∀c,u c=none->H3 c=none:=λc hc=>by
   cases z:H3 c with
   | none=>rfl
   | some o=>obtain⟨o',e⟩:=al c o z;rw[hc]at e;cases e
  have O:LgR H3 (upd Hy p (.lst (s.map V.ref++[.ref b]))) Ty 1 (s++[b]) (E++[U]):=LgR.put (Al.app (I.mv ε g) ⟨as',hbb,fr3 _ fb,tb,ev.mono (by rintro a x ⟨l,f,h⟩;exact⟨l,fr3 _ f,h⟩)⟩) cp3 P;have cz:upd Hy p (.lst (s.map V.ref++[.ref b])) p=some (.lst ((s++[b]).map V.ref)):=by rw[aq,List.map_append];rfl
  have sxz:bB H (upd Hy p (.lst (s.map V.ref++[.ref b]))):=λc o hc=>D.kp _ _ (g.kp _ _ (sx _ _ hc) (by rw[F c o hc];decide)) (by rw[g.tg _ _ (sx _ _ hc),F c o hc];decide);exists p,rfl,s++[b],E++[U],cz,O.h;rw[u6];refine⟨jr U,rfl,?_⟩;cases z:jr U with
  | true=>
   ext;have rn:=co (r::rt.drop br) [U] S (.lost rr z);have ed:rt.take i++r::rt.drop br=rt:=by
    have:=List.take_append_drop br rt;rw[et,List.append_assoc]at this;exact this
   rw[ed]at rn;exact h _ p _ _ S sxz rn cz O.h fp
  | false=>
   ext;have cqy:=g.kp _ _ cq (by rw[L];decide);refine⟨Ty,Ay,S,s++[b],E++[U],_,rfl,sxz,λc o hc=>by rw[g.tg _ _ (sx _ _ hc)];exact F c o hc,⟨D.kp _ _ cqy (by rw[g.tg _ _ cq,L];decide),by rw[g.tg _ _ cq];exact L⟩,D.wt,jz,awy,kw',(rr.nl nl z),⟨cz,tpy⟩,O,by rw[List.length_append];show _+1<=_;omega,λc o hc=>?_,λB y M'' Z=>?_⟩
   ·obtain⟨o1,e1⟩:=al c o hc;obtain⟨o2,e2⟩:=g.al c o1 e1;exact D.al c o2 e2
   ·rw[et,List.append_assoc,List.append_assoc];exact co (r::B) (U::y) M'' (.go rr z Z)
 ·rintro σ u ⟨J,Ax,N,s,E,v4,rfl,sx,F,⟨cq,L⟩,wtx,jx,aw,kx,nl,⟨cp,T⟩,I,hlg,al,co⟩;ext;have rn:=co [] [] N (.nil N);rw[List.append_nil,List.append_nil,aY,C,List.take_length]at rn;exact h u p s E N sx rn cp I.h fp
theorem Zd6{l:AI}{hs:yW}{m w t:Int}{σ:St}(u:HsO H l hs)(hb:HsB hs)(h:∀p H' T,bB H H'->SlO H H' T p (rowsOf (xV m hs w t))->Q (.ref p) H'):Zmu K (Itl K l) [] G.vK (aZ (Zgy) (iM (ak bp aG)) χ) σ H Q:=by
 obtain⟨ts,h1,al⟩:=u;have J:=al.length;have n5:=hb.n5;refine⟨λi m o H'=>m=hs.length - i/\i<=hs.length/\bB H H'/\∃(T:Tg) (c:AF),o=c.map V.ref/\c.length=i/\∀(j:Nat) r x,c[j]? =some r->hs[j]? =some x->Ob H H' T r (2,j) (.lst ((List.replicate x.2.toNat none).map oV)),⟨_,rfl,Nat.zero_le _,bB.refl _,λ_=>(0,0),[],rfl,rfl,λj r x z=>nomatch z⟩,?_⟩;rintro i m o L ⟨rfl,hi,b,T,c,rfl,f,hr⟩
 by_cases hk:i=hs.length
 ·refine .inl ⟨⟨_,cC.of (b _ _ h1),by rw[aY];omega⟩,λp k=>?_⟩;refine h p _ (cN T p (1,0)) (b.trans (aL k _)) ⟨c,⟨aq,b.free k,cH⟩,by rw[MP,aY];omega,λj r x a e=>?_⟩;rw[MP,cg]at e;obtain⟨y,e3,rfl⟩:=Option.map_eq_some_iff.mp e;exact(hr j r y a e3).mv (Mv.new k) trivial
 ·have d:i<ts.length:=δ
  obtain⟨x,hx,A⟩:=al.getL (bD d);have M:=hb.sb x (List.mem_of_getElem? hx);have F:(1000000:Nat)<=sizeLine:=ε
  refine .inr ⟨⟨_,_,cC.of (b _ _ h1),by rw[cg,bD d];rfl⟩,by rw[aY];omega,λv H' y=>?_⟩;obtain⟨rfl,y⟩:=y;have ev:=y _ (cC.of (b _ _ h1));rw[cg,bD d]at ev;cases ev;refine⟨_,_,_,rfl,cP.of (b _ _ A),?_⟩;apply⟨ε,λq n=>?_⟩;generalize zz:upd H' q _=Ha;obtain⟨sa,ga⟩:=nwO n zz;have B:Mv H' (Ha) T T eQ:=Mv.same sa;apply⟨q,x.2,_,rfl,rfl,ga,δ,δ,by show 1 * x.2.toNat<=sizeLine;omega,λr g=>?_⟩;rw[Zf0];have C:Mv Ha (upd Ha r (.lst ((List.replicate x.2.toNat none).map oV))) T (cN T r (2,i)) eQ:=Mv.new g;refine⟨hs.length - br,δ,rfl,δ,b.trans (sa.trans (aL g _)),cN T r (2,i),c++[r],by rw[List.map_append];rfl,by rw[List.length_append,f];rfl,λj E I a e=>?_⟩
  by_cases s:j<c.length
  ·rw[List.getElem?_append_left s]at a;exact((hr j E I a e).mv B trivial).mv C trivial
  ·rw[List.getElem?_append_right δ]at a;have hz:=(cG a).1;rw[List.length_singleton]at hz;have D:j=i:=δ
   subst D;rw[show j - c.length=0 by omega]at a;cases a;rw[hx]at e;cases e;exact⟨aq,b.free (sa.free g),cH⟩
theorem Zro{a:AI}(TT:TxS K X cj)(q:Zmk K a H Q):
  Zcl K cj (vD cj) (Zek K) Bp (yC K) Y6 (Y5 X) Zei (Y4 K) (Zmm cj X) ξ [↑a,none,none,none,none,none,none] H:=by
 obtain⟨ns,hS,hlen,h⟩:=q;obtain⟨cs,Zsw,cl⟩:=Zv3 ns;unfold Zcl;apply⟨a,_,rfl,ns,hS,ε,λz1=>?_⟩;apply⟨_,rfl,λl hs H1 s1 nl D hb=>?_⟩;apply⟨a,_,rfl,ns,s1.seq hS,ε,λz2=>?_⟩;apply⟨a,_,rfl,s1.seq hS,λcp R=>?_⟩;rw[Zsw];generalize zz:upd H1 cp _=H2;obtain⟨Y,c2⟩:=nwO R zz;have L:=s1.trans Y;apply⟨cp,l,_,_,rfl,cs,hs,cC.of c2,δ,D.same Y,hb,ε,ε,λf rs H3 s3 u d Zvo P=>?_⟩;have E:=D.same Y;ext;obtain⟨A,B,r2,r3⟩:=id d;refine⟨.inl ⟨rfl,_,cC.of B⟩,?_⟩;apply⟨_,_,_,rfl,ε,ε,ε,λz y0 y1=>?_⟩;obtain⟨z,rfl⟩:=Int.eq_ofNat_of_zero_le y0;apply⟨show 2<=sizeLine by decide,λt nt=>?_⟩;have st:=aL nt (.tup [.str "sweep",.int (1+(z:Int))]);have gt:upd H3 t (.tup [.str "sweep",.int (1+(z:Int))]) t=some (.tup (rV (.sw (1+z)))):=by
  rw[aq];show some (HO.tup [V.str "sweep",V.int (1+(z:Int))])=some (HO.tup [V.str "sweep",V.int ((1+z:Nat):Int)]);rw[Int.natCast_add];rfl
 generalize upd H3 t (.tup [.str "sweep",.int (1+(z:Int))])=U at st gt ⊢
 replace d:=d.same st
 replace B:=st _ _ B
 have k:=s3.trans st;apply⟨f,_,_,rfl,rfl,B,by rw[aY,sizeLine_eq];omega,?_⟩;have ea:A.map V.ref++[V.ref t]=(A++[t]).map V.ref:=by rw[List.map_append];rfl
 rw[ea]
 replace d:=d.app B gt
 have kx:∀b o,U b=some o->b≠f->upd U f (.lst ((A++[t]).map V.ref)) b=some o:=λb o hb ne=>(aA ne).trans hb;have S:cC K (upd U f (.lst ((A++[t]).map V.ref))) a (ns.map V.int):=by
  have na:∀o,H2 a=some o->a≠f:=λo D z=>by rw[z,u]at D;cases D
  rcases L.seq hS with (h2 | ⟨o,h2⟩) | h2
  ·exact .inl (.inl (kx _ _ (k _ _ h2) (na _ h2)))
  ·exact .inl (.inr ⟨o,kx _ _ (k _ _ h2) (na _ h2)⟩)
  ·exact .inr h2
 have g:HsO (upd U f (.lst ((A++[t]).map V.ref))) l hs:=by
  obtain⟨ts,I,k2⟩:=E;exact⟨ts,kx _ _ (k _ _ I) λz=>(by rw[z,u]at I;cases I),k2.mono λb m hb=>kx _ _ (k _ _ hb) λz=>(by rw[z,u]at hb;cases hb)⟩
 have C:∀r∈rs++[Q4.sw (1+z)],okW hs r:=λr hr=>by
  rcases List.mem_append.mp hr with hr | hr
  ·exact P r hr
  ·rw[List.mem_singleton.mp hr];exact⟨δ,δ⟩
 have O:(rs++[Q4.sw (1+z)]).length<=70:=by rw[List.length_append,List.length_singleton];omega
 clear P;generalize upd U f (.lst ((A++[t]).map V.ref))=H5 at d S g ⊢;generalize rs++[Q4.sw (1+z)]=s at d C O;clear kx B r2 r3 D gt st s3 k u Zvo L Y c2 R ea E;apply⟨_,rfl,λm=>?_⟩;apply⟨a,_,rfl,ns,S,ε,λz0=>?_⟩;apply⟨_,rfl,λki lk w t H6 t0 t1 ew s6 nki nlk kd=>?_⟩
 replace g:=g.same s6
 replace d:=d.same s6
 obtain⟨ts,I,k2⟩:=id g;obtain⟨A,B,r2,r3⟩:=id d;apply⟨l,_,rfl,cC.of I,λla J=>?_⟩;generalize zz:upd H6 la _=H7;obtain⟨s7,c7⟩:=nwO J zz;apply⟨f,_,rfl,cC.of (s7 _ _ B),λlb N=>?_⟩;generalize zz:upd H7 lb _=H8;obtain⟨s8,c8⟩:=nwO N zz;ext;intro x dx nx W ne;have sM:bB H8 (upd (upd H8 dx (.own x)) x (.ins cj dx [])):=λb o hb=>by rw[aA (aD hb nx),aA (aD hb W)];exact hb
 refine⟨x,m,ki,la,lb,rfl,dx,_,_,aq,sM _ _ (s8 _ _ c7),sM _ _ c8,λH9 h2 M e1 e2 e3 kM f1 f2 f3=>⟨rfl,?_⟩⟩;have F:bB H8 H9:=λb o hb=>kM b o (sM b o hb) (aD hb nx);have j:=s7.trans (s8.trans F)
 replace g:=g.same j
 replace d:=d.same j
 replace kd:=kd.same j
 have hsc:HsO H9 h2 hs:=⟨ts,e2,k2.mono λa m z=>j _ _ z⟩;have rsc:RwL H9 M s:=⟨A,e3,r2,λi c hc=>let ⟨y,q1,q2⟩:=r3 i c hc;⟨y,q1,j _ _ q2⟩⟩;clear j F sM kM s7 s8 c7 c8 f1 f2 f3 nx W ne N J nki nlk;apply⟨x,_,rfl,none,rfl,dx,m,ki,h2,M,lk,w,t,hs,s,e1,kd,t0,t1,hsc,hb,rsc,δ,C,λHb p ps lg Mb sb rb hp al np=>?_⟩;rw[show(none:Option Nat).getD s.length=s.length from rfl,List.take_length]at rb;apply ye hp ?_;apply⟨p,rfl,⟨_,cC.of hp⟩,forL (ps.map V.ref) (λi σ Z=>∃v,σ=[↑a,↑l,some (.int z2),↑f,↑x,↑p,v]/\Z=Hb) ⟨none,rfl,rfl⟩ (by rintro _ _ _ _ ⟨_,_,e⟩;rw[e];exact cC.of hp) ?_ ?_⟩
 ·rintro i v σ Z hv ⟨v6,rfl,rfl⟩;rw[cg]at hv;obtain⟨b,hbb,rfl⟩:=Option.map_eq_some_iff.mp hv;obtain⟨es,_,as',o,_⟩:=al.getL hbb;apply ye o ?_;apply⟨_,rfl,rfl⟩
 ·rintro σ Z ⟨v6,rfl,rfl⟩;exists l,rfl,⟨_,cC.of (sb _ _ g.choose_spec.1)⟩;refine Zd6 (m:=m) (w:=w) (t:=t) (g.same sb) hb λls H' T s' sl=>?_;apply⟨f,p,ls,rfl,Z,T,s,ps,lg,hs,m,w,t,Mb,s',d.same sb,hp,al,rb,hb,C,O,t0,t1,sl,h⟩
end
def top(i:Nat):Stmt:=PySem.Challenge.pw_greywalk_k45_whole_given_back.main.body.getD i (.Pass ⟨0,0,0,0⟩)
abbrev vU:Stmt:=inClass (top 8) 0
abbrev Cy:Stmt:=inClass (top 8) 1
abbrev sU:Stmt:=inClass (top 8) 2
abbrev vQ:Stmt:=inClass (top 9) 0
abbrev jE:Stmt:=inClass (top 9) 1
abbrev MN:Stmt:=inClass (top 9) 2
abbrev Iu:Stmt:=inClass (top 9) 3
abbrev Ir:Stmt:=inClass (top 9) 4
abbrev Cw:Stmt:=inClass (top 9) 5
abbrev Ut:Stmt:=top 10
abbrev MF:Stmt:=top 11
abbrev Zx:Stmt:=top 15
abbrev pM:Stmt:=inClass (top 16) 2
abbrev oK:Stmt:=inClass (top 16) 3
abbrev vN:Stmt:=inClass (top 16) 4
abbrev sO:Stmt:=inClass (top 17) 2
abbrev sS:Stmt:=inClass (top 18) 2
abbrev sJ:Stmt:=inClass (top 19) 2
abbrev Cv:Stmt:=inClass (top 19) 3
abbrev vP:Stmt:=inClass (top 20) 0
abbrev vR:Stmt:=inClass (top 22) 0
abbrev pL:Stmt:=inClass (top 23) 0
abbrev sH:Stmt:=inClass (top 24) 0
abbrev Zj5:Stmt:=top 25
abbrev Ig:Stmt:=top 26
abbrev Ia:Stmt:=top 27
abbrev Ib:Stmt:=top 28
abbrev Ca:Stmt:=top 29
abbrev Zey:Stmt:=top 30
abbrev Zj4:Stmt:=top 31
abbrev Mw:Stmt:=top 32
abbrev Zj6:Stmt:=top 33
abbrev Zex:Stmt:=top 34
abbrev Ue:Stmt:=top 35
abbrev Ms:Stmt:=top 37
abbrev Us:Stmt:=top 38
abbrev Ie:Stmt:=top 39
abbrev zx:Stmt:=top 40
abbrev zy:Stmt:=top 41
abbrev Um:Stmt:=top 42
abbrev Zw:Stmt:=top 43
abbrev Zv:Stmt:=top 44
abbrev Ur:Stmt:=top 45
abbrev Uq:Stmt:=top 46
abbrev Uo:Stmt:=top 47
abbrev Mz:Stmt:=top 48
abbrev Uk:Stmt:=top 49
abbrev Ul:Stmt:=top 50
abbrev Uj:Stmt:=top 51
abbrev zz:Stmt:=top 52
abbrev Zti:Stmt:=top 54
abbrev sI:Stmt:=inClass (top 57) 0
abbrev Mr:Stmt:=top 58
abbrev Uh:Stmt:=top 60
abbrev Zu:Stmt:=top 61
abbrev BZ:Stmt:=top 63
abbrev xr:Stmt:=top 64
abbrev xm:Stmt:=top 65
abbrev Zj2:Stmt:=top 66
abbrev zA:Stmt:=top 67
abbrev Zpm:Stmt:=top 68
abbrev Cd:Stmt:=top 69
abbrev My:Stmt:=top 70
abbrev BV:Stmt:=top 71
abbrev xq:Stmt:=top 72
abbrev BX:Stmt:=top 73
abbrev s_end:Stmt:=top 74
abbrev sG:Stmt:=top 75
abbrev Zj3:Stmt:=top 77
abbrev Zev:Stmt:=top 79
abbrev Zew:Stmt:=top 80
abbrev BW:Stmt:=top 81
abbrev BR:Stmt:=top 82
abbrev Ug:Stmt:=top 83
abbrev Mu:Stmt:=top 84
abbrev Ui:Stmt:=top 85
abbrev Ip:Stmt:=top 87
abbrev Io:Stmt:=top 88
abbrev Cq:Stmt:=top 89
abbrev Ik:Stmt:=top 90
abbrev Ii:Stmt:=top 91
abbrev Ih:Stmt:=top 92
abbrev Il:Stmt:=top 93
abbrev Cj:Stmt:=top 94
abbrev Cm:Stmt:=top 95
abbrev MJ:Stmt:=top 96
abbrev Ij:Stmt:=top 97
abbrev Im:Stmt:=top 98
abbrev Cg:Stmt:=top 99
abbrev Ck:Stmt:=top 100
abbrev Cp:Stmt:=top 101
abbrev Cu:Stmt:=top 102
abbrev MK:Stmt:=top 103
abbrev xu:Stmt:=top 104
abbrev Cr:Stmt:=top 105
abbrev vM:Stmt:=top 106
abbrev Mx:Stmt:=top 107
abbrev Fi(K:aC)(c:AI)(s:Str)(f:AI):Prop:=W.findIn K (.ref c) s=some (↑f)
abbrev Fo(K:aC)(c:AI)(s:Str):Prop:=W.findIn K (.ref c) s=some none
abbrev Ns(K:aC)(s:Str)(f:AI):Prop:=W.nsIn K mainGlobals s=some (↑f)
abbrev Ki(K:aC)(f:AI):Prop:=W.keepIn K (.ref f)=true
abbrev Ci(K:aC)(c:AJ)(s:Str):Prop:=W.codeIn K c s=true
abbrev Lk(K:aC)(f:AI)(a b:Str)(s:Stmt)(d:AJ)(oc:AJ)(od:Option AI)(kV dc pm:AJ)(an:Option AI)(cd ct:AJ)(sl:Array AB):Prop:=K.lookup f=some ⟨oc,od,.func (W.fnOf a b (iD s) (eX s) (aF s) d kV dc pm an cd ct),sl⟩
abbrev FnG(K:aC)(x q:Str)(s:Stmt)(f:AI):Prop:=∃fd,Fun K x q s f fd
section
variable {K:aC}{x q:Str}{s:Stmt}{f C:AI}{oc:AJ}{od:Option AI}{kV dc pm:AJ}{an:Option AI}{cd ct:AJ}{sl:Array AB}
theorem fgm(l:Lk K f x q s .none oc od kV dc pm an cd ct sl)(c:Ci K cd q)(k:Ki K f):FnG K x q s f:=⟨_,Zlv l c k⟩
noncomputable def fX (g:FnG K x q s f):AL:=g.choose
theorem Ba(g:FnG K x q s f):Fun K x q s f (fX g):=g.choose_spec
structure FA(K:aC)(x:Str)(s:Stmt)(f:AI):Prop where
 a:Ns K x f
 g:FnG K x x s f
theorem fam(a:Ns K x f)(l:Lk K f x x s .none oc od kV dc pm an cd ct sl)(c:Ci K cd x)(k:Ki K f):FA K x s f:=⟨a,fgm l c k⟩
structure FT(K:aC)(mg:As)(x:Str)(s:Stmt)(f:AI):Prop where
 m:mg x=↑f
 g:FnG K x x s f
structure MT(K:aC)(C:AI)(x q:Str)(s:Stmt)(f:AI):Prop where
 m:Meth K C x f
 g:FnG K x q s f
theorem mtm(a:Fi K C x f)(i:W.isFn K (.ref f)=true)(l:Lk K f x q s .none oc od kV dc pm an cd ct sl)(c:Ci K cd q)(k:Ki K f):MT K C x q s f:=⟨⟨a,i,k⟩,fgm l c k⟩
structure CA(K:aC)(C:AI):Prop where
 c:K7 K C
 mk':W.makesIn K C=true
 k:Ki K C
theorem cam(a:W.plainGet K C Str.empty=true)(b:W.hasDictIn K C=true)(c:W.plainOver K C=true)(d:W.findIn K (.ref C) "__setattr__"=some (some (.builtin "object.__setattr__")))(e:W.makesIn K C=true)(f:Ki K C):CA K C:=⟨⟨a,b,c,d⟩,e,f⟩
end
theorem cn1{a:Type}{us:List a}{n:Nat}(h:us.length=n+1):∃x t,us=x::t/\t.length=n:=by cases us with | nil=>cases h | cons x t=>exact⟨x,t,rfl,Nat.succ.inj h⟩
theorem bd1{K:aC}{x a:Str}{st:Stmt}{f:AI}{fd:AL}(F:Fun K x a st f fd)(a0:Str)(h:∀(kV c g:AJ) (e:Option AI) (b ct d:AJ),bindArgs (W.fnOf x a (iD st) (eX st) eo .none kV c g e b ct) ⟨[d],[]⟩=pure (([a0]:AH).zip [d]):=by intros;rfl):Binds K fd [a0] []:=F.binds λkV c g e b ct us hl=>by obtain⟨d,_,rfl,l1⟩:=cn1 (n:=0) hl;cases List.eq_nil_of_length_eq_zero l1;exact h kV c g e b ct d
theorem bd2{K:aC}{x a:Str}{st:Stmt}{f:AI}{fd:AL}(F:Fun K x a st f fd)(a0 j:Str)(h:∀(kV c i:AJ) (g:Option AI) (b ct d e:AJ),bindArgs (W.fnOf x a (iD st) (eX st) eo .none kV c i g b ct) ⟨[d,e],[]⟩=pure (([a0,j]:AH).zip [d,e]):=by intros;rfl):Binds K fd [a0,j] []:=F.binds λkV c i g b ct us hl=>by obtain⟨d,_,rfl,l1⟩:=cn1 (n:=1) hl;obtain⟨e,_,rfl,l2⟩:=cn1 (n:=0) l1;cases List.eq_nil_of_length_eq_zero l2;exact h kV c i g b ct d e
theorem bd3{K:aC}{x a:Str}{st:Stmt}{f:AI}{fd:AL}(F:Fun K x a st f fd)(a0 l k:Str)(h:∀(kV c j:AJ) (i:Option AI) (b ct d g e:AJ),bindArgs (W.fnOf x a (iD st) (eX st) eo .none kV c j i b ct) ⟨[d,g,e],[]⟩=pure (([a0,l,k]:AH).zip [d,g,e]):=by intros;rfl):Binds K fd [a0,l,k] []:=F.binds λkV c j i b ct us hl=>by obtain⟨d,_,rfl,l1⟩:=cn1 (n:=2) hl;obtain⟨g,_,rfl,l2⟩:=cn1 (n:=1) l1;obtain⟨e,_,rfl,l3⟩:=cn1 (n:=0) l2;cases List.eq_nil_of_length_eq_zero l3;exact h kV c j i b ct d g e
theorem bd4{K:aC}{x a:Str}{st:Stmt}{f:AI}{fd:AL}(F:Fun K x a st f fd)(a0 m l n:Str)(h:∀(kV c k:AJ) (j:Option AI) (b ct e i g d:AJ),bindArgs (W.fnOf x a (iD st) (eX st) eo .none kV c k j b ct) ⟨[e,i,g,d],[]⟩=pure (([a0,m,l,n]:AH).zip [e,i,g,d]):=by intros;rfl):Binds K fd [a0,m,l,n] []:=F.binds λkV c k j b ct us hl=>by obtain⟨e,_,rfl,l1⟩:=cn1 (n:=3) hl;obtain⟨i,_,rfl,l2⟩:=cn1 (n:=2) l1;obtain⟨g,_,rfl,l3⟩:=cn1 (n:=1) l2;obtain⟨d,_,rfl,l4⟩:=cn1 (n:=0) l3;cases List.eq_nil_of_length_eq_zero l4;exact h kV c k j b ct e i g d
theorem bd5{K:aC}{x a:Str}{st:Stmt}{f:AI}{fd:AL}(F:Fun K x a st f fd)(a0 n m p o:Str)(h:∀(kV c l:AJ) (k:Option AI) (b ct e j i d g:AJ),bindArgs (W.fnOf x a (iD st) (eX st) eo .none kV c l k b ct) ⟨[e,j,i,d,g],[]⟩=pure (([a0,n,m,p,o]:AH).zip [e,j,i,d,g]):=by intros;rfl):Binds K fd [a0,n,m,p,o] []:=F.binds λkV c l k b ct us hl=>by obtain⟨e,_,rfl,l1⟩:=cn1 (n:=4) hl;obtain⟨j,_,rfl,l2⟩:=cn1 (n:=3) l1;obtain⟨i,_,rfl,l3⟩:=cn1 (n:=2) l2;obtain⟨d,_,rfl,l4⟩:=cn1 (n:=1) l3;obtain⟨g,_,rfl,l5⟩:=cn1 (n:=0) l4;cases List.eq_nil_of_length_eq_zero l5;exact h kV c l k b ct e j i d g
structure Hh(P:AM)(w:AO)(K:aC)(mg:As)(base:Heap)(n:Nat)(f:AI)(fd:AL)(ps:AH)(sp:Sp):Prop where
 g:qe P w K mg base (G.Bt P w) n f fd ps sp
 b:Binds K fd ps []
 k:W.keepIn K (.ref f)=true
abbrev Fn5(P:AM)(w:AO)(K:aC)(mg:As)(base:Heap)(n:Nat)(f:AI)(fd:AL)(ps:AH)(sp:Sp):Prop:=qe P w K mg base (G.Bt P w) n f fd ps sp
section
variable {X:Cx}{n k:Nat}{f:AI}{fd:AL}{ps:AH}{sp:Sp}{x:Str}{e:AN}{es:AG}{t:TA}{p pos:Pos}{s:Stmt}
theorem fu(d:Hh X.prog X.w X.K X.mg X.base n f fd ps sp)(hr:Room k X.A)(mo:∀{s:Str}{v:AJ},W.nsIn X.K mainGlobals s=some (some v)->X.mg s=some v)(hm:FA X.K x s f)(j:PA X (e::es) t)(hn:n<=k:=by decide)(hg:X.env.kindOf x=some .globalImplicit:=by rfl)(c:(x == ("__debug__":Str))=false:=by decide)(i:starEach (e::es) X.env=(false,eval e X.env)::starEach es X.env:=by rfl)(h:(backTo pos eA).any (·.1)=false:=by rfl):PE X (.Call (.Name x p) (e::es) [] pos) (aU sp [] E0 t):=pq d.g (hr.mono hn) hg (mo hm.a) d.k d.b .nil G.dG j c i h
end
theorem cF{N P:AH}{h:Scope}(a:h.kind=.function:=by rfl)(b:h.isCoroutine=false:=by rfl)(c:h.isGenerator=false:=by rfl)(d:N.Nodup:=by decide +kernel)(e:N.take P.length=P:=by rfl)(f:∀x∈P,h.names.lookup x=some .local\/h.names.lookup x=some .cell:=by decide +kernel)(g:∀y∈h.names,y.2≠.free:=by decide +kernel):aM N P h:=⟨a,b,c,d,e,f,g⟩
abbrev wj:AH:=["self","birth","many","bulk","tone"]
abbrev tX:AH:=["self","field"]
abbrev v9:AH:=["self","room"]
abbrev xN:AH:=["self","many","bulk","tone"]
abbrev NQ:AH:=["self","cell"]
abbrev Jr:AH:=["self","place"]
abbrev U5:AH:=["heap","place"]
abbrev NB:AH:=["heap","place"]
abbrev pO:AH:=["self","hands"]
abbrev oR:AH:=["self","looked","hands"]
abbrev tV:AH:=["self","hands"]
abbrev tW:AH:=["self","looked","hands"]
abbrev tU:AH:=["self","looked","hands"]
abbrev vZ:AH:=["self","looking","tells"]
abbrev wg:AH:=["self","name","many"]
abbrev tQ:AH:=["self","room","kind","hands"]
abbrev Jh:AH:=["heap","places"]
abbrev Je:AH:=["world","hand"]
abbrev Jf:AH:=["world","cell"]
abbrev Zjx:AH:=["world","place"]
abbrev Ny:AH:=["world","places"]
abbrev Zjy:AH:=["world","place","birth"]
abbrev Uy:AH:=["world","place","birth"]
abbrev Nx:AH:=["world","hand"]
abbrev U4:AH:=["world","hand","slot"]
abbrev Jg:AH:=["world","hand","slot","field"]
abbrev zT:AH:=["world","place"]
abbrev zU:AH:=["world","hand","place"]
abbrev UT:AH:=["world","deed"]
abbrev ZW:AH:=["world","deed"]
abbrev ZV:AH:=["world","deed"]
abbrev U3:AH:=["world","deed"]
abbrev U0:AH:=["world","deed"]
abbrev UW:AH:=["world","deed"]
abbrev Nz:AH:=["world","deed"]
abbrev UJ:AH:=["world","deed"]
abbrev UL:AH:=["world","deed"]
abbrev UG:AH:=["world","deed"]
abbrev zV:AH:=["world","word"]
abbrev Zto:AH:=["world","deed"]
abbrev tR:AH:=["self","room","kind","hands","rows"]
abbrev Uz:AH:=["heap","rows"]
abbrev ZS:AH:=["heap","places","way"]
abbrev Ds:AH:=["world","hands"]
abbrev Zf7:AH:=["world","row"]
abbrev Zf8:AH:=["world","many"]
abbrev Dr:AH:=["events"]
abbrev Dq:AH:=["world","deed"]
abbrev Zf9:AH:=["scene","most"]
abbrev Jq:AH:=["_law_script","_law_k"]
abbrev Jp:AH:=["_law_cell_here","_law_prime","_law_many"]
abbrev Dz:AH:=["_law_cell_here"]
abbrev Jl:AH:=["_law_cell_here"]
abbrev Jj:AH:=["_law_drawn","_law_size"]
abbrev Ji:AH:=["_law_seed","_law_number"]
abbrev Jm:AH:=["_law_n","_law_hand","_law_slot_here"]
abbrev Du:AH:=["_law_n","_law_most"]
abbrev Dw:AH:=["_law_n","_law_hand","_law_slot_here","_law_hands_here","_law_seed"]
abbrev NK:AH:=["_law_n","_law_hands_here","_law_seed","_law_most"]
abbrev Jk:AH:=["_law_cells","_law_hands_here","_law_seed","_law_most"]
abbrev Jo:AH:=["_law_number"]
abbrev Dt:AH:=["_law_found"]
abbrev Dv:AH:=["_law_slots","_law_links","_law_met"]
abbrev Dy:AH:=["_law_birth","_law_links"]
abbrev DK:AH:=["_law_row_here","_law_event_here","_law_slots","_law_links","_law_tally"]
abbrev NP:AH:=["_law_event_here","_law_tally"]
abbrev xM:AH:=["_law_event_here","_law_slots","_law_links","_law_tally"]
abbrev DG:AH:=["_law_event_here"]
abbrev vY:AH:=["_law_rows_here","_law_log","_law_slots"]
section
variable {X:Cx}
theorem dF{a b:AN}{ta tb:TE}{c:Pos}{r:R2}(hr:IxR X r)(d:PE X a ta)(hb:PE X b tb)(hs:Y7 b:=by exact λ_ _=>rfl):PE X (.Subscript a b c) (aZ r ta tb):=Zpr hr d hb hs
theorem W4{o i:AN}{b ty:TE}{a:Pos}{k:Nat}(hr:Room k X.A)(c:PE X o b)(hi:PE X i ty)(hs:Zpe i:=by exact λ_ _=>rfl):PE X (.Subscript o i a) (jV b ty):=Znp (iU hr) c hi hs
theorem j8{a b:AN}{ta tb:TE}{c:Pos}{d:CmpOp}{r:R2}(f:wU X (compareOp d) r)(e:PE X a ta)(hb:PE X b tb)(hm:behindInMarks d b=false:=by exact mO _):PT X (.Compare a [d] [b] c) (bY (aZ r ta tb)):=Znf f e hb hm
theorem fJ(i:Nat){x:Str}{e:AN}{c:TE}{a b:Pos}(hN:X.N.Nodup)(d:PE X e c)(hi:X.N[i]? =some x:=by rfl)(hx:Loc X.env.scope x:=by exact Or.inl rfl)(hs:swapsWith e (some (.Name x a)) b.line X.env=pure false:=by rfl)(f:X.fn x=true\/X.env.scope.names.lookup x=some .local:=by first | exact .inl rfl | exact .inr rfl | assumption):PS X (.Assign [.Name x a] e b) (bC c (aP i)):=Zcm hN hi hx d hs f
end
structure PAw(X:Cx)(es:AG)(t:TA):Prop where
 h:PA X es t
structure PSw(X:Cx)(st:List Stmt)(t:TS):Prop where
 h:QW X st t
structure PPw(X:Cx)(pos:Pos)(keys:List (Option AN))(values:AG)(trs:List (TE×TE)):Prop where
 h:PPs X pos keys values trs
structure PEw(X:Cx)(e:AN)(t:TE):Prop where
 h:PE X e t
section
variable {X:Cx}
theorem Znq:PAw X [] aG:=⟨au⟩
theorem kJ{e es te t}(a:PE X e te)(hr:PAw X es t)(hs:starEach (e::es) X.env=(false,eval e X.env)::starEach es X.env:=by rfl):PAw X (e::es) (ak te t):=⟨aa a hr.h hs⟩
theorem ZP{st rest t u}(h1:PS X st t)(h2:PSw X rest u):PSw X (st::rest) (aN t u):=⟨ao h1 h2.h⟩
theorem Zng{st t}(h1:PS X st t):PSw X [st] t:=⟨aB h1⟩
theorem Znh{i:Nat}{x:Str}{es t b tb p q pos' pos rest u}(hN:X.N.Nodup)(hi:X.N[i]? =some x)(hx:Loc X.env.scope x)(h:PAw X es t)(hb:PE X b tb)(hp:Y7 b)(h2:PSw X rest u)(hs:swapsWith (.Subscript (.List es p) b q) (some (.Name x pos')) pos.line X.env=pure false:=by rfl)(a:X.fn x=true\/X.env.scope.names.lookup x=some .local:=by first | exact .inl rfl | exact .inr rfl | assumption):PSw X (.Assign [.Name x pos'] (.Subscript (.List es p) b q) pos::rest) (aN (bC (aZ (iQ X.K) (iM t) tb) (aP i)) u):=⟨ao (Zcm hN hi hx (Zpr cI (di h.h) hb hp) hs a) h2.h⟩
end
open PySem.Spec PyProof.Rows in
theorem Zx0{P:AM}{w:AO}{K:aC}{mg:As}{base:Heap}{x a:Str}{st:Stmt}{f:AI}{fd:AL}{N ps:AH}{sp:Sp}{k:Nat}(F:Fun K x a st f fd)(S:aM N ps eo)(len:∀vs H Q E,sp vs H Q E->vs.length=ps.length)
  (c:∀(b:AJ) (A:Around) (outer:List Env) (s:AK) (H:Hp) (vs:List V) (Q:VK) (E:XK),Room k (A.deeper (envOfC a eo s.heap.objs.size f b))->sp vs H Q E->
   ∃t,PSw (yh (Bt P w) P w K mg base N a eo f b A outer s H E).nox (eX st) t/\t { nx:=λ_ H'=>Q .non H',rt:=Q } (start N vs) H):qe P w K mg base (Bt P w) dC f fd ps sp:=
 G.fok F S len λb A outer s H vs Q E hr h=>let ⟨t,p,q⟩:=c b A outer s H vs Q E hr h;⟨t,p.h,q⟩
set_option genInjectivity false in
structure Ad where
 (cj bh bH cR bU wM FJ uA wJ iW Qs J4 J3 Fz V2 Qo Zax fj iC gY uy uz ux Fy wI wK pZ uv Zm1 JS JP JQ Fe Zg0 Zm0 Qm Zm2 Zfz VN Qk V1 JR Ae Af lK nY nW lO lN lM jK lH lJ lG Ag Zuu uw Qj VR Zaw Fb fU fP Zly Ah Zq6 Ff Qn Ey fQ EY Zq5 dY Zlz Zfx Zfy Ez Ew VP Ql V0 J2 J1 Ft JX JV JT JZ Fj Fp Qp JW J0 Fg Fl Fq Fx Qq yg Fv wH:AI)
structure Bd where
 u:Unit
 (u9 Yt:AL)
 (Zb1:AC)
structure Tx1(K:aC)(XQ:Cs)(AD:Ad):Prop where
 Zt8:Ns K "Cell" XQ.C
 Zt5:Ns K "Heap" XQ.H
 Zpc:Ns K "First" XQ.F
 Zt7:Ns K "Each" XQ.E
 Zt4:Ns K "Last" XQ.L
 Ze9:Ns K "Kind" XQ.K
 Zt6:Ns K "Hand" XQ.D
 Zif:Ns K "Sweeper" XQ.S
 Zpa:Ns K "World" XQ.W
 Zpb:Ns K "Scene" AD.cj
 J7:Ns K "EmptySlot" AD.bh
 V8:Ns K "NoField" AD.bH
 Zmi:Ns K "Full" AD.cR
 Zbi:Ns K "NoName" AD.bU
 ug:MT K XQ.C "__init__" "Cell.__init__" vU AD.wM
 nj:MT K XQ.C "units" "Cell.units" Cy AD.FJ
 q8:MT K XQ.C "has_field" "Cell.has_field" sU AD.uA
 ud:MT K XQ.H "__init__" "Heap.__init__" vQ AD.wJ
 Jw:MT K XQ.H "lay" "Heap.lay" MN AD.Qs
 Ea:MT K XQ.H "back" "Heap.back" Iu AD.J4
 DY:MT K XQ.H "free" "Heap.free" Ir AD.J3
 z8:MT K XQ.H "there" "Heap.there" Cw AD.Fz
 mR:FA K "cell_at" Ut AD.V2
 ji:FA K "birth_at" MF AD.Qo
 O3:FA K "all_of" Zx AD.Zax
 fY:MT K XQ.E "at_begin" "Looking.at_begin" pM AD.fj
 jH:MT K XQ.F "next_look" "Looking.next_look" oK AD.iC
 iK:MT K XQ.E "stays" "Looking.stays" vN AD.gY
 qY:MT K XQ.F "at_begin" "First.at_begin" sO AD.uy
 qZ:MT K XQ.E "next_look" "Each.next_look" sS AD.uz
 qX:MT K XQ.L "next_look" "Last.next_look" sJ AD.ux
 rO:MT K XQ.L "stays" "Last.stays" Cv AD.Fy
 jR:MT K XQ.K "__init__" "Kind.__init__" vP AD.wI
 ue:MT K XQ.D "__init__" "Hand.__init__" vR AD.wK
 oW:MT K XQ.S "__init__" "Sweeper.__init__" pL AD.pZ
 qU:MT K XQ.W "__init__" "World.__init__" sH AD.uv
 Zky:FA K "held" Zj5 AD.Zm1
 Jy:FA K "births_at" Ig AD.JS
 Jx:FA K "looked_at" Ia AD.JP
 jJ:FA K "has_sense" Ib AD.JQ
 Ed:FA K "is_walking" Ca AD.Fe
 Zfh:FA K "begin" Zey AD.Zg0
 Zkx:FA K "note" Zj4 AD.Zm0
 mQ:FA K "note_all" Mw AD.Qm
 Zd2:FA K "gone" Zj6 AD.Zm2
 Zfg:FA K "roots" Zex AD.Zfz
 Vf:FA K "root_of" Ue AD.VN
 gO:FA K "slots_of" Ms AD.Qk
 jT:FA K "cell_in" Us AD.V1
 nT:FA K "fields_in" Ie AD.JR
 z9:FA K "told_as_old" zx AD.Ae
 rQ:FA K "told_as_new" zy AD.Af
 Vl:FA K "do_make" Um AD.lK
 Za5:FA K "do_get" Zw AD.nY
 Za4:FA K "do_put" Zv AD.nW
 Vo:FA K "do_copy" Ur AD.lO
 Vn:FA K "do_drop" Uq AD.lN
 Vm:FA K "do_give" Uo AD.lM
 O2:FA K "do_write" Mz AD.jK
 Vj:FA K "do_read" Uk AD.lH
 Vk:FA K "do_name" Ul AD.lJ
 Vi:FA K "do_seek" Uj AD.lG
 rR:FA K "place_named" zz AD.Ag
 Zrm:FA K "do" Zti AD.Zuu
 qW:MT K AD.cj "__init__" "Scene.__init__" sI AD.uw
 OD:FA K "world_of" Mr AD.Qj
 Vg:FA K "reached" Uh AD.VR
 OJ:FA K "onward" Zu AD.Zaw
 uY:FA K "note_hands" BZ AD.Fb
 xZ:FA K "step_at_rest" xr AD.fU
 xX:FA K "step_in_walk" xm AD.fP
 Zkv:FA K "walk" Zj2 AD.Zly
 Aa:FA K "look_or_cut" zA AD.Ah
 Zpw:FA K "cut" Zpm AD.Zq6
 Ef:FA K "first_loss" Cd AD.Ff
 O1:FA K "given_up" My AD.Qn
 uW:FA K "told_again" BV AD.Ey
 xY:FA K "step_in_give" xq AD.fQ
 Ec:FA K "pass_place" BX AD.EY
 Zpv:FA K "end" s_end AD.Zq5
 uh:FA K "step_when_lost" sG AD.dY
 Zkw:FA K "step" Zj3 AD.Zlz
 Zfe:FA K "tried" Zev AD.Zfx
 Zff:FA K "swept" Zew AD.Zfy
 uX:FA K "tells_loss" BW AD.Ez
 Eb:FA K "tried_deed" BR AD.Ew
 um:FA K "refused" Ug AD.VP
 Vh:FA K "is_lost" Ui AD.V0
 rA:FA K "_law_cell" Ip AD.J2
 eU:FA K "_law_draw" Io AD.J1
 Ei:FA K "_law_hands" Cq AD.Ft
 JC:FA K "_law_room" Ik AD.JX
 rz:FA K "_law_slot" Ii AD.JV
 Jz:FA K "_law_word" Ih AD.JT
 JD:FA K "_law_make" Il AD.JZ
 Eg:FA K "_law_steps" Cj AD.Fj
 Eh:FA K "_law_other" Cm AD.Fp
 O4:FA K "_law_row" MJ AD.Qp
 JB:FA K "_law_rows" Ij AD.JW
 JF:FA K "_law_kind" Im AD.J0
 pB:FA K "_law_whole" Cg AD.Fg
 uZ:FA K "_law_reach" Ck AD.Fl
 u5:FA K "_law_inner" Cp AD.Fq
 Ek:FA K "_law_dealt" Cu AD.Fx
 O5:FA K "_law_cut" MK AD.Qq
 yc:FA K "_law_stepped" xu AD.yg
 Ej:FA K "_law_event" Cr AD.Fv
 wC:FA K "_law_followed" vM AD.wH
 yV:CA K XQ.C
 eN:Fo K XQ.C "birth"
 qT:Fo K XQ.C "bulk"
 nR:Fo K XQ.C "tone"
 lF:Fo K XQ.C "load"
 gk:Fo K XQ.C "fields"
 vf:CA K XQ.H
 qR:Fo K XQ.H "room"
 bZ:Fo K XQ.H "cells"
 iT:Fo K XQ.H "used"
 nQ:Fo K XQ.H "born"
 uD:CA K XQ.F
 Zkc:W.findIn K (.ref XQ.F) "__init__"=some eS
 yU:CA K XQ.E
 Zo3:W.findIn K (.ref XQ.E) "__init__"=some eS
 yS:CA K XQ.L
 Zo2:W.findIn K (.ref XQ.L) "__init__"=some eS
 Lr:CA K XQ.K
 Oz:Fo K XQ.K "looking"
 Xq:Fo K XQ.K "tells"
 Zg5:CA K XQ.D
 Za0:Fo K XQ.D "name"
 Xr:Fo K XQ.D "slots"
 QB:CA K XQ.S
 KQ:Fo K XQ.S "sense"
 KR:Fo K XQ.S "phase"
 Ox:Fo K XQ.S "grey"
 GR:Fo K XQ.S "looked"
 Ou:Fo K XQ.S "turn"
 Xm:Fo K XQ.S "at"
 Ov:Fo K XQ.S "stop"
 KN:Fo K XQ.S "walks"
 KY:Fo K XQ.S "looks"
 GQ:Fo K XQ.S "passes"
 Ow:Fo K XQ.S "loss"
 Zbc:CA K XQ.W
 Xl:Fo K XQ.W "heap"
 Xk:Fo K XQ.W "kind"
 RJ:Fo K XQ.W "hands"
 RG:Fo K XQ.W "names"
 KJ:Fo K XQ.W "sweeper"
 Zbd:CA K AD.cj
 Xo:Fo K AD.cj "room"
 Xp:Fo K AD.cj "kind"
 RK:Fo K AD.cj "hands"
 Xn:Fo K AD.cj "rows"
 Zg:W.excIn K AD.bh [.type "ValueError",.type "Exception",.type "BaseException",.type "object"] "ValueError.__new__"=true
 Zqe:W.excIn K AD.cR [.type "ValueError",.type "Exception",.type "BaseException",.type "object"] "ValueError.__new__"=true
 Zgf:W.excIn K AD.bH [.type "ValueError",.type "Exception",.type "BaseException",.type "object"] "ValueError.__new__"=true
 Zii:W.excIn K AD.bU [.type "ValueError",.type "Exception",.type "BaseException",.type "object"] "ValueError.__new__"=true
 wR:W.exmOne K (.ref AD.bh) (.ref AD.bh)=some true
 Zb0:W.exmOne K (.ref AD.cR) (.ref AD.cR)=some true
 FN:W.exmOne K (.ref AD.bH) (.ref AD.bH)=some true
 K5:W.exmOne K (.ref AD.bU) (.ref AD.bU)=some true
 DW:W.exmOne K (.ref AD.cR) (.ref AD.bh)=some false
 KH:W.exmOne K (.ref AD.cR) (.ref AD.bH)=some false
 xW:W.exmOne K (.ref AD.bH) (.ref AD.bh)=some false
 zb:W.exmOne K (.ref AD.bU) (.ref AD.bh)=some false
 Ot:W.exmOne K (.ref AD.bU) (.ref AD.cR)=some false
 DR:W.exmOne K (.ref AD.bU) (.ref AD.bH)=some false
structure Txt(w:AO)(K:aC)(mg:As)(XQ:Cs)(AD:Ad)(BD:Bd):Prop extends Tx1 K XQ AD where
 mo {s:Str}{v:AJ}:W.nsIn K mainGlobals s=some (some v)->mg s=some v
 Ua:G.Tab K w mg "DEEDS" [("make",AD.lK),("get",AD.nY),("put",AD.nW),("copy",AD.lO),("drop",AD.lN),("give",AD.lM),("write",AD.jK),("read",AD.lH),("name",AD.lJ),("seek",AD.lG)]
 T9:G.Tab K w mg "STEPS" [("rest",AD.fU),("walk",AD.fP),("give",AD.fQ),("lost",AD.dY)]
 Lj:G.EqD K XQ.C
 uf:Meth K XQ.E "at_begin" AD.fj
 rP:Meth K XQ.E "stays" AD.gY
 pU:Meth K XQ.F "next_look" AD.iC
 pR:Meth K XQ.F "stays" AD.gY
 uc:Meth K XQ.L "at_begin" AD.fj
 DX:Meth K XQ.H "make" AD.iW
 Zpu:mg "run"=↑AD.Ql
 Wf:mg "bool"=none
 We:mg "dict"=none
 jD:mg "enumerate"=none
 Zep:mg "int"=none
 fD:mg "isinstance"=none
 gC:mg "len"=none
 lV:mg "list"=none
 yN:mg "range"=none
 Zeo:mg "str"=none
 K8:mg "tuple"=none
 Zen:mg "zip"=none
 Zq3:G.GC mg "NEW" (.int 2)
 Zq2:G.GC mg "OLD" (.int 1)
 Zfs:G.GC mg "SWEEP" (.str "sweep")
 Kh:G.Zmw K "make" "Heap.make" jE AD.iW BD.u9
 ym:Binds K BD.u9 xN []
 JL:Ki K AD.iW
 Zqd:G.Zmw K "run" "run" Mu AD.Ql BD.Yt
 Zqa:Binds K BD.Yt Zf9 []
 Zlb:Ki K AD.Ql
 Zbf:Binds K BD.Yt Zf9 BD.Zb1
 Zas:Vals [.non] BD.Zb1
theorem mkT{K:aC}{C f:AI}{q:Str}{s:Stmt}(c:CA K C)(m:MT K C "__init__" q s f):Mk K C f:=⟨c.mk',m.m.at_,m.m.fn,c.k⟩
section
variable {P:AM}{w:AO}{K:aC}{mg:As}{base:Heap}{x qual:Str}{st:Stmt}{f:AI}{n:Nat}{ps:AH}{sp:Sp}{g:FnG K x qual st f}
theorem Zsq(b:Binds K (fX g) ps [])(h:Fun K x qual st f (fX g)->Fn5 P w K mg base n f (fX g) ps sp):ι n f (fX g) ps sp:=⟨h (Ba g),b,(Ba g).kp⟩
theorem Zus(b:Binds K (fX g) ps [])(h:Fun K x qual st f (fX g)->G.FnH P w K mg base (G.Bt P w) n f (fX g) ps sp):G.HhH P w K mg base n f (fX g) ps sp:=⟨h (Ba g),b,(Ba g).kp⟩
end
local macro_rules | `(tactic| walk_at "okb")=>`(tactic| first | exact bd1 (Ba _) _ | exact bd2 (Ba _) _ _ | exact bd3 (Ba _) _ _ _ | exact bd4 (Ba _) _ _ _ _ | exact bd5 (Ba _) _ _ _ _ _)
local macro_rules | `(tactic| walk_at"k")=>`(tactic| (first | (obtain ⟨_,rfl,_⟩:=h;rfl) | (obtain ⟨_,_,rfl,_⟩:=h;rfl) | (obtain ⟨_,_,_,rfl,_⟩:=h;rfl) | (obtain ⟨_,_,_,_,rfl,_⟩:=h;rfl) | (obtain ⟨_,_,_,_,_,rfl,_⟩:=h;rfl) | (obtain ⟨_,_,_,_,_,_,rfl,_⟩:=h;rfl) | (obtain ⟨_,_,_,_,_,_,_,rfl,_⟩:=h;rfl)))
local macro_rules | `(tactic| walk_at "ok")=>`(tactic| (refine Zsq ?b λF=>?_;(case b=>walk_at "okb");refine G.fok F sc (λvs H Q E h=>?_) dS;· (walk_at"k")))
local macro_rules | `(tactic| walk_at "okw")=>`(tactic| (refine Zsq ?b λF=>?_;(case b=>walk_at "okb");refine Zx0 F sc (λvs H Q E h=>?_) dS;· (walk_at"k")))
local macro_rules | `(tactic| walk_at "okD")=>`(tactic| (refine G.Zx3 F sc (λvs H Q E h=>?_) dS;· (walk_at"k")))
local macro_rules | `(tactic| walk_at "okDX")=>`(tactic| (refine G.Zut F sc (λvs H Q E h=>?_) dS;· (walk_at"k")))
local macro_rules | `(tactic| walk_at "okH")=>`(tactic| (refine Zus ?b λF=>?_;(case b=>walk_at "okb");refine G.Zx2 F sc (λvs H Q E h=>?_) (λcdv ea A outer s H vs Q E hr h=>?_);· (walk_at"k")))
local macro_rules | `(tactic| walk_at "okL")=>`(tactic| (refine G.fok F sc (λvs H Q E h=>?_) dS;· (walk_at"k")))
local macro_rules | `(tactic| walk_at "okX")=>`(tactic| (refine Zsq ?b λF=>?_;(case b=>walk_at "okb");refine G.Zx1 F sc (λvs H Q E h=>?_) dS;· (walk_at"k")))
section
variable {P:AM}{w:AO}{K:aC}{mg:As}{base:Heap}{XQ:Cs}{AD:Ad}{BD:Bd}(T:Txt w K mg XQ AD BD)
include T
theorem lU:TxS K XQ AD.cj:=⟨⟨⟨T.yV.c,T.eN,T.qT,T.nR,T.lF,T.gk,T.vf.c,T.qR,T.bZ,T.iT,T.nQ,T.Lj⟩,T.Zbc.c,T.Xl,T.Xk,T.RJ,T.RG,T.KJ,T.Zg5.c,T.Za0,T.Xr,T.Lr.c,T.Oz,T.Xq,T.QB.c,T.KQ,T.KR,T.Ox,T.GR,T.Ou,T.Xm,T.Ov,T.KN,T.KY,T.GQ,T.Ow⟩,T.Zbd.c,T.Xo,T.Xp,T.RK,T.Xn⟩
theorem t7:ι 1 AD.wM (fX T.ug.g) wj (Kg XQ.C):=by
 have sc:aM ["self","birth","many","bulk","tone"] wj (aF vU):=cF;walk_at "ok"
 ·refine⟨_,(ao (bJ ρ Ψ rfl)
   (ao (bJ ρ aS rfl)
   (ao (bJ ρ dy rfl)
   (ao eJ
   (aB (bJ ρ (aW W6 (di (aa (dD) au)) ac) rfl)))))),?_⟩
  obtain⟨z0,z1,z2,z3,z4,rfl,q⟩:=h;exact HR (lU T).w.c q
theorem ju:ι 1 AD.FJ (fX T.nj.g) ["self"] (vH XQ.C):=by
 have sc:aM ["self"] ["self"] (aF Cy):=cF;walk_at "ok"
 ·refine⟨_,(aB (aH (aW gM (aW gM (az) ay) Ξ))),?_⟩;obtain⟨z0,rfl,q⟩:=h;exact Tf (lU T).w.c q
theorem qO:ι 1 AD.uA (fX T.q8.g) tX (J9 XQ):=by
 have sc:aM ["self","field"] tX (aF sU):=cF;walk_at "ok"
 ·refine⟨_,(aB (aH (Zju Ztq wk (az) Ψ ay))),?_⟩;obtain⟨z0,z1,rfl,q⟩:=h;exact Gj (lU T).w q
theorem tY:ι 1 AD.wJ (fX T.ud.g) v9 (Kd XQ.H):=by
 have sc:aM ["self","room"] v9 (aF vQ):=cF;walk_at "ok"
 ·refine⟨_,(ao (bJ ρ Ψ rfl)
   (ao (bJ ρ (di au) rfl)
   (ao eJ
   (aB eJ)))),?_⟩
  obtain⟨z0,z1,rfl,q⟩:=h;exact HN (lU T).w.c q
theorem Jt:ι 1 AD.Qs (fX T.Jw.g) NQ (QV K XQ.H):=by
 have sc:aM ["self","cell","place"] NQ (aF MN):=cF;walk_at "ok"
 ·refine⟨_,(ao (bO (j8 (G.Zh5 (iU hr)) (dD) Ξ (by with_unfolding_all rfl)) (ao (iy (tO PySem.F.plainAttrs_list PySem.F.slot_list_append PySem.F.type_list_append jQ Ξ cv))
   (aB (aH (aW Ar ay (az))))) aX)
   (ao (fJ 2 sc.nd (tO PySem.F.plainAttrs_list PySem.F.slot_list_index PySem.F.type_list_index (G.Zha (iU hr)) Ξ (aa (dD) au)))
   (ao (j6 Ψ (j7 Ξ ac set_list))
   (aB (aH ac))))),?_⟩
  obtain⟨z0,z1,rfl,q⟩:=h;exact Zbs (lU T).w.c q
theorem DN:ι 1 AD.J3 (fX T.DY.g) ["self"] (Ke XQ.H):=by
 have sc:aM ["self"] ["self"] (aF Ir):=cF;walk_at "ok"
 ·refine⟨_,(aB (aH (aW Ar Ξ Ξ))),?_⟩;obtain⟨z0,rfl,q⟩:=h;exact Za (lU T).w.c q
theorem z7:ι 1 AD.Fz (fX T.z8.g) ["self"] (vG XQ.H):=by
 have sc:aM ["self"] ["self"] (aF Cw):=cF;walk_at "ok"
 ·refine⟨rJ K,(aB (aH (G.Zf6 (cns:=["self"]) [0] (Gy rfl T.yN (aa ay au)) (λ_ _ _ _ _=>(G.Zcn (j8 G.nG (dF cI eE ρ) (dD)))) (λ_ _ _ _ _=>ρ) rfl rfl av (by repeat (first | exact trivial | refine⟨rfl,?_⟩)) rfl γ rfl γ γ rfl γ))),?_⟩;obtain⟨z0,rfl,q⟩:=h;exact Te (lU T).w.c q
theorem mL:ι 1 AD.V2 (fX T.mR.g) U5 (jw XQ.H):=by
 have sc:aM ["heap","place"] U5 (aF Ut):=cF;walk_at "ok"
 ·refine⟨_,(ao (bO (PW.pt (tL (j8 G.uO Ψ (dD)) (tL (j8 wk Ψ (az)) (rK (j8 Ztr Ψ ay))))) (aB (aH (dD))) aX)
   (aB (aH (dF cI Ξ Ψ)))),?_⟩
  obtain⟨z0,z1,rfl,q⟩:=h;exact Ze3 (lU T).w q
theorem Vb:ι 1 AD.Zax (fX T.O3.g) ["hands"] (QT):=by
 have sc:aM ["hands"] ["hands"] (aF Zx):=cF;walk_at "ok"
 ·refine⟨_,(aB (aH (aW Ar (aW Zk5 (az) ρ) (az)))),?_⟩;obtain⟨z0,rfl,q⟩:=h;exact Zie q
theorem iB:ι 1 AD.fj (fX T.fY.g) pO (vC 1):=by
 have sc:aM ["self","hands"] pO (aF pM):=cF;walk_at "ok"
 ·refine⟨_,(aB (aH (az))),?_⟩;obtain⟨z0,z1,rfl,q⟩:=h;exact zj q
theorem nJ:ι 1 AD.iC (fX T.jH.g) oR (lR 0):=by
 have sc:aM ["self","looked","hands"] oR (aF oK):=cF;walk_at "ok"
 ·refine⟨_,(aB (aH (az))),?_⟩;obtain⟨z0,z1,z2,rfl,q⟩:=h;exact yI q
theorem dX:ι 1 AD.gY (fX T.iK.g) ["self"] (vB (.bl true)):=by
 have sc:aM ["self"] ["self"] (aF vN):=cF;walk_at "ok"
 ·refine⟨_,el,?_⟩;obtain⟨z0,rfl,q⟩:=h;exact HH q
theorem qN:ι 1 AD.uz (fX T.qZ.g) tW (lR 1):=by
 have sc:aM ["self","looked","hands","hand"] tW (aF sS):=cF;walk_at "ok"
 ·refine⟨_,(ao (lY PassesOwn.never rfl (Gy rfl T.yN dP) fc
   (aB (bO (j8 dW (aW NT (aW Zcq Ψ aS) (az)) (az)) (aB (aH (aW Zk5 (az) aS))) aX)))
   (aB (aH (az)))),?_⟩
  obtain⟨z0,z1,z2,rfl,q⟩:=h;exact Gi q
theorem mZ:ι 1 AD.Fy (fX T.rO.g) ["self"] (vB (.bl false)):=by
 have sc:aM ["self"] ["self"] (aF Cv):=cF;walk_at "ok"
 ·refine⟨_,el,?_⟩;obtain⟨z0,rfl,q⟩:=h;exact Td q
theorem gB:ι 1 AD.wI (fX T.jR.g) vZ (yF XQ.K):=by
 have sc:aM ["self","looking","tells"] vZ (aF vP):=cF;walk_at "ok"
 ·refine⟨_,(ao (bJ ρ Ψ rfl)
   (aB (bJ ρ ac rfl))),?_⟩
  obtain⟨z0,z1,z2,rfl,q⟩:=h;exact HJ (lU T).w q
theorem tZ:ι 1 AD.wK (fX T.ue.g) wg (Kf XQ.D):=by
 have sc:aM ["self","name","many"] wg (aF vR):=cF;walk_at "ok"
 ·refine⟨_,(ao (bJ ρ Ψ rfl)
   (aB (bJ ρ (aW W6 (di (aa (dD) au)) ac) rfl))),?_⟩
  obtain⟨z0,z1,z2,rfl,q⟩:=h;exact HQ (lU T).w q
theorem oU:ι 1 AD.pZ (fX T.oW.g) ["self"] (yE XQ.S):=by
 have sc:aM ["self"] ["self"] (aF pL):=cF;walk_at "ok"
 ·refine⟨_,(ao eJ
   (ao (bJ ρ (aV) rfl)
   (ao (bJ ρ (di au) rfl)
   (ao eJ
   (ao eJ
   (ao eJ
   (ao eJ
   (ao eJ
   (ao eJ
   (ao eJ
   (aB (bJ ρ (dD) rfl)))))))))))),?_⟩
  obtain⟨z0,rfl,q⟩:=h;exact zg (lU T).w q
theorem Zo1:ι 1 AD.Zm1 (fX T.Zky.g) ["world"] (Zmq XQ):=by
 have sc:aM ["world"] ["world"] (aF Zj5):=cF;walk_at "ok"
 ·refine⟨W0 K,(aB (aH (G.Zf6 (cns:=[]) [] (lq Ξ) (λ_ _ _ _ _=>G.Nv) (λ_ _ _ _ _=>(jO G.mU η T.lV G.boot_list (aa Ξ au))) rfl rfl av (by repeat (first | exact trivial | refine⟨rfl,?_⟩)) rfl γ rfl γ γ rfl γ))),?_⟩;obtain⟨z0,rfl,q⟩:=h;exact Zot (lU T).w q
theorem W8:ι 1 AD.JP (fX T.Jx.g) Je (J8 XQ):=by
 have sc:aM ["world","hand"] Je (aF Ia):=cF;walk_at "ok"
 ·refine⟨_,(aB (aH (jN dW (aW NT (aW Zcq c0 Ψ) (az)) (az) (mO _)))),?_⟩;obtain⟨z0,z1,rfl,q⟩:=h;exact Xu (lU T).w q
theorem jP:ι 1 AD.JQ (fX T.jJ.g) Jf (iZ XQ):=by
 have sc:aM ["world","cell"] Jf (aF Ib):=cF;walk_at "ok"
 ·refine⟨_,(aB (aH (jN dW eE c0 (mO _)))),?_⟩;obtain⟨z0,z1,rfl,q⟩:=h;exact Ym (lU T).w q
theorem Rr:ι 1 AD.Fe (fX T.Ed.g) ["world"] (Gd XQ):=by
 have sc:aM ["world"] ["world"] (aF Ca):=cF;walk_at "ok"
 ·refine⟨_,(aB (aH (jN Zh6 c0 (cQ (aa (aV) (aa (aV) au))) (by with_unfolding_all rfl)))),?_⟩;obtain⟨z0,rfl,q⟩:=h;exact RZ (lU T).w q
theorem gj:ι 1 AD.Qk (fX T.gO.g) Nx (iu XQ):=by
 have sc:aM ["world","hand"] Nx (aF Ms):=cF;walk_at "ok"
 ·refine⟨_,(aB (aH (aK (dF cI Ξ Ψ) rfl))),?_⟩;obtain⟨z0,z1,rfl,q⟩:=h;exact Zt (lU T).w q
theorem NZ:ι 1 AD.Ae (fX T.z9.g) zT (QJ XQ):=by
 have sc:aM ["world","place"] zT (aF zx):=cF;walk_at "ok"
 ·refine⟨_,(ao (bO (j8 dW (aW NT c0 (T.Zq2.pe rfl)) (az)) (aB (aH (di au))) aX)
   (aB (aH (di cv)))),?_⟩
  obtain⟨z0,z1,rfl,q⟩:=h;exact Lz (lU T).w q
theorem qK:ι 1 AD.uw (fX T.qW.g) tR (vD AD.cj):=by
 have sc:aM ["self","room","kind","hands","rows"] tR (aF sI):=cF;walk_at "ok"
 ·refine⟨_,(ao (bJ ρ Ψ rfl)
   (ao (bJ ρ ac rfl)
   (ao (bJ ρ (jO G.mU η T.lV G.boot_list ck) rfl)
   (aB (bJ ρ (jO G.mU η T.lV G.boot_list (aa dy au)) rfl))))),?_⟩
  obtain⟨z0,z1,z2,z3,z4,rfl,q⟩:=h;exact Ga (lU T) q
theorem zW:ι 1 AD.Ey (fX T.uW.g) ["event"] (vA K):=by
 have sc:aM ["event"] ["event"] (aF BV):=cF;walk_at "ok"
 ·refine⟨_,(aB (aH (cQ (aa Φ (aa Φ (aa (jO G.mU η T.lV G.boot_list (aa Φ au)) au)))))),?_⟩;obtain⟨z0,rfl,q⟩:=h;exact Q7 q
theorem Zr7:ι 1 AD.Zq5 (fX T.Zpv.g) ["world"] (cV XQ pEnd):=by
 have sc:aM ["world","sweeper"] ["world"] (aF s_end):=cF;walk_at "ok"
 ·refine⟨_,(ao (fJ 1 sc.nd Ξ)
   (ao (bJ Ψ (aV) rfl)
   (aB (aH (cQ (aa (aV) (aa eE (aa (di (aa eE (aa eE (aa eE au)))) au)))))))),?_⟩
  obtain⟨z0,rfl,q⟩:=h;exact Zsv (lU T).w q
theorem zX:ι 1 AD.Ez (fX T.uX.g) Dr (Ls):=by
 have sc:aM ["events"] Dr (aF BW):=cF;walk_at "ok"
 ·refine⟨_,(aB (aH ((xK (jN Zfa db (az) (mO _)) (uM (jN dW (dF aR (dF cI ρ (Zjo Zbu (az))) (az)) (aV) (mO _))))))),?_⟩;obtain⟨z0,rfl,q⟩:=h;exact Q8 q
theorem uQ:G.HhH P w K mg base 1 AD.VP (fX T.um.g) ["word"] (HB):=by
 have sc:aM ["word"] ["word"] (aF Ug):=cF;walk_at "okH"
 ·refine⟨_,(aB (aH (cQ (aa (aV) (aa ρ (aa (di au) au)))))),?_⟩;obtain⟨z0,rfl,q⟩:=h;exact Zcj q
theorem uT:ι 1 AD.J2 (fX T.rA.g) Jq (Zek K):=by
 have sc:aM ["_law_script","_law_k"] Jq (aF Ip):=cF;walk_at "ok"
 ·refine⟨_,(ao (bO (j8 wk Ψ db) (aB (aH (dF cI ρ Ψ))) aX)
   (aB (aH (az)))),?_⟩
  obtain⟨z0,z1,rfl,q⟩:=h;exact YT q
theorem eG:ι 1 AD.J1 (fX T.eU.g) Jp (Bp):=by
 have sc:aM ["_law_cell_here","_law_prime","_law_many","_law_drawn"] Jp (aF Io):=cF;walk_at "ok"
 ·refine⟨_,(ao (fJ 3 sc.nd (aW gM (aW dj ρ Ψ) (az)))
   (aB (aH (aW dj (aW dj (aW pP (aW dj (aW pP aS aS) Ψ) (az)) Ψ) ac)))),?_⟩
  obtain⟨z0,z1,z2,rfl,q⟩:=h;exact YS q
theorem Rx:ι 1 AD.Ft (fX T.Ei.g) Dz (Y6):=by
 have sc:aM ["_law_cell_here","_law_letters","_law_hands_here","_law_hand","_law_sign","_law_name"] Dz (aF Cq):=cF;walk_at "ok"
 ·refine⟨_,(ao (fJ 1 sc.nd (aV))
   (ao (fJ 2 sc.nd (di au))
   (ao (lY PassesOwn.never rfl (Gy rfl T.yN (aa (aW gM (az) (aW dj ρ (az))) au)) fc
   (ao (fJ 4 sc.nd (dF Zlc Ψ (aW dj (aW gM (aW iz ρ (az)) (aW pP (az) aS)) (az))))
   (ao (fJ 5 sc.nd (aW uP (aW uP (tM G.WW (aV) Dl (yP cw)) dy) (tM G.WW (aV) Dl (yP cw))))
   (aB (iy (tO PySem.F.plainAttrs_list PySem.F.slot_list_append PySem.F.type_list_append jQ ac (aa (cQ (aa en (aa (aW gM (az) (aW pP (aW dj (aW gM (aW iz ρ (az)) (aW pP (aW pP (az) aS) aS)) (az)) cw)) au))) au)))))))
   (aB (aH ac))))),?_⟩
  obtain⟨z0,rfl,q⟩:=h;exact S8 q
theorem Xc:ι 1 AD.JX (fX T.JC.g) Jl (Zei):=by
 have sc:aM ["_law_cell_here"] Jl (aF Ik):=cF;walk_at "ok"
 ·refine⟨_,(ao (bO (j8 dW (aW dj ρ (az)) (az)) (aB (aH (aW gM (az) cw))) aX)
   (ao (bO (j8 dW (aW dj ρ (az)) (az)) (aB (aH (aW Ar (aW GF (az) (az)) (aW dj (aW iz ρ (az)) (aW GF (az) (az)))))) aX)
   (aB (aH (aW gM (az) (aW dj (aW dj (aW pP ρ (az)) (az)) (aW Ar (aW GF (az) (az)) (az)))))))),?_⟩
  obtain⟨z0,rfl,q⟩:=h;exact YL q
theorem uR:ι 1 AD.JV (fX T.rz.g) Jj (Zeh):=by
 have sc:aM ["_law_drawn","_law_size"] Jj (aF Ii):=cF;walk_at "ok"
 ·refine⟨_,(ao (bO (j8 dW (aW dj ρ (az)) (az)) (aB (aH (aW dj (aW iz ρ (az)) Ψ))) aX)
   (aB (aH cw))),?_⟩
  obtain⟨z0,z1,rfl,q⟩:=h;exact YJ q
theorem Xa:ι 1 AD.JT (fX T.Jz.g) Ji (Zml):=by
 have sc:aM ["_law_seed","_law_number","_law_letters","_law_sign"] Ji (aF Ih):=cF;walk_at "ok"
 ·refine⟨_,(ao (fJ 2 sc.nd (aV))
   (ao (fJ 3 sc.nd (dF Zlc ac (aW dj (aW gM (aW iz ρ (az)) (aW pP (az) Ψ)) (az))))
   (aB (aH (aW uP (aW uP (tM G.WW (aV) Dl (yP (aW dj ρ (az)))) aS) (tM G.WW (aV) Dl (yP cw))))))),?_⟩
  obtain⟨z0,z1,rfl,q⟩:=h;exact YH q
theorem rN:ι 1 AD.Fg (fX T.pB.g) Dt (Gb):=by
 have sc:aM ["_law_found"] Dt (aF Cg):=cF;walk_at "ok"
 ·refine⟨rG,(aB (aH ((xK (bR G.qd η T.fD G.boot_isinstance (aa ρ (aa (uN rfl T.Zep G.boot_int rfl) au))) (uM (Zjq (bR G.qd η T.fD G.boot_isinstance (aa ρ (aa (uN rfl T.Wf G.boot_bool rfl) au))))))))),?_⟩;obtain⟨z0,rfl,q⟩:=h;exact SQ q
theorem zZ:ι 1 AD.Fl (fX T.uZ.g) Dv (dZ K):=by
 have sc:aM ["_law_slots","_law_links","_law_met","_law_todo","_law_row_here","_law_seen","_law_birth"] Dv (aF Ck):=cF;walk_at "ok"
 ·refine⟨_,(ao (fJ 3 sc.nd (di au))
   (ao (lY PassesOwn.never rfl (lq ρ) (eV (i:=4) sc.nd rfl b8)
   (aB (Zjm (i:=3) sc.nd rfl b8 dy G.Zld)))
   (ao (fJ 5 sc.nd (kE))
   (aB (Nt PassesOwn.never (j8 (G.Zr3 (iU hr)) aS (di au)) (ao (fJ 6 sc.nd (Zr2 PySem.F.plainAttrs_list PySem.F.slot_list_pop PySem.F.type_list_pop Zrk aS))
   (aB (bO (PW.pt (uL (j8 G.nG (pv 6) (dD)) (o9 (rM (mK (iU hr) (pv 6) en))))) (ao (lZ (iU hr) en (pv 6) (lD) rfl)
   (ao (lZ (iU hr) ac (pv 6) (lD) rfl)
   (aB (Zjm (i:=3) sc.nd rfl b8 (W4 hr Ψ (pv 6)) G.Zld)))) aX)))))))),?_⟩
  obtain⟨z0,z1,z2,rfl,q⟩:=h;exact S5 q
theorem z6:ι 1 AD.Fq (fX T.u5.g) Dy (kO K):=by
 have sc:aM ["_law_birth","_law_links"] Dy (aF Cp):=cF;walk_at "ok"
 ·refine⟨_,(ao (bO (j8 G.uO ρ (dD)) (aB (aH (di au))) aX)
   (aB (aH (W4 hr Ψ ρ)))),?_⟩
  obtain⟨z0,z1,rfl,q⟩:=h;exact S7 q
theorem Ry:ι 1 AD.Fv (fX T.Ej.g) DG (Zbp):=by
 have sc:aM ["_law_event_here"] DG (aF Cr):=cF;walk_at "ok"
 ·refine⟨rH K,(ao (bO (PW.pt (tL (lX (gU (bR G.qd η T.fD G.boot_isinstance (aa ρ (aa (uN rfl T.K8 G.boot_tuple rfl) au))))) (rK (j8 Zk6 db (az))))) el aX)
   (aB (aH ((xK (bR G.qd η T.fD G.boot_isinstance (aa Φ (aa (uN rfl T.Zeo G.boot_str rfl) au))) (uM (bR G.qd η T.fD G.boot_isinstance (aa Φ (aa (uN rfl T.lV G.boot_list rfl) au))))))))),?_⟩
  obtain⟨z0,rfl,q⟩:=h;exact S9 q
theorem DP:ι 2 AD.J4 (fX T.Ea.g) Jr (yG XQ.C XQ.H):=by
 have sc:aM ["self","place","cell"] Jr (aF Iu):=cF;walk_at "ok"
 ·refine⟨_,(ao (fJ 2 sc.nd (dF cI Ξ Ψ))
   (ao (bJ ρ (aW Ar Ξ (jF ac T.yV.c T.nj.m (ju T).g ah (ju (P:=P) (base:=base) T).b .nil G.dG)) rfl)
   (ao (j6 (dD) (j7 Ξ Ψ set_list))
   (aB (aH (aK ac rfl)))))),?_⟩
  obtain⟨z0,z1,rfl,q⟩:=h;exact Zb (lU T).w.c q
theorem iR:ι 2 AD.Qo (fX T.ji.g) NB (jk XQ):=by
 have sc:aM ["heap","place","cell"] NB (aF MF):=cF;walk_at "ok"
 ·refine⟨_,(ao (fJ 2 sc.nd (fu (mL T) hr T.mo T.mR (aa ρ cv)))
   (ao (bO (j8 G.uO ac (dD)) (aB (aH (dD))) aX)
   (aB (aH (aK ac rfl))))),?_⟩
  obtain⟨z0,z1,rfl,q⟩:=h;exact Zbe (lU T).w q
theorem qM:ι 2 AD.uy (fX T.qY.g) tV (vC 0):=by
 have sc:aM ["self","hands"] tV (aF sO):=cF;walk_at "ok"
 ·refine⟨_,(aB (aH (fu (Vb T) hr T.mo T.O3 cv))),?_⟩;obtain⟨z0,z1,rfl,q⟩:=h;exact Gh q
theorem qL:ι 2 AD.ux (fX T.qX.g) tU (lR 2):=by
 have sc:aM ["self","looked","hands"] tU (aF sJ):=cF;walk_at "ok"
 ·refine⟨_,(aB (aH (fu (Vb T) hr T.mo T.O3 dP))),?_⟩;obtain⟨z0,z1,z2,rfl,q⟩:=h;exact Gg q
theorem Zo0:ι 2 AD.Zm0 (fX T.Zkx.g) Zjx (Zmo XQ):=by
 have sc:aM ["world","place","sweeper","cell"] Zjx (aF Zj4):=cF;walk_at "ok"
 ·refine⟨_,(ao (fJ 2 sc.nd Ξ)
   (ao (fJ 3 sc.nd (fu (mL T) hr T.mo T.mR (aa Ξ cv)))
   (ao (bO (PW.pt (tL (j8 Zk6 (aK ac rfl) (aV)) (tL (j8 G.uO aS (dD)) (rK (gU (fu (jP T) hr T.mo T.jJ (aa ρ ck))))))) (aB (aH (dD))) aX)
   (ao (bJ aS (aK ac rfl) rfl)
   (ao (iy (tO PySem.F.plainAttrs_list PySem.F.slot_list_append PySem.F.type_list_append jQ (aK ac rfl) cv))
   (aB (aH (aK aS rfl)))))))),?_⟩
  obtain⟨z0,z1,rfl,q⟩:=h;exact Zo5 (lU T).w q
theorem Zfc:ι 2 AD.Zm2 (fX T.Zd2.g) Zjy (Zej XQ):=by
 have sc:aM ["world","place","birth","cell"] Zjy (aF Zj6):=cF;walk_at "ok"
 ·refine⟨_,(ao (fJ 3 sc.nd (fu (mL T) hr T.mo T.mR (aa Ξ cv)))
   (ao (bO (PW.pt (tL (j8 G.uO aS (dD)) (rK (j8 Zk6 (aK aS rfl) ac)))) el aX)
   (aB (aH ((xK (jN dW c0 (aV) (mO _)) (uM (Zjq (fu (jP T) hr T.mo T.jJ (aa ρ ck)))))))))),?_⟩
  obtain⟨z0,z1,z2,rfl,q⟩:=h;exact Zow (lU T).w q
theorem jG:ι 2 AD.V1 (fX T.jT.g) U4 (uE XQ AD.bh):=by
 have sc:aM ["world","hand","slot","cell"] U4 (aF Us):=cF;walk_at "okX"
 ·refine⟨_,(ao (fJ 3 sc.nd (fu (mL T) hr T.mo T.mR (aa Ξ (aa (dF cI (fu (gj T) hr T.mo T.gO (aa ρ cv)) ac) au))))
   (ao (bO (j8 G.uO aS (dD)) (aB (G.Dj rfl rfl (T.mo T.J7) T.Zg (aa (aV) au) (λ_ _ _ _ _ _ _ I hx hE=>G.W2 I hx hE))) aX)
   (aB (aH aS)))),?_⟩
  obtain⟨z0,z1,z2,rfl,q⟩:=h;exact Ze2 (lU T).w q
theorem xO:ι 2 AD.Af (fX T.rQ.g) zU (Bm XQ):=by
 have sc:aM ["world","hand","place"] zU (aF zy):=cF;walk_at "ok"
 ·refine⟨_,(ao (bO (PW.pt (tL (j8 dW (aW NT c0 (T.Zq3.pe rfl)) (az)) (rK (gU (fu (W8 T) hr T.mo T.Jx (aa ρ cv)))))) (aB (aH (di au))) aX)
   (aB (aH (di dP)))),?_⟩
  obtain⟨z0,z1,z2,rfl,q⟩:=h;exact LC (lU T).w q
theorem U8:ι 2 AD.Zaw (fX T.OJ.g) ZS (QL K XQ.C XQ.H):=by
 have sc:aM ["heap","places","way"] ZS (aF Zu):=cF;walk_at "ok"
 ·refine⟨yO K (jw XQ.H),(aB (aH (G.W3 (cns:=["heap","way"]) [0,2] (G.Ld rfl T.jD cv) (λ_ _ _ _ _=>(G.Zcn (j8 G.nG (fu (mL T) hr T.mo T.mR (aa ac cv)) (dD)))) (λ_ _ _ _ _=>(cQ (aa Ψ (aa (aW Znv aS (cQ fk)) au)))) rfl rfl av (by repeat (first | exact trivial | refine⟨rfl,?_⟩)) rfl γ rfl γ γ rfl rfl γ))),?_⟩;obtain⟨z0,z1,z2,z3,z4,z5,rfl,q⟩:=h;exact Zh7 q
theorem Z0:ι 2 AD.Qn (fX T.O1.g) ["world"] (QM XQ):=by
 have sc:aM ["world","heap"] ["world"] (aF My):=cF;walk_at "ok"
 ·refine⟨xJ K XQ.H (vG XQ.H) (iZ XQ),(ao (Zcm (i:=1) sc.nd rfl (Or.inr rfl) Ξ)
   (aB (aH (G.Zf6 (cns:=["world","heap"]) [0,1] (lq (jF Ψ T.vf.c T.z8.m (z7 T).g ah (z7 (P:=P) (base:=base) T).b .nil G.dG)) (λ_ _ _ _ _=>(G.Zcn (lX (gU (fu (jP T) hr T.mo T.jJ (aa Ψ (aa (dF cI (aK ac rfl) ρ) au))))))) (λ_ _ _ _ _=>ρ) rfl rfl av (by repeat (first | exact trivial | refine⟨rfl,?_⟩)) rfl γ rfl γ γ rfl γ)))),?_⟩
  obtain⟨z0,rfl,q⟩:=h;exact Zat (lU T).w q
theorem qI:ι 2 AD.dY (fX T.uh.g) ["world"] (cV XQ (U6 "lost")):=by
 have sc:aM ["world"] ["world"] (aF sG):=cF;walk_at "ok"
 ·refine⟨_,(aB (aH (fu (zW T) hr T.mo T.uW (aa c0 au)))),?_⟩;obtain⟨z0,rfl,q⟩:=h;exact Bv (lU T).w q
theorem Zcu:ι 2 AD.V0 (fX T.Vh.g) ["log"] (Zbo):=by
 have sc:aM ["log"] ["log"] (aF Ui):=cF;walk_at "ok"
 ·refine⟨_,(aB (aH ((xK (jN Zfa db (az) (mO _)) (uM (fu (zX T) hr T.mo T.uX (aa (dF cI ρ (Zjo Zbu (az))) au))))))),?_⟩;obtain⟨z0,rfl,q⟩:=h;exact Zdc q
theorem Xd:ι 2 AD.JZ (fX T.JD.g) Jm (Zmp):=by
 have sc:aM ["_law_n","_law_hand","_law_slot_here","_law_many","_law_bulk"] Jm (aF Il):=cF;walk_at "okw"
 ·refine⟨_,(Znh (i:=3) sc.nd rfl b8 (kJ (az) (kJ (az) (kJ (az) (kJ (az) (kJ (az) (kJ (az) (kJ (az) (kJ (az) (kJ (az) (kJ (az) Znq)))))))))) ax (λ_ _=>rfl)
   (ZP (fJ 4 sc.nd (aW dj ρ (az)))
   (ZP (bO (j8 dW ax (az)) (aB (fJ 4 sc.nd (aW dj ρ (aW gM (aW GF (az) (az)) (az))))) aX)
   (Zng (aH (cQ (aa (aV) (aa Ψ (aa ac (aa aS (aa dy au))))))))))),?_⟩
  obtain⟨z0,z1,z2,rfl,q⟩:=h;exact YM q
theorem Ru:ι 2 AD.Fj (fX T.Eg.g) Du (Zbm):=by
 have sc:aM ["_law_n","_law_most","_law_drawn"] Du (aF Cj):=cF;walk_at "ok"
 ·refine⟨_,(ao (fJ 2 sc.nd ax)
   (ao (bO (j8 dW (aW dj ac (az)) (az)) (aB (aH (cQ (aa (aV) (aa (aW gM (az) (aW dj (aW iz ac (az)) (az))) au))))) aX)
   (aB (aH (cQ (aa (aV) (aa (aW gM (az) (aW dj (aW iz ac (az)) Ψ)) au))))))),?_⟩
  obtain⟨z0,z1,rfl,q⟩:=h;exact SX q
theorem Rv:ι 2 AD.Fp (fX T.Eh.g) Dw (Zbn):=by
 have sc:aM ["_law_n","_law_hand","_law_slot_here","_law_hands_here","_law_seed","_law_sort","_law_word_here","_law_taker","_law_size"] Dw (aF Cm):=cF;walk_at "ok"
 ·refine⟨_,(ao (fJ 5 sc.nd (aW dj ρ (az)))
   (ao (fJ 6 sc.nd (fu (Xa T) hr T.mo T.Jz (aa dy (aa ax au))))
   (ao (bO (j8 dW en (az)) (ao (fJ 7 sc.nd (fu (eG T) hr T.mo T.eU (aa ρ (aa (az) (aa (bR G.cA η T.gC G.boot_len ck) au)))))
   (ao (fJ 8 sc.nd (dF aR (dF cI aS (pv 7)) (az)))
   (aB (aH (cQ (aa (aV) (aa Ψ (aa ac (aa (pv 7) (aa (fu (uR T) hr T.mo T.rz (aa ax (aa (pv 8) au))) au)))))))))) aX)
   (ao (bO (j8 dW en (az)) (aB (aH (cQ (aa (aV) (aa Ψ (aa ac (aa (pv 6) au))))))) aX)
   (ao (bO (j8 dW en (az)) (aB (aH (cQ (aa (aV) (aa Ψ (aa ac (aa (pv 6) au))))))) aX)
   (ao (bO (j8 dW cw (az)) (aB (aH (cQ (aa (aV) (aa Ψ dP))))) aX)
   (ao (bO (j8 dW cw (az)) (aB (aH (cQ (aa (aV) (aa Ψ (aa ac (aa (aW dj ρ (aW GF (az) (az))) au))))))) aX)
   (aB (aH (cQ (aa (aV) (aa Ψ (aa ac (aa (Zjo Zbu (aW dj (aW pP ρ (az)) (aW GF (az) (az)))) au)))))))))))))),?_⟩
  obtain⟨z0,z1,z2,z3,z4,rfl,q⟩:=h;exact S6 q
theorem RB:ι 2 AD.Fx (fX T.Ek.g) DK (Zbq K):=by
 have sc:aM ["_law_row_here","_law_event_here","_law_slots","_law_links","_law_tally","_law_mine","_law_inner_here","_law_other_here"] DK (aF Cu):=cF;walk_at "ok"
 ·refine⟨_,(ao (fJ 5 sc.nd (dF cI ac Φ))
   (ao (bO (PW.pt (uL (j8 dW τ (aV)) (o9 fg))) (ao (bO (PW.pt (tL (lX (gU (fu (rN T) hr T.mo T.pB (aa τ au)))) (rK (rM (Zjw (iU hr) τ aS))))) el aX)
   (ao (j6 τ (j7 en Φ set_list))
   (ao (lZ (iU hr) aS τ (aW W6 (di (aa (dD) au)) Φ) rfl)
   (aB (lZ (iU hr) (W4 hr dy (aV)) τ (lD) rfl))))) aX)
   (ao (bO (PW.pt (uL (j8 dW τ (aV)) (o9 fg))) (ao (bO (PW.pt (uL (j8 G.nG τ (dD)) (o9 (rM (mK (iU hr) τ aS))))) el aX)
   (aB (j6 τ (j7 en Φ set_list)))) aX)
   (ao (bO (PW.pt (uL fg (o9 (j8 wk Φ (bR G.cA η T.gC G.boot_len (aa (fu (z6 T) hr T.mo T.u5 (aa (dF cI en Φ) ck)) au)))))) (aB (j6 (dF cI (W4 hr aS (dF cI en Φ)) Φ) (j7 en Φ set_list))) aX)
   (ao (bO (PW.pt (uL fg (o9 (j8 wk Φ (bR G.cA η T.gC G.boot_len (aa (fu (z6 T) hr T.mo T.u5 (aa (dF cI en Φ) ck)) au)))))) (ao (fJ 6 sc.nd (W4 hr aS (dF cI en Φ)))
   (aB (j6 (dF cI en Φ) (j7 (pv 6) Φ set_list)))) aX)
   (ao (bO fg (aB (j6 (dF cI en Φ) (j7 en Φ set_list))) aX)
   (ao (bO fg (aB (j6 (dD) (j7 en Φ set_list))) aX)
   (ao (bO fg (ao (fJ 7 sc.nd (dF cI ac Φ))
   (aB (j6 (dF cI en Φ) (j7 (pv 7) Φ set_list)))) aX)
   (ao (bO (j8 G.nG (W4 hr dy (aV)) (dD)) (aB (iy (fu (zZ T) hr T.mo T.uZ (aa ac (aa aS (aa (W4 hr dy (aV)) au)))))) aX)
   (aB (aH (lD)))))))))))),?_⟩
  obtain⟨z0,z1,z2,z3,z4,rfl,q⟩:=h;exact Tc q
theorem Z2:ι 2 AD.Qq (fX T.O5.g) NP (QS K):=by
 have sc:aM ["_law_event_here","_law_tally","_law_doomed","_law_birth"] NP (aF MK):=cF;walk_at "ok"
 ·refine⟨_,(ao (fJ 2 sc.nd (kE))
   (ao (lY PassesOwn.never rfl (lq Φ) fc
   (ao (bO (PW.pt (tL (lX (gU (fu (rN T) hr T.mo T.pB ck))) (tL (rM (Zjw (iU hr) aS ac)) (rK (rM (mK (iU hr) aS (W4 hr Ψ (aV)))))))) el aX)
   (aB (lZ (iU hr) ac aS (lD) rfl))))
   (ao (lY PassesOwn.never rfl (G.Znl (W4 hr Ψ (aV))) fc
   (aB (bO (PW.pt (uL (rM (mK (iU hr) aS (W4 hr Ψ (aV)))) (o9 (rM (mK (iU hr) aS ac))))) el aX)))
   (ao (lZ (iU hr) Ψ (aV) ac rfl)
   (ao (lZ (iU hr) Ψ (aV) (dD) rfl)
   (aB (aH ((xK (fu (rN T) hr T.mo T.pB (aa Φ au)) (uM (jN dW Φ (bR G.cA η T.gC G.boot_len (aa Φ au)) (mO _)))))))))))),?_⟩
  obtain⟨z0,z1,rfl,q⟩:=h;exact Zbk q
theorem Xf:ι 3 AD.iW BD.u9 xN (Kc K XQ.C XQ.H AD.cR):=by
 have sc:aM ["self","many","bulk","tone","cell"] xN (aF jE):=cF;refine⟨?_,T.ym,T.JL⟩;have F:=T.Kh;walk_at "okDX"
 ·refine⟨_,(ao (fJ 4 sc.nd (qG (mkT T.yV T.ug) (t7 T).g ah rfl (T.mo T.Zt8) (t7 (P:=P) (base:=base) T).b .nil G.dG (aa (aW gM Ξ (az)) (aa Ψ (aa ac ck)))))
   (ao (bO (j8 Zfa (jF dy T.yV.c T.nj.m (ju T).g ah (ju (P:=P) (base:=base) T).b .nil G.dG) (jF ρ T.vf.c T.DY.m (DN T).g ah (DN (P:=P) (base:=base) T).b .nil G.dG)) (aB (G.Dj rfl rfl (T.mo T.Zmi) T.Zqe (aa (aV) au) (λ_ _ _ _ _ _ _ I hx hE=>G.W2 I hx hE))) aX)
   (ao (bJ ρ (aK dy rfl) rfl)
   (ao (bJ ρ (aW gM Ξ (jF dy T.yV.c T.nj.m (ju T).g ah (ju (P:=P) (base:=base) T).b .nil G.dG)) rfl)
   (aB (aH (mY ρ T.vf.c T.Jw.m (Jt T).g ah (Jt (P:=P) (base:=base) T).b .nil G.dG (aa dy au)))))))),?_⟩
  obtain⟨z0,z1,z2,z3,rfl,q⟩:=h;exact Y9 (lU T).w.c q
theorem qJ:ι 3 AD.uv (fX T.qU.g) tQ (Gf XQ):=by
 have sc:aM ["self","room","kind","hands"] tQ (aF sH):=cF;walk_at "ok"
 ·refine⟨_,(ao (bJ ρ (qG (mkT T.vf T.ud) (tY T).g ah rfl (T.mo T.Zt5) (tY (P:=P) (base:=base) T).b .nil G.dG cv) rfl)
   (ao (bJ ρ ac rfl)
   (ao (bJ ρ (G.W3 (cns:=[]) [] (lq aS) (λ_ _ _ _ _=>G.Nv) (λ_ _ _ _ _=>(qG (mkT T.Zg5 T.ue) (tZ T).g ah rfl (T.mo T.Zt6) (tZ (P:=P) (base:=base) T).b .nil G.dG (aa ρ cv))) rfl rfl av (by repeat (first | exact trivial | refine⟨rfl,?_⟩)) rfl γ rfl γ γ rfl rfl γ) rfl)
   (ao (bJ ρ (kE) rfl)
   (aB (bJ ρ (Zjr (mkT T.QB T.oW) (oU T).g ah rfl (T.mo T.Zif) (oU (P:=P) (base:=base) T).b .nil G.dG) rfl)))))),?_⟩
  obtain⟨z0,z1,z2,z3,rfl,q⟩:=h;exact FZ (lU T).w q
theorem W9:ι 3 AD.JS (fX T.Jy.g) Jh (Ka XQ):=by
 have sc:aM ["heap","places"] Jh (aF Ig):=cF;walk_at "ok"
 ·refine⟨_,(aB (aH (G.Zf6 (cns:=["heap"]) [0] (lq Ψ) (λ_ _ _ _ _=>G.Nv) (λ_ _ _ _ _=>(fu (iR T) hr T.mo T.ji (aa Ψ fk))) rfl rfl av (by repeat (first | exact trivial | refine⟨rfl,?_⟩)) rfl γ rfl γ γ rfl γ))),?_⟩;obtain⟨z0,z1,rfl,q⟩:=h;exact YB (lU T).w q
theorem Zkb:ι 3 AD.Zg0 (fX T.Zfh.g) ["world"] (Zgd XQ):=by
 have sc:aM ["world","sweeper"] ["world"] (aF Zey):=cF;walk_at "ok"
 ·refine⟨_,(ao (fJ 1 sc.nd Ξ)
   (ao (bJ Ψ (aW Ar (az) eE) rfl)
   (ao (bJ Ψ (aW gM eE (az)) rfl)
   (ao (bJ Ψ (aV) rfl)
   (ao (bJ Ψ (di au) rfl)
   (ao (bJ Ψ (G.qH (mY c0 T.uD.c T.qY.m (qM T).g ah (qM (P:=P) (base:=base) T).b .nil G.dG (aa ay au)) (G.qH (mY c0 T.yU.c T.uf (iB T).g ah (iB (P:=P) (base:=base) T).b .nil G.dG (aa ay au)) (mY c0 T.yS.c T.uc (iB T).g ah (iB (P:=P) (base:=base) T).b .nil G.dG (aa ay au)))) rfl)
   (ao (bJ Ψ (az) rfl)
   (ao (bJ Ψ (az) rfl)
   (aB (bJ Ψ (az) rfl)))))))))),?_⟩
  obtain⟨z0,rfl,q⟩:=h;exact Zmg (lU T).w q
theorem nH:ι 3 AD.Qm (fX T.mQ.g) Ny (mV XQ):=by
 have sc:aM ["world","places","births","place","birth"] Ny (aF Mw):=cF;walk_at "ok"
 ·refine⟨_,(ao (fJ 2 sc.nd (di au))
   (ao (lY PassesOwn.never rfl (lq Ψ) fc
   (ao (fJ 4 sc.nd (fu (Zo0 T) hr T.mo T.Zkx (aa ρ ck)))
   (aB (bO (j8 G.nG dy (dD)) (aB (iy (tO PySem.F.plainAttrs_list PySem.F.slot_list_append PySem.F.type_list_append jQ ac (aa dy au)))) aX))))
   (aB (aH ac)))),?_⟩
  obtain⟨z0,z1,rfl,q⟩:=h;exact Z3 (lU T).w q
theorem Zcs:ι 3 AD.VN (fX T.Vf.g) Uy (Wb XQ):=by
 have sc:aM ["world","place","birth"] Uy (aF Ue):=cF;walk_at "ok"
 ·refine⟨_,(ao (bO (gU (fu (Zfc T) hr T.mo T.Zd2 (aa ρ (aa Ψ dP)))) (aB (aH (dD))) aX)
   (ao (bO (PW.pt (uL (gU (fu (Rr T) hr T.mo T.Ed fk)) (o9 (lX (gU (fu (jP T) hr T.mo T.jJ (aa ρ (aa (dF cI c0 Ψ) au)))))))) (aB (aH (dD))) aX)
   (aB (aH Ψ)))),?_⟩
  obtain⟨z0,z1,z2,rfl,q⟩:=h;exact Zch (lU T).w q
theorem pA:ι 3 AD.JR (fX T.nT.g) Jg (yD XQ AD.bh AD.bH):=by
 have sc:aM ["world","hand","slot","field","cell"] Jg (aF Ie):=cF;walk_at "okX"
 ·refine⟨_,(ao (fJ 4 sc.nd (pq (jG T).g ah rfl (T.mo T.jT.a) (Ba T.jT.g).kp (jG (P:=P) (base:=base) T).b .nil G.Dp (aa ρ (aa Ψ dP))))
   (ao (bO (lX (gU (mY dy T.yV.c T.q8.m (qO T).g ah (qO (P:=P) (base:=base) T).b .nil G.dG ck))) (aB (G.Dj rfl rfl (T.mo T.V8) T.Zgf (aa (aV) au) (λ_ _ _ _ _ _ _ I hx hE=>G.W2 I hx hE))) aX)
   (aB (aH (aK dy rfl))))),?_⟩
  obtain⟨z0,z1,z2,z3,rfl,q⟩:=h;exact Ys (lU T).w q
theorem Oe:ι 3 AD.lO (fX T.Vo.g) U3 (cJ XQ Γ PN):=by
 have sc:aM ["world","deed","slots","place"] U3 (aF Ur):=cF;walk_at "ok"
 ·refine⟨_,(ao (fJ 2 sc.nd (fu (gj T) hr T.mo T.gO (aa ρ (aa τ au))))
   (ao (fJ 3 sc.nd (dF cI ac τ))
   (ao (j6 aS (j7 ac τ set_list))
   (aB (aH (cQ (aa (aV) (aa (fu (iR T) hr T.mo T.ji (aa Ξ ck)) (aa (di au) au))))))))),?_⟩
  obtain⟨z0,z1,rfl,q⟩:=h;exact Zdy (lU T).w q
theorem Od:ι 3 AD.lN (fX T.Vn.g) U0 (cJ XQ Γ PL):=by
 have sc:aM ["world","deed","slots","place"] U0 (aF Uq):=cF;walk_at "ok"
 ·refine⟨_,(ao (fJ 2 sc.nd (fu (gj T) hr T.mo T.gO (aa ρ (aa τ au))))
   (ao (fJ 3 sc.nd (dF cI ac τ))
   (ao (j6 (dD) (j7 ac τ set_list))
   (aB (aH (cQ (aa (aV) (aa (fu (iR T) hr T.mo T.ji (aa Ξ ck)) (aa (di au) au))))))))),?_⟩
  obtain⟨z0,z1,rfl,q⟩:=h;exact Zdx (lU T).w q
theorem Js:ι 3 AD.jK (fX T.O2.g) Nz (cJ XQ Γ Eo):=by
 have sc:aM ["world","deed","cell","before"] Nz (aF Mz):=cF;walk_at "okX"
 ·refine⟨_,(ao (fJ 2 sc.nd (pq (jG T).g ah rfl (T.mo T.jT.a) (Ba T.jT.g).kp (jG (P:=P) (base:=base) T).b .nil G.Dp (aa ρ (aa τ (aa τ au)))))
   (ao (fJ 3 sc.nd (aK ac rfl))
   (ao (bJ ac τ rfl)
   (aB (aH (cQ (aa (aV) (aa aS (aa (di au) au))))))))),?_⟩
  obtain⟨z0,z1,rfl,q⟩:=h;exact Zb3 (lU T).w rfl q
theorem N7:ι 3 AD.lH (fX T.Vj.g) UJ (cJ XQ Γ Pn):=by
 have sc:aM ["world","deed","cell"] UJ (aF Uk):=cF;walk_at "okX"
 ·refine⟨_,(ao (fJ 2 sc.nd (pq (jG T).g ah rfl (T.mo T.jT.a) (Ba T.jT.g).kp (jG (P:=P) (base:=base) T).b .nil G.Dp (aa ρ (aa τ (aa τ au)))))
   (aB (aH (cQ (aa (aV) (aa (aK ac rfl) (aa (di au) au))))))),?_⟩
  obtain⟨z0,z1,rfl,q⟩:=h;exact Zdt (lU T).w rfl q
theorem N8:ι 3 AD.lJ (fX T.Vk.g) UL (cJ XQ Γ isName):=by
 have sc:aM ["world","deed","hand","slot","birth"] UL (aF Ul):=cF;walk_at "okX"
 ·refine⟨_,(ao (fJ 2 sc.nd τ)
   (ao (fJ 3 sc.nd τ)
   (ao (fJ 4 sc.nd (aK (pq (jG T).g ah rfl (T.mo T.jT.a) (Ba T.jT.g).kp (jG (P:=P) (base:=base) T).b .nil G.Dp (aa ρ (aa ac ck))) rfl))
   (ao (lZ (iU hr) Ξ τ (cQ (aa (dF cI (fu (gj T) hr T.mo T.gO (aa ρ dP)) aS) (aa dy au))) rfl)
   (aB (aH (cQ (aa (aV) (aa dy (aa (di au) au)))))))))),?_⟩
  obtain⟨z0,z1,rfl,q⟩:=h;exact Zdu (lU T).w rfl q
theorem xP:ι 3 AD.Ag (fX T.rR.g) zV (Ak XQ AD.bU):=by
 have sc:aM ["world","word","place","birth"] zV (aF zz):=cF;walk_at "okX"
 ·refine⟨_,(ao (bO (rM (mK (iU hr) Ψ Ξ)) (aB (G.Dj rfl rfl (T.mo T.Zbi) T.Zii (aa (aV) au) (λ_ _ _ _ _ _ _ I hx hE=>G.W2 I hx hE))) aX)
   (ao (fJ 2 sc.nd (dF aR (W4 hr Ξ Ψ) (az)))
   (ao (fJ 3 sc.nd (dF aR (W4 hr Ξ Ψ) (az)))
   (ao (bO (gU (fu (Zfc T) hr T.mo T.Zd2 (aa ρ (aa ac ck)))) (aB (aH (dD))) aX)
   (aB (aH ac)))))),?_⟩
  obtain⟨z0,z1,rfl,q⟩:=h;exact Nu (lU T).w q
theorem Zct:ι 3 AD.VR (fX T.Vg.g) Uz (Wc K XQ.C XQ.H):=by
 have sc:aM ["heap","rows","queue","number","row","listed","taken","place","way"] Uz (aF Uh):=cF;walk_at "ok"
 ·refine⟨_,(ao (fJ 2 sc.nd (di au))
   (ao (lY PassesOwn.never rfl (G.Ld rfl T.jD cv) (Gz rfl (jq fc (jq (eV (i:=4) sc.nd rfl b8) yQ)))
   (aB (iy (tO PySem.F.plainAttrs_list PySem.F.slot_list_extend PySem.F.type_list_extend GX ac (aa (fu (U8 T) hr T.mo T.OJ (aa ρ (aa dy (aa (cQ ck) au)))) au)))))
   (ao (fJ 5 sc.nd (kE))
   (ao (fJ 6 sc.nd (az))
   (ao (Nt PassesOwn.never (j8 wk (pv 6) (bR G.cA η T.gC G.boot_len dP)) (ao (fJ 7 sc.nd (dF aR (dF cI ac (pv 6)) (az)))
   (ao (fJ 8 sc.nd (dF aR (dF cI ac (pv 6)) (az)))
   (ao (fJ 6 sc.nd (aW gM (pv 6) (az)))
   (aB (bO (rM (G.Zco (iU hr) (pv 7) en)) (ao (lZ (iU hr) en (pv 7) (pv 8) rfl)
   (aB (iy (tO PySem.F.plainAttrs_list PySem.F.slot_list_extend PySem.F.type_list_extend GX ac (aa (fu (U8 T) hr T.mo T.OJ (aa ρ (aa (aK (dF cI Ξ (pv 7)) rfl) (aa (pv 8) au)))) au))))) aX))))))
   (aB (aH (jO (G.Ze4 rfl) η T.lV G.boot_list (aa (G.Zjt en) au))))))))),?_⟩
  obtain⟨z0,z1,z2,z3,z4,rfl,q⟩:=h;exact Zck (lU T).w q
theorem Rq:ι 3 AD.EY (fX T.Ec.g) ["world"] (cV XQ Zk1):=by
 have sc:aM ["world","sweeper","place","cell"] ["world"] (aF BX):=cF;walk_at "ok"
 ·refine⟨_,(ao (fJ 1 sc.nd Ξ)
   (ao (fJ 2 sc.nd eE)
   (ao (bJ Ψ (aW gM ac (az)) rfl)
   (ao (bJ Ψ (aW gM eE (az)) rfl)
   (ao (fJ 3 sc.nd (fu (mL T) hr T.mo T.mR (aa Ξ dP)))
   (ao (bO (PW.pt (tL (j8 G.uO aS (dD)) (rK (gU (fu (jP T) hr T.mo T.jJ (aa ρ ck)))))) (aB (aH (cQ (aa (aV) (aa ac (aa (di au) au)))))) aX)
   (aB (aH (cQ (aa (aV) (aa (mY Ξ T.vf.c T.Ea.m (DP T).g ah (DP (P:=P) (base:=base) T).b .nil G.dG dP) (aa (di dP) au)))))))))))),?_⟩
  obtain⟨z0,rfl,q⟩:=h;exact Ro (lU T).w q
theorem Z1:ι 3 AD.Qp (fX T.O4.g) NK (Zmn):=by
 have sc:aM ["_law_n","_law_hands_here","_law_seed","_law_most","_law_hand","_law_slot_here","_law_inner_here","_law_field","_law_sort"] NK (aF MJ):=cF;walk_at "ok"
 ·refine⟨_,(ao (fJ 4 sc.nd (fu (eG T) hr T.mo T.eU (aa ρ (aa (az) (aa (bR G.cA η T.gC G.boot_len cv) au)))))
   (ao (fJ 5 sc.nd (fu (uR T) hr T.mo T.rz (aa ax (aa (dF aR (dF cI Ψ dy) (az)) au))))
   (ao (fJ 6 sc.nd (fu (uR T) hr T.mo T.rz (aa ax (aa (dF aR (dF cI Ψ dy) (az)) au))))
   (ao (fJ 7 sc.nd ax)
   (ao (fJ 8 sc.nd (aW dj ρ (az)))
   (ao (bO (j8 wk (pv 8) (az)) (aB (aH (fu (Xd T) hr T.mo T.JD (aa ρ (aa dy (aa en au)))))) aX)
   (ao (bO (j8 wk (pv 8) (az)) (aB (aH (cQ (aa (aV) (aa dy (aa en (aa (pv 6) (aa (pv 7) au)))))))) aX)
   (ao (bO (j8 wk (pv 8) (az)) (aB (aH (cQ (aa (aV) (aa dy (aa en (aa (pv 7) (aa (pv 6) au)))))))) aX)
   (ao (bO (j8 dW (pv 8) (az)) (aB (aH (cQ (aa (aV) (aa dy (aa en au)))))) aX)
   (ao (bO (j8 dW (pv 8) (az)) (aB (aH (cQ (aa (aV) (aa dy (aa en (aa (pv 6) au))))))) aX)
   (ao (bO (j8 Zfa (pv 8) (az)) (aB (aH (fu (Ru T) hr T.mo T.Eg (aa ρ ck)))) aX)
   (aB (aH (fu (Rv T) hr T.mo T.Eh (aa ρ (aa dy (aa en (aa Ψ dP)))))))))))))))))),?_⟩
  obtain⟨z0,z1,z2,z3,rfl,q⟩:=h;exact Zbj q
theorem Xe:ι 3 AD.J0 (fX T.JF.g) Jo (Y5 XQ):=by
 have sc:aM ["_law_number","_law_tells"] Jo (aF Im):=cF;walk_at "ok"
 ·refine⟨_,(ao (fJ 1 sc.nd cw)
   (ao (bO (j8 dW (aW dj ρ (az)) (az)) (aB (aH (qG (mkT T.Lr T.jR) (gB T).g ah rfl (T.mo T.Ze9) (gB (P:=P) (base:=base) T).b .nil G.dG (aa (G.GD ⟨T.uD.mk',T.Zkc,T.uD.k⟩ rfl (T.mo T.Zpc)) cv)))) aX)
   (ao (bO (j8 dW (aW dj ρ (az)) (az)) (aB (aH (qG (mkT T.Lr T.jR) (gB T).g ah rfl (T.mo T.Ze9) (gB (P:=P) (base:=base) T).b .nil G.dG (aa (G.GD ⟨T.yU.mk',T.Zo3,T.yU.k⟩ rfl (T.mo T.Zt7)) cv)))) aX)
   (aB (aH (qG (mkT T.Lr T.jR) (gB T).g ah rfl (T.mo T.Ze9) (gB (P:=P) (base:=base) T).b .nil G.dG (aa (G.GD ⟨T.yS.mk',T.Zo2,T.yS.k⟩ rfl (T.mo T.Zt4)) cv))))))),?_⟩
  obtain⟨z0,rfl,q⟩:=h;exact YQ q
theorem KD:ι 3 AD.yg (fX T.yc.g) xM (QK K):=by
 have sc:aM ["_law_event_here","_law_slots","_law_links","_law_tally"] xM (aF xu):=cF;walk_at "ok"
 ·refine⟨_,(ao (bO fg (ao (lZ (iU hr) aS (aV) (jO G.Ze5 η T.We G.boot_dict (aa (W4 hr aS (aV)) au)) rfl)
   (ao (lZ (iU hr) aS (aV) (kE) rfl)
   (aB (iy (fu (zZ T) hr T.mo T.uZ (aa Ψ (aa ac (aa (W4 hr aS (aV)) au)))))))) aX)
   (ao (bO fg (aB (aH ((xK (jN G.nG (W4 hr aS (aV)) (dD) (mO _)) (uM (fu (Z2 T) hr T.mo T.O5 (aa ρ ck))))))) aX)
   (ao (bO fg (ao (bO (rM (mK (iU hr) Φ (W4 hr aS (aV)))) el aX)
   (ao (iy (ZQ (W4 hr aS (aV)) Φ ⟨rfl,rfl,rfl,rfl⟩))
   (aB (iy (ZQ (W4 hr aS (aV)) Φ ⟨rfl,rfl,rfl,rfl⟩))))) aX)
   (ao (bO fg (aB (aH (jN (G.Znu (iU hr)) (W4 hr aS (aV)) (kE) (mO _)))) aX)
   (aB (aH (lD))))))),?_⟩
  obtain⟨z0,z1,z2,z3,rfl,q⟩:=h;exact K6 q
theorem Zka:ι 4 AD.Zfz (fX T.Zfg.g) ["world"] (Zgb XQ):=by
 have sc:aM ["world"] ["world"] (aF Zex):=cF;walk_at "ok"
 ·refine⟨_,(aB (aH (aW Zk7 (fu (Zo1 T) hr T.mo T.Zky fk) (di (aa (G.Znm (G.W3 (cns:=["world"]) [0] (G.Znk (G.Zh3 Ξ)) (λ_ _ _ _ _=>G.Nv) (λ_ _ _ _ _=>(fu (Zcs T) hr T.mo T.Vf (aa ac (aa ρ cv)))) rfl rfl av (by repeat (first | exact trivial | refine⟨rfl,?_⟩)) rfl γ rfl γ γ rfl rfl γ)) au))))),?_⟩;obtain⟨z0,rfl,q⟩:=h;exact Zj8 (lU T).w q
theorem Oa:ι 4 AD.lK (fX T.Vl.g) UT (cJ XQ Γ Pq):=by
 have sc:aM ["world","deed","slots","many","bulk","place"] UT (aF Um):=cF;walk_at "okX"
 ·refine⟨_,(ao (fJ 2 sc.nd (fu (gj T) hr T.mo T.gO (aa ρ (aa τ au))))
   (ao (fJ 3 sc.nd τ)
   (ao (fJ 4 sc.nd τ)
   (ao (fJ 5 sc.nd (mY Ξ T.vf.c T.DX (Xf T).g ah T.ym .nil G.Dp (aa aS (aa dy (aa c0 au)))))
   (ao (j6 en (j7 ac τ set_list))
   (aB (aH (cQ (aa (aV) (aa (fu (iR T) hr T.mo T.ji (aa Ξ (aa en au))) (aa (di au) au))))))))))),?_⟩
  obtain⟨z0,z1,rfl,q⟩:=h;exact Zdv (lU T).w rfl q
theorem Va:ι 4 AD.nY (fX T.Za5.g) ZW (cJ XQ Γ Zan):=by
 have sc:aM ["world","deed","hand","source","field","place"] ZW (aF Zw):=cF;walk_at "okX"
 ·refine⟨_,(ao (fJ 2 sc.nd τ)
   (ao (fJ 3 sc.nd τ)
   (ao (fJ 4 sc.nd τ)
   (ao (fJ 5 sc.nd (dF cI (pq (pA T).g ah rfl (T.mo T.nT.a) (Ba T.nT.g).kp (pA (P:=P) (base:=base) T).b .nil G.Dp (aa ρ (aa ac (aa aS (aa dy au))))) dy))
   (ao (j6 en (j7 (fu (gj T) hr T.mo T.gO (aa ρ dP)) τ set_list))
   (aB (aH (cQ (aa (aV) (aa (fu (iR T) hr T.mo T.ji (aa Ξ (aa en au))) (aa (di au) au))))))))))),?_⟩
  obtain⟨z0,z1,rfl,q⟩:=h;exact Zi6 (lU T).w rfl rfl q
theorem U9:ι 4 AD.nW (fX T.Za4.g) ZV (cJ XQ Γ Zak):=by
 have sc:aM ["world","deed","hand","field","fields","old","new","noted"] ZV (aF Zv):=cF;walk_at "okX"
 ·refine⟨_,(ao (fJ 2 sc.nd τ)
   (ao (fJ 3 sc.nd τ)
   (ao (fJ 4 sc.nd (pq (pA T).g ah rfl (T.mo T.nT.a) (Ba T.nT.g).kp (pA (P:=P) (base:=base) T).b .nil G.Dp (aa ρ (aa ac (aa τ ck)))))
   (ao (fJ 5 sc.nd (dF cI dy aS))
   (ao (fJ 6 sc.nd (dF cI (fu (gj T) hr T.mo T.gO (aa ρ dP)) τ))
   (ao (j6 (pv 6) (j7 dy aS set_list))
   (ao (fJ 7 sc.nd (fu (nH T) hr T.mo T.mQ (aa ρ (aa (aW Zk7 (fu (NZ T) hr T.mo T.z9 (aa ρ (aa en au))) (fu (xO T) hr T.mo T.rQ (aa ρ (aa ac (aa (pv 6) au))))) au))))
   (aB (aH (cQ (aa (aV) (aa (fu (iR T) hr T.mo T.ji (aa Ξ (aa en au))) (aa (pv 7) au))))))))))))),?_⟩
  obtain⟨z0,z1,rfl,q⟩:=h;exact Zi5 (lU T).w rfl rfl q
theorem Oc:ι 4 AD.lM (fX T.Vm.g) UW (cJ XQ Γ PJ):=by
 have sc:aM ["world","deed","giver","taker","place","noted"] UW (aF Uo):=cF;walk_at "ok"
 ·refine⟨_,(ao (fJ 2 sc.nd τ)
   (ao (fJ 3 sc.nd τ)
   (ao (fJ 4 sc.nd (dF cI (fu (gj T) hr T.mo T.gO (aa ρ dP)) τ))
   (ao (j6 dy (j7 (fu (gj T) hr T.mo T.gO (aa ρ ck)) τ set_list))
   (ao (fJ 5 sc.nd (fu (nH T) hr T.mo T.mQ (aa ρ (aa (fu (xO T) hr T.mo T.rQ (aa ρ (aa ac (aa dy au)))) au))))
   (aB (aH (cQ (aa (aV) (aa (fu (iR T) hr T.mo T.ji (aa Ξ (aa dy au))) (aa en au))))))))))),?_⟩
  obtain⟨z0,z1,rfl,q⟩:=h;exact Zdw (lU T).w q
theorem N6:ι 4 AD.lG (fX T.Vi.g) UG (cJ XQ Γ Pk):=by
 have sc:aM ["world","deed","place","noted"] UG (aF Uj):=cF;walk_at "okX"
 ·refine⟨_,(ao (fJ 2 sc.nd (pq (xP T).g ah rfl (T.mo T.rR.a) (Ba T.rR.g).kp (xP (P:=P) (base:=base) T).b .nil G.Dp (aa ρ (aa τ au))))
   (ao (j6 ac (j7 (fu (gj T) hr T.mo T.gO (aa ρ (aa τ au))) τ set_list))
   (ao (fJ 3 sc.nd (fu (nH T) hr T.mo T.mQ (aa ρ (aa (di dP) au))))
   (aB (aH (cQ (aa (aV) (aa (fu (iR T) hr T.mo T.ji (aa Ξ dP)) ck)))))))),?_⟩
  obtain⟨z0,z1,rfl,q⟩:=h;exact Zds (lU T).w rfl q
theorem zY:ι 4 AD.Fb (fX T.uY.g) Ds (pC XQ):=by
 have sc:aM ["world","hands","noted","number","hand"] Ds (aF BZ):=cF;walk_at "ok"
 ·refine⟨_,(ao (fJ 2 sc.nd (di au))
   (ao (lY PassesOwn.never rfl (G.Ld rfl T.jD (aa Ξ au)) (Gz rfl (jq fc (jq (eV (i:=4) sc.nd rfl b8) yQ)))
   (aB (bO (j8 dW (aW NT (aW Zcq Ψ aS) (az)) (az)) (aB (iy (tO PySem.F.plainAttrs_list PySem.F.slot_list_extend PySem.F.type_list_extend GX ac (aa (fu (nH T) hr T.mo T.mQ (aa ρ (aa (aK dy rfl) au))) au)))) aX)))
   (aB (aH ac)))),?_⟩
  obtain⟨z0,z1,rfl,q⟩:=h;exact RC (lU T).w q
theorem Zny:ι 4 AD.Zly (fX T.Zkv.g) ["world"] (cV XQ Zjz):=by
 have sc:aM ["world","sweeper","cell"] ["world"] (aF Zj2):=cF;walk_at "ok"
 ·refine⟨_,(ao (fJ 1 sc.nd Ξ)
   (ao (fJ 2 sc.nd (dF cI c0 (tO PySem.F.plainAttrs_list PySem.F.slot_list_pop PySem.F.type_list_pop Zkr eE (aa (az) au))))
   (ao (bJ Ψ (aW gM eE (az)) rfl)
   (aB (aH (cQ (aa (aV) (aa (aK ac rfl) (aa (fu (nH T) hr T.mo T.mQ (aa ρ (aa (aK ac rfl) au))) au))))))))),?_⟩
  obtain⟨z0,rfl,q⟩:=h;exact Zmz (lU T).w q
theorem wA:ι 4 AD.fQ (fX T.xY.g) ["world"] (cV XQ (U6 "give")):=by
 have sc:aM ["world"] ["world"] (aF xq):=cF;walk_at "ok"
 ·refine⟨_,(ao (bO (j8 wk c0 c0) (aB (aH (fu (Rq T) hr T.mo T.Ec fk))) aX)
   (aB (aH (fu (Zr7 T) hr T.mo T.Zpv fk)))),?_⟩
  obtain⟨z0,rfl,q⟩:=h;exact Ks (lU T).w q
theorem Xb:ι 4 AD.JW (fX T.JB.g) Jk (Y4 K):=by
 have sc:aM ["_law_cells","_law_hands_here","_law_seed","_law_most","_law_rows_here","_law_k","_law_cell_here"] Jk (aF Ij):=cF;walk_at "ok"
 ·refine⟨_,(ao (fJ 4 sc.nd (di au))
   (ao (lY PassesOwn.never rfl (G.Ld rfl T.jD fk) (Gz rfl (jq (eV (i:=5) sc.nd rfl b8) (jq (eV (i:=6) sc.nd rfl b8) yQ)))
   (aB (iy (tO PySem.F.plainAttrs_list PySem.F.slot_list_append PySem.F.type_list_append jQ dy (aa (fu (Z1 T) hr T.mo T.O4 (aa (aW gM (pv 6) (aW pP (aW pP (az) en) en)) (aa Ψ (aa ac ck)))) au)))))
   (aB (aH dy)))),?_⟩
  obtain⟨z0,z1,z2,z3,rfl,q⟩:=h;exact YK q
theorem GJ:ι 4 AD.wH (fX T.wC.g) vY (yC K):=by
 have sc:aM ["_law_rows_here","_law_log","_law_slots","_law_links","_law_tally","_law_last","_law_row_here","_law_events","_law_event_here"] vY (aF vM):=cF;walk_at "ok"
 ·refine⟨_,(ao (fJ 3 sc.nd (kE))
   (ao (fJ 4 sc.nd (Zno (Dk (aV) (kE) (Dk (aV) (kE) (Dk (aV) (dD) (Dk (aV) (kE) Znj)))) rfl rfl ε ε))
   (ao (fJ 5 sc.nd (dD))
   (ao (lY PassesOwn.never rfl (G.Zr1 rfl T.Zen (aa ρ cv)) (Gz rfl (jq (eV (i:=6) sc.nd rfl b8) (jq (eV (i:=7) sc.nd rfl b8) yQ)))
   (aB (lY PassesOwn.never rfl (lq (pv 7)) (eV (i:=8) sc.nd rfl b8)
   (ao (bO (lX (gU (fu (Ry T) hr T.mo T.Ej (aa (pv 8) au)))) el aX)
   (ao (fJ 5 sc.nd (dF aR (pv 8) (az)))
   (aB (bO (j8 dW (dF aR (pv 6) (az)) (aV)) (aB (bO (lX (gU (fu (KD T) hr T.mo T.yc (aa (pv 8) (aa ac (aa aS (aa dy au))))))) el aX)) (aB (bO (lX (gU (fu (RB T) hr T.mo T.Ek (aa (pv 6) (aa (pv 8) (aa ac (aa aS (aa dy au)))))))) el aX)))))))))
   (aB (aH ((Ztn (jN dW (bR G.cA η T.gC G.boot_len cv) db (mO _)) (uM ((xK (jN wk (bR G.cA η T.gC G.boot_len cv) db (mO _)) (uM (jN dW en (aV) (mO _)))))))))))))),?_⟩
  obtain⟨z0,z1,z2,rfl,q⟩:=h;exact Hs q
theorem Zps:ι 5 AD.Zuu (fX T.Zrm.g) Zto (cJ XQ Γ eQ):=by
 have sc:aM ["world","deed","act"] Zto (aF Zti):=cF;walk_at "okX"
 ·refine⟨Zjb K AD.lO AD.lN AD.nY AD.lM AD.lK AD.lJ AD.nW AD.lH AD.lG AD.jK (cJ XQ Γ PN) (cJ XQ Γ PL) (cJ XQ Γ Zan) (cJ XQ Γ PJ) (cJ XQ Γ Pq) (cJ XQ Γ isName) (cJ XQ Γ Zak) (cJ XQ Γ Pn) (cJ XQ Γ Pk) (cJ XQ Γ Eo) E,(ao (fJ 2 sc.nd (G.Zjp T.Ua rfl τ (λ_ _=>rfl)))
   (aB (aH (G.ZR (k:=4) (G.Q5.cons ε (Oa T).g (Oa (P:=P) (base:=base) T).b (Ba T.Vl.g).kp (G.Q5.cons ε (Va T).g (Va (P:=P) (base:=base) T).b (Ba T.Za5.g).kp (G.Q5.cons ε (U9 T).g (U9 (P:=P) (base:=base) T).b (Ba T.Za4.g).kp (G.Q5.cons ε (Oe T).g (Oe (P:=P) (base:=base) T).b (Ba T.Vo.g).kp (G.Q5.cons ε (Od T).g (Od (P:=P) (base:=base) T).b (Ba T.Vn.g).kp (G.Q5.cons ε (Oc T).g (Oc (P:=P) (base:=base) T).b (Ba T.Vm.g).kp (G.Q5.cons ε (Js T).g (Js (P:=P) (base:=base) T).b (Ba T.O2.g).kp (G.Q5.cons ε (N7 T).g (N7 (P:=P) (base:=base) T).b (Ba T.Vj.g).kp (G.Q5.cons ε (N8 T).g (N8 (P:=P) (base:=base) T).b (Ba T.Vk.g).kp (G.Q5.cons ε (N6 T).g (N6 (P:=P) (base:=base) T).b (Ba T.Vi.g).kp G.Q5.nil)))))))))) ah rfl b8 G.Dp (aa ρ cv))))),?_⟩
  obtain⟨z0,z1,rfl,q⟩:=h;exact Zux (lU T).w q
theorem ZZ:ι 5 AD.Qj (fX T.OD.g) ["scene"] (V9 AD.cj XQ):=by
 have sc:aM ["scene"] ["scene"] (aF Mr):=cF;walk_at "ok"
 ·refine⟨_,(aB (aH (qG (mkT T.Zbc T.qU) (qJ T).g ah rfl (T.mo T.Zpa) (qJ (P:=P) (base:=base) T).b .nil G.dG (aa Ξ (aa Ξ (aa Ξ au)))))),?_⟩;obtain⟨z0,rfl,q⟩:=h;exact Zh (lU T) q
theorem wB:ι 5 AD.fU (fX T.xZ.g) ["world"] (cV XQ (U6 "rest")):=by
 have sc:aM ["world","noted"] ["world"] (aF xr):=cF;walk_at "ok"
 ·refine⟨_,(ao (iy (fu (Zkb T) hr T.mo T.Zfh fk))
   (ao (fJ 1 sc.nd (fu (zY T) hr T.mo T.uY (aa ρ (aa c0 au))))
   (aB (aH (cQ (aa (aV) (aa c0 cv))))))),?_⟩
  obtain⟨z0,rfl,q⟩:=h;exact Ku (lU T).w q
theorem Rt:ι 5 AD.Ff (fX T.Ef.g) ["world"] (Ge XQ):=by
 have sc:aM ["world","place","way","cell"] ["world"] (aF Cd):=cF;walk_at "ok"
 ·refine⟨_,(ao (lY PassesOwn.never rfl (lq (fu (Zct T) hr T.mo T.Vg (aa Ξ (aa (fu (Zka T) hr T.mo T.Zfg fk) au)))) (Gz rfl (jq (eV (i:=1) sc.nd rfl b8) (jq (eV (i:=2) sc.nd rfl b8) yQ)))
   (ao (fJ 3 sc.nd (dF cI c0 Ψ))
   (aB (bO (lX (gU (fu (jP T) hr T.mo T.jJ (aa ρ ck)))) (aB (aH (cQ (aa (aV) (aa (aK aS rfl) (aa (jO FW η T.lV G.boot_list dP) au)))))) aX))))
   (aB (aH (dD)))),?_⟩
  obtain⟨z0,rfl,q⟩:=h;exact SJ (lU T).w q
theorem Zra:ι 6 AD.Zq6 (fX T.Zpw.g) ["world"] (cV XQ Zk3):=by
 have sc:aM ["world","sweeper","loss","births"] ["world"] (aF Zpm):=cF;walk_at "ok"
 ·refine⟨_,(ao (fJ 1 sc.nd Ξ)
   (ao (bJ Ψ (bR G.cA η T.gC G.boot_len (aa c0 au)) rfl)
   (ao (bJ Ψ (az) rfl)
   (ao (fJ 2 sc.nd (fu (Rt T) hr T.mo T.Ef fk))
   (ao (bO (j8 G.nG ac (dD)) (ao (bJ Ψ (aV) rfl)
   (ao (bJ Ψ ac rfl)
   (aB (aH (fu (zW T) hr T.mo T.uW dP))))) aX)
   (ao (bJ Ψ (aV) rfl)
   (ao (fJ 3 sc.nd (fu (W9 T) hr T.mo T.Jy (aa Ξ (aa (fu (Z0 T) hr T.mo T.O1 fk) au))))
   (aB (aH (cQ (aa (aV) (aa (bR G.cA η T.gC G.boot_len ck) ck)))))))))))),?_⟩
  obtain⟨z0,rfl,q⟩:=h;exact Zsy (lU T).w q
theorem Rp:ι 6 AD.Ew (fX T.Eb.g) Dq (Zg9 XQ):=by
 have sc:aM ["world","deed"] Dq (aF BR):=cF;walk_at "ok"
 ·refine⟨rF AD.bh AD.cR AD.bH AD.bU (cJ XQ Γ eQ) (HB),(aB (G.Zni ⟨rfl,rfl⟩ rfl (T.mo T.J7) rfl (T.mo T.V8) rfl (T.mo T.Zmi) rfl (T.mo T.Zbi) (λcls h=>by rcases h with rfl<;>first | exact T.wR) (λcls h=>by rcases h with rfl<;>first | exact⟨T.xW,T.FN⟩) (λcls h=>by rcases h with rfl<;>first | exact⟨T.DW,T.KH,T.Zb0⟩) (λcls h=>by rcases h with rfl<;>first | exact⟨T.zb,T.DR,T.Ot,T.K5⟩) (λEx pn xe hx=>(aB (aH (G.Zjv (Zps T).g ah rfl (T.mo T.Zrm.a) (Ba T.Zrm.g).kp (Zps (P:=P) (base:=base) T).b .nil hx (aa ρ cv))))) da da da da)),?_⟩;obtain⟨z0,z1,rfl,q⟩:=h;exact Q6 rfl rfl rfl rfl q
theorem N5:ι 7 AD.Ah (fX T.Aa.g) ["world"] (cV XQ Zk2):=by
 have sc:aM ["world","sweeper","looking","hands","noted"] ["world"] (aF zA):=cF;walk_at "ok"
 ·refine⟨_,(ao (fJ 1 sc.nd Ξ)
   (ao (fJ 2 sc.nd c0)
   (ao (fJ 3 sc.nd (G.qH (mY ac T.uD.c T.pU (nJ T).g ah (nJ (P:=P) (base:=base) T).b .nil G.dG (aa eE (aa ay au))) (G.qH (mY ac T.yU.c T.qZ.m (qN T).g ah (qN (P:=P) (base:=base) T).b .nil G.dG (aa eE (aa ay au))) (mY ac T.yS.c T.qX.m (qL T).g ah (qL (P:=P) (base:=base) T).b .nil G.dG (aa eE (aa ay au))))))
   (ao (fJ 4 sc.nd (fu (zY T) hr T.mo T.uY (aa ρ ck)))
   (ao (bO (PW.pt (tL (j8 dW aS (az)) (rK (lX (PW.pt (tL bX (rK (ZM dy (λ_=>rfl))))))))) (aB (aH (fu (Zra T) hr T.mo T.Zpw fk))) aX)
   (ao (bJ Ψ (aW gM eE (az)) rfl)
   (ao (bO bX (aB (bJ Ψ (aW Ztp eE aS) rfl)) aX)
   (aB (aH (cQ (aa (aV) (aa aS (aa dy au))))))))))))),?_⟩
  obtain⟨z0,rfl,q⟩:=h;exact O8 (lU T).w q
theorem wu:ι 8 AD.fP (fX T.xX.g) ["world"] (cV XQ (U6 "walk")):=by
 have sc:aM ["world"] ["world"] (aF xm):=cF;walk_at "ok"
 ·refine⟨_,(ao (bO (ZM c0 (λ_=>rfl)) (aB (aH (fu (Zny T) hr T.mo T.Zkv fk))) aX)
   (aB (aH (fu (N5 T) hr T.mo T.Aa fk)))),?_⟩
  obtain⟨z0,rfl,q⟩:=h;exact Kr (lU T).w q
theorem Znz:ι 9 AD.Zlz (fX T.Zkw.g) ["world"] (cV XQ Znr):=by
 have sc:aM ["world","act"] ["world"] (aF Zj3):=cF;walk_at "ok"
 ·refine⟨WY K AD.fU AD.fQ AD.fP AD.dY (cV XQ (U6 "rest")) (cV XQ (U6 "give")) (cV XQ (U6 "walk")) (cV XQ (U6 "lost")),(ao (fJ 1 sc.nd (G.Zjp T.T9 rfl c0 (λ_ _=>rfl)))
   (aB (aH (G.ZR (k:=8) (G.Q5.cons ε (wB T).g (wB (P:=P) (base:=base) T).b (Ba T.xZ.g).kp (G.Q5.cons ε (wu T).g (wu (P:=P) (base:=base) T).b (Ba T.xX.g).kp (G.Q5.cons ε (wA T).g (wA (P:=P) (base:=base) T).b (Ba T.xY.g).kp (G.Q5.cons ε (qI T).g (qI (P:=P) (base:=base) T).b (Ba T.uh.g).kp G.Q5.nil)))) ah rfl b8 G.dG fk)))),?_⟩
  obtain⟨z0,rfl,q⟩:=h;exact Zn3 (lU T).w q
theorem Zk9:ι 10 AD.Zfy (fX T.Zff.g) Zf8 (Zga XQ):=by
 have sc:aM ["world","many","events"] Zf8 (aF Zew):=cF;walk_at "ok"
 ·refine⟨_,(ao (fJ 2 sc.nd (di au))
   (ao (Nt PassesOwn.never (PW.pt (uL (j8 wk (bR G.cA η T.gC G.boot_len dP) Ψ) (o9 (lX (gU (fu (zX T) hr T.mo T.uX dP)))))) (aB (iy (tO PySem.F.plainAttrs_list PySem.F.slot_list_append PySem.F.type_list_append jQ ac (aa (fu (Znz T) hr T.mo T.Zkw fk) au)))))
   (aB (aH ac)))),?_⟩
  obtain⟨z0,z1,rfl,q⟩:=h;exact Zit q
theorem Zk8:ι 11 AD.Zfx (fX T.Zfe.g) Zf7 (Zg8 XQ):=by
 have sc:aM ["world","row"] Zf7 (aF Zev):=cF;walk_at "ok"
 ·refine⟨_,(ao (bO (j8 dW τ (T.Zfs.pe rfl)) (aB (aH (fu (Zk9 T) hr T.mo T.Zff (aa ρ (aa τ au))))) aX)
   (aB (aH (di (aa (fu (Rp T) hr T.mo T.Eb (aa ρ cv)) au))))),?_⟩
  obtain⟨z0,z1,rfl,q⟩:=h;exact Zim q
theorem Zr5:ι 12 AD.Ql BD.Yt Zf9 (Zmm AD.cj XQ):=by
 have sc:aM ["scene","most","world","log","row"] Zf9 (aF Mu):=cF;refine⟨?_,T.Zqa,T.Zlb⟩;have F:=T.Zqd;walk_at "okD"
 ·refine⟨_,(ao (fJ 2 sc.nd (fu (ZZ T) hr T.mo T.OD fk))
   (ao (fJ 3 sc.nd (di au))
   (ao (lY PassesOwn.never rfl (lq (tM Zeu Ξ Dl (G.Zr0 Ψ))) (eV (i:=4) sc.nd rfl b8)
   (ao (iy (tO PySem.F.plainAttrs_list PySem.F.slot_list_append PySem.F.type_list_append jQ aS (aa (fu (Zk8 T) hr T.mo T.Zfe (aa ac (aa dy au))) au)))
   (aB (bO (gU (fu (Zcu T) hr T.mo T.Vh ck)) (aB (Zjl)) aX))))
   (aB (aH aS))))),?_⟩
  obtain⟨z0,z1,rfl,q⟩:=h;exact Zqs (lU T) q
theorem Zr6{fl:AI}{fd:AL}(F:Fun K "law" "law" Mx fl fd):Fn5 P w K mg base 13 fl fd ["_law_script"] (Zgc K):=by
 have sc:aM ["_law_script","_law_hands_here","_law_seed","_law_rows_here","_law_scene","_law_log","_law_events"] ["_law_script"] (aF Mx):=cF;walk_at "okL"
 ·refine⟨Zcl K AD.cj (vD AD.cj) (Zek K) (Bp) (yC K) (Y6) (Y5 XQ) (Zei) (Y4 K) (Zmm AD.cj XQ),(ao (fJ 1 sc.nd (fu (Rx T) hr T.mo T.Ei (aa (fu (uT T) hr T.mo T.rA (aa ρ (aa (az) au))) au)))
   (ao (fJ 2 sc.nd (fu (uT T) hr T.mo T.rA (aa ρ (aa (az) au))))
   (ao (fJ 3 sc.nd (fu (Xb T) hr T.mo T.JB (aa (tM Zeu ρ (yP (az)) (yP (az))) (aa Ψ (aa ac (aa (az) au))))))
   (ao (iy (tO PySem.F.plainAttrs_list PySem.F.slot_list_append PySem.F.type_list_append jQ aS (aa (cQ (aa (aV) (aa (aW gM (az) (fu (eG T) hr T.mo T.eU (aa ac (aa (az) (aa (az) au))))) au))) au)))
   (ao (fJ 4 sc.nd (qG (mkT T.Zbd T.qW) (qK T).g ah rfl (T.mo T.Zpb) (qK (P:=P) (base:=base) T).b .nil G.dG (aa (fu (Xc T) hr T.mo T.JC dP) (aa (fu (Xe T) hr T.mo T.JF (aa (fu (uT T) hr T.mo T.rA (aa ρ (aa (az) au))) au)) (aa (jO G.mU η T.lV G.boot_list cv) (aa (jO G.mU η T.lV G.boot_list ck) au))))))
   (ao (fJ 5 sc.nd (pq (Zr5 T).g ah rfl T.Zpu T.Zlb T.Zbf T.Zas G.dG (aa dy au)))
   (ao (bO (lX (gU (bR G.qd η T.fD G.boot_isinstance (aa en (aa (uN rfl T.lV G.boot_list rfl) au))))) el aX)
   (ao (lY PassesOwn.never rfl (lq en) (eV (i:=6) sc.nd rfl b8)
   (aB (bO (lX (gU (bR G.qd η T.fD G.boot_isinstance (aa (pv 6) (aa (uN rfl T.lV G.boot_list rfl) au))))) el aX)))
   (aB (aH (fu (GJ T) hr T.mo T.wC (aa aS (aa en (aa (G.W3 (cns:=[]) [] (lq Ψ) (λ_ _ _ _ _=>G.Nv) (λ_ _ _ _ _=>(aW W6 (di (aa (dD) au)) Ψ)) rfl rfl av (by repeat (first | exact trivial | refine⟨rfl,?_⟩)) rfl γ rfl γ γ rfl rfl γ) au)))))))))))))),?_⟩
  obtain⟨z0,rfl,q⟩:=h;exact Zro (lU T) q
end
theorem all_mk{l:W.OpenLaw}{w:AO}{K:aC}{h:Heap}{mg:As}{fa fl:AI}{XQ:Cs}{AD:Ad}(b:K.In h)(a:h.Ns mainGlobals mg)(hfa:mg "law"=↑fa)(t1:Tx1 K XQ AD)
  {od5 A to5 Zvq S Zvh Zvp n:Option AI}
  {sl5 ts5 Zvn Zvg Zvm:Array AB}
  {oc5 D z o i R tc5 J B Zvs I O U f x Zvj V Zvr y k r j q t P M:AJ}
  {g c Qu Qt:AI}
  {tn5 Zvi p Q:Nat}
  {VM VL VJ VH VG VF VD VB Vz Vy Vx Vw Vv Vu:Int}
  {TY TX TV TQ TJ TF Tz Tw Tv Tu Tt Tr Tq Tp:Tok}
  (a5:Fi K XQ.H "make" AD.iW)
  (i5:W.isFn K (.ref AD.iW)=true)
  (l5:Lk K AD.iW "make" "Heap.make" jE (.ref g) oc5 od5 D z o A i R sl5)
  (t5:K.lookup g=some ⟨tc5,to5,.seq #[J,B] tn5,ts5⟩)
  (Zz9:RelV (.int 0) J)
  (Zz8:RelV (.int 0) B)
  (c5:Ci K i "Heap.make")
  (k5:Ki K AD.iW)
  (a75:Ns K "run" AD.Ql)
  (d:Lk K AD.Ql "run" "run" Mu (.ref c) Zvs Zvq I O U S f x Zvn)
  (u:K.lookup c=some ⟨Zvj,Zvh,.seq #[V] Zvi,Zvg⟩)
  (Zsx:RelV .non V)
  (c75:Ci K f "run")
  (N:Ki K AD.Ql)
  (a97:Ns K "law" fl)
  (l97:Lk K fl "law" "law" Mx .none Zvr Zvp y k r n j q Zvm)
  (c97:Ci K j "law")
  (k97:Ki K fl)
  (Zkn:Ns K "DEEDS" Qu)
  (Z:K.lookup Qu=some ⟨.type "dict",none,.dict #[⟨VM,.str "make" TY,.ref AD.lK⟩,⟨VL,.str "get" TX,.ref AD.nY⟩,⟨VJ,.str "put" TV,.ref AD.nW⟩,⟨VH,.str "copy" TQ,.ref AD.lO⟩,⟨VG,.str "drop" TJ,.ref AD.lN⟩,⟨VF,.str "give" TF,.ref AD.lM⟩,⟨VD,.str "write" Tz,.ref AD.jK⟩,⟨VB,.str "read" Tw,.ref AD.lH⟩,⟨Vz,.str "name" Tv,.ref AD.lJ⟩,⟨Vy,.str "seek" Tu,.ref AD.lG⟩] p,#[]⟩)
  (Zhy:VM=hashStr w "make")
  (Zhx:VL=hashStr w "get")
  (Zhw:VJ=hashStr w "put")
  (Zhv:VH=hashStr w "copy")
  (Zhu:VG=hashStr w "drop")
  (Zht:VF=hashStr w "give")
  (Zhs:VD=hashStr w "write")
  (Zhr:VB=hashStr w "read")
  (Zhq:Vz=hashStr w "name")
  (Zhp:Vy=hashStr w "seek")
  (Zkm:Ns K "STEPS" Qt)
  (Zl4:K.lookup Qt=some ⟨.type "dict",none,.dict #[⟨Vx,.str "rest" Tt,.ref AD.fU⟩,⟨Vw,.str "walk" Tr,.ref AD.fP⟩,⟨Vv,.str "give" Tq,.ref AD.fQ⟩,⟨Vu,.str "lost" Tp,.ref AD.dY⟩] Q,#[]⟩)
  (Zho:Vx=hashStr w "rest")
  (Zhn:Vw=hashStr w "walk")
  (Y:Vv=hashStr w "give")
  (Zhl:Vu=hashStr w "lost")
  (Zm5:W.findIn K (.ref XQ.C) "__eq__"=some (some (.builtin "object.__eq__")))
  (Zm4:W.mroIn K XQ.C (.type "object")=some true)
  (Hl:Fi K XQ.E "at_begin" AD.fj)
  (Sq:Fi K XQ.E "stays" AD.gY)
  (Az:Fi K XQ.F "next_look" AD.iC)
  (Qc:Fi K XQ.F "stays" AD.gY)
  (Hj:Fi K XQ.L "at_begin" AD.fj)
  (Wf:W.nsIn K mainGlobals "bool"=some none)
  (We:W.nsIn K mainGlobals "dict"=some none)
  (jD:W.nsIn K mainGlobals "enumerate"=some none)
  (Zep:W.nsIn K mainGlobals "int"=some none)
  (fD:W.nsIn K mainGlobals "isinstance"=some none)
  (gC:W.nsIn K mainGlobals "len"=some none)
  (lV:W.nsIn K mainGlobals "list"=some none)
  (yN:W.nsIn K mainGlobals "range"=some none)
  (Zeo:W.nsIn K mainGlobals "str"=some none)
  (K8:W.nsIn K mainGlobals "tuple"=some none)
  (Zen:W.nsIn K mainGlobals "zip"=some none)
  (Zso:W.nsIn K mainGlobals "NEW"=some (some t))
  (Zsm:RelV (.int 2) t)
  (Zsn:W.nsIn K mainGlobals "OLD"=some (some P))
  (Zsl:RelV (.int 1) P)
  (Zlt:W.nsIn K mainGlobals "SWEEP"=some (some M))
  (Zlr:RelV (.str "sweep") M)
  :∃fd:AL,(∀(s:AK) (v:AJ),BindsTo s fd ⟨[v],[]⟩ [("_law_script",v)])/\∀base:Heap,K.In base->base.Ns mainGlobals mg->qe l.prog w K mg base (G.Bt l.prog w) 13 fa fd ["_law_script"] (Zgc K):=by
 have e:=hfa.symm.trans (W.mg_of b a a97);cases e;have mo:∀{s:Str}{v:AJ},W.nsIn K mainGlobals s=some (some v)->mg s=some v:=λh=>W.mg_of b a h;have F5:=G.Zft (st:=jE) l5 c5 k5;have b5:=G.Ze7 (ps:=["self","many","bulk","tone"]) (ds:=[]) l5 t5 λus hl=>by obtain⟨_,_,rfl,l1⟩:=cn1 (n:=3) hl;obtain⟨_,_,rfl,l2⟩:=cn1 (n:=2) l1;obtain⟨_,_,rfl,l3⟩:=cn1 (n:=1) l2;obtain⟨_,_,rfl,l4⟩:=cn1 (n:=0) l3;cases List.eq_nil_of_length_eq_zero l4;exact ⟨_,rfl,rfl⟩
 have F75:=G.Zft (st:=Mu) d c75 N;have b75:=G.Ze7 (ps:=["scene","most"]) (ds:=[]) d u λus hl=>by obtain⟨_,_,rfl,l1⟩:=cn1 (n:=1) hl;obtain⟨_,_,rfl,l2⟩:=cn1 (n:=0) l1;cases List.eq_nil_of_length_eq_zero l2;exact ⟨_,rfl,rfl⟩
 have X:=G.Ze7 (ps:=["scene","most"]) (ds:=[V]) d u λus hl=>by obtain⟨_,_,rfl,l1⟩:=cn1 (n:=0) (Nat.add_right_cancel (m:=1) hl);cases List.eq_nil_of_length_eq_zero l1;exact ⟨_,rfl,rfl⟩
 let Q2:Bd:=⟨(),W.fnOf "make" "Heap.make" (iD jE) (eX jE) (aF jE) (.ref g) D z o A i R,W.fnOf "run" "run" (iD Mu) (eX Mu) (aF Mu) (.ref c) I O U S f x,[V]⟩
 have T:Txt w K mg XQ AD Q2:={ t1 with
  mo:=mo
  Ua:=⟨Qu,_,_,p,W.mg_of b a Zkn,Z,⟨rfl,rfl,rfl⟩,rfl,Zhy,⟨TY,rfl⟩,rfl,Zhx,⟨TX,rfl⟩,rfl,Zhw,⟨TV,rfl⟩,rfl,Zhv,⟨TQ,rfl⟩,rfl,Zhu,⟨TJ,rfl⟩,rfl,Zht,⟨TF,rfl⟩,rfl,Zhs,⟨Tz,rfl⟩,rfl,Zhr,⟨Tw,rfl⟩,rfl,Zhq,⟨Tv,rfl⟩,rfl,Zhp,⟨Tu,rfl⟩,rfl,trivial⟩
  T9:=⟨Qt,_,_,Q,W.mg_of b a Zkm,Zl4,⟨rfl,rfl,rfl⟩,rfl,Zho,⟨Tt,rfl⟩,rfl,Zhn,⟨Tr,rfl⟩,rfl,Y,⟨Tq,rfl⟩,rfl,Zhl,⟨Tp,rfl⟩,rfl,trivial⟩
  Lj:=⟨Zm5,Zm4⟩
  uf:=⟨Hl,t1.fY.m.fn,t1.fY.m.kp⟩
  rP:=⟨Sq,t1.iK.m.fn,t1.iK.m.kp⟩
  pU:=⟨Az,t1.jH.m.fn,t1.jH.m.kp⟩
  pR:=⟨Qc,t1.iK.m.fn,t1.iK.m.kp⟩
  uc:=⟨Hj,t1.fY.m.fn,t1.fY.m.kp⟩
  DX:=⟨a5,i5,k5⟩
  Zpu:=mo a75
  Wf:=W.mg_none_of b a Wf
  We:=W.mg_none_of b a We
  jD:=W.mg_none_of b a jD
  Zep:=W.mg_none_of b a Zep
  fD:=W.mg_none_of b a fD
  gC:=W.mg_none_of b a gC
  lV:=W.mg_none_of b a lV
  yN:=W.mg_none_of b a yN
  Zeo:=W.mg_none_of b a Zeo
  K8:=W.mg_none_of b a K8
  Zen:=W.mg_none_of b a Zen
  Zq3:=⟨_,W.mg_of b a Zso,Zsm⟩
  Zq2:=⟨_,W.mg_of b a Zsn,Zsl⟩
  Zfs:=⟨_,W.mg_of b a Zlt,Zlr⟩
  Kh:=F5
  ym:=b5
  JL:=k5
  Zqd:=F75
  Zqa:=b75
  Zlb:=N
  Zbf:=X
  Zas:=(.cons Zsx .nil)
 }
 exact⟨W.fnOf "law" "law" (iD Mx) (eX Mx) (aF Mx) .none y k r n j q,λs v=>.of_eq rfl,λbase _ _=>Zr6 T (Zlv (st:=Mx) l97 c97 k97)⟩
theorem walk{l:W.OpenLaw}{q:AM}{b:AH}{i:(As)->Heap->Prop}{e:AO->Heap->Prop}{d:DefRec}{K:Params->aC}(hn:l.most=some 63)(c:d.params.defaults=[])
  (g:∀(w:AO) (h:Heap),e w h->(K w.params).In h)
  (F:∀(w:AO) (mg:As) (fa:AI) (h:Heap),(K w.params).In h->h.Ns mainGlobals mg->mg d.name=↑fa->
   ∃fd:AL,(∀(s:AK) (u:AJ),BindsTo s fd ⟨[u],[]⟩ [("_law_script",u)])/\∀base:Heap,(K w.params).In base->base.Ns mainGlobals mg->qe l.prog w (K w.params) mg base (G.Bt l.prog w) 13 fa fd ["_law_script"] (Zgc (K w.params))):
  W.WalkO q b i e l.row.toRowW d [] (λf vs=>PySem.call f vs):=
 L2.Zn0 (n:=63) (k:=13) (x:="_law_script") (CX:=λw=>G.Bt l.prog w) (sp:=λw=>Zgc (K w.params)) hn ε c ⟨rfl,ε,ε⟩ g F (λ_ _ a ns hl _ j=>⟨a,rfl,ns,j,hl,λ_=>rfl⟩) λ_ _ _ _ _ z=>by
  obtain⟨_,_,_,_,_,_,_,_,_,_,_,_,z⟩:=z;exact z
end Y8
structure PySem.W.Fast:Prop where(tw5792136594331701568 tw3366279414599419489 tw1012190960071340963 tw1633839613904486788 tw10489691026957076904 tw8757155785018678761 tw1916577640198303465 tw5632484552900638794 tw6170837966896216459 tw14387382872248502155 tw1404290489150737420 tw8383455186673034320 tw5506741502940069234 tw14024190078130264754 tw11102272411735394419 tw17362780314095746132 tw16092802583869993780 tw7629428125259610197 tw12585780511537170230 tw5644811435950106392 tw452014026614636536 tw9774671827451818330 tw12489934645208551034 tw3643182658212952827 tw4851062228015768606 tw10218277476527908959 tw6048792326030660319 tw3135943589457287135 tw15007661431839560133 tw17249263021191979629 tw8111065554123960199 tw913248133692500755 tw6756294231969945696 tw17216737709757373675 tw4410078706413099430 tw3958354120923052230 tw11208659903316840178 tw13446304524391690192 tw3131522541599113268 tw15409801981799754612 tw7250430611587797764 tw11556510797024644950 tw3493363634953399861 tw96325374725881972 tw10661449676863992046 tw12512476290025030026 tw15284468598613355488 tw17254121134408127808 tw4339120876026982907 tw10269930735505426172 tw1054024081038239604 tw9558462149872110709 tw16924840561286534921 tw17154027332290229984 tw2573024872228449146 tw2353132981478110078 tw16013882613957673110 tw4353179957086171092 tw16895551116481328325 tw1469182117862202317 tw16643136127204751743 tw17785934955597181554 tw3496050328585977502 tw8066611296768295520 tw13311672204948004349 tw1746763774345387116 tw14404934119917900256 tw14304383159181573555 tw11356039140154450153 tw697167436206351517 tw15158306421954156548 tw11156775688519849392 tw15264965407492425075 tw15581856854857035715 tw5972301362947367893 tw10257790418426436096 tw12594278358358113959 tw9312766774715359172 tw3528701691239471786 tw2038934391218726282 tw18355878888427772856 tw13933166813395953206 tw15502992563255414398 tw17770286852991050870 tw10726110092694690998 tw8024277183294302612 tw13682878604961652112 tw2166391093159690193 tw8310433167844176014 tw11142261869177079364 tw14751870747427413198 tw13366285707071485366 tw10548255467167341742 tw6069502508414898770 tw18036971559950112408 tw2337520747969739735 tw15774821185235145007 tw17685690400592326359 tw2268171861404989949 tw17082449418409547022 tw14954251755919744942 tw14397041804179611723 tw16036392128804105708 tw15535109967966322076 tw3125349991151102931 tw311729884618762090 tw11315195764440726242 tw8508344485353084624 tw1456675569782922477 tw18181068666622480822 tw2636876869987031841 tw16624114127319308228 tw18207184003660675137 tw1410780271289935975 tw5541902309282920278 tw5821245898148340258 tw4217909996056355211 tw12693608215012544263 tw16310607421664398091 tw16306606299908722894 tw9300476289677366384 tw15459982989381888846 tw4978293125605280466 tw636518173511527000 tw4051808469916943043 tw12815282532131406203 tw34200799680950746 tw2491828315822759818 tw13421910703490657270 tw13761799806929544435 tw6538352804433196898 tw8498362532826876816 tw3752056830937052115 tw11550630672847732488 tw13350240660148022859 tw2805066364837493606 tw7779124328135301313 tw818832922862419950 tw7591257875256618679 tw14285121194127303197 tw5463323135044488230 tw14769755179207453479 tw12825715782332011259 tw527325111399067531 tw18370277702678312252 tw13509202372393394366 tw5963303426890032119 tw9174689372015725104 tw11471128932055417143 tw4798501987480464921 tw17862507491482274516 tw6404471471647061128 tw2381972594740602697 tw13734133858723842224 tw12362586266038895802 tw17681780680228212027 tw7212018473245329892 tw1311997449345487646 tw12059158533655860821 tw7420198882910745608 tw10504170019673439189 tw9518187611318858583 tw17817379131578566178 tw13029701944290087096 tw14104383743400895676 tw13931351170958322658 tw5912308657806724292 tw12161352613942906907 tw13049655542991856735 tw9097710449310787594 tw5332302397306403093 tw16352828340014795658 tw8124966383284192638 tw6611935593338686564 tw12427876773737402892 tw210257709776232417 tw12500368049561504861 tw11262893419076035273 tw6784155699618000863 tw16280115470626217882 tw9787382895036310757 tw8478724033163625085 tw9570148496324687315 tw16900006090642926703 tw7487356334554871565 tw15735651205759943809 tw598523087944512406 tw17404397193175921717 tw8381978299249264191 tw1956411078075607817 tw5533505434287367956 tw8975898701958735058 tw11873517923821671869 tw6074645813469142207 tw886705546033402428 tw12562612412972044390 tw4380232935406451481 tw9064556594801137188 tw8988703606337528948 tw16032046117184049981 tw1869709307742795424 tw4534584217660544399 tw411174268271638945 tw15005575149345755502 tw10941300704060577266 tw11080771831760900383 tw1480668349728062759 tw16694844244257255317 tw17391225737787791542 tw2050494813590523686 tw6825209515176337672 tw15005002117174327734 tw15992455610295589378 tw2039667387701607686 tw4716557928952693459 tw2452321350343815125 tw5795190352964671091 tw12159550804700941598 tw6534798450071355357 tw2257209932121792445 tw17166352329689576809 tw3389879269209742012 tw8185824147912385698 tw10152306952701186776 tw13503174612520102387 tw15911996582143985718 tw17018459963122685659 tw12353083761952987682 tw7074149134396278473 tw16957395480649933896 tw16456396238454820214 tw12614538672825588053 tw3212846463201474099 tw12804915574374376187 tw7276221677292809614 tw1747531819164670931 tw11564209761091815070 tw12803961664350557637 tw17682872463271755799 tw735549762194347879 tw1657908801360234956 tw14310681894654864068 tw10983512183919527834 tw13882512472638754691 tw14362783805676854943 tw17919641875173880122 tw16411393321672841963 tw5900355961157873767 tw8213188547391682267 tw15685272129825997360 tw12135920963779983494 tw17925248283085138128 tw11906146563590221605 tw5733829586596794815 tw13660906836168867205 tw13659806427645181196 tw9402619600238499233 tw7012814503506113700 tw11745419357524296981 tw2369807250086392907 tw7503224221113444426 tw7220800486755005650 tw1690854854251034845 tw2222874504128246969 tw13453210718582869517 tw5736256822463333695 tw574047761197913833 tw10607386960249316233 tw3460399151463551845 tw2248770116255200673 tw5267006670416054816 tw10057318534081184054 tw17419504209448271130 tw11067864431544779893 tw1305701590681997319 tw3664441167340307458 tw8220408173674203497 tw6183038915457110816 tw9100312776048090032 tw4227449467896545513 tw12517745351163002350 tw7573526790949326749 tw14520032796251454595 tw17115962913314054483 tw13864312328259298464 tw3036433639142770379 tw8387755080429109317 tw5278444571058130570 tw13560742134042816499 tw6817105922899206132 tw5070184574054361838 tw16244559708797624178 tw2492677400563377556 tw12586920541962901172 tw2546208664289816858 tw12154490121714176213 tw13681051792491786582 tw9056976007818918499 tw11040034203663680549 tw762077809069952884 tw16132999893569787381 tw3401905959783590115 tw12394955688124183253 tw15733151866525297441 tw4836417949457666881 tw6718392901824069160 tw15628342281384030778 tw7124880245534083169 tw16503500682736965493 tw388422447781504243 tw4785217805419932540 tw3540005055142868345 tw11620956750312877240 tw16911491466817169205 tw1753007068614004596 tw8024738303735235663 tw15541518752693058067 tw2977613631118120464 tw2177229768396244856 tw9345625586027899210 tw2799370558061945468 tw12737267570880384499 tw13495551688401511004 tw13716281670552526422 tw4241392391402427295 tw17543006796909943524 tw8247206641745216661 tw15475072159876086313 tw10603473314814771550 tw18007827789380125899 tw2274891955100184983 tw9662381744491714002 tw4057863175150841309 tw15797686622261626792 tw14002397756338690258 tw13178314366977407217 tw3406865955310174132 tw429108419798323141 tw6553230236543285699 tw18085826691522916341 tw11900030457560827077 tw12122311329174441357 tw194999533597597220 tw6730481457568167028 tw1276502784308764415 tw18326404350406358413 tw12669135298683116859 tw6639953595854261053 tw5661574764478671822 tw12254658756146418367 tw2774617118813673088 tw10265398744267267304 tw8526698897761847009 tw13096079487910414793 tw8316318239122526953 tw15584911748267468769 tw11253284463930681994 tw12675110362595416795 tw12985406942075904890 tw5762577679356659363 tw16281214098938062728 tw14055687211147194270 tw6803409608335563872 tw11956851881528191554 tw631587293417929376 tw14610810501578502367 tw1630426910868737975 tw9379130615981652286 tw17854479439368123671 tw11962919220844304875 tw10582098521523331634 tw9354777639130435773 tw7024618346442613454 tw1846417601633147129 tw8535129327410250084 tw1039084708376789978:True)
open PySem PySem.W PyProof.Rows
def Y8.all_mk2{l w K h mg fa fl x0 x1 x2 x3 x4 x5 x6 x7 x8 x9 xa xb xc xd xe xf xg xh xi xj xk xl xm xn xo xp xq xr xs xt xu xv xw xx xy xz y0 y1 y2 y3 y4 y5 y6 y7 y8 y9 ya yb yc yd ye yf yg yh yi yj yk yl ym yn yo yp yq yr ys yt yu yv yw yx yy yz z0 z1 z2 z3 z4 z5 z6 z7 z8 z9 za zb zc zd ze zf zg zh zi zj zk zl zm zn zo zp zq zr zs zt zu zv zw zx zy zz u0 u1}:=@Y8.all_mk l w K h mg fa fl ⟨x0,x1,x2,x3,x4,x5,x6,x7,x8⟩ ⟨x9,xa,xb,xc,xd,xe,xf,xg,xh,xi,xj,xk,xl,xm,xn,xo,xp,xq,xr,xs,xt,xu,xv,xw,xx,xy,xz,y0,y1,y2,y3,y4,y5,y6,y7,y8,y9,ya,yb,yc,yd,ye,yf,yg,yh,yi,yj,yk,yl,ym,yn,yo,yp,yq,yr,ys,yt,yu,yv,yw,yx,yy,yz,z0,z1,z2,z3,z4,z5,z6,z7,z8,z9,za,zb,zc,zd,ze,zf,zg,zh,zi,zj,zk,zl,zm,zn,zo,zp,zq,zr,zs,zt,zu,zv,zw,zx,zy,zz,u0,u1⟩
set_option maxRecDepth 100000 in
set_option maxHeartbeats 0 in
theorem PySem.Challenge.cw_greywalk_k45_whole_given_back_holds : PySem.Challenge.rw_greywalk_k45_whole_given_back.Holds := by
 w_on;o_law;k_head;(case hw=>w_witness2)
 k_fill
 refine Y8.walk (l:=PySem.Challenge.rw_greywalk_k45_whole_given_back) rfl rfl (fun w h Y=>PySem.W.kIn_of Y) ?F
 case F=>
  intro w mg fa h KX G hmg
  refine' Y8.all_mk2 KX G hmg ⟨?d0,?d1,?d2,?d3,?d4,?d5,?d6,?d7,?d8,?d9,?d10,?d11,?d12,?d13,?d14,?d15,?d16,?d17,?d18,?d19,?d20,?d21,?d22,?d23,?d24,?d25,?d26,?d27,?d28,?d29,?d30,?d31,?d32,?d33,?d34,?d35,?d36,?d37,?d38,?d39,?d40,?d41,?d42,?d43,?d44,?d45,?d46,?d47,?d48,?d49,?d50,?d51,?d52,?d53,?d54,?d55,?d56,?d57,?d58,?d59,?d60,?d61,?d62,?d63,?d64,?d65,?d66,?d67,?d68,?d69,?d70,?d71,?d72,?d73,?d74,?d75,?d76,?d77,?d78,?d79,?d80,?d81,?d82,?d83,?d84,?d85,?d86,?d87,?d88,?d89,?d90,?d91,?d92,?d93,?d94,?d95,?d96,?d97,?d98,?d99,?Zz0,?Zyz,?Zyy,?Zyx,?Zyw,?Zyv,?Zyu,?Zyt,?Zys,?Zyr,?Zyq,?Zyp,?Zyo,?Zyn,?Zym,?Zyl,?Zyk,?Zyj,?Zyi,?Zyh,?Zyg,?Zyf,?Zye,?Zyd,?Zyc,?Zyb,?Zya,?Zy9,?Zy8,?Zy7,?Zy6,?Zy5,?Zy4,?Zy3,?Zy2,?Zy1,?Zy0,?Zxz,?Zxy,?Zxx,?Zxw,?Zxv,?Zxu,?Zxt,?Zxs,?Zxr,?Zxq,?Zxp,?Zxo,?Zxn,?Zxm,?Zxl,?Zxk,?Zxj,?Zxi,?Zxh,?Zxg,?Zxf,?Zxe,?Zxd,?Zxc,?Zxb,?Zxa,?Zx9,?Zx8,?Zx7,?Zx6,?Zx5⟩ ?h0 ?h1 ?h2 ?h3 ?h4 ?h5 ?h6 ?h7 ?h8 ?h9 ?h10 ?h11 ?h12 ?h13 ?h14 ?h15 ?h16 ?h17 ?h18 ?h19 ?h20 ?h21 ?h22 ?h23 ?h24 ?h25 ?h26 ?h27 ?h28 ?h29 ?h30 ?h31 ?h32 ?h33 ?h34 ?h35 ?h36 ?h37 ?h38 ?h39 ?h40 ?h41 ?h42 ?h43 ?h44 ?h45 ?h46 ?h47 ?h48 ?h49 ?h50 ?h51 ?h52 ?h53 ?h54 ?h55 ?h56 ?h57 ?h58 ?h59
  case d0 | d1 | d2 | d3 | d4 | d5 | d6 | d7 | d8 | d9 | d10 | d11 | d12 | d13=>(show _=_;(try dsimp only)<;>k_is)
  case d14 | d15 | d16 | d17 | d18 | d19 | d20 | d21=>(refine' Y8.mtm ?a ?i ?l ?c ?k;case a | i | l | c | k=>(show _=_;(try dsimp only)<;>k_is))
  case d22 | d23 | d24=>(refine' Y8.fam ?a ?l ?c ?k;case a | l | c | k=>(show _=_;(try dsimp only)<;>k_is))
  case d25 | d26 | d27 | d28 | d29 | d30 | d31 | d32 | d33 | d34 | d35=>(refine' Y8.mtm ?a ?i ?l ?c ?k;case a | i | l | c | k=>(show _=_;(try dsimp only)<;>k_is))
  case d36 | d37 | d38 | d39 | d40 | d41 | d42 | d43 | d44 | d45 | d46 | d47 | d48 | d49 | d50 | d51 | d52 | d53 | d54 | d55 | d56 | d57 | d58 | d59 | d60 | d61 | d62 | d63=>(refine' Y8.fam ?a ?l ?c ?k;case a | l | c | k=>(show _=_;(try dsimp only)<;>k_is))
  case d64=>(refine' Y8.mtm ?a ?i ?l ?c ?k;case a | i | l | c | k=>(show _=_;(try dsimp only)<;>k_is))
  case d65 | d66 | d67 | d68 | d69 | d70 | d71 | d72 | d73 | d74 | d75 | d76 | d77 | d78 | d79 | d80 | d81 | d82 | d83 | d84 | d85 | d86 | d87 | d88 | d89 | d90 | d91 | d92 | d93 | d94 | d95 | d96 | d97 | d98 | d99 | Zz0 | Zyz | Zyy | Zyx | Zyw | Zyv | Zyu | Zyt=>(refine' Y8.fam ?a ?l ?c ?k;case a | l | c | k=>(show _=_;(try dsimp only)<;>k_is))
  case Zys=>(refine' Y8.cam ?a ?b ?c ?d ?e ?f;case a | b | c | d | e | f=>(show _=_;(try dsimp only)<;>k_is))
  case Zyr | Zyq | Zyp | Zyo | Zyn=>(show _=_;(try dsimp only)<;>k_is)
  case Zym=>(refine' Y8.cam ?a ?b ?c ?d ?e ?f;case a | b | c | d | e | f=>(show _=_;(try dsimp only)<;>k_is))
  case Zyl | Zyk | Zyj | Zyi=>(show _=_;(try dsimp only)<;>k_is)
  case Zyh=>(refine' Y8.cam ?a ?b ?c ?d ?e ?f;case a | b | c | d | e | f=>(show _=_;(try dsimp only)<;>k_is))
  case Zyg=>(show _=_;(try dsimp only)<;>k_is)
  case Zyf=>(refine' Y8.cam ?a ?b ?c ?d ?e ?f;case a | b | c | d | e | f=>(show _=_;(try dsimp only)<;>k_is))
  case Zye=>(show _=_;(try dsimp only)<;>k_is)
  case Zyd=>(refine' Y8.cam ?a ?b ?c ?d ?e ?f;case a | b | c | d | e | f=>(show _=_;(try dsimp only)<;>k_is))
  case Zyc=>(show _=_;(try dsimp only)<;>k_is)
  case Zyb=>(refine' Y8.cam ?a ?b ?c ?d ?e ?f;case a | b | c | d | e | f=>(show _=_;(try dsimp only)<;>k_is))
  case Zya | Zy9=>(show _=_;(try dsimp only)<;>k_is)
  case Zy8=>(refine' Y8.cam ?a ?b ?c ?d ?e ?f;case a | b | c | d | e | f=>(show _=_;(try dsimp only)<;>k_is))
  case Zy7 | Zy6=>(show _=_;(try dsimp only)<;>k_is)
  case Zy5=>(refine' Y8.cam ?a ?b ?c ?d ?e ?f;case a | b | c | d | e | f=>(show _=_;(try dsimp only)<;>k_is))
  case Zy4 | Zy3 | Zy2 | Zy1 | Zy0 | Zxz | Zxy | Zxx | Zxw | Zxv | Zxu=>(show _=_;(try dsimp only)<;>k_is)
  case Zxt=>(refine' Y8.cam ?a ?b ?c ?d ?e ?f;case a | b | c | d | e | f=>(show _=_;(try dsimp only)<;>k_is))
  case Zxs | Zxr | Zxq | Zxp | Zxo=>(show _=_;(try dsimp only)<;>k_is)
  case Zxn=>(refine' Y8.cam ?a ?b ?c ?d ?e ?f;case a | b | c | d | e | f=>(show _=_;(try dsimp only)<;>k_is))
  case Zxm | Zxl | Zxk | Zxj=>(show _=_;(try dsimp only)<;>k_is)
  case Zxi | Zxh | Zxg | Zxf=>((try dsimp only)<;>k_exc)
  case Zxe | Zxd | Zxc | Zxb | Zxa | Zx9 | Zx8 | Zx7 | Zx6 | Zx5=>((try dsimp only)<;>kts_exm)
  case h0 | h1 | h2 | h3=>(show _=_;(try dsimp only)<;>k_is)
  case h4 | h5=>first | exact rfl | exact ⟨_,rfl⟩
  case h6 | h7 | h8 | h9 | h10=>(show _=_;(try dsimp only)<;>k_is)
  case h11=>first | exact rfl | exact ⟨_,rfl⟩
  case h12 | h13 | h14 | h15 | h16 | h17 | h18 | h19=>(show _=_;(try dsimp only)<;>k_is)
  case h20 | h21 | h22 | h23 | h24 | h25 | h26 | h27 | h28 | h29=>exact rfl
  case h30 | h31=>(show _=_;(try dsimp only)<;>k_is)
  case h32 | h33 | h34 | h35=>exact rfl
  case h36 | h37 | h38 | h39 | h40 | h41 | h42 | h43 | h44 | h45 | h46 | h47 | h48 | h49 | h50 | h51 | h52 | h53 | h54=>(show _=_;(try dsimp only)<;>k_is)
  case h55=>first | exact rfl | exact ⟨_,rfl⟩
  case h56=>(show _=_;(try dsimp only)<;>k_is)
  case h57=>first | exact rfl | exact ⟨_,rfl⟩
  case h58=>(show _=_;(try dsimp only)<;>k_is)
  case h59=>first | exact rfl | exact ⟨_,rfl⟩
#print axioms PySem.Challenge.cw_greywalk_k45_whole_given_back_holds
