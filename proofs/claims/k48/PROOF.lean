import PyProof.Rows.All
import Lean
import KE.KTryMore
import KE.KItemsList
import KE.KItem
import KE.RegKTryMore
import KE.KDictList
import KE.KEqDict
import KE.KIsBytes
import KE.KDictOf
import PySem.Challenge.RW_greywalk_k48_whole_sweeps_unseen
set_option Elab.async false
set_option linter.all false
set_option compiler.extract_closed false
set_option genSizeOf false
set_option maxRecDepth 100000
set_option hygiene false
local macro_rules|`(γ)=>`(by decide +kernel)
local macro_rules|`(δ)=>`(by omega)
local macro_rules|`(ε)=>`(by decide)
local macro_rules|`(ζ)=>`(by simp)
local macro_rules|`(η)=>`(by rfl)
local macro_rules|`(↑$x)=>`(some (.ref $x))
local macro_rules|`(ι $x*)=>`(Hh P w K mg base $x*)
local macro_rules|`(μ)=>`(St->Hp->Prop)
local macro_rules|`(ν)=>`(⟨n,Q,bk,ct⟩)
local macro_rules|`(ξ)=>`(rI (λ_ j=>0<j) λi j=>.int (i % j))
local macro_rules|`(ο)=>`(aJ (pv 0) rfl)
local macro_rules|`(π)=>`(tC (.int 0))
local macro_rules|`(ρ)=>`(ak 0)
local macro_rules|`(ς)=>`(model X.prog X.w)
local macro_rules|`(τ)=>`(rI jO λi j=>.int (i / j))
local macro_rules|`(υ)=>`(tC (.int 1))
local macro_rules|`(χ)=>`(ak 1)
local macro_rules|`(ψ)=>`(pv 1)
local macro_rules|`(ω)=>`(iH λi j=>.int (i+j))
local macro_rules|`(Γ)=>`(Rn AD.cU AD.aY AD.bK AD.cu)
local macro_rules|`(Δ)=>`(Nat.le_refl _)
local macro_rules|`(Θ)=>`(pv 0)
local macro_rules|`(Ξ)=>`(bY se ph gr lo d at_ st wa b a c)
local macro_rules|`(Φ)=>`(setCell M i { c with fl:=c.fl.set f y })
local macro_rules|`(Ψ)=>`(tC (.int 2))
local macro_rules|`(Ω)=>`(eU bH ψ (au))
local macro_rules|`(ac)=>`(ak 2)
local macro_rules|`(ad)=>`(pv 2)
local macro_rules|`(ae)=>`(hr.mono ε)
local macro_rules|`(af)=>`(by repeat (first | exact trivial | refine⟨rfl,?_⟩))
local macro_rules|`(ag)=>`(rI qy λi j=>.int (i * j))
local macro_rules|`(ah)=>`(s.heap.objs.size+1)
local macro_rules|`(ai)=>`(model prog w)
local macro_rules|`(am)=>`(tC (.int 3))
local macro_rules|`(ap)=>`(aj (ak 3) aG)
local macro_rules|`(ar)=>`(aa (pv 3) az)
local macro_rules|`(av)=>`(bM G.bV η T.fZ G.boot_len (aa ο az))
local macro_rules|`(ax)=>`(λ_=>?_)
local macro_rules|`(ay)=>`(λz=>nomatch z)
local macro_rules|`(aE)=>`(iH λi j=>.int (Builtin.bitAnd i j))
local macro_rules|`(aI)=>`(λz=>by cases z)
local macro_rules|`(aS)=>`(iH λi j=>.bl (decide (i<j)))
local macro_rules|`(aT)=>`(bh K ρ "sweeper")
local macro_rules|`(a3)=>`(gj (gJ T) hr T.mo T.gF (aa Θ (aa (au) az)))
local macro_rules|`(a4)=>`(bY (fY M).sw.sense "lost" A.gr (fY M).sw.looked (fY M).sw.turn (fY M).sw.at' (fY M).sw.stop (fY M).sw.walks (fY M).sw.looks (fY M).sw.passes (.ref a))
local macro_rules|`(a6)=>`(bh K ρ "heap")
local macro_rules|`(a7)=>`(dG K)
local macro_rules|`(a8)=>`(bU "heap" (.ref hq) [])
local macro_rules|`(a9)=>`(bU "names" (.ref nm) (bU "hands" (.ref d) u))
abbrev Ap:=PySem.Value->PySem.Shared->Prop
abbrev As:=PySem.Str->Option PySem.Value
abbrev At:=List (PySem.Addr×PySem.Obj)
abbrev Au:=List (Option Int)
abbrev AA:=Option Int
abbrev AB:=Option PySem.Value
abbrev AC:=List PySem.Value
abbrev AE:=List Int
abbrev AF:=List PySem.Addr
abbrev AG:=List PySem.Expr
abbrev AH:=List PySem.Str
abbrev AI:=PySem.Addr
abbrev AJ:=PySem.Value
abbrev AK:=PySem.Shared
abbrev AL:=PySem.FuncData
abbrev AM:=PySem.Program
abbrev AN:=PySem.Expr
abbrev AO:=PySem.World
abbrev aD:=PySem.W.Frag
theorem bL{a:Type}{l:List a}{i:Nat}(h:i<l.length):l[i]? =some l[i]:=List.getElem?_eq_getElem h
theorem dj{b:Type}{l:List b}{i:Nat}{a:b}(h:l[i]? =some a):∃h:i<l.length,l[i]=a:=List.getElem?_eq_some_iff.mp h
theorem cL{a b:Type}{f:a->b}{l:List a}{i:Nat}:(l.map f)[i]? =l[i]?.map f:=List.getElem?_map
theorem bA{a b:Type}{l:List a}(f:a->b):(l.map f).length=l.length:=List.length_map f
namespace L2
open PySem PySem.Spec PyProof.Rows
abbrev Key:=Sum Int Str
def Fy:Key->AJ->Bool
 | .inl k,v=>Value.isInt k v
 | .inr x,v=>Value.isStrOf x v
def Ztj(w:AO):Key->Int
 | .inl k=>hashInt k
 | .inr x=>hashStr w x
theorem dI:∀{k:Key}{v:AJ},Fy k v=true->(∃i t,k=Sum.inl i/\v=Value.int i t)\/(∃x t,k=Sum.inr x/\v=Value.str x t)
 | .inl i,v,h=>by
  obtain⟨t,e⟩:=Value.isInt_shape (k:=i) (v:=v) h;exact .inl ⟨i,t,rfl,e⟩
 | .inr x,v,h=>by
  obtain⟨t,e⟩:=Value.isStrOf_shape (x:=x) (v:=v) h;exact .inr ⟨x,t,rfl,e⟩
theorem Zh3(i:Int)(t:Tok):Fy (.inl i) (.int i t)=true:=by simp[Fy,Value.isInt]
theorem Zh2(x:Str)(t:Tok):Fy (.inr x) (.str x t)=true:=by simp[Fy,Value.isStrOf]
theorem Zra(a b:Int):decide ((Sum.inl a:Key)=Sum.inl b)=(a == b):=by
 by_cases e:a=b
 ·subst e;simp
 ·have h:¬ (Sum.inl a:Key)=Sum.inl b:=λq=>e (Sum.inl.inj q);rw[decide_eq_false h];exact(beq_eq_false_iff_ne.mpr e).symm
theorem Zr7(a b:Str):decide ((Sum.inr a:Key)=Sum.inr b)=decide (a=b):=by
 by_cases e:a=b
 ·subst e;simp
 ·have h:¬ (Sum.inr a:Key)=Sum.inr b:=λq=>e (Sum.inr.inj q);rw[decide_eq_false h,decide_eq_false e]
theorem Zr9(a:Int)(b:Str):decide ((Sum.inl a:Key)=Sum.inr b)=false:=decide_eq_false (λq=>nomatch q)
theorem Zr8(a:Str)(b:Int):decide ((Sum.inr a:Key)=Sum.inl b)=false:=decide_eq_false (λq=>nomatch q)
def dH(prog:AM)(w:AO):PySem.KeyKind prog w Key where
  is:=Fy
  hash:=Ztj w
  inj:=λv a b d hb=>by
    rcases dI d with ⟨i,t,rfl,rfl⟩ | ⟨x,t,rfl,rfl⟩
    · rcases dI hb with ⟨j,u,rfl,e⟩ | ⟨y,u,rfl,e⟩
      · injection e with c _;rw[c]
      · exact nomatch e
    · rcases dI hb with ⟨j,u,rfl,e⟩ | ⟨y,u,rfl,e⟩
      · exact nomatch e
      · injection e with c _;rw[c]
  byValue:=λk v h=>by
    rcases dI h with ⟨i,t,rfl,rfl⟩ | ⟨x,t,rfl,rfl⟩<;>rfl
  pyHash:=λhv h=>by
    rcases dI hv with ⟨i,t,rfl,rfl⟩ | ⟨x,t,rfl,rfl⟩
    · exact wpAny_pyHash_int h
    · exact wpAny_pyHash_str h
  eqBool:=λhu hv h=>by
    rcases dI hu with ⟨i,t,rfl,rfl⟩ | ⟨x,t,rfl,rfl⟩
    · rcases dI hv with ⟨j,u,rfl,rfl⟩ | ⟨y,u,rfl,rfl⟩
      · rw[Zra]at h;exact wpAny_eqBool_int h
      · rw[Zr9]at h;exact SeqAt.EqAt.int_str i t y u _ _ _ _ h
    · rcases dI hv with ⟨j,u,rfl,rfl⟩ | ⟨y,u,rfl,rfl⟩
      · rw[Zr8]at h;exact SeqAt.EqAt.str_int x t j u _ _ _ _ h
      · rw[Zr7]at h;exact wpAny_eqBool_str h
  «strs»:=λk x t v h=>by
    rcases dI h with ⟨i,u,rfl,e⟩ | ⟨y,u,rfl,e⟩
    · exact nomatch e
    · injection e with c _
      subst c;cases v<;>rfl
theorem Z8(prog:AM)(w:AO)(i:Int)(t:Tok):(dH prog w).is (.inl i) (.int i t)=true:=Zh3 i t
theorem Z7(prog:AM)(w:AO)(x:Str)(t:Tok):(dH prog w).is (.inr x) (.str x t)=true:=Zh2 x t
inductive V where
 | non | bl (b:Bool) | int (i:Int) | str (x:Str) | byt (b:Array UInt8) | flt (b:UInt64) | ref (a:AI) | ty (n:String)
 deriving DecidableEq
def RelV:V->AJ->Prop
 | .non,u=>u=Value.none
 | .bl b,u=>u=Value.bool b
 | .int i,u=>∃t,u=Value.int i t
 | .str x,u=>∃t,u=Value.str x t
 | .byt b,u=>∃t,u=Value.bytes b t
 | .flt b,u=>∃t,u=Value.float b t
 | .ref a,u=>u=Value.ref a
 | .ty n,u=>u=Value.type n
abbrev Vals:List V->AC->Prop:=Paired RelV
theorem Vals.length{xs:List V}{us:AC}(r:Vals xs us):xs.length=us.length:=Paired.length r
theorem Vals.get:∀{xs:List V}{us:AC}{i:Nat}{x:V},Vals xs us->xs[i]? =some x->∃u,us[i]? =some u/\RelV x u
 | _,_,_,_,.nil,e=>by simp at e
 | _,_,0,_,.cons r _,e=>by simp at e;subst e;exact⟨_,rfl,r⟩
 | _,_,i+1,x,.cons _ t,e=>by
  obtain⟨u,h1,h2⟩:=Vals.get (i:=i) (x:=x) t (by simpa using e);exact⟨u,by simpa using h1,h2⟩
theorem Vals.set{x:V}{u:AJ}(r:RelV x u):∀{xs:List V}{us:AC} (i:Nat),Vals xs us->Vals (xs.set i x) (us.set i u)
 | _,_,_,.nil=>.nil
 | _,_,0,.cons _ t=>.cons r t
 | _,_,i+1,.cons q t=>.cons q (Vals.set r i t)
theorem Vals.append{xs a:List V}{us b:AC}(h:Vals xs us)(s:Vals a b):Vals (xs++a) (us++b):=by
 induction h with
 | nil=>exact s
 | cons r t ih=>exact .cons r ih
theorem Vals.take:∀{xs:List V}{us:AC} (n:Nat),Vals xs us->Vals (xs.take n) (us.take n)
 | _,_,0,_=>.nil
 | _,_,_+1,.nil=>.nil
 | _,_,n+1,.cons r t=>.cons r (Vals.take n t)
theorem Vals.drop:∀{xs:List V}{us:AC} (n:Nat),Vals xs us->Vals (xs.drop n) (us.drop n)
 | _,_,0,r=>r
 | _,_,_+1,.nil=>.nil
 | _,_,n+1,.cons _ t=>Vals.drop n t
def zB:Option V->AB->Prop
 | some v,some u=>RelV v u
 | none,none=>True
 | _,_=>False
def KV{a:Type}:List (a×V)->List (a×AJ)->Prop:=Paired λ(p:a×V) (q:a×AJ)=>p.1=q.1/\RelV p.2 q.2
def kV:Key->V
 | .inl i=>.int i
 | .inr x=>.str x
inductive HO where
  | lst (xs:List V)
  | tup (xs:List V)
  | dK (kvs:List (Key×V)) | dT (kvs:List (List Key×V))
  | set (S:Int->Bool) (n:Nat)
  | ins (C dx:AI) (fs:List (Str×V))
  | own (x:AI)
  | xd (fs:List (Str×V))
  | met (f x:AI)
  | rng (lo hi:Int)
  | uh (o:Obj) (u:HO)
  | Mq (ps:Array AJ)
  | ext (φ:Heap->Prop)
abbrev Hp:=AI->Option HO
def upd(H:Hp)(a:AI)(o:HO):Hp:=λb=>if b=a then some o else H b
theorem ao{H:Hp}{a:AI}{o:HO}:upd H a o a=some o:=by unfold upd;rw[if_pos rfl]
theorem aA{H:Hp}{a b:AI}{o:HO}(h:b≠a):upd H a o b=H b:=by unfold upd;rw[if_neg h]
theorem dB{H:Hp}{a:AI}{o u:HO}:upd (upd H a o) a u=upd H a u:=by
 funext b;unfold upd;split<;>rfl
theorem lM{H:Hp}{a b:AI}{o u:HO}(h:H a=some o)(h':H b=some u)(d:o≠u):a≠b:=by
 intro e;subst e;rw[h]at h';exact d (Option.some.inj h')
theorem aF{H:Hp}{a b:AI}{o:HO}(h:H a=some o)(h':H b=none):a≠b:=by
 intro e;subst e;rw[h]at h';cases h'
section
variable (P:AM)(w:AO)
def gZ(H:Hp)(h:Heap)(a:AI):HO->Prop
 | .lst xs=>xs.length<=sizeLine/\∃(b:AC) (n:Nat),Vals xs b/\h.get? a=some { cls:=.type "list",data:=.seq b.toArray n }
 | .tup xs=>xs.length<=sizeLine/\∃b:AC,Vals xs b/\IsTup h a b.toArray
 | .dK c=>c.length<=sizeLine/\(a == sysModules)=false/\∃vs,KV c vs/\h.DictOf (dH P w) a vs
 | .dT c=>c.length<=sizeLine/\(a == sysModules)=false/\∃xs:List (List Key×AI×AJ),
   Paired (λ(p:List Key×V) (q:List Key×AI×AJ)=>p.1=q.1/\H q.2.1=some (.tup (p.1.map kV))/\RelV p.2 q.2.2) c xs/\
   ∃o g i,h.get? a=some o/\o.ExactDict/\o.data=.dict g i/\g.toList=xs.map (entryOfKey (tupleKind (dH P w)))/\(xs.map (·.1)).Nodup
 | .set S n=>h.SetOf (intKind P w) a S n
 | .ins C dx fs=>H dx=some (.own a)/\fs.length<=1000/\dx≠a/\h.get? a=some (W.instObj C dx)/\
   ∃d,h.Ns1 dx d/\(∀f,zB (fs.lookup f) (d f))/\PySem.Within d (fs.map (·.1))
 | .own _=>∃o,h.get? a=some o
 | .xd fs=>∃d,h.Ns1 a d/\∀f,zB (fs.lookup f) (d f)
 | .rng lo hi=>∃t u v,h.get? a=some { cls:=.type "range",data:=.fields #[.int lo t,.int hi u,.int 1 v] }
 | .uh o u=>h.get? a=some o/\gZ H h a u
 | .Mq ps=>h.get? a=some { cls:=.none,data:=.fields ps }
 | .met f x=>h.get? a=some (W.methodObj (.ref f) (.ref x))
 | .ext e=>e h/\(∃o,h.get? a=some o)/\∀h1 h2:Heap,e h1->(∀o,h1.get? a=some o->h2.get? a=some o)->e h2
def yZ(H:Hp)(h:Heap):Prop:=∀a o,H a=some o->gZ P w H h a o
end
section
variable {P:AM}{w:AO}{H H':Hp}{h h':Heap}{a:AI}{o:HO}
theorem gZ.lt(x:gZ P w H h a o):a<h.objs.size:=by
 cases o with
 | lst c=>obtain⟨_,_,_,_,e⟩:=x;exact Heap.lt_size e
 | tup c=>obtain⟨_,_,_,p⟩:=x;exact p.lt
 | dK b=>obtain⟨_,_,_,_,o,_,_,e,_⟩:=x;exact Heap.lt_size e
 | dT b=>obtain⟨_,_,_,_,o,_,_,e,_⟩:=x;exact Heap.lt_size e
 | set S n=>obtain⟨o,_,_,_,e,_⟩:=x;exact Heap.lt_size e
 | ins C i fs=>obtain⟨_,_,_,e,_⟩:=x;exact Heap.lt_size e
 | own y=>obtain⟨_,e⟩:=x;exact Heap.lt_size e
 | xd fs=>obtain⟨_,⟨_,_,_,e,_⟩,_⟩:=x;exact Heap.lt_size e
 | rng lo hi=>obtain⟨_,_,_,e⟩:=x;exact Heap.lt_size e
 | uh ob u=>obtain⟨e,_⟩:=x;exact Heap.lt_size e
 | Mq d=>exact Heap.lt_size (show h.get? a=some _ from x)
 | met f y=>exact Heap.lt_size (show h.get? a=some _ from x)
 | ext g=>obtain⟨_,⟨_,e⟩,_⟩:=x;exact Heap.lt_size e
theorem Paired.Zte{e g:Type}{F G:e->g->Prop}{c:List e}{d:List g}(h:Paired F c d)(f:∀a b,F a b->G a b):Paired G c d:=by
 induction h with
 | nil=>exact .nil
 | cons r t ih=>exact .cons (f _ _ r) ih
theorem gZ.stay(x:gZ P w H h a o)(k:∀b u,(b=a\/H b=some (.own a))->h.get? b=some u->h'.get? b=some u)
  (E:∀b,H b=some (.own a)->H' b=some (.own a)) (B:∀b xs,H b=some (.tup xs)->H' b=some (.tup xs)):gZ P w H' h' a o:=by
 induction o with
 | lst xs=>obtain⟨z,j,n,r,e⟩:=x;exact⟨z,j,n,r,k _ _ (.inl rfl) e⟩
 | tup xs=>obtain⟨z,j,r,ob,e,c⟩:=x;exact⟨z,j,r,ob,k _ _ (.inl rfl) e,c⟩
 | dK m=>obtain⟨z,y,D,r,ob,i,g,e,c⟩:=x;exact⟨z,y,D,r,ob,i,g,k _ _ (.inl rfl) e,c⟩
 | dT m=>
  obtain⟨z,y,xs,r,ob,i,g,e,c⟩:=x;exact⟨z,y,xs,Paired.Zte r λp q z=>⟨z.1,B _ _ z.2.1,z.2.2⟩,ob,i,g,k _ _ (.inl rfl) e,c⟩
 | set S n=>obtain⟨ob,i,g,t,e,c⟩:=x;exact⟨ob,i,g,t,k _ _ (.inl rfl) e,c⟩
 | ins C I fs=>
  obtain⟨d,z,ne,e,l,⟨od,i,g,A,c⟩,r⟩:=x;exact⟨E _ d,z,ne,k _ _ (.inl rfl) e,l,⟨od,i,g,k _ _ (.inr d) A,c⟩,r⟩
 | own y=>obtain⟨ob,e⟩:=x;exact⟨ob,k _ _ (.inl rfl) e⟩
 | xd fs=>obtain⟨l,⟨od,i,g,e,c⟩,r⟩:=x;exact⟨l,⟨od,i,g,k _ _ (.inl rfl) e,c⟩,r⟩
 | rng lo hi=>obtain⟨t,u,v,e⟩:=x;exact⟨t,u,v,k _ _ (.inl rfl) e⟩
 | uh ob u ih=>obtain⟨e,q⟩:=x;exact⟨k _ _ (.inl rfl) e,ih q⟩
 | Mq s=>
  have e:h.get? a=some { cls:=.none,data:=.fields s }:=x;show h'.get? a=some { cls:=.none,data:=.fields s };exact k a _ (.inl rfl) e
 | met f y=>
  have e:h.get? a=some (W.methodObj (.ref f) (.ref y)):=x;show h'.get? a=some (W.methodObj (.ref f) (.ref y));exact k a _ (.inl rfl) e
 | ext F=>obtain⟨p,⟨o,e⟩,st⟩:=x;exact⟨st _ _ p λo q=>k _ _ (.inl rfl) q,⟨o,k _ _ (.inl rfl) e⟩,st⟩
theorem yZ.lt(x:yZ P w H h)(e:H a=some o):a<h.objs.size:=(x a o e).lt
theorem yZ.fresh(x:yZ P w H h)(e:h.objs.size<=a):H a=none:=by
 cases q:H a with
 | none=>rfl
 | some u=>exact absurd (Nat.lt_of_lt_of_le (x.lt q) e) (Nat.lt_irrefl _)
theorem yZ.kept(x:yZ P w H h)(k:∀b u,h.get? b=some u->h'.get? b=some u):yZ P w H h':=λa o e=>
 (x a o e).stay (λb u _ q=>k b u q) (λ_ q=>q) λ_ _ q=>q
theorem yZ.laid(x:yZ P w H h)(k:∀b u,h.get? b=some u->h'.get? b=some u)(hp:h.objs.size<=a)(new:gZ P w (upd H a o) h' a o):yZ P w (upd H a o) h':=λb u e=>by
 have hn:=x.fresh hp
 by_cases hb:b=a
 ·subst hb;rw[ao]at e;cases e;exact new
 ·rw[aA hb]at e;exact(x b u e).stay (λc v _ q=>k c v q) (λc q=>by rw[aA (aF q hn)];exact q) λc xs q=>by rw[aA (aF q hn)];exact q
end
def Rd(H:Hp)(a:AI)(u:HO):Prop:=H a=some u\/∃o,H a=some (.uh o u)
theorem Rd.ok{P:AM}{w:AO}{H:Hp}{h:Heap}{a:AI}{u:HO}(r:Rd H a u)(x:yZ P w H h):gZ P w H h a u:=by
 rcases r with r | ⟨o,r⟩
 ·exact x a u r
 ·obtain⟨_,q⟩:=x a _ r;exact q
def Mut:Option HO->Prop
 | some (.lst _)=>True
 | some (.dK _)=>True
 | some (.dT _)=>True
 | some (.set _ _)=>True
 | some (.ins _ _ _)=>True
 | some (.ext _)=>True
 | _=>False
section
variable {P:AM}{w:AO}{H:Hp}{h h':Heap}{x e:AI}{o':HO}
theorem yZ.write(ok:yZ P w H h)(g:Mut (H x))(m:e=x\/H e=some (.own x))(k:∀b u,b≠e->h.get? b=some u->h'.get? b=some u)(j:∃u,h'.get? e=some u)
  (new:gZ P w (upd H x o') h' x o'):yZ P w (upd H x o') h':=λb u q=>by
 have d:∀c y,H c=some (.own y)->c≠x:=λc y r z=>by subst z;rw[r]at g;exact g
 have i:∀c f,H c=some (.tup f)->c≠x:=λc f r z=>by subst z;rw[r]at g;exact g
 by_cases hb:b=x
 ·subst hb;rw[ao]at q;cases q;exact new
 ·rw[aA hb]at q
  by_cases a:b=e
  ·have l:H b=some (.own x):=by
    rcases m with z | z
    ·exact absurd (a.trans z) hb
    ·rw[a];exact z
   rw[q]at l;cases l;obtain⟨v,hv⟩:=j;exact⟨v,by rw[a];exact hv⟩
  ·refine(ok b u q).stay (λc v hc r=>k c v ?_ r) (λc r=>by rw[aA (d c b r)];exact r) λc f r=>by rw[aA (i c f r)];exact r
   rcases hc with rfl | hc
   ·exact a
   ·rintro rfl;rcases m with z | z
    ·exact d c b hc z
    ·rw[hc]at z;cases z;exact hb rfl
end
structure Un(fs ex:AF)(H H':Hp)(h h':Heap):Prop where
 keep:∀b o,h.get? b=some o->H b=none->b∉fs->b∉ex->h'.get? b=some o
 slot:∀b o,h.get? b=some o->H b=none->b∈fs->b∉ex->∃sl,h'.get? b=some { o with slots:=sl }
 free:∀b o,h.get? b=some o->H b=none->b∉ex->H' b=none
 there:∀b o,h.get? b=some o->b∉ex->∃o',h'.get? b=some o'
 tups:∀b xs,H b=some (.tup xs)->H' b=some (.tup xs)
 HY:∀b o u,H b=some (.uh o u)->H' b=some (.uh o u)
 Kw:∀b ps,H b=some (.Mq ps)->∃more,H' b=some (.Mq (ps++more))
section
variable {fs fs' ex ex':AF}{H H1 H2:Hp}{h h1 h2 h':Heap}{a x e:AI}{o:HO}
theorem Un.any(u:Un fs ex H H1 h h1){b:AI}{ob:Obj}(q:h.get? b=some ob)(n:H b=none)(hx:b∉ex):∃sl,h1.get? b=some { ob with slots:=sl }:=by
 by_cases hb:b∈fs
 ·exact u.slot b ob q n hb hx
 ·exact⟨ob.slots,u.keep b ob q n hb hx⟩
theorem Un.kept(k:∀b u,h.get? b=some u->h'.get? b=some u):Un fs ex H H h h':=
 ⟨λb ob q _ _ _=>k b ob q,λb ob q _ _ _=>⟨ob.slots,k b ob q⟩,λ_ _ _ n _=>n,λb ob q _=>⟨ob,k b ob q⟩,λ_ _ q=>q,λ_ _ _ q=>q,λ_ ps q=>⟨#[],by rw[q];simp⟩⟩
theorem Un.refl:Un fs ex H H h h:=Un.kept λ_ _ q=>q
theorem Un.laid(k:∀b u,h.get? b=some u->h'.get? b=some u)(hp:h.objs.size<=a)(hn:H a=none):Un fs ex H (upd H a o) h h' where
 keep:=λb u q _ _ _=>k b u q
 slot:=λb u q _ _ _=>⟨u.slots,k b u q⟩
 free:=λb u q n _=>by rw[aA (Nat.ne_of_lt (Nat.lt_of_lt_of_le (Heap.lt_size q) hp))];exact n
 there:=λb u q _=>⟨u,k b u q⟩
 tups:=λb xs q=>by rw[aA (aF q hn)];exact q
 HY:=λb u xs q=>by rw[aA (aF q hn)];exact q
 Kw:=λb ps q=>⟨#[],by rw[aA (aF q hn),q];simp⟩
theorem Un.write(c:Mut (H x))(g:e=x\/H e=some (.own x))(k:∀b u,b≠e->h.get? b=some u->h'.get? b=some u)(d:∃u,h'.get? e=some u):Un fs ex H (upd H x o) h h':=by
 have hx:∀b,H b=none->b≠x:=λb n z=>by subst z;rw[n]at c;exact c
 have hb:∀b,H b=none->b≠e:=λb n z=>by
  subst z;rcases g with r | r
  ·exact hx b n r
  ·rw[n]at r;cases r
 have hm:∀b u,H b=some u->¬ Mut (some u)->b≠x:=λb u q nm z=>by subst z;rw[q]at c;exact nm c
 refine⟨λb u q n _ _=>k b u (hb b n) q,λb u q n _ _=>⟨u.slots,k b u (hb b n) q⟩,λb u q n _=>by rw[aA (hx b n)];exact n,λb u q _=>?_,
  λb f q=>by rw[aA (hm b _ q λz=>z)];exact q,λb u f q=>by rw[aA (hm b _ q λz=>z)];exact q,λb i q=>⟨#[],by rw[aA (hm b _ q λz=>z),q];simp⟩⟩
 by_cases a:b=e
 ·subst a;exact d
 ·exact⟨u,k b u a q⟩
end
def trk(h:Heap)(H:Hp):AF:=(List.range h.objs.size).filter λa=>(H a).isSome
def Yo(h:Heap)(H:Hp):Heap:=W.hideAll h (trk h H)
theorem Zhl(h:Heap)(H:Hp):(Yo h H).objs.size=h.objs.size:=W.hideAll_size _ _
theorem Zlc{h:Heap}{H:Hp}{b:AI}{o:Obj}(e:h.get? b=some o)(n:H b=none):(Yo h H).get? b=some o:=
 W.hideAll_get _ e λhm=>by
  have q:(H b).isSome=true:=(List.mem_filter.mp hm).2;rw[n]at q;simp at q
theorem Znr{h:Heap}{H:Hp}{b:AI}{o:Obj}(e:(Yo h H).get? b=some o):h.get? b=some o/\H b=none:=by
 have a:h.get? b=some o:=W.of_hideAll (trk h H) e;refine⟨a,?_⟩;cases q:H b with
 | none=>rfl
 | some x=>
  have hm:b∈trk h H:=List.mem_filter.mpr ⟨List.mem_range.mpr (Heap.lt_size a),by simp[q]⟩;have z:(Yo h H).get? b=none:=W.hideAll_none (trk h H) hm;rw[z]at e;cases e
def Zov(g h:Heap)(L:AI):At:=(List.range h.objs.size).filterMap λa=>if a=L\/(g.get? a).isSome=true then none else(h.get? a).map λo=>(a,o)
def rest(g h:Heap)(L d:AI):At:=(Zov g h L).filter λp=>decide (p.1≠d)
structure Mod(K:aD)(mg:As)(base:Heap):Prop where
 kin:K.In base
 glob:base.Ns mainGlobals mg
 blt:∃mb,base.Ns builtinsNs mb/\∀x:Str,x≠"__name__"->mb x=bootBuiltins x
 nolimit:base.NoLimit
structure Cx where
 prog:AM
 w:AO
 K:aD
 mg:Str->AB
 base:Heap
 A:Around
 N:AH
 s₀:AK
 H₀:Hp
 env:Env
 outer:List Env
 stack:List Env
 ex:AF
 fn:Str->Bool
 calm:Bool
 pn:At
 xe:AJ->AK->Prop
def frs(l:List Env):AF:=l.filterMap (·.frame)
abbrev Cx.fs(X:Cx):AF:=frs X.outer
def Vis(sc:Scope)(x:Str):Prop:=sc.names.lookup x=some .local\/sc.names.lookup x=some .cell\/sc.names.lookup x=some .free
def Loc(sc:Scope)(x:Str):Prop:=sc.names.lookup x=some .local\/sc.names.lookup x=some .cell
def Look(env:Env)(h:Heap)(m:As)(x:Str)(u:AJ):Prop:=
 (env.kindOf x=some .local/\m x=some u)\/((env.kindOf x=some .cell\/env.kindOf x=some .free)/\∃c,env.cells.lookup x=some c/\h.IsCell c (some u))
structure Cx.Ok(X:Cx):Prop where
 mod:Mod X.K X.mg X.base
 kind:X.env.scope.kind=.function
 glob:X.env.globals=mainGlobals
 blt:X.env.builtins=builtinsNs
 above:X.s₀.heap.objs.size<=X.env.locals
 inj:∀x y c,X.env.cells.lookup x=some c->X.env.cells.lookup y=some c->x=y
 has:∀x,(X.env.kindOf x=some .cell\/X.env.kindOf x=some .free)->∃c,X.env.cells.lookup x=some c
 cab:∀x c,X.fn x=true->X.env.cells.lookup x=some c->X.s₀.heap.objs.size<=c
 hd:X.calm=true->X.A.handled=none
 frames:X.A.frames=some X.stack
 stk:X.stack=X.outer\/(X.stack=X.env::X.outer/\X.env.frame=some X.env.locals)
 exf:∀b∈X.ex,b≠X.env.locals/\∀x c,X.env.cells.lookup x=some c->c≠b
 bs:∀b o,X.base.get? b=some o->X.s₀.heap.get? b=some o/\X.H₀ b=none
 bsz:X.base.objs.size<=X.s₀.heap.objs.size
 Z2:∀b o,X.base.get? b=some o->b∉X.ex
 Zdc:∀b∈X.ex,b∉X.fs
 ug:X.s₀.heap.FunFrames X.base X.outer
 frf:∀b∈X.fs,X.H₀ b=none
structure Inv(X:Cx)(pins:At)(σ:List (Option V))(H:Hp)(s:AK):Prop where
 ok:X.Ok
 os:s.os=X.s₀.os
 bare:AllBare s.gens
 base:Un X.fs X.ex X.H₀ H X.s₀.heap s.heap
 loc:∃m,s.heap.Ns X.env.locals m/\∀(i:Nat) (x:Str) (v:V),X.N[i]? =some x->σ[i]? =some (some v)->Vis X.env.scope x->∃u,RelV v u/\Look X.env s.heap m x u
 cell:∀x c,X.env.cells.lookup x=some c->∃v,s.heap.IsCell c v
 free:H X.env.locals=none
 p7:∀x c,X.env.cells.lookup x=some c->H c=none
 pin:∀p∈X.pn++pins,s.heap.get? p.1=some p.2/\H p.1=none/\p.1≠X.env.locals/\p.1∉X.fs/\∀v,p.2.data≠.cell v
 hok:yZ X.prog X.w H s.heap
 len:σ.length=X.N.length
section
variable {X:Cx}{pins:At}{σ:List (Option V)}{H H':Hp}{s:AK}{h':Heap}
theorem Cx.Ok.Zvl(ok:X.Ok){b:AI}{o:Obj}(e:X.base.get? b=some o):b∉X.fs:=λhb=>by
 have:=(ok.ug.mem hb).1;rw[e]at this;cases this
theorem Inv.bs(I:Inv X pins σ H s):∀b o,X.base.get? b=some o->s.heap.get? b=some o/\H b=none:=λb o e=>
 ⟨I.base.keep b o (I.ok.bs b o e).1 (I.ok.bs b o e).2 (I.ok.Zvl e) (I.ok.Z2 b o e),I.base.free b o (I.ok.bs b o e).1 (I.ok.bs b o e).2 (I.ok.Z2 b o e)⟩
theorem Inv.bk(I:Inv X pins σ H s):∀b o,X.base.get? b=some o->s.heap.get? b=some o:=λb o e=>(I.bs b o e).1
theorem Inv.mod(I:Inv X pins σ H s):Mod X.K X.mg X.base:=I.ok.mod
theorem Inv.qt(I:Inv X pins σ H s):X.K.In s.heap:=I.ok.mod.kin.keeps I.bk
theorem Inv.lt(I:Inv X pins σ H s):X.env.locals<s.heap.objs.size:=let ⟨_,hn,_⟩:=I.loc;hn.lt
theorem Inv.sz(I:Inv X pins σ H s):X.s₀.heap.objs.size<=s.heap.objs.size:=Nat.le_trans I.ok.above (Nat.le_of_lt I.lt)
theorem Inv.Zvk(I:Inv X pins σ H s){a:AI}(h:s.heap.objs.size<=a):a∉X.fs:=λhb=>by
 obtain⟨_,o,b,_⟩:=I.ok.ug.mem hb;exact absurd (Nat.lt_of_lt_of_le (Heap.lt_size b) (Nat.le_trans I.sz h)) (Nat.lt_irrefl _)
theorem Inv.cne(I:Inv X pins σ H s):∀x c,X.env.cells.lookup x=some c->c≠X.env.locals:=λx c e z=>by
 obtain⟨v,o,d,hd⟩:=I.cell x c e;obtain⟨m,⟨h,g,f,a,b,_⟩,_⟩:=I.loc;rw[z,a]at d;cases d;rw[b]at hd;cases hd
theorem Inv.ug(I:Inv X pins σ H s):s.heap.FunFrames X.base X.outer:=by
 have all:∀(l:List Env),(∀b∈frs l,b∈X.fs)->X.s₀.heap.FunFrames X.base l->s.heap.FunFrames X.base l:=by
  intro l
  induction l with
  | nil=>intro _ _;trivial
  | cons env r ih=>
   intro hs hl;obtain⟨hk,⟨L,o,c,hn,d,hd⟩,hr⟩:=hl;have a:L∈X.fs:=hs L (by unfold frs;rw[List.filterMap_cons,c];exact List.mem_cons_self);obtain⟨sl,e⟩:=I.base.slot L o d (I.ok.frf L a) a λz=>I.ok.Zdc L z a;exact⟨hk,⟨L,_,c,hn,e,hd⟩,ih (λb hb=>hs b (by unfold frs;rw[List.filterMap_cons,c];exact List.mem_cons_of_mem _ hb)) hr⟩
 exact all X.outer (λ_ hb=>hb) I.ok.ug
theorem Inv.stack(I:Inv X pins σ H s):s.heap.FunFrames X.base X.stack:=by
 rcases I.ok.stk with e | ⟨e,a⟩
 ·rw[e];exact I.ug
 ·rw[e];obtain⟨m,hn,_⟩:=I.loc;refine .cons (by rw[I.ok.kind];decide) a hn ?_ I.ug;exact Heap.get?_none_of_le (Nat.le_trans I.ok.bsz I.ok.above)
theorem Inv.G4(I:Inv X pins σ H s):∀b∈frs X.stack,b∈X.env.locals::X.fs:=λb hb=>by
 rcases I.ok.stk with e | ⟨e,a⟩
 ·rw[e]at hb;exact List.mem_cons_of_mem _ hb
 ·rw[e]at hb;unfold frs at hb;rw[List.filterMap_cons,a]at hb;exact hb
theorem Inv.WQ(I:Inv X pins σ H s):∀b∈frs X.stack,H b=none:=λb hb=>by
 rcases List.mem_cons.mp (I.G4 b hb)with e | hb
 ·rw[e];exact I.free
 ·obtain⟨_,o,a,_⟩:=I.ok.ug.mem hb;exact I.base.free b o a (I.ok.frf b hb) λz=>I.ok.Zdc b z hb
theorem Inv.step{g':Array GenState}{t':Nat}{d':Drawn}{ch:AF}(I:Inv X pins σ H s)
  (f:∀b∈ch,(b∈X.ex\/X.s₀.heap.objs.size<=b)/\b≠X.env.locals/\(∀x c,X.env.cells.lookup x=some c->c≠b)/\∀p∈X.pn++pins,p.1≠b)
  (keep:∀b o,b≠X.env.locals->b∉X.fs->b∉ch->s.heap.get? b=some o->H b=none->h'.get? b=some o)
  (slot:∀b o,b≠X.env.locals->b∈X.fs->b∉ch->s.heap.get? b=some o->H b=none->∃sl,h'.get? b=some { o with slots:=sl }) (free:∀b o,b∉ch->s.heap.get? b=some o->H b=none->H' b=none)
  (there:∀b o,b∉ch->s.heap.get? b=some o->∃y,h'.get? b=some y)
  (tups:∀b xs,H b=some (.tup xs)->H' b=some (.tup xs)) (HY:∀b o u,H b=some (.uh o u)->H' b=some (.uh o u)) (Kw:∀b ps,H b=some (.Mq ps)->∃C,H' b=some (.Mq (ps++C)))
  (ns:∀m,s.heap.Ns X.env.locals m->h'.Ns X.env.locals m) (hok:yZ X.prog X.w H' h') (F:AllBare g'):
  Inv X pins σ H' { s with heap:=h',gens:=g',drawn:=d',toks:=t' }:=by
 have B:∀b o,X.s₀.heap.get? b=some o->b≠X.env.locals:=λb o e=>Nat.ne_of_lt (Nat.lt_of_lt_of_le (Heap.lt_size e) I.ok.above);have j:∀b o,X.s₀.heap.get? b=some o->b∉X.ex->b∉ch:=λb o e hx hb=>by
  rcases(f b hb).1 with z | z
  ·exact hx z
  ·exact absurd (Nat.lt_of_lt_of_le (Heap.lt_size e) z) (Nat.lt_irrefl _)
 have g:∀x c,X.env.cells.lookup x=some c->∀v,s.heap.IsCell c v->h'.IsCell c v:=λx c e v ⟨o,t,hd⟩=>by
  have a:c∉ch:=λz=>(f c z).2.2.1 x c e rfl
  by_cases hc:c∈X.fs
  ·obtain⟨sl,q⟩:=slot c o (I.cne x c e) hc a t (I.p7 x c e);exact⟨_,q,hd⟩
  ·exact⟨o,keep c o (I.cne x c e) hc a t (I.p7 x c e),hd⟩
 refine⟨I.ok,I.os,F,⟨λb o e n hb hx=>?_,λb o e n hb hx=>?_,λb o e n hx=>?_,λb o e hx=>?_,λb xs e=>tups b xs (I.base.tups b xs e),λb o xs e=>HY b o xs (I.base.HY b o xs e),λb ps e=>?_⟩,?_,λx c e=>?_,?_,λx c e=>?_,λp hp=>?_,hok,I.len⟩
 ·exact keep b o (B b o e) hb (j b o e hx) (I.base.keep b o e n hb hx) (I.base.free b o e n hx)
 ·obtain⟨sl,h⟩:=I.base.slot b o e n hb hx;obtain⟨D,A⟩:=slot b _ (B b o e) hb (j b o e hx) h (I.base.free b o e n hx);exact⟨D,A⟩
 ·obtain⟨y,h⟩:=I.base.there b o e hx;exact free b y (j b o e hx) h (I.base.free b o e n hx)
 ·obtain⟨y,h⟩:=I.base.there b o e hx;exact there b y (j b o e hx) h
 ·obtain⟨K,h⟩:=I.base.Kw b ps e;obtain⟨J,A⟩:=Kw b _ h;exact⟨K++J,by rw[A,Array.append_assoc]⟩
 ·obtain⟨m,hn,hl⟩:=I.loc;refine⟨m,ns m hn,λi x v h A e3=>?_⟩;obtain⟨u,r,l⟩:=hl i x v h A e3;refine⟨u,r,?_⟩;rcases l with l | ⟨k,c,e,z⟩
  ·exact .inl l
  ·exact .inr ⟨k,c,e,g x c e _ z⟩
 ·obtain⟨v,z⟩:=I.cell x c e;exact⟨v,g x c e v z⟩
 ·obtain⟨m,⟨o,_,_,t,_⟩,_⟩:=I.loc;exact free _ o (λz=>(f _ z).2.1 rfl) t I.free
 ·obtain⟨v,o,t,hd⟩:=I.cell x c e;exact free c o (λz=>(f c z).2.2.1 x c e rfl) t (I.p7 x c e)
 ·obtain⟨e,n,ne,E,d⟩:=I.pin p hp;have a:p.1∉ch:=λz=>(f p.1 z).2.2.2 p hp rfl;exact⟨keep p.1 p.2 ne E a e n,free p.1 p.2 a e n,ne,E,d⟩
theorem Inv.un{t':Nat}(I:Inv X pins σ H s)(u:Un X.fs [] H H' s.heap h')(hok:yZ X.prog X.w H' h'):Inv X pins σ H' { s with heap:=h',toks:=t' }:=by
 obtain⟨m,⟨o,k,j,f,r⟩,_⟩:=id I.loc;obtain⟨sl,g⟩:=u.any f I.free ζ;exact I.step (g':=s.gens) (d':=s.drawn) (ch:=[]) (λ_ z=>nomatch z) (λb o _ hb _ e n=>u.keep b o e n hb ζ) (λb o _ hb _ e n=>u.slot b o e n hb ζ) (λb o _ e n=>u.free b o e n ζ) (λb o _ e=>u.there b o e ζ) u.tups u.HY u.Kw (λl hm=>by
  obtain⟨i,d,c,a,h⟩:=hm;rw[f]at a;cases a;exact⟨_,d,c,g,h⟩) hok I.bare
theorem Inv.call{g':Array GenState}{t':Nat}{d':Drawn}{ch:AF}(I:Inv X pins σ H s)(u:Un (frs X.stack) ch H H' s.heap h')(hok:yZ X.prog X.w H' h')(j:AllBare g')
  (d:∀b∈ch,(b∈X.ex\/X.s₀.heap.objs.size<=b)/\b≠X.env.locals/\(∀x c,X.env.cells.lookup x=some c->c≠b)/\∀p∈X.pn++pins,p.1≠b):
  Inv X pins σ H' { s with heap:=h',gens:=g',drawn:=d',toks:=t' }:=by
 obtain⟨m,⟨o,t,q,i,r⟩,_⟩:=id I.loc;obtain⟨sl,g⟩:=u.any i I.free λz=>(d _ z).2.1 rfl;exact I.step (ch:=ch) d (λb o g hb hc e n=>u.keep b o e n (λz=>(List.mem_cons.mp (I.G4 b z)).elim g hb) hc) (λb o _ _ hc e n=>u.any e n hc) (λb o hc e n=>u.free b o e n hc) (λb o hc e=>u.there b o e hc) u.tups u.HY u.Kw (λv hm=>by
  obtain⟨l,h,f,a,k⟩:=hm;rw[i]at a;cases a;exact⟨_,h,f,g,k⟩) hok j
theorem Inv.turned{t':Nat}{a:AI}(I:Inv X pins σ H s)(k:∀b o,b≠a->s.heap.get? b=some o->h'.get? b=some o)(hn:H a=none)(f:a≠X.env.locals)
  (h1:a∈X.ex\/X.s₀.heap.objs.size<=a) (h2:∀x c,X.env.cells.lookup x=some c->c≠a) (g:∀p∈X.pn++pins,p.1≠a):Inv X pins σ H { s with heap:=h',toks:=t' }:=by
 have d:∀b u,H b=some u->b≠a:=λb u e z=>by rw[z,hn]at e;cases e
 refine I.step (g':=s.gens) (d':=s.drawn) (ch:=[a]) (λb hb=>?_) (λb o _ _ hc e _=>k b o (λz=>hc (by simp[z])) e) (λb o _ _ hc e _=>⟨o.slots,k b o (λz=>hc (by simp[z])) e⟩) (λ_ _ _ _ n=>n)
  (λb o hc e=>⟨o,k b o (λz=>hc (by simp[z])) e⟩) (λ_ _ e=>e) (λ_ _ _ e=>e) (λb l e=>⟨#[],by rw[e];simp⟩) (λm hm=>?_) (λb u e=>?_) I.bare
 ·have e:b=a:=by simpa using hb
  subst e;exact⟨h1,f,h2,g⟩
 ·obtain⟨o,i,h,j,r⟩:=hm;exact⟨o,i,h,k _ o (Ne.symm f) j,r⟩
 ·refine(I.hok b u e).stay (λc v hc q=>k c v ?_ q) (λ_ q=>q) λ_ _ q=>q;rcases hc with z | z
  ·rw[z];exact d b u e
  ·exact d c _ z
theorem Inv.tok(I:Inv X pins σ H s)(t:Nat):Inv X pins σ H { s with toks:=t }:=I.un (h':=s.heap) (t':=t) Un.refl I.hok
theorem Inv.kept{t':Nat}(I:Inv X pins σ H s)(k:∀b u,s.heap.get? b=some u->h'.get? b=some u):Inv X pins σ H { s with heap:=h',toks:=t' }:=I.un (Un.kept k) (I.hok.kept k)
theorem Inv.laid{a:AI}{o:HO}{t':Nat}(I:Inv X pins σ H s)(k:∀b u,s.heap.get? b=some u->h'.get? b=some u)(hp:s.heap.objs.size<=a)(new:gZ X.prog X.w (upd H a o) h' a o):
  Inv X pins σ (upd H a o) { s with heap:=h',toks:=t' }:=I.un (Un.laid k hp (I.hok.fresh hp)) (I.hok.laid k hp new)
theorem Inv.write{x e:AI}{o:HO}{t':Nat}(I:Inv X pins σ H s)(c:Mut (H x))(d:e=x\/H e=some (.own x))(k:∀b u,b≠e->s.heap.get? b=some u->h'.get? b=some u)(a:∃u,h'.get? e=some u)
  (new:gZ X.prog X.w (upd H x o) h' x o):Inv X pins σ (upd H x o) { s with heap:=h',toks:=t' }:=I.un (Un.write c d k a) (I.hok.write c d k a new)
theorem Inv.zc{a:At}(I:Inv X pins σ H s)(h:∀p∈a,s.heap.get? p.1=some p.2/\H p.1=none/\p.1≠X.env.locals/\p.1∉X.fs/\∀v,p.2.data≠.cell v):Inv X a σ H s:=
 ⟨I.ok,I.os,I.bare,I.base,I.loc,I.cell,I.free,I.p7,λp hp=>(List.mem_append.mp hp).elim (λz=>I.pin p (List.mem_append_left _ z)) (h p),I.hok,I.len⟩
theorem Z3{N:AH}(c:N.Nodup){i j:Nat}{x:Str}(a:N[i]? =some x)(b:N[j]? =some x):i=j:=by
 obtain⟨h1,d⟩:=dj a;obtain⟨h2,e⟩:=dj b;exact(List.getElem_inj c).mp (d.trans e.symm)
theorem Zgc{M:Model}{A:Around}{E:Ap}{i:Nat}{x:Str}{v:V}{u:AJ}{Q:Unit->AK->Prop}(I:Inv X pins σ H s)(hN:X.N.Nodup)(hi:X.N[i]? =some x)(hx:Loc X.env.scope x)(r:RelV v u)
  (h:∀s',Inv X pins (σ.set i (some v)) H s'->(∃a,Heap.SameBut a s.heap s'.heap/\(a=X.env.locals\/X.env.cells.lookup x=some a))->Q () s') (hf:X.fn x=true\/X.env.scope.names.lookup x=some .local:=by first | exact .inl rfl | exact .inr rfl | assumption):wpAny M A (storeName X.env x u) Q E s:=by
 obtain⟨m,hn,hl⟩:=id I.loc;have J:(X.env.scope.kind == .class || (X.env.scope.kind == .module && X.env.locals != X.env.globals))=false:=by rw[I.ok.kind];rfl
 have B:i < σ.length:=by rw[I.len];exact(dj hi).1
 have cne:=I.cne;have g:∀{a:AI}{h':Heap},(∃o,s.heap.get? a=some o/\H a=none)->Heap.SameBut a s.heap h'->yZ X.prog X.w H h':=λ{a h'} ha hs b ob e=>by
  obtain⟨_,_,l⟩:=ha;refine(I.hok b ob e).stay (λc P hc q=>(hs.2 c ?_).trans q) (λ_ q=>q) λ_ _ q=>q;rintro rfl;rcases hc with rfl | hc
  ·rw[l]at e;cases e
  ·rw[l]at hc;cases hc
 rcases hx with hk | hk
 ·refine wpAny_storeName_local hk hn (λh' W hs=>?_) J;obtain⟨oL,_,_,S,_⟩:=id hn;refine h _ ⟨I.ok,I.os,I.bare,⟨λb o e n hb hx=>?_,λb o e n hb hx=>?_,I.base.free,λb o e hx=>?_,I.base.tups,I.base.HY,I.base.Kw⟩,⟨_,W,λj y Y f t e3=>?_⟩,λy c e=>?_,I.free,I.p7,λp hp=>?_,g ⟨oL,S,I.free⟩ hs,by simpa using I.len⟩ ⟨_,hs,.inl rfl⟩
  ·exact(hs.2 b (Nat.ne_of_lt (Nat.lt_of_lt_of_le (Heap.lt_size e) I.ok.above))).trans (I.base.keep b o e n hb hx)
  ·obtain⟨sl,f⟩:=I.base.slot b o e n hb hx;exact⟨sl,(hs.2 b (Nat.ne_of_lt (Nat.lt_of_lt_of_le (Heap.lt_size e) I.ok.above))).trans f⟩
  ·obtain⟨R,f⟩:=I.base.there b o e hx;exact⟨R,(hs.2 b (Nat.ne_of_lt (Nat.lt_of_lt_of_le (Heap.lt_size e) I.ok.above))).trans f⟩
  ·by_cases C:j=i
   ·subst C;rw[hi]at f;cases f;rw[List.getElem?_set_self B]at t;cases t;exact⟨u,r,.inl ⟨hk,ζ⟩⟩
   ·rw[List.getElem?_set_ne (Ne.symm C)]at t;obtain⟨U,Z,q⟩:=hl j y Y f t e3;refine⟨U,Z,?_⟩;rcases q with ⟨k,e⟩ | ⟨k,c,e,z⟩
    ·refine .inl ⟨k,?_⟩;have:y≠x:=λe=>C (Z3 hN f (e ▸ hi));simp[this,e]
    ·exact .inr ⟨k,c,e,z.sameBut hs (cne y c e)⟩
  ·obtain⟨P,z⟩:=I.cell y c e;exact⟨P,z.sameBut hs (cne y c e)⟩
  ·obtain⟨e,n,ne,nf,d⟩:=I.pin p hp;exact⟨(hs.2 p.1 ne).trans e,n,ne,nf,d⟩
 ·have D:X.fn x=true:=by
   rcases hf with z | z
   ·exact z
   ·rw[z]at hk;cases hk
  obtain⟨c,hc⟩:=I.ok.has x (.inl hk);obtain⟨P,z⟩:=I.cell x c hc;refine wpAny_storeName_cell I.ok.kind hk hc z (λh' K hs=>?_);obtain⟨oc,L,T⟩:=id z;refine h { s with heap:=h' } ⟨I.ok,I.os,I.bare,⟨λb o e n hb hx=>?_,λb o e n hb hx=>?_,I.base.free,λb o e hx=>?_,I.base.tups,I.base.HY,I.base.Kw⟩,⟨m,hn.sameBut hs (Ne.symm (cne x c hc)),λj y Y f t e3=>?_⟩,λy O e=>?_,I.free,I.p7,λp hp=>?_,g ⟨oc,L,I.p7 x c hc⟩ hs,by simpa using I.len⟩ ⟨c,hs,.inr hc⟩
  ·exact(hs.2 b (Nat.ne_of_lt (Nat.lt_of_lt_of_le (Heap.lt_size e) (I.ok.cab x c D hc)))).trans (I.base.keep b o e n hb hx)
  ·obtain⟨sl,f⟩:=I.base.slot b o e n hb hx;exact⟨sl,(hs.2 b (Nat.ne_of_lt (Nat.lt_of_lt_of_le (Heap.lt_size e) (I.ok.cab x c D hc)))).trans f⟩
  ·obtain⟨R,f⟩:=I.base.there b o e hx;exact⟨R,(hs.2 b (Nat.ne_of_lt (Nat.lt_of_lt_of_le (Heap.lt_size e) (I.ok.cab x c D hc)))).trans f⟩
  ·by_cases C:j=i
   ·subst C;rw[hi]at f;cases f;rw[List.getElem?_set_self B]at t;cases t;exact⟨u,r,.inr ⟨.inl hk,c,hc,K⟩⟩
   ·rw[List.getElem?_set_ne (Ne.symm C)]at t;obtain⟨U,Z,q⟩:=hl j y Y f t e3;refine⟨U,Z,?_⟩;rcases q with q | ⟨k,O,e,z'⟩
    ·exact .inl q
    ·refine .inr ⟨k,O,e,z'.sameBut hs ?_⟩;rintro rfl;exact C (Z3 hN f (I.ok.inj _ _ _ e hc ▸ hi))
  ·by_cases F:O=c
   ·subst F;exact⟨_,K⟩
   ·obtain⟨w2,z2⟩:=I.cell y O e;exact⟨w2,z2.sameBut hs F⟩
  ·obtain⟨e,n,ne,nf,d⟩:=I.pin p hp;refine⟨(hs.2 p.1 ?_).trans e,n,ne,nf,d⟩;intro q;rw[q,L]at e;have q':oc=p.2:=Option.some.inj e;exact d P (by rw[<- q'];exact T)
theorem Cw{M:Model}{A:Around}{E:Ap}{i:Nat}{x:Str}{v:V}{u:AJ}{Q:Unit->AK->Prop}(I:Inv X pins σ H s)(b:X.N.Nodup)(hi:X.N[i]? =some x)(hx:Loc X.env.scope x)(r:RelV v u)
  (h:∀s',Inv X pins (σ.set i (some v)) H s'->Q () s') (c:X.fn x=true\/X.env.scope.names.lookup x=some .local:=by first | exact .inl rfl | exact .inr rfl | assumption):wpAny M A (storeName X.env x u) Q E s:=
 Zgc I b hi hx r (λs' a _=>h s' a) c
theorem Inv.call'{s':AK}{ch:AF}(I:Inv X pins σ H s)(g:s'.os=s.os)(u:Un (frs X.stack) ch H H' s.heap s'.heap)(hok:yZ X.prog X.w H' s'.heap)(f:AllBare s'.gens)
  (a:∀b∈ch,(b∈X.ex\/X.s₀.heap.objs.size<=b)/\b≠X.env.locals/\(∀x c,X.env.cells.lookup x=some c->c≠b)/\∀p∈X.pn++pins,p.1≠b):Inv X pins σ H' s':=by
 obtain⟨h',g',d',t',d⟩:=s';have e:d=s.os:=g;subst e;exact I.call (g':=g') (t':=t') (d':=d') u hok f a
end
abbrev XK:=AJ->Option AI->Hp->Prop
abbrev St:=List (Option V)
abbrev VK:=V->Hp->Prop
abbrev TE:=St->Hp->VK->Prop
abbrev TT:=St->Hp->(Bool->Hp->Prop)->Prop
abbrev TA:=St->Hp->(List V->Hp->Prop)->Prop
structure Ends where
 nx:μ
 rt:VK
 bk:μ:=λ_ _=>False
 ct:μ:=λ_ _=>False
abbrev TS:=Ends->μ
def EP(X:Cx)(pins:At)(σ:St)(Q:VK)(u:AJ)(s':AK):Prop:=∃v H',Inv X pins σ H' s'/\RelV v u/\Q v H'
def TP(X:Cx)(pins:At)(σ:St)(Q:Bool->Hp->Prop)(b:Bool)(s':AK):Prop:=∃H',Inv X pins σ H' s'/\Q b H'
def AP(X:Cx)(pins:At)(σ:St)(Q:List V->Hp->Prop)(us:AC)(s':AK):Prop:=∃vs H',Inv X pins σ H' s'/\Vals vs us/\Q vs H'
def SP(X:Cx)(pins:At)(D:Ends)(f:Flow)(s':AK):Prop:=
 match f with
 | .next=>∃ a H',Inv X pins a H' s'/\D.nx a H'
 | .brk=>∃ a H',Inv X pins a H' s'/\D.bk a H'
 | .cont=>∃ a H',Inv X pins a H' s'/\D.ct a H'
 | .ret u=>∃v a H',Inv X pins a H' s'/\RelV v u/\D.rt v H'
def PE(X:Cx)(e:AN)(t:TE):Prop:=
 ∀(pins:At) (s:AK) (σ:St) (H:Hp) (Q:VK),Inv X pins σ H s->t σ H Q->wpAny ς X.A (eval e X.env) (EP X pins σ Q) X.xe s
def PT(X:Cx)(e:AN)(t:TT):Prop:=
 ∀(pins:At) (s:AK) (σ:St) (H:Hp) (Q:Bool->Hp->Prop),Inv X pins σ H s->t σ H Q->wpAny ς X.A (isTrue e X.env (eval e X.env)) (TP X pins σ Q) X.xe s
def PW(X:Cx)(e:AN)(t:TT):Prop:=
 ∀(a:Sem AJ) (pins:At) (s:AK) (σ:St) (H:Hp) (Q:Bool->Hp->Prop),Inv X pins σ H s->t σ H Q->wpAny ς X.A (isTrue e X.env a) (TP X pins σ Q) X.xe s
theorem PW.pt{X:Cx}{e:AN}{t:TT}(h:PW X e t):PT X e t:=h _
def PA(X:Cx)(b:AG)(t:TA):Prop:=
 ∀(a:Pos) (pins:At) (s:AK) (σ:St) (H:Hp) (Q:List V->Hp->Prop),Inv X pins σ H s->t σ H Q->wpAny ς X.A (spliced (backTo a (starEach b X.env))) (AP X pins σ Q) X.xe s
def PS(X:Cx)(st:Stmt)(t:TS):Prop:=
 ∀(pins:At) (s:AK) (σ:St) (H:Hp) (D:Ends),Inv X pins σ H s->t D σ H->wpAny ς X.A (exec st X.env) (SP X pins D) X.xe s
def Ri(X:Cx)(st:List Stmt)(t:TS):Prop:=
 ∀(pins:At) (s:AK) (σ:St) (H:Hp) (D:Ends),Inv X pins σ H s->t D σ H->wpAny ς X.A (execs st X.env) (SP X pins D) X.xe s
theorem gM{b:Type}{t:Sem b}{Q c:b->AK->Prop}{M:Model}{A:Around}{E:Ap}{s:AK}(h:wpAny M A t Q E s)(d:∀a s,Q a s->c a s):wpAny M A t c E s:=wpAny_mono h d λ_ _ x=>x
section
variable {X:Cx}
def ak(i:Nat):TE:=λσ H Q=>∃v,σ[i]? =some (some v)/\Q v H
def tC(v:V):TE:=λ_ H Q=>Q v H
theorem Zjh{i:Nat}{x:Str}{f:Pos}(j:X.N[i]? =some x)(hv:Vis X.env.scope x)(hd:(x == ("__debug__":Str))=false:=by decide)(d:(x == ("__classdict__":Str))=false:=by decide):PE X (.Name x f) (ak i):=by
 intro b s g H Q I h;obtain⟨v,e,h⟩:=h;obtain⟨m,hn,hl⟩:=I.loc;obtain⟨u,r,l⟩:=hl i x v j e hv;have fin:EP X b g Q u s:=⟨v,H,I,r,h⟩;rcases l with ⟨hk,hm⟩ | ⟨hk,c,hc,a⟩
 ·exact wpAny_Name (wpAny_loadName_local I.ok.kind hk hn hm fin) hd
 ·rcases hk with hk | hk
  ·exact wpAny_Name (wpAny_loadName_cell I.ok.kind hk hc a fin) hd
  ·exact wpAny_Name (wpAny_loadName_free I.ok.kind hk hc a fin d) hd
theorem au{i j pos}:PE X (.Constant (.int i) j pos) (tC (.int i)):=λ_ _ _ H _ I h=>wpAny_Constant_int ⟨.int i,H,I.tok _,⟨_,rfl⟩,h⟩
theorem oJ{b j pos}:PE X (.Constant (.bool b) j pos) (tC (.bl b)):=λ_ _ _ H _ I h=>Constant_bool ⟨.bl b,H,I,rfl,h⟩
theorem fu{j pos}:PE X (.Constant .none j pos) (tC .non):=λ_ _ _ H _ I h=>Constant_none ⟨.non,H,I,rfl,h⟩
theorem aU{x j pos}:PE X (.Constant (.str x) j pos) (tC (.str x)):=λ_ _ _ H _ I h=>Calls.Constant_str ⟨.str x,H,I.tok _,⟨_,rfl⟩,h⟩
def Gl(X:Cx)(x:Str):Prop:=X.env.kindOf x=some .globalImplicit
theorem gG{E:Ap}{pins:At}{s:AK}{σ:St}{H:Hp}{x:Str}{u:AJ}{a:Pos}{Q:Ap}(I:Inv X pins σ H s)(b:Gl X x)(hm:X.mg x=some u)(h:Q u s)
  (hd:(x == ("__debug__":Str))=false:=by decide):wpAny ς X.A (eval (.Name x a) X.env) Q E s:=
 Calls.Name_function_global I.ok.kind b (Calls.loadGlobal_global (by rw[I.ok.glob];exact I.mod.glob.keeps I.bk) hm h) hd
theorem Pk{E:Ap}{pins:At}{s:AK}{σ:St}{H:Hp}{x:Str}{u:AJ}{a:Pos}{Q:Ap}(I:Inv X pins σ H s)(b:Gl X x)(hm:X.mg x=none)(hv:bootBuiltins x=some u)(h:Q u s)
  (hn:x≠"__name__":=by decide) (hd:(x == ("__debug__":Str))=false:=by decide):wpAny ς X.A (eval (.Name x a) X.env) Q E s:=by
 obtain⟨c,h1,h2⟩:=I.mod.blt;exact Calls.Name_function_global I.ok.kind b (Calls.loadGlobal_builtin (by rw[I.ok.glob];exact I.mod.glob.keeps I.bk) hm (by rw[I.ok.blt];exact h1.keeps I.bk) ((h2 x hn).trans hv) h) hd
theorem Znc{x:Str}{v:V}{u:AJ}{a:Pos}(b:Gl X x)(hm:X.mg x=some u)(r:RelV v u)(hd:(x == ("__debug__":Str))=false:=by decide):PE X (.Name x a) (tC v):=
 λ_ _ _ H _ I h=>gG I b hm ⟨v,H,I,r,h⟩ hd
theorem o5{x:Str}{v:V}{u:AJ}{a:Pos}(b:Gl X x)(hm:X.mg x=none)(hv:bootBuiltins x=some u)(r:RelV v u)(hn:x≠"__name__":=by decide)(hd:(x == ("__debug__":Str))=false:=by decide):PE X (.Name x a) (tC v):=
 λ_ _ _ H _ I h=>Pk I b hm hv ⟨v,H,I,r,h⟩ hn hd
variable {a b:AN}{ta tb:TE}{pos:Pos}
def PC(X:Cx)(e:CmpOp)(a b:AN)(t:TE):Prop:=
 ∀(pins:At) (s:AK) (σ:St) (H:Hp) (Q:VK),Inv X pins σ H s->t σ H Q->
  wpAny ς X.A (eval a X.env) (λv d=>wpAny ς X.A (eval b X.env) (λu c=>wpAny ς X.A (compareOp e v u) (EP X pins σ Q) X.xe c) X.xe d) X.xe s
theorem Z4(b:AN){a:CmpOp}(h:a≠.In)(h2:a≠.NotIn):behindInMarks a b=false:=by
 have c:(a == CmpOp.In)=false:=by cases a<;>first | rfl | exact absurd rfl h
 have d:(a == CmpOp.NotIn)=false:=by cases a<;>first | rfl | exact absurd rfl h2
 cases b<;>first | rfl | (show(_ && (_ || _) && _)=false;rw[c,d];simp)
def tB(t:TE):TT:=λσ H Q=>t σ H λx a=>∃c,x=.bl c/\Q c a
theorem Zje{f:CmpOp}{t:TE}(h:PC X f a b t)(h1:behindInMarks f b=false:=by first | exact Z4 _ ε ε | rfl):PT X (.Compare a [f] [b] pos) (tB t):=by
 intro e s i H Q I g;refine wpAny_isTrue_Compare1 (gM (h e s i H _ I g) λv k h1=>gM h1 λu j h2=>gM h2 λc l qc=>?_) h1;obtain⟨x,H1,I1,r1,q1⟩:=qc;obtain⟨d,rfl,q⟩:=q1;cases r1;exact wpAny_truthy_bool ⟨H1,I1,q⟩
theorem gA{e:AN}{t:TE}(h:PE X e t)(g:∀a,isTrue e X.env a=(do let v <- a;standAt e.pos;holding [v] (truthy v)):=by intro _;rfl):PT X e (tB t):=by
 intro b s f H Q I c;refine isTrue_plain (gM (h b s f H _ I c) λv i qc=>?_) (g _);obtain⟨x,H1,I1,r1,q1⟩:=qc;obtain⟨d,rfl,q⟩:=q1;cases r1;exact wpAny_truthy_bool ⟨H1,I1,q⟩
variable {tA tB':TT}{rest:AG}
def WM(t u:TT):TT:=λσ H Q=>t σ H λc a=>if c=true then u σ a Q else Q false a
def Rm(t u:TT):TT:=λσ H Q=>t σ H λc a=>if c=true then Q true a else u σ a Q
def wZ(t:TT):TT:=λσ H Q=>t σ H λc a=>Q (!c) a
theorem uH(f:PT X a tA):PW X (.BoolOp .And [a] pos) tA:=by
 intro wh b s d H Q I h;refine isTrue_and (gM (f b s d H Q I h) λc g e=>?_);cases c with
 | true=>exact isTrue_and_nil e
 | false=>exact e
theorem lZ(f:PT X a tA):PW X (.BoolOp .Or [a] pos) tA:=by
 intro wh b s d H Q I h;refine isTrue_or (gM (f b s d H Q I h) λc g e=>?_);cases c with
 | false=>exact isTrue_or_nil e
 | true=>exact e
theorem Bt(g:PT X a tA)(hb:PW X (.BoolOp .And (b::rest) pos) tB'):PW X (.BoolOp .And (a::b::rest) pos) (WM tA tB'):=by
 intro wh d s f H Q I h;refine isTrue_and (gM (g d s f H _ I h) λc i qc=>?_);obtain⟨e,I1,q1⟩:=qc;cases c with
 | true=>exact hb wh d i f e Q I1 q1
 | false=>exact⟨e,I1,q1⟩
theorem kO(g:PT X a tA)(hb:PW X (.BoolOp .Or (b::rest) pos) tB'):PW X (.BoolOp .Or (a::b::rest) pos) (Rm tA tB'):=by
 intro wh d s f H Q I h;refine isTrue_or (gM (g d s f H _ I h) λc i qc=>?_);obtain⟨e,I1,q1⟩:=qc;cases c with
 | true=>exact⟨e,I1,q1⟩
 | false=>exact hb wh d i f e Q I1 q1
theorem kj(f:PT X a tA):PT X (.UnaryOp .Not a pos) (wZ tA):=by
 intro b s e H Q I h;exact isTrue_not (f b s e H (λc d=>Q (!c) d) I h)
def Uo(ta tb:TE):TE:=λσ H Q=>ta σ H λx a=>∃c,x=.bl c/\if c=true then tb σ a Q else Q (.bl false) a
def Zmt(ta tb:TE):TE:=λσ H Q=>ta σ H λx a=>∃c,x=.bl c/\if c=true then Q (.bl true) a else tb σ a Q
def Ze6(ta:TE):TE:=λσ H Q=>ta σ H λx a=>∃c,x=.bl c/\Q (.bl (!c)) a
theorem NP{op}{t:TE}(h:PE X a t):PE X (.BoolOp op [a] pos) t:=λpins s σ H Q I b=>BoolOp_one (h pins s σ H Q I b)
theorem Xe(i:PE X a ta)(hb:PE X (.BoolOp .And (b::rest) pos) tb):PE X (.BoolOp .And (a::b::rest) pos) (Uo ta tb):=by
 intro d s f H Q I h;refine BoolOp_and (gM (i d s f H _ I h) λv g qc=>?_);obtain⟨x,H1,I1,r1,e⟩:=qc;obtain⟨c,rfl,e⟩:=e;cases r1;refine wpAny_truthy_bool ?_;cases c with
 | true=>exact hb d g f H1 Q I1 e
 | false=>exact⟨.bl false,H1,I1,rfl,e⟩
theorem Zpc(i:PE X a ta)(hb:PE X (.BoolOp .Or (b::rest) pos) tb):PE X (.BoolOp .Or (a::b::rest) pos) (Zmt ta tb):=by
 intro d s f H Q I h;refine BoolOp_or (gM (i d s f H _ I h) λv g qc=>?_);obtain⟨x,H1,I1,r1,e⟩:=qc;obtain⟨c,rfl,e⟩:=e;cases r1;refine wpAny_truthy_bool ?_;cases c with
 | false=>exact hb d g f H1 Q I1 e
 | true=>exact⟨.bl true,H1,I1,rfl,e⟩
theorem Zjj(f:PE X a ta):PE X (.UnaryOp .Not a pos) (Ze6 ta):=by
 intro b s e H Q I h;refine UnaryOp_ (gM (f b s e H _ I h) λv g qc=>?_);obtain⟨x,H1,I1,r1,d⟩:=qc;obtain⟨c,rfl,d⟩:=d;cases r1;exact not_of (wpAny_truthy_bool ⟨.bl (!c),H1,I1,rfl,d⟩)
end
def cJ(K:aD)(H:Hp)(a:AI)(xs:List V):Prop:=
 Rd H a (.lst xs)\/
  ∃(o:Obj) (b:Array AJ) (n:Nat),K.lookup a=some o/\o.cls=.type "list"/\o.dict=none/\o.data=.seq b n/\b.size<=sizeLine/\Vals xs b.toList
def fj(K:aD)(H:Hp)(a:AI)(xs:List V):Prop:=
 Rd H a (.tup xs)\/
  ∃(o:Obj) (b:Array AJ) (n:Nat),K.lookup a=some o/\o.cls=.type "tuple"/\o.data=.seq b n/\b.size<=sizeLine/\Vals xs b.toList
def Zyr:AJ->Option V
 | .none=>some .non
 | .bool b=>some (.bl b)
 | .int i _=>some (.int i)
 | .str x _=>some (.str x)
 | .bytes b _=>some (.byt b)
 | .float b _=>some (.flt b)
 | .ref a=>↑a
 | .type n=>some (.ty n)
 | _=>none
theorem RelV.abs{x:V}{u:AJ}(r:RelV x u):Zyr u=some x:=by
 cases x with
 | non=>cases r;rfl
 | bl _=>cases r;rfl
 | int _=>obtain⟨t,rfl⟩:=r;rfl
 | str _=>obtain⟨t,rfl⟩:=r;rfl
 | byt _=>obtain⟨t,rfl⟩:=r;rfl
 | flt _=>obtain⟨t,rfl⟩:=r;rfl
 | ref _=>cases r;rfl
 | ty _=>cases r;rfl
theorem RelV.inj{x y:V}{u:AJ}(r:RelV x u)(q:RelV y u):x=y:=Option.some.inj (r.abs.symm.trans q.abs)
theorem Vals.inj{xs a:List V}{us:AC}(h:Vals xs us):Vals a us->xs=a:=by
 induction h generalizing a with
 | nil=>
  intro g;cases g;rfl
 | cons r t ih=>
  intro g;cases g with
  | cons c b=>rw[r.inj c,ih b]
section
variable {X:Cx}{pins:At}{σ:St}{H:Hp}{s:AK}{a:AI}{xs ys:List V}
theorem cJ.of{K:aD}(h:H a=some (.lst xs)):cJ K H a xs:=.inl (.inl h)
theorem fj.of{K:aD}(h:H a=some (.tup xs)):fj K H a xs:=.inl (.inl h)
theorem Inv.list(I:Inv X pins σ H s)(h:cJ X.K H a xs):∃b:AC,Vals xs b/\PlainL s.heap a b.toArray/\xs.length<=sizeLine:=by
 rcases h with h | ⟨o,b,n,hk,hc,hd,hs,hz,r⟩
 ·obtain⟨z,b,n,r,e⟩:=h.ok I.hok;exact⟨b,r,⟨_,n,e,rfl,rfl,rfl⟩,z⟩
 ·refine⟨b.toList,r,⟨o,n,I.qt a o hk,hc,hd,by simpa using hs⟩,?_⟩;have e:=r.length;simp only[Array.length_toList]at e;omega
theorem Inv.tuple(I:Inv X pins σ H s)(h:fj X.K H a xs):∃b:AC,Vals xs b/\IsTup s.heap a b.toArray/\xs.length<=sizeLine:=by
 rcases h with h | ⟨o,b,n,hk,hc,hs,hz,r⟩
 ·obtain⟨z,b,r,p⟩:=h.ok I.hok;exact⟨b,r,p,z⟩
 ·refine⟨b.toList,r,⟨o,I.qt a o hk,hc,n,by simpa using hs⟩,?_⟩;have e:=r.length;simp only[Array.length_toList]at e;omega
theorem Inv.Za3(I:Inv X pins σ H s)(h:cJ X.K H a xs)(h':cJ X.K H a ys):xs=ys:=by
 obtain⟨c,r,⟨o,n,e,_,_,d⟩,_⟩:=I.list h;obtain⟨b,i,⟨k,j,g,_,_,f⟩,_⟩:=I.list h';rw[e]at g;cases g;rw[d]at f
 injection f with d1 _
 have:c=b:=by simpa using congrArg Array.toList d1
 subst this;exact r.inj i
end
abbrev Cx.wish(X:Cx)(E:Ap):Cx:={ X with xe:=E }
abbrev Cx.nox(X:Cx):Cx:=X.wish λ_ _=>False
theorem Cx.Ok.wish{X:Cx}(ok:X.Ok)(E:Ap):(X.wish E).Ok:=
 ⟨ok.mod,ok.kind,ok.glob,ok.blt,ok.above,ok.inj,ok.has,ok.cab,ok.hd,ok.frames,ok.stk,ok.exf,ok.bs,ok.bsz,ok.Z2,ok.Zdc,ok.ug,ok.frf⟩
theorem Cx.Ok.wY{X:Cx}{E:Ap}(ok:(X.wish E).Ok):X.Ok:=
 ⟨ok.mod,ok.kind,ok.glob,ok.blt,ok.above,ok.inj,ok.has,ok.cab,ok.hd,ok.frames,ok.stk,ok.exf,ok.bs,ok.bsz,ok.Z2,ok.Zdc,ok.ug,ok.frf⟩
section
variable {X:Cx}{pins:At}{σ:St}{H:Hp}{s:AK}{E:Ap}
theorem Inv.wish(I:Inv X pins σ H s)(E:Ap):Inv (X.wish E) pins σ H s:=⟨I.ok.wish E,I.os,I.bare,I.base,I.loc,I.cell,I.free,I.p7,I.pin,I.hok,I.len⟩
theorem Inv.wY(I:Inv (X.wish E) pins σ H s):Inv X pins σ H s:=⟨I.ok.wY,I.os,I.bare,I.base,I.loc,I.cell,I.free,I.p7,I.pin,I.hok,I.len⟩
theorem SP.wY{D:Ends}{f:Flow}{s':AK}(h:SP (X.wish E) pins D f s'):SP X pins D f s':=by
 cases f with
 | next=>obtain⟨a,b,I,q⟩:=h;exact⟨a,b,I.wY,q⟩
 | brk=>obtain⟨a,b,I,q⟩:=h;exact⟨a,b,I.wY,q⟩
 | cont=>obtain⟨a,b,I,q⟩:=h;exact⟨a,b,I.wY,q⟩
 | ret u=>obtain⟨v,a,b,I,r,q⟩:=h;exact⟨v,a,b,I.wY,r,q⟩
theorem Ri.nox{st:List Stmt}{t:TS}(h:Ri X.nox st t):Ri X st t:=λpins s σ H D I a=>
 wpAny_mono (h pins s σ H D (I.wish _) a) (λ_ _ q=>q.wY) λ_ _ z=>False.elim z
end
section
variable {X:Cx}{st:Stmt}{rest:List Stmt}{t u:TS}{e:AN}{te:TE}{pos:Pos}
def cC:TS:=λD σ H=>D.nx σ H
def aP(t u:TS):TS:=λD σ H=>t { D with nx:=u D } σ H
theorem aZ:Ri X [] cC:=λ_ _ σ H _ I h=>wpAny_execs_nil ⟨σ,H,I,h⟩
theorem aq(h1:PS X st t)(h2:Ri X rest u):Ri X (st::rest) (aP t u):=by
 intro a s g H D I h;refine wpAny_execs_cons (gM (h1 a s g H { D with nx:=u D } I h) λf e q=>?_);cases f with
 | next=>
  obtain⟨b,d,c,q⟩:=q;exact h2 a e b d D c q
 | ret v=>exact q
 | brk=>exact q
 | cont=>exact q
theorem aB(h1:PS X st t):Ri X [st] t:=by
 intro a s b H D I h;refine wpAny_execs_cons (gM (h1 a s b H D I h) λf c q=>?_);cases f with
 | next=>exact wpAny_execs_nil q
 | ret v=>exact q
 | brk=>exact q
 | cont=>exact q
def Zbo:TS:=λD σ H=>D.bk σ H
def Zih:TS:=λD σ H=>D.ct σ H
theorem Zjg:PS X (.Break pos) Zbo:=λ_ _ σ H _ I h=>wpAny_Break ⟨σ,H,I,h⟩
theorem ZD:PS X (.Continue pos) Zih:=λ_ _ σ H _ I h=>wpAny_Continue ⟨σ,H,I,h⟩
theorem Inv.quiet{pins:At}{σ:St}{H:Hp}{s:AK}(I:Inv X pins σ H s):interactive X.env=false:=by simp[interactive,I.ok.kind]
def vG(te:TE):TS:=λD σ H=>te σ H λ_ a=>D.nx σ a
theorem mL(c:PE X e te)(hs:swapsWith e none pos.line X.env=pure false:=by rfl):PS X (.Expr e pos) (vG te):=by
 intro a s b H D I h;exact wpAny_Expr_any (gM (c a s b H _ I h) (by rintro v d ⟨x,H1,I1,r1,q1⟩;exact⟨b,H1,I1,q1⟩)) I.quiet hs
def bB(te:TE):TS:=λD σ H=>te σ H D.rt
theorem aL(c:PE X e te):PS X (.Return (some e) pos) (bB te):=by
 intro a s b H D I h;exact wpAny_Return_some (gM (c a s b H _ I h) (by rintro v d ⟨x,H1,I1,r1,q1⟩;exact⟨x,b,H1,I1,r1,q1⟩))
def dF(c:TT)(t u:TS):TS:=λD σ H=>c σ H λb a=>if b=true then t D σ a else u D σ a
theorem cM{c:AN}{a b:List Stmt}{tc:TT}(hc:PT X c tc)(j:Ri X a t)(hb:Ri X b u):PS X (.If c a b pos) (dF tc t u):=by
 intro e s f H D I h;refine wpAny_If (gM (hc e s f H _ I h) λd g qc=>?_);obtain⟨i,I1,q1⟩:=qc;cases d with
 | true=>exact j e g f i D I1 q1
 | false=>exact hb e g f i D I1 q1
end
abbrev TG:=V->St->Hp->(μ)->Prop
abbrev TGs:=List V->St->Hp->(μ)->Prop
def PG(X:Cx)(a:AN)(t:TG):Prop:=
 ∀(pins:At) (s:AK) (σ:St) (H:Hp) (v:V) (u:AJ) (Q:μ),Inv X pins σ H s->RelV v u->t v σ H Q->
  wpAny ς X.A (assign a X.env u) (λ_ s'=>∃ b H',Inv X pins b H' s'/\Q b H') X.xe s
def PGs(X:Cx)(ts:AG)(t:TGs):Prop:=
 ∀(pins:At) (s:AK) (σ:St) (H:Hp) (vs:List V) (us:AC) (Q:μ),Inv X pins σ H s->Vals vs us->t vs σ H Q->
  wpAny ς X.A (assignInOrder ((assignEach ts X.env).map (·.2)) us) (λ_ s'=>∃ a H',Inv X pins a H' s'/\Q a H') X.xe s
abbrev Zoy:=V->V->V->Hp->(Hp->Prop)->Prop
def Zv1(X:Cx)(t:Zoy):Prop:=
 ∀(pins:At) (s:AK) (σ:St) (H:Hp) (o i v:V) (a iv u:AJ) (Q:Hp->Prop),Inv X pins σ H s->RelV o a->RelV i iv->RelV v u->t o i v H Q->
  wpAny ς X.A (setItem a iv u) (λ_ s'=>∃H',Inv X pins σ H' s'/\Q H') X.xe s
abbrev TIp:=V->V->Hp->VK->Prop
def PIp(X:Cx)(a:Operator)(t:TIp):Prop:=
 ∀(pins:At) (s:AK) (σ:St) (H:Hp) (x y:V) (v u:AJ) (Q:VK),Inv X pins σ H s->RelV x v->RelV y u->t x y H Q->
  wpAny ς X.A (inplaceOp a v u) (EP X pins σ Q) X.xe s
section
variable {X:Cx}{pos:Pos}
def aN(i:Nat):TG:=λv σ H Q=>Q (σ.set i (some v)) H
theorem fH{i:Nat}{x:Str}(c:X.N.Nodup)(hi:X.N[i]? =some x)(hx:Loc X.env.scope x)(d:X.fn x=true\/X.env.scope.names.lookup x=some .local:=by first | exact .inl rfl | exact .inr rfl | assumption):PG X (.Name x pos) (aN i):=by
 intro a s e H v u Q I r h;exact wpAny_assign_Name (Cw I c hi hx r (λf b=>⟨_,H,b,h⟩) d)
def Zd9:TGs:=λvs σ H Q=>vs=[]/\Q σ H
def uf(t:TG)(u:TGs):TGs:=λvs σ H Q=>∃v r,vs=v::r/\t v σ H λa H'=>u r a H' Q
theorem zf:PGs X [] Zd9:=by
 intro a s b H c us Q I r h;obtain⟨e,h⟩:=h;subst e;cases r;exact assignInOrder_nil ⟨b,H,I,h⟩
theorem jo{e:AN}{b:AG}{t:TG}{u:TGs}(h1:PG X e t)(h2:PGs X b u)
  (hs:(assignEach (e::b) X.env).map (·.2)=assign e X.env::(assignEach b X.env).map (·.2):=by rfl):PGs X (e::b) (uf t u):=by
 intro a s g H j us Q I r h;obtain⟨v,k,i,h⟩:=h;subst i;cases r with
 | cons r d=>
  rw[hs];refine assignInOrder_cons (gM (h1 a s g H _ _ _ I r h) λ_ f qc=>?_);obtain⟨c,H1,I1,q1⟩:=qc;exact h2 a f c H1 _ _ Q I1 d q1
def Zd8(K:aD)(n:Nat)(t:TGs):TG:=λv σ H Q=>∃a xs,v=.ref a/\fj K H a xs/\xs.length=n/\t xs σ H Q
theorem Ho{d:AG}{k:Nat}{t:TGs}{n:Nat}(hc:X.calm=true)(h:PGs X d t)
  (hn:(assignEach d X.env).length=n:=by rfl) (g:(assignEach d X.env).findIdx? (·.1)=none:=by rfl):PG X (.Tuple d k pos) (Zd8 X.K n t):=by
 intro c s i H v u Q I r f;obtain⟨a,q,w,hq,hl,f⟩:=f;subst w;cases r;obtain⟨p,j,m,hz⟩:=I.tuple hq;refine assign_Tuple_tuple (I.ok.hd hc) m (by simp[hn,<- hl,j.length]) g λx hx=>?_;have l:Inv X c i H { s with heap:=x }:=I.kept (t':=s.toks) λb o e=>hx b o (Nat.ne_of_lt (Heap.lt_size e)) e;exact h c _ i H q _ Q l (by simpa using j) f
def Ql(to d:TE)(t:Zoy):TG:=λv σ H Q=>to σ H λo a=>d σ a λi b=>t o i v b λc=>Q σ c
theorem uJ{o i:AN}{to d:TE}{t:Zoy}(j:PE X o to)(hi:PE X i d)(hs:Zv1 X t)
  (k:∀v,assign (.Subscript o i pos) X.env v=(do
   let b <- holding [v] (eval o X.env)
   let iv <- holding [v,b] (eval i X.env)
   standAt pos
   holding [v,b,iv] (setItem b iv v)
   release [v,b,iv] []):=by intro _;rfl):PG X (.Subscript o i pos) (Ql to d t):=by
 intro a s c H v u Q I r h;rw[k];refine wpAny_bind (wpAny_holding (gM (j a s c H _ I h) λb g qc=>?_));obtain⟨x,H1,I1,r1,q1⟩:=qc;refine wpAny_bind (wpAny_holding (gM (hi a g c H1 _ I1 q1) λiv e qc=>?_));obtain⟨y,H2,I2,r2,q2⟩:=qc;refine wpAny_bind (wpAny_standAt (wpAny_bind (wpAny_holding (gM (hs a e c H2 x y v b iv u _ I2 r1 r2 r q2) λ_ l qc=>?_))));obtain⟨f,I3,q3⟩:=qc;exact wpAny_release ⟨c,f,I3,q3⟩
def bz(b:TE)(g:TG):TS:=λD σ H=>b σ H λx a=>g x σ a D.nx
theorem uI{tg e:AN}{c:TE}{g:TG}(j:PE X e c)(i:PG X tg g)(hs:swapsWithSole [tg] e pos.line X.env=pure false:=by rfl)(f:swappedStores [tg] e X.env=pure none:=by rfl)
  (h1:(assignEach [tg] X.env).map (·.2)=[assign tg X.env]:=by rfl):PS X (.Assign [tg] e pos) (bz c g):=by
 intro a s b H D I h;refine wpAny_Assign_stores (gM (j a s b H _ I h) λv d qc=>?_) hs f;obtain⟨x,H1,I1,r1,q1⟩:=qc;rw[h1];exact gM (i a d b H1 x v _ I1 r1 q1) λ_ k q=>q
theorem Zc7{i:Nat}{x:Str}{e:AN}{c:TE}{a:Pos}(g:X.N.Nodup)(hi:X.N[i]? =some x)(hx:Loc X.env.scope x)(f:PE X e c)(hs:swapsWith e (some (.Name x a)) pos.line X.env=pure false:=by rfl)(k:X.fn x=true\/X.env.scope.names.lookup x=some .local:=by first | exact .inl rfl | exact .inr rfl | assumption):
  PS X (.Assign [.Name x a] e pos) (bz c (aN i)):=by
 intro b s d H D I h;refine wpAny_Assign_Name (gM (f b s d H _ I h) λv m qc=>?_) hs;obtain⟨y,H1,I1,r1,q1⟩:=qc;exact Cw I1 g hi hx r1 (λl j=>⟨_,H1,j,q1⟩) k
def Zq5(i:Nat)(b:TE)(d:TIp):TS:=λD σ H=>∃x,σ[i]? =some (some x)/\b σ H λy a=>d x y a λz c=>D.nx (σ.set i (some z)) c
theorem Zqj{i:Nat}{x:Str}{e:AN}{p:TE}{n:Operator}{q:TIp}{f:Pos}(C:X.N.Nodup)(hi:X.N[i]? =some x)(hx:Loc X.env.scope x)(B:PE X e p)(F:PIp X n q)(K:X.fn x=true\/X.env.scope.names.lookup x=some .local:=by first | exact .inl rfl | exact .inr rfl | assumption):
  PS X (.AugAssign (.Name x f) n e pos) (Zq5 i p q):=by
 intro a s o H D I h;obtain⟨v,E,h⟩:=h;obtain⟨m,hn,hl⟩:=I.loc;have j:Vis X.env.scope x:=by rcases hx with k | k;exact .inl k;exact .inr (.inl k)
 obtain⟨u,r,l⟩:=hl i x v hi E j;refine wpAny_AugAssign_Name ?_;have go:wpAny ς X.A (eval e X.env) (λw d=>wpAny ς X.A (inplaceOp n u w) (λr g=>wpAny ς X.A (storeName X.env x r) (λ_=>SP X a D .next) X.xe g) X.xe d) X.xe s:=by
  refine gM (B a s o H _ I h) λw t qc=>?_;obtain⟨y,H1,I1,r1,q1⟩:=qc;refine gM (F a t o H1 v y u w _ I1 r r1 q1) λz L qc=>?_;obtain⟨O,H2,I2,r2,q2⟩:=qc;exact Cw I2 C hi hx r2 (λM J=>⟨_,H2,J,q2⟩) K
 rcases l with ⟨hk,hm⟩ | ⟨hk,c,hc,b⟩
 ·exact wpAny_loadName_local I.ok.kind hk hn hm go
 ·rcases hk with hk | hk
  ·exact wpAny_loadName_cell I.ok.kind hk hc b go
  ·rcases hx with k | k
   ·have:X.env.scope.names.lookup x=some .free:=hk;rw[k]at this;cases this
   ·have:X.env.scope.names.lookup x=some .free:=hk;rw[k]at this;cases this
def ipI(f:Int->Int->Int):TIp:=λx y H Q=>∃i j,x=.int i/\y=.int j/\Q (.int (f i j)) H
theorem Zre:PIp X .Add (ipI λi j=>i+j):=by
 intro a s e H x y v u Q I r1 r2 h;obtain⟨i,j,c,b,q⟩:=h;subst c;subst b;obtain⟨t,rfl⟩:=r1;obtain⟨d,rfl⟩:=r2;exact iadd_int ⟨.int _,H,I.tok _,⟨_,rfl⟩,q⟩
end
section
variable {X:Cx}{pos:Pos}
def Zbi(c:TT)(tb:TS):TS:=λD σ H=>∃W:Nat->μ,(∃m,W m σ H)/\∀m σ H,W m σ H->
 c σ H λb d=>if b=true then ∃N:μ,(∀ a H',N a H'->∃e,e<m/\W e a H')/\tb { D with nx:=N,ct:=N,bk:=D.nx } σ d else D.nx σ d
theorem Zz{c:AN}{g:List Stmt}{tc:TT}{tb:TS}(hp:PassesOwn ς X.A X.env X.xe)(hc:PT X c tc)(hb:Ri X g tb):PS X (.While c g [] pos) (Zbi tc tb):=by
 intro d s B H D I h;obtain⟨W,⟨E,w0⟩,turn⟩:=h;refine wpAny_While (codeAny_whileLoop (λn y=>∃ j p,Inv X d j p y/\W n j p) ?_ E ⟨B,H,I,w0⟩);rintro n z ⟨e,t,x,C⟩;refine wpAny_passesOwn hp (gM (hc d z e t _ x (turn n e t C)) λb u qc=>?_);obtain⟨q,I2,k⟩:=qc;cases b with
 | true=>
  obtain⟨N,r,k⟩:=k;rw[if_pos rfl];refine wpAny_passesOwn hp (gM (hb d u e q _ I2 k) λf F l=>?_);cases f with
  | next=>
   obtain⟨a,i,o,n3⟩:=l;obtain⟨m,hm,w3⟩:=r a i n3;exact⟨m,hm,a,i,o,w3⟩
  | cont=>
   obtain⟨a,i,o,n3⟩:=l;obtain⟨m,hm,w3⟩:=r a i n3;exact⟨m,hm,a,i,o,w3⟩
  | brk=>exact l
  | ret v=>exact l
 | false=>
  rw[if_neg Bool.false_ne_true];exact wpAny_execs_nil ⟨e,q,I2,k⟩
end
structure It where
 go:Nat->Hp->Prop
 yld:Nat->Hp->V->Hp->Prop
 stop:Nat->Hp->Prop
def pA(X:Cx)(pins:At)(H:Hp)(b:AI):Prop:=
 H b=none/\b≠X.env.locals/\b∉X.fs/\(b∈X.ex\/X.s₀.heap.objs.size<=b)/\(∀x c,X.env.cells.lookup x=some c->c≠b)/\∀p∈X.pn++pins,p.1≠b
theorem Inv.Zdb{X:Cx}{pins:At}{σ:St}{H H':Hp}{s:AK}{b:AI}(I:Inv X pins σ H s)(hb:s.heap.objs.size<=b)(hn:H' b=none):pA X pins H' b:=by
 refine⟨hn,Nat.ne_of_gt (Nat.lt_of_lt_of_le I.lt hb),I.Zvk hb,.inr (Nat.le_trans I.sz hb),λx c e z=>?_,λp hp z=>?_⟩
 ·obtain⟨v,q⟩:=I.cell x c e;exact absurd (Nat.lt_of_lt_of_le q.lt (by rw[z];exact hb)) (Nat.lt_irrefl _)
 ·exact absurd (Nat.lt_of_lt_of_le (Heap.lt_size (I.pin p hp).1) (by rw[z];exact hb)) (Nat.lt_irrefl _)
structure Turn(P:AM)(w:AO)(K:aD)(tg:AN)(J:It)(fp:AF)(it:AI)(tn:Nat->Heap->Prop):Prop where
  mem:it∈fp
  obj:∀i h,tn i h->∀b∈fp,∃o,h.get? b=some o/\∀v,o.data≠.cell v
  keep:∀i h h',tn i h->(∀b∈fp,∀o,h.get? b=some o->h'.get? b=some o)->tn i h'
  item:∀(X:Cx),X.prog=P->X.w=w->X.K=K->X.calm=true->∀(i:Nat) (pins:At) (s:AK) (σ:St) (H:Hp) (E:Ap),Inv X pins σ H s->(∀b∈fp,pA X pins H b)->tn i s.heap->J.go i H->
    wpAny (model P w) X.A (pyNext (.ref it)) (λr s1=>∃u,r=some u/\
      wpAny (model P w) X.A (letOwnedTupleGo tg (.ref it) u) (λ_ s2=>∃x H',Inv X pins σ H' s2/\RelV x u/\J.yld i H x H'/\tn (i+1) s2.heap/\∀b∈fp,H' b=none) E s1) E s
  done:∀(X:Cx),X.prog=P->X.w=w->X.K=K->X.calm=true->∀(i:Nat) (pins:At) (s:AK) (σ:St) (H:Hp) (E:Ap),Inv X pins σ H s->(∀b∈fp,pA X pins H b)->tn i s.heap->J.stop i H->
    wpAny (model P w) X.A (pyNext (.ref it)) (λr s1=>r=none/\Inv X pins σ H s1) E s
  self:∀(A:Around) (i:Nat) (s:AK) (Q:Ap) (E:Ap),tn i s.heap->Q (.ref it) s->wpAny (model P w) A (pyIter (.ref it)) Q E s
abbrev TI:=St->Hp->(It->Hp->Prop)->Prop
def PIE(X:Cx)(pins:At)(σ:St)(tg:AN)(R:It->Hp->Prop)(a:AJ)(c:AK):Prop:=
 ∃(d:AI) (e:AF) (tn:Nat->Heap->Prop) (J:It) (H':Hp),a=.ref d/\Inv X pins σ H' c/\Turn X.prog X.w X.K tg J e d tn/\tn 0 c.heap/\(∀b∈e,pA X pins H' b)/\R J H'
def PI(X:Cx)(tg iter:AN)(a:TI):Prop:=
 ∀(pins:At) (s:AK) (σ:St) (H:Hp) (R:It->Hp->Prop),Inv X pins σ H s->a σ H R->
  wpAny ς X.A (eval iter X.env) (λv b=>wpAny ς X.A (pyIter v) (PIE X pins σ tg R) X.xe b) X.xe s
theorem Zli{M:Model}{A:Around}{E:Ap}{s:AK}{tg:AN}{b:AI}{u:AJ}{o:Obj}{n:String}{vs:Array AJ}{Q:Unit->AK->Prop}(c:s.heap.get? b=some o)(hc:o.cls=.type n)(hd:o.data=.fields vs)
    (hn:["enumerate","zip","dict_itemiterator","dict_reverseitemiterator","odict_iterator","itertools.zip_longest","itertools.pairwise"].contains n=false) (a:Q () s):wpAny M A (letOwnedTupleGo tg (.ref b) u) Q E s:=by
  unfold letOwnedTupleGo;cases tg<;>first
    | exact wpAny_pure a
    | (cases u<;>first
        | exact wpAny_pure a
        | (refine wpAny_bind (wpAny_load c ?_)
           rw[hc,hd];show wpAny M A (if (["enumerate","zip","dict_itemiterator","dict_reverseitemiterator","odict_iterator","itertools.zip_longest","itertools.pairwise"].contains n && vs[0]? == some (rawInt _))=true then _ else _) Q E s;rw[if_neg (by intro h;rw[hn,Bool.false_and]at h;cases h)];exact wpAny_pure a))
def Itl(K:aD)(a:AI):It:=
 ⟨λi H=>∃xs x,cJ K H a xs/\xs[i]? =some x,λi H x H'=>H'=H/\∀xs,cJ K H a xs->xs[i]? =some x,λi H=>∃xs,cJ K H a xs/\xs.length<=i⟩
def Itr(lo:Int)(n:Nat):It:=⟨λi _=>i<n,λi H x H'=>H'=H/\x=.int (lo+i),λi _=>n<=i⟩
theorem Zg7{P:AM}{w:AO}{K:aD}{tg:AN}(a g:AI):Turn P w K tg (Itl K a) [g] g (λi h=>h.IsListIter g a i) where
  mem:=ζ
  obj:=λi h st b hb=>by
    have e:b=g:=by simpa using hb
    subst e;obtain⟨o,e,c,d⟩:=st;exact⟨o,e,λv z=>by rw[d]at z;cases z⟩
  keep:=λi h m st k=>st.at λo e=>k g ζ o e
  item:=by
    intro X C n A hc i f s L H E I l st y;subst C n A;obtain⟨O,x,hq,hx⟩:=y;obtain⟨q,D,p,hz⟩:=I.list hq;obtain⟨u,hu,R⟩:=D.get hx;obtain⟨t,r,N,B,J,F⟩:=l g ζ;refine wpAny_pyNext_list_item st p.isList (x:=u) (by simpa using hu) λm j sb=>?_;have M:Inv X f L H { s with heap:=m }:=I.turned (t':=s.toks) (λb o hb e=>(sb.2 b hb).trans e) t r B J F;obtain⟨o,e,c,d⟩:=id j;exact⟨u,rfl,Zli (s:={ s with heap:=m }) e c d ε ⟨x,H,M,R,⟨rfl,λS hy=>by rw[I.Za3 hy hq];exact hx⟩,j,λb hb=>(l b hb).1⟩⟩
  done:=by
    intro X C n A hc i f s L H E I l st y;subst C n A;obtain⟨O,hq,hx⟩:=y;obtain⟨q,D,p,hz⟩:=I.list hq;obtain⟨t,r,N,B,J,F⟩:=l g ζ;have hl:=D.length;exact wpAny_pyNext_list_end (I.ok.hd hc) st p.isList (by simp;omega) λm Q=>⟨rfl,I.turned (t':=s.toks) (λb o hb e=>Q b o hb e) t r B J F⟩
  self:=λ_ _ _ _ _ st h=>wpAny_pyIter_listiter st h
theorem Zbg{P:AM}{w:AO}{K:aD}{tg:AN}(a:AI)(lo:Int)(n:Nat):Turn P w K tg (Itr lo n) [a] a (λi h=>IsRangeIter h a (lo+(i:Nat) * 1) ((n:Int) - (i:Nat)) 1) where
  mem:=ζ
  obj:=λi h st b hb=>by
    have e:b=a:=by simpa using hb
    subst e;exact⟨_,st,λv z=>by
      have D:Data.fields _=Data.cell v:=z;cases D⟩
  keep:=λi h g st k=>k a ζ _ st
  item:=by
    intro X u j q hc i c s A H E I f st p;subst u j q;obtain⟨m,l,C,r,y,x⟩:=f a ζ;have W:=Walks.range (prog:=X.prog) (w:=X.w) (I.ok.hd hc) a lo 1 n;refine W.item i s _ _ p st λv g tk hv d kk=>?_;obtain⟨t,rfl⟩:=hv;have B:Inv X c A H { s with heap:=g,toks:=tk }:=I.turned (λb o hb e=>kk b o (by simpa using hb) e) m l r y x;refine⟨_,rfl,Zli (s:={ s with heap:=g,toks:=tk }) (n:="range_iterator") d rfl rfl ε ⟨.int (lo+i),H,B,⟨t,?_⟩,⟨rfl,rfl⟩,d,λb hb=>(f b hb).1⟩⟩;rw[Int.mul_one]
  done:=by
    intro X u j q hc i c s A H E I f st p;subst u j q;obtain⟨m,l,C,r,y,x⟩:=f a ζ;exact wpAny_pyNext_range_end (I.ok.hd hc) st (by have:n<=i:=p;omega) λg F=>⟨rfl,I.turned (t':=s.toks) (λb o hb e=>F b o hb e) m l r y x⟩
  self:=λ_ _ _ _ _ st h=>wpAny_pyIter_rangeiter st h
section
variable {X:Cx}{tg:AN}
def wI(K:aD)(tl:TE):TI:=λσ H R=>tl σ H λx b=>∃a,x=.ref a/\(∃xs,cJ K b a xs)/\R (Itl K a) b
theorem mO{l:AN}{tl:TE}(hl:PE X l tl):PI X tg l (wI X.K tl):=by
 intro c s g H R I h;refine gM (hl c s g H _ I h) λv d qc=>?_;obtain⟨x,H1,I1,r1,q1⟩:=qc;obtain⟨a,e,⟨i,hq⟩,q⟩:=q1;subst e;cases r1;obtain⟨f,j,p,hz⟩:=I1.list hq;refine wpAny_pyIter_list p.isList ?_;refine⟨d.heap.objs.size,[d.heap.objs.size],_,_,H1,rfl,I1.kept (t':=d.toks) λb o e=>Heap.get?_push_of_some _ e,Zg7 a _,⟨_,Heap.get?_push_size _ rfl,rfl,rfl⟩,λb hb=>?_,q⟩;have e:b=d.heap.objs.size:=by simpa using hb
 subst e;exact I1.Zdb Δ (I1.hok.fresh Δ)
theorem Zj7{pins:At}{σ:St}{H:Hp}{s:AK}{R:It->Hp->Prop}{E:Ap}{lo hi:Int}{t u v:Tok}{tk:Nat}(I:Inv X pins σ H s)(h1:-(2 ^ 62)<=lo)(h2:lo<2 ^ 62)(d:-(2 ^ 62)<=hi)(h4:hi<2 ^ 62)
  (q:R (Itr lo (hi - lo).toNat) H):wpAny ς X.A (pyIter (.ref s.heap.objs.size)) (PIE X pins σ tg R) E { s with heap:=s.heap.push { cls:=.type "range",data:=.fields #[.int lo t,.int hi u,.int 1 v] },toks:=tk }:=by
 refine wpAny_pyIter_range (IsRange.new ..) (small_one h1 h2 d h4) ?_;have a:Inv X pins σ H { s with heap:=s.heap.push { cls:=.type "range",data:=.fields #[.int lo t,.int hi u,.int 1 v] },toks:=tk }:=I.kept λb o e=>Heap.get?_push_of_some _ e;refine⟨(s.heap.push { cls:=.type "range",data:=.fields #[.int lo t,.int hi u,.int 1 v] }).objs.size,[(s.heap.push { cls:=.type "range",data:=.fields #[.int lo t,.int hi u,.int 1 v] }).objs.size],_,_,H,rfl,
  a.kept (t':=tk) λb o e=>Heap.get?_push_of_some _ e,Zbg _ lo (hi - lo).toNat,?_,λb hb=>?_,q⟩
 ·have f:lo+((0:Nat):Int) * 1=lo:=ζ
  have c:(((hi - lo).toNat:Nat):Int) - ((0:Nat):Int)=Builtin.Range.rangeSize lo hi 1:=by rw[rangeSize_one];split<;>omega
  show IsRangeIter _ _ (lo+((0:Nat):Int) * 1) ((((hi - lo).toNat:Nat):Int) - ((0:Nat):Int)) 1;rw[f,c];exact Heap.get?_push_size _ rfl
 ·have e:b=(s.heap.push { cls:=.type "range",data:=.fields #[.int lo t,.int hi u,.int 1 v] }).objs.size:=by simpa using hb
  subst e;exact a.Zdb Δ (a.hok.fresh Δ)
def J0(b:TA):TI:=λσ H R=>b σ H λvs a=>∃j:Int,vs=[.int j]/\-(2 ^ 62)<=j/\j<2 ^ 62/\R (Itr 0 j.toNat) a
theorem pB{a:AN}{f:TA}{p b:Pos}(k:Gl X "range")(hm:X.mg "range"=none)(m:PA X [a] f)(hs:starEach [a] X.env=[(false,eval a X.env)]:=by rfl):PI X tg (.Call (.Name "range" p) [a] [] b) (J0 f):=by
 intro c s i H R I h;refine Call_ (Pk I k hm boot_range (PyProof.Rows.callWith_type1 (gM (m b c s i H _ I h) λus n qc=>?_) hs rfl));obtain⟨o,H1,I1,r1,d⟩:=qc;obtain⟨j,e,d,l,q⟩:=d;subst e;cases r1 with
 | cons r g=>
  cases g;obtain⟨t,rfl⟩:=r;exact call_range_1 (Zj7 I1 δ δ d l (by simpa using q))
def Bq(f:TI)(g:TG)(tb:TS):TS:=λD σ H=>f σ H λJ e=>∃W:Nat->Nat->μ,(∃m,W 0 m σ e)/\∀i m σ H,W i m σ H->
 (J.stop i H/\D.nx σ H)\/(J.go i H/\∃N:μ,(∀ a H',N a H'->∃c,c<m/\W (i+1) c a H')/\∀x H',J.yld i H x H'->g x σ H' λb d=>tb { D with nx:=N,ct:=N,bk:=D.nx } b d)
def Bu(a:AF)(h:Heap):At:=a.filterMap λb=>(h.get? b).map λo=>(b,o)
theorem pR{a:AF}{h:Heap}{b:AI}{o:Obj}(hb:b∈a)(e:h.get? b=some o):(b,o)∈Bu a h:=List.mem_filterMap.mpr ⟨b,hb,by rw[e];rfl⟩
theorem Vm{a:AF}{h:Heap}{p:AI×Obj}(hp:p∈Bu a h):p.1∈a/\h.get? p.1=some p.2:=by
 obtain⟨b,hb,e⟩:=List.mem_filterMap.mp hp;cases q:h.get? b with
 | none=>rw[q]at e;cases e
 | some o=>
  rw[q]at e;have c:(b,o)=p:=Option.some.inj e;subst c;exact⟨hb,q⟩
theorem Inv.pinned{pins:At}{σ:St}{H:Hp}{s:AK}{a:AF}(I:Inv X pins σ H s)(j:∀b∈a,pA X pins H b)(i:∀b∈a,∃o,s.heap.get? b=some o/\∀v,o.data≠.cell v):Inv X (pins++Bu a s.heap) σ H s:=
 I.zc λp hp=>(List.mem_append.mp hp).elim (λz=>I.pin p (List.mem_append_right _ z)) λz=>by
  obtain⟨hb,e⟩:=Vm z;obtain⟨g,f,h,_⟩:=j p.1 hb;obtain⟨o,c,d⟩:=i p.1 hb;rw[e]at c;cases c;exact⟨e,g,f,h,d⟩
theorem Inv.Cu{pins pl:At}{σ:St}{H:Hp}{s:AK}(I:Inv X (pins++pl) σ H s):Inv X pins σ H s:=I.zc λp hp=>I.pin p (List.mem_append_right _ (List.mem_append_left _ hp))
theorem mj{iter:AN}{z:List Stmt}{Y:TI}{g:TG}{tb:TS}{L:Pos}(hp:PassesOwn ς X.A X.env X.xe)(hc:X.calm=true)(hi:PI X tg iter Y)(hg:PG X tg g)(hb:Ri X z tb)
  (hs:∀x,foldedSetIterable iter X.env x=pure x:=by intro _;rfl):PS X (.For tg iter z [] L) (Bq Y g tb):=by
 intro c s Q H D I h;refine wpAny_For (gM (hi c s Q H _ I h) λv s1 h1=>gM h1 λitv s2 h2=>?_) hs;obtain⟨it,C,tn,J,H2,e,I2,T,M,R,W,⟨m0,w0⟩,turn⟩:=h2;subst e;have j:∀{t:Hp},(∀b∈C,t b=none)->∀b∈C,pA X c t b:=λhn b hb=>⟨hn b hb,(R b hb).2⟩;refine codeAny_forLoop_any (λn V=>∃i p t,Inv X c p t V/\tn i V.heap/\(∀b∈C,t b=none)/\W i n p t) ?_ m0 ⟨0,Q,H2,I2,M,λb hb=>(R b hb).1,w0⟩;rintro n Z ⟨i,q,F,S,E,B,w3⟩;rcases turn i n q F w3 with ⟨stop,qn⟩ | ⟨go,N,hN,step⟩
 ·refine wpAny_passesOwn hp (gM (T.done X rfl rfl rfl hc i c Z q F X.xe S (j B) E stop) λr s4 qc=>?_);obtain⟨hr,I4⟩:=qc;subst hr;exact wpAny_execs_nil ⟨q,F,I4,qn⟩
 ·refine wpAny_passesOwn hp (gM (T.item X rfl rfl rfl hc i c Z q F X.xe S (j B) E go) λr s4 qc=>?_);obtain⟨u,hr,h4⟩:=qc;subst hr;refine wpAny_passesOwn hp (gM h4 λ_ U qc=>?_);obtain⟨x,H5,I5,r5,y5,st5,fr5⟩:=qc;have P:=I5.pinned (j fr5) (T.obj _ _ st5);refine wpAny_passesOwn hp (gM (hg _ U q H5 x u _ P r5 (step x H5 y5)) λ_ s6 qc=>?_);obtain⟨O,H6,I6,q6⟩:=qc;refine wpAny_passesOwn hp (gM (hb _ s6 O H6 _ I6 q6) λf K y=>?_);have again:∀{a:St}{l:Hp},Inv X (c++Bu C U.heap) a l K->N a l->∃m,m<n/\∃i p t,Inv X c p t K/\tn i K.heap/\(∀b∈C,t b=none)/\W i m p t:=λ{a l} k n7=>by
   obtain⟨m',hm,w7⟩:=hN a l n7;refine⟨m',hm,i+1,a,l,k.Cu,T.keep _ _ _ st5 λb hb o e=>(k.pin (b,o) (List.mem_append_right _ (List.mem_append_right _ (pR hb e)))).1,λb hb=>?_,w7⟩;obtain⟨o,e,d⟩:=T.obj _ _ st5 b hb;exact(k.pin (b,o) (List.mem_append_right _ (List.mem_append_right _ (pR hb e)))).2.1
  cases f with
  | next=>obtain⟨a,l,k,n7⟩:=y;exact again k n7
  | cont=>obtain⟨a,l,k,n7⟩:=y;exact again k n7
  | brk=>obtain⟨a,l,k,y⟩:=y;exact⟨a,l,k.Cu,y⟩
  | ret v=>obtain⟨x7,a,l,k,r7,y⟩:=y;exact⟨x7,a,l,k.Cu,r7,y⟩
end
theorem Zlp{K:aD}{a:AI}{xs:List V}{g:TG}{tb:TS}{D:Ends}{σ:St}{H:Hp}(Pv:Nat->μ)(j:Pv 0 σ H)(hl:∀i σ H,i<=xs.length->Pv i σ H->cJ K H a xs)
  (hs:∀i x σ H,xs[i]? =some x->Pv i σ H->g x σ H λb f=>tb { D with nx:=Pv (i+1),ct:=Pv (i+1),bk:=D.nx } b f) (hd:∀ σ H,Pv xs.length σ H->D.nx σ H):
  ∃W:Nat->Nat->μ,(∃m,W 0 m σ H)/\∀i m σ H,W i m σ H->
   ((Itl K a).stop i H/\D.nx σ H)\/((Itl K a).go i H/\∃N:μ,(∀ c H',N c H'->∃h,h<m/\W (i+1) h c H')/\∀x H',(Itl K a).yld i H x H'->g x σ H' λb f=>tb { D with nx:=N,ct:=N,bk:=D.nx } b f):=by
 refine⟨λi m σ H=>m=xs.length - i/\i<=xs.length/\Pv i σ H,⟨xs.length,ζ,Nat.zero_le _,j⟩,?_⟩;rintro i m σ H ⟨rfl,hi,p⟩;have q:=hl i σ H hi p
 by_cases d:i<xs.length
 ·refine .inr ⟨⟨xs,xs[i],q,by simp[d]⟩,Pv (i+1),λc H' k=>⟨xs.length - (i+1),δ,rfl,d,k⟩,λx H' y=>?_⟩;obtain⟨e,y⟩:=y;subst e;exact hs i x σ _ (y xs q) p
 ·have e:i=xs.length:=δ
  subst e;exact .inl ⟨⟨xs,q,Nat.le_refl _⟩,hd σ H p⟩
theorem Zho{lo:Int}{n:Nat}{g:TG}{tb:TS}{D:Ends}{σ:St}{H:Hp}(Pv:Nat->μ)(h:Pv 0 σ H)
  (hs:∀i σ H,i<n->Pv i σ H->g (.int (lo+i)) σ H λa d=>tb { D with nx:=Pv (i+1),ct:=Pv (i+1),bk:=D.nx } a d) (hd:∀ σ H,Pv n σ H->D.nx σ H):
  ∃W:Nat->Nat->μ,(∃m,W 0 m σ H)/\∀i m σ H,W i m σ H->
   ((Itr lo n).stop i H/\D.nx σ H)\/((Itr lo n).go i H/\∃N:μ,(∀ c H',N c H'->∃f,f<m/\W (i+1) f c H')/\∀x H',(Itr lo n).yld i H x H'->g x σ H' λa d=>tb { D with nx:=N,ct:=N,bk:=D.nx } a d):=by
 refine⟨λi m σ H=>m=n - i/\i<=n/\Pv i σ H,⟨n,ζ,Nat.zero_le _,h⟩,?_⟩;rintro i m σ H ⟨rfl,hi,p⟩
 by_cases b:i<n
 ·refine .inr ⟨b,Pv (i+1),λc H' j=>⟨n - (i+1),δ,rfl,b,j⟩,λx H' y=>?_⟩;obtain⟨e,y⟩:=y;subst e y;exact hs i σ _ b p
 ·have e:i=n:=δ
  subst e;exact .inl ⟨Nat.le_refl _,hd σ H p⟩
abbrev R2:=V->V->Hp->VK->Prop
def wQ(X:Cx)(f:AJ->AJ->Sem AJ)(r:R2):Prop:=
 ∀(pins:At) (s:AK) (σ:St) (H:Hp) (x y:V) (v u:AJ) (Q:VK),Inv X pins σ H s->RelV x v->RelV y u->r x y H Q->
  wpAny ς X.A (f v u) (EP X pins σ Q) X.xe s
def UnR(X:Cx)(f:AJ->Sem AJ)(r:V->Hp->VK->Prop):Prop:=
 ∀(pins:At) (s:AK) (σ:St) (H:Hp) (x:V) (v:AJ) (Q:VK),Inv X pins σ H s->RelV x v->r x H Q->
  wpAny ς X.A (f v) (EP X pins σ Q) X.xe s
def Kv(X:Cx)(f:AJ)(r:List V->Hp->VK->Prop):Prop:=
 ∀(pins:At) (s:AK) (σ:St) (H:Hp) (xs:List V) (us:AC) (Q:VK),Inv X pins σ H s->Vals xs us->r xs H Q->
  wpAny ς X.A (call f us) (EP X pins σ Q) X.xe s
def Zys(X:Cx)(r:V->Hp->(Bool->Hp->Prop)->Prop):Prop:=
 ∀(pins:At) (s:AK) (σ:St) (H:Hp) (x:V) (v:AJ) (Q:Bool->Hp->Prop),Inv X pins σ H s->RelV x v->r x H Q->
  wpAny ς X.A (truthy v) (TP X pins σ Q) X.xe s
def aV(r:R2)(c tb:TE):TE:=λσ H Q=>c σ H λx a=>tb σ a λy b=>r x y b Q
def tUn(r:V->Hp->VK->Prop)(b:TE):TE:=λσ H Q=>b σ H λx a=>r x a Q
def rI(C:Int->Int->Prop)(g:Int->Int->V):R2:=λx y H Q=>∃i j,x=.int i/\y=.int j/\C i j/\Q (g i j) H
def iH(g:Int->Int->V):R2:=λx y H Q=>∃i j,x=.int i/\y=.int j/\Q (g i j) H
def rU(g:Int->V):V->Hp->VK->Prop:=λx H Q=>∃i,x=.int i/\Q (g i) H
section
variable {X:Cx}{a b c:AN}{ta tb tc:TE}{pos:Pos}
theorem Zsn(k:PE X a ta)(hb:PE X b tb){pins:At}{s:AK}{σ:St}{H:Hp}{R:V->V->Hp->Prop}(I:Inv X pins σ H s)
  (h:ta σ H λx i=>tb σ i λy c=>R x y c) {Q:Ap}{f:AJ->AJ->Sem AJ}
  (l:∀v u g x y c,Inv X pins σ c g->RelV x v->RelV y u->R x y c->wpAny ς X.A (f v u) Q X.xe g):
  wpAny ς X.A (eval a X.env) (λv e=>wpAny ς X.A (eval b X.env) (λu d=>wpAny ς X.A (f v u) Q X.xe d) X.xe e) X.xe s:=by
 refine gM (k pins s σ H _ I h) λv j qc=>?_;obtain⟨x,i,I1,r1,q1⟩:=qc;refine gM (hb pins j σ i _ I1 q1) λu g qc=>?_;obtain⟨y,c,I2,r2,q2⟩:=qc;exact l v u g x y c I2 r1 r2 q2
theorem aK{d:Operator}{r:R2}(l:wQ X (binaryOp d) r)(m:PE X a ta)(hb:PE X b tb):PE X (.BinOp a d b pos) (aV r ta tb):=by
 intro c s j H Q I h;exact wpAny_BinOp (Zsn m hb I h λv u f x y i k e g q=>l c f j i x y v u Q k e g q)
theorem Zpb{c:UnaryOp}{r:V->Hp->VK->Prop}(e:UnR X (unaryOp c) r)(g:PE X a ta):PE X (.UnaryOp c a pos) (tUn r ta):=by
 intro b s d H Q I h;exact UnaryOp_ (gM (g b s d H _ I h) (by rintro v f ⟨x,H1,I1,r1,q1⟩;exact e b f d H1 x v Q I1 r1 q1))
theorem opI{f:AJ->AJ->Sem AJ}{C:Int->Int->Prop}{g:Int->Int->Int}
  (rule:∀(i j:Int) (t u:Tok) (s:AK) (Q:Ap) (E:Ap),C i j->Q (.int (g i j) s.toks) { s with toks:=s.toks+1 }->wpAny ς X.A (f (.int i t) (.int j u)) Q E s):
  wQ X f (rI C λi j=>.int (g i j)):=by
 intro a s e H x y v u Q I b c h;obtain⟨i,j,rfl,rfl,hc,q⟩:=h;obtain⟨t,rfl⟩:=b;obtain⟨d,rfl⟩:=c;exact rule i j t d s _ _ hc ⟨.int (g i j),H,I.tok _,⟨_,rfl⟩,q⟩
theorem Znj{f:AJ->AJ->Sem AJ}{g:Int->Int->Int}
  (rule:∀(i j:Int) (t u:Tok) (s:AK) (Q:Ap) (E:Ap),Q (.int (g i j) s.toks) { s with toks:=s.toks+1 }->wpAny ς X.A (f (.int i t) (.int j u)) Q E s):
  wQ X f (iH λi j=>.int (g i j)):=by
 intro a s e H x y v u Q I b c h;obtain⟨i,j,rfl,rfl,q⟩:=h;obtain⟨t,rfl⟩:=b;obtain⟨d,rfl⟩:=c;exact rule i j t d s _ _ ⟨.int (g i j),H,I.tok _,⟨_,rfl⟩,q⟩
theorem Znk{f:AJ->AJ->Sem AJ}{g:Int->Int->Bool}
  (rule:∀(i j:Int) (t u:Tok) (s:AK) (Q:Ap) (E:Ap),Q (.bool (g i j)) s->wpAny ς X.A (f (.int i t) (.int j u)) Q E s):
  wQ X f (iH λi j=>.bl (g i j)):=by
 intro a s e H x y v u Q I b c h;obtain⟨i,j,rfl,rfl,q⟩:=h;obtain⟨t,rfl⟩:=b;obtain⟨d,rfl⟩:=c;exact rule i j t d s _ _ ⟨.bl (g i j),H,I,rfl,q⟩
def jO(i j:Int):Prop:=0<j/\j<1073741824
def Ln(i j:Int):Prop:=0<=j/\j<=1000000/\i.natAbs<2 ^ 64
def qy(i j:Int):Prop:=(-(2 ^ 64)<i/\i<2 ^ 64)\/(-(2 ^ 64)<j/\j<2 ^ 64)
theorem qy.ok{i j:Int}(h:qy i j):IntMulOk i j:=by
 rcases h with ⟨h1,h2⟩ | ⟨h1,h2⟩
 ·exact .of_left (intBits_le_64 h1 h2)
 ·exact .of_right (intBits_le_64 h1 h2)
theorem Zbf(k:Nat):(0:Int)<=2 ^ k:=by
 rw[two_pow_cast];exact Int.natCast_nonneg _
theorem di:wQ X (binaryOp .Add) ω:=Znj λ_ _ _ _ _ _ _ q=>add_int q
theorem pP:wQ X (binaryOp .Sub) (iH λi j=>.int (i - j)):=Znj λ_ _ _ _ _ _ _ q=>sub_int q
theorem jB:wQ X (binaryOp .Mult) ag:=opI λ_ _ _ _ _ _ _ hc q=>mul_int q hc.ok
theorem cT:wQ X (binaryOp .FloorDiv) τ:=opI λi j _ _ _ _ _ hc q=>by
 have h1:(0:Int)<j:=hc.1;have h2:j<1073741824:=hc.2;exact floordiv_int δ (by rw[Int.fdiv_eq_ediv_of_nonneg i δ];exact q) (.inl (PyProof.noPylong_small δ))
theorem cg:wQ X (binaryOp .Mod) ξ:=opI λi j _ _ _ _ _ hc q=>by
 have h1:(0:Int)<j:=hc;exact mod_int' δ (by rw[Int.fmod_eq_emod_of_nonneg i δ];exact q)
theorem Bv:wQ X (binaryOp .Pow) (rI Ln λi j=>.int (i ^ j.toNat)):=opI λ_ _ _ _ _ _ _ hc q=>pow_int_small hc.1 hc.2.1 hc.2.2 q
theorem Zjw:wQ X (binaryOp .LShift) (rI Ln λi j=>.int (i * 2 ^ j.toNat)):=opI λ_ _ _ _ _ _ _ hc q=>lshift_int_small hc.1 hc.2.1 hc.2.2 q
theorem Zcb:wQ X (binaryOp .RShift) (rI (λ_ j=>0<=j) λi j=>.int (i / 2 ^ j.toNat)):=opI λi j _ _ _ _ _ hc q=>
 rshift_int hc (by rw[Int.fdiv_eq_ediv_of_nonneg i (Zbf _)];exact q)
theorem Bw:wQ X (binaryOp .BitAnd) aE:=Znj λ_ _ _ _ _ _ _ q=>and_int q
theorem Zt9:wQ X (binaryOp .BitOr) (iH λi j=>.int (Builtin.bitOr i j)):=Znj λ_ _ _ _ _ _ _ q=>or_int q
theorem unI{f:AJ->Sem AJ}{g:Int->Int}
  (rule:∀(i:Int) (t:Tok) (s:AK) (Q:Ap) (E:Ap),Q (.int (g i) s.toks) { s with toks:=s.toks+1 }->wpAny ς X.A (f (.int i t)) Q E s):
  UnR X f (rU λi=>.int (g i)):=by
 intro a s c H x v Q I b h;obtain⟨i,rfl,q⟩:=h;obtain⟨t,rfl⟩:=b;exact rule i t s _ _ ⟨.int (g i),H,I.tok _,⟨_,rfl⟩,q⟩
theorem Zi8:UnR X (unaryOp .USub) (rU λi=>.int (-i)):=unI λ_ _ _ _ _ q=>neg_int q
end
def Zqa:V->V->Bool
 | .non,.non=>true | .non,.int _=>true | .int _,.non=>true | .non,.bl _=>true | .bl _,.non=>true | .non,.str _=>true | .str _,.non=>true
 | .int _,.int _=>true | .bl _,.bl _=>true | .str _,.str _=>true | .byt _,.byt _=>true
 | .int _,.str _=>true | .str _,.int _=>true | .bl _,.str _=>true | .str _,.bl _=>true
 | _,_=>false
def zx:R2:=λx y H Q=>Zqa x y=true/\Q (.bl (decide (x=y))) H
def Y6:R2:=λx y H Q=>Zqa x y=true/\Q (.bl (!decide (x=y))) H
theorem Zfi{i j:Int}:decide (V.int i=V.int j)=(i == j):=by
 rw[Bool.eq_iff_iff];simp
theorem Zm6{i j:Bool}:decide (V.bl i=V.bl j)=(i == j):=by
 rw[Bool.eq_iff_iff];simp
theorem Zfh{i j:Str}:decide (V.str i=V.str j)=(i == j):=by
 rw[Bool.eq_iff_iff];simp
theorem Zfj{i j:Array UInt8}:decide (V.byt i=V.byt j)=(i.toList == j.toList):=by
 rw[Bool.eq_iff_iff];cases i;cases j;simp
section
variable {X:Cx}{a b c:AN}{ta tb tc:TE}{pos:Pos}
theorem dN{pins:At}{σ:St}{H:Hp}{s:AK}{Q:VK}{k a:Bool}(I:Inv X pins σ H s)(q:Q (.bl k) H)(e:k=a):EP X pins σ Q (.bool a) s:=by
 subst e;exact⟨.bl k,H,I,rfl,q⟩
theorem ie:wQ X (compareOp .Eq) zx:=by
 intro d s e H x y v u Q I c a h;obtain⟨hs,q⟩:=h;cases x with
 | non=>
  cases c;cases y with
  | non=>cases a;exact PySem.EqNone.eq_none_none (dN I q ζ)
  | bl j=>cases a;exact PySem.EqNone.eq_none_bool (dN I q ζ)
  | int j=>obtain⟨b,rfl⟩:=a;exact PySem.EqNone.eq_none_int (dN I q ζ)
  | str j=>obtain⟨b,rfl⟩:=a;exact PySem.EqNone.eq_none_str (dN I q ζ)
  | _=>exact absurd (show false=true from hs) Bool.false_ne_true
 | bl i=>
  cases c;cases y with
  | non=>cases a;exact PySem.EqNone.eq_bool_none (dN I q ζ)
  | bl j=>cases a;exact eq_bool (dN I q Zm6)
  | str j=>obtain⟨b,rfl⟩:=a;exact PySem.EqMixed.eq_bool_str (dN I q ζ)
  | _=>exact absurd (show false=true from hs) Bool.false_ne_true
 | int i=>
  obtain⟨t,rfl⟩:=c;cases y with
  | non=>cases a;exact PySem.EqNone.eq_int_none (dN I q ζ)
  | int j=>obtain⟨b,rfl⟩:=a;exact eq_int (dN I q Zfi)
  | str j=>obtain⟨b,rfl⟩:=a;exact PySem.EqMixed.eq_int_str (dN I q ζ)
  | _=>exact absurd (show false=true from hs) Bool.false_ne_true
 | str i=>
  obtain⟨t,rfl⟩:=c;cases y with
  | non=>cases a;exact PySem.EqNone.eq_str_none (dN I q ζ)
  | bl j=>cases a;exact PySem.EqMixed.eq_str_bool (dN I q ζ)
  | int j=>obtain⟨b,rfl⟩:=a;exact PySem.EqMixed.eq_str_int (dN I q ζ)
  | str j=>obtain⟨b,rfl⟩:=a;exact eq_str (dN I q Zfh)
  | _=>exact absurd (show false=true from hs) Bool.false_ne_true
 | byt i=>
  obtain⟨t,rfl⟩:=c;cases y with
  | byt j=>obtain⟨b,rfl⟩:=a;exact W.eq_bytes (dN I q Zfj)
  | _=>exact absurd (show false=true from hs) Bool.false_ne_true
 | _=>cases y<;>exact absurd (show false=true from hs) Bool.false_ne_true
theorem wj:wQ X (compareOp .NotEq) Y6:=by
 intro d s e H x y v u Q I c a h;obtain⟨hs,q⟩:=h;cases x with
 | non=>
  cases c;cases y with
  | non=>cases a;exact PySem.EqNone.ne_none_none (dN I q ζ)
  | bl j=>cases a;exact PySem.EqNone.ne_none_bool (dN I q ζ)
  | int j=>obtain⟨b,rfl⟩:=a;exact PySem.EqNone.ne_none_int (dN I q ζ)
  | str j=>obtain⟨b,rfl⟩:=a;exact PySem.EqNone.ne_none_str (dN I q ζ)
  | _=>exact absurd (show false=true from hs) Bool.false_ne_true
 | bl i=>
  cases c;cases y with
  | non=>cases a;exact PySem.EqNone.ne_bool_none (dN I q ζ)
  | bl j=>cases a;exact ne_bool (dN I q (congrArg not Zm6))
  | str j=>obtain⟨b,rfl⟩:=a;exact PySem.EqMixed.ne_bool_str (dN I q ζ)
  | _=>exact absurd (show false=true from hs) Bool.false_ne_true
 | int i=>
  obtain⟨t,rfl⟩:=c;cases y with
  | non=>cases a;exact PySem.EqNone.ne_int_none (dN I q ζ)
  | int j=>obtain⟨b,rfl⟩:=a;exact ne_int (dN I q (congrArg not Zfi))
  | str j=>obtain⟨b,rfl⟩:=a;exact PySem.EqMixed.ne_int_str (dN I q ζ)
  | _=>exact absurd (show false=true from hs) Bool.false_ne_true
 | str i=>
  obtain⟨t,rfl⟩:=c;cases y with
  | non=>cases a;exact PySem.EqNone.ne_str_none (dN I q ζ)
  | bl j=>cases a;exact PySem.EqMixed.ne_str_bool (dN I q ζ)
  | int j=>obtain⟨b,rfl⟩:=a;exact PySem.EqMixed.ne_str_int (dN I q ζ)
  | str j=>obtain⟨b,rfl⟩:=a;exact ne_str (dN I q (congrArg not Zfh))
  | _=>exact absurd (show false=true from hs) Bool.false_ne_true
 | byt i=>
  obtain⟨t,rfl⟩:=c;cases y with
  | byt j=>obtain⟨b,rfl⟩:=a;exact W.ne_bytes (dN I q (congrArg not Zfj))
  | _=>exact absurd (show false=true from hs) Bool.false_ne_true
 | _=>cases y<;>exact absurd (show false=true from hs) Bool.false_ne_true
theorem ye:wQ X (compareOp .Lt) aS:=Znk λ_ _ _ _ _ _ _ q=>lt_int q
theorem Zta:wQ X (compareOp .LtE) (iH λi j=>.bl (decide (i<=j))):=Znk λ_ _ _ _ _ _ _ q=>le_int q
theorem ZP:wQ X (compareOp .Gt) (iH λi j=>.bl (decide (j<i))):=Znk λ_ _ _ _ _ _ _ q=>gt_int q
theorem Ztb:wQ X (compareOp .GtE) (iH λi j=>.bl (decide (j<=i))):=Znk λ_ _ _ _ _ _ _ q=>ge_int q
theorem Zqm:wQ X (compareOp .Is) (λx y H Q=>y=.non/\Q (.bl (decide (x=.non))) H):=by
 intro b s d H x y v u Q I a c h;obtain⟨rfl,q⟩:=h;cases c;refine is_none_gen (dN I q ?_);cases x<;>first
  | (cases a;rfl)
  | (obtain⟨t,rfl⟩:=a;rfl)
theorem Znh:wQ X (compareOp .IsNot) (λx y H Q=>y=.non/\Q (.bl (!decide (x=.non))) H):=by
 intro b s d H x y v u Q I a c h;obtain⟨rfl,q⟩:=h;cases c;refine isnot_none_gen (dN I q ?_);cases x<;>first
  | (cases a;rfl)
  | (obtain⟨t,rfl⟩:=a;rfl)
def isObj:HO->Bool
 | .lst _=>true
 | .ins _ _ _=>true
 | _=>false
theorem Hs{pins:At}{s:AK}{σ:St}{H:Hp}{a:AI}{o:HO}(I:Inv X pins σ H s)(h:H a=some o)(p:isObj o=true):∃ob,s.heap.get? a=some ob/\ob.cls≠.type "tuple":=by
 cases o with
 | lst c=>
  obtain⟨_,b,n,_,e⟩:c.length<=sizeLine/\∃(b:AC) (n:Nat),Vals c b/\s.heap.get? a=some { cls:=.type "list",data:=.seq b.toArray n }:=I.hok a _ h;exact⟨_,e,(by show Value.type "list"≠.type "tuple";decide +kernel)⟩
 | ins C d fs=>
  have x:=I.hok a _ h;obtain⟨_,_,_,e,_⟩:=x;exact⟨_,e,(by show Value.ref C≠.type "tuple";exact λz=>by cases z)⟩
 | _=>exact absurd (show false=true from p) Bool.false_ne_true
theorem ym(b:AN){a:CmpOp}(h:a≠.In:=by decide)(h2:a≠.NotIn:=by decide):behindInMarks a b=false:=Z4 b h h2
theorem oZ{d:CmpOp}{r:R2}(l:wQ X (compareOp d) r)(m:PE X a ta)(hb:PE X b tb)(hm:behindInMarks d b=false):PE X (.Compare a [d] [b] pos) (aV r ta tb):=by
 intro c s j H Q I h;exact wpAny_Compare1 (Zsn m hb I h λv u f x y i k e g q=>l c f j i x y v u Q k e g q) hm
def bT(t:TE):TT:=λσ H Q=>t σ H λx H'=>∃k,x=.bl k/\Q k H'
theorem Zn6{g:CmpOp}{r:R2}(l:wQ X (compareOp g) r)(m:PE X a ta)(hb:PE X b tb)(hm:behindInMarks g b=false):PT X (.Compare a [g] [b] pos) (bT (aV r ta tb)):=by
 intro d s f H Q I h;refine wpAny_isTrue_Compare1 (gM (m d s f H _ I h) λv j ⟨x,H1,I1,r1,q1⟩=>gM (hb d j f H1 _ I1 q1) λu i ⟨y,H2,I2,r2,q2⟩=>
  gM (l d i f H2 x y v u _ I2 r1 r2 q2) λc n ⟨z,H3,I3,r3,k,e,q3⟩=>?_) hm
 subst e;cases r3;exact wpAny_truthy_bool ⟨H3,I3,q3⟩
def Zbm(r d:R2)(ta tb tc:TE):TE:=λσ H Q=>ta σ H λx b=>tb σ b λy c=>r x y c λz a=>∃k,z=.bl k/\
 (if k=true then tc σ a λe f=>d y e f Q else Q (.bl false) a)
theorem Zjn{l g:CmpOp}{r m:R2}(w:wQ X (compareOp l) r)(j:wQ X (compareOp g) m)(A:PE X a ta)(hb:PE X b tb)(hc:PE X c tc)
  (hm:lastMarks [l,g] [b,c]=false:=by with_unfolding_all rfl):PE X (.Compare a [l,g] [b,c] pos) (Zbm r m ta tb tc):=by
 intro f s i H Q I h;refine Compare_chain (gM (A f s i H _ I h) λv o ⟨x,H1,I1,r1,q1⟩=>chain_link (gM (hb f o i H1 _ I1 q1) λu n ⟨y,H2,I2,r2,q2⟩=>
  gM (w f n i H2 x y v u _ I2 r1 r2 q2) λd q ⟨z,H3,I3,r3,k,e,q3⟩=>?_)) hm
 subst e;cases r3;refine wpAny_truthy_bool ?_;cases k with
 | false=>exact ite_ff ⟨.bl false,H3,I3,rfl,q3⟩
 | true=>exact ite_tt (chain_last (gM (hc f q i H3 _ I3 q3) (by rintro B p ⟨t,H4,I4,r4,q4⟩;exact j f p i H4 y t u B Q I4 r2 r4 q4)))
def Zmd(K:aD)(x:V)(H:Hp)(k:Bool):Prop:=
 match x with
 | .non=>k=false
 | .bl b=>k=b
 | .int i=>k=(i != 0)
 | .str y=>y.length<=sizeLine/\k=((y.length:Int) != 0)
 | .byt y=>y.size<=sizeLine/\k=((y.size:Int) != 0)
 | .ref p=>(∃xs,cJ K H p xs/\k=!xs.isEmpty)\/(∃xs,fj K H p xs/\k=!xs.isEmpty)\/∃a,H p=some (.dK a)/\k=!a.isEmpty
 | _=>False
theorem Zcz{b:Type}{a:List (b×V)}{vs:List (b×AJ)}(r:KV a vs):(!vs.isEmpty)=!a.isEmpty:=by
 cases r<;>rfl
theorem P0{xs:List V}{a:AC}(r:Vals xs a):(!a.toArray.isEmpty)=!xs.isEmpty:=by
 cases r<;>simp
theorem HB:(sizeLine:Nat)<2 ^ 63:=by rw[sizeLine_eq];decide
theorem Zq1:Zys X (λx H Q=>∃k,Zmd X.K x H k/\Q k H):=by
 intro o s z H x v Q I g h;obtain⟨k,e,q⟩:=h;have hl:=HB;have hs:sizeLine=16777216:=sizeLine_eq;cases x with
 | non=>
  cases g;have a:k=false:=e;subst a;exact truthy_none ⟨H,I,q⟩
 | bl b=>
  cases g;have a:k=b:=e;subst a;exact wpAny_truthy_bool ⟨H,I,q⟩
 | int i=>
  obtain⟨t,rfl⟩:=g;have a:k=(i != 0):=e;subst a;exact PySem.P.truthy_int ⟨H,I,q⟩
 | str y=>
  obtain⟨t,rfl⟩:=g;obtain⟨hy,a⟩:y.length<=sizeLine/\k=((y.length:Int) != 0):=e;subst a;exact PySem.P.truthy_str δ ⟨H,I.tok _,q⟩
 | byt y=>
  obtain⟨t,rfl⟩:=g;obtain⟨hy,a⟩:y.size<=sizeLine/\k=((y.size:Int) != 0):=e;subst a;exact W.truthy_bytes δ ⟨H,I.tok _,q⟩
 | ref p=>
  cases g;have a:(∃f,cJ X.K H p f/\k=!f.isEmpty)\/(∃f,fj X.K H p f/\k=!f.isEmpty)\/∃c,H p=some (.dK c)/\k=!c.isEmpty:=e;rcases a with ⟨f,hx,a⟩ | ⟨f,hx,a⟩ | ⟨c,hx,a⟩
  ·subst a;obtain⟨n,r,l,hz⟩:=I.list hx;have d:=r.length;exact wpAny_truthy_list l.isList (by simp only[List.size_toArray];omega) ⟨H,I.tok _,by rw[P0 r];exact q⟩
  ·subst a;obtain⟨n,r,l,hz⟩:=I.tuple hx;have d:=r.length;exact truthy_tuple l (by simp only[List.size_toArray];omega) ⟨H,I.tok _,by rw[P0 r];exact q⟩
  ·subst a;obtain⟨hz,u,j,r,m⟩:c.length<=sizeLine/\(p == sysModules)=false/\∃j,KV c j/\s.heap.DictOf (dH X.prog X.w) p j:=I.hok p _ hx;have d:c.length=j.length:=Paired.length r;exact wpAny_truthy_dict u m δ ⟨H,I.tok _,by rw[Zcz r];exact q⟩
 | _=>exact(show False from e).elim
theorem Zy(e:PE X a ta)(f:∀b,isTrue a X.env b=(do let v <- b;standAt a.pos;holding [v] (truthy v))):
  PT X a (λσ H Q=>ta σ H λx H'=>∃k,Zmd X.K x H' k/\Q k H'):=by
 intro c s σ H Q I h;exact isTrue_plain (gM (e c s σ H _ I h) (by rintro v d ⟨x,H1,I1,r1,q1⟩;exact Zq1 c d σ H1 x v Q I1 r1 q1)) (f _)
theorem mq:wQ X (binaryOp .Add) (λx y H Q=>∃i j,x=.str i/\y=.str j/\i.length+j.length<=sizeLine/\Q (.str (i++j)) H):=by
 intro a s e H x y v u Q I b c h;obtain⟨i,j,rfl,rfl,hz,q⟩:=h;obtain⟨t,rfl⟩:=b;obtain⟨d,rfl⟩:=c;exact add_str (λd tk=>⟨.str (i++j),H,I.tok _,⟨_,rfl⟩,q⟩) hz
theorem vals1{x:V}{us:AC}(r:Vals [x] us):∃u,us=[u]/\RelV x u:=by
 cases r with
 | cons r1 r2=>cases r2;exact⟨_,rfl,r1⟩
theorem vals2{x y:V}{us:AC}(r:Vals [x,y] us):∃u a,us=[u,a]/\RelV x u/\RelV y a:=by
 cases r with
 | cons r1 r2=>
  cases r2 with
  | cons c b=>cases b;exact⟨_,_,rfl,r1,c⟩
end
structure Ze1(h:Heap)(x dx C:AI)(mA:As):Prop where
 obj:h.get? x=some (W.instObj C dx)
 ns:h.Ns1 dx mA
 ne:dx≠x
theorem Zh1{h:Heap}{dx:AI}{c:As}(n:h.Ns1 dx c):∃od,h.get? dx=some od/\∀name,W.lookIn name od=some (c name):=by
 obtain⟨o,d,i,f,hd,hk,_,hm⟩:=n;refine⟨o,f,λname=>?_⟩;have e:=hm name;unfold nsFind findBy at e;rw[<- Array.find?_toList]at e;unfold W.lookIn;rw[hd];dsimp only;split
 ·rename_i y q
  rw[q]at e;exact congrArg some e
 ·rename_i q
  rw[q]at e;have a:d.toList.any (·.refKey)=false:=by
   rw[List.any_eq_false];intro y hy;obtain⟨z,t,b⟩:=hk y (Array.mem_toList_iff.mp hy);simp[DictEntry.refKey,b]
  have g:¬ d.toList.any (·.refKey)=true:=by rw[a];exact Bool.false_ne_true
  rw[if_neg g];exact congrArg some e
theorem Ze1.look{h:Heap}{x dx C:AI}{a:As}(I:Ze1 h x dx C a):∃od,W.InstAt h x (W.instObj C dx) C (some od)/\∀name,W.lookIn name od=some (a name):=
 let ⟨od,ho,hl⟩:=Zh1 I.ns
 ⟨od,⟨I.obj,rfl,rfl,ho⟩,hl⟩
section
variable {prog:AM}{w:AO}{A:Around}{E:Ap}{s:AK}{K:aD}{x dx C f:AI}{mA:As}{name:Str}{v:AJ}
theorem get_map{a:Bool}{Q:Ap}(X:K.In s.heap)(I:Ze1 s.heap x dx C mA)(d:W.plainGet K C name=true)(c:W.hasDictIn K C=true)
  (e:W.findIn K (.ref C) name=some none) (hv:mA name=some v) (b:W.handedIn v=true) (h:Q v { s with toks:=s.toks+1 }):
  wpAny ai A (getAttr (.ref x) name a) Q E s:=by
 obtain⟨od,J,hl⟩:=I.look;exact W.get_value X J (W.plainGet_of d).1 (W.findObj_own c e rfl (by rw[hl,hv])) b h
theorem Zlk{pl:Sem Bool}{Q:AJ×AC->AK->Prop}(X:K.In s.heap)(I:Ze1 s.heap x dx C mA)(a:W.plainGet K C name=true)
  (b:W.findIn K (.ref C) name=some (↑f)) (c:W.isFn K (.ref f)=true) (hv:mA name=none) (h:Q (.ref f,[.ref x]) s):
  wpAny ai A (getMethod (.ref x) name pl) Q E s:=by
 obtain⟨od,J,hl⟩:=I.look;exact W.method_fn X J (W.plainGet_of a).1 (W.plainGet_of a).2 b (beq_iff_eq.mp c) (by show(W.lookIn name od).map (·.isSome)=some false;rw[hl,hv];rfl) h
theorem Zn0{ns:AH}{Q:Unit->AK->Prop}(X:K.In s.heap)(I:Ze1 s.heap x dx C mA)
  (hs:W.findIn K (.ref C) "__setattr__"=some (some (.builtin "object.__setattr__"))) (hp:W.plainOver K C=true) (l:W.takerIn K C name=some none) (n:W.hasDictIn K C=true)
  (k:PySem.Within mA ns) (hsz:ns.length<=sizeLine)
  (h:∀h',Ze1 h' x dx C (λy=>if y=name then some v else mA y)->Heap.SameBut dx s.heap h'->Q () { s with heap:=h',toks:=s.toks+2 }):
  wpAny ai A (setAttr (.ref x) name v) Q E s:=by
 obtain⟨od,J,hl⟩:=I.look;refine W.set_plain X J hs (W.osa_open (s:={ s with toks:=s.toks+1 }) (r:=none) X J hp l λb=>?_);obtain⟨o,hc,f⟩:=W.any_some n;have hx:s.heap.get? x=some ⟨.ref C,some dx,.plain,#[]⟩:=I.obj;refine wpAny_bind (wpAny_pure (wpAny_bind (wpAny_bind (wpAny_loadPart hx (wpAny_bind (W.Looks.here (s:={ s with toks:=s.toks+1 }) (W.looks_clsIn X hc) ?_))))));rw[f];refine wpAny_pure (a:=some dx) (wpAny_bind (wpAny_pure (wpAny_bind ?_)));refine wpAny_nsSet1 (s:={ s with toks:=s.toks+1 }) I.ns λh' c d=>?_;obtain⟨p,m,j,e,g,i⟩:=c.count (PySem.Within.cons name v k);refine wpAny_bind (wpAny_lookBehind e (by rw[g];exact pastItsLine_dict (Nat.le_trans i (by rw[List.length_cons];omega))) ?_);exact wpAny_pure (h _ ⟨(d.2 _ (Ne.symm I.ne)).trans I.obj,c,I.ne⟩ d)
theorem Zkl{R:Result->AK->Prop}{vs:AC}{kw:List (Str×AJ)}(X:K.In s.heap)(hm:W.makesIn K C=true)
  (hi:W.findIn K (.ref C) "__init__"=some (↑f)) (a:W.typeIn K (.ref f)=some (.type "function"))
  (h:codeAny ai (A.under (.builtin "type.__call__" ⟨.ref C::vs,kw⟩)) (.call (.ref f) ⟨.ref ah::vs,kw⟩) (W.InitBack ah R)
   { s with heap:=(s.heap.push W.emptyDict).push (W.instObj C s.heap.objs.size) }):
  codeAny ai A (.call (.ref C) ⟨vs,kw⟩) R s:=by
 obtain⟨b,g,d,t,os⟩:=s;exact W.make_core (W.makes_of X hm) (W.looks_findIn X hi) (λself=>W.bind_fn X self a) (.inl rfl) h
theorem Zgz{R:Result->AK->Prop}(X:K.In s.heap)(hm:W.makesIn K C=true)
  (hi:W.findIn K (.ref C) "__init__"=some (some (.builtin "object.__init__")))
  (hb:∀self,W.Looks ai s.heap (bindSpecial (.builtin "object.__init__") self) (.builtin "object.__init__",[self]))
  (h:codeAny ai (A.under (.builtin "type.__call__" ⟨[.ref C],[]⟩)) (.call (.builtin "object.__init__") ⟨[.ref ah],[]⟩) (W.InitBack ah R)
   { s with heap:=(s.heap.push W.emptyDict).push (W.instObj C s.heap.objs.size) }):
  codeAny ai A (.call (.ref C) ⟨[],[]⟩) R s:=by
 obtain⟨a,g,d,t,os⟩:=s;exact W.make_core (W.makes_of X hm) (W.looks_findIn X hi) hb (.inr ⟨rfl,rfl⟩) h
end
def bU(f:Str)(v:V):List (Str×V)->List (Str×V)
 | []=>[(f,v)]
 | (g,x)::r=>if g=f then(g,v)::r else(g,x)::bU f v r
theorem JP(f g:Str)(v:V):∀fs:List (Str×V),(bU f v fs).lookup g=if g=f then some v else fs.lookup g
 | []=>by
  show List.lookup g [(f,v)]=_
  by_cases h:g=f
  ·have hb:(g == f)=true:=beq_iff_eq.mpr h;simp only[List.lookup,hb,if_pos h]
  ·have hb:(g == f)=false:=beq_eq_false_iff_ne.mpr h;simp only[List.lookup,hb,if_neg h]
 | (k,x)::r=>by
  have ih:=JP f g v r;rw[show bU f v ((k,x)::r)=(if k=f then(k,v)::r else(k,x)::bU f v r)from rfl]
  by_cases hk:k=f
  ·rw[if_pos hk]
   by_cases h:g=k
   ·have hb:(g == k)=true:=beq_iff_eq.mpr h;simp only[List.lookup,hb,if_pos (h.trans hk)]
   ·have hb:(g == k)=false:=beq_eq_false_iff_ne.mpr h;simp only[List.lookup,hb,if_neg (λe:g=f=>h (e.trans hk.symm))]
  ·rw[if_neg hk]
   by_cases h:g=k
   ·have hb:(g == k)=true:=beq_iff_eq.mpr h;simp only[List.lookup,hb,if_neg (λe:g=f=>hk (h.symm.trans e))]
   ·have hb:(g == k)=false:=beq_eq_false_iff_ne.mpr h;simp only[List.lookup,hb];exact ih
theorem HJ(f:Str)(v:V):∀fs:List (Str×V),f∈(bU f v fs).map (·.1)/\∀g,g∈fs.map (·.1)->g∈(bU f v fs).map (·.1)
 | []=>⟨by simp[bU],λg h=>by simp at h⟩
 | (k,x)::r=>by
  obtain⟨i1,i2⟩:=HJ f v r;rw[show bU f v ((k,x)::r)=(if k=f then(k,v)::r else(k,x)::bU f v r)from rfl]
  by_cases hk:k=f
  ·rw[if_pos hk];subst hk;exact⟨ζ,λg h=>by simpa using h⟩
  ·rw[if_neg hk];refine⟨?_,λg h=>?_⟩
   ·rw[List.map_cons];exact List.mem_cons_of_mem _ i1
   ·rw[List.map_cons]at h ⊢;rcases List.mem_cons.mp h with e | e
    ·exact List.mem_cons.mpr (.inl e)
    ·exact List.mem_cons_of_mem _ (i2 g e)
theorem JS(f:Str)(v:V):∀fs:List (Str×V),(bU f v fs).length<=fs.length+1
 | []=>by simp[bU]
 | (k,x)::r=>by
  have ih:=JS f v r;rw[show bU f v ((k,x)::r)=(if k=f then(k,v)::r else(k,x)::bU f v r)from rfl]
  by_cases hk:k=f
  ·rw[if_pos hk,List.length_cons,List.length_cons];omega
  ·rw[if_neg hk,List.length_cons,List.length_cons];omega
theorem zB.some_of{v:V}{o:AB}(r:zB (some v) o):∃u,o=some u/\RelV v u:=by
 cases o with
 | none=>exact(show False from r).elim
 | some u=>exact⟨u,rfl,r⟩
theorem zB.none_of{o:AB}(r:zB none o):o=none:=by
 cases o with
 | none=>rfl
 | some u=>exact(show False from r).elim
theorem Zhn{v:V}{u:AJ}(r:RelV v u):W.handedIn u=true:=by
 cases v with
 | non=>cases (show u=Value.none from r);rfl
 | bl b=>cases (show u=Value.bool b from r);rfl
 | int i=>obtain⟨t,e⟩:=(show ∃t,u=Value.int i t from r);cases e;rfl
 | str x=>obtain⟨t,e⟩:=(show ∃t,u=Value.str x t from r);cases e;rfl
 | byt b=>obtain⟨t,e⟩:=(show ∃t,u=Value.bytes b t from r);cases e;rfl
 | flt b=>obtain⟨t,e⟩:=(show ∃t,u=Value.float b t from r);cases e;rfl
 | ref a=>cases (show u=Value.ref a from r);rfl
 | ty n=>cases (show u=Value.type n from r);rfl
section
variable {P:AM}{w:AO}{H H':Hp}{h h':Heap}{a C dx:AI}{fs fs':List (Str×V)}
theorem LC(hok:yZ P w H h)(e:H a=some (.ins C dx fs)):∃b,Ze1 h a dx C b/\(∀f,zB (fs.lookup f) (b f))/\PySem.Within b (fs.map (·.1))/\fs.length<=1000/\H dx=some (.own a):=by
 obtain⟨d,z,ne,ob,b,n,r,q⟩:=(show gZ P w H h a (.ins C dx fs)from hok a _ e);exact⟨b,⟨ob,n,ne⟩,r,q,z,d⟩
end
structure Lj(K:aD)(C:AI):Prop where
 pg:W.plainGet K C Str.empty=true
 hd:W.hasDictIn K C=true
 po:W.plainOver K C=true
 sa:W.findIn K (.ref C) "__setattr__"=some (some (.builtin "object.__setattr__"))
theorem Lj.get{K:aD}{C:AI}(c:Lj K C)(f:Str):W.plainGet K C f=true:=c.pg
def cQ(K:aD)(C:AI)(f:Str):Prop:=W.findIn K (.ref C) f=some none
theorem cQ.taker{K:aD}{C:AI}{f:Str}(n:cQ K C f):W.takerIn K C f=some none:=by
 unfold W.takerIn;rw[show W.findIn K (.ref C) f=some none from n];rfl
structure Con(K:aD)(C:AI)(f:Str)(v:V)(u:AJ):Prop where
 at_:W.findIn K (.ref C) f=some (some u)
 rel:RelV v u
 get:W.specialIn K u "__get__"=some none
 cp:W.copiedNames.contains f=false
structure Meth(K:aD)(C:AI)(m:Str)(f:AI):Prop where
 at_:W.findIn K (.ref C) m=some (↑f)
 fn:W.isFn K (.ref f)=true
 kp:W.keepIn K (.ref f)=true
section
variable {X:Cx}{pins:At}{σ:St}{H:Hp}{s:AK}{a C dx:AI}{fs:List (Str×V)}{f:Str}{v:V}{A:Around}{E:Ap}
theorem Zd7{b:Bool}{Q:Ap}(I:Inv X pins σ H s)(e:H a=some (.ins C dx fs))(c:Lj X.K C)(n:cQ X.K C f)(l:fs.lookup f=some v)
  (h:∀u s',Inv X pins σ H s'->RelV v u->Q u s'):wpAny ς A (getAttr (.ref a) f b) Q E s:=by
 obtain⟨g,O,r,_,_,_⟩:=LC I.hok e;obtain⟨u,hu,d⟩:=zB.some_of (v:=v) (o:=g f) (by rw[<- l];exact r f);exact get_map I.qt O (c.get f) c.hd n hu (Zhn d) (h u _ (I.tok _) d)
theorem Qk{m:Str}{g:AI}{pl:Sem Bool}{Q:AJ×AC->AK->Prop}(I:Inv X pins σ H s)(e:H a=some (.ins C dx fs))(c:Lj X.K C)(k:Meth X.K C m g)(l:fs.lookup m=none)
  (h:Q (.ref g,[.ref a]) s):wpAny ς A (getMethod (.ref a) m pl) Q E s:=by
 obtain⟨b,O,r,_,_,_⟩:=LC I.hok e;have hn:b m=none:=zB.none_of (by rw[<- l];exact r m);exact Zlk I.qt O (c.get m) k.at_ k.fn hn h
theorem Zc0{y:V}{u:AJ}{Q:Unit->AK->Prop}(I:Inv X pins σ H s)(e:H a=some (.ins C dx fs))(c:Lj X.K C)(n:cQ X.K C f)(hl:fs.length<1000)(l:RelV y u)
  (h:∀s',Inv X pins σ (upd H a (.ins C dx (bU f y fs))) s'->Q () s'):wpAny ς A (setAttr (.ref a) f u) Q E s:=by
 obtain⟨i,O,r,k,_,j⟩:=LC I.hok e;have hz:(fs.map (·.1)).length<=sizeLine:=by rw[bA,sizeLine_eq];omega
 refine Zn0 I.qt O c.sa c.po n.taker c.hd k hz λp d sb=>h _ ?_;have hd:∃o,p.get? dx=some o:=let ⟨o,_,_,e',_⟩:=d.ns;⟨o,e'⟩
 refine I.write (x:=a) (e:=dx) (by rw[e];exact True.intro) (.inr j) (λb q hb z=>(sb.2 b hb).trans z) hd ?_;refine⟨by rw[aA O.ne];exact j,?_,O.ne,d.obj,_,d.ns,λg=>?_,λg m=>?_⟩
 ·have:=JS f y fs;omega
 ·show zB ((bU f y fs).lookup g) (if g=f then some u else i g);rw[JP]
  by_cases q:g=f
  ·rw[if_pos q,if_pos q];exact l
  ·rw[if_neg q,if_neg q];exact r g
 ·by_cases q:g=f
  ·rw[q];exact(HJ f y fs).1
  ·refine(HJ f y fs).2 g (k g λz=>m ?_);show(if g=f then some u else i g)=none;rw[if_neg q];exact z
theorem Inv.made(I:Inv X pins σ H s):Inv X pins σ (upd (upd H s.heap.objs.size (.own ah)) ah (.ins C s.heap.objs.size []))
  { s with heap:=(s.heap.push W.emptyDict).push (W.instObj C s.heap.objs.size) }:=by
 have c:(s.heap.push W.emptyDict).get? s.heap.objs.size=some W.emptyDict:=Heap.get?_push_size s.heap rfl;have d:((s.heap.push W.emptyDict).push (W.instObj C s.heap.objs.size)).get? (s.heap.objs.size+1)=some (W.instObj C s.heap.objs.size):=by
  have:=Heap.get?_push_size (s.heap.push W.emptyDict) (o:=W.instObj C s.heap.objs.size) rfl
  rwa [Heap.size_push]at this
 have e3:(s.heap.push W.emptyDict).Ns s.heap.objs.size (λ_=>none):=⟨W.emptyDict,#[],_,c,rfl,(λe g=>absurd g ζ),λ_=>rfl⟩;have f:=I.laid (a:=s.heap.objs.size) (o:=.own ah) (h':=s.heap.push W.emptyDict) (t':=s.toks) (λb u q=>Heap.get?_push_of_some _ q) Δ ⟨_,c⟩;refine f.laid (a:=s.heap.objs.size+1) (o:=.ins C s.heap.objs.size []) (t':=s.toks) (λb u q=>Heap.get?_push_of_some _ q) (Nat.le_of_eq (Heap.size_push _ _)) ?_;have ne:s.heap.objs.size≠s.heap.objs.size+1:=Nat.ne_of_lt (Nat.lt_succ_self _);refine⟨by rw[aA ne,ao],Nat.zero_le _,ne,d,λ_=>none,(Heap.Ns1.of_empty e3).at λo q=>Heap.get?_push_of_some _ q,λ_=>True.intro,λy hy=>absurd rfl hy⟩
theorem Zot{prog:AM}{w:AO}{env:Env}{e:AN}{f:Str}{b:Pos}{s:AK}{Q:Ap}(hb:attributeBase e f env (eval e env)=eval e env)
  (h:wpAny ai A (eval e env) (λo a=>wpAny ai A (getAttr o f true) Q E a) E s):wpAny ai A (eval (.Attribute e f b) env) Q E s:=
 Attribute_any_ h (by rw[arm_eval_Attribute,hb])
end
def bh(K:aD)(c:TE)(f:Str):TE:=λσ H Q=>c σ H λx b=>∃a C dx fs v,x=.ref a/\b a=some (.ins C dx fs)/\Lj K C/\cQ K C f/\fs.lookup f=some v/\Q v b
def dY(K:aD)(d e:TE)(f:Str):TS:=λD σ H=>e σ H λy c=>d σ c λx b=>∃a C dx fs,x=.ref a/\b a=some (.ins C dx fs)/\Lj K C/\cQ K C f/\fs.length<1000/\
 D.nx σ (upd b a (.ins C dx (bU f y fs)))
section
variable {X:Cx}{o e value:AN}{f:Str}{pos pos' tpos:Pos}{ta tv:TE}
theorem aJ(d:PE X e ta)(hb:attributeBase e f X.env (eval e X.env)=eval e X.env):PE X (.Attribute e f pos) (bh X.K ta f):=by
 intro b s i H Q I h;refine Zot hb (gM (d b s i H _ I h) λu o qc=>?_);obtain⟨x,H1,I1,rx,a,C,dx,fs,v,ex,ea,c,n,l,q⟩:=qc;subst ex;obtain rfl:u=Value.ref a:=rx;exact Zd7 I1 ea c n l λm k j g=>⟨v,H1,j,g,q⟩
theorem bR(j:PE X o ta)(hv:PE X value tv)(hs:swapsWith value (some (.Attribute o f pos')) pos.line X.env=pure false):PS X (.Assign [.Attribute o f pos'] value pos) (dY X.K ta tv f):=by
 intro b s d H D I h;refine plainObj_wpAny_Assign_Attribute (gM (hv b s d H _ I h) λu e ⟨y,H1,I1,ry,q⟩=>gM (j b e d H1 _ I1 q) λg k qc=>?_) hs;obtain⟨x,H2,I2,rx,a,C,dx,fs,ex,ea,c,n,l,q2⟩:=qc;subst ex;obtain rfl:g=Value.ref a:=rx;exact Zc0 I2 ea c n l ry λm i=>⟨d,_,i,q2⟩
end
section
variable {X:Cx}{pins:At}{σ:St}{H:Hp}{s:AK}{A:Around}{E:Ap}{Q:Ap}{c:AJ}{b:Bool}
inductive Ih(K:aD)(H:Hp):V->AJ->Prop where
 | non:Ih K H .non (.type "NoneType")
 | bl (x:Bool):Ih K H (.bl x) (.type "bool")
 | int (i:Int):Ih K H (.int i) (.type "int")
 | str (x:Str):Ih K H (.str x) (.type "str")
 | flt (x:UInt64):Ih K H (.flt x) (.type "float")
 | lst {a:AI}{xs:List V} (e:H a=some (.lst xs)):Ih K H (.ref a) (.type "list")
 | uh {a:AI}{o:Obj}{xs:List V} (e:H a=some (.uh o (.lst xs))):Ih K H (.ref a) (.type "list")
 | tup {a:AI}{xs:List V} (e:H a=some (.tup xs)):Ih K H (.ref a) (.type "tuple")
 | dK {a:AI}{kvs:List (Key×V)} (e:H a=some (.dK kvs)):Ih K H (.ref a) (.type "dict")
 | dT {a:AI}{kvs:List (List Key×V)} (e:H a=some (.dT kvs)):Ih K H (.ref a) (.type "dict")
 | ins {a C dx:AI}{fs:List (Str×V)} (e:H a=some (.ins C dx fs)) (cl:Lj K C) (ha:W.findIn K (.ref C) "__class__"=some (some (.builtin "object.__class__")))
   (hn:W.specialIn K (.builtin "object.__class__") "__get__"=some (some (.builtin "getset_descriptor.__get__"))) (htk:W.takesIn K (.builtin "object.__class__")=some true)
   (hm:W.mroIn K C (.type "object")=some true):Ih K H (.ref a) (.ref C)
theorem Zh4{x:V}{u t:AJ}(I:Inv X pins σ H s)(d:RelV x u)(ty:Ih X.K H x t)(e:W.kitOne X.K t c=some b)(h:∀tk,Q (.bool b) { s with toks:=tk }):
  wpAny ς A (call (.builtin "isinstance") [u,c]) Q E s:=by
 cases ty with
 | non=>cases (show u=Value.none from d);exact W.kia_one W.kitx_none I.qt True.intro e ay h
 | bl y=>cases (show u=Value.bool y from d);exact W.kia_one W.kitx_bool I.qt True.intro e ay h
 | int i=>obtain⟨t,q⟩:=(show ∃t,u=Value.int i t from d);cases q;exact W.kia_one W.kitx_int I.qt True.intro e ay h
 | str y=>obtain⟨t,q⟩:=(show ∃t,u=Value.str y t from d);cases q;exact W.kia_one W.kitx_str I.qt True.intro e ay h
 | flt y=>obtain⟨t,q⟩:=(show ∃t,u=Value.float y t from d);cases q;exact W.kia_one W.kitx_float I.qt True.intro e ay h
 | @lst a j f=>
  cases (show u=Value.ref a from d);obtain⟨_,_,n,_,h1⟩:=(show gZ X.prog X.w H s.heap a (.lst j)from I.hok a _ f);exact W.kia_one W.kitx_list I.qt ⟨_,h1,rfl⟩ e ay h
 | @uh a ob j f=>
  cases (show u=Value.ref a from d);obtain⟨_,_,_,n,_,h1⟩:=(show gZ X.prog X.w H s.heap a (.uh ob (.lst j))from I.hok a _ f);exact W.kia_one W.kitx_list I.qt ⟨_,h1,rfl⟩ e ay h
 | @tup a j f=>
  cases (show u=Value.ref a from d);obtain⟨_,_,_,p⟩:=(show gZ X.prog X.w H s.heap a (.tup j)from I.hok a _ f);obtain⟨o,h1,h2,_⟩:=p;exact W.kia_one W.kitx_tuple I.qt ⟨o,h1,h2⟩ e ay h
 | @dK a g f=>
  cases (show u=Value.ref a from d);obtain⟨_,_,B,_,p⟩:=(show gZ X.prog X.w H s.heap a (.dK g)from I.hok a _ f);obtain⟨o,m,l,h1,h2,_⟩:=p;exact W.kia_one W.kitx_dict I.qt ⟨o,h1,h2.1⟩ e ay h
 | @dT a g f=>
  cases (show u=Value.ref a from d);obtain⟨_,_,j,_,o,m,l,h1,h2,_⟩:=(show gZ X.prog X.w H s.heap a (.dT g)from I.hok a _ f);exact W.kia_one W.kitx_dict I.qt ⟨o,h1,h2.1⟩ e ay h
 | @ins a C D fs f cl r hn k hm=>
  cases (show u=Value.ref a from d);obtain⟨v,O,_⟩:=LC I.hok f;obtain⟨od,J,_⟩:=O.look;exact W.kia_one (W.kitx_own (cl.get _) cl.hd r hn k hm) I.qt J e ay h
end
structure Room(k:Nat)(A:Around):Prop where
 hd:A.handled=none
 dp:A.depth+3 * k+5<recursionLimit
 un:A.units+16 * k+200<cLine
theorem Room.mono{j k:Nat}{A:Around}(r:Room k A)(h:j<=k):Room j A:=⟨r.hd,by have:=r.dp;omega,by have:=r.un;omega⟩
theorem Room.deeper{k:Nat}{A:Around}(r:Room (k+1) A)(env:Env):Room k (A.deeper env):=
 ⟨r.hd,by have:=r.dp;show A.depth+1+3 * k+5<_;omega,by have:=r.un;show A.units+3+16 * k+200<_;omega⟩
theorem Zcn{A:Around}{C:AI}{us:AC}{kw:List (Str×AJ)}:(A.under (.builtin "type.__call__" ⟨.ref C::us,kw⟩)).depth=A.depth+1:=by
 first | rfl | simp[Around.under,Code.weight,Code.isCreation,Code.isGuard,Code.isCaller,Code.frames,Code.isFrame,guardIds]
theorem Zcm{A:Around}{C:AI}{us:AC}{kw:List (Str×AJ)}:(A.under (.builtin "type.__call__" ⟨.ref C::us,kw⟩)).units=A.units+1:=by
 first | rfl | simp[Around.under,Code.cUnits,Code.frames,Code.isFrame]
theorem Room.make{k:Nat}{A:Around}(r:Room (k+1) A)(C:AI)(us:AC)(kw:List (Str×AJ)):Room k (A.under (.builtin "type.__call__" ⟨.ref C::us,kw⟩)):=
 ⟨r.hd,by have:=r.dp;rw[Zcn];omega,by have:=r.un;rw[Zcm];omega⟩
theorem Room.depth{k:Nat}{A:Around}(r:Room k A):A.depth<recursionLimit:=by have:=r.dp;omega
theorem Room.units{k:Nat}{A:Around}(r:Room k A):A.units+64<cLine:=by have:=r.un;omega
def aG:TA:=λ_ H Q=>Q [] H
def aj(c:TE)(d:TA):TA:=λσ H Q=>c σ H λx a=>d σ a λxs b=>Q (x::xs) b
section
variable {X:Cx}{e:AN}{es:AG}{te:TE}{t:TA}{pos:Pos}
theorem az:PA X [] aG:=λ_ _ _ _ H Q I h=>Calls.spliced_nil ⟨[],H,I,.nil,h⟩
theorem aa(c:PE X e te)(hr:PA X es t)(hs:starEach (e::es) X.env=(false,eval e X.env)::starEach es X.env:=by rfl):PA X (e::es) (aj te t):=by
 intro pos a s b H Q I h;rw[hs];show wpAny _ _ (spliced ((false,eval e X.env)::backTo pos (starEach es X.env))) _ _ s;refine Calls.spliced_cons (gM (c a s b H _ I h) λu f qc=>?_);obtain⟨x,H1,I1,r1,q1⟩:=qc;exact gM (hr pos a f b H1 _ I1 q1) (by rintro us g ⟨d,H2,I2,r2,q2⟩;exact⟨x::d,H2,I2,.cons r1 r2,q2⟩)
def cY(t:TA):TE:=λσ H Q=>t σ H λxs a=>xs.length<=sizeLine/\∀p,a p=none->Q (.ref p) (upd a p (.tup xs))
def dX(t:TA):TE:=λσ H Q=>t σ H λxs a=>xs.length<=sizeLine/\∀p,a p=none->Q (.ref p) (upd a p (.lst xs))
theorem bD{x1}(h:PA X es t):PE X (.Tuple es x1 pos) (cY t):=by
 intro a s d H Q I hq;refine wpAny_Tuple_spliced (gM (h pos a s d H _ I hq) λus c ⟨f,H1,I1,r,z,q⟩=>⟨by rw[<- r.length];exact z,?_⟩);have g:H1 c.heap.objs.size=none:=I1.hok.fresh Δ;refine⟨.ref c.heap.objs.size,upd H1 c.heap.objs.size (.tup f),I1.laid (t':=c.toks) (λb u e=>Heap.get?_push_of_some _ e) Δ ?_,rfl,q _ g⟩;exact⟨z,us,r,⟨_,Heap.get?_push_size _ rfl,rfl,_,rfl⟩⟩
theorem cH(h:PA X es t):PE X (.List es pos) (dX t):=by
 intro a s d H Q I hq;refine wpAny_List_spliced (gM (h pos a s d H _ I hq) λus c ⟨f,H1,I1,r,z,q⟩=>⟨by rw[<- r.length];exact z,?_⟩);have g:H1 c.heap.objs.size=none:=I1.hok.fresh Δ;refine⟨.ref c.heap.objs.size,upd H1 c.heap.objs.size (.lst f),I1.laid (t':=c.toks) (λb u e=>Heap.get?_push_of_some _ e) Δ ?_,rfl,q _ g⟩;exact⟨z,us,0,r,Heap.get?_push_size _ rfl⟩
end
abbrev Sp:=List V->Hp->VK->XK->Prop
abbrev Y5:=List Env->Hp->AK->XK->AJ->AK->Prop
structure Y0(P:AM)(w:AO)(K:aD)(mg:As)(base:Heap)(A:Around)(outer:List Env)(s:AK)(H:Hp):Prop where
 frames:A.frames=some outer
 mod:Mod K mg base
 bs:∀b o,base.get? b=some o->s.heap.get? b=some o/\H b=none
 bsz:base.objs.size<=s.heap.objs.size
 ug:s.heap.FunFrames base outer
 frf:∀b∈frs outer,H b=none
 hok:yZ P w H s.heap
 bare:AllBare s.gens
def CE(outer:List Env)(P:AM)(w:AO)(H:Hp)(s:AK)(Q:VK)(u:AJ)(s':AK):Prop:=
 ∃v H',s'.os=s.os/\AllBare s'.gens/\Un (frs outer) [] H H' s.heap s'.heap/\yZ P w H' s'.heap/\RelV v u/\Q v H'
def CR(CX:Y5)(outer:List Env)(P:AM)(w:AO)(H:Hp)(s:AK)(Q:VK)(E:XK)(r:Result)(s':AK):Prop:=
 match r with
 | .ok (.ret u)=>CE outer P w H s Q u s'
 | .ok _=>False
 | .error e=>CX outer H s E e s'
structure qj(P:AM)(w:AO)(K:aD)(mg:As)(base:Heap)(CX:Y5)(k:Nat)(f:AI)(fd:AL)(ps:AH)(sp:Sp):Prop where
 len:∀vs H Q E,sp vs H Q E->vs.length=ps.length
 run:∀(A:Around) (outer:List Env) (s:AK) (H:Hp) (args:Args) (us:AC) (vs:List V) (Q:VK) (E:XK),Room k A->Y0 P w K mg base A outer s H->BindsTo s fd args (ps.zip us)->Vals vs us->sp vs H Q E->
  codeAny (model P w) A (.call (.ref f) args) (CR CX outer P w H s Q E) s
theorem Y0.make{P:AM}{w:AO}{K:aD}{mg:As}{base:Heap}{A:Around}{outer:List Env}{s:AK}{H:Hp}(e:Y0 P w K mg base A outer s H)(C:AI)(us:AC)(kw:List (Str×AJ)):
  Y0 P w K mg base (A.under (.builtin "type.__call__" ⟨.ref C::us,kw⟩)) outer s H:=⟨by first | exact e.frames | (simpa[Around.under,Code.envs,Code.isFrame,pushEnvs]using e.frames),e.mod,e.bs,e.bsz,e.ug,e.frf,e.hok,e.bare⟩
section
variable {X:Cx}{pins:At}{σ:St}{H:Hp}{s s':AK}
theorem Inv.env0(I:Inv X pins σ H s):Y0 X.prog X.w X.K X.mg X.base X.A X.stack s H:=
 ⟨I.ok.frames,I.ok.mod,I.bs,Nat.le_trans I.ok.bsz I.sz,I.stack,I.WQ,I.hok,I.bare⟩
theorem Inv.after{Q:VK}{u:AJ}(I:Inv X pins σ H s)(h:CE X.stack X.prog X.w H s Q u s'):EP X pins σ Q u s':=by
 obtain⟨v,c,os,bare,un,hok,r,q⟩:=h;obtain⟨e,g,d,t,a⟩:=s';obtain rfl:a=s.os:=os;exact⟨v,c,I.call (h':=e) (g':=g) (d':=d) (t':=t) (ch:=[]) un hok bare (λb z=>absurd z ζ),r,q⟩
end
def aX(sp:Sp)(qw:List V)(E:XK)(t:TA):TE:=λσ H Q=>t σ H λvs a=>sp (vs++qw) a Q E
def gQ(C:AI)(m:Str)(sp:Sp)(qw:List V)(E:XK)(d:TE)(t:TA):TE:=λσ H Q=>d σ H λx b=>∃a dx fs,x=.ref a/\b a=some (.ins C dx fs)/\fs.lookup m=none/\
 t σ b λvs c=>sp (x::(vs++qw)) c Q E
def w6(C:AI)(sp:Sp)(qw:List V)(E:XK)(t:TA):TE:=λσ H Q=>t σ H λvs a=>∀x dx,a x=none->a dx=none->dx≠x->
 sp (.ref x::(vs++qw)) (upd (upd a dx (.own x)) x (.ins C dx [])) (λv b=>v=.non/\Q (.ref x) b) E
def Binds(K:aD)(fd:AL)(ps:AH)(ds:AC):Prop:=
 ∀(s:AK) (us:AC),K.In s.heap->(us++ds).length=ps.length->BindsTo s fd ⟨us,[]⟩ (ps.zip (us++ds))
theorem Binds.all{K:aD}{fd:AL}{ps:AH}(h:∀us:AC,us.length=ps.length->bindArgs fd ⟨us,[]⟩=pure (ps.zip us)):Binds K fd ps []:=λs us _ hl=>by
 rw[List.append_nil]at hl ⊢;exact .of_eq (h us hl)
def Passes(CX:Y5)(X:Cx)(E:XK):Prop:=∀(pins:At) (σ:St) (H:Hp) (s:AK) (e:AJ) (s':AK),Inv X pins σ H s->CX X.stack H s E e s'->X.xe e s'
section
variable {X:Cx}{CX:Y5}{k:Nat}{f C:AI}{fd:AL}{ps:AH}{sp:Sp}{qw:List V}{ds:AC}{E:XK}{x m:Str}{p pos apos:Pos}{e o:AN}{es:AG}{ta:TE}{t:TA}
theorem W7{pins:At}{σ:St}{H:Hp}{s:AK}{Q:VK}{us:AC}{vs:List V}(F:qj X.prog X.w X.K X.mg X.base CX k f fd ps sp)(hr:Room k X.A)(hb:Binds X.K fd ps ds)(hd:Vals qw ds)(hx:Passes CX X E)
  (I:Inv X pins σ H s) (r:Vals vs us) (h:sp (vs++qw) H Q E):wpAny ς X.A (call (.ref f) us) (EP X pins σ Q) X.xe s:=by
 have r2:Vals (vs++qw) (us++ds):=r.append hd;have hl:(us++ds).length=ps.length:=by rw[<- r2.length];exact F.len _ _ _ _ h
 refine wpAny_call (codeAny_mono (F.run X.A X.stack s H ⟨us,[]⟩ (us++ds) (vs++qw) Q E hr I.env0 (hb s us I.qt hl) r2 h) λr a hq=>?_);cases r with
 | error e=>exact hx pins σ H s e a I hq
 | ok fl=>
  cases fl with
  | ret u=>exact I.after hq
  | next=>exact False.elim hq
  | brk=>exact False.elim hq
  | cont=>exact False.elim hq
theorem mU(F:qj X.prog X.w X.K X.mg X.base CX k f fd ps sp)(hr:Room k X.A)(g:Gl X x)(hm:X.mg x=↑f)(hk:W.keepIn X.K (.ref f)=true)(hb:Binds X.K fd ps ds)(hd:Vals qw ds)(hx:Passes CX X E)
  (j:PA X (e::es) t) (b:(x == ("__debug__":Str))=false:=by decide) (i:starEach (e::es) X.env=(false,eval e X.env)::starEach es X.env:=by rfl) (c:(backTo pos (starEach es X.env)).any (·.1)=false:=by rfl):
  PE X (.Call (.Name x p) (e::es) [] pos) (aX sp qw E t):=by
 intro a s d H Q I h;refine wpAny_Call_Name_kw (gG I g hm ?_ b);refine W.callWith_K (h₀:=X.base) I.ok.mod.kin hk (gM (j pos a s d H _ I h) λus l ⟨m,H1,I1,r,q⟩=>⟨I1.qt,?_⟩) i c;exact W7 F hr hb hd hx I1 r q
theorem mQ{pl:Sem Bool}(p:PE X o ta)(c:Lj X.K C)(hm:Meth X.K C m f)(F:qj X.prog X.w X.K X.mg X.base CX k f fd ps sp)(hr:Room k X.A)(hb:Binds X.K fd ps ds)(hd:Vals qw ds)(hx:Passes CX X E)(v:PA X (e::es) t)
  (d:starEach (e::es) X.env=(false,eval e X.env)::starEach es X.env:=by rfl) (g:(backTo pos (starEach es X.env)).any (·.1)=false:=by rfl)
  (n:eval (.Call (.Attribute o m apos) (e::es) [] pos) X.env=(do
   let ov <- eval o X.env
   standAt apos.atName
   let (f,first) <- holding [ov] (getMethod ov m pl)
   callWith pos f first (backTo pos (starEach (e::es) X.env)) (backToKw pos (keywordEach [] X.env))):=by rfl):
  PE X (.Call (.Attribute o m apos) (e::es) [] pos) (gQ C m sp qw E ta t):=by
 intro b s i H Q I h;refine W.methodCall_KW (pl:=pl) (gM (p b s i H _ I h) λu j qc=>?_) n;obtain⟨x,H1,I1,rx,a,dx,fs,ex,ea,l,q⟩:=qc;subst ex;obtain rfl:u=Value.ref a:=rx;refine Qk I1 ea c hm l ?_;refine W.callWith_K (first:=[.ref a]) (h₀:=X.base) I.ok.mod.kin hm.kp (gM (v pos b j i H1 _ I1 q) λus y ⟨vs,H2,I2,r,q2⟩=>⟨I2.qt,?_⟩) d g;exact W7 (us:=.ref a::us) (vs:=.ref a::vs) F hr hb hd hx I2 (.cons rfl r) q2
theorem gU{pl:Sem Bool}(g:PE X o ta)(c:Lj X.K C)(hm:Meth X.K C m f)(F:qj X.prog X.w X.K X.mg X.base CX k f fd ps sp)(hr:Room k X.A)(hb:Binds X.K fd ps ds)(hd:Vals qw ds)(hx:Passes CX X E)
  (d:eval (.Call (.Attribute o m apos) [] [] pos) X.env=(do
   let ov <- eval o X.env
   standAt apos.atName
   let (f,first) <- holding [ov] (getMethod ov m pl)
   callWith pos f first (backTo pos (starEach [] X.env)) (backToKw pos (keywordEach [] X.env))):=by rfl):
  PE X (.Call (.Attribute o m apos) [] [] pos) (gQ C m sp qw E ta aG):=by
 intro b s e H Q I h;refine W.methodCall_KW (pl:=pl) (gM (g b s e H _ I h) λu i qc=>?_) d;obtain⟨x,H1,I1,rx,a,dx,fs,ex,ea,l,q⟩:=qc;subst ex;obtain rfl:u=Value.ref a:=rx;refine Qk I1 ea c hm l ?_;exact W.callWith_K0 (first:=[.ref a]) I1.qt hm.kp (W7 (us:=[.ref a]) (vs:=[.ref a]) F hr hb hd hx I1 (.cons rfl .nil) q)
structure Mk(K:aD)(C f:AI):Prop where
 makes:W.makesIn K C=true
 init:W.findIn K (.ref C) "__init__"=some (↑f)
 fn:W.isFn K (.ref f)=true
 kp:W.keepIn K (.ref C)=true
theorem Zn{pins:At}{σ:St}{H:Hp}{s:AK}{Q:VK}{us:AC}{vs:List V}(M:Mk X.K C f)(F:qj X.prog X.w X.K X.mg X.base CX k f fd ps sp)(hr:Room (k+1) X.A)(hb:Binds X.K fd ps ds)(hd:Vals qw ds)
  (hx:Passes CX X E) (I:Inv X pins σ H s) (r:Vals vs us)
  (h:∀x dx,H x=none->H dx=none->dx≠x->sp (.ref x::(vs++qw)) (upd (upd H dx (.own x)) x (.ins C dx [])) (λv g=>v=.non/\Q (.ref x) g) E):
  wpAny ς X.A (call (.ref C) us) (EP X pins σ Q) X.xe s:=by
 have hq:=h ah s.heap.objs.size (I.hok.fresh (Nat.le_succ _)) (I.hok.fresh Δ) (Nat.ne_of_lt (Nat.lt_succ_self _));have b:=Inv.made (C:=C) I;have r2:Vals (V.ref ah::(vs++qw)) (Value.ref ah::(us++ds)):=.cons rfl (r.append hd);have hl:(Value.ref ah::us++ds).length=ps.length:=by
  have e:=r2.length;rw[F.len _ _ _ _ hq]at e;exact e.symm
 refine wpAny_call (Zkl (f:=f) I.qt M.makes M.init (beq_iff_eq.mp M.fn) (codeAny_mono (F.run _ X.stack _ _ ⟨Value.ref ah::us,[]⟩ (Value.ref ah::(us++ds)) _ _ E (hr.make C us [])
  (b.env0.make C us []) (hb _ (Value.ref ah::us) b.qt hl) r2 hq) λr d a=>?_))
 cases r with
 | error e=>exact hx pins σ _ _ e d b a
 | ok fl=>
  cases fl with
  | ret u=>
   obtain⟨v,c,j,i,ev,l⟩:=b.after a;subst ev;exact⟨i,⟨V.ref ah,c,j,rfl,l⟩⟩
  | next=>exact False.elim a
  | brk=>exact False.elim a
  | cont=>exact False.elim a
theorem uK(M:Mk X.K C f)(F:qj X.prog X.w X.K X.mg X.base CX k f fd ps sp)(hr:Room (k+1) X.A)(g:Gl X x)(hm:X.mg x=↑C)(hb:Binds X.K fd ps ds)(hd:Vals qw ds)(hx:Passes CX X E)
  (j:PA X (e::es) t) (b:(x == ("__debug__":Str))=false:=by decide) (i:starEach (e::es) X.env=(false,eval e X.env)::starEach es X.env:=by rfl) (c:(backTo pos (starEach es X.env)).any (·.1)=false:=by rfl):
  PE X (.Call (.Name x p) (e::es) [] pos) (w6 C sp qw E t):=by
 intro a s d H Q I h;refine wpAny_Call_Name_kw (gG I g hm ?_ b);refine W.callWith_K (h₀:=X.base) I.ok.mod.kin M.kp (gM (j pos a s d H _ I h) λus l ⟨m,H1,I1,r,q⟩=>⟨I1.qt,?_⟩) i c;exact Zn M F hr hb hd hx I1 r q
theorem Zjk(M:Mk X.K C f)(F:qj X.prog X.w X.K X.mg X.base CX k f fd ps sp)(hr:Room (k+1) X.A)(c:Gl X x)(hm:X.mg x=↑C)(hb:Binds X.K fd ps ds)(hd:Vals qw ds)(hx:Passes CX X E)
  (a:(x == ("__debug__":Str))=false:=by decide):PE X (.Call (.Name x p) [] [] pos) (w6 C sp qw E aG):=by
 intro b s d H Q I h;refine wpAny_Call_Name_kw (gG I c hm ?_ a);exact W.callWith_K0 I.qt M.kp (Zn (us:=[]) M F hr hb hd hx I .nil h)
end
section
variable {X:Cx}{CX:Y5}{k:Nat}{f C:AI}{fd:AL}{ps ks:AH}{sp:Sp}{E:XK}{x m:Str}{p pos apos kpos:Pos}{e o:AN}{es:AG}{kws:List Keyword}{te ta:TE}{t tk:TA}{nm:Option Str}
structure Zyt(K:aD)(fd:AL)(ps ks:AH)(g:AC->AC->AC)(gV:List V->List V->List V):Prop where
 to:∀(s:AK) (us ws:AC),K.In s.heap->(g us ws).length=ps.length->BindsTo s fd ⟨us,ks.zip ws⟩ (ps.zip (g us ws))
 rel:∀{vs:List V}{us:AC}{zs:List V}{ws:AC},Vals vs us->Vals zs ws->Vals (gV vs zs) (g us ws)
variable {g:AC->AC->AC}{gV:List V->List V->List V}
end
structure aO(N P:AH)(sc:Scope):Prop where
 kind:sc.kind=.function
 co:sc.isCoroutine=false
 gen:sc.isGenerator=false
 nd:N.Nodup
 pre:N.take P.length=P
 par:∀x∈P,sc.names.lookup x=some .local\/sc.names.lookup x=some .cell
 Zqu:∀y∈sc.names,y.2≠.free
theorem Wi{kindOf:Str->Option NameKind}{x:Str}:∀{binds:List (Str×AJ)}{m:As},(∀v,(x,v)∉binds)->bindL kindOf binds m x=m x
 | [],_,_=>rfl
 | (n,v)::r,m,h=>by
  unfold bindL;rw[Wi λw a=>h w (List.mem_cons_of_mem _ a)];split
  ·have:x≠n:=by rintro rfl;exact h v List.mem_cons_self
   simp[this]
  ·rfl
theorem Wk{kindOf:Str->Option NameKind}{x:Str}:∀{binds:List (Str×AJ)}{m:As},(∀v,(x,v)∉binds)->bindC kindOf binds m x=m x
 | [],_,_=>rfl
 | (n,v)::r,m,h=>by
  unfold bindC;rw[Wk λw a=>h w (List.mem_cons_of_mem _ a)];split
  ·rfl
  ·have:x≠n:=by rintro rfl;exact h v List.mem_cons_self
   simp[this]
theorem Wj{kindOf:Str->Option NameKind}{x:Str}{v:AJ}:∀{P:AH}{vs:AC}{i:Nat}{m:As},P.Nodup->P[i]? =some x->vs[i]? =some v->kindOf x=some .local->
  bindL kindOf (P.zip vs) m x=some v
 | [],_,_,_,_,h,_,_=>by simp at h
 | _::_,[],_,_,_,_,h,_=>by simp at h
 | p::P,w::vs,0,m,nd,h1,h2,hk=>by
  simp at h1 h2;subst h1;subst h2;show bindL kindOf ((p,w)::P.zip vs) m p=_;unfold bindL;rw[Wi λv hv=>(List.nodup_cons.mp nd).1 (List.of_mem_zip hv).1,if_pos hk];simp
 | p::P,w::vs,i+1,m,nd,h1,h2,hk=>by
  show bindL kindOf ((p,w)::P.zip vs) m x=_;unfold bindL;exact Wj (i:=i) (List.nodup_cons.mp nd).2 (by simpa using h1) (by simpa using h2) hk
theorem Wl{kindOf:Str->Option NameKind}{x:Str}{v:AJ}:∀{P:AH}{vs:AC}{i:Nat}{m:As},P.Nodup->P[i]? =some x->vs[i]? =some v->kindOf x≠some .local->
  bindC kindOf (P.zip vs) m x=some v
 | [],_,_,_,_,h,_,_=>by simp at h
 | _::_,[],_,_,_,_,h,_=>by simp at h
 | p::P,w::vs,0,m,nd,h1,h2,hk=>by
  simp at h1 h2;subst h1;subst h2;show bindC kindOf ((p,w)::P.zip vs) m p=_;unfold bindC;rw[Wk λv hv=>(List.nodup_cons.mp nd).1 (List.of_mem_zip hv).1,if_neg hk];simp
 | p::P,w::vs,i+1,m,nd,h1,h2,hk=>by
  show bindC kindOf ((p,w)::P.zip vs) m x=_;unfold bindC;exact Wl (i:=i) (List.nodup_cons.mp nd).2 (by simpa using h1) (by simpa using h2) hk
def start(N:AH)(vs:List V):St:=vs.map some++List.replicate (N.length - vs.length) none
def yF(CX:Y5)(P:AM)(w:AO)(K:aD)(mg:As)(base:Heap)(N:AH)(b:Str)(a:Scope)(f:AI)(d:AJ)(A:Around)(outer:List Env)(s:AK)(H:Hp)(E:XK):Cx where
 prog:=P
 w:=w
 K:=K
 mg:=mg
 base:=base
 A:=A.deeper (envOfC b a s.heap.objs.size f d)
 N:=N
 s₀:=s
 H₀:=H
 env:=envOfC b a s.heap.objs.size f d
 outer:=outer
 stack:=envOfC b a s.heap.objs.size f d::outer
 ex:=[]
 calm:=true
 fn:=λ_=>true
 pn:=[]
 xe:=λe s'=>wpAny (model P w) (A.deeper (envOfC b a s.heap.objs.size f d)) (leaving (envOfC b a s.heap.objs.size f d) e) (λ_ c=>CX outer H s E e c) (λg c=>CX outer H s E g c) s'
theorem Zb0{sc:Scope}{n:Nat}{x:Str}(h:sc.names.lookup x=some .cell):∃c,(cellsFrom n sc.names []).lookup x=some c:=by
 have q:=W.cellsFrom_some sc.names n [] (.inl h);exact Option.isSome_iff_exists.mp q
theorem VF{CX:Y5}{P:AM}{w:AO}{K:aD}{mg:As}{base:Heap}{N ps:AH}{g:Str}{d:Scope}{f:AI}{o:AJ}{A:Around}{outer:List Env}{s t:AK}{H:Hp}{E:XK}{us:AC}{vs:List V}
  (S:aO N ps d) (hd:A.handled=none) (j:Y0 P w K mg base A outer s H) (hl:vs.length=ps.length) (r:Vals vs us)
  (x:InCallC s s.heap.objs.size (bindL (envOfC g d s.heap.objs.size f o).kindOf (ps.zip us) λ_=>none) (cellsFrom ah d.names []) (bindC (envOfC g d s.heap.objs.size f o).kindOf (ps.zip us) λ_=>none) t):
  Inv (yF CX P w K mg base N g d f o A outer s H E) [] (start N vs) H t:=by
 have B:ps.length<=N.length:=by have:=congrArg List.length S.pre;rw[List.length_take]at this;omega
 obtain⟨h1,tk,rfl,hk⟩:=x.done;have l:∀b:AI,b∉(yF CX P w K mg base N g d f o A outer s H E).ex:=λb z=>absurd (show b∈([]:AF)from z) ζ;refine⟨⟨j.mod,S.kind,rfl,rfl,Nat.le_refl _,λy z c h1 h2=>?_,λy hy=>?_,λy c _ h=>?_,λ_=>hd,Around.frames_deeper j.frames,.inr ⟨rfl,rfl⟩,λb z=>absurd z (l b),j.bs,j.bsz,λb _ _=>l b,λb z=>absurd z (l b),j.ug,j.frf⟩,
  rfl,j.bare,Un.kept hk,⟨_,x.toInCall.ns,λi y v h1 h2 F=>?_⟩,λy c h=>⟨_,x.cell y c h⟩,j.hok.fresh Δ,λy c h=>?_,λp hp=>absurd (show p∈([]:At)from hp) ζ,j.hok.kept hk,?_⟩
 ·exact name_of_addr x.apart (PySem.mem_of_lookup h1) (PySem.mem_of_lookup h2)
 ·have hy:d.names.lookup y=some .cell\/d.names.lookup y=some .free:=hy;rcases hy with hy | hy
  ·exact Zb0 hy
  ·exact absurd rfl (S.Zqu _ (PySem.mem_of_lookup hy))
 ·exact Nat.le_of_lt (x.above y c (PySem.mem_of_lookup h))
 ·have hi:i<vs.length:=by
   unfold start at h2
   by_cases hi:i<vs.length
   ·exact hi
   ·rw[List.getElem?_append_right (by simpa using hi)]at h2;rw[List.getElem?_replicate]at h2;split at h2<;>cases h2
  have D:vs[i]? =some v:=by
   unfold start at h2;rw[List.getElem?_append_left (by simpa using hi),cL]at h2;cases e:vs[i]? with
   | none=>rw[e]at h2;cases h2
   | some a=>rw[e]at h2;cases h2;rfl
  obtain⟨u,hu,C⟩:=r.get D;have hp:ps[i]? =some y:=by
   rw[<- S.pre,List.getElem?_take_of_lt δ];exact h1
  have m:ps.Nodup:=by rw[<- S.pre];exact S.nd.sublist (List.take_sublist _ _)
  refine⟨u,C,?_⟩;rcases S.par y (List.mem_of_getElem? hp)with k | k
  ·exact .inl ⟨k,Wj m hp hu k⟩
  ·obtain⟨c,e⟩:=Zb0 (n:=s.heap.objs.size+1) k;refine .inr ⟨.inl k,c,e,?_⟩;have q:=x.cell y c e;rw[Wl m hp hu (by show d.names.lookup y≠_;rw[k];decide)]at q;exact q
 ·exact j.hok.fresh (Nat.le_of_lt (x.above y c (PySem.mem_of_lookup h)))
 ·unfold start;show _=N.length;rw[List.length_append,bA,List.length_replicate];omega
theorem Zf9{CX:Y5}{P:AM}{w:AO}{K:aD}{mg:As}{base:Heap}{k:Nat}{f:AI}{name c:Str}{g:Arguments}{h:List Stmt}{a:Scope}{dV kV z O d ct oc:AJ}{M od:Option AI}
  {B:Array AB}{N ps:AH}{sp:Sp} (lk:K.lookup f=some ⟨oc,od,.func (W.fnOf name c g h a dV kV z O M d ct),B⟩) (L:W.codeIn K d c=true) (S:aO N ps a)
  (len:∀vs H Q E,sp vs H Q E->vs.length=ps.length)
  (j:∀(A:Around) (outer:List Env) (s:AK) (H:Hp) (vs:List V) (Q:VK) (E:XK),Room k (A.deeper (envOfC c a s.heap.objs.size f d))->sp vs H Q E->
   ∃t,Ri (yF CX P w K mg base N c a f d A outer s H E) h t/\t { nx:=λ_ H'=>Q .non H',rt:=Q } (start N vs) H):
  qj P w K mg base CX (k+1) f (W.fnOf name c g h a dV kV z O M d ct) ps sp:=by
 refine⟨len,λA outer s H U us vs Q E hr m hb r p=>?_⟩;have hl:=len _ _ _ _ p;have T:K.In s.heap:=m.mod.kin.keeps λb o e=>(m.bs b o e).1;have C:s.heap.NoLimit:=m.mod.nolimit.keeps λb o e=>(m.bs b o e).1;have l:∀y∈ps.zip us,a.names.lookup y.1=some .local\/(a.names.lookup y.1=some .cell/\((cellsFrom ah a.names []).lookup y.1).isSome=true):=λ⟨n,v⟩ hy=>by
  rcases S.par n (List.of_mem_zip hy).1 with q | q
  ·exact .inl q
  ·exact .inr ⟨q,W.cellsFrom_some _ _ _ (.inl q)⟩
 refine codeAny_call_function hr.depth (T _ _ lk) rfl S.co S.gen rfl (W.codeRec_of T L) (hb _ _ _ _ ?_);refine wpAny_newFunctionEnv_cells S.kind l λenv Y R x=>?_;subst Y;refine⟨C.keeps x.toInCall.keep,codeAny_func ?_⟩;obtain⟨t,X,hq⟩:=j A outer s H vs Q E (hr.deeper _) p;have I:Inv (yF CX P w K mg base N c a f d A outer s H E) [] (start N vs) H R:=VF S hr.hd m hl r x;refine wpAny_mono (X [] R (start N vs) H _ I hq) (λfl D hs=>?_) λe D hs=>hs;have fin:∀{i:St}{H':Hp}{v:V}{u:AJ},Inv (yF CX P w K mg base N c a f d A outer s H E) [] i H' D->RelV v u->Q v H'->CE outer P w H s Q u D:=
  λ{i H' v u} J F q=>⟨v,H',J.os,J.bare,J.base,J.hok,F,q⟩
 cases fl with
 | ret u=>
  obtain⟨v,i,H',J,F,q⟩:=hs;exact fin J F q
 | next=>
  obtain⟨i,H',J,q⟩:=hs;exact fin (v:=V.non) (u:=Value.none) J rfl q
 | brk=>
  obtain⟨_,_,_,q⟩:=hs;exact False.elim q
 | cont=>
  obtain⟨_,_,_,q⟩:=hs;exact False.elim q
section
variable {X:Cx}{x:Str}{p pos:Pos}{e:AN}{es:AG}{t:TA}{id T:String}{r:List V->Hp->VK->Prop}
def nQ(r:List V->Hp->VK->Prop)(t:TA):TE:=λσ H Q=>t σ H λvs a=>r vs a Q
theorem bM(hc:Kv X (.builtin id) r)(g:Gl X x)(hm:X.mg x=none)(hv:bootBuiltins x=some (.builtin id))(k:PA X (e::es) t)(hn:x≠"__name__":=by decide)(b:(x == ("__debug__":Str))=false:=by decide)
  (i:starEach (e::es) X.env=(false,eval e X.env)::starEach es X.env:=by rfl) (c:(backTo pos (starEach es X.env)).any (·.1)=false:=by rfl):PE X (.Call (.Name x p) (e::es) [] pos) (nQ r t):=by
 intro a s d H Q I h;refine wpAny_Call_Name_kw (Pk I g hm hv ?_ hn b);exact PyProof.Rows.callWith_builtin1 (gM (k pos a s d H _ I h) (by rintro us f ⟨j,H1,I1,r1,q1⟩;exact hc a f d H1 j us Q I1 r1 q1)) i c
theorem kZ(hc:Kv X (.type T) r)(g:Gl X x)(hm:X.mg x=none)(hv:bootBuiltins x=some (.type T))(k:PA X (e::es) t)(hn:x≠"__name__":=by decide)(b:(x == ("__debug__":Str))=false:=by decide)
  (i:starEach (e::es) X.env=(false,eval e X.env)::starEach es X.env:=by rfl) (c:(backTo pos (starEach es X.env)).any (·.1)=false:=by rfl):PE X (.Call (.Name x p) (e::es) [] pos) (nQ r t):=by
 intro a s d H Q I h;refine wpAny_Call_Name_kw (Pk I g hm hv ?_ hn b);exact PyProof.Rows.callWith_type1 (gM (k pos a s d H _ I h) (by rintro us f ⟨j,H1,I1,r1,q1⟩;exact hc a f d H1 j us Q I1 r1 q1)) i c
end
end L2
namespace HT
open PySem PyProof.Rows
section
open PySem.SeqAt
open PySem.AutoSeq1 (wpAny_loadPart')
open PySem.MeetsSeq PySem.MeetsSeq2 PySem.MeetsSeq3
end
section
variable {prog:AM}{w:AO}{A:Around}{E:Ap}{s:AK}
theorem Zor{t b:AI}{vs a:AC}{Q:Ap}(m:IsTup s.heap t vs.toArray)(hb:IsTup s.heap b a.toArray)(hv:vs≠[])
  (h1:a=[]->Q (.ref t) s) (h2:a≠[]->Q (.ref s.heap.objs.size) { s with heap:=s.heap.push { cls:=.type "tuple",data:=.seq (vs++a).toArray } })
  (hsz:vs.length+a.length<=sizeLine):wpAny ai A (binaryOp .Add (.ref t) (.ref b)) Q E s:=by
 obtain⟨⟨o,dd,l,sl⟩,j,hc,n,hd⟩:=id m;obtain⟨⟨k,g,data2,f⟩,c,d,n2,h⟩:=id hb;simp only at hc hd d h;subst hc hd d h;have e:vs.toArray++a.toArray=(vs++a).toArray:=ζ
 by_cases i:a=[]
 ·exact concat_meets ⟨_,j,rfl⟩ ⟨_,c,rfl⟩ noFill_tuple_add seq_tuple_add PySem.F.slot_tuple_add PySem.F.entry_tuple_add (PySem.F.args_tuple_add_2 _ _)
   (tuple_addW1 t b vs.toArray a.toArray n n2 dd g sl f (by simpa using hv) (by simp[i])) ⟨j,c,h1 i⟩
 ·refine concat_meets ⟨_,j,rfl⟩ ⟨_,c,rfl⟩ noFill_tuple_add seq_tuple_add PySem.F.slot_tuple_add PySem.F.entry_tuple_add (PySem.F.args_tuple_add_2 _ _)
   (tuple_addW2 t b vs.toArray a.toArray n n2 dd g sl f (by simpa using hv) (by simpa using i) (by rw[List.size_toArray,List.size_toArray];exact hsz)) ⟨j,c,?_⟩
  rw[e];exact h2 i
def Jp(n d:Nat):AA->Nat
 | none=>d
 | some v=>if v<0 then(v+(n:Int)).toNat else min v.toNat n
theorem Ziz(n d:Nat):Jp n d none=d:=rfl
end
end HT
namespace L2
open PySem PySem.Spec PyProof.Rows
abbrev TO:=St->Hp->(AA->Hp->Prop)->Prop
def PO(X:Cx)(e:Option AN)(t:TO):Prop:=
 ∀(pins:At) (s:AK) (σ:St) (H:Hp) (Q:AA->Hp->Prop),Inv X pins σ H s->t σ H Q->
  wpAny ς X.A (evalPart e X.env) (λu s'=>∃o H',Inv X pins σ H' s'/\IsPart u o/\Q o H') X.xe s
def Wz:TO:=λ_ H Q=>Q none H
def Ze5(t:TE):TO:=λσ H Q=>t σ H λx a=>∃i,x=.int i/\Q (some i) a
section
variable {X:Cx}{e:AN}{te:TE}{lo hi:Option AN}{tl th:TO}{pos p2:Pos}
theorem Zn9:PO X none Wz:=by
 intro a s b H Q I h;rw[evalPart_none];exact wpAny_pure ⟨none,H,I,.none,h⟩
theorem Zep(h:PE X e te):PO X (some e) (Ze5 te):=by
 intro a s c H Q I b;rw[evalPart_some];refine gM (h a s c H _ I b) λu d qc=>?_;obtain⟨x,H1,I1,r1,q1⟩:=qc;obtain⟨i,rfl,q⟩:=q1;obtain⟨t,rfl⟩:=r1;exact⟨some i,H1,I1,.int i t,q⟩
def SlR(X:Cx)(r:V->AA->AA->Hp->VK->Prop):Prop:=
 ∀(pins:At) (s:AK) (σ:St) (H:Hp) (x:V) (v a b:AJ) (lo hi:AA) (sl:AI) (Q:VK),Inv X pins σ H s->RelV x v->s.heap.IsSliceOf sl a b .none->IsPart a lo->IsPart b hi->r x lo hi H Q->
  ∃T id,typeLookup (.type T) "__getitem__"=pure (some (.builtin id))/\s.TypeIs v T/\wpAny ς X.A (getItem v (.ref sl)) (EP X pins σ Q) X.xe s
def tSl(r:V->AA->AA->Hp->VK->Prop)(te:TE)(tl th:TO):TE:=λσ H Q=>te σ H λx a=>tl σ a λl b=>th σ b λu c=>r x l u c Q
theorem ZF{r:V->AA->AA->Hp->VK->Prop}(hr:SlR X r)(p:PE X e te)(hl:PO X lo tl)(hu:PO X hi th):PE X (.Subscript e (.Slice lo hi none p2) pos) (tSl r te tl th):=by
 intro a s d H Q I h;refine Subscript_ (gM (p a s d H _ I h) λv k qc=>?_);obtain⟨x,H1,I1,r1,q1⟩:=qc;refine wpAny_Slice (gM (hl a k d H1 _ I1 q1) λf i ⟨l,H2,I2,pl,q2⟩=>gM (hu a i d H2 _ I2 q2) λg c qc=>?_);obtain⟨u,H3,I3,pu,q3⟩:=qc;rw[evalPart_none];refine wpAny_pure ?_;have o:Inv X a d H3 { c with heap:=c.heap.push { cls:=.type "slice",data:=.fields #[f,g,.none] } }:=I3.kept (t':=c.toks) λb ob q=>Heap.get?_push_of_some _ q;obtain⟨T,id,j,m,n⟩:=hr a { c with heap:=c.heap.push { cls:=.type "slice",data:=.fields #[f,g,.none] } } d H3 x v f g l u c.heap.objs.size Q o r1 (Heap.IsSliceOf.new ..) pl pu q3;show wpAny ς X.A (subscriptTail e (.Slice lo hi none p2) v (.ref c.heap.objs.size)) (EP X a d Q) X.xe { c with heap:=c.heap.push { cls:=.type "slice",data:=.fields #[f,g,.none] } };exact tail_any (ops:=[.ref c.heap.objs.size,v]) m j n (by with_unfolding_all rfl)
def Yx(xs:List V)(lo hi:AA):List V:=(xs.drop (HT.Jp xs.length 0 lo)).take (HT.Jp xs.length xs.length hi - HT.Jp xs.length 0 lo)
theorem Zay(xs:List V)(lo hi:AA):(Yx xs lo hi).length<=xs.length:=by
 unfold Yx;rw[List.length_take,List.length_drop];omega
def Zp9(K:aD):R2:=λx y H Q=>∃a b xs c,x=.ref a/\y=.ref b/\fj K H a xs/\fj K H b c/\xs≠[]/\xs.length+c.length<=sizeLine/\
 (c=[]->Q (.ref a) H)/\(c≠[]->∀p,H p=none->Q (.ref p) (upd H p (.tup (xs++c))))
theorem Vals.Xl{xs:List V}{us:AC}(r:Vals xs us):us=[]↔xs=[]:=by
 cases r with
 | nil=>simp
 | cons _ _=>simp
theorem Zni:wQ X (binaryOp .Add) (Zp9 X.K):=by
 intro d s p H x y v u Q I e g h;obtain⟨a,b,k,n,rfl,rfl,m,hb,hx,hz,f,l⟩:=h;cases e;cases g;obtain⟨j,r1,i,_⟩:=I.tuple m;obtain⟨c,r2,p2,_⟩:=I.tuple hb;refine HT.Zor i p2 (λz=>hx (r1.Xl.mp z)) (λz=>⟨.ref a,H,I,rfl,f (r2.Xl.mp z)⟩) (λz=>?_) (by rw[<- r1.length,<- r2.length];exact hz);refine⟨.ref s.heap.objs.size,_,I.laid (t':=s.toks) (o:=.tup (k++n)) (λb ob q=>Heap.get?_push_of_some _ q) Δ ?_,rfl,l (λw=>z (r2.Xl.mpr w)) _ (I.hok.fresh Δ)⟩;exact⟨by rw[List.length_append];exact hz,_,r1.append r2,IsTup.new _ _⟩
end
def ixN(n:Nat)(i:Int):Option Nat:=if 0<=i then(if i<n then some i.toNat else none)else if -(n:Int)<=i then some (i+n).toNat else none
def QJ{a:Type}(xs:List a)(i:Int):Option a:=(ixN xs.length i).bind λj=>xs[j]?
theorem Zf6{n:Nat}{i:Int}{j:Nat}(h:ixN n i=some j):seqIndex? i n=some j/\j<n/\-(n:Int)<=i/\i<n:=by
 unfold ixN at h
 by_cases a:0<=i
 ·rw[if_pos a]at h
  by_cases h1:i<n
  ·rw[if_pos h1]at h;have e:i.toNat=j:=Option.some.inj h;exact⟨by rw[seqIndex_of a h1,e],δ,δ,h1⟩
  ·rw[if_neg h1]at h;cases h
 ·rw[if_neg a]at h
  by_cases h1:-(n:Int)<=i
  ·rw[if_pos h1]at h;have e:(i+n).toNat=j:=Option.some.inj h;exact⟨by rw[seqIndex_neg δ h1,e],δ,h1,δ⟩
  ·rw[if_neg h1]at h;cases h
theorem YD{a:Type}{xs:List a}{i:Int}{v:a}(h:QJ xs i=some v):∃j,seqIndex? i xs.length=some j/\xs[j]? =some v/\j<xs.length/\-(xs.length:Int)<=i/\i<xs.length:=by
 unfold QJ at h;cases e:ixN xs.length i with
 | none=>rw[e]at h;cases h
 | some j=>
  rw[e]at h;obtain⟨h1,h2,b,h4⟩:=Zf6 e;exact⟨j,h1,h,h2,b,h4⟩
theorem eN{a:Type}{xs:List a}{j:Nat}{v:a}(h:xs[j]? =some v):QJ xs (j:Int)=some v:=by
 have b:j<xs.length:=(dj h).1;have e:ixN xs.length (j:Int)=some j:=by
  unfold ixN;rw[if_pos δ,if_pos δ];simp
 unfold QJ;rw[e];exact h
theorem Zb4{a:Type}(xs:List a)(v:a):QJ (xs++[v]) (-1)=some v:=by
 have hl:(xs++[v]).length=xs.length+1:=ζ
 have e:ixN (xs++[v]).length (-1)=some xs.length:=by
  unfold ixN;rw[hl,if_neg ε,if_pos δ];congr 1;omega
 unfold QJ;rw[e];show(xs++[v])[xs.length]? =some v;simp
def YS(b:AN):Prop:=∀o i,subscripted b false o i=operate [o,i] (getItem o i)
def IxR(X:Cx)(r:R2):Prop:=
 ∀(b a:AN) (pins:At) (s:AK) (σ:St) (H:Hp) (x y:V) (v u:AJ) (Q:VK),Inv X pins σ H s->RelV x v->RelV y u->r x y H Q->
  subscripted a false v u=operate [v,u] (getItem v u)->wpAny ς X.A (subscriptTail b a v u) (EP X pins σ Q) X.xe s
def MtR(X:Cx)(id:String)(r:V->List V->Hp->VK->Prop):Prop:=
 ∀(pins:At) (s:AK) (σ:St) (H:Hp) (x:V) (xs:List V) (v:AJ) (us:AC) (Q:VK),Inv X pins σ H s->RelV x v->Vals xs us->r x xs H Q->
  wpAny ς X.A (call (.builtin id) (v::us)) (EP X pins σ Q) X.xe s
section
variable {X:Cx}{a b:AN}{ta tb:TE}{pos:Pos}
theorem Zpd{r:R2}(hr:IxR X r)(k:PE X a ta)(hb:PE X b tb)(hs:YS b):PE X (.Subscript a b pos) (aV r ta tb):=by
 intro c s i H Q I h;exact Subscript_ (Zsn k hb I h λv u e x y g j d f q=>hr a b c e i g x y v u Q j d f q (hs _ _))
def dM(K:aD):R2:=λx y H Q=>∃p xs i v,x=.ref p/\y=.int i/\cJ K H p xs/\QJ xs i=some v/\Q v H
def dG(K:aD):R2:=λx y H Q=>∃p xs i v,x=.ref p/\y=.int i/\fj K H p xs/\QJ xs i=some v/\Q v H
def Zc6:R2:=λx y H Q=>∃z i c,x=.str z/\y=.int i/\z.length<=sizeLine/\QJ z.cps.toList i=some c/\Q (.str ⟨#[c]⟩) H
theorem bF:IxR X (dM X.K):=by
 intro c e a s k H x y v u Q I n o h hs;obtain⟨p,D,i,z,rfl,rfl,hq,B,q⟩:=h;cases n;obtain⟨t,rfl⟩:=o;obtain⟨f,r,d,hz⟩:=I.list hq;obtain⟨j,h1,h2,C,h4,h5⟩:=YD B;obtain⟨w,l,g⟩:=r.get h2;have hl:=r.length;have hn:=HB;have fin:EP X a k Q w s:=⟨z,H,I,g,q⟩
 by_cases m:0<=i
 ·have b:i.toNat=j:=by
   rw[seqIndex_of m h5]at h1;exact Option.some.inj h1
  exact item_listR d.isList m δ (by rw[b];simpa using l) fin hs
 ·have b:(i+(f.toArray.size:Int)).toNat=j:=by
   rw[seqIndex_neg δ h4]at h1;rw[List.size_toArray,<- hl];exact Option.some.inj h1
  exact subscriptTail_builtinR (x:=w) d.isList.typeIs slot_list_getitem.lookup
   (wpAny_getItem_list_neg (Q:=λr A=>r=w/\EP X a k Q r A) d.isList δ (by rw[List.size_toArray]<;>omega) δ (by rw[b];simpa using l) ⟨rfl,fin⟩) hs
theorem bH:IxR X (dG X.K):=by
 intro b c a s f H x y v u Q I g k h hs;obtain⟨p,B,i,z,rfl,rfl,hq,o,q⟩:=h;cases g;obtain⟨t,rfl⟩:=k;obtain⟨m,r,e,hz⟩:=I.tuple hq;obtain⟨j,h1,h2,A,h4,h5⟩:=YD o;obtain⟨w,n,d⟩:=r.get h2;have hl:=r.length;have hn:=HB;have fin:EP X a f Q w s:=⟨z,H,I,d,q⟩;exact subscriptTail_builtinR (x:=w) e.typeIs slot_tuple_getitem.lookup
  (getItem_tuple (j:=j) (Q:=λr l=>r=w/\EP X a f Q r l) e δ δ (by rw[List.size_toArray,<- hl];exact h1) (by simpa using n) ⟨rfl,fin⟩) hs
theorem Zl2:IxR X Zc6:=by
 intro a b d s n H x y v u Q I e f h hs;obtain⟨z,i,c,rfl,rfl,hz,k,q⟩:=h;obtain⟨t,rfl⟩:=e;obtain⟨m,rfl⟩:=f;obtain⟨j,h1,h2,o,h4,h5⟩:=YD k;have hl:z.cps.toList.length=z.length:=by simp[Str.length]
 rw[hl]at h1 h4 h5;have hn:=HB;exact tail_any (typeIs_str s z t) slot_str_getitem.lookup (getItem_str (c:=c) (by
  have l:decide (i < -(2 ^ 63:Int))=false:=decide_eq_false δ;have g:decide (i≥2 ^ 63)=false:=decide_eq_false δ;rw[l,g,Bool.or_false]) (by rw[h1];simpa using h2) ⟨.str ⟨#[c]⟩,H,I.tok _,⟨_,rfl⟩,q⟩) hs
theorem Zcl(a:AC)(n j:Nat)(u:AJ):Obj.mapSeq (·.setIfInBounds j u) { cls:=.type "list",data:=.seq a.toArray n }={ cls:=.type "list",data:=.seq (a.set j u).toArray n }:=by
 simp[Obj.mapSeq]
theorem Inv.lst{pins:At}{σ:St}{H:Hp}{s:AK}{p:AI}{xs:List V}(I:Inv X pins σ H s)(h:H p=some (.lst xs)):
  ∃(a:AC) (n:Nat),Vals xs a/\s.heap.get? p=some { cls:=.type "list",data:=.seq a.toArray n }/\xs.length<=sizeLine:=by
 obtain⟨z,a,n,r,e⟩:=I.hok p _ h;exact⟨a,n,r,e,z⟩
theorem Inv.Zr2{pins:At}{σ:St}{H:Hp}{s:AK}{p:AI}{xs d:List V}{a its':AC}{n c:Nat}{f:Obj->Obj}(I:Inv X pins σ H s)(h:H p=some (.lst xs))
  (i:s.heap.get? p=some { cls:=.type "list",data:=.seq a.toArray n }) (g:f { cls:=.type "list",data:=.seq a.toArray n }={ cls:=.type "list",data:=.seq its'.toArray c }) (r:Vals d its') (hz:d.length<=sizeLine) (t:Nat):
  Inv X pins σ (upd H p (.lst d)) { s with heap:=s.heap.update p f,toks:=t }:=by
 have e:(s.heap.update p f).get? p=some { cls:=.type "list",data:=.seq its'.toArray c }:=by
  rw[Heap.get?_update_self f i (by rw[g]<;>rfl),g]
 refine I.write (x:=p) (e:=p) (by rw[h];trivial) (.inl rfl) (λb u hb q=>(Heap.get?_update_other _ _ (Ne.symm hb)).trans q) ⟨_,e⟩ ?_;exact⟨hz,its',c,r,e⟩
def Aa:V->V->V->Hp->(Hp->Prop)->Prop:=λo i v H Q=>∃p xs k j,o=.ref p/\i=.int k/\H p=some (.lst xs)/\ixN xs.length k=some j/\Q (upd H p (.lst (xs.set j v)))
theorem set_list:Zv1 X Aa:=by
 intro b s l H o i v y iv u Q I ro x w h;obtain⟨p,m,k,j,rfl,rfl,hp,g,q⟩:=h;cases ro;obtain⟨t,rfl⟩:=x;obtain⟨a,n,r,c,hz⟩:=I.lst hp;obtain⟨h1,h2,f,h4⟩:=Zf6 g;have hl:=r.length;have hn:=HB;have d:Inv X b l (upd H p (.lst (m.set j v))) { s with heap:=s.heap.update p (Obj.mapSeq (·.setIfInBounds j u)) }:=
  I.Zr2 hp c (Zcl a n j u) (r.set w j) (by rw[List.length_set];exact hz) s.toks
 by_cases e:0<=k
 ·have hk:k.toNat=j:=by
   rw[seqIndex_of e h4]at h1;exact Option.some.inj h1
  exact W.ki_setAt c e δ (by rw[List.size_toArray,<- hl];exact h4) (by rw[hk];exact⟨_,d,q⟩)
 ·have hk:(k+(a.toArray.size:Int)).toNat=j:=by
   rw[seqIndex_neg δ f]at h1;rw[List.size_toArray,<- hl];exact Option.some.inj h1
  exact W.ki_setBack c δ (by rw[List.size_toArray,<- hl];exact f) δ (by rw[hk];exact⟨_,d,q⟩)
theorem W6(lo hi:AA)(n:Nat):(sliceBounds lo hi none n).1=((HT.Jp n 0 lo:Nat):Int)/\(sliceBounds lo hi none n).2.1=((HT.Jp n n hi:Nat):Int)/\(sliceBounds lo hi none n).2.2=1:=by
 refine⟨?_,?_,rfl⟩
 ·cases lo with
  | none=>simp[sliceBounds,HT.Jp]
  | some i=>
   simp only[sliceBounds,HT.Jp,Option.getD_none,show(1:Int) > 0 by decide,if_true]
   by_cases h:i<0
   ·simp only[h,if_true]<;>omega
   ·simp only[h,if_false]<;>omega
 ·cases hi with
  | none=>simp[sliceBounds,HT.Jp]
  | some i=>
   simp only[sliceBounds,HT.Jp,Option.getD_none,show(1:Int) > 0 by decide,if_true]
   by_cases h:i<0
   ·simp only[h,if_true]<;>omega
   ·simp only[h,if_false]<;>omega
theorem RL(a:AC)(lo hi:AA):slicePick a.toArray lo hi none=((a.drop (HT.Jp a.length 0 lo)).take (HT.Jp a.length a.length hi - HT.Jp a.length 0 lo)).toArray:=by
 obtain⟨h1,h2,b⟩:=W6 lo hi a.toArray.size;unfold slicePick;rw[h1,h2,b];simp only[sliceRange_one,pick_run,List.size_toArray]<;>rfl
def Zgk(K:aD):V->AA->AA->Hp->VK->Prop:=λx lo hi H Q=>∃a xs,x=.ref a/\cJ K H a xs/\∀p,H p=none->Q (.ref p) (upd H p (.lst (Yx xs lo hi)))
theorem Ze9:SlR X (Zgk X.K):=by
 intro f s m H x v l n lo hi sl Q I g hs i k h;obtain⟨a,c,rfl,hx,q⟩:=h;cases g;obtain⟨j,r,e,hz⟩:=I.list hx;have d:=r.length;refine⟨"list",_,slot_list_getitem.lookup,e.isList.typeIs,?_⟩;refine wpAny_getItem_list_slice e.isList hs i k .none ζ ?_ (by rw[List.size_toArray]<;>omega);rw[RL,<- d];refine⟨.ref s.heap.objs.size,_,I.laid (t':=s.toks) (o:=.lst (Yx c lo hi)) (λb ob q=>Heap.get?_push_of_some _ q) Δ ?_,rfl,q _ (I.hok.fresh Δ)⟩;exact⟨Nat.le_trans (Zay c lo hi) hz,_,0,(r.drop (HT.Jp c.length 0 lo)).take (HT.Jp c.length c.length hi - HT.Jp c.length 0 lo),Heap.get?_push_size _ rfl⟩
def nF:V->Bool
 | .non=>true
 | .bl _=>true
 | .int _=>true
 | .str _=>true
 | _=>false
def eqV:V->V->Bool
 | .non,.non=>true
 | .bl a,.bl b=>a == b
 | .bl a,.int b=>(if a then 1 else 0) == b
 | .int a,.bl b=>a == (if b then 1 else 0)
 | .int a,.int b=>a == b
 | .str a,.str b=>a == b
 | _,_=>false
theorem u5{A:Around}{s:AK}{y x:V}{u v:AJ}(f:RelV y u)(c:RelV x v)(g:nF y=true)(e:nF x=true):SeqAt.EqAt A s u v (eqV y x):=by
 cases y with
 | non=>
  cases f;cases x with
  | non=>cases c;exact SeqAt.EqAt.same _
  | bl b=>cases c;exact SeqAt.EqAt.none_bool b
  | int b=>obtain⟨t,rfl⟩:=c;exact SeqAt.EqAt.none_int b t
  | str b=>obtain⟨t,rfl⟩:=c;exact SeqAt.EqAt.none_str b t
  | _=>exact absurd (show false=true from e) Bool.false_ne_true
 | bl a=>
  cases f;cases x with
  | non=>cases c;exact SeqAt.EqAt.bool_none a
  | bl b=>cases c;exact SeqAt.EqAt.bool_bool a b
  | int b=>obtain⟨t,rfl⟩:=c;exact SeqAt.EqAt.bool_int a b t
  | str b=>obtain⟨t,rfl⟩:=c;exact SeqAt.EqAt.bool_str a b t
  | _=>exact absurd (show false=true from e) Bool.false_ne_true
 | int a=>
  obtain⟨d,rfl⟩:=f;cases x with
  | non=>cases c;exact SeqAt.EqAt.int_none a d
  | bl b=>cases c;exact SeqAt.EqAt.int_bool a d b
  | int b=>obtain⟨t,rfl⟩:=c;exact SeqAt.EqAt.int_int a d b t
  | str b=>obtain⟨t,rfl⟩:=c;exact SeqAt.EqAt.int_str a d b t
  | _=>exact absurd (show false=true from e) Bool.false_ne_true
 | str a=>
  obtain⟨d,rfl⟩:=f;cases x with
  | non=>cases c;exact SeqAt.EqAt.str_none a d
  | bl b=>cases c;exact SeqAt.EqAt.str_bool a d b
  | int b=>obtain⟨t,rfl⟩:=c;exact SeqAt.EqAt.str_int a d b t
  | str b=>obtain⟨t,rfl⟩:=c;exact SeqAt.EqAt.str_str a d b t
  | _=>exact absurd (show false=true from e) Bool.false_ne_true
 | _=>exact absurd (show false=true from g) Bool.false_ne_true
def eqU(x:V)(u:AJ):Bool:=match u with
 | .none=>eqV .non x
 | .bool b=>eqV (.bl b) x
 | .int i _=>eqV (.int i) x
 | .str z _=>eqV (.str z) x
 | _=>false
theorem Zlw{x y:V}{u:AJ}(r:RelV y u)(f:nF y=true):eqU x u=eqV y x:=by
 cases y with
 | non=>cases r;rfl
 | bl b=>cases r;rfl
 | int i=>obtain⟨t,rfl⟩:=r;rfl
 | str z=>obtain⟨t,rfl⟩:=r;rfl
 | _=>exact absurd (show false=true from f) Bool.false_ne_true
theorem Zfr{x:V}{xs:List V}{us:AC}(h:Vals xs us):xs.all nF=true->us.any (eqU x)=xs.any λy=>eqV y x:=by
 induction h with
 | nil=>
  intro _;rfl
 | cons r t ih=>
  intro f;rw[List.all_cons,Bool.and_eq_true]at f;rw[List.any_cons,List.any_cons,Zlw r f.1,ih f.2]
theorem Za0{A:Around}{s:AK}{x:V}{v:AJ}(b:RelV x v)(a:nF x=true){xs:List V}{us:AC}(h:Vals xs us):xs.all nF=true->∀u∈us,SeqAt.EqAt A s u v (eqU x u):=by
 induction h with
 | nil=>
  intro _ u hu;cases hu
 | cons r t ih=>
  intro f c hu;rw[List.all_cons,Bool.and_eq_true]at f;rcases List.mem_cons.mp hu with rfl | hu
  ·rw[Zlw r f.1];exact u5 r b f.1 a
  ·exact ih f.2 c hu
def inV(x:V)(xs:List V):Bool:=xs.any λy=>eqV y x
def rIn(K:aD)(a:Bool):R2:=λx y H Q=>∃p xs,y=.ref p/\(cJ K H p xs\/fj K H p xs)/\nF x=true/\xs.all nF=true/\Q (.bl (if a then !inV x xs else inV x xs)) H
theorem Vh:wQ X (compareOp .In) (rIn X.K false):=by
 intro f s i H x y v u Q I e g h;obtain⟨p,j,rfl,hq,d,fs,q⟩:=h;cases g;rcases hq with hq | hq
 ·obtain⟨a,r,c,hz⟩:=I.list hq;refine SeqAt.in_listAt (eqU x) c.isList (λw b=>Za0 e d r fs w (by simpa using b)) ⟨.bl _,H,I,rfl,?_⟩;rw[show a.toArray.any (eqU x)=a.any (eqU x) by simp,Zfr r fs];exact q
 ·obtain⟨a,r,c,hz⟩:=I.tuple hq;refine SeqAt.in_tupleAt (eqU x) c (λw b=>Za0 e d r fs w (by simpa using b)) ⟨.bl _,H,I,rfl,?_⟩;rw[show a.toArray.any (eqU x)=a.any (eqU x) by simp,Zfr r fs];exact q
theorem Yy:Kv X (.builtin "len") (λxs H Q=>∃p b,xs=[.ref p]/\(cJ X.K H p b\/fj X.K H p b)/\Q (.int b.length) H):=by
 intro f s i H xs us Q I r h;obtain⟨p,b,rfl,hq,q⟩:=h;obtain⟨u,rfl,g⟩:=vals1 r;cases g;have hn:=HB;rcases hq with hq | hq
 ·obtain⟨d,e,c,hz⟩:=I.list hq;have a:=e.length;exact Calls.call_len_list c.isList (by simp only[List.size_toArray]<;>omega) ⟨.int b.length,H,I.tok _,⟨s.toks+1,by rw[List.size_toArray,a]⟩,q⟩
 ·obtain⟨d,e,c,hz⟩:=I.tuple hq;have a:=e.length;exact len_tuple c (by simp only[List.size_toArray]<;>omega) ⟨.int b.length,H,I.tok _,⟨s.toks+1,by rw[List.size_toArray,a]⟩,q⟩
theorem Gx:Kv X (.type "list") (λxs H Q=>∃p g,xs=[.ref p]/\(cJ X.K H p g\/fj X.K H p g)/\∀l,H l=none->Q (.ref l) (upd H l (.lst g))):=by
 intro j s x H xs us Q I r h;obtain⟨p,g,rfl,hq,q⟩:=h;obtain⟨u,rfl,v⟩:=vals1 r;cases v;have fin:∀(a:AC),Vals g a->g.length<=sizeLine->∀(c:Heap) (d:Nat),(∀b t,s.heap.get? b=some t->c.get? b=some t)->
   c.get? s.heap.objs.size=some { cls:=.type "list",dict:=none,data:=.seq a.toArray d,slots:=#[] }->EP X j x Q (.ref s.heap.objs.size) { s with heap:=c }:=λa f hz c d kp e=>
  ⟨.ref s.heap.objs.size,_,I.laid (t':=s.toks) kp Δ (show gZ X.prog X.w _ c _ (.lst g)from⟨hz,a,d,f,e⟩),rfl,q _ (I.hok.fresh Δ)⟩
 rcases hq with hq | hq
 ·obtain⟨a,f,k,hz⟩:=I.list hq;have i:=f.length;obtain⟨o,m,hc,n,hd⟩:=k.isList;exact call_list_seq p (.inl rfl) m hc hd (λc d kp e=>fin a f hz c d kp e) (by simp only[List.size_toArray]<;>omega)
 ·obtain⟨a,f,k,hz⟩:=I.tuple hq;have i:=f.length;obtain⟨o,m,hc,n,hd⟩:=k;exact call_list_seq p (.inr rfl) m hc hd (λc d kp e=>fin a f hz c d kp e) (by simp only[List.size_toArray]<;>omega)
def tyV(K:aD)(T:String)(x:V)(H:Hp):Prop:=match x with
 | .str _=>T="str"
 | .int _=>T="int"
 | .ref p=>(T="list"/\∃xs,cJ K H p xs)\/(T="tuple"/\∃o,K.lookup p=some o/\o.cls=.type "tuple"/\o.dict=none)\/
   (T="dict"/\((∃a,H p=some (.dK a))\/∃a,H p=some (.dT a)))\/(T="set"/\∃S n,H p=some (.set S n))
 | _=>False
theorem Zpy{pins:At}{σ:St}{H:Hp}{s:AK}{T:String}{x:V}{v:AJ}(I:Inv X pins σ H s)(r:RelV x v)(ty:tyV X.K T x H):
  s.TypeIs v T/\∀a,v=.ref a->∃ob,s.heap.get? a=some ob/\ob.dict=none:=by
 cases x with
 | str z=>
  obtain⟨t,rfl⟩:=r;cases (show T="str" from ty);exact⟨typeIs_str s z t,λ_ e=>nomatch e⟩
 | int i=>
  obtain⟨t,rfl⟩:=r;cases (show T="int" from ty);exact⟨typeIs_int s i t,λ_ e=>nomatch e⟩
 | ref p=>
  cases r;rcases ty with ⟨rfl,h,hq⟩ | ⟨rfl,o,hk,hc,hd⟩ | ⟨rfl,hk⟩ | ⟨rfl,S,n,hk⟩
  ·obtain⟨g,_,f,_⟩:=I.list hq;refine⟨f.isList.typeIs,λa e=>?_⟩;cases e;obtain⟨o,n,e,c,hd,_⟩:=f;exact⟨o,e,hd⟩
  ·refine⟨⟨o,I.qt p o hk,hc⟩,λa e=>?_⟩;cases e;exact⟨o,I.qt _ o hk,hd⟩
  ·have z:∃o,s.heap.get? p=some o/\o.ExactDict:=by
    rcases hk with ⟨d,hk⟩ | ⟨d,hk⟩
    ·obtain⟨_,_,_,_,o,_,_,e,ex,_⟩:=I.hok p _ hk;exact⟨o,e,ex⟩
    ·obtain⟨_,_,_,_,o,_,_,e,ex,_⟩:=I.hok p _ hk;exact⟨o,e,ex⟩
   obtain⟨o,e,ex⟩:=z;refine⟨⟨o,e,ex.1⟩,λa b=>?_⟩;cases b;exact⟨o,e,ex.2.1⟩
  ·obtain⟨o,_,_,_,e,ex,_⟩:=I.hok p _ hk;refine⟨⟨o,e,ex.1⟩,λa b=>?_⟩;cases b;exact⟨o,e,ex.2.1⟩
 | _=>exact False.elim ty
def tBM(K:aD)(T:String)(r:V->List V->Hp->VK->Prop)(to:TE)(t:TA):TE:=λσ H Q=>to σ H λx a=>tyV K T x a/\t σ a λxs b=>r x xs b Q
variable {o e:AN}{es:AG}{to:TE}{t:TA}{name:Str}{apos cpos:Pos}{T id:String}{r:V->List V->Hp->VK->Prop}
theorem xW(m:PlainAttrs T)(slot:Slot T name id)(g:typeOf (.builtin id)=pure (.type "method_descriptor"))(hm:MtR X id r)(u:PE X o to)(y:PA X (e::es) t)
  (c:attributeBase o name X.env (eval o X.env)=eval o X.env:=by rfl)
  (f:((backTo cpos (starEach (e::es) X.env)).all (λx=>!x.1) && (backToKw cpos (keywordEach [] X.env)).all (λx=>x.1.isSome)
   && decide ((e::es).length+([]:List Keyword).length+(if ([]:List Keyword).isEmpty then 0 else 1)<30))=true:=by rfl)
  (d:(apos.endLine == cpos.line)=true:=by rfl) (hs:starEach (e::es) X.env=(false,eval e X.env)::starEach es X.env:=by rfl) (b:(backTo cpos (starEach es X.env)).any (·.1)=false:=by rfl):
  PE X (.Call (.Attribute o name apos) (e::es) [] cpos) (tBM X.K T r to t):=by
 intro a s i H Q I h;refine wpAny_Call_method_late c f d rfl (gM (u a s i H _ I h) λv l qc=>?_);obtain⟨x,H1,I1,r1,ty,q1⟩:=qc;obtain⟨h1,h2⟩:=Zpy I1 r1 ty;refine⟨T,id,m,slot,g,h1,h2,?_⟩;have j:=y cpos a l i H1 _ I1 q1;rw[hs]at j ⊢;refine Calls.callWith_builtin (by show(false || (backTo cpos (starEach es X.env)).any (·.1))=false;rw[b]<;>rfl) (Calls.evalArgs_plain ?_);exact gM j (by rintro us k ⟨q,n,p,r2,w⟩;exact hm a k i n x q v us Q p r1 r2 w)
end
def MtM(X:Cx)(id:String)(r:V->List V->Hp->VK->Prop):Prop:=
 ∀(pins:At) (s:AK) (σ:St) (H:Hp) (x:V) (xs:List V) (v:AJ) (us:AC) (Q:VK),Inv X pins σ H s->RelV x v->Vals xs us->r x xs H Q->
  wpAny ς X.A (call (.builtin id) (v::us)) (EP X pins σ Q) X.xe s
theorem Vals.one{x:V}{us:AC}(h:Vals [x] us):∃u,us=[u]/\RelV x u:=by
 cases h with
 | cons r t=>
  cases t;exact⟨_,rfl,r⟩
theorem Vals.eraseIdx:∀{xs:List V}{us:AC} (i:Nat),Vals xs us->Vals (xs.eraseIdx i) (us.eraseIdx i)
 | _,_,_,.nil=>.nil
 | _,_,0,.cons _ t=>t
 | _,_,i+1,.cons r t=>.cons r (Vals.eraseIdx i t)
theorem Vals.rep{xs:List V}{us:AC}(h:Vals xs us):∀k:Nat,Vals (List.replicate k xs).flatten (List.replicate k us).flatten
 | 0=>.nil
 | k+1=>by
  rw[List.replicate_succ,List.replicate_succ,List.flatten_cons,List.flatten_cons];exact Vals.append h (Vals.rep h k)
theorem VB{a:Type}:∀(l:List a) (i:Nat),(l.eraseIdx i).length<=l.length
 | [],_=>Nat.le_refl _
 | _::_,0=>Nat.le_succ _
 | _::r,i+1=>Nat.succ_le_succ (VB r i)
theorem foldl_rep(a:AC):∀(k:Nat) (acc:AC),
  List.foldl (λc b=>c++b) acc.toArray (List.replicate k a.toArray)=(acc++(List.replicate k a).flatten).toArray
 | 0,acc=>ζ
 | k+1,acc=>by
  have e:acc.toArray++a.toArray=(acc++a).toArray:=ζ
  have d:(acc++a)++(List.replicate k a).flatten=acc++(List.replicate (k+1) a).flatten:=by
   rw[List.replicate_succ,List.flatten_cons,List.append_assoc]
  rw[<- d,<- foldl_rep a k (acc++a),<- e,List.replicate_succ,List.foldl_cons]
section
variable {X:Cx}{pins:At}{σ:St}{H:Hp}{s:AK}{l b:AI}{xs ys zs:List V}
theorem Inv.Zr3{a its':AC}{n:Nat}{f:Array AJ->Array AJ}{t':Nat}(I:Inv X pins σ H s)(c:H l=some (.lst xs))
  (e:s.heap.get? l=some { cls:=.type "list",data:=.seq a.toArray n }) (b:f a.toArray=its'.toArray) (hv:Vals ys its') (hz:ys.length<=sizeLine):
  Inv X pins σ (upd H l (.lst ys)) { s with heap:=s.heap.update l (Obj.mapSeq f),toks:=t' }:=by
 have q:=PySem.IsL.update e f;rw[b]at q;refine I.write (x:=l) (e:=l) (by rw[c];exact trivial) (.inl rfl) (λd u hb hu=>(Heap.get?_update_other s.heap (Obj.mapSeq f) (Ne.symm hb)).trans hu) ⟨_,q⟩ ?_;exact⟨hz,its',_,hv,q⟩
theorem Inv.Ztf{a:AC}{t':Nat}(I:Inv X pins σ H s)(hv:Vals ys a)(hz:ys.length<=sizeLine):
  Inv X pins σ (upd H s.heap.objs.size (.lst ys)) { s with heap:=s.heap.push { cls:=.type "list",data:=.seq a.toArray },toks:=t' }:=
 I.laid (λ_ _ q=>Heap.get?_push_of_some _ q) Δ ⟨hz,a,0,hv,Heap.get?_push_size _ rfl⟩
theorem Inv.fresh(I:Inv X pins σ H s):H s.heap.objs.size=none:=I.hok.fresh Δ
theorem Inv.Zcp(I:Inv X pins σ H s)(b:H l=some (.lst xs)):xs.length<=sizeLine/\∃(a:AC) (n:Nat),Vals xs a/\xs.length=a.length/\s.heap.get? l=some { cls:=.type "list",data:=.seq a.toArray n }:=by
 obtain⟨z,a,n,r,e⟩:=I.hok l _ b;exact⟨z,a,n,r,r.length,e⟩
theorem ZX{n:Nat}(h:n<=sizeLine):Builtin.List.listTooLong n=false:=by
 unfold Builtin.List.listTooLong;exact decide_eq_false δ
end
section
variable {X:Cx}
def uG:V->List V->Hp->VK->Prop:=λx vs H Q=>∃l xs y,x=.ref l/\vs=[y]/\H l=some (.lst xs)/\xs.length<sizeLine/\Q .non (upd H l (.lst (xs++[y])))
theorem mC:MtM X "list.append" uG:=by
 intro b s i H x k v us Q I d g h;obtain⟨l,j,y,rfl,rfl,c,hz,q⟩:=h;cases d;obtain⟨u,rfl,f⟩:=g.one;obtain⟨z,a,n,r,hl,e⟩:=I.Zcp c;refine call_meets F.slot_list_append ⟨_,e,rfl⟩ F.entry_list_append (F.args_list_append_2 _ _) (PySem.list_append l a.toArray n u (by rw[List.size_toArray];omega)) ⟨e,?_⟩;refine⟨.non,_,I.Zr3 (its':=a++[u]) c e ζ (r.append (.cons f .nil)) ?_,rfl,q⟩;rw[List.length_append,List.length_singleton];omega
def Lq:V->List V->Hp->VK->Prop:=λx vs H Q=>∃l b xs a,x=.ref l/\vs=[.ref b]/\H l=some (.lst xs)/\H b=some (.lst a)/\xs.length+a.length<=sizeLine/\Q .non (upd H l (.lst (xs++a)))
theorem Hw:MtM X "list.extend" Lq:=by
 intro g s w H x A v us Q I j p h;obtain⟨l,b,y,C,rfl,rfl,i,t,hz,q⟩:=h;cases j;obtain⟨u,rfl,o⟩:=p.one;cases o;obtain⟨z,c,n,r,hl,e⟩:=I.Zcp i;obtain⟨B,a,n2,r2,m,k⟩:=I.Zcp t;have d:c.toArray.size+a.toArray.size<=sizeLine:=by rw[List.size_toArray,List.size_toArray];omega
 have f:¬ (!c.toArray.isEmpty && Builtin.List.listTooLong (c.toArray.size+a.toArray.size))=true:=by
  rw[ZX d,Bool.and_false];exact Bool.false_ne_true
 refine call_meets F.slot_list_extend ⟨_,e,rfl⟩ F.entry_list_extend (F.args_list_extend_2 _ _)
  (AutoSeq1.list_extend_list_list_0 l c.toArray n b a.toArray n2 f (by rw[List.size_toArray];omega) δ) ⟨e,k,?_⟩
 refine⟨.non,_,I.Zr3 (its':=c++a) i e ζ (r.append r2) ?_,rfl,q⟩;rw[List.length_append];omega
def Zj8:V->List V->Hp->VK->Prop:=λx vs H Q=>∃l xs i k y,x=.ref l/\vs=[.int i]/\H l=some (.lst xs)/\-(2 ^ 63)<=i/\i<2 ^ 63/\seqIndex? i xs.length=some k/\xs[k]? =some y/\Q y (upd H l (.lst (xs.eraseIdx k)))
theorem Zkh:MtM X "list.pop" Zj8:=by
 intro c s p H x A v us Q I f o h;obtain⟨l,j,i,k,y,rfl,rfl,d,h1,h2,hk,hy,q⟩:=h;cases f;obtain⟨u,rfl,m⟩:=o.one;obtain⟨t,rfl⟩:=m;obtain⟨z,a,n,r,hl,e⟩:=I.Zcp d;obtain⟨w,g,b⟩:=r.get hy;refine call_meets F.slot_list_pop ⟨_,e,rfl⟩ F.entry_list_pop (F.args_list_pop_2 _ _)
  (MeetsSeq.list_pop_at l a.toArray n i t k w (fitsIndex_both h1 h2) (by rw[List.size_toArray,<- hl];exact hk) (by rw[<- Array.getElem?_toList];exact g) (by rw[List.size_toArray];omega)) ⟨e,?_⟩
 refine⟨y,_,I.Zr3 (its':=a.eraseIdx k) d e ?_ (r.eraseIdx k) ?_,b,q⟩
 ·show a.toArray.eraseIdxIfInBounds k=(a.eraseIdx k).toArray;rw[List.eraseIdxIfInBounds_toArray]
 ·have:=VB j k;omega
def Hl:R2:=λx y H Q=>∃l b xs a,x=.ref l/\y=.ref b/\H l=some (.lst xs)/\H b=some (.lst a)/\xs.length+a.length<=sizeLine/\∀p,H p=none->Q (.ref p) (upd H p (.lst (xs++a)))
theorem pQ:wQ X (binaryOp .Add) Hl:=by
 intro d s p H x y v u Q I f g h;obtain⟨l,b,t,A,rfl,rfl,o,m,hz,q⟩:=h;cases f;cases g;obtain⟨z,c,n,r,hl,e⟩:=I.Zcp o;obtain⟨w,a,n2,r2,k,i⟩:=I.Zcp m;refine PySem.P.add_list e i ?_ (by rw[List.size_toArray,List.size_toArray];omega);have j:c.toArray++a.toArray=(c++a).toArray:=ζ
 rw[j];exact⟨.ref _,_,I.Ztf (t':=s.toks) (r.append r2) (by rw[List.length_append];omega),rfl,q _ I.fresh⟩
def Zqd:R2:=λx y H Q=>∃l k xs,x=.ref l/\y=.int k/\H l=some (.lst xs)/\-(2 ^ 63)<=k/\k<2 ^ 63/\xs.length * k.toNat<=sizeLine/\
 ∀p,H p=none->Q (.ref p) (upd H p (.lst (List.replicate k.toNat xs).flatten))
theorem len_rep{a:Type}(xs:List a)(k:Nat):(List.replicate k xs).flatten.length=k * xs.length:=by
 induction k with
 | zero=>simp
 | succ k ih=>rw[List.replicate_succ,List.flatten_cons,List.length_append,ih,Nat.succ_mul,Nat.add_comm]
theorem Zjx:wQ X (binaryOp .Mult) Zqd:=by
 intro p s E H x y v u Q I w A h;obtain⟨l,k,J,rfl,rfl,D,h1,h2,hz,q⟩:=h;cases w;obtain⟨t,rfl⟩:=A;obtain⟨z,b,n,r,hl,e⟩:=I.Zcp D;have d:b.toArray.size * k.toNat<=sizeLine:=by rw[List.size_toArray,<- hl];exact hz
 have c:¬ b.toArray.size * k.toNat > (2 ^ 63 - 1) / 8:=by
  have:(sizeLine:Nat)<=(2 ^ 63 - 1) / 8:=ε
  omega
 have g:¬ (!Builtin.List.listFitsIndex k)=true:=by
  rw[fitsIndex_both h1 h2];exact Bool.false_ne_true
 have o:¬ Builtin.List.listTooLong (b.toArray.size * k.toNat)=true:=by
  rw[ZX d];exact Bool.false_ne_true
 have f:List.foldl (λj i=>j++i) #[] (List.replicate (if b.toArray.isEmpty=true then 0 else k.toNat) b.toArray)=(List.replicate k.toNat b).flatten.toArray:=by
  have C:∀m:Nat,List.foldl (λj i=>j++i) #[] (List.replicate m b.toArray)=(List.replicate m b).flatten.toArray:=λm=>by
   have:=foldl_rep b m [];rw[List.nil_append]at this;exact this
  rw[C];cases b with
  | nil=>simp
  | cons a K=>rw[if_neg ζ]
 refine wpAny_binaryOp_repeat_ref (T:="list") (U:="int") ε ⟨_,e,rfl⟩ (λB=>typeIs_int B k t) noFill_list_mul F.fills_int_mul F.slot_int_rmul repeat_list F.slot_int_index.lookup
  (call_meets F.slot_int_rmul (typeIs_int s k t) F.entry_int_rmul (F.args_int_rmul_2 _ _) (int___rmul___int_list k t l b.toArray n)
   ⟨e,rfl,⟨_,e,rfl⟩,call_meets F.slot_list_mul ⟨_,e,rfl⟩ F.entry_list_mul (F.args_list_mul_2 _ _) (AutoListH.list___mul___list_int_3 l b.toArray n k t g c o) ⟨e,?_⟩⟩)
 rw[f];exact⟨.ref _,_,I.Ztf (t':=s.toks) (r.rep k.toNat) (by rw[len_rep,Nat.mul_comm];exact hz),rfl,q _ I.fresh⟩
end
section
variable {prog:AM}{w:AO}{A:Around}{E:Ap}{s:AK}
end
section
variable {X:Cx}
end
end L2
namespace Att
open PySem PySem.W PySem.Calls PyProof.Rows
theorem Ld{P:Params}{h:Heap}:∀(ns:AE) (vs:AC),WellAll P h vs (ns.map WData.int)->IntsAre vs ns:=by
 intro ns
 induction ns with
 | nil=>
  intro vs w;rw[List.map_nil]at w;cases w;exact .nil
 | cons n ns ih=>
  intro vs w;rw[List.map_cons]at w;cases w with
  | cons a b=>
   cases a;exact .cons _ _ (ih _ b)
theorem Zgg{l:OpenLaw}{n:Nat}(hn:l.most=some n){P:Params}{h:Heap}{b:List WData}{e:AC}
  (c:l.row.toRowW.claim.pre b=true) (i:WellAll P h e b):
  ∃a vs ns,e=[Value.ref a]/\b=[WData.list (ns.map WData.int)]/\h.get? a=some { cls:=.type "list",data:=.seq vs.toArray }/\IntsAre vs ns/\ns.length<=n:=by
 have j:WShape.hasAll [] b [.list .int]=true:=(pre_splitW c).1;have hc:l.pre.holds [] { args:=b }=true:=(pre_splitW c).2;obtain⟨d,r,rfl,h1,h2⟩:=hasAllW_cons j;obtain rfl:=hasAllW_nil h2;obtain⟨t,rfl,p⟩:=hasW_list h1;obtain⟨ns,rfl⟩:=items_int p;have f:ns.length<=n:=by
  unfold OpenLaw.pre at hc;have h4:(WTm.not (.lt (.lit (.int (n:Int))) (.len (.arg 0)))).holds [] { args:=[.list (ns.map .int)] }=true:=by
   have h4:=(holds_andW hc).1;rw[hn]at h4;exact h4
  have h5:=condW_of h4 (w_not (w_lt w_lit (w_len_list (w_arg rfl))));rw[bA]at h5;refine Nat.le_of_not_lt λq=>?_;have o:(n:Int)<((ns.length:Nat):Int):=δ
  first
   | (rw[decide_eq_true o]at h5;exact absurd h5 ε)
   | (simp at h5;omega)
 cases i with
 | cons m k=>
  cases k;cases m with
  | list s g=>exact⟨_,_,ns,rfl,rfl,s,Ld ns _ g,f⟩
theorem Zgn(l:OpenLaw)(a:List WData):l.row.toRowW.claim.post a (.bool true) a=true:=
 postW_of (r:=l.row.toRowW) (X:=(true == true))
  (show WShape.has [] (.bool true) .bool=true by first | rfl | decide | simp[WShape.has,WShape.arms,WShape.armsAll])
  (show(WTm.eq .res (.lit (.bool true))).value [] { args:=a,res:=some (.bool true),after:=a }=some (.bool (true == true))from w_eq_bool (w_res rfl) w_lit) rfl
theorem Zb3{l:OpenLaw}{n:Nat}{q:AM}{c:AH}{A:(As)->Heap->Prop}{z:AO->Heap->Prop}{d:DefRec}
  (hn:l.most=some n) (s:d.params.defaults=[])
  (call:∀(w:AO) (s₀ b:AK) (mg v:As) (fa:AI) (o:Obj) (u k g:AJ) (a:AI) (vs:AC) (ns:AE),
   Ground q c [] A w s₀ mg v b.heap->z w b.heap->
   b.heap.get? fa=some o->o.data=.func (docDef d.name d.params d.body d.scope u k g)->b.heap.CodeRec k d.name->mg d.name=↑fa->
   b.heap.get? a=some { cls:=.type "list",data:=.seq vs.toArray }->IntsAre vs ns->ns.length<=n->b.gens=#[]->
   codeAny (model l.prog w) callerA (.call (.ref fa) ⟨[.ref a],[]⟩) (λr s'=>r=.ok (.ret (.bool true))/\OldK b.heap s'.heap/\s'.os=b.os/\AllBare s'.gens) b):
  WalkO q c A z l.row.toRowW d [] (λf vs=>PySem.call f vs):=by
 intro w s₀ b mg v G Y fa o u k g dV kV H hd m B t D C y J h x I p E;obtain rfl:dV=.none:=Dflts.none B s;obtain rfl:kV=.none:=Dflts.noKw B;obtain⟨a,vs,ns,rfl,rfl,i,e,j⟩:=Zgg hn h p;refine enter_call (codeAny_mono (call w s₀ b mg v fa o u k g a vs ns G Y H (fd_plain hd) m t i e j D) λr s' hq=>?_);obtain⟨rfl,h2,F,h4⟩:=hq;exact⟨.inl ⟨.bool true,.bool true,[],rfl,λ_=>rfl,.bool true,Zgn l _,λ_=>⟨List.Pairwise.nil,λ_ hm=>(nomatch hm)⟩⟩,h2,F,h4⟩
section
variable {prog:AM}{w:AO}{A:Around}{E:Ap}{s:AK}{K:Frag}
end
end Att
namespace L2
open PySem PySem.Spec PyProof.Rows
theorem TV:∀{vs:AC}{ns:AE},IntsAre vs ns->Vals (ns.map V.int) vs
 | _,_,.nil=>.nil
 | _,_,.cons n t h=>.cons ⟨t,rfl⟩ (TV h)
def Only(H:Hp):Prop:=∀b,H b=none\/∃o xs,H b=some (.uh o (.lst xs))
theorem Zl0{P:AM}{w:AO}{K:aD}{mg L:As}{CX:Y5}{k:Nat}{fa a:AI}{fd:AL}{x:Str}{sp:Sp}{c:AK}{vs:AC}{ns:AE}
  (T:K.In c.heap) (B:c.heap.Ns mainGlobals mg) (hb:c.heap.Ns builtinsNs L) (I:∀x:Str,x≠"__name__"->L x=bootBuiltins x) (A:c.heap.NoLimit) (hg:c.gens=#[])
  (E:c.heap.get? a=some { cls:=.type "list",data:=.seq vs.toArray }) (hi:IntsAre vs ns) (hl:ns.length<=sizeLine) (hr:Room k callerA)
  (F:∀base:Heap,K.In base->base.Ns mainGlobals mg->qj P w K mg base CX k fa fd [x] sp) (i:∀(s:AK) (u:AJ),BindsTo s fd ⟨[u],[]⟩ [(x,u)])
  (J:∀H:Hp,Only H->cJ K H a (ns.map V.int)->sp [.ref a] H (λv _=>v=.bl true) λ_ _ _=>False)
  (N:∀H e s',CX [] H c (λ_ _ _=>False) e s'->False):
  codeAny (model P w) callerA (.call (.ref fa) ⟨[.ref a],[]⟩) (λr s'=>r=.ok (.ret (.bool true))/\OldK c.heap s'.heap/\s'.os=c.os/\AllBare s'.gens) c:=by
 have U:=TV hi;have y:=hi.length;have g:∀H:Hp,Only H->cJ K H a (ns.map V.int)->yZ P w H c.heap->(∀b,H b≠none->b=a)->(H a≠none->K.lookup a=none)->
   codeAny (model P w) callerA (.call (.ref fa) ⟨[.ref a],[]⟩) (λr s'=>r=.ok (.ret (.bool true))/\OldK c.heap s'.heap/\s'.os=c.os/\AllBare s'.gens) c:=by
  intro H Q hS hok S hK;have C:∀{b:AI}{o:Obj},c.heap.get? b=some o->H b=none->(Yo c.heap H).get? b=some o:=λe n=>Zlc e n;have O:∀{b:AI}{o:Obj}{D:Array DictEntry}{l:Nat},c.heap.get? b=some o->o.data=.dict D l->H b=none:=λ{b o D l} e d=>by
   cases q:H b with
   | none=>rfl
   | some u=>
    have M:b=a:=S b (by rw[q];simp);subst M;rw[E]at e;cases e;have d':Data.seq vs.toArray _=Data.dict D l:=d;cases d'
  have f:∀{b:AI}{m:As},c.heap.Ns b m->(Yo c.heap H).Ns b m:=λ{b m} ⟨o,D,l,e,d,r⟩=>⟨o,D,l,C e (O e d),d,r⟩;have j:K.In (Yo c.heap H):=λb o e=>C (T b o e) (by
   cases q:H b with
   | none=>rfl
   | some u=>
    have M:b=a:=S b (by rw[q];simp);subst M;rw[hK (by rw[q];simp)]at e;cases e)
  have hM:Mod K mg (Yo c.heap H):=⟨j,f B,⟨L,f hb,I⟩,let ⟨mc,h1,h2⟩:=A;⟨mc,f h1,h2⟩⟩;have W:Y0 P w K mg (Yo c.heap H) callerA [] c H:=⟨rfl,hM,λb o e=>Znr e,Nat.le_of_eq (Zhl _ _),trivial,λb hb=>absurd (show b∈([]:AF)from hb) ζ,hok,.of_eq hg⟩;refine codeAny_mono ((F _ j (f B)).run callerA [] c H ⟨[.ref a],[]⟩ [.ref a] [.ref a] _ _ hr W (i c (.ref a)) (.cons rfl .nil) (J H Q hS)) λr s' h=>?_;cases r with
  | error e=>exact(N H e s' h).elim
  | ok fl=>
   cases fl with
   | next=>exact False.elim h
   | brk=>exact False.elim h
   | cont=>exact False.elim h
   | ret u=>
    obtain⟨v,H',os,bare,un,t,X,q⟩:=h;have q':v=.bl true:=q;subst q';obtain rfl:u=Value.bool true:=X;refine⟨rfl,OldK.of_keep λb o e=>?_,os,bare⟩;cases q:H b with
    | none=>exact un.keep b o e q (by intro z;exact absurd (show b∈([]:AF)from z) ζ) ζ
    | some u=>
     rcases Q b with z | ⟨ob,xs,z⟩
     ·rw[q]at z;cases z
     ·have Y:=un.HY b ob _ z;obtain⟨R,_⟩:=hok b _ z;obtain⟨Z,_⟩:=t b _ Y;rw[e]at R;cases R;exact Z
 cases hk:K.lookup a with
 | some o=>
  have e:=T a o hk;rw[E]at e;cases e;refine g (λ_=>none) (λ_=>.inl rfl) (.inr ⟨_,vs.toArray,_,hk,rfl,rfl,rfl,by rw[List.size_toArray,y];exact hl,by simpa using U⟩) (λb u z=>by have p:(none:Option HO)=some u:=z;cases p) (λb z=>absurd rfl z) λz=>absurd rfl z
 | none=>
  refine g (λb=>if b=a then some (.uh { cls:=.type "list",data:=.seq vs.toArray } (.lst (ns.map V.int)))else none) (λb=>?_) (.inl (.inr ⟨{ cls:=.type "list",data:=.seq vs.toArray },if_pos rfl⟩)) (λb u z=>?_) (λb z=>?_) λ_=>hk
  ·by_cases hb:b=a
   ·exact .inr ⟨_,_,if_pos hb⟩
   ·exact .inl (if_neg hb)
  ·by_cases hb:b=a
   ·have p:=(if_pos hb).symm.trans z;cases p;subst hb;exact⟨E,by rw[bA];exact hl,vs,_,U,E⟩
   ·have p:=(if_neg hb).symm.trans z;cases p
  ·by_cases hb:b=a
   ·exact hb
   ·exact absurd (if_neg hb) z
theorem Zmr{l:W.OpenLaw}{n k:Nat}{q:AM}{j:AH}{N:(As)->Heap->Prop}{C:AO->Heap->Prop}{d:DefRec}{K:Params->aD}{CX:AO->Y5}{sp:AO->Sp}{x:Str}
  (hn:l.most=some n) (A:n<=sizeLine) (t:d.params.defaults=[]) (hr:Room k callerA)
  (I:∀(w:AO) (h:Heap),C w h->(K w.params).In h)
  (F:∀(w:AO) (mg:As) (fa:AI) (h:Heap),(K w.params).In h->h.Ns mainGlobals mg->mg d.name=↑fa->
   ∃fd:AL,(∀(s:AK) (u:AJ),BindsTo s fd ⟨[u],[]⟩ [(x,u)])/\
    ∀base:Heap,(K w.params).In base->base.Ns mainGlobals mg->qj l.prog w (K w.params) mg base (CX w) k fa fd [x] (sp w))
  (z:∀(w:AO) (H:Hp) (a:AI) (ns:AE),ns.length<=n->Only H->cJ (K w.params) H a (ns.map V.int)->sp w [.ref a] H (λv _=>v=.bl true) λ_ _ _=>False)
  (r:∀(w:AO) (H:Hp) (s:AK) (e:AJ) (s':AK),CX w [] H s (λ_ _ _=>False) e s'->False):
  W.WalkO q j N C l.row.toRowW d [] (λf vs=>PySem.call f vs):=by
 refine Att.Zb3 hn t λw s₀ p mg S fa o Q P M a vs ns G Y R hd D y m i c J=>?_;have B:=I w _ Y;obtain⟨fd,hb,E⟩:=F w mg fa _ B G.T.g y;exact Zl0 B G.T.g G.T.b G.T.builtins G.T.nolimit J m i (Nat.le_trans c A) hr E hb (λH L O=>z w H a ns c L O) λH e s'=>r w H p e s'
def inClass(s:Stmt)(j:Nat):Stmt:=match s with
 | .ClassDef _ _ _ a _ _ _ _ _ _ _=>a.getD j (.Pass ⟨0,0,0,0⟩)
 | _=>.Pass ⟨0,0,0,0⟩
def iQ(s:Stmt):Arguments:=match s with
 | .FunctionDef _ a _ _ _ _ _ _ _ _=>a
 | _=>{ posonlyargs:=[],args:=[],vararg:=none,kwonlyargs:=[],kw_defaults:=[],kwarg:=none,defaults:=[] }
def fJ(s:Stmt):List Stmt:=match s with
 | .FunctionDef _ _ b _ _ _ _ _ _ _=>b
 | _=>[]
def aC(s:Stmt):Scope:=match s with
 | .FunctionDef _ _ _ _ _ _ sc _ _ _=>sc
 | _=>{ kind:=.function,names:=[],isGenerator:=false,isCoroutine:=false }
abbrev E0:XK:=λ_ _ _=>False
structure Fun(K:aD)(x qual:Str)(st:Stmt)(f:AI)(fd:AL):Prop where
 ex:∃(oc:AJ) (od:Option AI) (kV doc pm:AJ) (an:Option AI) (cdv ct:AJ) (osl:Array AB),
  fd=W.fnOf x qual (iQ st) (fJ st) (aC st) .none kV doc pm an cdv ct/\K.lookup f=some ⟨oc,od,.func fd,osl⟩/\W.codeIn K cdv qual=true
 kp:W.keepIn K (.ref f)=true
section
variable {P:AM}{w:AO}{K:aD}{mg:As}{base:Heap}
theorem Fun.binds{x a:Str}{st:Stmt}{f:AI}{fd:AL}{ps:AH}(F:Fun K x a st f fd)
  (h:∀(kV c e:AJ) (d:Option AI) (b ct:AJ) (us:AC),us.length=ps.length->bindArgs (W.fnOf x a (iQ st) (fJ st) (aC st) .none kV c e d b ct) ⟨us,[]⟩=pure (ps.zip us)):Binds K fd ps []:=by
 obtain⟨oc,od,kV,c,e,d,b,ct,i,rfl,lk,g⟩:=F.ex;exact .all (h kV c e d b ct)
theorem Zln{x a:Str}{st:Stmt}{f:AI}{oc:AJ}{od h:Option AI}{e:Array AB}{kV d g b ct:AJ}(l:K.lookup f=some ⟨oc,od,.func (W.fnOf x a (iQ st) (fJ st) (aC st) .none kV d g h b ct),e⟩)
  (c:W.codeIn K b a=true) (k:W.keepIn K (.ref f)=true):Fun K x a st f (W.fnOf x a (iQ st) (fJ st) (aC st) .none kV d g h b ct):=⟨⟨oc,od,kV,d,g,h,b,ct,e,rfl,l,c⟩,k⟩
end
theorem J1{A:Around}{k:Nat}(hr:Room k A):A.units+1<cLine:=Nat.lt_of_le_of_lt (Nat.add_le_add_left (by decide:1<=64) _) hr.units
section
variable {X:Cx}
theorem pv(i:Nat){x:Str}{b:Pos}(c:X.N[i]? =some x:=by rfl)(hv:Vis X.env.scope x:=by first | exact Or.inl rfl | exact Or.inr (Or.inl rfl) | exact Or.inr (Or.inr rfl))(hd:(x == ("__debug__":Str))=false:=by decide)
  (a:(x == ("__classdict__":Str))=false:=by decide):PE X (.Name x b) (ak i):=Zjh c hv hd a
end
theorem Znz{A B:Prop}(h:B):if false=true then A else B:=by
 rw[if_neg Bool.false_ne_true];exact h
theorem Zcx{A B:Prop}(h:A):if true=true then A else B:=by
 rw[if_pos rfl];exact h
theorem Zrc{c A B:Prop} [Decidable c](h1:c->A)(h2:¬ c->B):if c then A else B:=by
 by_cases h:c
 ·rw[if_pos h];exact h1 h
 ·rw[if_neg h];exact h2 h
def bx(H H':Hp):Prop:=∀b o,H b=some o->H' b=some o
theorem bx.refl(H:Hp):bx H H:=λ_ _ h=>h
theorem bx.trans{H d e:Hp}(a:bx H d)(b:bx d e):bx H e:=λc o h=>b c o (a c o h)
theorem bx.free{H H':Hp}(e:bx H H'){l:AI}(h:H' l=Option.none):H l=Option.none:=by
 cases q:H l with
 | none=>rfl
 | some o=>
  rw[e l o q]at h;cases h
theorem bx.seq{K:aD}{H H':Hp}{a:AI}{xs:List V}(e:bx H H')(h:cJ K H a xs):cJ K H' a xs:=by
 rcases h with (h | ⟨o,h⟩) | h
 ·exact .inl (.inl (e _ _ h))
 ·exact .inl (.inr ⟨o,e _ _ h⟩)
 ·exact .inr h
section
variable {X:Cx}{pins:At}{σ:List (Option V)}{H H':Hp}{s:AK}{h':Heap}
end
section
variable {X:Cx}
variable {a b:AN}{ta tb:TE}{pos:Pos}
variable {tA tB':TT}{rest:AG}
end
section
variable {X:Cx}{a b c:AN}{ta tb tc:TE}{pos:Pos}
end
section
variable {prog:AM}{w:AO}{A:Around}{E:Ap}{s:AK}{K:aD}{x dx C f:AI}{mA:As}{name:Str}{v:AJ}
end
section
variable {X:Cx}{pins:At}{σ:St}{H:Hp}{s:AK}{a C dx:AI}{fs:List (Str×V)}{f:Str}{v:V}{A:Around}{E:Ap}
end
section
variable {X:Cx}{CX:Y5}{k:Nat}{f C:AI}{fd:AL}{ps:AH}{sp:Sp}{qw:List V}{ds:AC}{E:XK}{x m:Str}{p pos apos:Pos}{e o:AN}{es:AG}{ta:TE}{t:TA}
end
section
variable {X:Cx}{x:Str}{p pos:Pos}{e:AN}{es:AG}{t:TA}{id T:String}{r:List V->Hp->VK->Prop}
end
section
variable {κ:Type} [DecidableEq κ]
def nO(a:List (κ×V))(k:κ):Option V:=(a.find? λkv=>decide (kv.1=k)).map (·.2)
def putK(a:List (κ×V))(k:κ)(v:V):List (κ×V):=
 if (a.any λkv=>decide (kv.1=k))=true then a.map (λkv=>if kv.1=k then(kv.1,v)else kv)else a++[(k,v)]
theorem Cq{p:κ×V}{r:List (κ×V)}{k:κ}(e:p.1=k):nO (p::r) k=some p.2:=by simp[nO,List.find?_cons,e]
theorem Cr{p:κ×V}{r:List (κ×V)}{k:κ}(e:¬ p.1=k):nO (p::r) k=nO r k:=by simp[nO,List.find?_cons,e]
theorem Ml(k:κ):∀a:List (κ×V),(a.any λkv=>decide (kv.1=k))=(nO a k).isSome
 | []=>rfl
 | p::r=>by
  rw[List.any_cons]
  by_cases e:p.1=k
  ·simp only[Cq e,decide_eq_true e,Bool.true_or,Option.isSome_some]
  ·rw[Cr e,decide_eq_false e,Bool.false_or];exact Ml k r
theorem JR(a:List (κ×V))(k:κ)(v:V):(putK a k v).length<=a.length+1:=by
 unfold putK;split
 ·rw[bA];omega
 ·rw[List.length_append,List.length_cons,List.length_nil];omega
theorem Zjd{a:List (κ×V)}{k:κ}(v:V)(h:nO a k=none):putK a k v=a++[(k,v)]:=by
 unfold putK;rw[Ml,h];exact if_neg ε
theorem zB.HQ{o:Option V}{u:AB}(r:zB o u):o.isSome=u.isSome:=by
 cases o with
 | none=>cases u with
  | none=>rfl
  | some _=>exact(show False from r).elim
 | some _=>cases u with
  | none=>exact(show False from r).elim
  | some _=>rfl
theorem KV.val{a:List (κ×V)}{vs:List (κ×AJ)}(r:KV a vs)(k:κ):zB (nO a k) (valueAt vs k):=by
 unfold KV at r
 induction r with
 | nil=>exact True.intro
 | @cons p q f c h t ih=>
  obtain⟨h1,h2⟩:=h
  by_cases e:p.1=k
  ·have d:q.1=k:=h1.symm.trans e;have b:valueAt (q::c) k=some q.2:=by simp[valueAt,List.find?_cons,d]
   rw[Cq e,b];exact h2
  ·have d:¬ q.1=k:=λz=>e (h1.trans z);have b:valueAt (q::c) k=valueAt c k:=by simp[valueAt,List.find?_cons,d]
   rw[Cr e,b];exact ih
theorem KV.any{a:List (κ×V)}{vs:List (κ×AJ)}(r:KV a vs)(k:κ):(a.any λkv=>decide (kv.1=k))=vs.any λkv=>decide (kv.1=k):=by
 unfold KV at r
 induction r with
 | nil=>rfl
 | cons h t ih=>rw[List.any_cons,List.any_cons,ih,h.1]
theorem KV.repl{a:List (κ×V)}{vs:List (κ×AJ)}(r:KV a vs)(k:κ){y:V}{u:AJ}(b:RelV y u):
  KV (a.map λkv=>if kv.1=k then(kv.1,y)else kv) (vs.map λkv=>if kv.1=k then(kv.1,u)else kv):=by
 unfold KV at r ⊢
 induction r with
 | nil=>exact .nil
 | @cons p q d c h t ih=>
  rw[List.map_cons,List.map_cons];refine .cons ?_ ih;obtain⟨h1,h2⟩:=h
  by_cases e:p.1=k
  ·rw[if_pos e,if_pos (h1.symm.trans e)];exact⟨h1,b⟩
  ·rw[if_neg e,if_neg (λz=>e (h1.trans z))];exact⟨h1,h2⟩
theorem KV.put{a:List (κ×V)}{vs:List (κ×AJ)}(r:KV a vs)(k:κ){y:V}{u:AJ}(b:RelV y u):KV (putK a k y) (stored vs k u):=by
 unfold putK stored;rw[r.any k]
 by_cases e:(vs.any λc=>decide (c.1=k))=true
 ·rw[if_pos e,if_pos e];exact r.repl k b
 ·rw[if_neg e,if_neg e];exact Paired.snoc r ⟨rfl,b⟩
theorem KV.length{a:List (κ×V)}{vs:List (κ×AJ)}(r:KV a vs):a.length=vs.length:=Paired.length r
end
theorem Zf5{P:AM}{w:AO}{k:Key}{u:AJ}(r:RelV (kV k) u):(dH P w).is k u=true:=by
 cases k with
 | inl i=>obtain⟨t,e⟩:=(show ∃t,u=Value.int i t from r);subst e;exact Z8 P w i t
 | inr x=>obtain⟨t,e⟩:=(show ∃t,u=Value.str x t from r);subst e;exact Z7 P w x t
theorem VD{P:AM}{w:AO}:∀{a:List Key}{us:AC},Vals (a.map kV) us->ItemsAre (dH P w) a us
 | [],_,r=>by rw[List.map_nil]at r;cases r;exact .nil
 | k::a,_,r=>by
  rw[List.map_cons]at r;cases r with
  | cons h t=>exact .cons (Zf5 h) (VD t)
abbrev KT(H:Hp):List (List Key×V)->List (List Key×AI×AJ)->Prop:=Paired λp q=>p.1=q.1/\H q.2.1=some (.tup (p.1.map kV))/\RelV p.2 q.2.2
theorem KT.val{H:Hp}{a:List (List Key×V)}{xs:List (List Key×AI×AJ)}(r:KT H a xs)(k:List Key):zB (nO a k) ((atKey xs k).map (·.2)):=by
 induction r with
 | nil=>exact True.intro
 | @cons p q f c h t ih=>
  obtain⟨h1,_,h2⟩:=h
  by_cases e:p.1=k
  ·have d:q.1=k:=h1.symm.trans e;have b:atKey (q::c) k=some q.2:=by simp[atKey,List.find?_cons,d]
   rw[Cq e,b];exact h2
  ·have d:¬ q.1=k:=λz=>e (h1.trans z);have b:atKey (q::c) k=atKey c k:=by simp[atKey,List.find?_cons,d]
   rw[Cr e,b];exact ih
theorem KT.repl{H:Hp}{a:List (List Key×V)}{xs:List (List Key×AI×AJ)}(r:KT H a xs)(k:List Key){y:V}{u:AJ}(b:RelV y u):
  KT H (a.map λkv=>if kv.1=k then(kv.1,y)else kv) (xs.map (putAt k u)):=by
 induction r with
 | nil=>exact .nil
 | @cons p q f d h t ih=>
  rw[List.map_cons,List.map_cons];refine .cons ?_ ih;obtain⟨h1,h2,c⟩:=h;unfold putAt
  by_cases e:p.1=k
  ·rw[if_pos e,if_pos (h1.symm.trans e)];exact⟨h1,h2,b⟩
  ·rw[if_neg e,if_neg (λz=>e (h1.trans z))];exact⟨h1,h2,c⟩
theorem KT.put{H:Hp}{a:List (List Key×V)}{xs:List (List Key×AI×AJ)}(r:KT H a xs)(k:List Key){b:AI}{y:V}{u:AJ}(hb:H b=some (.tup (k.map kV)))(c:RelV y u):
  KT H (putK a k y) (storedH xs k b u):=by
 have e:(a.any λd=>decide (d.1=k))=(atKey xs k).isSome:=by
  rw[Ml,(r.val k).HQ,Option.isSome_map]
 unfold putK storedH;rw[e]
 by_cases q:(atKey xs k).isSome=true
 ·rw[if_pos q,if_pos q];exact r.repl k c
 ·rw[if_neg q,if_neg q];exact Paired.snoc r ⟨rfl,hb,c⟩
theorem KT.keeps{H H':Hp}{a:List (List Key×V)}{xs:List (List Key×AI×AJ)}(r:KT H a xs)(d:∀b c,H b=some (.tup c)->H' b=some (.tup c)):KT H' a xs:=
 Paired.Zte r λ_ _ z=>⟨z.1,d _ _ z.2.1,z.2.2⟩
section
variable {P:AM}{w:AO}{H:Hp}{h:Heap}{a:AI}
theorem Zp8{u:HO}(ok:yZ P w H h)(e:Rd H a u):gZ P w H h a u:=e.ok ok
theorem Gw{b:List (Key×V)}(ok:yZ P w H h)(e:Rd H a (.dK b)):b.length<=sizeLine/\(a == sysModules)=false/\∃vs,KV b vs/\h.DictOf (dH P w) a vs:=
 show gZ P w H h a (.dK b)from Zp8 ok e
theorem Zpr{b:List (Key×V)}(ok:yZ P w H h)(e:H a=some (.dK b)):b.length<=sizeLine/\(a == sysModules)=false/\∃vs,KV b vs/\h.DictOf (dH P w) a vs:=Gw ok (.inl e)
theorem X7{c:List Key}(ok:yZ P w H h)(e:H a=some (.tup (c.map kV))):(tupleKind (dH P w)).is h c a:=by
 obtain⟨_,b,r,o,h1,h2,n,d⟩:=(show gZ P w H h a (.tup (c.map kV))from ok a _ e);exact⟨o,b.toArray,n,h1,h2,d,by simpa using VD r⟩
theorem Zat{b:List (List Key×V)}(ok:yZ P w H h)(e:Rd H a (.dT b)):b.length<=sizeLine/\(a == sysModules)=false/\
  ∃xs,KT H b xs/\h.DictOfH (tupleKind (dH P w)) a xs:=by
 obtain⟨z,y,xs,r,o,f,d,h1,h2,c,h4,h5⟩:=(show gZ P w H h a (.dT b)from Zp8 ok e);refine⟨z,y,xs,r,o,f,d,h1,h2,c,h4,λx hx=>?_,h5⟩;have all:∀{l:List (List Key×V)}{m:List (List Key×AI×AJ)},KT H l m->∀x∈m,(tupleKind (dH P w)).is h x.1 x.2.1:=by
  intro l m q
  induction q with
  | nil=>intro x hx;exact nomatch hx
  | @cons p q i g hq t ih=>
   intro x hx;rcases List.mem_cons.mp hx with e | hx
   ·subst e;exact X7 ok (by rw[<- hq.1];exact hq.2.1)
   ·exact ih x hx
 exact all r x hx
theorem Zul{b:List (List Key×V)}(ok:yZ P w H h)(e:H a=some (.dT b)):b.length<=sizeLine/\(a == sysModules)=false/\
  ∃xs,KT H b xs/\h.DictOfH (tupleKind (dH P w)) a xs:=Zat ok (.inl e)
end
def Rk(H:Hp)(a:AI)(y:V)(r:Option V):Prop:=
 (∃c k,Rd H a (.dK c)/\y=kV k/\r=nO c k)\/∃c k b,Rd H a (.dT c)/\y=.ref b/\H b=some (.tup (k.map kV))/\r=nO c k
def Zbd(H:Hp)(a:AI)(y v:V)(H':Hp):Prop:=
 (∃c k,H a=some (.dK c)/\y=kV k/\c.length<sizeLine/\H'=upd H a (.dK (putK c k v)))\/
 ∃c k b,H a=some (.dT c)/\y=.ref b/\H b=some (.tup (k.map kV))/\c.length<sizeLine/\H'=upd H a (.dT (putK c k v))
theorem Rk.k{H:Hp}{a:AI}{b:List (Key×V)}{k:Key}(e:H a=some (.dK b)):Rk H a (kV k) (nO b k):=.inl ⟨b,k,.inl e,rfl,rfl⟩
theorem Zbd.k{H:Hp}{a:AI}{b:List (Key×V)}{k:Key}{v:V}(e:H a=some (.dK b))(hl:b.length<sizeLine):Zbd H a (kV k) v (upd H a (.dK (putK b k v))):=.inl ⟨b,k,e,rfl,hl,rfl⟩
section
variable {X:Cx}{pins:At}{σ:St}{H:Hp}{s:AK}{a:AI}{y v:V}{u r:AJ}{o:Option V}{A:Around}{E:Ap}
theorem Inv.big(I:Inv X pins σ H s):sysModules<s.heap.objs.size:=by
 have h:mainGlobals<s.heap.objs.size:=(I.mod.glob.keeps I.bk).lt;exact Nat.lt_trans ε h
theorem Zhz{Q:Ap}(hu:A.units+1<cLine)(I:Inv X pins σ H s)(g:Rk H a y (some v))(n:RelV y u)(h:∀d s',Inv X pins σ H s'->RelV v d->Q d s'):
  wpAny ς A (getItem (.ref a) u) Q E s:=by
 rcases g with ⟨j,k,e,f,l⟩ | ⟨j,k,b,e,f,t,l⟩
 ·subst f;obtain⟨z,hd,r,rel,dd⟩:=Gw I.hok e;obtain⟨d,i,c⟩:=zB.some_of (v:=v) (o:=valueAt r k) (by rw[l];exact rel.val k);exact wpAny_getItem_of (Zf5 n) dd.mapOf i (h d _ (I.tok _) c)
 ·subst f;cases (show u=Value.ref b from n);obtain⟨z,hd,q,rel,dd⟩:=Zat I.hok e;obtain⟨d,i,c⟩:=zB.some_of (v:=v) (o:=(atKey q k).map (·.2)) (by rw[l];exact rel.val k);obtain⟨p,hp,m⟩:=Option.map_eq_some_iff.mp i;refine wpAny_getItem_heap (tupleKind_room_in1 hu) (X7 I.hok t) dd hp ?_;rw[m];exact h d _ (I.tok _) c
theorem Zfl{Q:Ap}(hu:A.units+1<cLine)(I:Inv X pins σ H s)(g:Rk H a y o)(f:RelV y u)(h:∀s',Inv X pins σ H s'->Q (.bool (!o.isSome)) s'):
  wpAny ς A (compareOp .NotIn u (.ref a)) Q E s:=by
 rcases g with ⟨d,k,e,c,l⟩ | ⟨d,k,b,e,c,i,l⟩
 ·subst c;obtain⟨z,hd,m,rel,dd⟩:=Gw I.hok e;refine wpAny_notIn_of (Zf5 f) hd dd.mapOf ?_;rw[<- (rel.val k).HQ,<- l];exact h _ (I.tok _)
 ·subst c;cases (show u=Value.ref b from f);obtain⟨z,hd,j,rel,dd⟩:=Zat I.hok e;refine wpAny_notIn_heap (tupleKind_room_in1 hu) (X7 I.hok i) hd dd ?_;have q:=(rel.val k).HQ;rw[Option.isSome_map]at q;rw[<- q,<- l];exact h _ (I.tok _)
theorem Zfk{h':Heap}{t':Nat}{ob:HO}(I:Inv X pins σ H s)(d:Mut (H a))(hs:Heap.SameBut a s.heap h')(c:∃q,h'.get? a=some q)(new:gZ X.prog X.w (upd H a ob) h' a ob):
  Inv X pins σ (upd H a ob) { s with heap:=h',toks:=t' }:=
 I.write (x:=a) (e:=a) d (.inl rfl) (λb q hb z=>(hs.2 b hb).trans z) c new
theorem Zsh{P:AM}{w:AO}{H':Hp}{h':Heap}{b:List (Key×V)}{vs:List (Key×AJ)}(z:b.length<=sizeLine)(hd:(a == sysModules)=false)(rel:KV b vs)(dd:h'.DictOf (dH P w) a vs):
  gZ P w H' h' a (.dK b):=⟨z,hd,vs,rel,dd⟩
theorem Zhy{H':Hp}{Q:Unit->AK->Prop}(hu:A.units+1<cLine)(I:Inv X pins σ H s)(g:Zbd H a y v H')(m:RelV y u)(p:RelV v r)(h:∀s',Inv X pins σ H' s'->Q () s'):
  wpAny ς A (setItem (.ref a) u r) Q E s:=by
 rcases g with ⟨d,k,e,i,l,j⟩ | ⟨d,k,b,e,i,o,l,j⟩
 ·subst i j;obtain⟨z,hd,J,rel,dd⟩:=Zpr I.hok e;have hz:J.length<=sizeLine:=by rw[<- rel.length];exact z
  have hl:(putK d k v).length<=sizeLine:=by have:=JR d k v;omega
  refine wpAny_setItem_pairs (hsz:=hz) (Zf5 m) dd λt f hs=>h _ ?_;have x:∃q,t.get? a=some q:=let ⟨q,_,_,hq,_⟩:=f;⟨q,hq⟩
  exact Zfk I (by rw[e];exact True.intro) hs x (Zsh hl hd (rel.put k p) f)
 ·subst i j;cases (show u=Value.ref b from m);obtain⟨z,hd,F,rel,dd⟩:=Zul I.hok e;have hz:F.length<=sizeLine:=by rw[<- Paired.length rel];exact z
  have hl:(putK d k v).length<=sizeLine:=by have:=JR d k v;omega
  refine wpAny_setItem_heap (hsz:=hz) (tupleKind_room_in1 hu) (X7 I.hok o) dd λt f hs=>h _ ?_;obtain⟨q,D,C,hq,h2,B,h4,_,h5⟩:=f;refine Zfk I (by rw[e];exact True.intro) hs ⟨q,hq⟩ ⟨hl,hd,_,(rel.put k o p).keeps λc K n=>?_,q,D,C,hq,h2,B,h4,h5⟩;rw[aA (lM n e ay)];exact n
end
section
variable {X:Cx}{pins:At}{σ:St}{H:Hp}{s:AK}{a:AI}{kvs:List (Key×V)}{k:Key}{u:AJ}{A:Around}{E:Ap}
end
def Zoz(i:AN):Prop:=∀a iv,subscripted i false a iv=operate [a,iv] (getItem a iv)
theorem Ze7{prog:AM}{w:AO}{A:Around}{E:Ap}{s:AK}{env:Env}{b a:AN}{k:Pos}{T id:String}{Q:Ap}
  (hl:typeLookup (.type T) "__getitem__"=pure (some (.builtin id))) (hs:Zoz a)
  (h:wpAny ai A (eval b env) (λo e=>wpAny ai A (eval a env) (λi c=>c.TypeIs o T/\wpAny ai A (getItem o i) Q E c) E e) E s):
  wpAny ai A (eval (.Subscript b a k) env) Q E s:=by
 refine Subscript_ (wpAny_mono h (λo e j=>wpAny_mono j (λi c d=>?_) λ_ _ x=>x) λ_ _ x=>x);obtain⟨l,d⟩:=d;unfold subscriptTail;refine wpAny_bind ?_;rw[getitemInPython_of_ne l.not_modules];refine wpAny_bind (wpAny_specialOf l hl ?_);have fin:wpAny ai A (subscripted a false o i) (λr f=>wpAny ai A (letTemporaryGo b o r >>= λ_=>pure r) Q E f) E c:=by
  rw[hs o i];exact wpAny_operating (wpAny_mono d (λr f g=>wpAny_bind (wpAny_letTemporaryGo (wpAny_pure g))) λ_ _ x=>x)
 first
  | exact wpAny_pure (wpAny_bind fin)
  | exact wpAny_bind (wpAny_pure (wpAny_bind fin))
  | exact wpAny_bind fin
theorem Zax{X:Cx}{pins:At}{σ:St}{H:Hp}{s:AK}{a:AI}{y:V}{o:Option V}(I:Inv X pins σ H s)(g:Rk H a y o):s.TypeIs (.ref a) "dict":=by
 rcases g with ⟨c,k,e,_,_⟩ | ⟨c,k,b,e,_,_,_⟩
 ·obtain⟨_,_,f,_,dd⟩:=Gw I.hok e;exact dd.typeIs
 ·obtain⟨_,_,d,_,dd⟩:=Zat I.hok e;exact dd.typeIs
def Za(d ty:TE):TE:=λσ H Q=>d σ H λx c=>ty σ c λy b=>∃a v,x=.ref a/\Rk b a y (some v)/\Q v b
def WK(ty d:TE):TE:=λσ H Q=>ty σ H λy c=>d σ c λx b=>∃a o,x=.ref a/\Rk b a y o/\Q (.bl (!o.isSome)) b
def Zeg(e ty g:TE):TS:=λD σ H=>g σ H λv c=>e σ c λx d=>ty σ d λy f=>∃a b,x=.ref a/\Zbd f a y v b/\D.nx σ b
section
variable {X:Cx}{o i e value:AN}{pos pos' tpos:Pos}{td ty tv:TE}
theorem Znd(hu:X.A.units+1<cLine)(f:PE X o td)(hi:PE X i ty)(hs:Zoz i):PE X (.Subscript o i pos) (Za td ty):=by
 intro b s d H Q I h;refine Ze7 PySem.F.slot_dict_getitem.lookup hs (gM (f b s d H _ I h) λu e ⟨x,H1,I1,rx,q1⟩=>gM (hi b e d H1 _ I1 q1) λiv k qc=>?_);obtain⟨y,H2,I2,ry,a,v,ex,g,q2⟩:=qc;subst ex;obtain rfl:u=Value.ref a:=rx;exact⟨Zax I2 g,Zhz hu I2 g ry λm l j c=>⟨v,H2,j,c,q2⟩⟩
theorem Zgq(hu:X.A.units+1<cLine)(hi:PE X i ty)(e:PE X o td):PC X .NotIn i o (WK ty td):=by
 intro b s c H Q I h;refine gM (hi b s c H _ I h) λiv d ⟨y,H1,I1,ry,q1⟩=>gM (e b d c H1 _ I1 q1) λu j qc=>?_;obtain⟨x,H2,I2,rx,a,ov,ex,g,q2⟩:=qc;subst ex;obtain rfl:u=Value.ref a:=rx;exact Zfl hu I2 g ry λk f=>⟨.bl (!ov.isSome),H2,f,rfl,q2⟩
theorem Zeo(hu:X.A.units+1<cLine)(j:PE X o td)(hi:PE X i ty)(hv:PE X value tv)(hs:swapsWith value (some (.Subscript o i pos')) pos.line X.env=pure false):
  PS X (.Assign [.Subscript o i pos'] value pos) (Zeg td ty tv):=by
 intro b s c H D I h;refine wpAny_Assign_Subscript (gM (hv b s c H _ I h) λr e ⟨v,H1,I1,rv,q1⟩=>gM (j b e c H1 _ I1 q1) λu d ⟨x,H2,I2,rx,q2⟩=>gM (hi b d c H2 _ I2 q2) λiv l qc=>?_) hs;obtain⟨y,H3,I3,ry,a,H4,ex,g,q3⟩:=qc;subst ex;obtain rfl:u=Value.ref a:=rx;exact Zhy hu I3 g ry rv λk f=>⟨c,H4,f,q3⟩
end
theorem Zm4{P:AM}{w:AO}{H:Hp}(h:Heap)(hb:sysModules<h.objs.size):gZ P w H (h.push { cls:=.type "dict",data:=.dict #[] }) h.objs.size (.dK []):=
 ⟨Nat.zero_le _,beq_eq_false_iff_ne.mpr (Ne.symm (Nat.ne_of_lt hb)),[],.nil,Heap.DictOf.new h⟩
def Zbl:TE:=λ_ H Q=>∀p,H p=none->Q (.ref p) (upd H p (.dK []))
section
variable {X:Cx}{pos:Pos}
theorem ZG:PE X (.Dict [] [] pos) Zbl:=λpins s σ H Q I h=>
 wpAny_Dict_empty ⟨.ref s.heap.objs.size,_,I.laid (a:=s.heap.objs.size) (o:=.dK []) (t':=s.toks) (λ_ _ q=>Heap.get?_push_of_some _ q) Δ (Zm4 s.heap I.big),rfl,h _ (I.hok.fresh Δ)⟩
end
def Zie:List (TE×TE)->St->Hp->(List (V×V)->Hp->Prop)->Prop
 | [],_,H,Q=>Q [] H
 | (tk,d)::r,σ,H,Q=>tk σ H λx a=>d σ a λy b=>Zie r σ b λps c=>Q ((x,y)::ps) c
abbrev VV:List (V×V)->List (AJ×AJ)->Prop:=Paired λp q=>RelV p.1 q.1/\RelV p.2 q.2
def PPs(X:Cx)(c:Pos)(keys:List (Option AN))(a:AG)(b:List (TE×TE)):Prop:=
 ∀(pins:At) (s:AK) (σ:St) (H:Hp) (Q:List (V×V)->Hp->Prop),Inv X pins σ H s->Zie b σ H Q->
  wpAny ς X.A (evalPairs (pairTrees keys a X.env c)) (λvs s'=>∃ps H',Inv X pins σ H' s'/\VV ps vs/\Q ps H') X.xe s
structure M1(X:Cx)(o:AN)(m:Str)(apos:Pos)(e:AN)(cpos:Pos):Prop where
 base:attributeBase o m X.env (eval o X.env)=eval o X.env
 few:((backTo cpos (starEach [e] X.env)).all (λx=>!x.1) && (backToKw cpos (keywordEach [] X.env)).all (λx=>x.1.isSome)
  && decide (([e]:AG).length+([]:List Keyword).length+(if ([]:List Keyword).isEmpty then 0 else 1)<30))=true
 line:(apos.endLine == cpos.line)=true
 trees:backTo cpos (starEach [e] X.env)=[(false,eval e X.env)]
structure M2(X:Cx)(o:AN)(m:Str)(apos:Pos)(e f:AN)(cpos:Pos):Prop where
 base:attributeBase o m X.env (eval o X.env)=eval o X.env
 few:((backTo cpos (starEach [e,f] X.env)).all (λx=>!x.1) && (backToKw cpos (keywordEach [] X.env)).all (λx=>x.1.isSome)
  && decide (([e,f]:AG).length+([]:List Keyword).length+(if ([]:List Keyword).isEmpty then 0 else 1)<30))=true
 line:(apos.endLine == cpos.line)=true
 trees:backTo cpos (starEach [e,f] X.env)=[(false,eval e X.env),(false,eval f X.env)]
def IsD(H:Hp)(a:AI):Prop:=(∃b,Rd H a (.dK b))\/∃b,Rd H a (.dT b)
theorem Zl3{X:Cx}{pins:At}{σ:St}{H:Hp}{s:AK}{a:AI}(I:Inv X pins σ H s)(d:IsD H a):
  s.TypeIs (.ref a) "dict"/\(∀b,Value.ref a=.ref b->∃ob,s.heap.get? b=some ob/\ob.dict=none)/\(a == sysModules)=false:=by
 rcases d with ⟨c,e⟩ | ⟨c,e⟩
 ·obtain⟨_,hd,g,_,dd⟩:=Gw I.hok e;refine⟨dd.typeIs,λb q=>?_,hd⟩;cases q;obtain⟨ob,_,_,h1,h2,_⟩:=dd;exact⟨ob,h1,h2.2.1⟩
 ·obtain⟨_,hd,f,_,dd⟩:=Zat I.hok e;refine⟨dd.typeIs,λb q=>?_,hd⟩;cases q;obtain⟨ob,_,_,h1,h2,_⟩:=dd;exact⟨ob,h1,h2.2.1⟩
section
variable {X:Cx}{pins:At}{σ:St}{H:Hp}{s:AK}{a:AI}{y d:V}{u r:AJ}{o:Option V}{A:Around}{E:Ap}
end
section
variable {X:Cx}{o e f:AN}{apos cpos:Pos}{td ty tx:TE}
end
section
variable {X:Cx}{pins:At}{σ:St}{H:Hp}{s:AK}{a:AI}{kvs:List (Key×V)}{A:Around}{E:Ap}
end
section
variable {X:Cx}{pins:At}{σ:St}{H:Hp}{s:AK}{a:AI}{y:V}{u:AJ}{A:Around}{E:Ap}
end
end L2
namespace Att
open PySem PySem.W PySem.Calls PyProof.Rows
section
variable {prog:AM}{w:AO}{A:Around}{E:Ap}{s:AK}{K:Frag}
end
end Att
namespace L2
open PySem PySem.Spec PyProof.Rows
section
variable {X:Cx}
end
section
variable {κ:Type} [DecidableEq κ]
end
end L2
set_option maxHeartbeats 40000000
namespace G
open PySem L2
section
variable {D:Ends}{σ:St}{H H1:Hp}{Q:VK}{t u:TS}{ta tb tc te:TE}{n:μ}{r:VK}{b c:μ}
theorem VG(h:t ⟨u ⟨n,r,b,c⟩,r,b,c⟩ σ H):aP t u ⟨n,r,b,c⟩ σ H:=h
theorem Zrl(h:n σ H):cC ⟨n,r,b,c⟩ σ H:=h
theorem Zod(h:b σ H):Zbo ⟨n,r,b,c⟩ σ H:=h
theorem Zs0(h:c σ H):Zih ⟨n,r,b,c⟩ σ H:=h
theorem Zrw(h:te σ H λ_ H1=>n σ H1):vG te ⟨n,r,b,c⟩ σ H:=h
theorem Ztu(h:te σ H r):bB te ⟨n,r,b,c⟩ σ H:=h
theorem Zru{c':TT}(h:c' σ H λk H1=>if k=true then t ⟨n,r,b,c⟩ σ H1 else u ⟨n,r,b,c⟩ σ H1):dF c' t u ⟨n,r,b,c⟩ σ H:=h
theorem Zua{g:TG}(h:te σ H λx H1=>g x σ H1 n):bz te g ⟨n,r,b,c⟩ σ H:=h
theorem i_C{v:V}(h:Q v H):tC v σ H Q:=h
theorem Zw3{f:R2}(h:ta σ H λx H1=>tb σ H1 λy a=>f x y a Q):aV f ta tb σ H Q:=h
theorem Zw1{f:V->Hp->VK->Prop}(h:ta σ H λx H1=>f x H1 Q):tUn f ta σ H Q:=h
def kB(q:Bool->Hp->Prop):VK:=λx H'=>∃k,x=.bl k/\q k H'
theorem i_B{k:Bool}{q:Bool->Hp->Prop}(h:q k H):kB q (.bl k) H:=⟨k,rfl,h⟩
theorem Zrh{q:Bool->Hp->Prop}(h:te σ H (kB q)):bT te σ H q:=h
theorem Ztt{q:Bool->Hp->Prop}(h:te σ H (kB q)):tB te σ H q:=h
theorem Zub{t u:TT}{q:Bool->Hp->Prop}(h:t σ H λk H1=>if k=true then u σ H1 q else q false H1):WM t u σ H q:=h
theorem Ztw{t u:TT}{q:Bool->Hp->Prop}(h:t σ H λk H1=>if k=true then q true H1 else u σ H1 q):Rm t u σ H q:=h
theorem Zpj{t:TT}{q:Bool->Hp->Prop}(h:t σ H λk H1=>q (!k) H1):wZ t σ H q:=h
theorem Zs4(h:ta σ H (kB λk H1=>if k=true then tb σ H1 Q else Q (.bl false) H1)):Uo ta tb σ H Q:=h
theorem Ztv(h:ta σ H (kB λk H1=>if k=true then Q (.bl true) H1 else tb σ H1 Q)):Zmt ta tb σ H Q:=h
theorem Zrk(h:ta σ H (kB λk H1=>Q (.bl (!k)) H1)):Ze6 ta σ H Q:=h
theorem Zwi{g:Int->Int->V}{i j:Int}(h:Q (g i j) H):iH g (.int i) (.int j) H Q:=⟨i,j,rfl,rfl,h⟩
theorem i_I{C:Int->Int->Prop}{g:Int->Int->V}{i j:Int}(hc:C i j)(h:Q (g i j) H):rI C g (.int i) (.int j) H Q:=⟨i,j,rfl,rfl,hc,h⟩
theorem i_U{g:Int->V}{i:Int}(h:Q (g i) H):rU g (.int i) H Q:=⟨i,rfl,h⟩
theorem Zu9{i j:Int}(h:Q (.bl (decide (i=j))) H):zx (.int i) (.int j) H Q:=⟨rfl,by rw[show decide (V.int i=V.int j)=decide (i=j)from decide_eq_decide.mpr ⟨λe=>V.int.inj e,λe=>by rw[e]⟩];exact h⟩
theorem Zu8{i j:Str}(h:Q (.bl (decide (i=j))) H):zx (.str i) (.str j) H Q:=⟨rfl,by rw[show decide (V.str i=V.str j)=decide (i=j)from decide_eq_decide.mpr ⟨λe=>V.str.inj e,λe=>by rw[e]⟩];exact h⟩
theorem Ztz{i j:Int}(h:Q (.bl (!decide (i=j))) H):Y6 (.int i) (.int j) H Q:=⟨rfl,by rw[show decide (V.int i=V.int j)=decide (i=j)from decide_eq_decide.mpr ⟨λe=>V.int.inj e,λe=>by rw[e]⟩];exact h⟩
theorem Zty{i j:Str}(h:Q (.bl (!decide (i=j))) H):Y6 (.str i) (.str j) H Q:=⟨rfl,by rw[show decide (V.str i=V.str j)=decide (i=j)from decide_eq_decide.mpr ⟨λe=>V.str.inj e,λe=>by rw[e]⟩];exact h⟩
def DR:R2:=λx y H Q=>y=.non/\Q (.bl (decide (x=.non))) H
def DQ:R2:=λx y H Q=>y=.non/\Q (.bl (!decide (x=.non))) H
theorem Zrt(h:Q (.bl true) H):DR .non .non H Q:=⟨rfl,h⟩
theorem Zrs{i:Int}(h:Q (.bl false) H):DR (.int i) .non H Q:=⟨rfl,h⟩
theorem Zrr{i:Str}(h:Q (.bl false) H):DR (.str i) .non H Q:=⟨rfl,h⟩
theorem Zrq{i:AI}(h:Q (.bl false) H):DR (.ref i) .non H Q:=⟨rfl,h⟩
theorem Zo4(h:Q (.bl false) H):DQ .non .non H Q:=⟨rfl,h⟩
theorem Zo3{i:Int}(h:Q (.bl true) H):DQ (.int i) .non H Q:=⟨rfl,h⟩
theorem Zo2{i:AI}(h:Q (.bl true) H):DQ (.ref i) .non H Q:=⟨rfl,h⟩
theorem Zd1{A B:Prop}(h:A):if true=true then A else B:=Zcx h
theorem Ym{A B:Prop}(h:B):if false=true then A else B:=Znz h
theorem Zo9{A B:Prop}(h:B):if (!true)=true then A else B:=Znz h
theorem Zoa{A B:Prop}(h:A):if (!false)=true then A else B:=Zcx h
theorem pY{p A B:Prop} [Decidable p](h1:p->A)(h2:¬ p->B):if decide p=true then A else B:=Zrc (λe=>h1 (of_decide_eq_true e)) (λe=>h2 (λq=>e (decide_eq_true q)))
theorem uX{p A B:Prop} [Decidable p](h1:¬ p->A)(h2:p->B):if (!decide p)=true then A else B:=Zrc (λe=>h1 (by simpa using e)) (λe=>h2 (by simpa using e))
theorem Ztx{q:List V->Hp->Prop}(h:q [] H):aG σ H q:=h
theorem Zs1{q:List V->Hp->Prop}{t:TA}(h:ta σ H λx H1=>t σ H1 λxs a=>q (x::xs) a):aj ta t σ H q:=h
theorem Zu0{t:TA}(h:t σ H λxs H1=>xs.length<=sizeLine/\∀p,H1 p=none->Q (.ref p) (upd H1 p (.lst xs))):dX t σ H Q:=h
theorem Ztr{t:TA}(h:t σ H λxs H1=>xs.length<=sizeLine/\∀p,H1 p=none->Q (.ref p) (upd H1 p (.tup xs))):cY t σ H Q:=h
theorem Zs2{t:TA}{sp:Sp}{qw:List V}{E:XK}(h:t σ H λvs H1=>sp (vs++qw) H1 Q E):aX sp qw E t σ H Q:=h
theorem Zwj{t:TA}{f:List V->Hp->VK->Prop}(h:t σ H λvs H1=>f vs H1 Q):nQ f t σ H Q:=h
theorem Zro{t:TA}{sp:Sp}{qw:List V}{E:XK}{C:AI}(h:t σ H λvs H1=>∀x dx,H1 x=none->H1 dx=none->dx≠x->sp (.ref x::(vs++qw)) (upd (upd H1 dx (.own x)) x (.ins C dx [])) (λv a=>v=.non/\Q (.ref x) a) E):w6 C sp qw E t σ H Q:=h
def Ztn(K:aD)(f:Str)(Q:VK):VK:=λx H1=>∃a C dx fs v,x=.ref a/\H1 a=some (.ins C dx fs)/\Lj K C/\cQ K C f/\fs.lookup f=some v/\Q v H1
theorem Zu7{K:aD}{f:Str}(h:ta σ H (Ztn K f Q)):bh K ta f σ H Q:=h
theorem aH{K:aD}{f:Str}{a C dx:AI}{fs:List (Str×V)}{v:V}(h:H a=some (.ins C dx fs))(hc:Lj K C)(hn:cQ K C f)(hl:fs.lookup f=some v)(q:Q v H):Ztn K f Q (.ref a) H:=⟨a,C,dx,fs,v,rfl,h,hc,hn,hl,q⟩
theorem Zri{K:aD}{f:Str}{e:TE}(h:e σ H λy H1=>ta σ H1 λx d=>∃a C dx fs,x=.ref a/\d a=some (.ins C dx fs)/\Lj K C/\cQ K C f/\fs.length<1000/\n σ (upd d a (.ins C dx (bU f y fs)))):dY K ta e f ⟨n,r,b,c⟩ σ H:=h
theorem Zrn{C:AI}{m:Str}{sp:Sp}{qw:List V}{E:XK}{t:TA}(h:ta σ H λx H1=>∃a dx fs,x=.ref a/\H1 a=some (.ins C dx fs)/\fs.lookup m=none/\t σ H1 λvs b=>sp (x::(vs++qw)) b Q E):gQ C m sp qw E ta t σ H Q:=h
theorem Zl7{q:AA->Hp->Prop}(h:q none H):Wz σ H q:=h
def kI(q:Int->Hp->Prop):VK:=λx H1=>∃i,x=.int i/\q i H1
theorem Zrj{q:AA->Hp->Prop}(h:te σ H (kI λi=>q (some i))):Ze5 te σ H q:=h
theorem Zw4{i:Int}{q:Int->Hp->Prop}(h:q i H):kI q (.int i) H:=⟨i,rfl,h⟩
theorem Zw2{f:V->AA->AA->Hp->VK->Prop}{tl th:TO}(h:te σ H λx H1=>tl σ H1 λl a=>th σ a λu b=>f x l u b Q):tSl f te tl th σ H Q:=h
theorem Zwh{K:aD}{T:String}{f:V->List V->Hp->VK->Prop}{to:TE}{t:TA}(h:to σ H λx H1=>tyV K T x H1/\t σ H1 λxs a=>f x xs a Q):tBM K T f to t σ H Q:=h
theorem Zu6{e:TI}{g:TG}{tb:TS}(h:e σ H λJ H1=>∃W:Nat->Nat->μ,(∃m,W 0 m σ H1)/\∀i m σ H,W i m σ H->
 (J.stop i H/\n σ H)\/(J.go i H/\∃N:μ,(∀ a H',N a H'->∃f,f<m/\W (i+1) f a H')/\∀x H',J.yld i H x H'->g x σ H' λd j=>tb ⟨N,r,n,N⟩ d j)):Bq e g tb ⟨n,r,b,c⟩ σ H:=h
theorem Zw7{K:aD}{R:It->Hp->Prop}(h:te σ H λx H1=>∃a,x=.ref a/\(∃xs,cJ K H1 a xs)/\R (Itl K a) H1):wI K te σ H R:=h
theorem Zw6{ta:TA}{R:It->Hp->Prop}(h:ta σ H λvs H1=>∃j:Int,vs=[.int j]/\-(2 ^ 62)<=j/\j<2 ^ 62/\R (Itr 0 j.toNat) H1):J0 ta σ H R:=h
end
theorem Zw0{v:V}{l:St}{H:Hp}{Q:VK}(h:Q v H):ak 0 (some v::l) H Q:=⟨v,rfl,h⟩
theorem Zvz{a:Option V}{v:V}{l:St}{H:Hp}{Q:VK}(h:Q v H):ak 1 (a::some v::l) H Q:=⟨v,rfl,h⟩
theorem Zwg{a:Option V}{y:Option V}{v:V}{l:St}{H:Hp}{Q:μ}(h:Q (a::some v::l) H):aN 1 v (a::y::l) H Q:=h
theorem Zvy{a b:Option V}{v:V}{l:St}{H:Hp}{Q:VK}(h:Q v H):ak 2 (a::b::some v::l) H Q:=⟨v,rfl,h⟩
theorem Zu2{a b:Option V}{y:Option V}{v:V}{l:St}{H:Hp}{Q:μ}(h:Q (a::b::some v::l) H):aN 2 v (a::b::y::l) H Q:=h
theorem Zvx{a c b:Option V}{v:V}{l:St}{H:Hp}{Q:VK}(h:Q v H):ak 3 (a::c::b::some v::l) H Q:=⟨v,rfl,h⟩
theorem Zwf{a c b:Option V}{y:Option V}{v:V}{l:St}{H:Hp}{Q:μ}(h:Q (a::c::b::some v::l) H):aN 3 v (a::c::b::y::l) H Q:=h
theorem Zvw{a d c b:Option V}{v:V}{l:St}{H:Hp}{Q:VK}(h:Q v H):ak 4 (a::d::c::b::some v::l) H Q:=⟨v,rfl,h⟩
theorem Zwe{a d c b:Option V}{y:Option V}{v:V}{l:St}{H:Hp}{Q:μ}(h:Q (a::d::c::b::some v::l) H):aN 4 v (a::d::c::b::y::l) H Q:=h
theorem Zvv{a d c b e:Option V}{v:V}{l:St}{H:Hp}{Q:VK}(h:Q v H):ak 5 (a::d::c::b::e::some v::l) H Q:=⟨v,rfl,h⟩
theorem Zwd{a d c b e:Option V}{y:Option V}{v:V}{l:St}{H:Hp}{Q:μ}(h:Q (a::d::c::b::e::some v::l) H):aN 5 v (a::d::c::b::e::y::l) H Q:=h
theorem Zvu{a d c b e f:Option V}{v:V}{l:St}{H:Hp}{Q:VK}(h:Q v H):ak 6 (a::d::c::b::e::f::some v::l) H Q:=⟨v,rfl,h⟩
theorem Zwc{a d c b e f:Option V}{y:Option V}{v:V}{l:St}{H:Hp}{Q:μ}(h:Q (a::d::c::b::e::f::some v::l) H):aN 6 v (a::d::c::b::e::f::y::l) H Q:=h
theorem Zvt{a e d b f g c:Option V}{v:V}{l:St}{H:Hp}{Q:VK}(h:Q v H):ak 7 (a::e::d::b::f::g::c::some v::l) H Q:=⟨v,rfl,h⟩
theorem Zwb{a e d b f g c:Option V}{y:Option V}{v:V}{l:St}{H:Hp}{Q:μ}(h:Q (a::e::d::b::f::g::c::some v::l) H):aN 7 v (a::e::d::b::f::g::c::y::l) H Q:=h
theorem Zvs{a e d b f i c g:Option V}{v:V}{l:St}{H:Hp}{Q:VK}(h:Q v H):ak 8 (a::e::d::b::f::i::c::g::some v::l) H Q:=⟨v,rfl,h⟩
theorem Zwa{a e d b f i c g:Option V}{y:Option V}{v:V}{l:St}{H:Hp}{Q:μ}(h:Q (a::e::d::b::f::i::c::g::some v::l) H):aN 8 v (a::e::d::b::f::i::c::g::y::l) H Q:=h
theorem Zvr{a f e c g j d i b:Option V}{v:V}{l:St}{H:Hp}{Q:VK}(h:Q v H):ak 9 (a::f::e::c::g::j::d::i::b::some v::l) H Q:=⟨v,rfl,h⟩
theorem Zw9{a f e c g j d i b:Option V}{y:Option V}{v:V}{l:St}{H:Hp}{Q:μ}(h:Q (a::f::e::c::g::j::d::i::b::some v::l) H):aN 9 v (a::f::e::c::g::j::d::i::b::y::l) H Q:=h
theorem Ztq{b g f d i k e j c a:Option V}{v:V}{l:St}{H:Hp}{Q:VK}(h:Q v H):ak 10 (b::g::f::d::i::k::e::j::c::a::some v::l) H Q:=⟨v,rfl,h⟩
theorem Zu5{b g f d i k e j c a:Option V}{y:Option V}{v:V}{l:St}{H:Hp}{Q:μ}(h:Q (b::g::f::d::i::k::e::j::c::a::some v::l) H):aN 10 v (b::g::f::d::i::k::e::j::c::a::y::l) H Q:=h
theorem Ztp{c i g e j m f k d b a:Option V}{v:V}{l:St}{H:Hp}{Q:VK}(h:Q v H):ak 11 (c::i::g::e::j::m::f::k::d::b::a::some v::l) H Q:=⟨v,rfl,h⟩
theorem Zu4{c i g e j m f k d b a:Option V}{y:Option V}{v:V}{l:St}{H:Hp}{Q:μ}(h:Q (c::i::g::e::j::m::f::k::d::b::a::some v::l) H):aN 11 v (c::i::g::e::j::m::f::k::d::b::a::y::l) H Q:=h
theorem Zto{d j i f k n g m e c a b:Option V}{v:V}{l:St}{H:Hp}{Q:VK}(h:Q v H):ak 12 (d::j::i::f::k::n::g::m::e::c::a::b::some v::l) H Q:=⟨v,rfl,h⟩
theorem Zu3{d j i f k n g m e c a b:Option V}{y:Option V}{v:V}{l:St}{H:Hp}{Q:μ}(h:Q (d::j::i::f::k::n::g::m::e::c::a::b::some v::l) H):aN 12 v (d::j::i::f::k::n::g::m::e::c::a::b::y::l) H Q:=h
theorem aM{H:Hp}{p:AI}(h:H p=none)(o:HO):bx H (upd H p o):=λb u q=>by rw[aA (aF q h)];exact q
theorem nwO{H b:Hp}{a:AI}{o:HO}(n:H a=none)(h:upd H a o=b):bx H b/\b a=some o:=by
 subst h;exact⟨aM n o,ao⟩
def tyN(H:Hp):V->Option String
 | .non=>some "NoneType"
 | .bl _=>some "bool"
 | .int _=>some "int"
 | .str _=>some "str"
 | .ref a=>match H a with
  | some (.lst _)=>some "list"
  | some (.uh _ (.lst _))=>some "list"
  | some (.tup _)=>some "tuple"
  | some (.dK _)=>some "dict"
  | some (.dT _)=>some "dict"
  | _=>none
 | _=>none
def qu(t n:String):Option Bool:=if ["int","bool","str","list","tuple","dict"].contains n then some (t == n || (t == "bool" && n == "int"))else none
def zz:List V->Hp->VK->Prop:=λxs H Q=>∃x n t k,xs=[x,.ty n]/\tyN H x=some t/\qu t n=some k/\Q (.bl k) H
theorem JX:qu "int" "int"=some true:=γ
theorem FJ:qu "int" "bool"=some false:=γ
theorem JW:qu "int" "str"=some false:=γ
theorem Yg:qu "int" "list"=some false:=γ
theorem SJ:qu "int" "tuple"=some false:=γ
theorem Yh:qu "int" "dict"=some false:=γ
theorem Yl:qu "bool" "int"=some true:=γ
theorem S6:qu "bool" "bool"=some true:=γ
theorem Yk:qu "bool" "str"=some false:=γ
theorem SX:qu "bool" "list"=some false:=γ
theorem PN:qu "bool" "tuple"=some false:=γ
theorem S5:qu "bool" "dict"=some false:=γ
theorem Zai:qu "str" "int"=some false:=γ
theorem Yc:qu "str" "bool"=some false:=γ
theorem JV:qu "str" "str"=some true:=γ
theorem X8:qu "str" "list"=some false:=γ
theorem Sv:qu "str" "tuple"=some false:=γ
theorem Yb:qu "str" "dict"=some false:=γ
theorem HS:qu "NoneType" "int"=some false:=γ
theorem FQ:qu "NoneType" "bool"=some false:=γ
theorem HR:qu "NoneType" "str"=some false:=γ
theorem FN:qu "NoneType" "list"=some false:=γ
theorem By:qu "NoneType" "tuple"=some false:=γ
theorem FP:qu "NoneType" "dict"=some false:=γ
theorem Ye:qu "list" "int"=some false:=γ
theorem Sy:qu "list" "bool"=some false:=γ
theorem Yd:qu "list" "str"=some false:=γ
theorem Bc:qu "list" "list"=some true:=γ
theorem PK:qu "list" "tuple"=some false:=γ
theorem Sx:qu "list" "dict"=some false:=γ
theorem Su:qu "tuple" "int"=some false:=γ
theorem PJ:qu "tuple" "bool"=some false:=γ
theorem Ss:qu "tuple" "str"=some false:=γ
theorem Pz:qu "tuple" "list"=some false:=γ
theorem wG:qu "tuple" "tuple"=some true:=γ
theorem PB:qu "tuple" "dict"=some false:=γ
theorem Yj:qu "dict" "int"=some false:=γ
theorem SQ:qu "dict" "bool"=some false:=γ
theorem Yi:qu "dict" "str"=some false:=γ
theorem SM:qu "dict" "list"=some false:=γ
theorem PL:qu "dict" "tuple"=some false:=γ
theorem SN:qu "dict" "dict"=some true:=γ
theorem Zd4{i:Int}{H:Hp}{Q:VK}(h:Q (.bl true) H):zz [.int i,.ty "int"] H Q:=⟨_,_,_,_,rfl,rfl,JX,h⟩
theorem Zak{i:Int}{H:Hp}{Q:VK}(h:Q (.bl false) H):zz [.int i,.ty "bool"] H Q:=⟨_,_,_,_,rfl,rfl,FJ,h⟩
theorem Zd3{i:Int}{H:Hp}{Q:VK}(h:Q (.bl false) H):zz [.int i,.ty "str"] H Q:=⟨_,_,_,_,rfl,rfl,JW,h⟩
theorem Zd2{i:Str}{H:Hp}{Q:VK}(h:Q (.bl true) H):zz [.str i,.ty "str"] H Q:=⟨_,_,_,_,rfl,rfl,JV,h⟩
theorem rB{a:AI}{H:Hp}{Q:VK}{xs:List V}(hp:H a=some (.lst xs))(h:Q (.bl true) H):zz [.ref a,.ty "list"] H Q:=⟨_,_,_,_,rfl,(by show(match H a with | some (.lst _)=>some "list" | some (.uh _ (.lst _))=>some "list" | some (.tup _)=>some "tuple" | some (.dK _)=>some "dict" | some (.dT _)=>some "dict" | _=>none)=some "list";rw[hp]),Bc,h⟩
theorem Yn{a:AI}{H:Hp}{Q:VK}{xs:List V}(hp:H a=some (.tup xs))(h:Q (.bl true) H):zz [.ref a,.ty "tuple"] H Q:=⟨_,_,_,_,rfl,(by show(match H a with | some (.lst _)=>some "list" | some (.uh _ (.lst _))=>some "list" | some (.tup _)=>some "tuple" | some (.dK _)=>some "dict" | some (.dT _)=>some "dict" | _=>none)=some "tuple";rw[hp]),wG,h⟩
def gD(K:aD):List V->Hp->VK->Prop:=λxs H Q=>∃p a,xs=[.ref p]/\(cJ K H p a\/fj K H p a)/\Q (.int a.length) H
theorem eO{K:aD}{a:AI}{H:Hp}{Q:VK}{xs:List V}(hp:cJ K H a xs)(h:Q (.int xs.length) H):gD K [.ref a] H Q:=⟨a,xs,rfl,.inl hp,h⟩
theorem eF{K:aD}{a:AI}{H:Hp}{Q:VK}{xs:List V}{i:Int}{v:V}(hp:cJ K H a xs)(hi:QJ xs i=some v)(h:Q v H):dM K (.ref a) (.int i) H Q:=⟨a,xs,i,v,rfl,rfl,hp,hi,h⟩
section
variable {K:aD}{a:AI}{xs:List V}{g:TG}{tb:TS}{σ:St}{H:Hp}{n:μ}{r:VK}
theorem forL(xs:List V)(Pv:Nat->μ)(f:Pv 0 σ H)(hl:∀i σ H,i<=xs.length->Pv i σ H->cJ K H a xs)
  (hs:∀i x σ H,xs[i]? =some x->Pv i σ H->g x σ H λb d=>tb ⟨Pv (i+1),r,n,Pv (i+1)⟩ b d) (hd:∀ σ H,Pv xs.length σ H->n σ H):
  ∃W:Nat->Nat->μ,(∃m,W 0 m σ H)/\∀i m σ H,W i m σ H->
   ((Itl K a).stop i H/\n σ H)\/((Itl K a).go i H/\∃N:μ,(∀ c H',N c H'->∃e,e<m/\W (i+1) e c H')/\∀x H',(Itl K a).yld i H x H'->g x σ H' λb d=>tb ⟨N,r,n,N⟩ b d):=
 Zlp (D:=⟨n,r,λ_ _=>False,λ_ _=>False⟩) Pv f hl hs hd
theorem forR{lo:Int}{k:Nat}(Pv:Nat->μ)(e:Pv 0 σ H)
  (hs:∀i σ H,i<k->Pv i σ H->g (.int (lo+i)) σ H λa c=>tb ⟨Pv (i+1),r,n,Pv (i+1)⟩ a c) (hd:∀ σ H,Pv k σ H->n σ H):
  ∃W:Nat->Nat->μ,(∃m,W 0 m σ H)/\∀i m σ H,W i m σ H->
   ((Itr lo k).stop i H/\n σ H)\/((Itr lo k).go i H/\∃N:μ,(∀ b H',N b H'->∃d,d<m/\W (i+1) d b H')/\∀x H',(Itr lo k).yld i H x H'->g x σ H' λa c=>tb ⟨N,r,n,N⟩ a c):=
 Zho (D:=⟨n,r,λ_ _=>False,λ_ _=>False⟩) Pv e hs hd
end
theorem bG{n:Nat}(h:n<=1000000):n<=sizeLine:=Nat.le_trans h ε
def xV:R2:=λx y H Q=>∃i j,x=.str i/\y=.str j/\i.length+j.length<=sizeLine/\Q (.str (i++j)) H
theorem uY{i j:Str}{H:Hp}{Q:VK}(hz:i.length+j.length<=sizeLine)(h:Q (.str (i++j)) H):xV (.str i) (.str j) H Q:=⟨i,j,rfl,rfl,hz,h⟩
theorem Zu1{z:Str}{i:Int}{c:Nat}{H:Hp}{Q:VK}(hz:z.length<=sizeLine)(hi:QJ z.cps.toList i=some c)(h:Q (.str ⟨#[c]⟩) H):Zc6 (.str z) (.int i) H Q:=⟨z,i,c,rfl,rfl,hz,hi,h⟩
theorem Zl8{z:Str}{i:Int}{H:Hp}{Q:VK}(hz:z.length<=sizeLine)(b:0<=i)(h1:i<z.length)(h:∀c:Nat,Q (.str ⟨#[c]⟩) H):Zc6 (.str z) (.int i) H Q:=by
 have hk:i.toNat<z.cps.toList.length:=by rw[Array.length_toList];exact(Int.toNat_lt b).mpr h1
 have a:i=((i.toNat:Nat):Int):=δ
 have q:QJ z.cps.toList ((i.toNat:Nat):Int)=some z.cps.toList[i.toNat]:=eN (bL hk);rw[<- a]at q;exact Zu1 hz q (h _)
def pick(σ:St)(j:Nat):Option V:=match σ[j]? with
 | some v=>v
 | none=>none
def tLC(h:TI)(a:List Nat)(tc:TT)(f:TE):TE:=λσ H Q=>h σ H λJ g=>∃W:Nat->Nat->List V->Hp->Prop,(∃m,W 0 m [] g)/\∀i m c H,W i m c H->
 (J.stop i H/\∀p,H p=none->Q (.ref p) (upd H p (.lst c)))\/
 (J.go i H/\c.length<sizeLine/\∀x H',J.yld i H x H'->tc (some x::a.map (pick σ)) H' λk d=>if k=true then f (some x::a.map (pick σ)) d (λy e=>∃b,b<m/\W (i+1) b (c++[y]) e)else ∃b,b<m/\W (i+1) b c d)
def zF:TT:=λ_ H Q=>Q true H
theorem Qf{σ:St}{H:Hp}{Q:Bool->Hp->Prop}(h:Q true H):zF σ H Q:=h
theorem Zob{r c:R2}{a tb tc:TE}{σ:St}{H:Hp}{Q:VK}(h:a σ H λx d=>tb σ d λy e=>r x y e (kB λk b=>if k=true then tc σ b (λw f=>c y w f Q)else Q (.bl false) b)):Zbm r c a tb tc σ H Q:=h
structure EqD(K:aD)(C:AI):Prop where
 eq:W.findIn K (.ref C) "__eq__"=some (some (.builtin "object.__eq__"))
 ob:W.mroIn K C (.type "object")=some true
def GZ(C:AI)(E:XK)(b:TA):TS:=λ_ σ H=>b σ H λvs a=>vs.length<=100/\E (.ref C) none a
def Zbn(sp:Sp)(qw:List V)(E:St->XK)(t:TA):TE:=λσ H Q=>t σ H λvs a=>sp (vs++qw) a Q (E σ)
section
variable {σ:St}{H:Hp}{Q:VK}{n:μ}{r:VK}{b c:μ}{te:TE}{t:TA}
theorem Zo0{C:AI}{E:XK}(h:t σ H λvs a=>vs.length<=100/\E (.ref C) none a):GZ C E t ⟨n,r,b,c⟩ σ H:=h
theorem Zoc{sp:Sp}{qw:List V}{E:St->XK}(h:t σ H λvs a=>sp (vs++qw) a Q (E σ)):Zbn sp qw E t σ H Q:=h
end
theorem Zrv{to a:TE}{ts:Zoy}{x:V}{σ:St}{H:Hp}{Q:μ}(h:to σ H λo b=>a σ b λi c=>ts o i x c λd=>Q σ d):Ql to a ts x σ H Q:=h
def yG(K:aD):List V->Hp->VK->Prop:=λxs H Q=>∃(p:AI) (a:List V),xs=[.ref p]/\cJ K H p a/\∀l,H l=none->Q (.ref l) (upd H l (.lst a))
theorem LK{K:aD}{H:Hp}{Q:VK}{p:AI}{a:List V}(h1:cJ K H p a)(h:∀l,H l=none->Q (.ref l) (upd H l (.lst a))):yG K [.ref p] H Q:=⟨p,a,rfl,h1,h⟩
def OkN(K:aD)(H:Hp)(xs:List V):Prop:=∀y∈xs,y=.non\/∃a C dx fs,y=.ref a/\H a=some (.ins C dx fs)/\Lj K C/\EqD K C
def Zqe(K:aD)(a:Bool):R2:=λx y H Q=>∃p xs,x=.non/\y=.ref p/\cJ K H p xs/\OkN K H xs/\Q (.bl (if a then !decide (V.non∈xs)else decide (V.non∈xs))) H
theorem Zl6{K:aD}{H:Hp}{Q:VK}{p:AI}{xs:List V}(h1:cJ K H p xs)(h2:OkN K H xs)(h:Q (.bl (!decide (V.non∈xs))) H):Zqe K true .non (.ref p) H Q:=⟨p,xs,rfl,rfl,h1,h2,h⟩
def Zel(K:aD):V->List V->Hp->VK->Prop:=λx vs H Q=>∃p xs,x=.ref p/\vs=[.non]/\cJ K H p xs/\OkN K H xs/\V.non∈xs/\Q (.int (xs.idxOf V.non)) H
def eqL(xs a:List V):Bool:=xs.length == a.length && (xs.zip a).all λp=>eqV p.1 p.2
def Zqg(K:aD)(b:Bool):R2:=λx y H Q=>∃p q xs a,x=.ref p/\y=.ref q/\cJ K H p xs/\cJ K H q a/\(xs.length=a.length->xs.all nF=true/\a.all nF=true)/\Q (.bl (if b then !eqL xs a else eqL xs a)) H
theorem Zlx{xs:List V}(h:xs.all nF=true):eqL xs xs=true:=by
 unfold eqL;rw[beq_self_eq_true,Bool.true_and,List.all_eq_true];intro p hp;have e:p.1=p.2:=by
  obtain⟨j,c,e⟩:=List.getElem_of_mem hp;rw[List.getElem_zip]at e;rw[<- e]
 have hm:p.1∈xs:=(List.of_mem_zip hp).1;have a:=List.all_eq_true.mp h _ hm;rw[<- e];cases hv:p.1 with
 | non=>rfl
 | bl b=>cases b<;>rfl
 | int i=>show(i == i)=true;simp
 | str z=>show(z == z)=true;simp
 | _=>rw[hv]at a;exact absurd (show false=true from a) Bool.false_ne_true
theorem Zrm{K:aD}{H:Hp}{Q:VK}{p q:AI}{xs:List V}(h1:cJ K H p xs)(h2:cJ K H q xs)(a:xs.all nF=true)(h:Q (.bl false) H):Zqg K true (.ref p) (.ref q) H Q:=by
 refine⟨p,q,_,_,rfl,rfl,h1,h2,λ_=>⟨a,a⟩,?_⟩;show Q (.bl (!eqL xs xs)) H;rw[Zlx a];exact h
def Fm(S:AF)(H H':Hp):Prop:=∀b o,H b=some o->b∉S->H' b=some o
theorem Fm.same{H H':Hp}(a:Fm [] H H'):bx H H':=λc o h=>a c o h ay
theorem Zd0{x:V}{H:Hp}{Q:VK}(h:Q (.bl (!decide (x=.non))) H):DQ x .non H Q:=⟨rfl,h⟩
def LCg(J:It)(a:List Nat)(tc:TT)(f:TE)(σ:St)(H:Hp)(Q:VK):Prop:=∃W:Nat->Nat->List V->Hp->Prop,(∃m,W 0 m [] H)/\∀i m c H,W i m c H->
 (J.stop i H/\∀p,H p=none->Q (.ref p) (upd H p (.lst c)))\/
 (J.go i H/\c.length<sizeLine/\∀x H',J.yld i H x H'->tc (some x::a.map (pick σ)) H' λk d=>if k=true then f (some x::a.map (pick σ)) d (λy e=>∃b,b<m/\W (i+1) b (c++[y]) e)else ∃b,b<m/\W (i+1) b c d)
theorem VH{b:TI}{a:List Nat}{tc:TT}{c:TE}{σ:St}{H:Hp}{Q:VK}(h:b σ H λJ d=>LCg J a tc c σ d Q):tLC b a tc c σ H Q:=h
theorem Zkw{J:It}{a:List Nat}{tc:TT}{f:TE}{σ:St}{H:Hp}{Q:VK}(k:Nat)(hz:k<=1000000)(g:Nat->Option V)
  (b:J.stop k H) (d:∀i,i<k->J.go i H) (hy:∀i x H',i<k->J.yld i H x H'->H'=H/\(∀q:Bool->Hp->Prop,q (g i).isSome H->tc (some x::a.map (pick σ)) H q)/\∀(y:V) (q:VK),g i=some y->q y H->f (some x::a.map (pick σ)) H q)
  (q:∀p,H p=none->Q (.ref p) (upd H p (.lst ((List.range k).filterMap g)))):
  LCg J a tc f σ H Q:=by
 refine⟨λi m h H'=>H'=H/\i<=k/\m=k - i/\h=(List.range i).filterMap g,⟨k,rfl,Nat.zero_le _,rfl,rfl⟩,?_⟩;rintro i m h _ ⟨rfl,hi,rfl,rfl⟩
 by_cases hk:i=k
 ·subst hk;exact .inl ⟨b,q⟩
 ·have c:i<k:=δ
  refine .inr ⟨d i c,?_,λx H' y=>?_⟩
  ·refine Nat.lt_of_le_of_lt (Nat.le_trans (List.length_filterMap_le _ _) ?_) (show 1000000<sizeLine by decide);rw[List.length_range];omega
  ·obtain⟨rfl,h1,h2⟩:=hy i x H' c y;refine h1 _ ?_;have er:List.filterMap g (List.range (i+1))=List.filterMap g (List.range i)++(match g i with | some y=>[y] | none=>[]):=by
    rw[List.range_succ,List.filterMap_append];cases e:g i with
    | none=>rw[List.filterMap_cons_none e];rfl
    | some y=>rw[List.filterMap_cons_some e];rfl
   cases e:g i with
   | none=>
    rw[e]at er;dsimp only[Option.isSome];refine Znz ⟨k - (i+1),δ,rfl,δ,rfl,?_⟩;rw[er,List.append_nil]
   | some y=>
    rw[e]at er;dsimp only[Option.isSome];refine Zcx (h2 y _ e ⟨k - (i+1),δ,rfl,δ,rfl,?_⟩);rw[er]
theorem Yt(l:List Nat)(p:Nat->Bool)(f:Nat->V):l.filterMap (λi=>if p i=true then some (f i)else none)=(l.filter p).map f:=by
 induction l with
 | nil=>rfl
 | cons a l ih=>
  by_cases h:p a=true
  ·rw[List.filterMap_cons_some (by rw[if_pos h]),List.filter_cons_of_pos h,List.map_cons,ih]
  ·rw[List.filterMap_cons_none (by rw[if_neg h]),List.filter_cons_of_neg h,ih]
theorem Zkx{a:List Nat}{tc:TT}{d:TE}{σ:St}{H:Hp}{Q:VK}{n:Nat}{z:Int}(k:z.toNat=n)(p:Nat->Bool)(f:Nat->V)(hz:n<=1000000)
  (b:∀i,i<n->∀q:Bool->Hp->Prop,q (p i) H->tc (some (.int i)::a.map (pick σ)) H q)
  (c:∀i,i<n->p i=true->∀q:VK,q (f i) H->d (some (.int i)::a.map (pick σ)) H q)
  (q:∀l,H l=none->Q (.ref l) (upd H l (.lst (((List.range n).filter p).map f)))):
  LCg (Itr 0 z.toNat) a tc d σ H Q:=by
 subst k;refine Zkw z.toNat hz (λi=>if p i=true then some (f i)else none) Δ (λi hi=>hi) (λi x m hi y=>?_) ?_
 ·obtain⟨j,h⟩:=y;have ex:x=.int i:=by rw[h];simp
  refine⟨j,λq hq=>?_,λy q hy hq=>?_⟩
  ·rw[ex];refine b i hi q ?_;cases e:p i with
   | true=>rw[e]at hq;exact hq
   | false=>rw[e]at hq;exact hq
  ·rw[ex];cases e:p i with
   | true=>
    rw[e]at hy;have g:f i=y:=by simpa using hy
    exact c i hi e q (by rw[g];exact hq)
   | false=>rw[e]at hy;simp at hy
 ·rw[Yt];exact q
theorem XC{K:aD}{a:AI}{xs:List V}{b:List Nat}{tc:TT}{c:TE}{σ:St}{H:Hp}{Q:VK}(hs:cJ K H a xs)(g:Nat->Option V)(hz:xs.length<=1000000)
  (hy:∀i x,xs[i]? =some x->(∀q:Bool->Hp->Prop,q (g i).isSome H->tc (some x::b.map (pick σ)) H q)/\∀(y:V) (q:VK),g i=some y->q y H->c (some x::b.map (pick σ)) H q)
  (q:∀p,H p=none->Q (.ref p) (upd H p (.lst ((List.range xs.length).filterMap g)))):
  LCg (Itl K a) b tc c σ H Q:=by
 refine Zkw xs.length hz g ⟨xs,hs,Nat.le_refl _⟩ (λi hi=>⟨xs,xs[i],hs,bL hi⟩) (λi x f hi y=>?_) q;obtain⟨e,d⟩:=y;exact⟨e,hy i x (d xs hs)⟩
theorem o9{n i:Nat}(h:i<n):ixN n (i:Int)=some i:=by
 unfold ixN;rw[if_pos δ,if_pos δ];simp
theorem Zny{n:Nat}{i:Int}(a:0<=i)(h:i.toNat<n):ixN n i=some i.toNat:=by
 have e:i=((i.toNat:Nat):Int):=δ
 have:=o9 h;rw[<- e]at this;exact this
theorem mY{a:Type}{xs:List a}{i:Int}{v:a}(b:0<=i)(h:xs[i.toNat]? =some v):QJ xs i=some v:=by
 have e:i=((i.toNat:Nat):Int):=δ
 have:=eN h;rw[<- e]at this;exact this
inductive Al{α β:Type}(P:α->β->Prop):List α->List β->Prop
 | nil:Al P [] []
 | cons {x:α}{y:β}{xs:List α}{ys:List β}:P x y->Al P xs ys->Al P (x::xs) (y::ys)
section
variable {α β:Type}{P P':α->β->Prop}{xs:List α}{ys:List β}
theorem Al.length(h:Al P xs ys):xs.length=ys.length:=by
 induction h with
 | nil=>rfl
 | cons _ _ ih=>rw[List.length_cons,List.length_cons,ih]
theorem Al.mono(h:Al P xs ys)(f:∀x y,P x y->P' x y):Al P' xs ys:=by
 induction h with
 | nil=>exact .nil
 | cons p _ ih=>exact .cons (f _ _ p) ih
theorem Al.get(h:Al P xs ys):∀{i:Nat}{y:β},ys[i]? =some y->∃x,xs[i]? =some x/\P x y:=by
 induction h with
 | nil=>intro i y e;simp at e
 | cons p _ ih=>
  intro i y e;cases i with
  | zero=>simp at e;subst e;exact⟨_,rfl,p⟩
  | succ i=>
   obtain⟨x,a,b⟩:=ih (i:=i) (y:=y) (by simpa using e);exact⟨x,by simpa using a,b⟩
theorem Al.app(h:Al P xs ys){x:α}{y:β}(p:P x y):Al P (xs++[x]) (ys++[y]):=by
 induction h with
 | nil=>exact .cons p .nil
 | cons q t ih=>exact .cons q ih
end
abbrev Tg:=AI->Nat×Nat
def WT(H:Hp)(T:Tg):Prop:=∀b,H b=none->T b=(0,0)
structure fc(s:Nat)(H H':Hp)(T T':Tg):Prop where
 kp:∀b o,H b=some o->(T b).1≠s->H' b=some o
 al:∀b o,H b=some o->∃o',H' b=some o'
 tg:∀b o,H b=some o->T' b=T b
 wt:WT H' T'
def fX(T:Tg)(a:AI)(v:Nat×Nat):Tg:=λx=>if x=a then v else T x
theorem eZ{T:Tg}{a:AI}{v:Nat×Nat}:fX T a v a=v:=by unfold fX;rw[if_pos rfl]
theorem iI{T:Tg}{a b:AI}{v:Nat×Nat}(h:b≠a):fX T a v b=T b:=by unfold fX;rw[if_neg h]
theorem WT.same{H H':Hp}{T:Tg}(w:WT H T)(s:bx H H'):WT H' T:=λb h=>w b (s.free h)
theorem fc.refl{s:Nat}{H:Hp}{T:Tg}(w:WT H T):fc s H H T T:=⟨λ_ _ h _=>h,λ_ o h=>⟨o,h⟩,λ_ _ _=>rfl,w⟩
theorem fc.same{s:Nat}{H H':Hp}{T:Tg}(w:WT H T)(e:bx H H'):fc s H H' T T:=⟨λb o h _=>e b o h,λb o h=>⟨o,e b o h⟩,λ_ _ _=>rfl,w.same e⟩
theorem fc.trans{s:Nat}{H c e:Hp}{T d f:Tg}(a:fc s H c T d)(b:fc s c e d f):fc s H e T f where
 kp:=λx o h n=>b.kp x o (a.kp x o h n) (by rw[a.tg x o h];exact n)
 al:=λx o h=>by
  obtain⟨o1,h1⟩:=a.al x o h;exact b.al x o1 h1
 tg:=λx o h=>by
  obtain⟨o1,h1⟩:=a.al x o h;rw[b.tg x o1 h1,a.tg x o h]
 wt:=b.wt
theorem fc.upd{s:Nat}{H:Hp}{T:Tg}{a:AI}{o c:HO}(w:WT H T)(f:H a=some o)(d:(T a).1=s):fc s H (L2.upd H a c) T T where
 kp:=λx u h n=>by
  have:x≠a:=λe=>n (by rw[e];exact d);rw[aA this];exact h
 al:=λx u h=>by
  by_cases e:x=a
  ·exact⟨c,by rw[e,ao]⟩
  ·exact⟨u,by rw[aA e];exact h⟩
 tg:=λ_ _ _=>rfl
 wt:=λb h=>w b (by
  by_cases e:b=a
  ·rw[e,ao]at h;cases h
  ·rw[aA e]at h;exact h)
theorem Oz{T:Tg}{a b:AI}{x y:Nat×Nat}(c:T a=x)(hb:T b=y)(h:x≠y):a≠b:=λe=>h (by rw[<- c,<- hb,e])
theorem Zr4{J:It}{b:List Nat}{tc:TT}{s:TE}{σ:St}{H:Hp}{Q:VK}(k:Nat)(hz:k<=1000000)(R:Nat->V->Hp->Prop)(mono:∀i y a d,R i y a->bx a d->R i y d)
  (f:∀H',bx H H'->J.stop k H') (l:∀i H',i<k->bx H H'->J.go i H')
  (hy:∀i x a H',i<k->bx H a->J.yld i a x H'->H'=a/\(∀q:Bool->Hp->Prop,q true a->tc (some x::b.map (pick σ)) a q)/\∀q:VK,(∀y d,bx a d->R i y d->q y d)->s (some x::b.map (pick σ)) a q)
  (q:∀c H',bx H H'->c.length=k->(∀(i:Nat) y,c[i]? =some y->R i y H')->∀p,H' p=none->Q (.ref p) (upd H' p (.lst c))):
  LCg J b tc s σ H Q:=by
 refine⟨λi m c H'=>bx H H'/\i<=k/\m=k - i/\c.length=i/\∀(j:Nat) y,c[j]? =some y->R j y H',⟨k,bx.refl _,Nat.zero_le _,rfl,rfl,λj y e=>by simp at e⟩,?_⟩;rintro i m c a ⟨g,hi,rfl,hl,hr⟩
 by_cases hk:i=k
 ·subst hk;exact .inl ⟨f a g,q c a g hl hr⟩
 ·have h:i<k:=δ
  refine .inr ⟨l i a h g,Nat.lt_of_le_of_lt (show c.length<=1000000 by omega) (show 1000000<sizeLine by decide),λx H' y=>?_⟩;obtain⟨rfl,h1,h2⟩:=hy i x a H' h g y;refine h1 _ (Zcx (h2 _ λy d o r=>⟨k - (i+1),δ,g.trans o,δ,rfl,by rw[List.length_append,hl];rfl,λj z e=>?_⟩))
  by_cases t:j<c.length
  ·rw[List.getElem?_append_left t]at e;exact mono j z _ _ (hr j z e) o
  ·have n:=(dj e).1;rw[List.length_append,List.length_singleton]at n;have u:j=c.length:=δ
   subst u;rw[List.getElem?_append_right Δ,Nat.sub_self]at e;cases e;rw[hl];exact r
theorem Znw{J:It}{d:List Nat}{tc:TT}{C:TE}{σ:St}{H:Hp}{Q:VK}(k:Nat)(hz:k<=1000000)(R:Nat->AI->Hp->Prop)(mono:∀i y c f,R i y c->bx c f->R i y f)(al:∀i y c,R i y c->∃o,c y=some o)
  (g:∀H',bx H H'->J.stop k H') (s:∀i H',i<k->bx H H'->J.go i H')
  (hy:∀i x c H',i<k->bx H c->J.yld i c x H'->H'=c/\(∀q:Bool->Hp->Prop,q true c->tc (some x::d.map (pick σ)) c q)/\∀q:VK,(∀r f,bx c f->c r=none->R i r f->q (.ref r) f)->C (some x::d.map (pick σ)) c q)
  (q:∀(rs:AF) H',bx H H'->rs.length=k->rs.Nodup->(∀r∈rs,H r=none)->(∀(i:Nat) r,rs[i]? =some r->R i r H')->∀p,H' p=none->Q (.ref p) (upd H' p (.lst (rs.map V.ref)))):
  LCg J d tc C σ H Q:=by
 refine⟨λi m F H'=>∃rs:AF,F=rs.map V.ref/\bx H H'/\i<=k/\m=k - i/\rs.length=i/\rs.Nodup/\(∀r∈rs,H r=none)/\∀(j:Nat) r,rs[j]? =some r->R j r H',⟨k,[],rfl,bx.refl _,Nat.zero_le _,rfl,rfl,List.nodup_nil,λr hr=>(nomatch hr),λj y e=>by simp at e⟩,?_⟩;rintro i m _ c ⟨rs,rfl,h,hi,rfl,hl,nd,A,hr⟩
 by_cases hk:i=k
 ·subst hk;exact .inl ⟨g c h,q rs c h hl nd A hr⟩
 ·have l:i<k:=δ
  refine .inr ⟨s i c l h,Nat.lt_of_le_of_lt (show(rs.map V.ref).length<=1000000 by rw[bA];omega) (show 1000000<sizeLine by decide),λx H' y=>?_⟩;obtain⟨rfl,h1,h2⟩:=hy i x c H' l h y;refine h1 _ (Zcx (h2 _ λr f v w D=>⟨k - (i+1),δ,rs++[r],by rw[List.map_append];rfl,h.trans v,δ,rfl,by rw[List.length_append,hl];rfl,?_,λz hz=>?_,λj z e=>?_⟩))
  ·rw[List.nodup_append];refine⟨nd,ζ,λa E b hb e=>?_⟩;rw[List.mem_singleton.mp hb]at e;subst e;obtain⟨j,n,t⟩:=List.getElem_of_mem E;obtain⟨o,B⟩:=al j a _ (hr j a (by rw[bL n,t]));rw[w]at B;cases B
  ·rcases List.mem_append.mp hz with hz | hz
   ·exact A z hz
   ·rw[List.mem_singleton.mp hz];exact h.free w
  ·by_cases n:j<rs.length
   ·rw[List.getElem?_append_left n]at e;exact mono j z _ _ (hr j z e) v
   ·have u:=(dj e).1;rw[List.length_append,List.length_singleton]at u;have t:j=rs.length:=δ
    subst t;rw[List.getElem?_append_right Δ,Nat.sub_self]at e;cases e;rw[hl];exact D
theorem Zky{K:aD}{a:AI}{xs:List V}{c:List Nat}{tc:TT}{h:TE}{σ:St}{H:Hp}{Q:VK}(hs:cJ K H a xs)(hz:xs.length<=1000000)(R:Nat->AI->Hp->Prop)(mono:∀i y b d,R i y b->bx b d->R i y d)(al:∀i y b,R i y b->∃o,b y=some o)
  (e:∀x b,∀q:Bool->Hp->Prop,q true b->tc (some x::c.map (pick σ)) b q)
  (f:∀(i:Nat) x b,xs[i]? =some x->bx H b->∀q:VK,(∀r d,bx b d->b r=none->R i r d->q (.ref r) d)->h (some x::c.map (pick σ)) b q)
  (q:∀(rs:AF) H',bx H H'->rs.length=xs.length->rs.Nodup->(∀r∈rs,H r=none)->(∀(i:Nat) r,rs[i]? =some r->R i r H')->∀p,H' p=none->Q (.ref p) (upd H' p (.lst (rs.map V.ref)))):LCg (Itl K a) c tc h σ H Q:=by
 refine Znw xs.length hz R mono al (λH' s=>⟨xs,s.seq hs,Nat.le_refl _⟩) (λi H' hi s=>⟨xs,xs[i],s.seq hs,bL hi⟩) (λi x b H' hi g y=>?_) q;obtain⟨k,j⟩:=y;exact⟨k,e x b,λq hq=>f i x b (j xs (g.seq hs)) g q hq⟩
end G
namespace G
open PySem L2 PySem.Spec PyProof.Rows
theorem boot_isinstance:bootBuiltins "isinstance"=some (.builtin "isinstance"):=γ
theorem boot_len:bootBuiltins "len"=some (.builtin "len"):=γ
theorem boot_int:bootBuiltins "int"=some (.type "int"):=γ
theorem boot_str:bootBuiltins "str"=some (.type "str"):=γ
theorem boot_bool:bootBuiltins "bool"=some (.type "bool"):=γ
theorem boot_list:bootBuiltins "list"=some (.type "list"):=γ
theorem boot_tuple:bootBuiltins "tuple"=some (.type "tuple"):=γ
structure Zmi(K:aD)(x qual:Str)(st:Stmt)(f:AI)(fd:AL):Prop where
 ex:∃(oc:AJ) (od:Option AI) (dV kV doc pm:AJ) (an:Option AI) (cdv ct:AJ) (osl:Array AB),
  fd=W.fnOf x qual (iQ st) (fJ st) (aC st) dV kV doc pm an cdv ct/\K.lookup f=some ⟨oc,od,.func fd,osl⟩/\W.codeIn K cdv qual=true
 kp:W.keepIn K (.ref f)=true
section
variable {P:AM}{w:AO}{K:aD}{mg:As}{base:Heap}
theorem Zf8{x a:Str}{st:Stmt}{f:AI}{oc dV:AJ}{od h:Option AI}{e:Array AB}{kV d g b ct:AJ}(l:K.lookup f=some ⟨oc,od,.func (W.fnOf x a (iQ st) (fJ st) (aC st) dV kV d g h b ct),e⟩)
  (c:W.codeIn K b a=true) (k:W.keepIn K (.ref f)=true):Zmi K x a st f (W.fnOf x a (iQ st) (fJ st) (aC st) dV kV d g h b ct):=⟨⟨oc,od,dV,kV,d,g,h,b,ct,e,rfl,l,c⟩,k⟩
theorem Zdr{f b:AI}{oc tc:AJ}{od d:Option AI}{c ts:Array AB}{fd:AL}{a:Array AJ}{tn:Nat}{ps:AH}{ds:AC}(_:K.lookup f=some ⟨oc,od,.func fd,c⟩)(t:K.lookup b=some ⟨tc,d,.seq a tn,ts⟩)
  (h:∀us:AC,us.length+ds.length=ps.length->∃k,bindArgs fd ⟨us,[]⟩=seqItems? (.ref b) >>= k/\k (some a)=pure (ps.zip (us++ds))) (hd:fd.defaults=.ref b:=by rfl):Binds K fd ps ds:=by
 intro s us e hl;obtain⟨k,h1,h2⟩:=h us (by rw[List.length_append]at hl;exact hl);exact BindsTo.of_defaults hd (e _ _ t) rfl (by rw[h1,hd]) h2
end
section
variable {X:Cx}
theorem o7:wQ X (compareOp .Is) DR:=Zqm
theorem El:wQ X (compareOp .IsNot) DQ:=Znh
theorem bV:Kv X (.builtin "len") (gD X.K):=Yy
def kk(t n:String):Option Bool:=if (Value.type t == Value.type n)=true then some true else if W.kitMeta n=true then(fastBuiltinMro t).map (·.contains (.type n))else none
theorem Zr6(K:aD)(t n:String):W.kitOne K (.type t) (.type n)=kk t n:=rfl
theorem Zcv:kk "int" "int"=some true:=γ
theorem Zab:kk "int" "bool"=some false:=γ
theorem Zcu:kk "int" "str"=some false:=γ
theorem Za9:kk "int" "list"=some false:=γ
theorem XR:kk "int" "tuple"=some false:=γ
theorem Zaa:kk "int" "dict"=some false:=γ
theorem Zaf:kk "bool" "int"=some true:=γ
theorem X6:kk "bool" "bool"=some true:=γ
theorem Zae:kk "bool" "str"=some false:=γ
theorem X4:kk "bool" "list"=some false:=γ
theorem Sh:kk "bool" "tuple"=some false:=γ
theorem X5:kk "bool" "dict"=some false:=γ
theorem Zct:kk "str" "int"=some false:=γ
theorem Za6:kk "str" "bool"=some false:=γ
theorem Zcs:kk "str" "str"=some true:=γ
theorem Za4:kk "str" "list"=some false:=γ
theorem XH:kk "str" "tuple"=some false:=γ
theorem Za5:kk "str" "dict"=some false:=γ
theorem Lb:kk "NoneType" "int"=some false:=γ
theorem HH:kk "NoneType" "bool"=some false:=γ
theorem La:kk "NoneType" "str"=some false:=γ
theorem HD:kk "NoneType" "list"=some false:=γ
theorem Fw:kk "NoneType" "tuple"=some false:=γ
theorem HF:kk "NoneType" "dict"=some false:=γ
theorem Za8:kk "list" "int"=some false:=γ
theorem XN:kk "list" "bool"=some false:=γ
theorem Za7:kk "list" "str"=some false:=γ
theorem XJ:kk "list" "list"=some true:=γ
theorem Sd:kk "list" "tuple"=some false:=γ
theorem XM:kk "list" "dict"=some false:=γ
theorem XF:kk "tuple" "int"=some false:=γ
theorem R9:kk "tuple" "bool"=some false:=γ
theorem XD:kk "tuple" "str"=some false:=γ
theorem R7:kk "tuple" "list"=some false:=γ
theorem Pn:kk "tuple" "tuple"=some true:=γ
theorem R8:kk "tuple" "dict"=some false:=γ
theorem Zad:kk "dict" "int"=some false:=γ
theorem X3:kk "dict" "bool"=some false:=γ
theorem Zac:kk "dict" "str"=some false:=γ
theorem XS:kk "dict" "list"=some false:=γ
theorem Sg:kk "dict" "tuple"=some false:=γ
theorem XX:kk "dict" "dict"=some true:=γ
theorem Zpz{H:Hp}{x:V}{t:String}(e:tyN H x=some t):t="int"\/t="bool"\/t="str"\/t="NoneType"\/t="list"\/t="tuple"\/t="dict":=by
 delta tyN at e
 cases x with
 | non=>exact .inr (.inr (.inr (.inl (Option.some.inj e).symm)))
 | bl b=>exact .inr (.inl (Option.some.inj e).symm)
 | int i=>exact .inl (Option.some.inj e).symm
 | str z=>exact .inr (.inr (.inl (Option.some.inj e).symm))
 | ref a=>
  dsimp only at e;generalize H a=o at e;cases o with
  | none=>cases e
  | some o=>
   cases o with
   | lst _=>exact .inr (.inr (.inr (.inr (.inl (Option.some.inj e).symm))))
   | tup _=>exact .inr (.inr (.inr (.inr (.inr (.inl (Option.some.inj e).symm)))))
   | dK _=>exact .inr (.inr (.inr (.inr (.inr (.inr (Option.some.inj e).symm)))))
   | dT _=>exact .inr (.inr (.inr (.inr (.inr (.inr (Option.some.inj e).symm)))))
   | uh _ u=>
    cases u with
    | lst _=>exact .inr (.inr (.inr (.inr (.inl (Option.some.inj e).symm))))
    | _=>cases e
   | _=>cases e
 | _=>cases e
theorem Zrd{t n:String}{k:Bool}(e:qu t n=some k):n="int"\/n="bool"\/n="str"\/n="list"\/n="tuple"\/n="dict":=by
 unfold qu at e
 by_cases h:(["int","bool","str","list","tuple","dict"].contains n)=true
 ·simpa using h
 ·rw[if_neg h]at e;cases e
theorem Zti{H:Hp}{x:V}{t n:String}{k:Bool}(a:tyN H x=some t)(e:qu t n=some k):kk t n=some k:=by
 rcases Zpz a with rfl | rfl | rfl | rfl | rfl | rfl | rfl<;>rcases Zrd e with rfl | rfl | rfl | rfl | rfl | rfl
 ·rw[JX]at e;rw[Zcv];exact e
 ·rw[FJ]at e;rw[Zab];exact e
 ·rw[JW]at e;rw[Zcu];exact e
 ·rw[Yg]at e;rw[Za9];exact e
 ·rw[SJ]at e;rw[XR];exact e
 ·rw[Yh]at e;rw[Zaa];exact e
 ·rw[Yl]at e;rw[Zaf];exact e
 ·rw[S6]at e;rw[X6];exact e
 ·rw[Yk]at e;rw[Zae];exact e
 ·rw[SX]at e;rw[X4];exact e
 ·rw[PN]at e;rw[Sh];exact e
 ·rw[S5]at e;rw[X5];exact e
 ·rw[Zai]at e;rw[Zct];exact e
 ·rw[Yc]at e;rw[Za6];exact e
 ·rw[JV]at e;rw[Zcs];exact e
 ·rw[X8]at e;rw[Za4];exact e
 ·rw[Sv]at e;rw[XH];exact e
 ·rw[Yb]at e;rw[Za5];exact e
 ·rw[HS]at e;rw[Lb];exact e
 ·rw[FQ]at e;rw[HH];exact e
 ·rw[HR]at e;rw[La];exact e
 ·rw[FN]at e;rw[HD];exact e
 ·rw[By]at e;rw[Fw];exact e
 ·rw[FP]at e;rw[HF];exact e
 ·rw[Ye]at e;rw[Za8];exact e
 ·rw[Sy]at e;rw[XN];exact e
 ·rw[Yd]at e;rw[Za7];exact e
 ·rw[Bc]at e;rw[XJ];exact e
 ·rw[PK]at e;rw[Sd];exact e
 ·rw[Sx]at e;rw[XM];exact e
 ·rw[Su]at e;rw[XF];exact e
 ·rw[PJ]at e;rw[R9];exact e
 ·rw[Ss]at e;rw[XD];exact e
 ·rw[Pz]at e;rw[R7];exact e
 ·rw[wG]at e;rw[Pn];exact e
 ·rw[PB]at e;rw[R8];exact e
 ·rw[Yj]at e;rw[Zad];exact e
 ·rw[SQ]at e;rw[X3];exact e
 ·rw[Yi]at e;rw[Zac];exact e
 ·rw[SM]at e;rw[XS];exact e
 ·rw[PL]at e;rw[Sg];exact e
 ·rw[SN]at e;rw[XX];exact e
theorem tyOf{K:aD}{H:Hp}{x:V}{t:String}(e:tyN H x=some t):Ih K H x (.type t):=by
 cases x with
 | non=>cases e;exact .non
 | bl y=>cases e;exact .bl y
 | int y=>cases e;exact .int y
 | str y=>cases e;exact .str y
 | byt y=>cases e
 | flt y=>cases e
 | ty y=>cases e
 | ref a=>
  have b:(match H a with | some (.lst _)=>some "list" | some (.uh _ (.lst _))=>some "list" | some (.tup _)=>some "tuple" | some (.dK _)=>some "dict" | some (.dT _)=>some "dict" | _=>none)=some t:=e;split at b
  ·rename_i h;cases b;exact .lst h
  ·rename_i h;cases b;exact .uh h
  ·rename_i h;cases b;exact .tup h
  ·rename_i h;cases b;exact .dK h
  ·rename_i h;cases b;exact .dT h
  ·cases b
theorem lQ:Kv X (.builtin "isinstance") zz:=by
 intro d s i H j us Q I r h;obtain⟨x,n,t,k,rfl,c,hk,q⟩:=h;obtain⟨u,g,rfl,e,f⟩:=vals2 r;have a:g=Value.type n:=f;subst a;exact Zh4 (t:=.type t) (b:=k) I e (tyOf c) ((Zr6 _ _ _).trans (Zti c hk)) λtk=>⟨.bl k,H,I.tok _,rfl,q⟩
end
section
variable {X:Cx}
def GC(mg:As)(x:Str)(v:V):Prop:=∃u,mg x=some u/\RelV v u
theorem GC.pe{x:Str}{v:V}{a:Pos}(h:GC X.mg x v)(b:Gl X x)(hd:(x == ("__debug__":Str))=false:=by decide):PE X (.Name x a) (tC v):=by
 obtain⟨u,hm,r⟩:=h;exact Znc b hm r hd
end
section
variable {X:Cx}
end
end G
namespace G
open PySem L2
end G
namespace G
open PySem L2 PySem.Spec PyProof.Rows
section
variable {X:Cx}{pins:At}{σ:L2.St}{H:Hp}{s:AK}{acc:AI}{ys:List V}{its:AC}{n:Nat}
theorem adopt(I:Inv X pins σ H s)(l:pA X pins H acc)(i:s.heap.get? acc=some { cls:=.type "list",data:=.seq its.toArray n })(hv:Vals ys its)(hz:ys.length<=sizeLine):Inv X pins σ (upd H acc (.lst ys)) s:=by
 obtain⟨f,a,r,h,k,j⟩:=l;have ne:∀b u,H b=some u->b≠acc:=λb u e=>aF e f;refine I.step (h':=s.heap) (g':=s.gens) (t':=s.toks) (d':=s.drawn) (ch:=[acc]) (λb hb=>?_) (λ_ _ _ _ _ e _=>e) (λb o _ _ _ e _=>⟨o.slots,e⟩) (λb o hb e d=>?_) (λb o _ e=>⟨o,e⟩)
  (λb g e=>by rw[aA (ne b _ e)];exact e) (λb o u e=>by rw[aA (ne b _ e)];exact e) (λb p e=>⟨#[],by rw[aA (ne b _ e),e];simp⟩) (λm hm=>hm) (λb u e=>?_) I.bare
 ·have e:b=acc:=by simpa using hb
  subst e;exact⟨h,a,k,j⟩
 ·have e:b≠acc:=by simpa using hb
  rw[aA e];exact d
 ·by_cases hb:b=acc
  ·subst hb;rw[ao]at e;cases e;exact⟨hz,its,n,hv,i⟩
  ·rw[aA hb]at e;exact(I.hok b u e).stay (λ_ _ _ q=>q) (λc q=>by rw[aA (ne c _ q)];exact q) λc g q=>by rw[aA (ne c _ q)];exact q
theorem disown(I:Inv X pins σ (upd H acc (.lst ys)) s)(l:pA X pins H acc):Inv X pins σ H s:=by
 obtain⟨g,f,r,i,k,j⟩:=l;have back:∀b u,upd H acc (.lst ys) b=some u->u≠.lst ys->H b=some u:=λb u e a=>by
  by_cases hb:b=acc
  ·subst hb;rw[ao]at e;cases e;exact absurd rfl a
  ·rw[aA hb]at e;exact e
 refine I.step (h':=s.heap) (g':=s.gens) (t':=s.toks) (d':=s.drawn) (ch:=[acc]) (λb hb=>?_) (λ_ _ _ _ _ e _=>e) (λb o _ _ _ e _=>⟨o.slots,e⟩) (λb o hb e d=>?_) (λb o _ e=>⟨o,e⟩)
  (λb h e=>back b _ e ay) (λb o u e=>back b _ e ay) (λb p e=>⟨#[],by rw[back b _ e ay];simp⟩) (λm hm=>hm) (λb u e=>?_) I.bare
 ·have e:b=acc:=by simpa using hb
  subst e;exact⟨i,f,k,j⟩
 ·have e:b≠acc:=by simpa using hb
  rw[aA e]at d;exact d
 ·have hb:b≠acc:=aF e g;have n:upd H acc (.lst ys) b=some u:=by rw[aA hb];exact e
  exact(I.hok b u n).stay (λ_ _ _ q=>q) (λc q=>back c _ q ay) λc h q=>back c _ q ay
end
def PF(X:Cx)(a:AG)(t:TT):Prop:=
 ∀(pins:At) (s:AK) (σ:L2.St) (H:Hp) (Q:Bool->Hp->Prop),Inv X pins σ H s->t σ H Q->
  wpAny ς X.A (forIn a true λc r=>if r=true then do let ok <- isTrue c X.env (eval c X.env);pure (ForInStep.yield ok)else pure (ForInStep.yield r)) (TP X pins σ Q) X.xe s
theorem Xc{X:Cx}:PF X [] zF:=λ_ _ _ H _ I h=>wpAny_tests_nil ⟨H,I,h⟩
theorem NK{X:Cx}{c:AN}{t:TT}(h:PT X c t):PF X [c] t:=λpins s σ H Q I q=>wpAny_tests_one (h pins s σ H Q I q)
def Ib(X:Cx)(a:Scope)(cl:List (Str×AI))(N:AH)(C:AI)(s:AK)(H:Hp)(ex:AF)(pn:At):Cx:=
 { X with N:=N,s₀:=s,H₀:=H,env:=compEnvC a cl C X.env,outer:=X.stack,ex:=ex,fn:=λ_=>false,pn:=pn,xe:=λ_ _=>False }
def AllIn(cells:List (Str×AI)):List (Str×AI)->Prop
 | []=>True
 | p::r=>cells.lookup p.1=some p.2/\AllIn cells r
theorem AllIn.get{cells:List (Str×AI)}:∀{cl:List (Str×AI)},AllIn cells cl->∀{x:Str}{c:AI},cl.lookup x=some c->cells.lookup x=some c
 | [],_,x,c,h=>by cases h
 | (y,d)::r,a,x,c,h=>by
  cases e:(x == y)with
  | true=>
   rw[List.lookup_cons,e]at h;have b:x=y:=beq_iff_eq.mp e;subst b;cases h;exact a.1
  | false=>
   rw[List.lookup_cons,e]at h;exact AllIn.get a.2 h
def wR(X:Cx):AH->List Nat->Prop
 | [],[]=>True
 | y::r,j::js=>X.N[j]? =some y/\X.env.kindOf y=some .cell/\wR X r js
 | _,_=>False
theorem wR.len{X:Cx}:∀{ns:AH}{js:List Nat},wR X ns js->ns.length=js.length
 | [],[],_=>rfl
 | [],_::_,h=>h.elim
 | _::_,[],h=>h.elim
 | _::r,_::js,h=>by rw[List.length_cons,List.length_cons,wR.len h.2.2]
theorem wR.get{X:Cx}{σ:L2.St}:∀{ns:AH}{js:List Nat},wR X ns js->∀{i:Nat}{x:Str}{v:V},ns[i]? =some x->(js.map (pick σ))[i]? =some (some v)->∃j:Nat,X.N[j]? =some x/\X.env.kindOf x=some .cell/\σ[j]? =some (some v)
 | [],_,_,i,x,v,h,_=>by simp at h
 | _::_,[],h,_,_,_,_,_=>h.elim
 | y::r,j::js,h,0,x,v,h1,h2=>by
  simp at h1 h2;subst h1;refine⟨j,h.1,h.2.1,?_⟩;unfold pick at h2;split at h2
  ·rename_i e;rw[e,h2]
  ·cases h2
 | y::r,j::js,h,i+1,x,v,h1,h2=>wR.get (i:=i) h.2.2 (by simpa using h1) (by simpa using h2)
theorem Zks{x n:Str}{k:NameKind}{r:List (Str×NameKind)}(h:(x == n)=false):List.lookup x ((n,k)::r)=List.lookup x r:=by rw[List.lookup_cons,h]
theorem Zkt{x n:Str}{k:NameKind}{r:List (Str×NameKind)}(h:(x == n)=true):List.lookup x ((n,k)::r)=some k:=by rw[List.lookup_cons,h]
def Nf(env:Env)(x:Str)(k:NameKind):NameKind:=if (k == NameKind.free && env.scope.kind == .function && env.kindOf x == some .cell)=true then .cell else k
theorem pX{env:Env}{x:Str}:∀{names:List (Str×NameKind)},
  (names.map λ(n,k)=>if (k == NameKind.free && env.scope.kind == .function && env.kindOf n == some .cell)then(n,NameKind.cell)else(n,k)).lookup x=(names.lookup x).map (Nf env x)
 | []=>rfl
 | (n,a)::r=>by
  have ih:=@pX env x r;show List.lookup x ((if (a == NameKind.free && env.scope.kind == .function && env.kindOf n == some .cell)=true then(n,NameKind.cell)else(n,a))::r.map λ(n,k)=>if (k == NameKind.free && env.scope.kind == .function && env.kindOf n == some .cell)then(n,NameKind.cell)else(n,k))=_;cases hx:x == n with
  | true=>
   have e:=beq_iff_eq.mp hx;subst e;rw[Zkt (k:=a) hx]
   by_cases hc:(a == NameKind.free && env.scope.kind == .function && env.kindOf x == some .cell)=true
   ·rw[if_pos hc,Zkt hx];show some NameKind.cell=some (Nf env x a);unfold Nf;rw[if_pos hc]
   ·rw[if_neg hc,Zkt hx];show some a=some (Nf env x a);unfold Nf;rw[if_neg hc]
  | false=>
   rw[Zks (k:=a) (r:=r) hx]
   by_cases hc:(a == NameKind.free && env.scope.kind == .function && env.kindOf n == some .cell)=true
   ·rw[if_pos hc,Zks hx];exact ih
   ·rw[if_neg hc,Zks hx];exact ih
theorem lookup_all{names:List (Str×NameKind)}{p:Str×NameKind->Bool}:∀{x:Str}{k:NameKind},names.all p=true->names.lookup x=some k->p (x,k)=true:=by
 induction names with
 | nil=>intro x k _ h;simp at h
 | cons y r ih=>
  intro x k a h;obtain⟨n,b⟩:=y;rw[List.all_cons,Bool.and_eq_true]at a;cases hx:x == n with
  | true=>
   rw[List.lookup_cons,hx]at h;have d:x=n:=beq_iff_eq.mp hx;have c:b=k:=Option.some.inj h;rw[d,<- c];exact a.1
  | false=>
   rw[List.lookup_cons,hx]at h;exact ih a.2 h
theorem Zaz{prog:AM}{w:AO}{A:Around}{R:Result->AK->Prop}{s:AK}{q a iter:AN}{t:AG}{d:Scope}{y:Pos}{C acc:AJ}{env:Env}(I:Nat->AK->Prop)
  (turn:∀n s,I n s->wpAny ai A (pyNext C) (λr e=>match r with
   | none=>R (.ok .next) e
   | some v=>wpAny ai A (letOwnedTupleGo a C v) (λ_ b=>wpAny ai A (assign a env v) (λ_ i=>
     wpAny ai A (forIn t true λc r=>if r=true then do let ok <- isTrue c env (eval c env);pure (ForInStep.yield ok)else pure (ForInStep.yield r)) (λok f=>
      if ok=true then wpAny ai A (eval q env) (λx l=>
       wpAny ai A (call (.builtin "list.append") [acc,x]) (λ_ o=>∃m,m<n/\I m o) (λ_ _=>False) l) (λ_ _=>False) f
      else ∃m,m<n/\I m f) (λ_ _=>False) i) (λ_ _=>False) b) (λ_ _=>False) e) (λ_ _=>False) s)
  (n:Nat) (h:I n s):
  codeAny ai A (.compLoop (.ListComp q [⟨a,iter,t,0⟩] d y) 0 C acc env) R s:=by
 refine codeAny_loop rfl I (λn s D=>?_) n h;show wpAny _ A ((compTurn (.ListComp q [⟨a,iter,t,0⟩] d y) 0 C acc env).onRaise (λx=>do noteFrame x env;theTreesLotGoes x)) _ _ s;refine wpAny_noted ?_;rw[compTurn_list];refine wpAny_bind (wpAny_standAt (wpAny_bind (wpAny_mono (turn n s D) (λr e k=>?_) λ_ _ g=>g.elim)));cases r with
 | none=>exact wpAny_pure k
 | some v=>
  refine wpAny_bind (wpAny_mono k (λ_ b p=>?_) λ_ _ g=>g.elim);refine wpAny_bind (wpAny_mono p (λ_ i B=>wpAny_bind (wpAny_mono B (λok f j=>?_) λ_ _ g=>g.elim)) λ_ _ g=>g.elim);cases ok with
  | false=>exact wpAny_pure ⟨rfl,j⟩
  | true=>
   exact wpAny_bind (wpAny_bind (wpAny_mono j (λx l u=>wpAny_bind (wpAny_mono u (λ_ o z=>wpAny_pure (wpAny_pure ⟨rfl,z⟩)) λ_ _ g=>g.elim)) λ_ _ g=>g.elim))
theorem Zf2{X:Cx}{elt iter tg:AN}{pos:Pos}{ifs:AG}{f:Scope}{cl:List (Str×AI)}{wi:TI}{tc:TT}{te:TE}{cns:AH}{ns:AH}{gt:TG}{R:It->L2.St->Hp->VK->Prop}{use:Option (AJ->Sem Unit)}{Q0:Ap}{pins:At}{s:AK}{σ:L2.St}{H:Hp}{Q:VK}(t:List Nat)
  (hR:∀J σ H Q,R J σ H Q->∃W:Nat->Nat->List V->Hp->Prop,(∃m,W 0 m [] H)/\∀i m K H,W i m K H->
   (J.stop i H/\∀p,H p=none->Q (.ref p) (upd H p (.lst K)))\/
   (J.go i H/\K.length<sizeLine/\∀x H',J.yld i H x H'->∀vs:L2.St,vs.length=ns.length->∃us:L2.St,us.length=ns.length/\gt x (vs++t.map (pick σ)) H' (λσ2 H2=>σ2=us++t.map (pick σ)/\H2=H')/\tc (us++t.map (pick σ)) H' λk H2=>if k=true then te (us++t.map (pick σ)) H2 (λy H3=>∃m',m'<m/\W (i+1) m' (K++[y]) H3)else ∃m',m'<m/\W (i+1) m' K H2))
  (hi:PI X tg iter wi) (hg:∀C s H ex pn,PG (Ib X f cl (ns++cns) C s H ex pn) tg gt)
  (hf:∀C s H ex pn,PF (Ib X f cl (ns++cns) C s H ex pn) ifs tc) (he:∀C s H ex pn,PE (Ib X f cl (ns++cns) C s H ex pn) elt te) (hc:X.calm=true)
  (hclos:closureFor f X.env=pure cl) (hcl:AllIn X.env.cells cl) (hcap:wR X cns t)
  (Z:f.kind=.function) (hcell:(f.names.all λp=>p.2 != .cell)=true) (hfree:(f.names.all λp=>p.2 != .free || (cl.lookup p.1).isSome)=true)
  (hcf:(cns.all λy=>f.names.lookup y == some .free)=true) (hnames:∀y∈f.names,y.2=.local->f.names.lookup y.1=some .local)
  (hs:∀v,foldedSetIterable iter X.env v=pure v)
  (I:Inv X pins σ H s) (h:wi σ H λJ H1=>R J σ H1 Q)
  (hend:∀(acc C:AI) (s6:AK) (m:As) r0,s6.heap.Ns C m->(∀{Hf:Hp},Hf C=none->pA X pins Hf C)->(∀h',Heap.SameBut C s6.heap h'->EP X pins σ (λv Hf=>Q v Hf/\Hf C=none) (.ref acc) { s6 with heap:=h' })->compPost ς X.A X.xe use Q0 (.ref acc) C (.ok r0) s6):
  wpAny ς X.A (comprehension (.ListComp elt [⟨tg,iter,ifs,0⟩] f pos) f X.env (firstIterPos [⟨tg,iter,ifs,0⟩] pos) (newList []) (firstAsync [⟨tg,iter,ifs,0⟩]) (firstIter [⟨tg,iter,ifs,0⟩] X.env) use) Q0 X.xe s:=by
 refine wpAny_comprehension_free rfl hs hclos Z hnames (gM (hi pins s σ H _ I h) λxv s1 h1=>gM h1 λitv s2 h2=>?_);obtain⟨it,U,tn,J,H2,rfl,E,T,st2,f2,hr⟩:=h2;obtain⟨W,⟨m0,w0⟩,turn⟩:=hR _ _ _ _ hr;have hne:∀y∈f.names,y.2≠.cell:=λy hy e=>by
  have:=List.all_eq_true.mp hcell y hy;rw[e]at this;simp at this
 refine wpAny_newObj_type (wpAny_newFunctionEnv hne (by intro y hy;simp at hy) (λh₁ P M=>?_) Z);dsimp only at P M ⊢;generalize F:s2.heap.objs.size=acc;generalize hH3:s2.heap.push { cls:=.type "list",dict:=none,data:=.seq ([]:AC).toArray }=O at P M ⊢;have hC:O.objs.size=acc+1:=by rw[<- hH3,Heap.size_push,F]
 have D:∀b o,s2.heap.get? b=some o->O.get? b=some o:=λb o e=>hH3 ▸ Heap.get?_push_of_some _ e;have L:∀b o,O.get? b=some o->h₁.get? b=some o:=λb o e=>M.extBut b o (Nat.ne_of_lt (Heap.lt_size e)) (Heap.get?_push_of_some _ e);have Zvi:O.get? acc=some { cls:=.type "list",dict:=none,data:=.seq ([]:AC).toArray }:=by
  rw[<- hH3,<- F];exact Heap.get?_push_size _ rfl
 have I3:Inv X pins σ H2 { s2 with heap:=O }:=E.kept (t':=s2.toks) D;have Zsb:pA X pins H2 acc:=E.Zdb (Nat.le_of_eq F) (E.hok.fresh (Nat.le_of_eq F));have fpl:∀b∈U,b<acc:=λb hb=>by
  obtain⟨o,e,_⟩:=T.obj _ _ st2 b hb;rw[<- F];exact Heap.lt_size e
 have Zhp:∀b∈acc::U,pA X pins H2 b:=λb hb=>(List.mem_cons.mp hb).elim (λe=>e ▸ Zsb) (f2 b);have exC:∀b∈acc::U,b≠O.objs.size:=λb hb=>by
  rcases List.mem_cons.mp hb with e | hb
  ·rw[hC,e];exact Nat.ne_of_lt (Nat.lt_succ_self _)
  ·rw[hC];exact Nat.ne_of_lt (Nat.lt_succ_of_lt (fpl b hb))
 have Zbp:∀b∈acc::U,b∉frs X.stack:=λb hb hm=>by
  obtain⟨_,g1,g2,_⟩:=Zhp b hb;exact(List.mem_cons.mp (E.G4 b hm)).elim g1 g2
 let Y:Cx:=Ib X f cl (ns++cns) O.objs.size { s2 with heap:=O } H2 (acc::U) (X.pn++pins)
 have g:∀y c,cl.lookup y=some c->X.env.cells.lookup y=some c:=λy c e=>hcl.get e;have Zf3:∀y k,Y.env.kindOf y=some k->(k=.cell\/k=.free)->∃c,cl.lookup y=some c:=λy k e hk=>by
  have e0:(f.names.lookup y).map (Nf X.env y)=some k:=pX.symm.trans e;obtain⟨k0,e1,e2⟩:=Option.map_eq_some_iff.mp e0;have e3:=lookup_all hfree e1;have e4:=lookup_all hcell e1
  by_cases hf:k0=.free
  ·subst hf;rw[Bool.or_eq_true]at e3;rcases e3 with e3 | e3
   ·exact absurd rfl (bne_iff_ne.mp e3)
   ·exact Option.isSome_iff_exists.mp e3
  ·exfalso
   have e5:Nf X.env y k0=k0:=by
    unfold Nf;rw[if_neg];intro z;rw[Bool.and_eq_true,Bool.and_eq_true]at z;exact hf (beq_iff_eq.mp z.1.1)
   rw[e5]at e2;subst e2;rcases hk with rfl | rfl
   ·simp at e4
   ·exact hf rfl
 have okY:Y.Ok:={
  mod:=E.ok.mod
  kind:=Z
  glob:=E.ok.glob
  blt:=E.ok.blt
  above:=Nat.le_refl _
  inj:=λa b c e1 e2=>E.ok.inj a b c (g _ _ e1) (g _ _ e2)
  has:=λy hy=>hy.elim (λe=>Zf3 y _ e (.inl rfl)) (λe=>Zf3 y _ e (.inr rfl))
  cab:=λy c e=>nomatch e
  hd:=E.ok.hd
  frames:=E.ok.frames
  stk:=.inl rfl
  exf:=λb hb=>⟨exC b hb,λy c e=>(Zhp b hb).2.2.2.2.1 y c (g _ _ e)⟩
  bs:=λb o e=>⟨D b o (E.bs b o e).1,(E.bs b o e).2⟩
  bsz:=by
   show X.base.objs.size<=O.objs.size;rw[hC,<- F];exact Nat.le_succ_of_le (Nat.le_trans E.ok.bsz E.sz)
  Z2:=λb o e hb=>by
   rcases(Zhp b hb).2.2.2.1 with z | z
   ·exact E.ok.Z2 b o e z
   ·exact absurd (Nat.lt_of_lt_of_le (Heap.lt_size e) (Nat.le_trans E.ok.bsz z)) (Nat.lt_irrefl _)
  Zdc:=Zbp
  ug:=I3.stack
  frf:=I3.WQ }
 have Zvn:(List.replicate ns.length none++t.map (pick σ):L2.St).length=(ns++cns).length:=by rw[List.length_append,List.length_append,List.length_replicate,bA,hcap.len]
 have I4:Inv Y [] (List.replicate ns.length none++t.map (pick σ)) H2 { s2 with heap:=h₁,toks:=s2.toks+([]:List (Str×AJ)).length }:={
  ok:=okY
  os:=rfl
  bare:=E.bare
  base:=Un.kept L
  loc:=by
   refine⟨_,P,λi y v e1 e2 e3=>?_⟩
   by_cases hlt:i<ns.length
   ·have e2:(List.replicate ns.length none++t.map (pick σ):L2.St)[i]? =some (some v):=e2;rw[List.getElem?_append_left (by rw[List.length_replicate];exact hlt),List.getElem?_replicate,if_pos hlt]at e2;cases e2
   ·have e1':cns[i - ns.length]? =some y:=by
     have e1':(ns++cns)[i]? =some y:=e1;rw[List.getElem?_append_right δ]at e1';exact e1'
    have e2':(t.map (pick σ):L2.St)[i - ns.length]? =some (some v):=by
     have e2:(List.replicate ns.length none++t.map (pick σ):L2.St)[i]? =some (some v):=e2;rw[List.getElem?_append_right (by rw[List.length_replicate];omega),List.length_replicate]at e2;exact e2
    obtain⟨j,j1,j2,j3⟩:=hcap.get (σ:=σ) (i:=i - ns.length) (x:=y) (v:=v) e1' e2';obtain⟨m,hn,hl⟩:=E.loc;obtain⟨u,r,l⟩:=hl j y v j1 j3 (.inr (.inl j2));rcases l with ⟨l,_⟩ | ⟨_,c,l1,l2⟩
    ·rw[j2]at l;cases l
    ·refine⟨u,r,.inr ?_⟩;rcases e3 with e3 | e3 | e3
     ·exfalso
      have hm:y∈cns:=List.mem_of_getElem? e1';have hl:f.names.lookup y=some .free:=beq_iff_eq.mp (List.all_eq_true.mp hcf y hm);have e0:(f.names.lookup y).map (Nf X.env y)=some .local:=pX.symm.trans e3;rw[hl]at e0;have e5:Nf X.env y .free=.local:=Option.some.inj e0;unfold Nf at e5;split at e5<;>cases e5
     ·obtain⟨c',hc'⟩:=Zf3 y _ e3 (.inl rfl);have:=g _ _ hc';rw[l1]at this;cases this;exact⟨.inl e3,c,hc',l2.keeps λb o e=>L _ _ (D _ _ e)⟩
     ·obtain⟨c',hc'⟩:=Zf3 y _ e3 (.inr rfl);have:=g _ _ hc';rw[l1]at this;cases this;exact⟨.inr e3,c,hc',l2.keeps λb o e=>L _ _ (D _ _ e)⟩
  cell:=λy c e=>by
   obtain⟨v,z⟩:=E.cell y c (g _ _ e);exact⟨v,z.keeps λb o e=>L _ _ (D _ _ e)⟩
  free:=E.hok.fresh (by rw[F];show acc<=O.objs.size;rw[hC];exact Nat.le_succ _)
  p7:=λy c e=>E.p7 y c (g _ _ e)
  pin:=λp hp=>by
   have hp2:p∈(X.pn++pins)++[]:=hp;have hp':p∈X.pn++pins:=by rw[List.append_nil]at hp2;exact hp2
   obtain⟨p1,p2,p3,p4,p5⟩:=E.pin p hp';refine⟨L _ _ (D _ _ p1),p2,?_,λhm=>(List.mem_cons.mp (E.G4 _ hm)).elim p3 p4,p5⟩;exact Nat.ne_of_lt (by show p.1<O.objs.size;exact Heap.lt_size (D _ _ p1))
  hok:=E.hok.kept λb u e=>L _ _ (D _ _ e)
  len:=Zvn }
 have fpY:∀{H':Hp}{pl:At}{b:AI},b∈acc::U->H' b=none->(∀p∈pl,p.1≠b)->pA Y pl H' b:=λ{H' pl b} hb hn hp=>
  ⟨hn,exC b hb,Zbp b hb,.inl hb,λy c e=>(Zhp b hb).2.2.2.2.1 y c (g _ _ e),λp hm=>(List.mem_append.mp hm).elim (λz=>(Zhp b hb).2.2.2.2.2 p z) (hp p)⟩
 have fin:∀{S:L2.St}{H':Hp}{N:AK}{K:List V}{B:AC}{kk:Nat}{pl:At},Inv Y pl S H' N->H' acc=none->Vals K B->K.length<=sizeLine->
   N.heap.get? acc=some { cls:=.type "list",data:=.seq B.toArray kk }->(∀p,H' p=none->Q (.ref p) (upd H' p (.lst K)))->
   ∀h',Heap.SameBut O.objs.size N.heap h'->EP X pins σ (λv Hf=>Q v Hf/\Hf O.objs.size=none) (.ref acc) { N with heap:=h' }:=λ{S H' N K B kk pl} J ha hv hz ho hq h' hs'=>by
  have Zuh:acc≠O.objs.size:=exC acc (List.mem_cons_self);have Zag:∀b o,b≠O.objs.size->N.heap.get? b=some o->h'.get? b=some o:=λb o hb e=>hs'.extBut b o hb e;have ltC:∀b o,s2.heap.get? b=some o->b≠O.objs.size:=λb o e=>Nat.ne_of_lt (Heap.lt_size (D b o e));have Zd6:H' O.objs.size=none:=J.free;have un:Un (frs X.stack) (acc::U) H2 H' s2.heap h':={
   keep:=λb o e n hb hx=>Zag b o (ltC b o e) (J.base.keep b o (D b o e) n hb hx)
   slot:=λb o e n hb hx=>by
    obtain⟨sl,q⟩:=J.base.slot b o (D b o e) n hb hx;exact⟨sl,Zag b _ (ltC b o e) q⟩
   free:=λb o e n hx=>J.base.free b o (D b o e) n hx
   there:=λb o e hx=>by
    obtain⟨o',q⟩:=J.base.there b o (D b o e) hx;exact⟨o',Zag b o' (ltC b o e) q⟩
   tups:=J.base.tups
   HY:=J.base.HY
   Kw:=J.base.Kw }
  have hok:yZ X.prog X.w H' h':=λb u e=>by
   refine(J.hok b u e).stay (λc v hc q=>Zag c v ?_ q) (λ_ q=>q) λ_ _ q=>q;rintro rfl;rcases hc with rfl | hc
   ·rw[Zd6]at e;cases e
   ·rw[Zd6]at hc;cases hc
  have I5:Inv X pins σ H' { N with heap:=h' }:=E.call' (ch:=acc::U) J.os un hok J.bare λb hb=>by
   obtain⟨g0,g1,g2,g3,g4,g5⟩:=Zhp b hb;exact⟨g3,g1,g4,g5⟩
  refine⟨.ref acc,_,adopt (acc:=acc) I5 ?_ (Zag _ _ Zuh ho) hv hz,rfl,hq acc ha,by rw[aA Zuh.symm];exact Zd6⟩;obtain⟨g0,g1,g2,g3,g4,g5⟩:=Zsb;exact⟨ha,g1,g2,g3,g4,g5⟩
 have loop:codeAny ς X.A (.compLoop (.ListComp elt [⟨tg,iter,ifs,0⟩] f pos) 0 (.ref it) (.ref acc) Y.env) (compPost ς X.A X.xe use Q0 (.ref acc) O.objs.size)
   { s2 with heap:=h₁,toks:=s2.toks+([]:List (Str×AJ)).length }:=by
  refine Zaz (λn N=>∃(i:Nat) (v:L2.St) (K:List V) (B:AC) (kk:Nat) (H':Hp),v.length=ns.length/\Inv Y [] (v++t.map (pick σ)) H' N/\tn i N.heap/\(∀b∈U,H' b=none)/\H' acc=none/\Vals K B/\K.length<=sizeLine/\
   N.heap.get? acc=some { cls:=.type "list",data:=.seq B.toArray kk }/\W i n K H') ?_ m0 ⟨0,List.replicate ns.length none,[],[],0,H2,List.length_replicate,I4,T.keep _ _ _ st2 (λb _ o e=>L _ _ (D _ _ e)),λb hb=>(f2 b hb).1,Zsb.1,.nil,Nat.zero_le _,L _ _ Zvi,w0⟩
  rintro n s5 ⟨i,v,K,B,kk,H5,lv,I5,st5,fr5,ha5,hv5,hz5,ho5,w5⟩;have Zt7:Inv Y [(acc,{ cls:=.type "list",data:=.seq B.toArray kk })] (v++t.map (pick σ)) H5 s5:=I5.zc λp hp=>by
   have e:p=(acc,{ cls:=.type "list",data:=.seq B.toArray kk }):=by simpa using hp
   subst e;exact⟨ho5,ha5,exC acc List.mem_cons_self,Zbp acc List.mem_cons_self,λv=>by intro z;cases z⟩
  have fpA:∀{H':Hp},(∀b∈U,H' b=none)->∀b∈U,pA Y [(acc,{ cls:=.type "list",data:=.seq B.toArray kk })] H' b:=λhn b hb=>fpY (List.mem_cons_of_mem _ hb) (hn b hb) λp hp=>by
   have e:p=(acc,{ cls:=.type "list",data:=.seq B.toArray kk }):=by simpa using hp
   subst e;exact(Nat.ne_of_lt (fpl b hb)).symm
  rcases turn i n K H5 w5 with ⟨stop,qn⟩ | ⟨go,hlt,step⟩
  ·refine gM (T.done Y rfl rfl rfl hc i _ s5 _ H5 (λ_ _=>False) Zt7 (fpA fr5) st5 stop) λr s6 qc=>?_;obtain⟨hr,I6⟩:=qc;subst hr;obtain⟨m,hm,_⟩:=I6.loc;have ho6:=(I6.pin (acc,{ cls:=.type "list",data:=.seq B.toArray kk }) (List.mem_append_right _ List.mem_cons_self)).1;exact hend acc O.objs.size s6 m _ hm (λhf=>E.Zdb (by rw[hC,F];exact Nat.le_succ _) hf) (fin I6 ha5 hv5 hz5 ho6 qn)
  ·refine gM (T.item Y rfl rfl rfl hc i _ s5 _ H5 (λ_ _=>False) Zt7 (fpA fr5) st5 go) λr s6 qc=>?_;obtain⟨u,hr,h6⟩:=qc;subst hr;refine gM h6 λ_ s7 qc=>?_;obtain⟨z,H7,I7,r7,y7,st7,fr7⟩:=qc;have I7':=I7.pinned (fpA fr7) (T.obj _ _ st7);obtain⟨us,lu,hgt,step⟩:=step z H7 y7 v lv;have pg:PG Y tg gt:=hg _ _ _ _ _;refine gM (pg _ s7 _ H7 z u (λσ2 H2'=>σ2=us++t.map (pick σ)/\H2'=H7) I7' r7 hgt) λ_ s8 qc=>?_;obtain⟨σ8,H8,I8,e8,e8'⟩:=qc;subst e8 e8';refine gM (hf _ _ _ _ _ _ s8 _ H8 _ I8 step) λok s9 qc=>?_;obtain⟨H9,I9,q9⟩:=qc;have stat:∀{H':Hp}{N:AK}{S:L2.St},Inv Y ([(acc,{ cls:=.type "list",data:=.seq B.toArray kk })]++Bu U s7.heap) S H' N->tn (i+1) N.heap/\(∀b∈U,H' b=none)/\H' acc=none/\N.heap.get? acc=some { cls:=.type "list",data:=.seq B.toArray kk }:=λ{H' N S} J=>by
    have pa:=J.pin (acc,{ cls:=.type "list",data:=.seq B.toArray kk }) (List.mem_append_right _ (List.mem_append_left _ List.mem_cons_self));refine⟨T.keep _ _ _ st7 λb hb o e=>(J.pin (b,o) (List.mem_append_right _ (List.mem_append_right _ (pR hb e)))).1,λb hb=>?_,pa.2.1,pa.1⟩;obtain⟨o,e,d⟩:=T.obj _ _ st7 b hb;exact(J.pin (b,o) (List.mem_append_right _ (List.mem_append_right _ (pR hb e)))).2.1
   have Zpf:∀{H':Hp}{N:AK}{S:L2.St}{pl:At},Inv Y pl S H' N->Inv Y [] S H' N:=λJ=>J.zc λp hp=>nomatch hp;cases ok with
   | false=>
    obtain⟨m',hm,w9⟩:=q9;obtain⟨t1,t2,t3,t4⟩:=stat I9;exact⟨m',hm,i+1,us,K,B,kk,H9,lu,Zpf I9,t1,t2,t3,hv5,hz5,t4,w9⟩
   | true=>
    show wpAny _ _ (eval elt Y.env) _ _ s9;refine gM (he _ _ _ _ _ _ s9 _ H9 _ I9 q9) λy s10 qc=>?_;obtain⟨yv,H10,I10,r10,m',hm,w10⟩:=qc;obtain⟨t1,t2,t3,t4⟩:=stat I10;have Zyu:Inv Y (Bu U s7.heap) (us++t.map (pick σ)) H10 s10:=I10.zc λp hp=>I10.pin p (List.mem_append_right _ (List.mem_append_right _ hp));have fA:pA Y (Bu U s7.heap) H10 acc:=fpY List.mem_cons_self t3 λp hp=>Nat.ne_of_lt (fpl _ (Vm hp).1);have Ja:=adopt Zyu fA t4 hv5 hz5;refine gM (mC (X:=Y) _ s10 _ _ (.ref acc) [yv] (.ref acc) [y] (λ_ H'=>H'=upd (upd H10 acc (.lst K)) acc (.lst (K++[yv]))) Ja rfl (.cons r10 .nil) ⟨acc,K,yv,rfl,rfl,ao,hlt,rfl⟩) λ_ s11 qc=>?_;obtain⟨_,H11,I11,_,e11⟩:=qc;rw[dB]at e11;subst e11;obtain⟨Zwk,its',kk',Zwl,Zwn⟩:=I11.hok acc _ ao;have Jd:=disown I11 fA;have Zva:tn (i+1) s11.heap:=T.keep _ _ _ st7 λb hb o e=>(Jd.pin (b,o) (List.mem_append_right _ (pR hb e))).1;exact⟨m',hm,i+1,us,K++[yv],its',kk',H10,lu,Zpf Jd,Zva,t2,t3,Zwl,Zwk,Zwn,w10⟩
 exact codeAny_compStart_list loop (T.self X.A 0 _ _ _ (T.keep _ _ _ st2 (λb _ o e=>L _ _ (D _ _ e))) loop)
theorem Zjl{X:Cx}{n iter tg:AN}{w:Pos}{o:AG}{a:Scope}{cl:List (Str×AI)}{D:TI}{tc:TT}{B:TE}{cns:AH}{ns:AH}{gt:TG}{R:It->L2.St->Hp->VK->Prop}(b:List Nat)
  (K:∀J σ H Q,R J σ H Q->∃W:Nat->Nat->List V->Hp->Prop,(∃m,W 0 m [] H)/\∀i m q H,W i m q H->
   (J.stop i H/\∀p,H p=none->Q (.ref p) (upd H p (.lst q)))\/
   (J.go i H/\q.length<sizeLine/\∀x H',J.yld i H x H'->∀vs:L2.St,vs.length=ns.length->∃us:L2.St,us.length=ns.length/\gt x (vs++b.map (pick σ)) H' (λu r=>u=us++b.map (pick σ)/\r=H')/\tc (us++b.map (pick σ)) H' λk r=>if k=true then B (us++b.map (pick σ)) r (λy P=>∃j,j<m/\W (i+1) j (q++[y]) P)else ∃j,j<m/\W (i+1) j q r))
  (hi:PI X tg iter D) (L:∀C s H ex pn,PG (Ib X a cl (ns++cns) C s H ex pn) tg gt)
  (Z:∀C s H ex pn,PF (Ib X a cl (ns++cns) C s H ex pn) o tc) (M:∀C s H ex pn,PE (Ib X a cl (ns++cns) C s H ex pn) n B) (hc:X.calm=true)
  (d:closureFor a X.env=pure cl) (A:AllIn X.env.cells cl) (l:wR X cns b)
  (g:a.kind=.function) (f:(a.names.all λp=>p.2 != .cell)=true) (e:(a.names.all λp=>p.2 != .free || (cl.lookup p.1).isSome)=true)
  (z:(cns.all λy=>a.names.lookup y == some .free)=true) (c:∀y∈a.names,y.2=.local->a.names.lookup y.1=some .local)
  (hs:∀v,foldedSetIterable iter X.env v=pure v):
  PE X (.ListComp n [⟨tg,iter,o,0⟩] a w) (λσ H Q=>D σ H λJ Y=>R J σ Y Q):=by
 intro E s σ H Q I h;rw[eval_ListComp];refine Zf2 b K hi L Z M hc d A l g f e z c hs I h λS C s6 m r0 hm fC fin=>⟨m,hm,λF t=>?_⟩;obtain⟨v,O,T,U,N,_⟩:=fin F t;exact⟨v,O,T,U,N⟩
theorem Zeq{X:Cx}{k iter:AN}{x:Str}{w r:Pos}{o:AG}{a:Scope}{cl:List (Str×AI)}{B:TI}{tc:TT}{A:TE}{cns:AH}(b:List Nat)
  (hi:PI X (.Name x w) iter B)
  (I:∀C s H ex pn,PF (Ib X a cl (x::cns) C s H ex pn) o tc) (F:∀C s H ex pn,PE (Ib X a cl (x::cns) C s H ex pn) k A) (hc:X.calm=true)
  (e:closureFor a X.env=pure cl) (q:AllIn X.env.cells cl) (n:wR X cns b)
  (j:a.kind=.function) (d:(a.names.all λp=>p.2 != .cell)=true) (f:(a.names.all λp=>p.2 != .free || (cl.lookup p.1).isSome)=true)
  (u:(cns.all λy=>a.names.lookup y == some .free)=true) (c:∀y∈a.names,y.2=.local->a.names.lookup y.1=some .local) (hx:a.names.lookup x=some .local) (t:(x::cns).Nodup)
  (hs:∀v,foldedSetIterable iter X.env v=pure v:=by intro _;rfl):
  PE X (.ListComp k [⟨.Name x w,iter,o,0⟩] a r) (tLC B b tc A):=by
 refine Zjl (ns:=[x]) (gt:=aN 0) b (λJ L H Q h=>?_) hi (λC s H ex pn=>fH t rfl (.inl (lookup_relabel_local hx)) (.inr (lookup_relabel_local hx))) I F hc e q n j d f u c hs;obtain⟨W,w0,turn⟩:=h;refine⟨W,w0,λi m K H E=>(turn i m K H E).imp id λ⟨g,l,st⟩=>⟨g,l,λz D y M hv=>?_⟩⟩;obtain⟨v,rfl⟩:=List.length_eq_one_iff.mp hv;exact⟨[some z],rfl,⟨rfl,rfl⟩,st z D y⟩
theorem Hs{P:AM}{w:AO}{H:Hp}{h:Heap}{a:AI}{o:HO}(x:gZ P w H h a o):∃ob,h.get? a=some ob:=by
 induction o with
 | lst c=>obtain⟨_,_,_,_,e⟩:=x;exact⟨_,e⟩
 | tup c=>obtain⟨_,_,_,ob,e,_⟩:=x;exact⟨ob,e⟩
 | dK b=>obtain⟨_,_,_,_,ob,_,_,e,_⟩:=x;exact⟨ob,e⟩
 | dT b=>obtain⟨_,_,_,_,ob,_,_,e,_⟩:=x;exact⟨ob,e⟩
 | set S n=>obtain⟨ob,_,_,_,e,_⟩:=x;exact⟨ob,e⟩
 | ins C i fs=>obtain⟨_,_,_,e,_⟩:=x;exact⟨_,e⟩
 | own y=>exact x
 | xd fs=>obtain⟨_,⟨ob,_,_,e,_⟩,_⟩:=x;exact⟨ob,e⟩
 | rng lo hi=>obtain⟨_,_,_,e⟩:=x;exact⟨_,e⟩
 | uh ob u ih=>exact⟨_,x.1⟩
 | Mq d=>exact⟨_,x⟩
 | met f y=>exact⟨_,x⟩
 | ext g=>obtain⟨_,e,_⟩:=x;exact e
theorem Wy{P:AM}{w:AO}{fs:AF}{h c:Hp}{g h1 h2:Heap}(u:Un fs [] h c g h1)(ok:yZ P w c h1)(k:∀b∈fs,c b=none)
  (kp:∀b o,h1.get? b=some o->((∃v,g.get? b=some v)\/∃v,c b=some v)->b∉fs->h2.get? b=some o) (sl:∀b o,h1.get? b=some o->b∈fs->∃z,h2.get? b=some { o with slots:=z }):
  Un fs [] h c g h2/\yZ P w c h2:=by
 refine⟨⟨λb o e n hb hx=>kp b o (u.keep b o e n hb hx) (.inl ⟨o,e⟩) hb,λb o e n hb hx=>?_,u.free,λb o e hx=>?_,u.tups,u.HY,u.Kw⟩,λa o e=>?_⟩
 ·obtain⟨z,d⟩:=u.slot b o e n hb hx;obtain⟨l,f⟩:=sl b _ d hb;exact⟨l,f⟩
 ·obtain⟨i,d⟩:=u.there b o e hx
  by_cases hb:b∈fs
  ·obtain⟨z,f⟩:=sl b _ d hb;exact⟨_,f⟩
  ·exact⟨i,kp b i d (.inl ⟨o,e⟩) hb⟩
 ·refine(ok a o e).stay (λb v hb q=>?_) (λ_ q=>q) λ_ _ q=>q;have hs:∃v,c b=some v:=by
   rcases hb with z | z
   ·exact⟨o,by rw[z];exact e⟩
   ·exact⟨_,z⟩
  refine kp b v q (.inr hs) λz=>?_;obtain⟨m,j⟩:=hs;rw[k b z]at j;cases j
def Cp(P:AM)(w:AO):Y5:=λouter H s E e s'=>
 ∃(c:AI) (a a0:AJ) (B:Heap) (H':Hp),e=.ref c/\s'.os=s.os/\AllBare s'.gens/\Un (frs outer) [] H H' s.heap s'.heap/\yZ P w H' s'.heap/\Heap.FlyingW B outer c a a0 s'.heap/\
  (∀b o,s'.heap.get? b=some o->((∃v,s.heap.get? b=some v)\/∃v,H' b=some v)->b∉frs outer->B.get? b=some o)/\E a none H'
theorem cZ{P:AM}{w:AO}{X:Cx}:Passes (Cp P w) X E0:=λ_ _ _ _ _ _ _ h=>by
 obtain⟨_,_,_,_,_,_,_,_,_,_,_,_,z⟩:=h;exact z.elim
section
variable {P:AM}{w:AO}{K:aD}{mg:As}{base:Heap}{N:AH}{qual:Str}{scope:Scope}{f:AI}{cd:AJ}{A:Around}{outer:List Env}{s:AK}{H:Hp}{E:XK}
theorem Ea:Passes (Cp P w) (yF (Cp P w) P w K mg base N qual scope f cd A outer s H E) E:=by
 intro i t M p e j I h;obtain⟨u,n,a0,B,c,rfl,os,bare,un,ok,fl,D,C⟩:=h;have J:Inv (yF (Cp P w) P w K mg base N qual scope f cd A outer s H E) i t c j:=I.call' os un ok bare (λb z=>nomatch z);have r:∀b o,s.heap.get? b=some o->b≠(envOfC qual scope s.heap.objs.size f cd).locals:=λb o e=>Nat.ne_of_lt (Nat.lt_of_lt_of_le (Heap.lt_size e) I.ok.above);have l:∀b,((∃v,s.heap.get? b=some v)\/∃v,c b=some v)->b∉frs outer->b∉frs (envOfC qual scope s.heap.objs.size f cd::outer):=λb hb hn hm=>by
  rcases List.mem_cons.mp (J.G4 b hm)with z | z
  ·rcases hb with ⟨v,e⟩ | ⟨v,e⟩
   ·exact r b v e z
   ·rw[z]at e;have:=J.free;rw[e]at this;cases this
  ·exact hn z
 have k:∀b,((∃v,s.heap.get? b=some v)\/∃v,c b=some v)->(∃v,p.heap.get? b=some v)\/∃v,c b=some v:=λb hb=>by
  rcases hb with ⟨v,e⟩ | hb
  ·exact .inl (I.base.there b v e ay)
  ·exact .inr hb
 refine wpAny_leaves_onW I.ok.frames rfl fl λF a sm=>?_;have m:∀b o,j.heap.get? b=some o->b∈frs outer->∀x,o.data≠.fields x:=λb o e hb=>by
  obtain⟨_,L,d,hd⟩:=J.ug.mem hb;rw[e]at d;cases d;exact hd
 have g:∀b o,j.heap.get? b=some o->((∃v,s.heap.get? b=some v)\/∃v,c b=some v)->b∉frs outer->B.get? b=some o:=λb o e hb hn=>D b o e (k b hb) (l b hb hn);have U:=Wy (P:=P) (w:=w) (h2:=F) J.base J.hok (λb hb=>by
   obtain⟨_,o,y,_⟩:=J.ok.ug.mem hb;exact J.base.free b o y (J.ok.frf b hb) ay) (λb o e hb hn=>a.1 _ _ (g b o e hb hn)) λb o e hb=>sm b o e (m b o e hb)
 refine⟨u,n,a0,B,c,rfl,J.os,J.bare,U.1,U.2,a,λb o e hb hn=>?_,C⟩;have there:∃v,j.heap.get? b=some v:=by
  rcases hb with ⟨v,z⟩ | ⟨v,z⟩
  ·exact J.base.there b v z ay
  ·exact Hs (J.hok b v z)
 obtain⟨v,z⟩:=there;have q:=g b v z hb hn;have:=a.1 _ _ q;rw[e]at this;cases this;exact q
theorem Xb{pins:At}{σ:L2.St}{g:Hp}{a:AK}{C e:AI}{vs:AC}{h1:Heap}(I:Inv (yF (Cp P w) P w K mg base N qual scope f cd A outer s H E) pins σ g a)
  (hx:Heap.MadeExcOf a.heap h1 e (.ref C) vs) (p:E (.ref C) none g):(yF (Cp P w) P w K mg base N qual scope f cd A outer s H E).xe (.ref e) { a with heap:=h1 }:=by
 have k:∀b o,s.heap.get? b=some o->b≠(envOfC qual scope s.heap.objs.size f cd).locals:=λb o e=>Nat.ne_of_lt (Nat.lt_of_lt_of_le (Heap.lt_size e) I.ok.above);have h:∀b,((∃v,s.heap.get? b=some v)\/∃v,g b=some v)->b∉frs outer->b∉frs (envOfC qual scope s.heap.objs.size f cd::outer):=λb hb hn hm=>by
  rcases List.mem_cons.mp (I.G4 b hm)with z | z
  ·rcases hb with ⟨v,e⟩ | ⟨v,e⟩
   ·exact k b v e z
   ·rw[z]at e;have:=I.free;rw[e]at this;cases this
  ·exact hn z
 have l:a.heap.FunFrames (W.hideAll a.heap (frs (envOfC qual scope s.heap.objs.size f cd::outer))) (envOfC qual scope s.heap.objs.size f cd::outer):=
  W.funFrames_hide I.stack λenv m b hb=>List.mem_filterMap.mpr ⟨env,m,hb⟩
 refine wpAny_leaves_madeW (s:={ a with heap:=h1 }) I.ok.frames rfl (λb o q=>W.of_hideAll _ q) l hx λr t fl _ _ sm=>?_;have c:∀b o,a.heap.get? b=some o->((∃v,s.heap.get? b=some v)\/∃v,g b=some v)->b∉frs outer->(W.hideAll a.heap (frs (envOfC qual scope s.heap.objs.size f cd::outer))).get? b=some o:=
  λb o e hb hn=>W.hideAll_get _ e (h b hb hn)
 have i:∀b o,a.heap.get? b=some o->b∈frs outer->∀vs,o.data≠.fields vs:=λb o e hb=>by
  obtain⟨_,u,d,hd⟩:=I.ug.mem hb;rw[e]at d;cases d;exact hd
 have U:=Wy (P:=P) (w:=w) (h2:=r) I.base I.hok (λb hb=>by
   obtain⟨_,o,n,_⟩:=I.ok.ug.mem hb;exact I.base.free b o n (I.ok.frf b hb) ay) (λb o e hb hn=>fl.1 _ _ (c b o e hb hn)) λb o e hb=>sm b o (hx.keeps b o e) (i b o e hb)
 refine⟨e,.ref C,.ref t,_,g,rfl,I.os,I.bare,U.1,U.2,fl,λb o q hb hn=>?_,p⟩;have there:∃v,a.heap.get? b=some v:=by
  rcases hb with ⟨v,z⟩ | ⟨v,z⟩
  ·exact I.base.there b v z ay
  ·exact Hs (I.hok b v z)
 obtain⟨v,z⟩:=there;have j:=c b v z hb hn;have:=fl.1 _ _ j;rw[q]at this;cases this;exact j
end
abbrev Zyv(K:aD)(C:AI):Prop:=W.excIn K C [.type "ValueError",.type "Exception",.type "BaseException",.type "object"] "ValueError.__new__"=true
theorem Zol{K:aD}{h:Heap}{C:AI}{o:AC}{p:String}(X:K.In h)(q:W.excIn K C o p=true):
  ∃tl N nm y bs hd sn sub ab col dd c e f b d mN,h.get? C=some (excClassObj nm y C N bs tl hd sn sub ab col dd c e f b d p)/\h.Ns N mN/\mN "__init__"=none/\OwnTail h o tl:=by
 unfold W.excIn at q;split at q
 ·rename_i dd i a l
  split at q
  ·rename_i H tl c e f b n2 d em n
   simp only[Bool.and_eq_true,beq_iff_eq,Bool.not_eq_true']at q;obtain⟨⟨⟨⟨⟨z,s⟩,e3⟩,w⟩,j⟩,m⟩:=q;subst z s;obtain⟨x,D,F,r,t,A,v,u,B,k,E⟩:=i;dsimp only at em e3 j m;subst em e3;have g:a=#[c,e,f,b,some (.builtin n2),d]:=by
    obtain⟨I⟩:=a;simp only at n;rw[n]
   subst g;refine⟨tl,r,x,t,D,A,v,u,B,k,dd,c,e,f,b,d,h.nsMap r,X _ _ l,?_,W.nsMap_none_of_in X j m,W.tail_of_in X w⟩;exact .of_isNs (W.isNs_of_in X j)
  ·cases q
 ·cases q
section
variable {X:Cx}{x:Str}{C:AI}{np cpos pos:Pos}{e:AN}{es:AG}{ta:TA}{E:XK}
theorem DW(hc:X.calm=true)(j:Gl X x)(hm:X.mg x=↑C)(hx:Zyv X.K C)(u:PA X (e::es) ta)
  (v:∀(pins:At) (σ:L2.St) (H:Hp) (s:AK) (b:AI) (vs:AC) (h1:Heap),Inv X pins σ H s->Heap.MadeExcOf s.heap h1 b (.ref C) vs->E (.ref C) none H->X.xe (.ref b) { s with heap:=h1 })
  (hs:starEach (e::es) X.env=(false,eval e X.env)::starEach es X.env:=by rfl) (f:(backTo cpos (starEach es X.env)).any (·.1)=false:=by rfl) (hd:(x == ("__debug__":Str))=false:=by decide):
  PS X (.Raise (some (.Call (.Name x np) (e::es) [] cpos)) none pos) (GZ C E ta):=by
 intro pins s σ H D I h;obtain⟨tl,N,nm,n,bs,c,sn,sub,ab,col,dd,k,o,p,g,l,mN,t,m,d,T⟩:=Zol I.ok.mod.kin hx;refine wpAny_Raise_call_subT (C:=C) (nm:=nm) (q:=n) (N:=N) (bs:=bs) (bm:=tl) (hdct:=c) (sn:=sn) (sub:=sub) (ab:=ab) (col:=col) (dd:=dd) (k0:=k) (k1:=o) (k2:=p) (k3:=g) (k5:=l) PySem.F.excBase_ValueError (mN:=mN)
  (T.hasType PySem.F.excBase_ValueError.hasBase) (I.ok.hd hc) ?_ d (gG I j hm ⟨rfl,?_⟩ hd)
 ·rw[hs];show(false || (backTo cpos (starEach es X.env)).any (·.1))=false;rw[f];rfl
 ·have q:=u cpos pins s σ H _ I h;rw[hs]at q ⊢;refine Calls.evalArgs_plain (gM q λus i ⟨vs,H1,I1,r,l1,hE1⟩=>⟨rfl,?_,I1.bk _ _ t,m.keeps I1.bk,T.keeps I1.bk,λh1 b a=>v pins σ H1 i b _ h1 I1 a hE1⟩);rw[<- r.length];exact Nat.le_trans l1 ε
end
def Zg2(CX:Y5)(X:Cx)(E:L2.St->XK):Prop:=∀(pins:At) (σ:L2.St) (H:Hp) (s:AK) (e:AJ) (s':AK),Inv X pins σ H s->CX X.stack H s (E σ) e s'->X.xe e s'
section
variable {X:Cx}{CX:Y5}{k:Nat}{f C:AI}{fd:AL}{ps:AH}{sp:Sp}{qw:List V}{ds:AC}{E:L2.St->XK}{x m:Str}{p pos apos:Pos}{e o:AN}{es:AG}{ta:TE}{t:TA}
theorem Zn1{pins:At}{σ:L2.St}{H:Hp}{s:AK}{Q:VK}{us:AC}{vs:List V}(F:qj X.prog X.w X.K X.mg X.base CX k f fd ps sp)(hr:Room k X.A)(hb:Binds X.K fd ps ds)(hd:Vals qw ds)(hx:Zg2 CX X E)
  (I:Inv X pins σ H s) (r:Vals vs us) (h:sp (vs++qw) H Q (E σ)):wpAny ς X.A (call (.ref f) us) (EP X pins σ Q) X.xe s:=by
 have r2:Vals (vs++qw) (us++ds):=r.append hd;have hl:(us++ds).length=ps.length:=by rw[<- r2.length];exact F.len _ _ _ _ h
 refine wpAny_call (codeAny_mono (F.run X.A X.stack s H ⟨us,[]⟩ (us++ds) (vs++qw) Q (E σ) hr I.env0 (hb s us I.qt hl) r2 h) λr a hq=>?_);cases r with
 | error e=>exact hx pins σ H s e a I hq
 | ok fl=>
  cases fl with
  | ret u=>exact I.after hq
  | next=>exact False.elim hq
  | brk=>exact False.elim hq
  | cont=>exact False.elim hq
theorem Zjo(F:qj X.prog X.w X.K X.mg X.base CX k f fd ps sp)(hr:Room k X.A)(g:Gl X x)(hm:X.mg x=↑f)(hk:W.keepIn X.K (.ref f)=true)(hb:Binds X.K fd ps ds)(hd:Vals qw ds)(hx:Zg2 CX X E)
  (j:PA X (e::es) t) (b:(x == ("__debug__":Str))=false:=by decide) (i:starEach (e::es) X.env=(false,eval e X.env)::starEach es X.env:=by rfl) (c:(backTo pos (starEach es X.env)).any (·.1)=false:=by rfl):
  PE X (.Call (.Name x p) (e::es) [] pos) (Zbn sp qw E t):=by
 intro a s d H Q I h;refine wpAny_Call_Name_kw (gG I g hm ?_ b);refine W.callWith_K (h₀:=X.base) I.ok.mod.kin hk (gM (j pos a s d H _ I h) λus l ⟨m,H1,I1,r,q⟩=>⟨I1.qt,?_⟩) i c;exact Zn1 F hr hb hd hx I1 r q
end
abbrev cxB(X:Cx)(pn:At)(xe:Ap):Cx:={ X with pn:=pn,xe:=xe }
abbrev LR(X:Cx)(ea:AJ)(pn:At):Cx:={ X with A:=X.A.mark (some ea),calm:=false,pn:=pn,xe:=λ_ _=>False }
section
variable {X:Cx}{pins:At}{σ:L2.St}{H:Hp}{s:AK}
theorem Zqq(ok:X.Ok)(pn:At)(xe:Ap):(cxB X pn xe).Ok:=
 ⟨ok.mod,ok.kind,ok.glob,ok.blt,ok.above,ok.inj,ok.has,ok.cab,ok.hd,ok.frames,ok.stk,ok.exf,ok.bs,ok.bsz,ok.Z2,ok.Zdc,ok.ug,ok.frf⟩
theorem Zqp(ok:X.Ok)(a:AJ)(pn:At):(LR X a pn).Ok:=
 ⟨ok.mod,ok.kind,ok.glob,ok.blt,ok.above,ok.inj,ok.has,ok.cab,λz=>(nomatch z),ok.frames,ok.stk,ok.exf,ok.bs,ok.bsz,ok.Z2,ok.Zdc,ok.ug,ok.frf⟩
theorem Zq2(I:Inv X pins σ H s)(xe:Ap):Inv (cxB X (X.pn++pins) xe) [] σ H s:=
 ⟨Zqq I.ok _ _,I.os,I.bare,I.base,I.loc,I.cell,I.free,I.p7,λp hp=>I.pin p (by simpa using hp),I.hok,I.len⟩
theorem Oo{xe:Ap}{pl:At}(ok:X.Ok)(I:Inv (cxB X (X.pn++pins) xe) pl σ H s):Inv X pins σ H s:=
 ⟨ok,I.os,I.bare,I.base,I.loc,I.cell,I.free,I.p7,λp hp=>I.pin p (List.mem_append_left _ hp),I.hok,I.len⟩
theorem j9(I:Inv X pins σ H s)(a:AJ):Inv (LR X a (X.pn++pins)) [] σ H s:=
 ⟨Zqp I.ok _ _,I.os,I.bare,I.base,I.loc,I.cell,I.free,I.p7,λp hp=>I.pin p (by simpa using hp),I.hok,I.len⟩
theorem Xk{a:AJ}{pl:At}(ok:X.Ok)(I:Inv (LR X a (X.pn++pins)) pl σ H s):Inv X pins σ H s:=
 ⟨ok,I.os,I.bare,I.base,I.loc,I.cell,I.free,I.p7,λp hp=>I.pin p (List.mem_append_left _ hp),I.hok,I.len⟩
theorem Zq7{xe:Ap}{D:Ends}{f:Flow}(ok:X.Ok)(h:SP (cxB X (X.pn++pins) xe) [] D f s):SP X pins D f s:=by
 cases f with
 | next=>obtain⟨a,b,I,q⟩:=h;exact⟨a,b,Oo ok I,q⟩
 | brk=>obtain⟨a,b,I,q⟩:=h;exact⟨a,b,Oo ok I,q⟩
 | cont=>obtain⟨a,b,I,q⟩:=h;exact⟨a,b,Oo ok I,q⟩
 | ret u=>obtain⟨v,a,b,I,r,q⟩:=h;exact⟨v,a,b,Oo ok I,r,q⟩
theorem WX{c:AJ}{D:Ends}{f:Flow}(ok:X.Ok)(h:SP (LR X c (X.pn++pins)) [] D f s):SP X pins D f s:=by
 cases f with
 | next=>obtain⟨a,b,I,q⟩:=h;exact⟨a,b,Xk ok I,q⟩
 | brk=>obtain⟨a,b,I,q⟩:=h;exact⟨a,b,Xk ok I,q⟩
 | cont=>obtain⟨a,b,I,q⟩:=h;exact⟨a,b,Xk ok I,q⟩
 | ret u=>obtain⟨v,a,b,I,r,q⟩:=h;exact⟨v,a,b,Xk ok I,r,q⟩
theorem flown{h:AI}{g a0:AJ}{B:Heap}{d:Hp}{a:AK}{f:Heap}(I:Inv X pins σ H s)(os:a.os=s.os)(bare:AllBare a.gens)(un:Un (frs X.stack) [] H d s.heap a.heap)(ok:yZ X.prog X.w d a.heap)
  (fl:Heap.FlyingW B X.stack h g a0 a.heap) (k:∀b o,a.heap.get? b=some o->((∃v,s.heap.get? b=some v)\/∃v,d b=some v)->b∉frs X.stack->B.get? b=some o)
  (st:B.StaysIn f) (sm:a.heap.UpToSlots f):Inv X pins σ d { a with heap:=f }:=by
 have i:∀b∈frs X.stack,d b=none:=λb hb=>by
  obtain⟨_,o,j,_⟩:=I.stack.mem hb;exact un.free b o j (I.WQ b hb) ay
 have U:=Wy (P:=X.prog) (w:=X.w) (h2:=f) un ok i (λb o e hb hn=>st _ _ (k b o e hb hn)) λb o e hb=>by
  obtain⟨_,l,c,hd⟩:=fl.2.2.1.mem hb;rw[e]at c;cases c;exact sm b o e hd
 exact I.call' (s':={ a with heap:=f }) (ch:=[]) os U.1 U.2 bare (λb z=>nomatch z)
end
section
variable {X:Cx}{x:Str}{C:AI}{np pos hpos:Pos}{body suite:List Stmt}{b₀:Stmt}{Mt:AJ->Prop}{tb:(L2.St->XK)->TS}{th:TS}
end
section
variable {P:AM}{w:AO}{K:aD}{mg:As}{base:Heap}{x qual:Str}{st:Stmt}{f:AI}{fd:AL}{N ps:AH}{k:Nat}{sp:Sp}
theorem fok(F:Fun K x qual st f fd)(S:aO N ps (aC st))(len:∀vs H Q E,sp vs H Q E->vs.length=ps.length)
  (b:∀(a:AJ) (A:Around) (outer:List Env) (s:AK) (H:Hp) (vs:List V) (Q:VK) (E:XK),Room k (A.deeper (envOfC qual (aC st) s.heap.objs.size f a))->sp vs H Q E->
   ∃t,Ri (yF (Cp P w) P w K mg base N qual (aC st) f a A outer s H E).nox (fJ st) t/\t { nx:=λ_ H'=>Q .non H',rt:=Q } (start N vs) H):qj P w K mg base (Cp P w) (k+1) f fd ps sp:=by
 obtain⟨oc,od,kV,g,j,i,a,ct,e,rfl,lk,c⟩:=F.ex;refine Zf9 lk c S len λA outer s H vs Q E hr d=>?_;obtain⟨t,h,q⟩:=b a A outer s H vs Q E hr d;exact⟨t,h.nox,q⟩
theorem Zwq(F:Fun K x qual st f fd)(S:aO N ps (aC st))(len:∀vs H Q E,sp vs H Q E->vs.length=ps.length)
  (b:∀(a:AJ) (A:Around) (outer:List Env) (s:AK) (H:Hp) (vs:List V) (Q:VK) (E:XK),Room k (A.deeper (envOfC qual (aC st) s.heap.objs.size f a))->sp vs H Q E->
   ∃t,Ri (yF (Cp P w) P w K mg base N qual (aC st) f a A outer s H E) (fJ st) t/\t { nx:=λ_ H'=>Q .non H',rt:=Q } (start N vs) H):qj P w K mg base (Cp P w) (k+1) f fd ps sp:=by
 obtain⟨oc,od,kV,g,i,h,a,ct,e,rfl,lk,c⟩:=F.ex;exact Zf9 lk c S len λA outer s H vs Q E hr d=>b a A outer s H vs Q E hr d
theorem Zws(F:Zmi K x qual st f fd)(S:aO N ps (aC st))(len:∀vs H Q E,sp vs H Q E->vs.length=ps.length)
  (b:∀(a:AJ) (A:Around) (outer:List Env) (s:AK) (H:Hp) (vs:List V) (Q:VK) (E:XK),Room k (A.deeper (envOfC qual (aC st) s.heap.objs.size f a))->sp vs H Q E->
   ∃t,Ri (yF (Cp P w) P w K mg base N qual (aC st) f a A outer s H E).nox (fJ st) t/\t { nx:=λ_ H'=>Q .non H',rt:=Q } (start N vs) H):qj P w K mg base (Cp P w) (k+1) f fd ps sp:=by
 obtain⟨oc,od,dV,kV,g,j,i,a,ct,e,rfl,lk,c⟩:=F.ex;refine Zf9 lk c S len λA outer s H vs Q E hr d=>?_;obtain⟨t,h,q⟩:=b a A outer s H vs Q E hr d;exact⟨t,h.nox,q⟩
theorem Zuj(F:Zmi K x qual st f fd)(S:aO N ps (aC st))(len:∀vs H Q E,sp vs H Q E->vs.length=ps.length)
  (b:∀(a:AJ) (A:Around) (outer:List Env) (s:AK) (H:Hp) (vs:List V) (Q:VK) (E:XK),Room k (A.deeper (envOfC qual (aC st) s.heap.objs.size f a))->sp vs H Q E->
   ∃t,Ri (yF (Cp P w) P w K mg base N qual (aC st) f a A outer s H E) (fJ st) t/\t { nx:=λ_ H'=>Q .non H',rt:=Q } (start N vs) H):qj P w K mg base (Cp P w) (k+1) f fd ps sp:=by
 obtain⟨oc,od,dV,kV,g,i,h,a,ct,e,rfl,lk,c⟩:=F.ex;exact Zf9 lk c S len λA outer s H vs Q E hr d=>b a A outer s H vs Q E hr d
end
structure Zz3(K:aD)(C:AI):Prop where
 ga:W.findIn K (.ref C) "__getattribute__"=some (some (.builtin "BaseException.__getattribute__"))
 no:W.findIn K (.ref C) "__getattr__"=some none
 cl:W.findIn K (.ref C) "__class__"=some (some (.builtin "object.__class__"))
 so:W.mroIn K C (.type "object")=some true
 sb:W.mroIn K C (.type "BaseException")=some true
 is:W.hasDictIn K C=true
section
variable {prog:AM}{w:AO}{A:Around}{E:Ap}{h:Heap}{g:Array GenState}{d:Drawn}{t:Nat}{os:OsState}{a:AI}{o:Obj}{C:AI}{K:aD}
end
section
variable {X:Cx}
theorem mG:Kv X (.type "list") (yG X.K):=by
 intro a s b H d us Q I r h;obtain⟨p,c,rfl,hs,q⟩:=h;exact Gx a s b H [.ref p] us Q I r ⟨p,c,rfl,.inl hs,q⟩
theorem Zhq{xs c:List V}{us g:AC}(f:Vals xs us)(i:Vals c g)(m:xs.all nF=true)(n:c.all nF=true)(hl:xs.length=c.length):
  (∀(A:Around) (s:AK) (j:Nat) (h1:j<us.toArray.size) (h2:j<g.toArray.size),SeqAt.EqAt A s us.toArray[j] g.toArray[j] (match xs[j]?,c[j]? with | some a,some b=>eqV a b | _,_=>false))/\
  (List.range us.toArray.size).all (λj=>match xs[j]?,c[j]? with | some a,some b=>eqV a b | _,_=>false)=eqL xs c:=by
 refine⟨λA s j h1 h2=>?_,?_⟩
 ·rw[List.size_toArray]at h1 h2;have o:=f.length;have l2:=i.length;have a1:xs[j]? =some xs[j]:=bL δ;have a2:c[j]? =some c[j]:=bL δ;obtain⟨u,l,r1⟩:=f.get a1;obtain⟨q,k,r2⟩:=i.get a2;rw[bL h1]at l;rw[bL h2]at k;cases l;cases k;rw[a1,a2];exact u5 r1 r2 (List.all_eq_true.mp m _ (List.getElem_mem δ)) (List.all_eq_true.mp n _ (List.getElem_mem δ))
 ·rw[List.size_toArray,<- f.length];unfold eqL;rw[beq_iff_eq.mpr hl,Bool.true_and,Bool.eq_iff_iff,List.all_eq_true,List.all_eq_true];constructor
  ·intro h p hp;obtain⟨j,d,e⟩:=List.getElem_of_mem hp;rw[List.length_zip]at d;have:=h j (List.mem_range.mpr δ);rw[bL (show j<xs.length by omega),bL (show j<c.length by omega)]at this;rw[List.getElem_zip]at e;rw[<- e];exact this
  ·intro h j d;have d:=List.mem_range.mp d;rw[bL (show j<xs.length by omega),bL (show j<c.length by omega)];have hz:j<(xs.zip c).length:=by rw[List.length_zip];omega
   have:=h _ (List.getElem_mem hz);rw[List.getElem_zip]at this;exact this
theorem Zoo{xs a:List V}(h:xs.length≠a.length):eqL xs a=false:=by
 unfold eqL;rw[show(xs.length == a.length)=false by simpa using h,Bool.false_and]
end
theorem Zk9:fastBuiltinMro "NoneType"=some [.type "NoneType",.type "object"]:=γ
section
variable {K:aD}{A:Around}{a C:AI}{o:Obj}
theorem Zsd{M:Model}{E:Ap}{s:AK}{Q:Unit->AK->Prop}(e:W.Looks M s.heap (isInstance (.ref a) (.type "object")) true)(hq:Q () s):wpAny M A (checkBuiltinCall "object.__eq__" ⟨[.ref a,.none],[]⟩) Q E s:=by
 have d:=PySem.F.cmpArgs_eq (.ref a) .none;simp only[checkBuiltinCall,PySem.F.cmpKind_eq,PySem.F.cmpSplit_eq];refine wpAny_bind (e.here ?_);simp only[Bool.not_true,Bool.false_eq_true,if_false];cases b:Manifest.signature? "object.__eq__" with
 | none=>exact wpAny_pure hq
 | some c=>
  simp only[argsOk,b]at d;have h2:Bind.checkArgs "object.__eq__" c ⟨[.ref a,.none],[]⟩=pure ():=d;show wpAny M A (Bind.checkArgs "object.__eq__" c ⟨[.ref a,.none],[]⟩) Q E _;rw[h2];exact wpAny_pure hq
theorem Zon{prog:AM}{w:AO}{E:Ap}{s:AK}{Q:Ap}(b:W.Looks ai s.heap (isInstance (.ref a) (.type "object")) true)(hq:Q .notImplemented s):
  wpAny ai A (call (.builtin "object.__eq__") [.ref a,.none]) Q E s:=by
 refine wpAny_call (codeAny_call_builtin PySem.F.cmp_object.eq.plain PySem.F.cmpEntry_eq (Zsd b ?_));obtain⟨h,g,d,t,os⟩:=s;unfold Builtin.«object.__eq__»
 repeat (first | with_reducible refine wpAny_bind (m:=isSame (.ref a) .none) (wpAny_pure ?_) | wp_step)
 exact hq
theorem Zq0{prog:AM}{w:AO}{E:Ap}{s:AK}{Q:AB->AK->Prop}(X:K.In s.heap)(hx:s.heap.get? a=some o)(hc:o.cls=.ref C)(b:EqD K C)(hq:Q none s):
  wpAny ai A (tryCompare (.ref a) "__eq__" .none) Q E s:=by
 have LT:W.Looks ai s.heap (typeOf (.ref a)) (.ref C):=hc ▸ (W.Looks.ld hx).andThen .now;have d:W.Looks ai s.heap (isInstance (.ref a) (.type "object")) true:=LT.andThen (W.looks_mroIn X b.ob);have e:W.Looks ai s.heap (specialOf (.ref a) "__eq__") (some (.builtin "object.__eq__")):=LT.andThen (W.looks_findIn X b.eq);simp only[tryCompare];refine wpAny_bind ?_;simp only[callSpecialIfBound?,bindSpecialIfBound?];refine wpAny_holding (wpAny_bind (wpAny_bind (e.here ?_)));simp only[PySem.F.cmp_object.eq.bind];have fin:wpAny ai A (call (.builtin "object.__eq__") ([.ref a]++[.none]) >>= λv=>pure (some v)) (λr c=>wpAny ai A (match r with | some .notImplemented | none=>pure none | some v=>pure (some v)) Q E c) E s:=
  wpAny_bind (Zon d (wpAny_pure (wpAny_pure hq)))
 refine wpAny_bind (wpAny_askSetting (wpAny_ite ?_));split
 ·exact wpAny_bind (wpAny_pure (wpAny_pure fin))
 ·exact wpAny_tryCatch (wpAny_bind (wpAny_pure (wpAny_pure fin)))
theorem Zn2{s:AK}(X:K.In s.heap)(hx:s.heap.get? a=some o)(hc:o.cls=.ref C)(c:EqD K C)(hu:A.units<cLine):SeqAt.RcAt A s (.ref a) .none false:=λprog w E Q h=>by
 have LT:W.Looks ai s.heap (typeOf (.ref a)) (.ref C):=hc ▸ (W.Looks.ld hx).andThen .now;have hi:cmpInfo CmpOp.Eq=("==",("__eq__":Str),("__eq__":Str)):=rfl;have d:oneThing? .Eq (.ref a) .none=none:=rfl;simp only[richCompare,hi,d]
 try with_reducible refine wpAny_holding ?_
 refine wpAny_bind (wpAny_cRoomFor_or (.inr hu) ?_);refine wpAny_bind (LT.here (wpAny_bind (m:=typeOf .none) (wpAny_pure ?_)));have b:(Value.ref C != Value.type "NoneType")=true:=ζ
 simp only[b,if_true];have hs:isSubtype (.type "NoneType") (.ref C)=pure false:=by
  rw[isSubtype_type,Zk9];rfl
 refine wpAny_bind (wpAny_of_eq hs ?_);simp only[Bool.false_eq_true,if_false,Bool.not_false,if_true];refine wpAny_bind (m:=tryCompare (.ref a) _ .none) (Zq0 X hx hc c ?_);refine wpAny_bind (m:=tryCompare .none _ (.ref a)) (wpAny_tryCompare_declines (T:="NoneType") rfl PySem.F.slot_NoneType_eq_refl (call_gives PySem.F.slot_NoneType_eq_refl rfl PySem.F.entry_NoneType_eq (PySem.F.args_NoneType_eq_2 _ _) (SeqAt.NoneType___eq___none_ref_0 a) ⟨rfl,?_⟩));exact wpAny_bind (wpAny_rule (wpAny_bind (wpAny_of_eq (rfl:isSame (.ref a) .none=pure false) (wpAny_pure h))))
theorem Zom{s:AK}(X:K.In s.heap)(hx:s.heap.get? a=some o)(hc:o.cls=.ref C)(c:EqD K C)(hu:A.units<cLine):SeqAt.EqAt A s (.ref a) .none false:=λprog w E Q h=>by
 unfold eqBool;refine wpAny_holding ?_;refine wpAny_ite_split (λb=>absurd (eq_of_beq b) nofun) ax;exact wpAny_bind (Zn2 X hx hc c hu prog w E _ (wpAny_truthy_bool h))
end
section
variable {X:Cx}
def yl(u:AJ):Bool:=match u with
 | .none=>true
 | _=>false
theorem Z1{H:Hp}{y:V}{u:AJ}(r:RelV y u)(h:y=.non\/∃a C dx fs,y=.ref a/\H a=some (.ins C dx fs)/\Lj X.K C/\EqD X.K C):yl u=decide (y=.non):=by
 rcases h with rfl | ⟨a,_,_,_,rfl,_⟩
 ·obtain rfl:u=Value.none:=r;rfl
 ·obtain rfl:u=Value.ref a:=r;rfl
theorem Zkc{pins:At}{σ:L2.St}{H:Hp}{s:AK}{A:Around}{y:V}{u:AJ}(I:Inv X pins σ H s)(hu:A.units<cLine)(r:RelV y u)(h:y=.non\/∃a C dx fs,y=.ref a/\H a=some (.ins C dx fs)/\Lj X.K C/\EqD X.K C):SeqAt.EqAt A s u .none (yl u):=by
 rcases h with rfl | ⟨a,C,dx,fs,rfl,c,hc,b⟩
 ·obtain rfl:u=Value.none:=r;exact SeqAt.EqAt.same .none
 ·obtain rfl:u=Value.ref a:=r;obtain⟨_,_,_,e,_⟩:=(show gZ X.prog X.w H s.heap a (.ins C dx fs)from I.hok a _ c);exact Zom I.qt e rfl b hu
theorem Zkb{H:Hp}{xs:List V}{us:AC}(v:Vals xs us):OkN X.K H xs->us.any yl=decide (V.non∈xs):=by
 induction v with
 | nil=>
  intro _;rfl
 | cons r t ih=>
  intro h;rw[List.any_cons,ih λz hz=>h z (List.mem_cons_of_mem _ hz),Z1 r (h _ List.mem_cons_self),Bool.eq_iff_iff];simp only[Bool.or_eq_true,decide_eq_true_eq,List.mem_cons];constructor
  ·rintro(z | z)
   ·exact .inl z.symm
   ·exact .inr z
  ·rintro(z | z)
   ·exact .inl z.symm
   ·exact .inr z
theorem ZZ{H:Hp}{pins:At}{σ:L2.St}{s:AK}{A:Around}{xs:List V}{us:AC}(I:Inv X pins σ H s)(hu:A.units<cLine)(r:Vals xs us)(h:OkN X.K H xs):∀u∈us,SeqAt.EqAt A s u .none (yl u):=by
 intro u hm;obtain⟨i,hi,rfl⟩:=List.getElem_of_mem hm;have hl:=r.length;have hx:xs[i]? =some xs[i]:=bL δ;obtain⟨b,e,a⟩:=r.get hx;rw[bL hi]at e;cases e;exact Zkc I hu a (h _ (List.getElem_mem δ))
theorem Zgs(hu:X.A.units+1<cLine):wQ X (compareOp .NotIn) (Zqe X.K true):=by
 intro a s f H x y v u Q I b c h;obtain⟨p,g,rfl,rfl,hs,hk,q⟩:=h;obtain rfl:v=Value.none:=b;cases c;obtain⟨us,r,e,_⟩:=I.list hs;refine SeqAt.notIn_listAt yl e.isList (λw d=>ZZ I (by show X.A.units+1<cLine;exact hu) r hk w (by simpa using d)) ⟨.bl _,H,I,rfl,?_⟩;rw[show us.toArray.any yl=us.any yl by simp,Zkb r hk];exact q
theorem Z0{H:Hp}{xs:List V}{us:AC}(r:Vals xs us)(h:OkN X.K H xs)(j:Nat)(b:j<us.length)(a:j<xs.length):yl us[j]=decide (xs[j]=V.non):=by
 obtain⟨d,e,c⟩:=r.get (bL a);rw[bL b]at e;cases e;exact Z1 c (h _ (List.getElem_mem a))
theorem Zgy(hu:X.A.units+1<cLine):MtR X "list.index" (Zel X.K):=by
 intro k s z H x xs v us Q I l rs h;obtain⟨p,a,rfl,rfl,hs,hk,hn,q⟩:=h;obtain rfl:v=Value.ref p:=l;obtain⟨u,rfl,t⟩:=Vals.one rs;obtain rfl:u=Value.none:=t;obtain⟨c,r,o,hz⟩:=I.list hs;obtain⟨⟨w,dd,g,sl⟩,i,hc,n,hd⟩:=o.isList;simp only at hc hd;subst hc hd;have hl:=r.length;have b:a.idxOf V.non<a.length:=List.idxOf_lt_length_iff.mpr hn;have m:a.length<2 ^ 62:=Nat.lt_of_le_of_lt hz ε;refine call_meets PySem.F.slot_list_index ⟨_,i,rfl⟩ PySem.F.entry_list_index (PySem.F.args_list_index_2 _ _)
  (SeqAt.list_indexAt p c.toArray n dd sl .none yl (a.idxOf V.non) (by simpa[hl]using b) δ ?_ ?_) ⟨i,λy hy=>ZZ I (by show X.A.units+1<cLine;exact hu) r hk y (by simpa using hy),⟨.int _,H,I.tok _,⟨_,rfl⟩,q⟩⟩
 ·show yl c[a.idxOf V.non]=true;rw[Z0 r hk _ δ b,decide_eq_true_eq];exact List.getElem_idxOf b
 ·intro j f d;show yl c[j]=false;rw[Z0 r hk j (by simpa using f) δ,decide_eq_false_iff_not];intro e;have:=List.not_of_lt_findIdx (p:=(· == V.non)) (xs:=a) d;simp[e]at this
theorem Zql(hu:X.A.units+1<cLine):wQ X (compareOp .NotEq) (Zqg X.K true):=by
 intro e s o H x y v u Q I f g h;obtain⟨p,r,k,m,rfl,rfl,hx,hy,d,q⟩:=h;cases f;cases g;obtain⟨us,r1,a,_⟩:=I.list hx;obtain⟨n,r2,c,_⟩:=I.list hy;have b:X.A.units<cLine:=δ
 by_cases hl:k.length=m.length
 ·obtain⟨l,i⟩:=Zhq r1 r2 (d hl).1 (d hl).2 hl;refine SeqAt.RcNeAt.lists a.isList c.isList (by rw[List.size_toArray,List.size_toArray,<- r1.length,<- r2.length];exact hl) b (λj h1 h2=>l _ _ j h1 h2) X.prog X.w X.xe _ ?_;rw[i];exact⟨.bl _,H,I,rfl,q⟩
 ·refine SeqAt.RcNeAt.lists_lengths a.isList c.isList ?_ b X.prog X.w X.xe _ ?_
  ·rw[List.size_toArray,List.size_toArray,<- r1.length,<- r2.length];simpa using hl
  ·refine⟨.bl _,H,I,rfl,?_⟩;have:=q;rw[Zoo hl]at this;exact this
end
end G
namespace G
open PySem L2
def Mr(C:AI):TE:=λ_ H Q=>∀x dx,H x=none->H dx=none->dx≠x->Q (.ref x) (upd (upd H dx (.own x)) x (.ins C dx []))
theorem Zo5{C:AI}{σ:St}{H:Hp}{Q:VK}(h:∀x dx,H x=none->H dx=none->dx≠x->Q (.ref x) (upd (upd H dx (.own x)) x (.ins C dx []))):Mr C σ H Q:=h
def Bp(t u:TE):TE:=λσ H Q=>t σ H Q\/u σ H Q
theorem JZ{t u:TE}{σ:St}{H:Hp}{Q:VK}(h:t σ H Q):Bp t u σ H Q:=.inl h
theorem wH{t u:TE}{σ:St}{H:Hp}{Q:VK}(h:u σ H Q):Bp t u σ H Q:=.inr h
end G
namespace G
open PySem L2 PySem.Spec PyProof.Rows
section
variable {X:Cx}
theorem mR{e:AN}{t u:TE}(h1:PE X e t)(h2:PE X e u):PE X e (Bp t u):=by
 intro a s b H Q I h;rcases h with h | h
 ·exact h1 a s b H Q I h
 ·exact h2 a s b H Q I h
structure Mk0(K:aD)(C:AI):Prop where
 makes:W.makesIn K C=true
 init:W.findIn K (.ref C) "__init__"=some (some (.builtin "object.__init__"))
 kp:W.keepIn K (.ref C)=true
theorem Zc1{C:AI}{pins:At}{σ:L2.St}{H:Hp}{s:AK}{Q:VK}(M:Mk0 X.K C)(I:Inv X pins σ H s)
  (h:∀x dx,H x=none->H dx=none->dx≠x->Q (.ref x) (upd (upd H dx (.own x)) x (.ins C dx []))):wpAny ς X.A (call (.ref C) []) (EP X pins σ Q) X.xe s:=by
 have hq:=h ah s.heap.objs.size (I.hok.fresh (Nat.le_succ _)) (I.hok.fresh Δ) (Nat.ne_of_lt (Nat.lt_succ_self _));have c:=Inv.made (C:=C) I;have Y:=W.makes_of (M:=model X.prog X.w) I.qt M.makes;refine wpAny_call (Zgz I.qt M.makes M.init (λself=>W.Looks.of_pure (W.oi_bind self)) ?_);have a:((s.heap.push W.emptyDict).push (W.instObj C s.heap.objs.size)).get? (s.heap.objs.size+1)=some (W.instObj C s.heap.objs.size):=by
  have:=Heap.get?_push_size (s.heap.push W.emptyDict) (o:=W.instObj C s.heap.objs.size) rfl;rw[Heap.size_push]at this;exact this
 have t1:W.Looks ς ((s.heap.push W.emptyDict).push (W.instObj C s.heap.objs.size)) (typeOf (.ref ah)) (.ref C):=(W.Looks.ld a).andThen .now;have t2:W.Looks ς ((s.heap.push W.emptyDict).push (W.instObj C s.heap.objs.size)) (isInstance (.ref ah) (.type "object")) true:=t1.andThen (Y.top.keeps λb o e=>Heap.get?_push_of_some _ (Heap.get?_push_of_some _ e));refine codeAny_call_builtin W.oi_plain W.entry_oi (@W.check_slot ς _ _ _ "object.__init__" "object" "__init__" (.ref ah) [] [] _ W.oi_kind W.oi_split t2 (W.oi_args (.ref ah)) ?_);rw[W.oi_run];exact wpAny_pure (And.intro rfl ⟨V.ref ah,_,c,rfl,hq⟩)
theorem Hq{C:AI}{x:Str}{p a:Pos}(M:Mk0 X.K C)(d:Gl X x)(hm:X.mg x=↑C)(b:(x == ("__debug__":Str))=false:=by decide):PE X (.Call (.Name x p) [] [] a) (Mr C):=by
 intro c s e H Q I h;refine wpAny_Call_Name_kw (gG I d hm ?_ b);exact W.callWith_K0 I.qt M.kp (Zc1 M I h)
structure Zz2(K:aD)(C:AI):Prop where
 pg:W.plainGet K C "__class__"=true
 hd:W.hasDictIn K C=true
 cl:W.findIn K (.ref C) "__class__"=some (some (.builtin "object.__class__"))
 sp:W.specialIn K (.builtin "object.__class__") "__get__"=some (some (.builtin "getset_descriptor.__get__"))
 tk:W.takesIn K (.builtin "object.__class__")=some true
 so:W.mroIn K C (.type "object")=some true
end
end G
namespace G
open PySem L2
end G
namespace G
open PySem L2 PySem.Spec PyProof.Rows
def Zb6(w:AO):List DictEntry->List (Str×AI)->Prop
 | [],[]=>True
 | e::a,p::t=>e.hash=hashStr w p.1/\(∃tk,e.key=.str p.1 tk)/\e.val=.ref p.2/\Zb6 w a t
 | _,_=>False
def Tab(K:aD)(w:AO)(mg:As)(nm:Str)(Mq:List (Str×AI)):Prop:=
 ∃dd o a b,mg nm=↑dd/\K.lookup dd=some o/\o.ExactDict/\o.data=.dict a b/\Zb6 w a.toList Mq
theorem Zb6.keys{prog:AM}{w:AO}:∀{a:List DictEntry}{Mq:List (Str×AI)},Zb6 w a Mq->∀e∈a,∃k,(strKind prog w).is k e.key=true/\e.hash=(strKind prog w).hash k
 | [],_,_=>λe b=>absurd b List.not_mem_nil
 | e::a,[],h=>h.elim
 | e::a,p::t,h=>λx hx=>by
  obtain⟨h1,⟨tk,h2⟩,_,h4⟩:=h;rcases List.mem_cons.mp hx with rfl | hx
  ·refine⟨p.1,?_,h1⟩;rw[h2];show Value.isStrOf p.1 (.str p.1 tk)=true;simp[Value.isStrOf]
  ·exact Zb6.keys h4 x hx
theorem Zb6.find{w:AO}:∀{d:List DictEntry}{Mq:List (Str×AI)}{k:Str}{f:AI},Zb6 w d Mq->Mq.lookup k=some f->(d.find? λe=>Value.isStrOf k e.key).map (·.val)=↑f
 | [],[],_,_,_,h=>by cases h
 | [],_::_,_,_,h,_=>h.elim
 | _::_,[],_,_,h,_=>h.elim
 | e::d,p::t,k,f,h,hl=>by
  obtain⟨_,⟨tk,h2⟩,i,h4⟩:=h;rw[List.find?_cons,h2]
  by_cases hk:k=p.1
  ·subst hk;have g:Value.isStrOf p.1 (.str p.1 tk)=true:=by simp[Value.isStrOf]
   rw[g];have c:List.lookup p.1 (p::t)=some p.2:=by
    obtain⟨a,b⟩:=p;simp[List.lookup]
   rw[c]at hl;cases hl;show some e.val=_;rw[i]
  ·have g:Value.isStrOf k (.str p.1 tk)=false:=by
    simp only[Value.isStrOf,beq_eq_false_iff_ne,ne_eq];exact λz=>hk z.symm
   rw[g];have c:List.lookup k (p::t)=List.lookup k t:=by
    obtain⟨a,b⟩:=p;simp only[List.lookup];rw[beq_eq_false_iff_ne.mpr hk]
   rw[c]at hl;exact Zb6.find h4 hl
def Zms(Mq:List (Str×AI))(b:TE):TE:=λσ H Q=>b σ H λy a=>∃k f,y=.str k/\Mq.lookup k=some f/\Q (.ref f) a
theorem Zts{Mq:List (Str×AI)}{a:TE}{σ:L2.St}{H:Hp}{Q:VK}(h:a σ H λy b=>∃k f,y=.str k/\Mq.lookup k=some f/\Q (.ref f) b):Zms Mq a σ H Q:=h
theorem Zji{X:Cx}{nm:Str}{Mq:List (Str×AI)}{i:AN}{n:TE}{p d:Pos}(T:Tab X.K X.w X.mg nm Mq)(r:Gl X nm)(hi:PE X i n)(hs:Zoz i)(hd:(nm == ("__debug__":Str))=false:=by decide):
  PE X (.Subscript (.Name nm p) i d) (Zms Mq n):=by
 intro a s q H Q I h;obtain⟨dd,o,b,u,hm,hk,g,c,j⟩:=T;refine Ze7 PySem.F.slot_dict_getitem.lookup hs (gG I r hm ?_ hd);refine gM (hi a s q H _ I h) λiv z qc=>?_;obtain⟨y,H2,I2,ry,k,f,ey,l,q2⟩:=qc;subst ey;have m:=I2.qt dd o hk;refine⟨⟨o,m,g.1⟩,?_⟩;obtain⟨tk,rfl⟩:∃tk,iv=.str k tk:=ry;refine wpAny_getItem_of (knd:=strKind X.prog X.w) (k:=k) (f:=λk=>findBy Value.isStrOf b k) (by show Value.isStrOf k (.str k tk)=true;simp[Value.isStrOf]) ⟨o,b,u,m,g,c,λe t=>j.keys e (by simpa using t),λ_=>rfl⟩ (v:=.ref f) ?_ ⟨.ref f,H2,I2.tok _,rfl,q2⟩;show Option.map (λx=>x.val) (Array.find? (λe=>Value.isStrOf k e.key) b)=_;rw[<- Array.find?_toList];exact j.find l
def Ro(P:AM)(w:AO)(K:aD)(mg:As)(base:Heap)(CX:Y5)(k:Nat)(ps:AH)(L:List (AI×Sp)):Prop:=
 ∀f sp,(f,sp)∈L->∃a fd,a<=k/\qj P w K mg base CX a f fd ps sp/\W.keepIn K (.ref f)=true/\L2.Binds K fd ps []
theorem Ro.nil{P:AM}{w:AO}{K:aD}{mg:As}{base:Heap}{CX:Y5}{k:Nat}{ps:AH}:Ro P w K mg base CX k ps []:=λ_ _ h=>absurd h List.not_mem_nil
theorem Ro.cons{P:AM}{w:AO}{K:aD}{mg:As}{base:Heap}{CX:Y5}{k a:Nat}{ps:AH}{L:List (AI×Sp)}{f:AI}{fd:AL}{sp:Sp}(hk:a<=k)(F:qj P w K mg base CX a f fd ps sp)(hb:L2.Binds K fd ps [])(hp:W.keepIn K (.ref f)=true)(t:Ro P w K mg base CX k ps L):Ro P w K mg base CX k ps ((f,sp)::L):=λg b h=>by
 rcases List.mem_cons.mp h with e | h
 ·cases e;exact⟨a,fd,hk,F,hp,hb⟩
 ·exact t g b h
def WL(i:Nat)(L:List (AI×Sp))(E:XK)(t:TA):TE:=λσ H Q=>∃f sp,σ[i]? =some (↑f)/\(f,sp)∈L/\t σ H λvs a=>sp vs a Q E
theorem jw{i:Nat}{L:List (AI×Sp)}{E:XK}{t:TA}{σ:L2.St}{H:Hp}{Q:VK}{f:AI}(sp:Sp)(b:σ[i]? =some (↑f))(hm:(f,sp)∈L)(h:t σ H λvs a=>sp vs a Q E):WL i L E t σ H Q:=⟨f,sp,b,hm,h⟩
theorem ZJ{X:Cx}{CX:Y5}{k i:Nat}{ps:AH}{L:List (AI×Sp)}{x:Str}{E:XK}{e:AN}{c:AG}{t:TA}{p b:Pos}(F:Ro X.prog X.w X.K X.mg X.base CX k ps L)(hr:Room k X.A)(q:X.N[i]? =some x)(hv:Vis X.env.scope x)(hx:Passes CX X E)
  (y:PA X (e::c) t) (hd:(x == ("__debug__":Str))=false:=by decide) (d:(x == ("__classdict__":Str))=false:=by decide) (o:starEach (e::c) X.env=(false,eval e X.env)::starEach c X.env:=by rfl) (g:(backTo b (starEach c X.env)).any (·.1)=false:=by rfl):
  PE X (.Call (.Name x p) (e::c) [] b) (WL i L E t):=by
 intro a s j H Q I h;obtain⟨f,sp,z,hm,h⟩:=h;obtain⟨B,fd,hk,n,hp,hb⟩:=F f sp hm;refine wpAny_Call_Name_kw (gM (Zjh q hv hd d a s j H (λv l=>v=.ref f/\l=H) I ⟨_,z,rfl,rfl⟩) λu m qc=>?_);obtain⟨v,H1,I1,r,e1,e2⟩:=qc;subst e1 e2;obtain rfl:u=Value.ref f:=r;refine W.callWith_K (h₀:=X.base) I1.ok.mod.kin hp (gM (y b a m j H1 _ I1 h) λus C ⟨D,H2,I2,r2,q2⟩=>⟨I2.qt,?_⟩) o g;refine W7 (qw:=[]) n (hr.mono hk) hb .nil hx I2 r2 ?_;rw[List.append_nil];exact q2
section
variable {σ:L2.St}{H:Hp}{Q:VK}{td ty tv:TE}{n bk ct:L2.St->Hp->Prop}{r:VK}
theorem Zrz(h:td σ H λx c=>ty σ c λy b=>∃a v,x=.ref a/\Rk b a y (some v)/\Q v b):Za td ty σ H Q:=h
theorem Zl9(h:ty σ H λy c=>td σ c λx b=>∃a o,x=.ref a/\Rk b a y o/\Q (.bl (!o.isSome)) b):WK ty td σ H Q:=h
theorem Zrx(h:tv σ H λv c=>td σ c λx d=>ty σ d λy e=>∃a b,x=.ref a/\Zbd e a y v b/\n σ b):Zeg td ty tv ⟨n,r,bk,ct⟩ σ H:=h
theorem Zm5{a:AI}{b:List (L2.Key×V)}{z:Str}(e:H a=some (.dK b)):Rk H a (.str z) (nO b (Sum.inr z)):=Rk.k (k:=Sum.inr z) e
theorem Zun{a:AI}{b:List (L2.Key×V)}{z:Str}{v:V}(e:H a=some (.dK b))(hl:b.length<sizeLine):Zbd H a (.str z) v (upd H a (.dK (putK b (Sum.inr z) v))):=Zbd.k (k:=Sum.inr z) e hl
end
def Zp0(K:aD)(J:It)(b:List Nat)(tc:TT)(g:TE)(σ:L2.St)(h:Hp)(Q:VK):Prop:=∃W:Nat->Nat->List V->Hp->Prop,(∃m,W 0 m [] h)/\∀i m d H,W i m d H->
 (J.stop i H/\∀p,H p=none->Q (.ref p) (upd H p (.lst d)))\/
 (J.go i H/\d.length<sizeLine/\∀x H',J.yld i H x H'->∃a u v,x=.ref a/\fj K H' a [u,v]/\tc (some u::some v::b.map (pick σ)) H' λk e=>if k=true then g (some u::some v::b.map (pick σ)) e (λy f=>∃c,c<m/\W (i+1) c (d++[y]) f)else ∃c,c<m/\W (i+1) c d e)
def Zif(K:aD)(d:TI)(a:List Nat)(tc:TT)(b:TE):TE:=λσ H Q=>d σ H λJ c=>Zp0 K J a tc b σ c Q
theorem Zrp{K:aD}{b:TI}{a:List Nat}{tc:TT}{c:TE}{σ:L2.St}{H:Hp}{Q:VK}(h:b σ H λJ d=>Zp0 K J a tc c σ d Q):Zif K b a tc c σ H Q:=h
def Zv9(K:aD)(b:TE):TE:=λσ H Q=>∃a u v r,σ=↑a::r/\fj K H a [u,v]/\b (some u::some v::r) H Q
theorem Zf1{K:aD}{J:It}{b:List Nat}{c:TE}{σ:L2.St}{H:Hp}{Q:VK}(h:LCg J b zF (Zv9 K c) σ H Q):Zp0 K J b zF c σ H Q:=by
 obtain⟨W,w0,step⟩:=h;refine⟨W,w0,λi m j H f=>?_⟩;rcases step i m j H f with z | ⟨g,l,st⟩
 ·exact .inl z
 ·refine .inr ⟨g,l,λx d y=>?_⟩;have h1:=st x d y;simp only[zF,↓reduceIte]at h1;obtain⟨a,u,v,r,e,hs,q⟩:=h1;cases e;refine⟨a,u,v,rfl,hs,?_⟩;simp only[zF,↓reduceIte];exact q
theorem Zc8{X:Cx}{k iter:AN}{x y:Str}{A I pt u:Pos}{B:Nat}{o:AG}{a:Scope}{cl:List (Str×AI)}{F:TI}{tc:TT}{E:TE}{cns:AH}(b:List Nat)
  (hi:PI X (.Tuple [.Name x A,.Name y I] B pt) iter F)
  (T:∀C s H ex pn,PF (Ib X a cl (x::y::cns) C s H ex pn) o tc) (P:∀C s H ex pn,PE (Ib X a cl (x::y::cns) C s H ex pn) k E) (hc:X.calm=true)
  (e:closureFor a X.env=pure cl) (r:AllIn X.env.cells cl) (n:wR X cns b)
  (j:a.kind=.function) (d:(a.names.all λp=>p.2 != .cell)=true) (f:(a.names.all λp=>p.2 != .free || (cl.lookup p.1).isSome)=true)
  (w:(cns.all λy=>a.names.lookup y == some .free)=true) (c:∀y∈a.names,y.2=.local->a.names.lookup y.1=some .local) (hx:a.names.lookup x=some .local) (hy:a.names.lookup y=some .local) (q:(x::y::cns).Nodup)
  (hs:∀v,foldedSetIterable iter X.env v=pure v:=by intro _;rfl):
  PE X (.ListComp k [⟨.Tuple [.Name x A,.Name y I] B pt,iter,o,0⟩] a u) (Zif X.K F b tc E):=by
 refine Zjl (ns:=[x,y]) (gt:=Zd8 X.K 2 (uf (aN 0) (uf (aN 1) Zd9))) b (λJ V H Q h=>?_) hi (λC s H ex pn=>Ho hc (jo (fH q rfl (.inl (lookup_relabel_local hx)) (.inr (lookup_relabel_local hx))) (jo (fH q rfl (.inl (lookup_relabel_local hy)) (.inr (lookup_relabel_local hy))) zf))) T P hc e r n j d f w c hs;obtain⟨W,w0,turn⟩:=h;refine⟨W,w0,λi m U H N=>(turn i m U H N).imp id λ⟨g,l,st⟩=>⟨g,l,λz M y D hv=>?_⟩⟩;obtain⟨L,S,O,R,t,st⟩:=st z M y;cases D with
 | nil=>cases hv
 | cons v D=>
  obtain⟨Y,rfl⟩:=List.length_eq_one_iff.mp (Nat.succ.inj hv);exact⟨[some S,some O],rfl,⟨L,_,R,t,rfl,_,_,rfl,_,_,rfl,rfl,rfl,rfl⟩,st⟩
theorem ZC{X:Cx}{iz:Nat}{z:Str}{Z S:Pos}{r iter:AN}{x:Str}{B n:Pos}{f:AG}{a:Scope}{cl:List (Str×AI)}{wi:TI}{tc:TT}{U:TE}{cns:AH}(d:List Nat)
  (hi:PI X (.Name x B) iter wi)
  (hf:∀C s H ex pn,PF (Ib X a cl (x::cns) C s H ex pn) f tc) (he:∀C s H ex pn,PE (Ib X a cl (x::cns) C s H ex pn) r U) (hc:X.calm=true)
  (F:closureFor a X.env=pure cl) (hcl:AllIn X.env.cells cl) (P:wR X cns d)
  (O:a.kind=.function) (M:(a.names.all λp=>p.2 != .cell)=true) (L:(a.names.all λp=>p.2 != .free || (cl.lookup p.1).isSome)=true)
  (hcf:(cns.all λy=>a.names.lookup y == some .free)=true) (k:∀y∈a.names,y.2=.local->a.names.lookup y.1=some .local) (hx:a.names.lookup x=some .local) (hnd:(x::cns).Nodup)
  (hN:X.N.Nodup) (hiz:X.N[iz]? =some z) (hz:Loc X.env.scope z) (hfz:X.fn z=true\/X.env.scope.names.lookup z=some .local)
  (hsw:swapsWithSole [.Name z Z] (.ListComp r [⟨.Name x B,iter,f,0⟩] a n) S.line X.env=pure true) (hs:∀v,foldedSetIterable iter X.env v=pure v:=by intro _;rfl):
  PS X (.Assign [.Name z Z] (.ListComp r [⟨.Name x B,iter,f,0⟩] a n) S) (bz (tLC wi d tc U) (aN iz)):=by
 intro j s E H D I h;generalize hQ:(λv H1=>aN iz v E H1 D.nx)=Q;have h:tLC wi d tc U E H Q:=hQ ▸ h;rw[exec_Assign_arm];refine wpAny_bind (wpAny_standAt ?_);rw[hsw];refine wpAny_bind (wpAny_pure ?_);rw[if_pos rfl];refine wpAny_bind ?_
 suffices key:wpAny ς X.A (comprehension (.ListComp r [⟨.Name x B,iter,f,0⟩] a n) a X.env (firstIterPos [⟨.Name x B,iter,f,0⟩] n) (newList []) (firstAsync [⟨.Name x B,iter,f,0⟩]) (firstIter [⟨.Name x B,iter,f,0⟩] X.env) (some λv=>assignAll v ((assignEach [.Name z Z] X.env).map (·.2)))) (λ_ s'=>SP X j D .next s') X.xe s from
  wpAny_bind (wpAny_mono key (λ_ s' h=>wpAny_pure (wpAny_pure h)) λ_ _ h=>h)
 refine Zf2 (ns:=[x]) (gt:=aN 0) (R:=λJ E H Q=>LCg J d tc U E H Q) d (λJ E H Q h=>?_) hi (λC s H ex pn=>fH hnd rfl (.inl (lookup_relabel_local hx)) (.inr (lookup_relabel_local hx))) hf he hc F hcl P O M L hcf k hs I h λacc C s6 m r0 hm fCC fin=>?_
 ·obtain⟨W,w0,turn⟩:=h;refine⟨W,w0,λi m ys H hw=>(turn i m ys H hw).imp id λ⟨g,l,st⟩=>⟨g,l,λz H' y vs hv=>?_⟩⟩;obtain⟨v,rfl⟩:=List.length_eq_one_iff.mp hv;exact⟨[some z],rfl,⟨rfl,rfl⟩,st z H' y⟩
 obtain⟨v,Y,If,rf,V,K⟩:=fin s6.heap (Heap.SameBut.refl _ _);have t:pA X j Y C:=fCC K;obtain⟨oC,esC,epC,gC,dC,kC,nC⟩:=hm;have Ip:Inv X (j++[(C,oC)]) E Y s6:=Inv.zc If λp hp=>by
  rcases List.mem_append.mp hp with hp | hp
  ·exact If.pin p (List.mem_append_right _ hp)
  ·rw[List.mem_singleton.mp hp];exact⟨gC,t.1,t.2.1,t.2.2.1,λv z=>by rw[dC]at z;cases z⟩
 show wpAny _ _ (assign (.Name z Z) X.env (.ref acc)) _ _ _;refine wpAny_assign_Name (Cw Ip hN hiz hz rf (λs7 I7=>?_) hfz);have g7:=(I7.pin (C,oC) (List.mem_append_right _ (List.mem_append_right _ List.mem_cons_self))).1;refine⟨m,⟨oC,esC,epC,g7,dC,kC,nC⟩,λh' hs'=>?_⟩;have I8:=I7.Cu;have V:D.nx (E.set iz (some v)) Y:=by rw[<- hQ]at V;exact V
 have T:∀b o,b≠C->s7.heap.get? b=some o->h'.get? b=some o:=λb o hb e=>hs'.extBut b o hb e;refine⟨_,Y,I8.step (ch:=[C]) (λb hb=>?_) (λb o _ _ hb e _=>T b o (λz=>hb (by rw[z];exact List.mem_cons_self)) e) (λb o _ _ hb e _=>⟨o.slots,T b o (λz=>hb (by rw[z];exact List.mem_cons_self)) e⟩) (λ_ _ _ _ h=>h) (λb o hb e=>⟨o,T b o (λz=>hb (by rw[z];exact List.mem_cons_self)) e⟩) (λ_ _ h=>h) (λ_ _ _ h=>h) (λ_ ps h=>⟨#[],by simpa using h⟩) (λm' hm'=>?_) (λb u e=>?_) I8.bare,V⟩
 ·rw[List.mem_singleton.mp hb];exact⟨t.2.2.2.1,t.2.1,t.2.2.2.2.1,t.2.2.2.2.2⟩
 ·obtain⟨o',e1,e2,e3,e4,e5⟩:=hm';exact⟨o',e1,e2,T _ _ t.2.1.symm e3,e4,e5⟩
 ·refine(I8.hok b u e).stay (λc w' hc q=>T c w' ?_ q) (λ_ q=>q) λ_ _ q=>q;rintro rfl;rcases hc with rfl | hc
  ·rw[K]at e;cases e
  ·rw[K]at hc;cases hc
end G
namespace G
open PySem L2
def Ite(K:aD)(a:AI):It:=
 ⟨λi H=>∃xs x,cJ K H a xs/\xs[i]? =some x,λi H x H'=>∃t v,x=.ref t/\H t=none/\H'=upd H t (.tup [.int i,v])/\∀xs,cJ K H a xs->xs[i]? =some v,λi H=>∃xs,cJ K H a xs/\xs.length<=i⟩
def Qg(K:aD)(c:TA):TI:=λσ H R=>c σ H λvs b=>∃a,vs=[.ref a]/\(∃xs,cJ K b a xs)/\R (Ite K a) b
theorem Zw8{K:aD}{c:TA}{σ:L2.St}{H:Hp}{R:It->Hp->Prop}(h:c σ H λvs b=>∃a,vs=[.ref a]/\(∃xs,cJ K b a xs)/\R (Ite K a) b):Qg K c σ H R:=h
def HN(v d:AI):HO:=.ext λh=>h.IsItemsView v d
def Zbk(d:TE):TE:=λσ H Q=>d σ H λx b=>∃a c,x=.ref a/\Rd b a (.dK c)/\∀v,b v=none->Q (.ref v) (upd b v (HN v a))
theorem Zo8{d:TE}{σ:L2.St}{H:Hp}{Q:VK}(h:d σ H λx b=>∃a c,x=.ref a/\Rd b a (.dK c)/\∀v,b v=none->Q (.ref v) (upd b v (HN v a))):Zbk d σ H Q:=h
def Zba(H:Hp):AF->List (Key×V)->Prop
 | [],[]=>True
 | t::ts,kv::a=>H t=some (.tup [kV kv.1,kv.2])/\Zba H ts a
 | _,_=>False
def Zdq:List V->Hp->VK->Prop:=λxs H Q=>∃v a b,xs=[.ref v]/\H v=some (HN v a)/\Rd H a (.dK b)/\∀l ts H',H l=none->bx H H'->H' l=some (.lst (ts.map V.ref))->Zba H' ts b->Q (.ref l) H'
theorem Zo7{H:Hp}{Q:VK}{v a:AI}{b:List (Key×V)}(h1:H v=some (HN v a))(h2:Rd H a (.dK b))(h:∀l ts H',H l=none->bx H H'->H' l=some (.lst (ts.map V.ref))->Zba H' ts b->Q (.ref l) H'):Zdq [.ref v] H Q:=⟨v,a,b,rfl,h1,h2,h⟩
def Zof(a:List (Key×V)):V->Option Bool
 | .int i=>some (nO a (.inl i)).isSome
 | .str x=>some (nO a (.inr x)).isSome
 | .non=>some false
 | _=>none
def Zig(d:Bool)(ty g:TE):TE:=λσ H Q=>ty σ H λy f=>g σ f λx e=>∃a c b,x=.ref a/\Rd e a (.dK c)/\Zof c y=some b/\Q (.bl (if d then !b else b)) e
theorem Zry{d:Bool}{ty f:TE}{σ:L2.St}{H:Hp}{Q:VK}(h:ty σ H λy g=>f σ g λx e=>∃a c b,x=.ref a/\Rd e a (.dK c)/\Zof c y=some b/\Q (.bl (if d then !b else b)) e):Zig d ty f σ H Q:=h
section
variable {K:aD}{a:AI}{g:TG}{tb:TS}{σ:L2.St}{H:Hp}{n:L2.St->Hp->Prop}{r:VK}
theorem Zok(xs:List V)(Pv:Nat->L2.St->Hp->Prop)(j:Pv 0 σ H)(hl:∀i σ H,i<=xs.length->Pv i σ H->cJ K H a xs)
  (hs:∀i x t σ H,xs[i]? =some x->Pv i σ H->H t=none->g (.ref t) σ (upd H t (.tup [.int i,x])) λb d=>tb ⟨Pv (i+1),r,n,Pv (i+1)⟩ b d) (hd:∀ σ H,Pv xs.length σ H->n σ H):
  ∃W:Nat->Nat->L2.St->Hp->Prop,(∃m,W 0 m σ H)/\∀i m σ H,W i m σ H->
   ((Ite K a).stop i H/\n σ H)\/((Ite K a).go i H/\∃N:L2.St->Hp->Prop,(∀ c H',N c H'->∃f,f<m/\W (i+1) f c H')/\∀x H',(Ite K a).yld i H x H'->g x σ H' λb d=>tb ⟨N,r,n,N⟩ b d):=by
 refine⟨λi m σ H=>i<=xs.length/\m=xs.length - i/\Pv i σ H,⟨xs.length,Nat.zero_le _,rfl,j⟩,?_⟩;rintro i m σ H ⟨hi,rfl,p⟩;have hq:=hl i σ H hi p
 by_cases hk:i=xs.length
 ·subst hk;exact .inl ⟨⟨xs,hq,Nat.le_refl _⟩,hd σ H p⟩
 ·have e:i<xs.length:=δ
  have hx:xs[i]? =some xs[i]:=bL e;refine .inr ⟨⟨xs,_,hq,hx⟩,Pv (i+1),λc H' k=>⟨xs.length - (i+1),δ,δ,rfl,k⟩,?_⟩;rintro x H' ⟨t,v,rfl,h,rfl,hv⟩;exact hs i v t σ H (hv xs hq) p h
theorem Znx{d:List Nat}{tc:TT}{l:TE}{Q:VK}{xs:List V}(hs:cJ K H a xs)(hz:xs.length<=1000000)(W:Nat->List V->Hp->Prop)(r:W 0 [] H)(g:∀i c b,W i c b->bx H b/\c.length<=i)
  (step:∀i x c b t (C:List V->Hp->Prop),(∀f e,W (i+1) f e->C f e)->xs[i]? =some x->W i c b->b t=none->tc (some (.int i)::some x::d.map (pick σ)) (upd b t (.tup [.int i,x])) λk j=>if k=true then l (some (.int i)::some x::d.map (pick σ)) j (λy e=>C (c++[y]) e)else C c j)
  (q:∀c b,W xs.length c b->∀p,b p=none->Q (.ref p) (upd b p (.lst c))):Zp0 K (Ite K a) d tc l σ H Q:=by
 refine⟨λi m c b=>i<=xs.length/\m=xs.length - i/\W i c b,⟨xs.length,Nat.zero_le _,rfl,r⟩,?_⟩;rintro i m c b ⟨hi,rfl,w⟩;obtain⟨sm,hl⟩:=g i c b w;have hq:cJ K b a xs:=sm.seq hs
 by_cases hk:i=xs.length
 ·subst hk;exact .inl ⟨⟨xs,hq,Nat.le_refl _⟩,q c b w⟩
 ·have h:i<xs.length:=δ
  refine .inr ⟨⟨xs,_,hq,bL h⟩,Nat.lt_of_le_of_lt (show c.length<=1000000 by omega) (show 1000000<sizeLine by decide),?_⟩;rintro x u ⟨t,v,rfl,o,rfl,hv⟩;exact⟨t,_,_,rfl,fj.of ao,step i v c b t (λf e=>∃n,n<xs.length - i/\i+1<=xs.length/\n=xs.length - (i+1)/\W (i+1) f e) (λf e s=>⟨xs.length - (i+1),δ,δ,rfl,s⟩) (hv xs hq) w o⟩
end
end G
namespace G
open PySem L2 PySem.Spec PyProof.Rows
theorem Zh5{X:Cx}{pins:At}{σ:L2.St}{H:Hp}{s:AK}{h':Heap}{t':Nat}{e a:AI}(I:Inv X pins σ H s)(k:∀b u,b≠e->b≠a->s.heap.get? b=some u->h'.get? b=some u)(d:pA X pins H e)(f:pA X pins H a):
  Inv X pins σ H { s with heap:=h',toks:=t' }:=by
 have ne:∀b u,H b=some u->b≠e:=λb u q z=>by rw[z,d.1]at q;cases q
 have g:∀b u,H b=some u->b≠a:=λb u q z=>by rw[z,f.1]at q;cases q
 have nm:∀b,b∉[e,a]->b≠e/\b≠a:=λb hb=>⟨λz=>hb (by simp[z]),λz=>hb (by simp[z])⟩;refine I.step (g':=s.gens) (d':=s.drawn) (ch:=[e,a]) (λb hb=>?_) (λb o _ _ hc q _=>k b o (nm b hc).1 (nm b hc).2 q) (λb o _ _ hc q _=>⟨o.slots,k b o (nm b hc).1 (nm b hc).2 q⟩) (λ_ _ _ _ n=>n)
  (λb o hc q=>⟨o,k b o (nm b hc).1 (nm b hc).2 q⟩) (λ_ _ q=>q) (λ_ _ _ q=>q) (λb p q=>⟨#[],by rw[q];simp⟩) (λm hm=>?_) (λb u q=>?_) I.bare
 ·rcases List.mem_cons.mp hb with z | z
  ·rw[z];exact⟨d.2.2.2.1,d.2.1,d.2.2.2.2.1,d.2.2.2.2.2⟩
  ·have j:b=a:=by simpa using z
   rw[j];exact⟨f.2.2.2.1,f.2.1,f.2.2.2.2.1,f.2.2.2.2.2⟩
 ·obtain⟨o,i,h,l,r⟩:=hm;exact⟨o,i,h,k _ o (Ne.symm d.2.1) (Ne.symm f.2.1) l,r⟩
 ·refine(I.hok b u q).stay (λc v hc z=>?_) (λ_ z=>z) λ_ _ z=>z;rcases hc with y | y
  ·rw[y]at z ⊢;exact k b v (ne b u q) (g b u q) z
  ·exact k c v (ne c _ y) (g c _ y) z
theorem Qd{X:Cx}{pins:At}{σ:L2.St}{H:Hp}{s:AK}{h':Heap}{t':Nat}{e d a:AI}{o:HO}(I:Inv X pins σ H s)(k:∀b u,b≠e->b≠d->s.heap.get? b=some u->h'.get? b=some u)(f:pA X pins H e)(g:pA X pins H d)
  (j:s.heap.objs.size<=a) (new:gZ X.prog X.w (upd H a o) h' a o):Inv X pins σ (upd H a o) { s with heap:=h',toks:=t' }:=by
 have hn:=I.hok.fresh j;have ne:∀b u,H b=some u->b≠e:=λb u q z=>by rw[z,f.1]at q;cases q
 have i:∀b u,H b=some u->b≠d:=λb u q z=>by rw[z,g.1]at q;cases q
 have nm:∀b,b∉[e,d]->b≠e/\b≠d:=λb hb=>⟨λz=>hb (by simp[z]),λz=>hb (by simp[z])⟩;have l:∀b u,s.heap.get? b=some u->b≠a:=λb u q=>Nat.ne_of_lt (Nat.lt_of_lt_of_le (Heap.lt_size q) j);refine I.step (g':=s.gens) (d':=s.drawn) (ch:=[e,d]) (λb hb=>?_) (λb o _ _ hc q _=>k b o (nm b hc).1 (nm b hc).2 q) (λb o _ _ hc q _=>⟨o.slots,k b o (nm b hc).1 (nm b hc).2 q⟩) (λb u _ q n=>(aA (l b u q)).trans n)
  (λb o hc q=>⟨o,k b o (nm b hc).1 (nm b hc).2 q⟩) (λb h q=>(aA (aF q hn)).trans q) (λb o h q=>(aA (aF q hn)).trans q) (λb B q=>⟨#[],by rw[aA (aF q hn),q];simp⟩) (λm hm=>?_) (λb u q=>?_) I.bare
 ·rcases List.mem_cons.mp hb with z | z
  ·rw[z];exact⟨f.2.2.2.1,f.2.1,f.2.2.2.2.1,f.2.2.2.2.2⟩
  ·have x:b=d:=by simpa using z
   rw[x];exact⟨g.2.2.2.1,g.2.1,g.2.2.2.2.1,g.2.2.2.2.2⟩
 ·obtain⟨o,t,p,A,r⟩:=hm;exact⟨o,t,p,k _ o (Ne.symm f.2.1) (Ne.symm g.2.1) A,r⟩
 ·by_cases hb:b=a
  ·subst hb;rw[ao]at q;cases q;exact new
  ·rw[aA hb]at q;refine(I.hok b u q).stay (λc v hc z=>?_) (λc z=>by rw[aA (aF z hn)];exact z) λc h z=>by rw[aA (aF z hn)];exact z
   rcases hc with y | y
   ·rw[y]at z ⊢;exact k b v (ne b u q) (i b u q) z
   ·exact k c v (ne c _ y) (i c _ y) z
theorem Zg8{P:AM}{w:AO}{K:aD}{B:AG}{x1:Nat}{pt:Pos}(a e f:AI)(y:e≠f):
    Turn P w K (.Tuple B x1 pt) (Ite K a) [e,f] e (λi h=>(∃old,IsEnum h e f ((i:Nat):Int) old)/\h.IsListIter f a i) where
  mem:=ζ
  obj:=λi h st b hb=>by
    obtain⟨⟨old,j⟩,o,ho,c,d⟩:=st;rcases List.mem_cons.mp hb with z | z
    · rw[z];exact⟨_,j,λv z=>by cases z⟩
    · have T:b=f:=by simpa using z
      rw[T];exact⟨o,ho,λv z=>by rw[d]at z;cases z⟩
  keep:=λi h h' st k=>⟨let ⟨old,j⟩:=st.1;⟨old,k e ζ _ j⟩,st.2.at λo q=>k f ζ o q⟩
  item:=by
    intro X U J O hc i m s Z H E I C st N;subst U J O;obtain⟨xs,x,hq,hx⟩:=N;obtain⟨M,V,p,hz⟩:=I.list hq;obtain⟨u,hu,ru⟩:=V.get hx;obtain⟨⟨old,j⟩,l⟩:=st;have Y:=C e ζ;have fi:=C f ζ;have t:e<s.heap.objs.size:=Heap.lt_size j;have L:f<s.heap.objs.size:=by obtain⟨o,q,_⟩:=l;exact Heap.lt_size q
    refine wpAny_pyNext_enum_item j l p.isList (x:=u) (by simpa using hu) y λh1 F r R hz1 S=>?_;refine⟨_,rfl,wpAny_letOwnedTupleGo_enum (s:={ s with heap:=h1,toks:=s.toks+1 }) F λh2 D g=>?_⟩
    replace g:Heap.SameBut e h1 h2:=g
    have hn:H s.heap.objs.size=none:=I.hok.fresh Δ;have I2:Inv X m Z (upd H s.heap.objs.size (.tup [.int ((i:Nat):Int),x])) { s with heap:=h2,toks:=s.toks+1 }:=by
      refine Qd I (λb v hb n q=>g.extBut b v hb (S b v hb n q)) Y fi Δ ?_;refine⟨by show 2<=sizeLine;decide,[.int ((i:Nat):Int) s.toks,u],.cons ⟨_,rfl⟩ (.cons ru .nil),⟨_,g.extBut _ _ (Nat.ne_of_gt t) R,rfl,_,rfl⟩⟩
    refine⟨.ref s.heap.objs.size,_,I2,rfl,⟨_,x,rfl,hn,rfl,λys hy=>by rw[I.Za3 hy hq];exact hx⟩,⟨⟨u,?_⟩,r.extBut g.extBut (Ne.symm y)⟩,λb hb=>?_⟩
    · have e1:(((i+1:Nat)):Int)=(i:Int)+1:=δ
      show IsEnum h2 e f (((i+1:Nat)):Int) u;rw[e1];exact D
    · rcases List.mem_cons.mp hb with z | z
      · rw[z,aA (Nat.ne_of_lt t)];exact Y.1
      · have T:b=f:=by simpa using z
        rw[T,aA (Nat.ne_of_lt L)];exact fi.1
  done:=by
    intro X U J O hc i m s Z H E I C st N;subst U J O;obtain⟨xs,hq,hx⟩:=N;obtain⟨M,V,p,hz⟩:=I.list hq;obtain⟨⟨old,j⟩,l⟩:=st;have hl:=V.length;exact wpAny_pyNext_enum_end (I.ok.hd hc) j l p.isList (by simp;omega) λh' W=>⟨rfl,Zh5 (t':=s.toks) I (λb o _ n q=>W b o n q) (C e ζ) (C f ζ)⟩
  self:=λA i s Q E st h=>let ⟨_,j⟩:=st.1;wpAny_pyIter_enum j h
theorem DX{X:Cx}{f:AG}{u:Nat}{pt:Pos}{l:AN}{j:TA}{p g:Pos}(y:Gl X "enumerate")(hm:X.mg "enumerate"=none)(C:PA X [l] j)(hs:starEach [l] X.env=[(false,eval l X.env)]:=by rfl):
  PI X (.Tuple f u pt) (.Call (.Name "enumerate" p) [l] [] g) (Qg X.K j):=by
 intro c s k H R I h;refine Call_ (Pk I y hm boot_enumerate (PyProof.Rows.callWith_type1 (gM (C g c s k H _ I h) λus d qc=>?_) hs rfl));obtain⟨E,H1,I1,r1,q1⟩:=qc;obtain⟨a,e,⟨D,hq⟩,q⟩:=q1;subst e;cases r1 with
 | cons r t=>
  cases t;obtain rfl:_=Value.ref a:=r;obtain⟨x,F,w,hz⟩:=I1.list hq;refine call_enumerate_list w.isList λo m i v hk=>?_;have B:Inv X c k H1 { d with heap:=o }:=I1.kept (t':=d.toks) hk
  refine wpAny_pyIter_enum (s:={ d with heap:=o }) m ?_;have n:∀b,d.heap.objs.size<=b->pA X c H1 b:=λb hb=>I1.Zdb hb (I1.hok.fresh hb);refine⟨_,[d.heap.objs.size+1,d.heap.objs.size],_,_,H1,rfl,B,Zg8 a _ _ (Nat.succ_ne_self _),⟨⟨_,m⟩,i⟩,λb hb=>?_,q⟩;rcases List.mem_cons.mp hb with z | z
  ·rw[z];exact n _ (Nat.le_succ _)
  ·have A:b=d.heap.objs.size:=by simpa using z
   rw[A];exact n _ Δ
theorem Zh6{X:Cx}{pins:At}{σ:L2.St}{H:Hp}{s:AK}{a:AI}{o:HO}(I:Inv X pins σ H s)(f:pA X pins H a)(new:gZ X.prog X.w (upd H a o) s.heap a o):Inv X pins σ (upd H a o) s:=by
 have hn:=f.1;have r:Inv X pins σ (upd H a o) { s with heap:=s.heap,gens:=s.gens,drawn:=s.drawn,toks:=s.toks }:=by
  refine I.step (g':=s.gens) (t':=s.toks) (d':=s.drawn) (ch:=[a]) (λb hb=>?_) (λb u _ _ _ q _=>q) (λb u _ _ _ q _=>⟨u.slots,q⟩) (λb u hc q n=>(aA (λz=>hc (by simp[z]))).trans n) (λb u _ q=>⟨u,q⟩)
   (λb d q=>(aA (aF q hn)).trans q) (λb u d q=>(aA (aF q hn)).trans q) (λb e q=>⟨#[],by rw[aA (aF q hn),q];simp⟩) (λm hm=>hm) (λb u q=>?_) I.bare
  ·have z:b=a:=by simpa using hb
   rw[z];exact⟨f.2.2.2.1,f.2.1,f.2.2.2.2.1,f.2.2.2.2.2⟩
  ·by_cases hb:b=a
   ·subst hb;rw[ao]at q;cases q;exact new
   ·rw[aA hb]at q;exact(I.hok b u q).stay (λc v _ z=>z) (λc z=>by rw[aA (aF z hn)];exact z) λc d z=>by rw[aA (aF z hn)];exact z
 exact r
theorem Zda{X:Cx}{pins:At}{H:Hp}{a b:AI}{o:HO}(f:pA X pins H b)(h:b≠a):pA X pins (upd H a o) b:=⟨(aA h).trans f.1,f.2⟩
theorem Ztk{P:AM}{w:AO}{k:Key}{u:AJ}(h:(dH P w).is k u=true):RelV (kV k) u:=by
 rcases dI h with ⟨i,t,rfl,rfl⟩ | ⟨x,t,rfl,rfl⟩
 ·exact⟨t,rfl⟩
 ·exact⟨t,rfl⟩
theorem Zjm{X:Cx}{o:AN}{l:TE}{d c:Pos}(j:PE X o l)(f:attributeBase o "items" X.env (eval o X.env)=eval o X.env:=by rfl)(g:(d.endLine == c.line)=true:=by rfl):
  PE X (.Call (.Attribute o "items" d) [] [] c) (Zbk l):=by
 intro i s n H Q I h;refine wpAny_Call_method0_late f g (gM (j i s n H _ I h) λu m qc=>?_);obtain⟨x,H1,I1,rx,a,kvs,ex,rd,q⟩:=qc;subst ex;obtain rfl:u=Value.ref a:=rx;obtain⟨t1,t2,hd⟩:=Zl3 I1 (.inl ⟨kvs,rd⟩);obtain⟨z,_,p,rel,dd⟩:=Gw I1.hok rd;refine⟨"dict","dict.items",PySem.F.plainAttrs_dict,PySem.F.slot_dict_items,PySem.F.type_dict_items,t1,t2,Calls.callWith_builtin rfl (PySem.evalArgs_none ?_)⟩;refine call_meetsIn PySem.F.slot_dict_items t1 PySem.F.entry_dict_items (PySem.F.args_dict_items_1 _) (meets_dict_items (dH X.prog X.w) a hd) ⟨⟨p,dd⟩,?_⟩;have hn:=I1.hok.fresh Δ;refine⟨.ref m.heap.objs.size,_,I1.laid (t':=m.toks) (λb u e=>Heap.get?_push_of_some _ e) Δ ?_,rfl,q _ hn⟩;exact⟨⟨_,Heap.get?_push_size _ rfl,rfl,rfl⟩,⟨_,Heap.get?_push_size _ rfl⟩,(by rintro h1 h2 ⟨o,j,r⟩ k;exact⟨o,k o j,r⟩)⟩
theorem Je{X:Cx}{pins:At}{σ:L2.St}{s:AK}:∀(as:AF) (c:List (Key×V)) (vs:List (Key×AJ)) (H:Hp),Inv X pins σ H s->as.Nodup->(∀a∈as,pA X pins H a)->as.length=c.length->KV c vs->
  (∀(j:Nat) (a:AI),as[j]? =some a->∃d k x,vs[j]? =some (k,x)/\(dH X.prog X.w).is k d=true/\s.heap.get? a=some { cls:=.type "tuple",data:=.seq #[d,x] })->
  ∃H',Inv X pins σ H' s/\bx H H'/\Zba H' as c
 | [],[],_,H,I,_,_,_,_,_=>⟨H,I,λ_ _ h=>h,trivial⟩
 | [],_::_,_,_,_,_,_,hl,_,_=>by simp at hl
 | _::_,[],_,_,_,_,_,hl,_,_=>by simp at hl
 | a::as,f::c,vs,H,I,nd,i,hl,r,m=>by
  cases r with
  | cons C rs=>
   rename_i q v
   obtain⟨d,k,x,e,hk,B⟩:=m 0 a rfl;have D:q=(k,x):=by simpa using e
   subst D;obtain⟨y,n⟩:=C;have l:=i a ζ;have t:a∉as:=(List.nodup_cons.mp nd).1;have g:f.1=k:=y;have u:Inv X pins σ (L2.upd H a (.tup [kV f.1,f.2])) s:=Zh6 I l ⟨by show 2<=sizeLine;decide,[d,x],.cons (by rw[g];exact Ztk hk) (.cons n .nil),⟨_,B,rfl,_,rfl⟩⟩;obtain⟨H',p,sm,A⟩:=Je as c v _ u (List.nodup_cons.mp nd).2 (λb hb=>Zda (i b (by simp[hb])) λz=>t (z ▸ hb)) (by simpa using hl) rs (λj b hb=>by simpa using m (j+1) b (by simpa using hb));refine⟨H',p,λb o hb=>sm b o ?_,sm _ _ ao,A⟩;rw[aA (aF hb l.1)];exact hb
theorem UW:∀as:AF,Vals (as.map V.ref) (as.map Value.ref)
 | []=>.nil
 | _::as=>.cons rfl (UW as)
theorem Zdp{X:Cx}(hc:X.calm=true):Kv X (.type "list") Zdq:=by
 intro g s x H J us Q I r h;obtain⟨v,a,m,rfl,hv,D,q⟩:=h;obtain⟨u,rfl,B⟩:=Vals.one r;obtain rfl:u=Value.ref v:=B;have k:s.heap.IsItemsView v a:=(show gZ X.prog X.w H s.heap v (HN v a)from I.hok v _ hv).1;obtain⟨z,hd,A,rel,dd⟩:=Gw I.hok D;obtain⟨F,hm⟩:=dd.dictAt;have hl:=rel.length;refine W.kdx_call (I.ok.hd hc) k hm (by rw[<- hl];exact z) λE tk l c d hk C i e f=>?_;have hn:=I.hok.fresh (Nat.le_refl s.heap.objs.size);have t:Inv X g x (upd H s.heap.objs.size (.lst (d.map V.ref))) { s with heap:=E,toks:=tk }:=by
  refine I.laid hk Δ ⟨by rw[bA,i,<- hl];exact z,l.toList,c,by rw[f];exact UW d,by rw[Array.toArray_toList];exact C⟩
 have nd:d.Nodup:=e.rise.imp λh=>Nat.ne_of_lt h;obtain⟨n,p,sm,y⟩:=Je d m A _ t nd (λb hb=>Zda (I.Zdb (Nat.le_of_lt (e.above b hb)) (I.hok.fresh (Nat.le_of_lt (e.above b hb)))) (Nat.ne_of_gt (e.above b hb))) (by rw[i,hl]) rel (λj b hb=>e.pairs j b hb);refine⟨.ref s.heap.objs.size,n,p,rfl,q _ d n hn (λb o hb=>sm b o ?_) (sm _ _ ao) y⟩;rw[aA (aF hb hn)];exact hb
theorem Zlo{X:Cx}{pins:At}{σ:L2.St}{H:Hp}{s:AK}{a:AI}{o:Obj}{d:List (Key×V)}(I:Inv X pins σ H s)(h:H a=some (.dK d))(f:s.heap.get? a=some o):Inv X pins σ (upd H a (.uh o (.dK d))) s:=by
 have ne:∀b u,H b=some u->u≠.dK d->b≠a:=λb u q n z=>n (by rw[z,h]at q;exact(Option.some.inj q).symm);have r:Inv X pins σ (upd H a (.uh o (.dK d))) { s with heap:=s.heap,gens:=s.gens,drawn:=s.drawn,toks:=s.toks }:=by
  refine I.step (g':=s.gens) (t':=s.toks) (d':=s.drawn) (ch:=[]) (λb hb=>nomatch hb) (λb u _ _ _ q _=>q) (λb u _ _ _ q _=>⟨u.slots,q⟩) (λb u hc q n=>(aA (λz=>by rw[z,h]at n;cases n)).trans n) (λb u _ q=>⟨u,q⟩)
   (λb e q=>(aA (ne b _ q aI)).trans q) (λb u e q=>(aA (ne b _ q aI)).trans q) (λb g q=>⟨#[],by rw[aA (ne b _ q aI),q];simp⟩) (λm hm=>hm) (λb u q=>?_) I.bare
  have hs:∀c u,H c=some u->u≠.dK d->upd H a (.uh o (.dK d)) c=some u:=λc u z n=>by rw[aA (ne c u z n)];exact z
  by_cases hb:b=a
  ·subst hb;rw[ao]at q;cases q;exact⟨f,(I.hok b _ h).stay (λc v _ z=>z) (λc z=>hs c _ z (λy=>by cases y)) λc e z=>hs c _ z (λy=>by cases y)⟩
  ·rw[aA hb]at q;exact(I.hok b u q).stay (λc v _ z=>z) (λc z=>hs c _ z (λy=>by cases y)) λc e z=>hs c _ z (λy=>by cases y)
 exact r
def Zrb:Option Key->AJ->Bool
 | none,.none=>true
 | none,_=>false
 | some k,v=>Fy k v
theorem jk{k:Option Key}{v:AJ}(h:Zrb k v=true):(k=none/\v=.none)\/∃j,k=some j/\Fy j v=true:=by
 cases k with
 | none=>cases v<;>first | exact .inl ⟨rfl,rfl⟩ | cases h
 | some j=>exact .inr ⟨j,rfl,h⟩
theorem Pr{j:Key}(h:Fy j Value.none=true):False:=by
 rcases dI h with ⟨i,t,_,e⟩ | ⟨x,t,_,e⟩<;>cases e
def Zr0(P:AM)(w:AO):PySem.KeyKind P w (Option Key) where
  is:=Zrb
  hash:=λk=>match k with | none=>reduceHash 0xFCA86420 | some k=>Ztj w k
  inj:=λv a b c hb=>by
    rcases jk c with ⟨rfl,rfl⟩ | ⟨i,rfl,h1⟩
    · rcases jk hb with ⟨rfl,_⟩ | ⟨j,rfl,h2⟩
      · rfl
      · exact(Pr h2).elim
    · rcases jk hb with ⟨rfl,rfl⟩ | ⟨j,rfl,h2⟩
      · exact(Pr h1).elim
      · rw[(dH P w).inj v i j h1 h2]
  byValue:=λk v h=>by
    rcases jk h with ⟨rfl,rfl⟩ | ⟨i,rfl,h1⟩
    · rfl
    · exact(dH P w).byValue i v h1
  pyHash:=λ{A E s k v Q} hv h=>by
    rcases jk hv with ⟨rfl,rfl⟩ | ⟨i,rfl,h1⟩
    · exact W.pyHash_slot (T:="NoneType") rfl F.slot_NoneType_hash F.entry_NoneType_hash (F.args_NoneType_hash_1 _) (beq_builtin_none _) (.inl rfl) (wpAny_bind (wpAny_pure (wpAny_bind (wpAny_mkInt (wpAny_pure ⟨_,_,rfl,h⟩)))))
    · exact(dH P w).pyHash h1 h
  eqBool:=λ{A E s a b u v Q} hu hv h=>by
    rcases jk hu with ⟨rfl,rfl⟩ | ⟨i,rfl,h1⟩
    · rcases jk hv with ⟨rfl,rfl⟩ | ⟨j,rfl,h2⟩
      · exact u5 (A:=A) (s:=s) (y:=.non) (x:=.non) rfl rfl rfl rfl P w E Q h
      · rcases dI h2 with ⟨n,t,rfl,rfl⟩ | ⟨x,t,rfl,rfl⟩
        · exact u5 (A:=A) (s:=s) (y:=.non) (x:=.int n) rfl ⟨t,rfl⟩ rfl rfl P w E Q h
        · exact u5 (A:=A) (s:=s) (y:=.non) (x:=.str x) rfl ⟨t,rfl⟩ rfl rfl P w E Q h
    · rcases jk hv with ⟨rfl,rfl⟩ | ⟨j,rfl,h2⟩
      · rcases dI h1 with ⟨n,t,rfl,rfl⟩ | ⟨x,t,rfl,rfl⟩
        · exact u5 (A:=A) (s:=s) (y:=.int n) (x:=.non) ⟨t,rfl⟩ rfl rfl rfl P w E Q h
        · exact u5 (A:=A) (s:=s) (y:=.str x) (x:=.non) ⟨t,rfl⟩ rfl rfl rfl P w E Q h
      · refine(dH P w).eqBool h1 h2 ?_
        have e:decide (i=j)=decide (some i=some j):=by
          by_cases z:i=j
          · subst z;simp
          · rw[decide_eq_false z,decide_eq_false (λy=>z (Option.some.inj y))]
        rw[e];exact h
  «strs»:=λk x t v h=>by
    rcases jk h with ⟨_,e⟩ | ⟨i,rfl,h1⟩
    · cases e
    · exact(dH P w).strs i x t v h1
theorem Zka{P:AM}{w:AO}{h:Heap}{a:AI}{vs:List (Key×AJ)}(dd:h.DictOf (dH P w) a vs):∃f,h.MapOf (Zr0 P w) a f/\f none=none:=by
 obtain⟨o,c,d,g,hc,hd,hk,hp,hn⟩:=dd;refine⟨λk=>findBy (Zr0 P w).is c k,⟨o,c,d,g,hc,hd,λe b=>?_,λ_=>rfl⟩,?_⟩
 ·obtain⟨k,h1,h2⟩:=hk e b;exact⟨some k,h1,h2⟩
 ·show Option.map (λx=>x.val) (Array.find? (λe=>Zrb none e.key) c)=none;rw[Option.map_eq_none_iff,Array.find?_eq_none];intro e b;obtain⟨k,h1,_⟩:=hk e b;rcases dI h1 with ⟨n,t,_,z⟩ | ⟨x,t,_,z⟩<;>rw[z]<;>exact λy=>nomatch y
section
variable {X:Cx}{i o:AN}{ty td:TE}
theorem Zd5{a:List (Key×V)}{y:V}{b:Bool}(h:Zof a y=some b):(∃k,y=kV k/\b=(nO a k).isSome)\/(y=.non/\b=false):=by
 cases y<;>simp only[Zof,Option.some.injEq]at h<;>first | cases h
 ·exact .inr ⟨rfl,rfl⟩
 ·exact .inl ⟨.inl _,rfl,rfl⟩
 ·exact .inl ⟨.inr _,rfl,rfl⟩
theorem Zc9(hu:X.A.units+1<cLine)(hi:PE X i ty)(l:PE X o td):PC X .NotIn i o (Zig true ty td):=by
 intro c s d H Q I h;refine gM (hi c s d H _ I h) λiv g qc=>?_;obtain⟨y,H1,I1,ry,h1⟩:=qc;refine gM (l c g d H1 _ I1 h1) λj n qc=>?_;obtain⟨x,H2,I2,rx,a,kvs,b,ex,rd,hb,q⟩:=qc;subst ex;obtain rfl:j=Value.ref a:=rx;rcases Zd5 hb with ⟨k,rfl,rfl⟩ | ⟨rfl,rfl⟩
 ·exact Zfl hu I2 (.inl ⟨kvs,k,rd,rfl,rfl⟩) ry λp e=>⟨.bl _,H2,e,rfl,q⟩
 ·obtain rfl:iv=Value.none:=ry;obtain⟨z,hd,r,rel,dd⟩:=Gw I2.hok rd;obtain⟨f,hm,m⟩:=Zka dd;refine wpAny_notIn_of (knd:=Zr0 X.prog X.w) (k:=none) rfl hd hm ?_;rw[m];exact⟨.bl _,H2,I2.tok _,rfl,q⟩
end
section
variable {X:Cx}
end
section
variable {X:Cx}
end
def Zic(M1 M2 d f:AJ->Prop)(tb:(L2.St->XK)->TS)(t1 t2 e c:TS):TS:=λD σ H=>tb (λa b _ H'=>(M1 b/\t1 D a H')\/(M2 b/\t2 D a H')\/(d b/\e D a H')\/(f b/\c D a H')) D σ H
theorem Zl5{M1 M2 g i:AJ->Prop}{tb:(L2.St->XK)->TS}{t1 t2 f e:TS}{σ:L2.St}{H:Hp}{n:L2.St->Hp->Prop}{r:VK}{b c:L2.St->Hp->Prop}(h:tb (λa d _ H'=>(M1 d/\t1 ⟨n,r,b,c⟩ a H')\/(M2 d/\t2 ⟨n,r,b,c⟩ a H')\/(g d/\f ⟨n,r,b,c⟩ a H')\/(i d/\e ⟨n,r,b,c⟩ a H')) ⟨n,r,b,c⟩ σ H):Zic M1 M2 g i tb t1 t2 f e ⟨n,r,b,c⟩ σ H:=h
section
variable {X:Cx}{x1 x2 x3 x4:Str}{C1 C2 C3 C4:AI}{pos np1 np2 np3 np4 hp1 hp2 hp3 hp4:Pos}{body su1 su2 su3 su4:List Stmt}{b1 b2 b3 b4:Stmt}{M1 M2 M3 M4:AJ->Prop}{tb:(L2.St->XK)->TS}{t1 t2 t3 t4:TS}
theorem Zn8(C:X.stack=X.env::X.outer/\X.env.frame=some X.env.locals)(r:Gl X x1)(u:X.mg x1=↑C1)(L:Gl X x2)(F:X.mg x2=↑C2)(R:Gl X x3)(P:X.mg x3=↑C3)(hg4:Gl X x4)(hm4:X.mg x4=↑C4)(hM1:∀c,M1 c->W.exmOne X.K c (.ref C1)=some true)(hM2:∀c,M2 c->W.exmOne X.K c (.ref C1)=some false/\W.exmOne X.K c (.ref C2)=some true)(hM3:∀c,M3 c->W.exmOne X.K c (.ref C1)=some false/\W.exmOne X.K c (.ref C2)=some false/\W.exmOne X.K c (.ref C3)=some true)(hM4:∀c,M4 c->W.exmOne X.K c (.ref C1)=some false/\W.exmOne X.K c (.ref C2)=some false/\W.exmOne X.K c (.ref C3)=some false/\W.exmOne X.K c (.ref C4)=some true)
  (hb:∀(E:L2.St->XK) (pn:At) (xe:Ap),Zg2 (Cp X.prog X.w) (cxB X pn xe) E->Ri (cxB X pn xe) body (tb E))
  (hs1:∀(b:AJ) (pn:At),Ri (LR X b pn) (b1::su1) t1) (hs2:∀(b:AJ) (pn:At),Ri (LR X b pn) (b2::su2) t2) (hs3:∀(b:AJ) (pn:At),Ri (LR X b pn) (b3::su3) t3) (hs4:∀(b:AJ) (pn:At),Ri (LR X b pn) (b4::su4) t4) (t:(x1 == ("__debug__":Str))=false:=by decide) (M:(x2 == ("__debug__":Str))=false:=by decide) (Q:(x3 == ("__debug__":Str))=false:=by decide) (hd4:(x4 == ("__debug__":Str))=false:=by decide):
  PS X (.Try body [.ExceptHandler (some (.Name x1 np1)) none (b1::su1) hp1,.ExceptHandler (some (.Name x2 np2)) none (b2::su2) hp2,.ExceptHandler (some (.Name x3 np3)) none (b3::su3) hp3,.ExceptHandler (some (.Name x4 np4)) none (b4::su4) hp4] [] [] pos) (Zic M1 M2 M3 M4 tb t1 t2 t3 t4):=by
 intro a s o H D I h;refine wpAny_Try_except ?_;have hx:Zg2 (Cp X.prog X.w) (cxB X (X.pn++a) λe s'=>∃ o H s,Inv X a o H s/\Cp X.prog X.w X.stack H s (λd _ n=>(M1 d/\t1 D o n)\/(M2 d/\t2 D o n)\/(M3 d/\t3 D o n)\/(M4 d/\t4 D o n)) e s') (λy d _ n=>(M1 d/\t1 D y n)\/(M2 d/\t2 D y n)\/(M3 d/\t3 D y n)\/(M4 d/\t4 D y n)):=
  λpl o H s e s' J z=>⟨o,H,s,Oo I.ok J,z⟩
 refine wpAny_mono (hb _ _ _ hx [] s o H D (Zq2 I _) h) (λf s1 q=>?_) λe s1 q=>?_
 ·have q:=Zq7 I.ok q;cases f with
  | next=>exact wpAny_execs_nil q
  | ret v=>exact q
  | brk=>exact q
  | cont=>exact q
 ·obtain⟨p,H1,s0,J,b,d,a0,B,U,rfl,os,bare,un,ok,fl,O,x⟩:=q;have S:=fl;rw[C.1]at S;refine wpAny_looks_onW (C.1 ▸ J.ok.frames) C.2 S λh4 Zug Z=>?_;refine wpAny_landsW Zug λh5 l sm5=>?_;have m:s1.heap.UpToSlots h5:=Z.trans sm5;have g:=flown J os bare un ok fl O l.1 m;obtain⟨ob,hob,hoc⟩:=id l.there;have LT:W.Looks ς h5 (typeOf (.ref b)) d:=hoc ▸ (W.Looks.ld hob).andThen .now;rcases x with ⟨x,k⟩ | ⟨x,k⟩ | ⟨x,k⟩ | ⟨x,k⟩
  ·have N:=hM1 d x;refine wpAny_handleBy_cons (codeAny_handlers_test (gG (X:=LR X (.ref b) (X.pn++a)) (j9 g (.ref b)) r u ?_ t)) (by intro z;cases z);refine(W.exm_one g.qt LT N).here ?_;refine codeAny_handlers_suite ?_;refine lands_againW l λY i j=>?_;have A:=flown J os bare un ok fl O i.1 (m.trans j);refine wpAny_mono (hs1 (.ref b) (X.pn++a) [] _ p U D (j9 A (.ref b)) k) (λf V q=>WX I.ok q) λ_ _ z=>z.elim
  ·obtain⟨N,T⟩:=hM2 d x;refine wpAny_handleBy_cons (codeAny_handlers_test (gG (X:=LR X (.ref b) (X.pn++a)) (j9 g (.ref b)) r u ?_ t)) (by intro z;cases z);refine(W.exm_one g.qt LT N).here ?_;refine wpAny_handleBy_cons (codeAny_handlers_test (gG (X:=LR X (.ref b) (X.pn++a)) (j9 g (.ref b)) L F ?_ M)) (by intro z;cases z);refine(W.exm_one g.qt LT T).here ?_;refine codeAny_handlers_suite ?_;refine lands_againW l λY i j=>?_;have A:=flown J os bare un ok fl O i.1 (m.trans j);refine wpAny_mono (hs2 (.ref b) (X.pn++a) [] _ p U D (j9 A (.ref b)) k) (λf V q=>WX I.ok q) λ_ _ z=>z.elim
  ·obtain⟨N,T,m3⟩:=hM3 d x;refine wpAny_handleBy_cons (codeAny_handlers_test (gG (X:=LR X (.ref b) (X.pn++a)) (j9 g (.ref b)) r u ?_ t)) (by intro z;cases z);refine(W.exm_one g.qt LT N).here ?_;refine wpAny_handleBy_cons (codeAny_handlers_test (gG (X:=LR X (.ref b) (X.pn++a)) (j9 g (.ref b)) L F ?_ M)) (by intro z;cases z);refine(W.exm_one g.qt LT T).here ?_;refine wpAny_handleBy_cons (codeAny_handlers_test (gG (X:=LR X (.ref b) (X.pn++a)) (j9 g (.ref b)) R P ?_ Q)) (by intro z;cases z);refine(W.exm_one g.qt LT m3).here ?_;refine codeAny_handlers_suite ?_;refine lands_againW l λY i j=>?_;have A:=flown J os bare un ok fl O i.1 (m.trans j);refine wpAny_mono (hs3 (.ref b) (X.pn++a) [] _ p U D (j9 A (.ref b)) k) (λf V q=>WX I.ok q) λ_ _ z=>z.elim
  ·obtain⟨N,T,m3,m4⟩:=hM4 d x;refine wpAny_handleBy_cons (codeAny_handlers_test (gG (X:=LR X (.ref b) (X.pn++a)) (j9 g (.ref b)) r u ?_ t)) (by intro z;cases z);refine(W.exm_one g.qt LT N).here ?_;refine wpAny_handleBy_cons (codeAny_handlers_test (gG (X:=LR X (.ref b) (X.pn++a)) (j9 g (.ref b)) L F ?_ M)) (by intro z;cases z);refine(W.exm_one g.qt LT T).here ?_;refine wpAny_handleBy_cons (codeAny_handlers_test (gG (X:=LR X (.ref b) (X.pn++a)) (j9 g (.ref b)) R P ?_ Q)) (by intro z;cases z);refine(W.exm_one g.qt LT m3).here ?_;refine wpAny_handleBy_cons (codeAny_handlers_test (gG (X:=LR X (.ref b) (X.pn++a)) (j9 g (.ref b)) hg4 hm4 ?_ hd4)) (by intro z;cases z);refine(W.exm_one g.qt LT m4).here ?_;refine codeAny_handlers_suite ?_;refine lands_againW l λY i j=>?_;have A:=flown J os bare un ok fl O i.1 (m.trans j);refine wpAny_mono (hs4 (.ref b) (X.pn++a) [] _ p U D (j9 A (.ref b)) k) (λf V q=>WX I.ok q) λ_ _ z=>z.elim
end
end G
namespace G
open PySem L2
end G
namespace G
open PySem L2 PySem.Spec PyProof.Rows
def Jc(v d:AI):HO:=.ext λh=>h.IsValuesView v d
def Zib(d:TE):TE:=λσ H Q=>d σ H λx b=>∃a c,x=.ref a/\Rd b a (.dK c)/\∀v,b v=none->Q (.ref v) (upd b v (Jc v a))
theorem Zrf{d:TE}{σ:L2.St}{H:Hp}{Q:VK}(h:d σ H λx b=>∃a c,x=.ref a/\Rd b a (.dK c)/\∀v,b v=none->Q (.ref v) (upd b v (Jc v a))):Zib d σ H Q:=h
theorem Zgp{X:Cx}{o:AN}{l:TE}{d c:Pos}(j:PE X o l)(f:attributeBase o "values" X.env (eval o X.env)=eval o X.env:=by rfl)(g:(d.endLine == c.line)=true:=by rfl):
  PE X (.Call (.Attribute o "values" d) [] [] c) (Zib l):=by
 intro i s n H Q I h;refine wpAny_Call_method0_late f g (gM (j i s n H _ I h) λu m qc=>?_);obtain⟨x,H1,I1,rx,a,kvs,ex,rd,q⟩:=qc;subst ex;obtain rfl:u=Value.ref a:=rx;obtain⟨t1,t2,hd⟩:=Zl3 I1 (.inl ⟨kvs,rd⟩);obtain⟨z,_,p,rel,dd⟩:=Gw I1.hok rd;refine⟨"dict","dict.values",PySem.F.plainAttrs_dict,PySem.F.slot_dict_values,PySem.F.type_dict_values,t1,t2,Calls.callWith_builtin rfl (PySem.evalArgs_none ?_)⟩;refine call_meetsIn PySem.F.slot_dict_values t1 PySem.F.entry_dict_values (PySem.F.args_dict_values_1 _) (meets_dict_values (dH X.prog X.w) a hd) ⟨⟨p,dd⟩,?_⟩;have hn:=I1.hok.fresh Δ;refine⟨.ref m.heap.objs.size,_,I1.laid (t':=m.toks) (λb u e=>Heap.get?_push_of_some _ e) Δ ?_,rfl,q _ hn⟩;exact⟨⟨_,Heap.get?_push_size _ rfl,rfl,rfl⟩,⟨_,Heap.get?_push_size _ rfl⟩,(by rintro h1 h2 ⟨o,j,r⟩ k;exact⟨o,k o j,r⟩)⟩
def Itv(a:AI)(o:Obj)(b:List (Key×V)):It:=
 ⟨λi H=>H a=some (.uh o (.dK b))/\i<b.length,λi H x H'=>H'=H/\∃kv,b[i]? =some kv/\x=kv.2,λi H=>H a=some (.uh o (.dK b))/\b.length<=i⟩
def Zla(d:TE):TI:=λσ H R=>d σ H λx c=>∃v a b,x=.ref v/\c v=some (Jc v a)/\c a=some (.dK b)/\∀o,R (Itv a o b) (upd c a (.uh o (.dK b)))
theorem Zw5{d:TE}{σ:L2.St}{H:Hp}{R:It->Hp->Prop}(h:d σ H λx c=>∃v a b,x=.ref v/\c v=some (Jc v a)/\c a=some (.dK b)/\∀o,R (Itv a o b) (upd c a (.uh o (.dK b)))):Zla d σ H R:=h
theorem Zgr{a b:Type}{R:a->b->Prop}{xs:List a}{c:List b}(p:Paired R xs c):∀(i:Nat) x y,xs[i]? =some x->c[i]? =some y->R x y:=by
 induction p with
 | nil=>
  intro i x y h;simp at h
 | cons r rs ih=>
  intro i x y h1 h2;cases i with
  | zero=>
   cases h1;cases h2;exact r
  | succ i=>exact ih i _ _ (by simpa using h1) (by simpa using h2)
theorem Zg6{P:AM}{w:AO}{K:aD}{tg:AN}(a p:AI)(o:Obj)(f:List (Key×V))(y:Nat)(u:∃O,o.data=.dict O y):Turn P w K tg (Itv a o f) [p] p (λi h=>h.IsValIter p a i f.length y) where
  mem:=ζ
  obj:=λi h st b hb=>by
    have e:b=p:=by simpa using hb
    subst e;obtain⟨o,e,c,d⟩:=st;exact⟨o,e,λv z=>by rw[d]at z;cases z⟩
  keep:=λi h B st k=>by
    obtain⟨o,e,r⟩:=st;exact⟨o,k p ζ o e,r⟩
  item:=by
    intro X R C L hc i m s W H E I A st J;subst R C L;obtain⟨hz,hi⟩:=J;obtain⟨S,z,hd,g,rel,dd⟩:s.heap.get? a=some o/\f.length<=sizeLine/\(a == sysModules)=false/\∃g,KV f g/\s.heap.DictOf (dH X.prog X.w) a g:=I.hok a _ hz;obtain⟨q,hm⟩:=dd.dictAt;obtain⟨O,n⟩:=u;have M:q=y:=by
      obtain⟨Y,N,j,_,l,_⟩:=id hm;rw[S]at j;cases j;rw[n]at l;injection l with _ e;exact e.symm
    subst M;have hl:=rel.length;have hv:g[i]? =some g[i]:=bL δ;have t:f[i]? =some f[i]:=bL hi;have hk:RelV f[i].2 g[i].2:=(Zgr rel i _ _ t hv).2;obtain⟨F,D,f2,Q,U,T⟩:=A p ζ;rw[hl]at st;refine wpAny_pyNext_values_item st hm (k:=g[i].1) (v:=g[i].2) (by rw[hv]) λB x sb=>?_;have Z:Inv X m W H { s with heap:=B }:=I.turned (t':=s.toks) (λb o hb e=>(sb.2 b hb).trans e) F D Q U T;obtain⟨oi,e,c,d⟩:=id x;exact⟨_,rfl,Zli (s:={ s with heap:=B }) e c d ε ⟨f[i].2,H,Z,hk,⟨rfl,_,t,rfl⟩,by rw[hl];exact x,λb hb=>(A b hb).1⟩⟩
  done:=by
    intro X R C L hc i m s W H E I A st J;subst R C L;obtain⟨hz,hi⟩:=J;obtain⟨S,z,hd,g,rel,dd⟩:s.heap.get? a=some o/\f.length<=sizeLine/\(a == sysModules)=false/\∃g,KV f g/\s.heap.DictOf (dH X.prog X.w) a g:=I.hok a _ hz;obtain⟨q,hm⟩:=dd.dictAt;obtain⟨O,n⟩:=u;have M:q=y:=by
      obtain⟨Y,N,j,_,l,_⟩:=id hm;rw[S]at j;cases j;rw[n]at l;injection l with _ e;exact e.symm
    subst M;have hl:=rel.length;obtain⟨F,D,f2,Q,U,T⟩:=A p ζ;rw[hl]at st;exact wpAny_pyNext_values_end (I.ok.hd hc) st hm (by rw[List.getElem?_eq_none];omega) λB eb=>⟨rfl,I.turned (t':=s.toks) (λb o hb e=>eb b o hb e) F D Q U T⟩
  self:=λ_ _ _ _ _ st h=>wpAny_pyIter_valiter st h
theorem Zna{X:Cx}{tg:AN}{e:AN}{l:TE}(n:PE X e l):PI X tg e (Zla l):=by
 intro d s m H R I h;refine gM (n d s m H _ I h) λu c qc=>?_;obtain⟨x,H1,I1,r1,q1⟩:=qc;obtain⟨v,a,j,e,hv,hq,q⟩:=q1;subst e;obtain rfl:u=Value.ref v:=r1;have g:c.heap.IsValuesView v a:=(I1.hok v _ hv).1;obtain⟨z,hs,w,rel,dd⟩:=Zpr I1.hok hq;obtain⟨p,hm⟩:=dd.dictAt;obtain⟨o,r,k,_,f,_⟩:=id hm;refine wpAny_pyIter_values g hm ?_;have t:=Zlo I1 hq k;have i:c.heap.objs.size≠a:=Nat.ne_of_gt (Heap.lt_size k);refine⟨c.heap.objs.size,[c.heap.objs.size],_,_,_,rfl,t.kept (t':=c.toks) λb o e=>Heap.get?_push_of_some _ e,Zg6 a _ o j p ⟨r,f⟩,?_,λb hb=>?_,q o⟩
 ·rw[rel.length];exact⟨_,Heap.get?_push_size _ rfl,rfl,rfl⟩
 ·have e:b=c.heap.objs.size:=by simpa using hb
  subst e;exact Zda (I1.Zdb Δ (I1.hok.fresh Δ)) i
theorem Zg9{X:Cx}{pins:At}{σ:L2.St}{H:Hp}{s:AK}{a:AI}{o:Obj}{d:List (Key×V)}(I:Inv X pins σ H s)(h:H a=some (.uh o (.dK d)))(hn:∀w u,X.H₀ a≠some (.uh w u)):Inv X pins σ (upd H a (.dK d)) s:=by
 have ne:∀b u,H b=some u->u≠.uh o (.dK d)->b≠a:=λb u q n z=>n (by rw[z,h]at q;exact(Option.some.inj q).symm);have j:∀b,H b=none->upd H a (.dK d) b=none:=λb q=>(aA (λz=>by rw[z,h]at q;cases q)).trans q;have hs:∀c u,H c=some u->u≠.uh o (.dK d)->upd H a (.dK d) c=some u:=λc u z n=>by rw[aA (ne c u z n)];exact z
 obtain⟨i1,i2,E,f,F,m,t,D,r,g,l⟩:=I;refine⟨i1,i2,E,⟨f.keep,f.slot,λb ob e n hx=>j b (f.free b ob e n hx),f.there,λb k e=>hs b _ (f.tups b k e) aI,λb ob u e=>(aA (a:=a) (b:=b) (λz=>hn ob u (by rw[<- z];exact e))).trans (f.HY b ob u e),λb B e=>?_⟩,F,m,j _ t,λx c e=>j _ (D x c e),λp hp=>?_,λb u q=>?_,l⟩
 ·obtain⟨i,q⟩:=f.Kw b B e;exact⟨i,hs b _ q aI⟩
 ·obtain⟨A,C,J⟩:=r p hp;exact⟨A,j _ C,J⟩
 ·by_cases hb:b=a
  ·subst hb;rw[ao]at q;cases q;exact(g b _ h).2.stay (λc v _ z=>z) (λc z=>hs c _ z (λy=>by cases y)) λc k z=>hs c _ z (λy=>by cases y)
  ·rw[aA hb]at q;exact(g b u q).stay (λc v _ z=>z) (λc z=>hs c _ z (λy=>by cases y)) λc k z=>hs c _ z (λy=>by cases y)
def Zid(e:Hp)(d:TE):TE:=λσ H Q=>d σ H λx c=>∃a o b,c a=some (.uh o (.dK b))/\(∀f u,e a≠some (.uh f u))/\Q x (upd c a (.dK b))
theorem Zrg{e:Hp}{c:TE}{σ:L2.St}{H:Hp}{Q:VK}(h:c σ H λx d=>∃a o b,d a=some (.uh o (.dK b))/\(∀f u,e a≠some (.uh f u))/\Q x (upd d a (.dK b))):Zid e c σ H Q:=h
theorem Znb{X:Cx}{e:AN}{c:TE}(f:PE X e c):PE X e (Zid X.H₀ c):=by
 intro b s d H Q I h;refine gM (f b s d H _ I h) λu g qc=>?_;obtain⟨x,H1,I1,r1,a,o,kvs,ha,hn,q⟩:=qc;exact⟨x,_,Zg9 I1 ha hn,r1,q⟩
def Zq4(K:aD)(a:TE):TT:=λσ H Q=>a σ H λx H'=>∃k,Zmd K x H' k/\Q k H'
theorem Zpi{K:aD}{a:TE}{σ:L2.St}{H:Hp}{Q:Bool->Hp->Prop}(h:a σ H λx H'=>∃k,Zmd K x H' k/\Q k H'):Zq4 K a σ H Q:=h
theorem Zt1{K:aD}{H:Hp}{a:AI}{xs:List V}{P:Bool->Prop}(h:cJ K H a xs)(q:P (!xs.isEmpty)):∃k,Zmd K (.ref a) H k/\P k:=⟨_,.inl ⟨xs,h,rfl⟩,q⟩
theorem Zs3{i:Nat}{c x:Int}{f:Int->Int->Int}{n:L2.St->Hp->Prop}{r:VK}{b ct:L2.St->Hp->Prop}{σ:L2.St}{H:Hp}(e:σ[i]? =some (some (.int x)))(h:n (σ.set i (some (.int (f x c)))) H):Zq5 i (tC (.int c)) (ipI f) ⟨n,r,b,ct⟩ σ H:=⟨_,e,x,c,rfl,rfl,h⟩
def Zm9(K:aD):List V->Hp->VK->Prop:=λxs H Q=>∃p a,xs=[.ref p]/\(cJ K H p a\/fj K H p a)/\∀l,H l=none->Q (.ref l) (upd H l (.lst a))
theorem Zo6{K:aD}{H:Hp}{Q:VK}{p:AI}{a:List V}(h1:fj K H p a)(h:∀l,H l=none->Q (.ref l) (upd H l (.lst a))):Zm9 K [.ref p] H Q:=⟨p,a,rfl,.inr h1,h⟩
def Dq(K:aD)(H:Hp):Nat->V->V->Prop
 | 0,x,y=>x=y/\nF x=true
 | d+1,x,y=>(x=y/\nF x=true)\/∃a b,x=.ref a/\y=.ref b/\(a=b\/∃xs c,((cJ K H a xs/\cJ K H b c)\/(fj K H a xs/\fj K H b c))/\Al (Dq K H d) xs c)
def Zqf(K:aD)(c:Bool):R2:=λx y H Q=>∃a b xs d,x=.ref a/\y=.ref b/\((cJ K H a xs/\cJ K H b d)\/(fj K H a xs/\fj K H b d))/\Al (Dq K H 6) xs d/\Q (.bl (!c)) H
section
variable {X:Cx}
theorem Zap{x:V}(h:nF x=true):eqV x x=true:=by
 cases x with
 | non=>rfl
 | bl b=>cases b<;>rfl
 | int i=>exact beq_self_eq_true i
 | str z=>exact beq_self_eq_true z
 | _=>cases h
theorem Zum{pins:At}{σ:L2.St}{H:Hp}{s:AK}(I:Inv X pins σ H s):∀(d:Nat) {A:Around}{x y:V}{u v:AJ},A.units+d<cLine->RelV x u->RelV y v->Dq X.K H d x y->SeqAt.EqAt A s u v true:=by
 intro d
 induction d with
 | zero=>
  intro A x y u v hu l m h;obtain⟨rfl,i⟩:=h;have:=u5 (A:=A) (s:=s) l m i i;rw[Zap i]at this;exact this
 | succ d ih=>
  intro A x y u v hu l m h;rcases h with ⟨rfl,i⟩ | ⟨a,b,rfl,rfl,h⟩
  ·have:=u5 (A:=A) (s:=s) l m i i;rw[Zap i]at this;exact this
  ·obtain rfl:u=Value.ref a:=l;obtain rfl:v=Value.ref b:=m
   by_cases e:a=b
   ·subst e;exact SeqAt.EqAt.same _
   rcases h with rfl | ⟨o,n,hs,al⟩
   ·exact absurd rfl e
   ·refine SeqAt.EqAt.of_refs e ?_;have hl:=al.length;have k:A.units<cLine:=δ
    have item:∀{us c:AC},Vals o us->Vals n c->∀(j:Nat) (h1:j<us.toArray.size) (h2:j<c.toArray.size),SeqAt.EqAt A.in1 s us.toArray[j] c.toArray[j] true:=by
     intro us c r1 r2 j h1 h2;rw[List.size_toArray]at h1 h2;have D:=r1.length;have l2:=r2.length;have a1:o[j]? =some o[j]:=bL δ;have a2:n[j]? =some n[j]:=bL δ;obtain⟨C,r,t⟩:=r1.get a1;obtain⟨F,q,B⟩:=r2.get a2;rw[bL h1]at r;rw[bL h2]at q;cases r;cases q;obtain⟨E,e3,w⟩:=al.get a2;rw[a1]at e3;cases e3;exact ih (A:=A.in1) (by show A.units+1+d<cLine;omega) t B w
    rcases hs with ⟨p,hb⟩ | ⟨p,hb⟩
    ·obtain⟨us,r1,f,_⟩:=I.list p;obtain⟨c,r2,g,_⟩:=I.list hb;have:=SeqAt.RcAt.lists (A:=A) (e:=λ_=>true) f.isList g.isList (by rw[List.size_toArray,List.size_toArray,<- r1.length,<- r2.length];exact hl) k (λj h1 h2=>item r1 r2 j h1 h2);rw[show(List.range us.toArray.size).all (λ_=>true)=true from by rw[List.all_eq_true];intros;rfl]at this;exact this
    ·obtain⟨us,r1,f,_⟩:=I.tuple p;obtain⟨c,r2,g,_⟩:=I.tuple hb;have z:us.toArray.size=c.toArray.size:=by rw[List.size_toArray,List.size_toArray,<- r1.length,<- r2.length];exact hl
     have:=SeqAt.RcAt.tuples (A:=A) (e:=λ_=>true) f g k (λj h1 h2=>item r1 r2 j h1 h2);rw[show(List.range (min us.toArray.size c.toArray.size)).all (λ_=>true)=true from by rw[List.all_eq_true];intros;rfl,z]at this;simpa using this
theorem Wg{pins:At}{σ:L2.St}{H:Hp}{s:AK}(I:Inv X pins σ H s){A:Around}(hu:A.units+8<cLine){xs a:List V}{us b:AC}(al:Al (Dq X.K H 6) xs a)(r1:Vals xs us)(r2:Vals a b)(j:Nat)(h1:j<us.toArray.size)(h2:j<b.toArray.size):SeqAt.EqAt A.in1 s us.toArray[j] b.toArray[j] true:=by
 rw[List.size_toArray]at h1 h2;have i:=r1.length;have l2:=r2.length;have a1:xs[j]? =some xs[j]:=bL δ;have a2:a[j]? =some a[j]:=bL δ;obtain⟨h,d,e⟩:=r1.get a1;obtain⟨l,c,g⟩:=r2.get a2;rw[bL h1]at d;rw[bL h2]at c;cases d;cases c;obtain⟨k,e3,f⟩:=al.get a2;rw[a1]at e3;cases e3;exact Zum I 6 (A:=A.in1) (by show A.units+1+6<cLine;omega) e g f
theorem Zjy(hu:X.A.units+64<cLine):wQ X (compareOp .NotEq) (Zqf X.K true):=by
 intro f s l H x y v u Q I g i h;obtain⟨p,k,m,n,rfl,rfl,hs,al,q⟩:=h;obtain rfl:v=Value.ref p:=g;obtain rfl:u=Value.ref k:=i;have hl:=al.length;rcases hs with ⟨d,hb⟩ | ⟨d,hb⟩
 ·obtain⟨us,r1,a,_⟩:=I.list d;obtain⟨c,r2,b,_⟩:=I.list hb;have:=SeqAt.RcNeAt.lists (A:=X.A) (s:=s) (e:=λ_=>true) a.isList b.isList (by rw[List.size_toArray,List.size_toArray,<- r1.length,<- r2.length];exact hl) δ (Wg I δ al r1 r2);rw[show(List.range us.toArray.size).all (λ_=>true)=true from by rw[List.all_eq_true];intros;rfl]at this;exact this _ _ _ _ ⟨.bl _,H,I,rfl,q⟩
 ·obtain⟨us,r1,a,_⟩:=I.tuple d;obtain⟨c,r2,b,_⟩:=I.tuple hb;have j:us.toArray.size=c.toArray.size:=by rw[List.size_toArray,List.size_toArray,<- r1.length,<- r2.length];exact hl
  have:=SeqAt.RcNeAt.tuples (A:=X.A) (s:=s) (e:=λ_=>true) a b δ (Wg I δ al r1 r2);rw[show(List.range (min us.toArray.size c.toArray.size)).all (λ_=>true)=true from by rw[List.all_eq_true];intros;rfl,j]at this;simp only[beq_self_eq_true,Bool.and_self]at this;exact this _ _ _ _ ⟨.bl _,H,I,rfl,q⟩
end
def Zbj(t:TE):TO:=λσ H Q=>t σ H λx a=>(x=.non/\Q none a)\/∃i,x=.int i/\Q (some i) a
theorem Zo1{b:TE}{σ:L2.St}{H:Hp}{Q:AA->Hp->Prop}(h:b σ H λx a=>(x=.non/\Q none a)\/∃i,x=.int i/\Q (some i) a):Zbj b σ H Q:=h
theorem Zqk{X:Cx}{e:AN}{b:TE}(h:PE X e b):PO X (some e) (Zbj b):=by
 intro a s d H Q I c;rw[evalPart_some];refine gM (h a s d H _ I c) λu f qc=>?_;obtain⟨x,H1,I1,r1,q1⟩:=qc;rcases q1 with ⟨rfl,q⟩ | ⟨i,rfl,q⟩
 ·cases r1;exact⟨none,H1,I1,.none,q⟩
 ·obtain⟨t,rfl⟩:=r1;exact⟨some i,H1,I1,.int i t,q⟩
structure FnH(P:AM)(w:AO)(K:aD)(mg:As)(base:Heap)(CX:Y5)(k:Nat)(f:AI)(fd:AL)(ps:AH)(sp:Sp):Prop where
 len:∀vs H Q E,sp vs H Q E->vs.length=ps.length
 run:∀(A:Around) (ea:AJ) (outer:List Env) (s:AK) (H:Hp) (args:Args) (us:AC) (vs:List V) (Q:VK) (E:XK),Room k A->Y0 P w K mg base (A.mark (some ea)) outer s H->BindsTo s fd args (ps.zip us)->Vals vs us->sp vs H Q E->
  codeAny (model P w) (A.mark (some ea)) (.call (.ref f) args) (CR CX outer P w H s Q E) s
structure HhH(P:AM)(w:AO)(K:aD)(mg:As)(base:Heap)(n:Nat)(f:AI)(fd:AL)(ps:AH)(sp:Sp):Prop where
 g:FnH P w K mg base (Cp P w) n f fd ps sp
 b:Binds K fd ps []
 k:W.keepIn K (.ref f)=true
theorem Zwr{P:AM}{w:AO}{K:aD}{mg:As}{base:Heap}{x a:Str}{st:Stmt}{f:AI}{fd:AL}{N ps:AH}{k:Nat}{sp:Sp}(F:Fun K x a st f fd)(S:aO N ps (aC st))(len:∀vs H Q E,sp vs H Q E->vs.length=ps.length)
  (i:∀(c h:AJ) (A:Around) (outer:List Env) (s:AK) (H:Hp) (vs:List V) (Q:VK) (E:XK),Room k (A.deeper (envOfC a (aC st) s.heap.objs.size f c))->sp vs H Q E->
   ∃t,Ri (LR (yF (Cp P w) P w K mg base N a (aC st) f c A outer s H E) h []) (fJ st) t/\t { nx:=λ_ H'=>Q .non H',rt:=Q } (start N vs) H):FnH P w K mg base (Cp P w) (k+1) f fd ps sp:=by
 obtain⟨oc,od,kV,R,Y,X,c,ct,M,rfl,lk,B⟩:=F.ex;refine⟨len,λA h outer s H L us vs Q E hr d hb r l=>?_⟩;have hl:=len _ _ _ _ l;have D:K.In s.heap:=d.mod.kin.keeps λb o e=>(d.bs b o e).1;have m:s.heap.NoLimit:=d.mod.nolimit.keeps λb o e=>(d.bs b o e).1;have j:∀y∈ps.zip us,(aC st).names.lookup y.1=some .local\/((aC st).names.lookup y.1=some .cell/\((cellsFrom ah (aC st).names []).lookup y.1).isSome=true):=λ⟨n,v⟩ hy=>by
  rcases S.par n (List.of_mem_zip hy).1 with q | q
  ·exact .inl q
  ·exact .inr ⟨q,W.cellsFrom_some _ _ _ (.inl q)⟩
 refine codeAny_call_function (show(A.mark (some h)).depth<recursionLimit from hr.depth) (D _ _ lk) rfl S.co S.gen rfl (W.codeRec_of D B) (hb _ _ _ _ ?_);refine wpAny_newFunctionEnv_cells S.kind j λenv U C y=>?_;subst U;refine⟨m.keeps y.toInCall.keep,codeAny_func ?_⟩;obtain⟨t,T,hq⟩:=i c h A outer s H vs Q E (hr.deeper _) l;have O:Y0 P w K mg base A outer s H:=⟨d.frames,d.mod,d.bs,d.bsz,d.ug,d.frf,d.hok,d.bare⟩;have I:Inv (LR (yF (Cp P w) P w K mg base N a (aC st) f c A outer s H E) h []) [] (start N vs) H C:=j9 (pins:=[]) (VF S hr.hd O hl r y) h;refine wpAny_mono (T [] C (start N vs) H _ I hq) (λfl p hs=>?_) λe p hs=>hs.elim;have fin:∀{g:L2.St}{H':Hp}{v:V}{u:AJ},Inv (LR (yF (Cp P w) P w K mg base N a (aC st) f c A outer s H E) h []) [] g H' p->RelV v u->Q v H'->CE outer P w H s Q u p:=
  λ{g H' v u} J z q=>⟨v,H',J.os,J.bare,J.base,J.hok,z,q⟩
 cases fl with
 | ret u=>
  obtain⟨v,g,H',J,z,q⟩:=hs;exact fin J z q
 | next=>
  obtain⟨g,H',J,q⟩:=hs;exact fin (v:=V.non) (u:=Value.none) J rfl q
 | brk=>
  obtain⟨_,_,_,q⟩:=hs;exact False.elim q
 | cont=>
  obtain⟨_,_,_,q⟩:=hs;exact False.elim q
theorem DY{X:Cx}{n k:Nat}{f:AI}{fd:AL}{ps:AH}{sp:Sp}{x:Str}{p c:Pos}{e:AN}{d:AG}{t:TA}{i:AJ}{pn:At}(F:HhH X.prog X.w X.K X.mg X.base n f fd ps sp)(hr:Room k X.A)(hm:X.mg x=↑f)
  (C:PA (LR X i pn) (e::d) t) (hn:n<=k:=by decide) (z:X.env.kindOf x=some .globalImplicit:=by rfl) (l:(x == ("__debug__":Str))=false:=by decide) (B:starEach (e::d) X.env=(false,eval e X.env)::starEach d X.env:=by rfl) (m:(backTo c (starEach d X.env)).any (·.1)=false:=by rfl):
  PE (LR X i pn) (.Call (.Name x p) (e::d) [] c) (aX sp [] E0 t):=by
 intro a s o H Q I h;refine wpAny_Call_Name_kw (gG I z hm ?_ l);refine W.callWith_K (h₀:=X.base) I.ok.mod.kin F.k (gM (C c a s o H _ I h) λus j ⟨v,H1,I1,r,q⟩=>⟨I1.qt,?_⟩) B m;have r2:Vals (v++[]) (us++[]):=r.append .nil;have hl:(us++[]).length=ps.length:=by rw[<- r2.length];exact F.g.len _ _ _ _ q
 refine wpAny_call (codeAny_mono (F.g.run X.A i X.stack j H1 ⟨us,[]⟩ (us++[]) (v++[]) _ E0 (hr.mono hn) I1.env0 (F.b j us I1.qt hl) r2 q) λr y hq=>?_);cases r with
 | error e=>exact cZ (X:=LR X i pn) a o H1 j e y I1 hq
 | ok fl=>
  cases fl with
  | ret u=>exact I1.after hq
  | next=>exact False.elim hq
  | brk=>exact False.elim hq
  | cont=>exact False.elim hq
section
variable {X:Cx}{pins:At}{σ:L2.St}{H:Hp}{s:AK}{h':Heap}{t':Nat}{ch:AF}
end
structure Zd(z TI TO i1 i2:AI):Prop where
 TIz:TI≠z
 TOz:TO≠z
 i1z:i1≠z
 i2z:i2≠z
 TITO:TI≠TO
 TIi1:TI≠i1
 TIi2:TI≠i2
 TOi1:TO≠i1
 TOi2:TO≠i2
 i12:i1≠i2
section
variable {K:aD}{a b:AI}{g:TG}{tb:TS}{σ:L2.St}{H:Hp}{n:L2.St->Hp->Prop}{r:VK}
end
end G
local macro_rules|`(tactic|walk_at"g2")=>`(tactic|with_reducible refine G.Zo1 ?_)
local macro_rules|`(tactic|walk_at"g2")=>`(tactic|with_reducible first|refine G.Zw5 ?_|refine G.Zrg ?_|refine G.Zpi ?_|refine G.Zw8 ?_|refine G.Zo8 ?_|refine G.Zry ?_)
local macro_rules|`(tactic|walk_at"g2")=>`(tactic|with_reducible first|refine G.Zd4 ?_|refine G.Zak ?_|refine G.Zd3 ?_|refine G.Zd2 ?_|refine G.Zl5 ?_|refine G.Zrf ?_)
local macro_rules|`(tactic|walk_at"g2")=>`(tactic|with_reducible first|refine G.Zo5 ?_|refine G.Zts ?_|refine G.Zrz ?_|refine G.Zl9 ?_|refine G.Zrx ?_|refine G.Zrp ?_)
local macro_rules|`(tactic|walk_at"g2")=>`(tactic|with_reducible first|refine G.Zu3 ?_|refine G.Qf ?_|refine G.Zob ?_|refine G.Zo0 ?_|refine G.Zoc ?_|refine G.Zrv ?_)
local macro_rules|`(tactic|walk_at"g2")=>`(tactic|with_reducible first|refine G.Zwc ?_|refine G.Zwb ?_|refine G.Zwa ?_|refine G.Zw9 ?_|refine G.Zu5 ?_|refine G.Zu4 ?_)
local macro_rules|`(tactic|walk_at"g2")=>`(tactic|with_reducible first|refine G.Zto ?_|refine G.Zwg ?_|refine G.Zu2 ?_|refine G.Zwf ?_|refine G.Zwe ?_|refine G.Zwd ?_)
local macro_rules|`(tactic|walk_at"g2")=>`(tactic|with_reducible first|refine G.Zvu ?_|refine G.Zvt ?_|refine G.Zvs ?_|refine G.Zvr ?_|refine G.Ztq ?_|refine G.Ztp ?_)
local macro_rules|`(tactic|walk_at"g2")=>`(tactic|with_reducible first|refine G.Zw0 ?_|refine G.Zvz ?_|refine G.Zvy ?_|refine G.Zvx ?_|refine G.Zvw ?_|refine G.Zvv ?_)
local macro_rules|`(tactic|walk_at"g2")=>`(tactic|with_reducible first|refine G.Zw4 ?_|refine G.Zw2 ?_|refine G.Zwh ?_|refine G.Zu6 ?_|refine G.Zw7 ?_|refine G.Zw6 ?_)
local macro_rules|`(tactic|walk_at"g2")=>`(tactic|with_reducible first|refine G.Zro ?_|refine G.Zu7 ?_|refine G.Zri ?_|refine G.Zrn ?_|refine G.Zl7 ?_|refine G.Zrj ?_)
local macro_rules|`(tactic|walk_at"g2")=>`(tactic|with_reducible first|refine G.Ztx ?_|refine G.Zs1 ?_|refine G.Zu0 ?_|refine G.Ztr ?_|refine G.Zs2 ?_|refine G.Zwj ?_)
local macro_rules|`(tactic|walk_at"g2")=>`(tactic|with_reducible first|refine G.Zo3 ?_|refine G.Zo2 ?_|refine G.Zd1 ?_|refine G.Ym ?_|refine G.Zo9 ?_|refine G.Zoa ?_)
local macro_rules|`(tactic|walk_at"g2")=>`(tactic|with_reducible first|refine G.Zty ?_|refine G.Zrt ?_|refine G.Zrs ?_|refine G.Zrr ?_|refine G.Zrq ?_|refine G.Zo4 ?_)
local macro_rules|`(tactic|walk_at"g2")=>`(tactic|with_reducible first|refine G.Zrk ?_|refine G.Zwi ?_|refine G.i_U ?_|refine G.Zu9 ?_|refine G.Zu8 ?_|refine G.Ztz ?_)
local macro_rules|`(tactic|walk_at"g2")=>`(tactic|with_reducible first|refine G.Ztt ?_|refine G.Zub ?_|refine G.Ztw ?_|refine G.Zpj ?_|refine G.Zs4 ?_|refine G.Ztv ?_)
local macro_rules|`(tactic|walk_at"g2")=>`(tactic|with_reducible first|refine G.Zua ?_|refine G.i_C ?_|refine G.Zw3 ?_|refine G.Zw1 ?_|refine G.i_B ?_|refine G.Zrh ?_)
local macro_rules|`(tactic|walk_at"g2")=>`(tactic|with_reducible first|refine G.Zrl ?_|refine G.Zod ?_|refine G.Zs0 ?_|refine G.Zrw ?_|refine G.Ztu ?_|refine G.Zru ?_)
local macro_rules|`(tactic|walk_at"g1")=>`(tactic|walk_at"g2")
local macro_rules|`(tactic|walk_at"g1")=>`(tactic|with_reducible refine G.VG ?_)
local macro_rules | `(tactic| walk_at "ne")=>`(tactic| first | assumption | (exact Ne.symm (by assumption)) | exact L2.aF (by assumption) (by assumption) | exact Ne.symm (L2.aF (by assumption) (by assumption)) | exact Nat.ne_of_lt (by assumption))
local macro_rules | `(tactic| walk_at "hp")=>`(tactic| first | assumption | exact L2.ao | (refine Eq.trans (L2.aA ?hne) ?_;(case hne=>walk_at "ne");walk_at "hp"))
local macro_rules | `(tactic| walk_at"d")=>`(tactic| first | omega | decide | (show (_:Int)<_;decide) | exact ⟨ε,ε⟩ | exact ⟨ε,ε,ε⟩ | (unfold L2.qy;omega) | exact .inl (by unfold L2.qy;omega))
local macro_rules | `(tactic| walk_at"e")=>`(tactic| repeat (first | walk_at "g1" | ((with_reducible refine G.i_I ?hc ?_);(case hc=>walk_at"d"))))
local macro_rules | `(tactic| walk_at"s")=>`(tactic| repeat (first | walk_at "g2" | ((with_reducible refine G.i_I ?hc ?_);(case hc=>walk_at"d"))))
local macro_rules | `(tactic| walk_at"c")=>`(tactic| simp only [List.map_cons,List.map_nil,G.pick,List.getElem?_cons_zero,List.getElem?_cons_succ])
local macro_rules | `(tactic| apply $e)=>`(tactic| (walk_at"e";refine $e))
local macro_rules | `(tactic| exists $e,*)=>`(tactic| (walk_at"e";refine⟨$e,*, ?_⟩))
local macro_rules | `(tactic| ext)=>`(tactic| walk_at"e")
local macro_rules | `(tactic| left)=>`(tactic| walk_at"s")
local macro_rules | `(tactic| right)=>`(tactic| (have h2:=(Except.ok.inj h);rw[<- (Prod.mk.inj h2).2]))
namespace Tz
open PySem L2 G
def jH(birth:Int)(bulk:Int)(tone:Int)(load:Int)(fa:AI):List (Str×V):=[("birth",.int birth),("bulk",.int bulk),("tone",.int tone),("load",.int load),("fields",.ref fa)]
theorem fW{birth:Int}{bulk:Int}{tone:Int}{load:Int}{fa:AI}:List.lookup ("birth":Str) (jH birth bulk tone load fa)=some (.int birth:V):=rfl
theorem Ti{birth:Int}{bulk:Int}{tone:Int}{load:Int}{fa:AI}:List.lookup ("bulk":Str) (jH birth bulk tone load fa)=some (.int bulk:V):=rfl
theorem Th{birth:Int}{bulk:Int}{tone:Int}{load:Int}{fa:AI}:List.lookup ("tone":Str) (jH birth bulk tone load fa)=some (.int tone:V):=rfl
theorem Bl{birth:Int}{bulk:Int}{tone:Int}{load:Int}{fa:AI}:List.lookup ("load":Str) (jH birth bulk tone load fa)=some (.int load:V):=rfl
theorem jq{birth:Int}{bulk:Int}{tone:Int}{load:Int}{fa:AI}:List.lookup ("fields":Str) (jH birth bulk tone load fa)=some (.ref fa:V):=rfl
theorem Qz{birth:Int}{bulk:Int}{tone:Int}{load:Int}{fa:AI}(y:Int):bU "tone" (.int y) (jH birth bulk tone load fa)=jH birth bulk y load fa:=rfl
theorem QB{birth:Int}{bulk:Int}{tone:Int}{load:Int}{fa:AI}(y:Int):bU "load" (.int y) (jH birth bulk tone load fa)=jH birth bulk tone y fa:=rfl
theorem Zm8{birth:Int}{bulk:Int}{tone:Int}{load:Int}{fa:AI}:(bU "fields" (.ref fa) (bU "load" (.int load) (bU "tone" (.int tone) (bU "bulk" (.int bulk) (bU "birth" (.int birth) [])))))=jH birth bulk tone load fa:=rfl
theorem qb{birth:Int}{bulk:Int}{tone:Int}{load:Int}{fa:AI}:List.lookup ("units":Str) (jH birth bulk tone load fa)=none:=rfl
theorem BL{birth:Int}{bulk:Int}{tone:Int}{load:Int}{fa:AI}:List.lookup ("has_field":Str) (jH birth bulk tone load fa)=none:=rfl
def je(room:Int)(ca:AI)(used:Int)(born:Int):List (Str×V):=[("room",.int room),("cells",.ref ca),("used",.int used),("born",.int born)]
theorem Td{room:Int}{ca:AI}{used:Int}{born:Int}:List.lookup ("room":Str) (je room ca used born)=some (.int room:V):=rfl
theorem cj{room:Int}{ca:AI}{used:Int}{born:Int}:List.lookup ("cells":Str) (je room ca used born)=some (.ref ca:V):=rfl
theorem rQ{room:Int}{ca:AI}{used:Int}{born:Int}:List.lookup ("used":Str) (je room ca used born)=some (.int used:V):=rfl
theorem Te{room:Int}{ca:AI}{used:Int}{born:Int}:List.lookup ("born":Str) (je room ca used born)=some (.int born:V):=rfl
theorem yx{room:Int}{ca:AI}{used:Int}{born:Int}(y:Int):bU "used" (.int y) (je room ca used born)=je room ca y born:=rfl
theorem Qh{room:Int}{ca:AI}{used:Int}{born:Int}(y:Int):bU "born" (.int y) (je room ca used born)=je room ca used y:=rfl
theorem Zle{room:Int}{ca:AI}{used:Int}{born:Int}:(bU "born" (.int born) (bU "used" (.int used) (bU "cells" (.ref ca) (bU "room" (.int room) []))))=je room ca used born:=rfl
theorem S8{room:Int}{ca:AI}{used:Int}{born:Int}:List.lookup ("make":Str) (je room ca used born)=none:=rfl
theorem Yp{room:Int}{ca:AI}{used:Int}{born:Int}:List.lookup ("lay":Str) (je room ca used born)=none:=rfl
theorem Tc{room:Int}{ca:AI}{used:Int}{born:Int}:List.lookup ("back":Str) (je room ca used born)=none:=rfl
theorem S9{room:Int}{ca:AI}{used:Int}{born:Int}:List.lookup ("free":Str) (je room ca used born)=none:=rfl
theorem Qi{room:Int}{ca:AI}{used:Int}{born:Int}:List.lookup ("there":Str) (je room ca used born)=none:=rfl
def Fx(lk:AI)(tl:Int):List (Str×V):=[("looking",.ref lk),("tells",.int tl)]
theorem fL{lk:AI}{tl:Int}:List.lookup ("looking":Str) (Fx lk tl)=some (.ref lk:V):=rfl
theorem gY{lk:AI}{tl:Int}:List.lookup ("tells":Str) (Fx lk tl)=some (.int tl:V):=rfl
theorem Zl1{lk:AI}{tl:Int}:(bU "tells" (.int tl) (bU "looking" (.ref lk) []))=Fx lk tl:=rfl
theorem Pq{lk:AI}{tl:Int}:List.lookup ("words":Str) (Fx lk tl)=none:=rfl
def Zf7(nm:Str)(sa:AI):List (Str×V):=[("name",.str nm),("slots",.ref sa)]
theorem pZ{nm:Str}{sa:AI}:List.lookup ("slots":Str) (Zf7 nm sa)=some (.ref sa:V):=rfl
theorem Zlf{nm:Str}{sa:AI}:(bU "slots" (.ref sa) (bU "name" (.str nm) []))=Zf7 nm sa:=rfl
def wX(hp:AI)(ki:AI)(hl:AI)(nm:AI)(sw:AI):List (Str×V):=[("heap",.ref hp),("kind",.ref ki),("hands",.ref hl),("names",.ref nm),("sweeper",.ref sw)]
theorem bJ{hp:AI}{ki:AI}{hl:AI}{nm:AI}{sw:AI}:List.lookup ("heap":Str) (wX hp ki hl nm sw)=some (.ref hp:V):=rfl
theorem iR{hp:AI}{ki:AI}{hl:AI}{nm:AI}{sw:AI}:List.lookup ("kind":Str) (wX hp ki hl nm sw)=some (.ref ki:V):=rfl
theorem dU{hp:AI}{ki:AI}{hl:AI}{nm:AI}{sw:AI}:List.lookup ("hands":Str) (wX hp ki hl nm sw)=some (.ref hl:V):=rfl
theorem jm{hp:AI}{ki:AI}{hl:AI}{nm:AI}{sw:AI}:List.lookup ("names":Str) (wX hp ki hl nm sw)=some (.ref nm:V):=rfl
theorem bC{hp:AI}{ki:AI}{hl:AI}{nm:AI}{sw:AI}:List.lookup ("sweeper":Str) (wX hp ki hl nm sw)=some (.ref sw:V):=rfl
theorem Zg4{hp:AI}{ki:AI}{hl:AI}{nm:AI}{sw:AI}:(bU "sweeper" (.ref sw) (bU "names" (.ref nm) (bU "hands" (.ref hl) (bU "kind" (.ref ki) (bU "heap" (.ref hp) [])))))=wX hp ki hl nm sw:=rfl
def bY(se:Int)(ph:Str)(gr:AI)(lo:Int)(d:Int)(at_:Int)(st:Int)(wa:Int)(b:Int)(a:Int)(c:V):List (Str×V):=[("sense",.int se),("phase",.str ph),("grey",.ref gr),("looked",.int lo),("turn",.int d),("at",.int at_),("stop",.int st),("walks",.int wa),("looks",.int b),("passes",.int a),("loss",c)]
theorem jX{se:Int}{ph:Str}{gr:AI}{lo:Int}{d:Int}{at_:Int}{st:Int}{wa:Int}{b:Int}{a:Int}{c:V}:List.lookup ("sense":Str) Ξ=some (.int se:V):=rfl
theorem jY{se:Int}{ph:Str}{gr:AI}{lo:Int}{d:Int}{at_:Int}{st:Int}{wa:Int}{b:Int}{a:Int}{c:V}:List.lookup ("phase":Str) Ξ=some (.str ph:V):=rfl
theorem pG{se:Int}{ph:Str}{gr:AI}{lo:Int}{d:Int}{at_:Int}{st:Int}{wa:Int}{b:Int}{a:Int}{c:V}:List.lookup ("grey":Str) Ξ=some (.ref gr:V):=rfl
theorem gO{se:Int}{ph:Str}{gr:AI}{lo:Int}{d:Int}{at_:Int}{st:Int}{wa:Int}{b:Int}{a:Int}{c:V}:List.lookup ("looked":Str) Ξ=some (.int lo:V):=rfl
theorem pF{se:Int}{ph:Str}{gr:AI}{lo:Int}{a:Int}{at_:Int}{st:Int}{wa:Int}{c:Int}{b:Int}{d:V}:List.lookup ("turn":Str) (bY se ph gr lo a at_ st wa c b d)=some (.int a:V):=rfl
theorem Cv{se:Int}{ph:Str}{gr:AI}{lo:Int}{d:Int}{at_:Int}{st:Int}{wa:Int}{b:Int}{a:Int}{c:V}:List.lookup ("at":Str) Ξ=some (.int at_:V):=rfl
theorem Ms{se:Int}{ph:Str}{gr:AI}{lo:Int}{d:Int}{at_:Int}{st:Int}{wa:Int}{b:Int}{a:Int}{c:V}:List.lookup ("stop":Str) Ξ=some (.int st:V):=rfl
theorem vH{se:Int}{ph:Str}{gr:AI}{lo:Int}{d:Int}{at_:Int}{st:Int}{wa:Int}{b:Int}{a:Int}{c:V}:List.lookup ("walks":Str) Ξ=some (.int wa:V):=rfl
theorem nR{se:Int}{ph:Str}{gr:AI}{lo:Int}{d:Int}{at_:Int}{st:Int}{wa:Int}{a:Int}{b:Int}{c:V}:List.lookup ("looks":Str) (bY se ph gr lo d at_ st wa a b c)=some (.int a:V):=rfl
theorem rY{se:Int}{ph:Str}{gr:AI}{lo:Int}{d:Int}{at_:Int}{st:Int}{wa:Int}{b:Int}{a:Int}{c:V}:List.lookup ("passes":Str) Ξ=some (.int a:V):=rfl
theorem Mu{se:Int}{ph:Str}{gr:AI}{lo:Int}{d:Int}{at_:Int}{st:Int}{wa:Int}{c:Int}{b:Int}{a:V}:List.lookup ("loss":Str) (bY se ph gr lo d at_ st wa c b a)=some (a:V):=rfl
theorem G3{se:Int}{ph:Str}{gr:AI}{lo:Int}{d:Int}{at_:Int}{st:Int}{wa:Int}{b:Int}{a:Int}{c:V}(y:Int):bU "sense" (.int y) Ξ=bY y ph gr lo d at_ st wa b a c:=rfl
theorem jK{se:Int}{ph:Str}{gr:AI}{lo:Int}{d:Int}{at_:Int}{st:Int}{wa:Int}{b:Int}{a:Int}{c:V}(y:Str):bU "phase" (.str y) Ξ=bY se y gr lo d at_ st wa b a c:=rfl
theorem KD{se:Int}{ph:Str}{gr:AI}{lo:Int}{d:Int}{at_:Int}{st:Int}{wa:Int}{b:Int}{a:Int}{c:V}(y:AI):bU "grey" (.ref y) Ξ=bY se ph y lo d at_ st wa b a c:=rfl
theorem qC{se:Int}{ph:Str}{gr:AI}{lo:Int}{d:Int}{at_:Int}{st:Int}{wa:Int}{b:Int}{a:Int}{c:V}(y:Int):bU "looked" (.int y) Ξ=bY se ph gr y d at_ st wa b a c:=rfl
theorem Ky{se:Int}{ph:Str}{gr:AI}{lo:Int}{d:Int}{at_:Int}{st:Int}{wa:Int}{b:Int}{a:Int}{c:V}(y:Int):bU "turn" (.int y) Ξ=bY se ph gr lo y at_ st wa b a c:=rfl
theorem zG{se:Int}{ph:Str}{gr:AI}{lo:Int}{d:Int}{at_:Int}{st:Int}{wa:Int}{b:Int}{a:Int}{c:V}(y:Int):bU "at" (.int y) Ξ=bY se ph gr lo d y st wa b a c:=rfl
theorem Kz{se:Int}{ph:Str}{gr:AI}{lo:Int}{d:Int}{at_:Int}{st:Int}{wa:Int}{b:Int}{a:Int}{c:V}(y:Int):bU "stop" (.int y) Ξ=bY se ph gr lo d at_ y wa b a c:=rfl
theorem rW{se:Int}{ph:Str}{gr:AI}{lo:Int}{d:Int}{at_:Int}{st:Int}{wa:Int}{b:Int}{a:Int}{c:V}(y:Int):bU "walks" (.int y) Ξ=bY se ph gr lo d at_ st y b a c:=rfl
theorem lX{se:Int}{ph:Str}{gr:AI}{lo:Int}{c:Int}{at_:Int}{st:Int}{wa:Int}{d:Int}{a:Int}{b:V}(y:Int):bU "looks" (.int y) (bY se ph gr lo c at_ st wa d a b)=bY se ph gr lo c at_ st wa y a b:=rfl
theorem qz{se:Int}{ph:Str}{gr:AI}{lo:Int}{c:Int}{at_:Int}{st:Int}{wa:Int}{a:Int}{d:Int}{b:V}(y:Int):bU "passes" (.int y) (bY se ph gr lo c at_ st wa a d b)=bY se ph gr lo c at_ st wa a y b:=rfl
theorem KC{se:Int}{ph:Str}{gr:AI}{lo:Int}{c:Int}{at_:Int}{st:Int}{wa:Int}{b:Int}{a:Int}{d:V}(y:V):bU "loss" (y) (bY se ph gr lo c at_ st wa b a d)=bY se ph gr lo c at_ st wa b a y:=rfl
theorem Zgb{se:Int}{ph:Str}{gr:AI}{lo:Int}{d:Int}{at_:Int}{st:Int}{wa:Int}{b:Int}{a:Int}{c:V}:(bU "loss" (c) (bU "passes" (.int a) (bU "looks" (.int b) (bU "walks" (.int wa) (bU "stop" (.int st) (bU "at" (.int at_) (bU "turn" (.int d) (bU "looked" (.int lo) (bU "grey" (.ref gr) (bU "phase" (.str ph) (bU "sense" (.int se) [])))))))))))=bY se ph gr lo d at_ st wa b a c:=rfl
def pK(rm:Int)(kd:AI)(hd:AI)(rw:AI):List (Str×V):=[("room",.int rm),("kind",.ref kd),("hands",.ref hd),("rows",.ref rw)]
theorem xm{rm:Int}{kd:AI}{hd:AI}{rw:AI}:List.lookup ("room":Str) (pK rm kd hd rw)=some (.int rm:V):=rfl
theorem xq{rm:Int}{kd:AI}{hd:AI}{rw:AI}:List.lookup ("kind":Str) (pK rm kd hd rw)=some (.ref kd:V):=rfl
theorem nU{rm:Int}{kd:AI}{hd:AI}{rw:AI}:List.lookup ("hands":Str) (pK rm kd hd rw)=some (.ref hd:V):=rfl
theorem pJ{rm:Int}{kd:AI}{hd:AI}{rw:AI}:List.lookup ("rows":Str) (pK rm kd hd rw)=some (.ref rw:V):=rfl
theorem Zgh{rm:Int}{kd:AI}{hd:AI}{rw:AI}:(bU "rows" (.ref rw) (bU "hands" (.ref hd) (bU "kind" (.ref kd) (bU "room" (.int rm) []))))=pK rm kd hd rw:=rfl
def sY(K:aD):TS:=
 (aP (dY K ρ χ "birth")
   (aP (dY K ρ (ak 3) "bulk")
   (aP (dY K ρ (ak 4) "tone")
   (aP (dY K ρ π "load")
   (dY K ρ (aV (Zqd) (dX (aj (tC .non) aG)) ac) "fields")))))
def z9(K:aD):TS:=
 (bB (aV ω (aV ω υ (nQ (G.gD K) (aj (bh K ρ "fields") aG))) (bh K ρ "bulk")))
def qM(K:aD):TS:=
 (bB (Zbm (iH λi j=>.bl (decide (i<=j))) aS π χ (nQ (G.gD K) (aj (bh K ρ "fields") aG))))
def sW(K:aD):TS:=
 (aP (dY K ρ χ "room")
   (aP (dY K ρ (dX aG) "cells")
   (aP (dY K ρ π "used")
   (dY K ρ π "born"))))
def DG(K:aD)(a e b:AI)(g c f d:Sp)(E:XK):TS:=
 (aP (bz (w6 a g [] E0 (aj (aV ω (bh K ρ "born") υ) (aj χ (aj ac ap)))) (aN 4))
   (aP (dF (bT (aV (iH λi j=>.bl (decide (j<i))) (gQ a "units" c [] E0 (ak 4) aG) (gQ b "free" f [] E0 ρ aG))) (G.GZ e E (aj (tC (.str "the room does not suffice")) aG)) cC)
   (aP (dY K ρ (bh K (ak 4) "birth") "born")
   (aP (dY K ρ (aV ω (bh K ρ "used") (gQ a "units" c [] E0 (ak 4) aG)) "used")
   (bB (gQ b "lay" d [] E0 ρ (aj (ak 4) aG)))))))
def Jw(K:aD):TS:=
 (aP (dF (bT (aV (G.Zqe K true) (tC .non) (bh K ρ "cells"))) (aP (vG (tBM K "list" uG (bh K ρ "cells") (aj χ aG)))
   (bB (aV (iH λi j=>.int (i - j)) (nQ (G.gD K) (aj (bh K ρ "cells") aG)) υ))) cC)
   (aP (bz (tBM K "list" (G.Zel K) (bh K ρ "cells") (aj (tC .non) aG)) (aN 2))
   (aP (bz χ (Ql (bh K ρ "cells") ac Aa))
   (bB ac))))
def DN(K:aD)(a:AI)(b:Sp):TS:=
 (aP (bz (aV (dM K) (bh K ρ "cells") χ) (aN 2))
   (aP (dY K ρ (aV (iH λi j=>.int (i - j)) (bh K ρ "used") (gQ a "units" b [] E0 ac aG)) "used")
   (aP (bz (tC .non) (Ql (bh K ρ "cells") χ Aa))
   (bB (bh K ac "birth")))))
def DK(K:aD):TS:=
 (bB (aV (iH λi j=>.int (i - j)) (bh K ρ "room") (bh K ρ "used")))
def rJ(K:aD):TS:=
 (bB (G.tLC (J0 (aj (nQ (G.gD K) (aj (bh K ρ "cells") aG)) aG)) [0] (bT (aV (G.DQ) (aV (dM K) (bh K χ "cells") ρ) (tC .non))) ρ))
def Nz(K:aD):TS:=
 (aP (dF ((Rm (bT (aV (G.DR) χ (tC .non))) (Rm (bT (aV aS χ π)) (bT (aV (iH λi j=>.bl (decide (j<=i))) χ (nQ (G.gD K) (aj (bh K ρ "cells") aG))))))) (bB (tC .non)) cC)
   (bB (aV (dM K) (bh K ρ "cells") χ)))
def Jv(K:aD)(a:Sp):TS:=
 (aP (bz (aX a [] E0 (aj ρ (aj χ aG))) (aN 2))
   (aP (dF (bT (aV (G.DR) ac (tC .non))) (bB (tC .non)) cC)
   (bB (bh K ac "birth"))))
def U4:TS:=
 (bB (aV (iH λi j=>.int (i - j)) (aV (rI Ln λi j=>.int (i * 2 ^ j.toNat)) υ ρ) υ))
def oH:TS:=
 (bB π)
def m7:TS:=
 (bB π)
def sU:TS:=
 (bB (tC (.bl true)))
def z8:TS:=
 (bB (tC (.str "first")))
def qK(a:Sp):TS:=
 (bB (aX a [] E0 (aj χ aG)))
def DP:TS:=
 (bB (tC (.str "each")))
def qL:TS:=
 (aP (Bq (J0 (aj ac aG)) (aN 3)
   (dF (bT (aV (zx) (aV aE (aV (rI (λ_ j=>0<=j) λi j=>.int (i / 2 ^ j.toNat)) χ (ak 3)) υ) π)) (bB (aV (rI Ln λi j=>.int (i * 2 ^ j.toNat)) υ (ak 3))) cC))
   (bB π))
def Dz:TS:=
 (bB (tC (.str "last")))
def qJ(a:Sp):TS:=
 (bB (aX a [] E0 (aj ac aG)))
def z6:TS:=
 (bB (tC (.bl false)))
def sV(K:aD):TS:=
 (aP (dY K ρ χ "looking")
   (dY K ρ ac "tells"))
def z7(K:aD)(c a d:AI)(b f e:Sp):TS:=
 (aP (bz (G.Bp (gQ a "word" f [] E0 (bh K ρ "looking") aG) (G.Bp (gQ c "word" b [] E0 (bh K ρ "looking") aG) (gQ d "word" e [] E0 (bh K ρ "looking") aG))) (aN 1))
   (aP (dF (bT (aV (Y6) (aV aE (bh K ρ "tells") υ) π)) (bz (aV (G.xV) χ (tC (.str " old"))) (aN 1)) cC)
   (aP (dF (bT (aV (Y6) (aV aE (bh K ρ "tells") Ψ) π)) (bz (aV (G.xV) χ (tC (.str " new"))) (aN 1)) cC)
   (bB χ))))
def Nk(K:aD)(e d a f:AI)(b c:Sp):TS:=
 (aP (Bq (wI K (dX (aj (G.Mr d) (aj (G.Mr e) (aj (G.Mr f) aG))))) (aN 1)
   (Bq (J0 (aj (tC (.int 4)) aG)) (aN 2)
   (aP (bz (w6 a b [] E0 (aj χ (aj ac aG))) (aN 3))
   (dF (bT (aV (zx) (gQ a "words" c [] E0 (ak 3) aG) ρ)) (bB (ak 3)) cC))))
   (bB (tC .non)))
def sX(K:aD):TS:=
 (aP (dY K ρ χ "name")
   (dY K ρ (aV (Zqd) (dX (aj (tC .non) aG)) ac) "slots"))
def oG(K:aD):TS:=
 (aP (dY K ρ π "sense")
   (aP (dY K ρ (tC (.str "rest")) "phase")
   (aP (dY K ρ (dX aG) "grey")
   (aP (dY K ρ π "looked")
   (aP (dY K ρ π "turn")
   (aP (dY K ρ π "at")
   (aP (dY K ρ π "stop")
   (aP (dY K ρ π "walks")
   (aP (dY K ρ π "looks")
   (aP (dY K ρ π "passes")
   (dY K ρ (tC .non) "loss")))))))))))
def qH(K:aD)(a d b:AI)(e c f:Sp):TS:=
 (aP (dY K ρ (w6 d c [] E0 (aj χ aG)) "heap")
   (aP (dY K ρ ac "kind")
   (aP (dY K ρ (G.Zif K (wI K (ak 3)) [] G.zF (w6 a e [] E0 (aj ρ (aj χ aG)))) "hands")
   (aP (dY K ρ (Zbl) "names")
   (dY K ρ (w6 b f [] E0 aG) "sweeper")))))
def Xa(K:aD):TS:=
 (bB (G.tLC (wI K (bh K ρ "hands")) [] G.zF (nQ (G.yG K) (aj (bh K ρ "slots") aG))))
def Dy(K:aD)(a:Sp):TS:=
 (bB (G.tLC (wI K χ) [0] G.zF (aX a [] E0 (aj χ (aj ρ aG)))))
def Du(K:aD):TS:=
 (bB (aV (zx) (aV aE (aV (rI (λ_ j=>0<=j) λi j=>.int (i / 2 ^ j.toNat)) (bh K aT "looked") χ) υ) υ))
def Dv(K:aD):TS:=
 (bB (aV (zx) (bh K χ "tone") (bh K aT "sense")))
def zU(K:aD):TS:=
 (bB (aV (rIn K false) (bh K aT "phase") (cY (aj (tC (.str "walk")) (aj (tC (.str "lost")) aG)))))
def Zw(K:aD)(d b e:AI)(c a:Sp):TS:=
 (aP (bz aT (aN 1))
   (aP (dY K χ (aV (iH λi j=>.int (i - j)) υ (bh K χ "sense")) "sense")
   (aP (dY K χ (aV ω (bh K χ "turn") υ) "turn")
   (aP (dY K χ (tC (.str "walk")) "phase")
   (aP (dY K χ (dX aG) "grey")
   (aP (dY K χ (G.Bp (gQ b "at_begin" c [] E0 (bh K (bh K ρ "kind") "looking") (aj (nQ (G.gD K) (aj (bh K ρ "hands") aG)) aG)) (G.Bp (gQ d "at_begin" a [] E0 (bh K (bh K ρ "kind") "looking") (aj (nQ (G.gD K) (aj (bh K ρ "hands") aG)) aG)) (gQ e "at_begin" a [] E0 (bh K (bh K ρ "kind") "looking") (aj (nQ (G.gD K) (aj (bh K ρ "hands") aG)) aG)))) "looked")
   (aP (dY K χ π "walks")
   (aP (dY K χ π "looks")
   (dY K χ π "passes")))))))))
def Zej(K:aD)(a b:Sp):TS:=
 (aP (bz aT (aN 2))
   (aP (bz (aX a [] E0 (aj a6 (aj χ aG))) (aN 3))
   (aP (dF ((Rm (bT (aV (Y6) (bh K ac "phase") (tC (.str "walk")))) (Rm (bT (aV (G.DR) (ak 3) (tC .non))) (tB (aX b [] E0 (aj ρ ap)))))) (bB (tC .non)) cC)
   (aP (dY K (ak 3) (bh K ac "sense") "tone")
   (aP (vG (tBM K "list" uG (bh K ac "grey") (aj χ aG)))
   (bB (bh K (ak 3) "birth")))))))
def Jt(K:aD)(a:Sp):TS:=
 (aP (bz (dX aG) (aN 2))
   (aP (Bq (wI K χ) (aN 3)
   (aP (bz (aX a [] E0 (aj ρ ap)) (aN 4))
   (dF (bT (aV (G.DQ) (ak 4) (tC .non))) (vG (tBM K "list" uG ac (aj (ak 4) aG))) cC)))
   (bB ac)))
def Zek(K:aD)(a b:Sp):TS:=
 (aP (bz (aX a [] E0 (aj a6 (aj χ aG))) (aN 3))
   (aP (dF ((Rm (bT (aV (G.DR) (ak 3) (tC .non))) (bT (aV (Y6) (bh K (ak 3) "birth") ac)))) (bB (tC (.bl true))) cC)
   (bB ((Uo (aV (zx) (bh K aT "phase") (tC (.str "give"))) (Ze6 (aX b [] E0 (aj ρ ap))))))))
def Zv(K:aD)(a b:Sp)(c:Hp):TS:=
 (bB (aV (Hl) (aX a [] E0 (aj ρ aG)) (dX (aj (G.Zid c (G.Zif K (G.Zla (G.Zib (bh K ρ "names"))) [0] G.zF (aX b [] E0 (aj ac (aj ρ (aj χ aG)))))) aG))))
def Nh(K:aD)(c b a:Sp):TS:=
 (aP (dF (tB (aX c [] E0 (aj ρ (aj χ (aj ac aG))))) (bB (tC .non)) cC)
   (aP (dF ((WM (tB (aX a [] E0 (aj ρ aG))) (wZ (tB (aX b [] E0 (aj ρ (aj (aV (dM K) (bh K a6 "cells") χ) aG))))))) (bB (tC .non)) cC)
   (bB χ)))
def Js(K:aD):TS:=
 (bB (bh K (aV (dM K) (bh K ρ "hands") χ) "slots"))
def Ny(K:aD)(b:AI)(a c:Sp)(E:XK):TS:=
 (aP (bz (aX a [] E0 (aj a6 (aj (aV (dM K) (aX c [] E0 (aj ρ (aj χ aG))) ac) aG))) (aN 3))
   (aP (dF (bT (aV (G.DR) (ak 3) (tC .non))) (G.GZ b E (aj (tC (.str "the slot holds no cell")) aG)) cC)
   (bB (ak 3))))
def Dw(K:aD)(a b:AI)(d c:Sp)(E:XK):TS:=
 (aP (bz (aX c [] E (aj ρ (aj χ (aj ac aG)))) (aN 4))
   (aP (dF (wZ (tB (gQ a "has_field" d [] E0 (ak 4) ap))) (G.GZ b E (aj (tC (.str "the cell does not have the field")) aG)) cC)
   (bB (bh K (ak 4) "fields"))))
def xM(K:aD):TS:=
 (aP (dF (bT (aV (zx) (aV aE (bh K (bh K ρ "kind") "tells") υ) π)) (bB (dX aG)) cC)
   (bB (dX (aj χ aG))))
def xN(K:aD)(a:Sp):TS:=
 (aP (dF ((Rm (bT (aV (zx) (aV aE (bh K (bh K ρ "kind") "tells") Ψ) π)) (tB (aX a [] E0 (aj ρ (aj χ aG)))))) (bB (dX aG)) cC)
   (bB (dX (aj ac aG))))
def Nt(K:aD)(b:AI)(c a d:Sp)(E:XK):TS:=
 (aP (bz (aX d [] E0 (aj ρ (aj (aV a7 χ υ) aG))) (aN 2))
   (aP (bz (aV a7 χ am) (aN 3))
   (aP (bz (aV a7 χ (tC (.int 4))) (aN 4))
   (aP (bz (gQ b "make" c [] E a6 (aj (ak 3) (aj (ak 4) (aj (bh K aT "sense") aG)))) (aN 5))
   (aP (bz (ak 5) (Ql ac (aV a7 χ Ψ) Aa))
   (bB (cY (aj (tC (.str "made")) (aj (aX a [] E0 (aj a6 (aj (ak 5) aG))) (aj (dX aG) aG))))))))))
def U3(K:aD)(a b c:Sp)(E:XK):TS:=
 (aP (bz (aV a7 χ υ) (aN 2))
   (aP (bz (aV a7 χ am) (aN 3))
   (aP (bz (aV a7 χ (tC (.int 4))) (aN 4))
   (aP (bz (aV (dM K) (aX b [] E (aj ρ (aj ac (aj (ak 3) (aj (ak 4) aG))))) (ak 4)) (aN 5))
   (aP (bz (ak 5) (Ql (aX c [] E0 (aj ρ (aj ac aG))) (aV a7 χ Ψ) Aa))
   (bB (cY (aj (tC (.str "got")) (aj (aX a [] E0 (aj a6 (aj (ak 5) aG))) (aj (dX aG) aG))))))))))
def U0(K:aD)(a e c f d b:Sp)(E:XK):TS:=
 (aP (bz (aV a7 χ υ) (aN 2))
   (aP (bz (aV a7 χ am) (aN 3))
   (aP (bz (aX e [] E (aj ρ (aj ac (aj (aV a7 χ Ψ) ap)))) (aN 4))
   (aP (bz (aV (dM K) (ak 4) (ak 3)) (aN 5))
   (aP (bz (aV (dM K) (aX f [] E0 (aj ρ (aj ac aG))) (aV a7 χ (tC (.int 4)))) (aN 6))
   (aP (bz (ak 6) (Ql (ak 4) (ak 3) Aa))
   (aP (bz (aX c [] E0 (aj ρ (aj (aV (Hl) (aX b [] E0 (aj ρ (aj (ak 5) aG))) (aX d [] E0 (aj ρ (aj ac (aj (ak 6) aG))))) aG))) (aN 7))
   (bB (cY (aj (tC (.str "put")) (aj (aX a [] E0 (aj a6 (aj (ak 5) aG))) (aj (ak 7) aG))))))))))))
def Nx(K:aD)(b a:Sp):TS:=
 (aP (bz (aX a [] E0 (aj ρ (aj (aV a7 χ υ) aG))) (aN 2))
   (aP (bz (aV (dM K) ac (aV a7 χ am)) (aN 3))
   (aP (bz (ak 3) (Ql ac (aV a7 χ Ψ) Aa))
   (bB (cY (aj (tC (.str "copied")) (aj (aX b [] E0 (aj a6 ap)) (aj (dX aG) aG))))))))
def Nv(K:aD)(b a:Sp):TS:=
 (aP (bz (aX a [] E0 (aj ρ (aj (aV a7 χ υ) aG))) (aN 2))
   (aP (bz (aV (dM K) ac (aV a7 χ Ψ)) (aN 3))
   (aP (bz (tC .non) (Ql ac (aV a7 χ Ψ) Aa))
   (bB (cY (aj (tC (.str "dropped")) (aj (aX b [] E0 (aj a6 ap)) (aj (dX aG) aG))))))))
def Nu(K:aD)(b c a d:Sp):TS:=
 (aP (bz (aV a7 χ υ) (aN 2))
   (aP (bz (aV a7 χ am) (aN 3))
   (aP (bz (aV (dM K) (aX a [] E0 (aj ρ (aj ac aG))) (aV a7 χ Ψ)) (aN 4))
   (aP (bz (ak 4) (Ql (aX a [] E0 (aj ρ ap)) (aV a7 χ (tC (.int 4))) Aa))
   (aP (bz (aX c [] E0 (aj ρ (aj (aX d [] E0 (aj ρ (aj ac (aj (ak 4) aG)))) aG))) (aN 5))
   (bB (cY (aj (tC (.str "given")) (aj (aX b [] E0 (aj a6 (aj (ak 4) aG))) (aj (ak 5) aG))))))))))
def Ju(K:aD)(a:Sp)(E:XK):TS:=
 (aP (bz (aX a [] E (aj ρ (aj (aV a7 χ υ) (aj (aV a7 χ Ψ) aG)))) (aN 2))
   (aP (bz (bh K ac "load") (aN 3))
   (aP (dY K ac (aV a7 χ am) "load")
   (bB (cY (aj (tC (.str "wrote")) (aj (ak 3) (aj (dX aG) aG))))))))
def Nq(K:aD)(a:Sp)(E:XK):TS:=
 (aP (bz (aX a [] E (aj ρ (aj (aV a7 χ υ) (aj (aV a7 χ Ψ) aG)))) (aN 2))
   (bB (cY (aj (tC (.str "read")) (aj (bh K ac "load") (aj (dX aG) aG))))))
def Nr(K:aD)(b a:Sp)(E:XK):TS:=
 (aP (bz (aV a7 χ υ) (aN 2))
   (aP (bz (aV a7 χ Ψ) (aN 3))
   (aP (bz (bh K (aX b [] E (aj ρ (aj ac ap))) "birth") (aN 4))
   (aP (Zeg (bh K ρ "names") (aV a7 χ am) (cY (aj (aV (dM K) (aX a [] E0 (aj ρ (aj ac aG))) (ak 3)) (aj (ak 4) aG))))
   (bB (cY (aj (tC (.str "named")) (aj (ak 4) (aj (dX aG) aG)))))))))
def Np(K:aD)(a b c d:Sp)(E:XK):TS:=
 (aP (bz (aX c [] E (aj ρ (aj (aV a7 χ am) aG))) (aN 2))
   (aP (bz ac (Ql (aX d [] E0 (aj ρ (aj (aV a7 χ υ) aG))) (aV a7 χ Ψ) Aa))
   (aP (bz (aX b [] E0 (aj ρ (aj (dX (aj ac aG)) aG))) (aN 3))
   (bB (cY (aj (tC (.str "sought")) (aj (aX a [] E0 (aj a6 (aj ac aG))) ap)))))))
def xO(K:aD)(b:AI)(a:Sp)(E:XK):TS:=
 (aP (dF (tB (WK χ (bh K ρ "names"))) (G.GZ b E (aj (tC (.str "the weak name was never given")) aG)) cC)
   (aP (bz (aV a7 (Za (bh K ρ "names") χ) π) (aN 2))
   (aP (bz (aV a7 (Za (bh K ρ "names") χ) υ) (aN 3))
   (aP (dF (tB (aX a [] E0 (aj ρ (aj ac ap)))) (bB (tC .non)) cC)
   (bB ac)))))
def Zj5(K:aD)(p m n k s j q o l r:AI)(c f g i h d e a b t:Sp)(E:XK):TS:=
 (aP (bz (G.Zms [("make",s),("get",n),("put",q),("copy",p),("drop",m),("give",k),("write",r),("read",o),("name",j),("seek",l)] (aV a7 χ π)) (aN 2))
   (bB (G.WL 2 [(s,h),(n,g),(q,e),(p,c),(m,f),(k,i),(r,t),(o,a),(j,d),(l,b)] E (aj ρ (aj χ aG)))))
def qI(K:aD):TS:=
 (aP (dY K ρ χ "room")
   (aP (dY K ρ ac "kind")
   (aP (dY K ρ (nQ (G.yG K) ap) "hands")
   (dY K ρ (nQ (G.yG K) (aj (ak 4) aG)) "rows"))))
def Jr(K:aD)(a:AI)(b:Sp):TS:=
 (bB (w6 a b [] E0 (aj (bh K ρ "room") (aj (bh K ρ "kind") (aj (bh K ρ "hands") aG)))))
def Nj(K:aD)(a:AI)(b:Sp):TS:=
 (aP (bz (G.tLC (wI K (bh K ρ "rows")) [] (bT (aV (Y6) (aV a7 ρ π) (tC (.str "sweep")))) ρ) (aN 1))
   (bB (w6 a b [] E0 (aj (bh K ρ "room") (aj (bh K ρ "kind") (aj (bh K ρ "hands") (aj χ aG)))))))
def Bs(K:aD)(a:Sp):TS:=
 (aP (bz (dX aG) (aN 2))
   (aP (Bq (G.Qg K (aj χ aG)) (Zd8 K 2 (uf (aN 3) (uf (aN 4) Zd9)))
   (vG (tBM K "list" Lq ac (aj (aX a [] E0 (aj ρ (aj (ak 4) (aj (cY ap) aG)))) aG))))
   (aP (bz (Zbl) (aN 5))
   (aP (bz π (aN 6))
   (aP (Zbi (bT (aV aS (ak 6) (nQ (G.gD K) (aj ac aG)))) (aP (bz (aV a7 (aV (dM K) ac (ak 6)) π) (aN 7))
   (aP (bz (aV a7 (aV (dM K) ac (ak 6)) υ) (aN 8))
   (aP (bz (aV ω (ak 6) υ) (aN 6))
   (dF (tB (G.Zig true (ak 7) (ak 5))) (aP (Zeg (ak 5) (ak 7) (ak 8))
   (vG (tBM K "list" Lq ac (aj (aX a [] E0 (aj ρ (aj (bh K (aV (dM K) (bh K ρ "cells") (ak 7)) "fields") (aj (ak 8) aG)))) aG)))) cC)))))
   (bB (nQ (G.Zdq) (aj (G.Zbk (ak 5)) aG))))))))
def zb(K:aD)(a:Sp):TS:=
 (bB (G.Zif K (G.Qg K (aj χ aG)) [0,2] (bT (aV (G.DQ) (aX a [] E0 (aj ac (aj χ aG))) (tC .non))) (cY (aj χ (aj (aV (Zp9 K) (ak 3) (cY (aj ρ aG))) aG)))))
def zT(K:aD)(a:Sp):TS:=
 (aP (bz (dX aG) (aN 2))
   (aP (Bq (G.Qg K (aj (bh K ρ "hands") aG)) (Zd8 K 2 (uf (aN 3) (uf (aN 4) Zd9)))
   (dF (bT (aV (zx) (aV aE (aV (rI (λ_ j=>0<=j) λi j=>.int (i / 2 ^ j.toNat)) χ (ak 3)) υ) υ)) (vG (tBM K "list" Lq ac (aj (aX a [] E0 (aj ρ (aj (bh K (ak 4) "slots") aG))) aG))) cC))
   (bB ac)))
def vQ(K:aD)(a b:Sp):TS:=
 (aP (vG (aX a [] E0 (aj ρ aG)))
   (aP (bz (aX b [] E0 (aj ρ (aj (bh K aT "looked") aG))) (aN 1))
   (bB (cY (aj (tC (.str "begin")) (aj (bh K aT "turn") (aj χ aG)))))))
def vO(K:aD)(b a:Sp):TS:=
 (aP (dF (G.Zq4 K (bh K aT "grey")) (bB (aX a [] E0 (aj ρ aG))) cC)
   (bB (aX b [] E0 (aj ρ aG))))
def Zei(K:aD)(a:Sp):TS:=
 (aP (bz aT (aN 1))
   (aP (bz (aV (dM K) (bh K a6 "cells") (tBM K "list" Zj8 (bh K χ "grey") (aj π aG))) (aN 2))
   (aP (dY K χ (aV ω (bh K χ "walks") υ) "walks")
   (bB (cY (aj (tC (.str "walk")) (aj (bh K ac "birth") (aj (aX a [] E0 (aj ρ (aj (bh K ac "fields") aG))) aG))))))))
def jR(K:aD)(d c f:AI)(e a b g:Sp):TS:=
 (aP (bz (aX g [] E0 (aj ρ ap)) (aN 4))
   (aP (dF ((Rm (bT (aV (zx) (ak 3) π)) (wZ ((Rm (tB (G.Bp (gQ c "stays" a [] E0 ac aG) (G.Bp (gQ d "stays" a [] E0 ac aG) (gQ f "stays" e [] E0 ac aG)))) (G.Zq4 K (ak 4))))))) (bB (aX b [] E0 (aj ρ aG))) cC)
   (aP (dY K χ (aV ω (bh K χ "looks") υ) "looks")
   (aP (dF (tB (G.Bp (gQ c "stays" a [] E0 ac aG) (G.Bp (gQ d "stays" a [] E0 ac aG) (gQ f "stays" e [] E0 ac aG)))) (dY K χ (aV (iH λi j=>.int (Builtin.bitOr i j)) (bh K χ "looked") (ak 3)) "looked") cC)
   (bB (cY (aj (tC (.str "look")) (aj (ak 3) (aj (ak 4) aG)))))))))
def xP(K:aD)(c b d:AI)(g f h i e a j:Sp):TS:=
 (aP (bz aT (aN 1))
   (aP (bz (bh K (bh K ρ "kind") "looking") (aN 2))
   (aP (bz (G.Bp (gQ b "next_look" i [] E0 ac (aj (bh K χ "looked") (aj (nQ (G.gD K) (aj (bh K ρ "hands") aG)) aG))) (G.Bp (gQ c "next_look" g [] E0 ac (aj (bh K χ "looked") (aj (nQ (G.gD K) (aj (bh K ρ "hands") aG)) aG))) (gQ d "next_look" f [] E0 ac (aj (bh K χ "looked") (aj (nQ (G.gD K) (aj (bh K ρ "hands") aG)) aG))))) (aN 3))
   (jR K c b d h e a j))))
def Zj6(K:aD)(d c a b:Sp):TS:=
 (aP (bz aT (aN 1))
   (aP (dY K χ (nQ (G.gD K) (aj (bh K a6 "cells") aG)) "stop")
   (aP (dY K χ π "at")
   (aP (bz (aX c [] E0 (aj ρ aG)) (aN 2))
   (aP (dF (bT (aV (G.DQ) ac (tC .non))) (aP (dY K χ (tC (.str "lost")) "phase")
   (aP (dY K χ ac "loss")
   (bB (aX b [] E0 (aj ac aG))))) cC)
   (aP (dY K χ (tC (.str "give")) "phase")
   (aP (bz (aX d [] E0 (aj a6 (aj (aX a [] E0 (aj ρ aG)) aG))) (aN 3))
   (bB (cY (aj (tC (.str "cut")) (aj (nQ (G.gD K) ap) ap)))))))))))
def zV(K:aD)(c a b:Sp):TS:=
 (aP (Bq (wI K (aX a [] E0 (aj a6 (aj (aX b [] E0 (aj ρ aG)) aG)))) (Zd8 K 2 (uf (aN 1) (uf (aN 2) Zd9)))
   (aP (bz (aV (dM K) (bh K a6 "cells") χ) (aN 3))
   (dF (wZ (tB (aX c [] E0 (aj ρ ap)))) (bB (cY (aj (tC (.str "lost")) (aj (bh K (ak 3) "birth") (aj (nQ (G.Zm9 K) (aj ac aG)) aG))))) cC)))
   (bB (tC .non)))
def xR(K:aD)(b:AI)(c a:Sp):TS:=
 (aP (bz a6 (aN 1))
   (bB (G.tLC (wI K (gQ b "there" c [] E0 χ aG)) [0,1] (wZ (tB (aX a [] E0 (aj χ (aj (aV (dM K) (bh K ac "cells") ρ) aG))))) ρ)))
def zP(K:aD):TS:=
 (bB (cY (aj (aV a7 ρ π) (aj (aV a7 ρ υ) (aj (nQ (G.yG K) (aj (aV a7 ρ Ψ) aG)) aG)))))
def vP(K:aD)(a b:Sp):TS:=
 (aP (dF (bT (aV aS (bh K aT "at") (bh K aT "stop"))) (bB (aX b [] E0 (aj ρ aG))) cC)
   (bB (aX a [] E0 (aj ρ aG))))
def zR(K:aD)(a:AI)(d b c:Sp):TS:=
 (aP (bz aT (aN 1))
   (aP (bz (bh K χ "at") (aN 2))
   (aP (dY K χ (aV ω ac υ) "at")
   (aP (dY K χ (aV ω (bh K χ "passes") υ) "passes")
   (aP (bz (aX b [] E0 (aj a6 (aj ac aG))) (aN 3))
   (aP (dF ((Rm (bT (aV (G.DR) (ak 3) (tC .non))) (tB (aX c [] E0 (aj ρ ap))))) (bB (cY (aj (tC (.str "pass")) (aj ac (aj (dX aG) aG))))) cC)
   (bB (cY (aj (tC (.str "back")) (aj (gQ a "back" d [] E0 a6 (aj ac aG)) (aj (dX (aj ac aG)) aG)))))))))))
def Zj4(K:aD):TS:=
 (aP (bz aT (aN 1))
   (aP (dY K χ (tC (.str "rest")) "phase")
   (bB (cY (aj (tC (.str "end")) (aj (bh K χ "turn") (aj (dX (aj (bh K χ "walks") (aj (bh K χ "looks") (aj (bh K χ "passes") aG)))) aG)))))))
def qD(K:aD)(a:Sp):TS:=
 (bB (aX a [] E0 (aj (bh K aT "loss") aG)))
def W9(K:aD)(a c b d:AI)(h e f g:Sp):TS:=
 (aP (bz (G.Zms [("rest",a),("walk",b),("give",c),("lost",d)] (bh K aT "phase")) (aN 1))
   (bB (G.WL 1 [(a,h),(b,f),(c,e),(d,g)] E0 (aj ρ aG))))
def Zu(K:aD)(a b:Sp):TS:=
 (aP (dF (bT (aV (zx) (aV a7 χ π) (tC (.str "sweep")))) (bB (aX a [] E0 (aj ρ (aj (aV a7 χ υ) aG)))) cC)
   (bB (dX (aj (aX b [] E0 (aj ρ (aj χ aG))) aG))))
def Ng(K:aD)(a b:Sp):TS:=
 (aP (bz (dX aG) (aN 2))
   (aP (Zbi ((WM (bT (aV aS (nQ (G.gD K) (aj ac aG)) χ)) (wZ (tB (aX b [] E0 (aj ac aG)))))) (vG (tBM K "list" uG ac (aj (aX a [] E0 (aj ρ aG)) aG))))
   (bB ac)))
def zQ(K:aD):TS:=
 (bB ((Uo (aV (iH λi j=>.bl (decide (j<i))) (nQ (G.gD K) (aj ρ aG)) π) (aV (zx) (aV a7 (aV (dM K) ρ (tUn (rU λi=>.int (-i)) υ)) π) (tC (.str "lost"))))))
def rF(g d e f:AI)(c b:Sp):TS:=
 (G.Zic (λa=>a=Value.ref g) (λa=>a=Value.ref e) (λa=>a=Value.ref d) (λa=>a=Value.ref f) (λEx=>(bB (G.Zbn c [] Ex (aj ρ (aj χ aG))))) (bB (aX b [] E0 (aj (tC (.str "empty")) aG))) (bB (aX b [] E0 (aj (tC (.str "field")) aG))) (bB (aX b [] E0 (aj (tC (.str "full")) aG))) (bB (aX b [] E0 (aj (tC (.str "name")) aG))))
def Ni:TS:=
 (bB (cY (aj (tC (.str "refused")) (aj ρ (aj (dX aG) aG)))))
def Zj3(K:aD)(c a b:Sp):TS:=
 (aP (bz (aX b [] E0 (aj ρ aG)) (aN 2))
   (aP (bz (dX aG) (aN 3))
   (aP (Bq (wI K (tSl (Zgk K) (bh K ρ "rows") Wz (G.Zbj χ))) (aN 4)
   (aP (vG (tBM K "list" uG (ak 3) (aj (aX a [] E0 (aj ac (aj (ak 4) aG))) aG)))
   (dF (tB (aX c [] E0 ap)) (Zbo) cC)))
   (bB (ak 3)))))
def Nm(K:aD)(a:Sp):TS:=
 (bB ((Uo (aV (iH λi j=>.bl (decide (j<i))) (nQ (G.gD K) (aj ρ aG)) π) (aX a [] E0 (aj (aV (dM K) ρ (tUn (rU λi=>.int (-i)) υ)) aG)))))
def vW(K:aD):TS:=
 (aP (dF (bT (aV aS χ (nQ (G.gD K) (aj ρ aG)))) (bB (aV (dM K) ρ χ)) cC)
   (bB π))
def rG:TS:=
 (bB ((Uo (nQ (G.zz) (aj ρ (aj (tC (.ty "int")) aG))) (Ze6 (nQ (G.zz) (aj ρ (aj (tC (.ty "bool")) aG)))))))
def vV(K:aD):TS:=
 (aP (bz (aV (dM K) (dX (aj (tC (.str "first")) (aj (tC (.str "each")) (aj (tC (.str "last")) aG)))) (aV ξ ρ am)) (aN 1))
   (aP (dF (bT (aV (zx) (aV ξ (aV τ ρ am) Ψ) υ)) (bz (aV (G.xV) χ (tC (.str " old"))) (aN 1)) cC)
   (aP (dF (bT (aV (zx) (aV ξ (aV τ ρ (tC (.int 6))) Ψ) υ)) (bz (aV (G.xV) χ (tC (.str " new"))) (aN 1)) cC)
   (bB χ))))
def zX(K:aD):TS:=
 (aP (bz (dX (aj (tC (.str "first old")) (aj (tC (.str "first old new")) (aj (tC (.str "last new")) (aj (tC (.str "last old new")) (aj (tC (.str "each old new")) aG)))))) (aN 1))
   (bB (aV (rIn K false) ρ χ)))
def sS(K:aD):TS:=
 (aP (bz (tC (.str "abcdefghijklmnopqrstuvwxyz")) (aN 2))
   (aP (bz (aV ω υ (aV ξ (aV τ χ (tC (.int 26))) (tC (.int 4)))) (aN 3))
   (aP (bz (dX aG) (aN 4))
   (aP (Bq (J0 (aj (aV (dM K) (dX (aj υ (aj Ψ (aj Ψ (aj am (aj (tC (.int 5)) aG)))))) (aV ξ ρ (tC (.int 5)))) aG)) (aN 5)
   (aP (bz (tC (.str "")) (aN 6))
   (aP (Bq (J0 ap) (aN 7)
   (aP (bz (aV ag (aV ag (ak 7) (ak 7)) am) (aN 8))
   (aP (dF (bT (aV (zx) (ak 7) (aV ξ (aV τ ρ (tC (.int 5))) (ak 3)))) (bz (aV ω (ak 8) (ak 5)) (aN 8)) cC)
   (bz (aV (G.xV) (ak 6) (aV (Zc6) ac (aV ξ (aV ω χ (ak 8)) (tC (.int 26))))) (aN 6)))))
   (vG (tBM K "list" uG (ak 4) (aj (cY (aj (ak 6) (aj (aV ω am (aV ξ (aV ω (aV τ χ (tC (.int 7))) (aV ag (aV ag (ak 5) (ak 5)) Ψ)) (tC (.int 7)))) aG))) aG))))))
   (bB (ak 4))))))
def vR:TS:=
 (aP (bz (tC (.str "abcdefghijklmnopqrstuvwxyz")) (aN 2))
   (aP (bz (tC (.str "")) (aN 3))
   (aP (Bq (J0 (aj (aV ω υ (aV ξ (aV τ ρ (tC (.int 26))) (tC (.int 12)))) aG)) (aN 4)
   (aP (bz (aV ag (ak 4) (ak 4)) (aN 5))
   (aP (dF (bT (aV (zx) (ak 4) (aV ξ (aV τ ρ (tC (.int 312))) (aV ω υ (aV ξ (aV τ ρ (tC (.int 26))) (tC (.int 12))))))) (bz (aV ω (ak 5) χ) (aN 5)) cC)
   (bz (aV (G.xV) (ak 3) (aV (Zc6) ac (aV ξ (aV ω ρ (ak 5)) (tC (.int 26))))) (aN 3)))))
   (bB (ak 3)))))
def xT(K:aD)(a:Sp):TS:=
 (aP (bz (aV ξ (aV ag (aV ω (aV ω ρ (aV ag (aV ag (tC (.int 17)) χ) χ)) (tC (.int 29))) (tC (.int 48271))) (tC (.int 7919))) (aN 4))
   (aP (bz (aV ξ (aV ag (aV ω (aV ω ρ (aV ag (tC (.int 31)) χ)) (tC (.int 7))) (tC (.int 16807))) (tC (.int 6133))) (aN 5))
   (aP (bz (aV ξ (aV τ (ak 4) (tC (.int 16))) (nQ (G.gD K) (aj ac aG))) (aN 6))
   (aP (bz (aV ξ (ak 5) (nQ (G.gD K) (aj ac aG))) (aN 7))
   (aP (bz (aV ξ (aV τ (ak 5) (tC (.int 5))) (aV (dM K) (dX (aj am (aj am (aj am (aj (aV a7 (aV (dM K) ac (ak 6)) υ) aG))))) (aV ξ (aV τ (ak 5) (tC (.int 45))) (tC (.int 4))))) (aN 8))
   (aP (bz (aV ξ (aV τ (ak 4) (tC (.int 80))) (aV (dM K) (dX (aj am (aj am (aj am (aj (aV a7 (aV (dM K) ac (ak 6)) υ) aG))))) (aV ξ (aV τ (ak 5) (tC (.int 180))) (tC (.int 4))))) (aN 9))
   (aP (bz (aV ξ (ak 4) (tC (.int 16))) (aN 10))
   (aP (dF (bT (aV aS (ak 10) am)) (aP (bz (aV ξ (aV τ (ak 5) (tC (.int 15))) am) (aN 11))
   (aP (dF (bT (aV (zx) (aV ξ (ak 3) (tC (.int 5))) υ)) (bz (aV ξ ρ (aV ω (aV (rI Ln λi j=>.int (i ^ j.toNat)) (tC (.int 10)) (tC (.int 12))) υ)) (aN 11)) cC)
   (bB (cY (aj (tC (.str "make")) (aj (ak 6) (aj (ak 8) (aj (aV (dM K) (dX (aj υ (aj Ψ (aj am (aj π (aj Ψ (aj υ (aj (tC (.int 8)) aG)))))))) (aV ξ (aV τ (ak 5) (tC (.int 9))) (tC (.int 7)))) (aj (ak 11) aG))))))))) cC)
   (aP (dF (bT (aV aS (ak 10) (tC (.int 5)))) (bB (cY (aj (tC (.str "get")) (aj (ak 6) (aj (ak 8) (aj (ak 9) (aj (aV ξ (aV τ (ak 5) (tC (.int 15))) am) aG))))))) cC)
   (aP (dF (bT (aV aS (ak 10) (tC (.int 8)))) (bB (cY (aj (tC (.str "put")) (aj (ak 6) (aj (ak 9) (aj (aV ξ (aV τ (ak 5) (tC (.int 15))) am) (aj (ak 8) aG))))))) cC)
   (aP (dF (bT (aV (zx) (ak 10) (tC (.int 8)))) (bB (cY (aj (tC (.str "copy")) (aj (ak 6) (aj (ak 8) (aj (ak 9) aG)))))) cC)
   (aP (dF (bT (aV (zx) (ak 10) (tC (.int 9)))) (bB (cY (aj (tC (.str "drop")) (aj (ak 6) (aj (ak 8) aG))))) cC)
   (aP (dF (bT (aV (zx) (ak 10) (tC (.int 10)))) (bB (cY (aj (tC (.str "give")) (aj (ak 6) (aj (ak 8) (aj (ak 7) (aj (aV ξ (aV τ (ak 4) (tC (.int 80))) (aV a7 (aV (dM K) ac (ak 7)) υ)) aG))))))) cC)
   (aP (dF (bT (aV (zx) (ak 10) (tC (.int 11)))) (aP (bz (aV (iH λi j=>.int (i - j)) (aV ξ ρ (aV (rI Ln λi j=>.int (i ^ j.toNat)) (tC (.int 10)) (tC (.int 60)))) (aV ag (aV (rI Ln λi j=>.int (i ^ j.toNat)) (tC (.int 10)) (tC (.int 60))) (aV ξ (ak 5) Ψ))) (aN 12))
   (bB (aV (dM K) (dX (aj (cY (aj (tC (.str "write")) (aj (ak 6) (aj (ak 9) (aj (aV ω (ak 12) (aV ξ (ak 5) Ψ)) aG))))) (aj (cY (aj (tC (.str "read")) (aj (ak 6) (aj (ak 9) aG)))) aG))) (aV ξ (aV τ (ak 5) Ψ) Ψ)))) cC)
   (aP (dF (bT (aV (zx) (ak 10) (tC (.int 12)))) (bB (cY (aj (tC (.str "name")) (aj (ak 6) (aj (ak 9) (aj (aX a [] E0 (aj (ak 3) (aj (aV ξ (aV τ (ak 5) Ψ) am) aG))) aG)))))) cC)
   (aP (dF (bT (aV (zx) (ak 10) (tC (.int 13)))) (bB (cY (aj (tC (.str "seek")) (aj (ak 6) (aj (ak 8) (aj (aX a [] E0 (aj (ak 3) (aj (aV ξ (aV τ (ak 5) Ψ) am) aG))) aG)))))) cC)
   (bB (cY (aj (tC (.str "sweep")) (aj (aV ω υ (aV ξ (aV τ (ak 5) Ψ) (aV (dM K) (dX (aj (tC (.int 6)) (aj (tC (.int 24)) aG))) (aV (iH λi j=>.int (i - j)) (ak 10) (tC (.int 14)))))) aG))))))))))))))))))))
def zW(K:aD):TS:=
 (bB (cY (aj (tC (.str "sweep")) (aj (aV ω υ (aV ξ (aV ξ (aV ag (aV ω (aV ω ρ (aV ag (tC (.int 43)) χ)) am) (tC (.int 69621))) (tC (.int 5003))) (aV (dM K) (dX (aj Ψ (aj (tC (.int 5)) (aj (tC (.int 9)) (aj (tC (.int 24)) aG))))) (aV ξ (aV ω (aV τ ρ (tC (.int 16))) χ) (tC (.int 4)))))) aG))))
def qG(a:Sp):TS:=
 (aP (bz (dX (aj (cY (aj (tC (.str "make")) (aj χ (aj ac (aj υ (aj π aG)))))) (aj (cY (aj (tC (.str "make")) (aj χ (aj (ak 3) (aj π (aj π aG)))))) (aj (cY (aj (tC (.str "put")) (aj χ (aj ac (aj π ap))))) (aj (cY (aj (tC (.str "drop")) (aj χ ap))) aG))))) (aN 5))
   (aP (bz (aV (Hl) (ak 5) (dX (aj (aX a [] E0 (aj ρ (aj υ aG))) (aj (cY (aj (tC (.str "get")) (aj χ (aj (ak 3) (aj ac (aj π aG)))))) (aj (cY (aj (tC (.str "drop")) (aj χ (aj (ak 4) aG)))) (aj (cY (aj (tC (.str "put")) (aj χ (aj ac (aj π (aj (ak 4) aG)))))) aG)))))) (aN 5))
   (bB (aV (Hl) (ak 5) (dX (aj (aX a [] E0 (aj ρ (aj Ψ aG))) (aj (cY (aj (tC (.str "read")) (aj χ ap))) aG)))))))
def xU(a:Sp):TS:=
 (aP (bz (dX (aj (cY (aj (tC (.str "make")) (aj χ (aj (ak 3) (aj π (aj π aG)))))) (aj (aX a [] E0 (aj ρ (aj υ aG))) (aj (cY (aj (tC (.str "make")) (aj χ (aj ac (aj υ (aj π aG)))))) (aj (cY (aj (tC (.str "put")) (aj χ (aj ac (aj π ap))))) aG))))) (aN 4))
   (aP (bz (aV (Hl) (ak 4) (dX (aj (cY (aj (tC (.str "drop")) (aj χ ap))) (aj (aX a [] E0 (aj ρ (aj Ψ aG))) (aj (cY (aj (tC (.str "get")) (aj χ (aj (ak 3) (aj ac (aj π aG)))))) aG))))) (aN 4))
   (bB (aV (Hl) (ak 4) (dX (aj (cY (aj (tC (.str "write")) (aj χ (aj (ak 3) (aj (aV ξ ρ (aV (rI Ln λi j=>.int (i ^ j.toNat)) (tC (.int 10)) (tC (.int 60)))) aG))))) (aj (cY (aj (tC (.str "read")) (aj χ ap))) aG)))))))
def zY(a:Sp):TS:=
 (aP (bz (dX (aj (cY (aj (tC (.str "make")) (aj χ (aj ac (aj υ (aj π aG)))))) (aj (cY (aj (tC (.str "make")) (aj χ (aj (ak 3) (aj π (aj π aG)))))) (aj (cY (aj (tC (.str "put")) (aj χ (aj ac (aj π ap))))) (aj (cY (aj (tC (.str "name")) (aj χ (aj ac (aj (ak 4) aG))))) aG))))) (aN 5))
   (aP (bz (aV (Hl) (ak 5) (dX (aj (cY (aj (tC (.str "drop")) (aj χ (aj ac aG)))) (aj (cY (aj (tC (.str "drop")) (aj χ ap))) (aj (aX a [] E0 (aj ρ (aj υ aG))) (aj (cY (aj (tC (.str "seek")) (aj χ (aj (ak 3) (aj (ak 4) aG))))) aG)))))) (aN 5))
   (bB (aV (Hl) (ak 5) (dX (aj (aX a [] E0 (aj ρ (aj Ψ aG))) (aj (cY (aj (tC (.str "get")) (aj χ (aj ac (aj (ak 3) (aj π aG)))))) (aj (cY (aj (tC (.str "read")) (aj χ (aj ac aG)))) aG))))))))
def zZ(a:Sp):TS:=
 (aP (bz (dX (aj (cY (aj (tC (.str "make")) (aj χ (aj (ak 3) (aj υ (aj π aG)))))) (aj (cY (aj (tC (.str "make")) (aj χ (aj (ak 4) (aj π (aj π aG)))))) (aj (cY (aj (tC (.str "put")) (aj χ (aj (ak 3) (aj π (aj (ak 4) aG)))))) (aj (cY (aj (tC (.str "drop")) (aj χ (aj (ak 4) aG)))) aG))))) (aN 5))
   (aP (bz (aV (Hl) (ak 5) (dX (aj (aX a [] E0 (aj ρ (aj υ aG))) (aj (cY (aj (tC (.str "give")) (aj χ (aj (ak 3) (aj ac (aj (ak 4) aG)))))) (aj (cY (aj (tC (.str "drop")) (aj χ ap))) (aj (aX a [] E0 (aj ρ (aj Ψ aG))) aG)))))) (aN 5))
   (bB (aV (Hl) (ak 5) (dX (aj (cY (aj (tC (.str "get")) (aj ac (aj (ak 3) (aj (ak 4) (aj π aG)))))) (aj (cY (aj (tC (.str "read")) (aj ac ap))) aG)))))))
def vU(K:aD)(a b d f e c:Sp):TS:=
 (aP (bz (aV ξ (aV ag (aV ω (aV ω ρ (aV ag (aV ag (tC (.int 13)) χ) χ)) (tC (.int 5))) (tC (.int 39373))) (tC (.int 6991))) (aN 4))
   (aP (dF (bT (aV (Y6) (aV ξ (ak 4) (tC (.int 4))) π)) (bB (dX (aj (aX f [] E0 (aj ρ (aj χ (aj ac ap)))) aG))) cC)
   (aP (bz (aV ξ (aV τ (ak 4) (tC (.int 16))) (nQ (G.gD K) (aj ac aG))) (aN 5))
   (aP (bz (aV ξ (aV τ (ak 4) (tC (.int 80))) (nQ (G.gD K) (aj ac aG))) (aN 6))
   (aP (bz (aV ξ (aV τ (ak 4) (tC (.int 4))) am) (aN 7))
   (aP (bz (aV ξ (aV ω (aV ω (ak 7) υ) (aV ξ (aV τ (ak 4) (tC (.int 12))) Ψ)) am) (aN 8))
   (aP (bz (aV ξ (aV τ (ak 4) (tC (.int 24))) (tC (.int 5))) (aN 9))
   (aP (dF (bT (aV aS (ak 9) Ψ)) (bB (aX e [] E0 (aj ρ (aj (ak 5) (aj (ak 7) (aj (ak 8) (aj (aV (iH λi j=>.int (i - j)) (aV (iH λi j=>.int (i - j)) am (ak 7)) (ak 8)) aG))))))) cC)
   (aP (dF (bT (aV (zx) (ak 9) Ψ)) (bB (aX d [] E0 (aj ρ (aj (ak 5) (aj (ak 7) (aj (ak 8) aG)))))) cC)
   (aP (dF (bT (aV (zx) (ak 9) am)) (bB (aX b [] E0 (aj ρ (aj (ak 5) (aj (ak 7) (aj (ak 8) (aj (aX c [] E0 (aj (ak 3) (aj (aV ξ (aV τ (ak 4) (tC (.int 120))) am) aG))) aG))))))) cC)
   (bB (aX a [] E0 (aj ρ (aj (ak 5) (aj (ak 6) (aj (ak 7) (aj (ak 8) aG)))))))))))))))))
def rH(K:aD)(a:Sp):TS:=
 (aP (dF ((Rm (wZ (tB (nQ (G.zz) (aj ρ (aj (tC (.ty "list")) aG))))) (Rm (bT (aV (Y6) (nQ (G.gD K) (aj ρ aG)) υ)) (wZ (tB (nQ (G.zz) (aj (aV (dM K) ρ π) (aj (tC (.ty "tuple")) aG)))))))) (bB (tC (.bl false))) cC)
   (aP (dF ((Rm (bT (aV (Y6) (nQ (G.gD K) (aj (aV (dM K) ρ π) aG)) am)) (Rm (wZ (tB (nQ (G.zz) (aj (aV a7 (aV (dM K) ρ π) π) (aj (tC (.ty "str")) aG))))) (wZ (tB (nQ (G.zz) (aj (aV a7 (aV (dM K) ρ π) Ψ) (aj (tC (.ty "list")) aG)))))))) (bB (tC (.bl false))) cC)
   (bB ((Zmt (aV (G.DR) (aV a7 (aV (dM K) ρ π) υ) (tC .non)) (Zmt (nQ (G.zz) (aj (aV a7 (aV (dM K) ρ π) υ) (aj (tC (.ty "str")) aG))) (aX a [] E0 (aj (aV a7 (aV (dM K) ρ π) υ) aG))))))))
def fB(K:aD):TS:=
 (dF ((Rm (bT (aV (Y6) (aV a7 (aV (dM K) (ak 6) π) π) (aV a7 (aV (dM K) (ak 7) π) π))) (bT (aV (Y6) (aV a7 (aV (dM K) (ak 6) π) υ) (aV a7 (aV (dM K) (ak 7) π) υ))))) (bB (tC (.bl false))) cC)
def fD(K:aD):TS:=
 (aP (dF ((WM (bT (aV (zx) (aV a7 (aV (dM K) (ak 6) π) π) (tC (.str "sought")))) (bT (aV (G.DR) (aV a7 (aV (dM K) (ak 6) π) υ) (tC .non))))) (bB (tC (.bl true))) cC)
   (fB K))
def fG(K:aD):TS:=
 (aP (dF ((WM (bT (aV (zx) (aV a7 (aV (dM K) (ak 7) π) π) (tC (.str "refused")))) (bT (aV (zx) (aV a7 (aV (dM K) (ak 7) π) υ) (tC (.str "full")))))) (bB (tC (.bl true))) cC)
   (fD K))
def m6(K:aD)(a:Sp):TS:=
 (aP (bz π (aN 3))
   (aP (Bq (G.Qg K (aj ρ aG)) (Zd8 K 2 (uf (aN 4) (uf (aN 5) Zd9)))
   (aP (dF (bT (aV (zx) (ak 4) (nQ (G.gD K) (aj χ aG)))) (bB (tC (.bl true))) cC)
   (aP (dF (bT (aV (zx) (aV a7 (ak 5) π) (tC (.str "sweep")))) (Zih) cC)
   (aP (bz (aV (dM K) χ (ak 4)) (aN 6))
   (aP (bz (aV (dM K) ac (ak 3)) (aN 7))
   (aP (Zq5 3 υ (ipI λi j=>i+j))
   (aP (dF ((Rm (wZ (tB (aX a [] E0 (aj (ak 6) aG)))) (Rm (wZ (tB (aX a [] E0 (aj (ak 7) aG)))) (bT (aV (G.Zqg K true) (aV a7 (aV (dM K) (ak 7) π) Ψ) (dX aG)))))) (bB (tC (.bl false))) cC)
   (aP (dF ((WM (bT (aV (zx) (aV a7 (aV (dM K) (ak 7) π) π) (tC (.str "sought")))) (bT (aV (G.DR) (aV a7 (aV (dM K) (ak 7) π) υ) (tC .non))))) (bB (tC (.bl false))) cC)
   (fG K)))))))))
   (bB (tC (.bl true)))))
def uD(a:Sp):TS:=
 (bB (aX a [] E0 (aj (ak 6) (aj (ak 11) (aj (ak 12) aG)))))
def uE(c b a:Sp):TS:=
 (aP (dF ((WM (tB (aX b [] E0 (aj (ak 4) aG))) (tB (aX a [] E0 (aj (ak 11) aG))))) (bB (tC (.bl false))) cC)
   (uD c))
def uF(K:aD)(b c a:Sp):TS:=
 (aP (dF ((Rm (wZ (tB (nQ (G.zz) (aj (ak 11) (aj (tC (.ty "list")) aG))))) (Rm (wZ (tB (nQ (G.zz) (aj (ak 12) (aj (tC (.ty "list")) aG))))) (bT (aV (Y6) (nQ (G.gD K) (aj (ak 12) aG)) (nQ (G.gD K) (aj (ak 9) aG))))))) (bB (tC (.bl false))) cC)
   (aP (dF ((Rm (bT (aV (iH λi j=>.bl (decide (j<i))) (nQ (G.gD K) (aj (ak 11) aG)) (nQ (G.gD K) (aj (ak 6) aG)))) (Rm (bT (aV (G.Zqf K true) (bh K (ak 10) "rows") (ak 6))) (bT (aV (G.Zqf K true) (bh K (ak 10) "hands") (ak 3)))))) (bB (tC (.bl false))) cC)
   (aP (dF ((WM (bT (aV aS (nQ (G.gD K) (aj (ak 11) aG)) (nQ (G.gD K) (aj (ak 6) aG)))) (wZ (tB (aX a [] E0 (aj (ak 11) aG)))))) (bB (tC (.bl false))) cC)
   (uE b c a))))
def xQ(K:aD)(e:AI)(c b h f g d a:Sp):TS:=
 (aP (bz (w6 e c [] E0 (aj (ak 5) (aj (aX g [] E0 (aj (ak 4) aG)) (aj (nQ (G.yG K) ap) (aj (nQ (G.yG K) (aj (ak 6) aG)) aG))))) (aN 10))
   (aP (bz (aX a [.non] E0 (aj (ak 10) aG)) (aN 11))
   (aP (bz (aX a [.non] E0 (aj (aX d [] E0 (aj (ak 10) aG)) aG)) (aN 12))
   (uF K b h f))))
def qF(K:aD)(d:AI)(b i a g e f c h:Sp):TS:=
 (aP (bz (dX aG) (aN 6))
   (aP (Bq (G.Qg K (aj (tSl (Zgk K) ρ (Ze5 am) (Ze5 (tC (.int 63)))) aG)) (Zd8 K 2 (uf (aN 7) (uf (aN 8) Zd9)))
   (bz (aV (Hl) (ak 6) (aX i [] E0 (aj (ak 8) (aj (ak 7) (aj (ak 3) (aj ac aG)))))) (aN 6)))
   (aP (bz (G.tLC (wI K (ak 6)) [] (bT (aV (Y6) (aV a7 ρ π) (tC (.str "sweep")))) ρ) (aN 9))
   (xQ K d b a g e f c h))))
def Zc5(K:aD)(f:AI)(c a b g n d h k l e m:Sp):TS:=
 (aP (bz (aV ξ (aV ag (aV ω (aX a [] E0 (aj ρ (aj π aG))) (tC (.int 13))) (tC (.int 48271))) (tC (.int 7919))) (aN 1))
   (aP (bz (aV ξ (aX a [] E0 (aj ρ (aj υ aG))) (aV (rI Ln λi j=>.int (i ^ j.toNat)) (tC (.int 10)) (tC (.int 9)))) (aN 2))
   (aP (bz (aX b [] E0 (aj χ (aj ac aG))) (aN 3))
   (aP (bz (aX g [] E0 (aj (aX a [] E0 (aj ρ (aj Ψ aG))) aG)) (aN 4))
   (aP (bz (aV ω (tC (.int 4)) (aV ξ (aV τ (aX a [] E0 (aj ρ (aj Ψ aG))) (tC (.int 12))) (aV (iH λi j=>.int (i - j)) (aV (rI Ln λi j=>.int (i ^ j.toNat)) (tC (.int 10)) (tC (.int 15))) am))) (aN 5))
   (aP (dF (bT (aV (iH λi j=>.bl (decide (j<i))) (aV ξ (aV τ χ (tC (.int 25))) (tC (.int 4))) π)) (bz (aV (dM K) (dX (aj (tC (.int 1000)) (aj (tC (.int 60)) (aj (aV (rI Ln λi j=>.int (i ^ j.toNat)) (tC (.int 10)) (tC (.int 15))) aG)))) (aV (iH λi j=>.int (i - j)) (aV ξ (aV τ χ (tC (.int 25))) (tC (.int 4))) υ)) (aN 5)) cC)
   (qF K f c n d h k l e m)))))))
structure TxC(K:aD)(cG cA:AI):Prop where
 dW:Lj K cG
 eY:cQ K cG "birth"
 qX:cQ K cG "bulk"
 nA:cQ K cG "tone"
 lz:cQ K cG "load"
 gK:cQ K cG "fields"
 dg:Lj K cA
 qW:cQ K cA "room"
 cB:cQ K cA "cells"
 iZ:cQ K cA "used"
 nu:cQ K cA "born"
 LQ:EqD K cG
structure za(CC:AI)(H:Hp)(p fa:AI)(birth bulk tone load:Int)(fl:List V):Prop where
 o:∃dx,H p=some (.ins CC dx (jH birth bulk tone load fa))
 f:H fa=some (.lst fl)
theorem za.same{a:AI}{H H':Hp}{p fa:AI}{birth bulk tone load:Int}{fl:List V}(h:za a H p fa birth bulk tone load fl)(s:bx H H'):za a H' p fa birth bulk tone load fl:=by
 obtain⟨⟨b,h1⟩,h2⟩:=h;exact⟨⟨b,s _ _ h1⟩,s _ _ h2⟩
structure HpO(CH:AI)(H:Hp)(hp ca:AI)(room used born:Int)(cs:List V):Prop where
 o:∃dx,H hp=some (.ins CH dx (je room ca used born))
 c:H ca=some (.lst cs)
theorem QC{a b c d e f g:Int}{x y:AI}:jH a b c d x≠je e y f g:=λz=>by
 have:=congrArg List.length z;cases this
inductive yR(CC:AI)(p:AI)(birth:Int)(many:Int)(bulk:Int)(tone:Int)(H:Hp)(Q:VK):Prop
 | mk (dx) (_:H p=some (.ins CC dx [])) (_:0<=many) (_:many<=1000) (_:∀fa H',H fa=none->H' p=some (.ins CC dx (jH birth bulk tone 0 fa))->H' fa=some (.lst (List.replicate many.toNat V.non))->(∀b o,H b=some o->b≠p->H' b=some o)->Q .non H'):yR CC p birth many bulk tone H Q
def Ks(b:AI):Sp:=λvs H Q E=>∃p birth a bulk tone,vs=[.ref p,.int birth,.int a,.int bulk,.int tone]/\yR b p birth a bulk tone H Q
def vD(a:AI):Sp:=λvs H Q E=>∃p,vs=[.ref p]/\∃fa birth bulk tone load fl,za a H p fa birth bulk tone load fl/\Q (.int (1+fl.length+bulk)) H
def Kp(a:AI):Sp:=λvs H Q E=>∃p room,vs=[.ref p,.int room]/\∃dx,H p=some (.ins a dx [])/\
 ∀ca H',H ca=none->H' p=some (.ins a dx (je room ca 0 0))->H' ca=some (.lst [])->(∀b o,H b=some o->b≠p->H' b=some o)->Q .non H'
def Kq(a:AI):Sp:=λvs H Q E=>∃hp,vs=[.ref hp]/\∃ca room used born cs,HpO a H hp ca room used born cs/\Q (.int (room - used)) H
def plc(cs:List V):AE:=((List.range cs.length).filter λi=>!decide (cs[i]? =some V.non)).map λ(i:Nat)=>(i:Int)
inductive vz(CH:AI)(hp:AI)(H:Hp)(Q:VK):Prop
 | mk (ca room used born cs) (_:HpO CH H hp ca room used born cs) (_:cs.length<=1000) (_:∀l,H l=none->Q (.ref l) (upd H l (.lst ((plc cs).map V.int)))):vz CH hp H Q
def vC(a:AI):Sp:=λvs H Q E=>∃hp,vs=[.ref hp]/\vz a hp H Q
def putN(cs:List V)(v:V):List V:=if V.non∈cs then cs.set (cs.idxOf V.non) v else cs++[v]
inductive Cg(K:aD)(CH:AI)(hp:AI)(v:V)(H:Hp)(Q:VK):Prop
 | mk (ca room used born cs) (_:HpO CH H hp ca room used born cs) (_:OkN K H cs) (_:cs.length<=1000) (_:Q (.int (cs.idxOf V.non)) (upd H ca (.lst (putN cs v)))):Cg K CH hp v H Q
def Rb(K:aD)(a:AI):Sp:=λvs H Q E=>∃hp v,vs=[.ref hp,v]/\Cg K a hp v H Q
inductive yP(CC:AI)(CH:AI)(hp:AI)(i:Int)(H:Hp)(Q:VK):Prop
 | mk (ca dx room used born cs p fa birth bulk tone load fl) (_:0<=i) (_:H hp=some (.ins CH dx (je room ca used born))) (_:H ca=some (.lst cs)) (_:cs[i.toNat]? =↑p) (_:za CC H p fa birth bulk tone load fl) (_:Q (.int birth) (upd (upd H hp (.ins CH dx (je room ca (used - (1+fl.length+bulk)) born))) ca (.lst (cs.set i.toNat V.non)))):yP CC CH hp i H Q
def yW(a b:AI):Sp:=λvs H Q E=>∃hp i,vs=[.ref hp,.int i]/\yP a b hp i H Q
inductive yO(K:aD)(CC:AI)(CH:AI)(CF:AI)(hp:AI)(many:Int)(bulk:Int)(tone:Int)(H:Hp)(Q:VK)(E:XK):Prop
 | mk (ca dx room used born cs) (_:H hp=some (.ins CH dx (je room ca used born))) (_:H ca=some (.lst cs)) (_:OkN K H cs) (_:cs.length<=1000) (_:0<=many) (_:many<=1000) (_:(room - used<1+many+bulk->∀H',bx H H'->E (.ref CF) none H')) (_:(1+many+bulk<=room - used->∀p fa H',H p=none->H fa=none->Fm [hp,ca] H H'->H' hp=some (.ins CH dx (je room ca (used+(1+many+bulk)) (born+1)))->H' ca=some (.lst (putN cs (.ref p)))->
  za CC H' p fa (born+1) bulk tone 0 (List.replicate many.toNat V.non)->Q (.int (cs.idxOf V.non)) H')):yO K CC CH CF hp many bulk tone H Q E
def Ko(K:aD)(c d b:AI):Sp:=λvs H Q E=>∃hp a bulk tone,vs=[.ref hp,.int a,.int bulk,.int tone]/\yO K c d b hp a bulk tone H Q E
section
variable {K:aD}{cG cA cU:AI}{H:Hp}{Q:VK}{E:XK}{n:μ}{bk ct:μ}
theorem TQ{p:AI}(T:TxC K cG cA)(q:∃fa birth bulk tone load fl,za cG H p fa birth bulk tone load fl/\Q (.int (1+fl.length+bulk)) H):z9 K ν [↑p] H:=by
 obtain⟨fa,birth,bulk,tone,load,fl,⟨⟨a,h1⟩,h2⟩,h⟩:=q;unfold z9;apply aH h1 T.dW T.gK jq ?_;apply eO (cJ.of h2) ?_;apply aH h1 T.dW T.qX Ti ?_;apply h
theorem Jb{p:AI}{birth a bulk tone:Int}(T:TxC K cG cA)(q:yR cG p birth a bulk tone H Q):
  sY K ⟨λ_ H'=>Q .non H',Q,bk,ct⟩ [↑p,some (.int birth),some (.int a),some (.int bulk),some (.int tone)] H:=by
 obtain⟨f,hp,t,h1,h⟩:=q;unfold sY;exists p,cG,f,[],rfl,hp,T.dW,T.eY,ε;apply⟨p,cG,f,_,rfl,ao,T.dW,T.qX,by show 1<1000;decide,?_⟩;rw[dB];apply⟨p,cG,f,_,rfl,ao,T.dW,T.nA,by show 2<1000;decide,?_⟩;rw[dB];apply⟨p,cG,f,_,rfl,ao,T.dW,T.lz,by show 3<1000;decide,?_⟩;rw[dB];apply⟨ε,λn m=>?_⟩;apply⟨n,a,_,rfl,rfl,ao,δ,δ,?_,λj d=>?_⟩
 ·show 1 * a.toNat<=sizeLine;exact bG δ
 have i:p≠n:=aF ao m;have c:p≠j:=aF ((aA i).trans ao) d;apply⟨p,cG,f,_,rfl,(aA c).trans ((aA i).trans ao),T.dW,T.gK,by show 4<1000;decide,?_⟩;have r:H j=none:=by
  have e:=d;have n1:j≠n:=λz=>by rw[z,ao]at e;cases e
  rw[aA n1,aA c.symm]at e;exact e
 refine h j _ r (ao.trans (congrArg (λl=>some (HO.ins cG f l)) Zm8)) ?_ λb o hb g=>?_
 ·rw[aA c.symm,ao];have e:(List.replicate a.toNat [V.non]).flatten=List.replicate a.toNat V.non:=by
   generalize a.toNat=k
   induction k with
   | zero=>rfl
   | succ k ih=>rw[List.replicate_succ,List.replicate_succ,List.flatten_cons,ih];rfl
  rw[e]
 ·have s:upd H p (HO.ins cG f (bU "load" (V.int 0) (bU "tone" (V.int tone) (bU "bulk" (V.int bulk) (bU "birth" (V.int birth) []))))) b=some o:=(aA g).trans hb;have n1:b≠n:=aF s m;have n2:b≠j:=aF ((aA n1).trans s) d;rw[aA g,aA n2,aA n1];exact s
theorem IV{p:AI}{room:Int}(T:TxC K cG cA)(q:∃dx,H p=some (.ins cA dx [])/\
 ∀ca H',H ca=none->H' p=some (.ins cA dx (je room ca 0 0))->H' ca=some (.lst [])->(∀b o,H b=some o->b≠p->H' b=some o)->Q .non H'):
  sW K ⟨λ_ H'=>Q .non H',Q,bk,ct⟩ [↑p,some (.int room)] H:=by
 obtain⟨dx,hp,h⟩:=q;unfold sW;exists p,cA,dx,[],rfl,hp,T.dg,T.qW,ε;apply⟨ε,λca a=>?_⟩;ext;have d:p≠ca:=aF ao a;refine⟨p,cA,dx,_,rfl,(aA d).trans ao,T.dg,T.cB,by show 1<1000;decide,?_⟩;apply⟨p,cA,dx,_,rfl,ao,T.dg,T.iZ,by show 2<1000;decide,?_⟩;rw[dB];apply⟨p,cA,dx,_,rfl,ao,T.dg,T.nu,by show 3<1000;decide,?_⟩;rw[dB];have f:H ca=none:=by
  have e:=a;rw[aA d.symm]at e;exact e
 refine h ca _ f (ao.trans (congrArg (λl=>some (HO.ins cA dx l)) Zle)) ?_ λb o hb c=>?_
 ·rw[aA d.symm,ao]
 ·rw[aA c,aA (aF ((aA c).trans hb) a),aA c];exact hb
theorem YX{hp:AI}(T:TxC K cG cA)(q:∃ca room used born cs,HpO cA H hp ca room used born cs/\Q (.int (room - used)) H):DK K ν [↑hp] H:=by
 obtain⟨ca,room,used,born,cs,⟨⟨a,h1⟩,h2⟩,h⟩:=q;unfold DK;apply aH h1 T.dg T.qW Td ?_;apply aH h1 T.dg T.iZ rQ ?_;apply h
theorem TF{hp:AI}(T:TxC K cG cA)(q:vz cA hp H Q):rJ K ν [↑hp] H:=by
 obtain⟨ca,room,used,born,cs,⟨⟨a,h1⟩,h2⟩,hl,h⟩:=q;unfold rJ;apply VH ?_;apply aH h1 T.dg T.cB cj ?_;apply eO (cJ.of h2) ?_;exists _,rfl,δ,δ;refine Zkx (n:=cs.length) δ (p:=λi=>!decide (cs[i]? =some V.non)) (f:=λi=>.int i) δ ?_ ?_ ?_
 ·intro i hi k hk;walk_at"c";apply aH h1 T.dg T.cB cj ?_;apply eF (cJ.of h2) (eN (bL hi)) ?_;apply Zd0 ?_;rw[bL hi]at hk;ext;simpa using hk
 ·intro i hi _ k hk;walk_at"c";apply hk
 ·have e:((plc cs).map V.int)=((List.range cs.length).filter λi=>!decide (cs[i]? =some V.non)).map λ(i:Nat)=>V.int i:=by
   unfold plc;rw[List.map_map];rfl
  rw[<- e];exact h
theorem Zbc{hp:AI}{v:V}(T:TxC K cG cA)(q:Cg K cA hp v H Q):Jw K ν [↑hp,some v,none] H:=by
 obtain⟨ca,room,used,born,cs,⟨⟨e,h1⟩,h2⟩,c,hl,h⟩:=q;unfold Jw;apply aH h1 T.dg T.cB cj ?_;apply Zl6 (cJ.of h2) c ?_;apply uX (λhn=>?_) (λhn=>?_)
 ·apply aH h1 T.dg T.cB cj ?_;refine⟨.inl ⟨rfl,_,cJ.of h2⟩,?_⟩;exists ca,cs,v,rfl,rfl,h2,Nat.lt_of_le_of_lt hl ε;ext;have b:hp≠ca:=lM h1 h2 aI;refine aH ((aA b).trans h1) T.dg T.cB cj ?_;apply eO (cJ.of ao) ?_;ext;have d:(((cs++[v]).length:Int) - 1)=(cs.idxOf V.non:Nat):=by
   rw[List.length_append,List.idxOf_eq_length hn];simp
  have a:putN cs v=cs++[v]:=by unfold putN;rw[if_neg hn]
  rw[d,<- a];exact h
 ·apply aH h1 T.dg T.cB cj ?_;refine⟨.inl ⟨rfl,_,cJ.of h2⟩,?_⟩;exists ca,cs,rfl,rfl,cJ.of h2,c,hn;apply aH h1 T.dg T.cB cj ?_;ext;have hi:cs.idxOf V.non<cs.length:=List.idxOf_lt_length_iff.mpr hn;refine⟨ca,cs,_,_,rfl,rfl,h2,o9 hi,?_⟩;have a:putN cs v=cs.set (cs.idxOf V.non) v:=by unfold putN;rw[if_pos hn]
  rw[<- a];apply h
theorem YZ{hp:AI}{i:Int}(T:TxC K cG cA)(q:yP cG cA hp i H Q):DN K cG (vD cG) ν [↑hp,some (.int i),none] H:=by
 obtain⟨ca,dx,room,used,born,cs,p,f,birth,bulk,tone,load,fl,e,h1,h2,hi,co,h⟩:=q;obtain⟨⟨dp,b⟩,g⟩:=id co;unfold DN;apply aH h1 T.dg T.cB cj ?_;apply eF (cJ.of h2) (mY e hi) ?_;apply aH h1 T.dg T.iZ rQ ?_;exists p,dp,_,rfl,b,qb;exists p,rfl,f,birth,bulk,tone,load,fl,co;apply⟨hp,cA,dx,_,rfl,h1,T.dg,T.iZ,by show 4<1000;decide,?_⟩;rw[yx];have c:hp≠ca:=lM h1 h2 aI;apply aH ao T.dg T.cB cj ?_;ext;have d:i.toNat<cs.length:=(dj hi).1;refine⟨ca,cs,_,_,rfl,rfl,(aA c.symm).trans h2,Zny e d,?_⟩;apply aH (C:=cG) (a:=p) (dx:=dp) (fs:=jH birth bulk tone load f) ?_ T.dW T.eY fW ?_
 ·have n1:p≠ca:=lM b h2 aI;have n2:p≠hp:=lM b h1 (λz=>by injection z with _ _ z;exact QC z);rw[aA n1,aA n2];exact b
 exact h
theorem YW{hp:AI}{c bulk tone:Int}(T:TxC K cG cA)(q:yO K cG cA cU hp c bulk tone H Q E):
  DG K cG cU cA (Ks cG) (vD cG) (Kq cA) (Rb K cA) E ν [↑hp,some (.int c),some (.int bulk),some (.int tone),none] H:=by
 obtain⟨ca,i,room,used,born,cs,h1,h2,F,hl,I,M,J,A⟩:=q;have j:hp≠ca:=lM h1 h2 aI;unfold DG;apply aH h1 T.dg T.nu Te ?_;ext;intro p dp np r L;refine⟨p,_,c,_,_,rfl,dp,ao,I,M,λf s l h m B=>⟨rfl,?_⟩⟩;have g:H f=none:=by
  have e:=l
  by_cases z1:f=p
  ·rw[z1,ao]at e;cases e
  ·rw[aA z1]at e
   by_cases v:f=dp
   ·rw[v,ao]at e;cases e
   ·rw[aA v]at e;exact e
 have sm:bx H s:=λb o hb=>by
  refine B b o ?_ (aF hb np);rw[aA (aF hb np),aA (aF hb r)];exact hb
 have co:za cG s p f (born+1) bulk tone 0 (List.replicate c.toNat V.non):=⟨⟨dp,h⟩,m⟩;have t:((List.replicate c.toNat V.non).length:Int)=c:=by rw[List.length_replicate];omega
 exists p,dp,_,rfl,h,qb;exists p,rfl,f,_,_,_,_,_,co;exists hp,i,_,rfl,sm _ _ h1,S9;exists hp,rfl,ca,room,used,born,cs,⟨⟨i,sm _ _ h1⟩,sm _ _ h2⟩;ext;rw[t];refine pY (λw=>?_) (λw=>?_)
 ·apply⟨ε,J w s sm⟩
 ·apply aH h T.dW T.eY fW ?_;apply⟨hp,cA,i,_,rfl,sm _ _ h1,T.dg,T.nu,by show 4<1000;decide,?_⟩;rw[Qh];apply aH ao T.dg T.iZ rQ ?_;ext;have n1:p≠hp:=(aF h1 np).symm;have n2:f≠hp:=(aF h1 g).symm;have n3:p≠ca:=(aF h2 np).symm;have n4:f≠ca:=(aF h2 g).symm;refine⟨p,dp,_,rfl,(aA n1).trans h,qb,?_⟩;exists p,rfl,f,_,_,_,_,_,⟨⟨dp,(aA n1).trans h⟩,(aA n2).trans m⟩;ext;rw[t];refine⟨hp,cA,i,_,rfl,ao,T.dg,T.iZ,by show 4<1000;decide,?_⟩;rw[yx,dB];exists hp,i,_,rfl,ao,Yp;exists hp,.ref p,rfl,ca,room,_,_,cs,⟨⟨i,ao⟩,(aA j.symm).trans (sm _ _ h2)⟩,?_,hl
  ·intro y hy;rcases F y hy with e | ⟨a,C,d,fs,e,k,hc,u⟩
   ·exact .inl e
   ·refine .inr ?_
    by_cases z:a=hp
    ·rw[z]at k e;rw[h1]at k;cases k;exact⟨hp,_,_,_,e,ao,hc,u⟩
    ·exact⟨a,C,d,fs,e,(aA z).trans (sm _ _ k),hc,u⟩
  ·refine A δ p f _ np g ?_ ((aA j).trans ao) ao ⟨⟨dp,?_⟩,?_⟩
   ·intro b o hb hn;have x:b≠hp:=λz=>hn (by rw[z];exact List.mem_cons_self);have D:b≠ca:=λz=>hn (by rw[z];exact List.mem_cons_of_mem _ List.mem_cons_self);rw[aA D,aA x];exact sm _ _ hb
   ·rw[aA n3,aA n1];exact h
   ·rw[aA n4,aA n2];exact m
end
structure Ce where
 birth:Int
 bulk:Int
 tone:Int
 load:Int
 fl:Au
 deriving DecidableEq
structure Sw where
 sense:Int
 phase:Str
 grey:AE
 looked:Int
 turn:Int
 at':Int
 stop:Int
 walks:Int
 looks:Int
 passes:Int
 loss:V
structure Wm where
 room:Int
 used:Int
 born:Int
 cells:List (Option Ce)
 hands:List (Str×Au)
 names:List (Str×(Int×Int))
 w:Int
 tells:Int
 sw:Sw
structure Wa where
 wo:AI
 hp:AI
 ca:AI
 ki:AI
 lk:AI
 hl:AI
 nm:AI
 sw:AI
 gr:AI
 hs:List (AI×AI)
 cs:List (Option (AI×AI))
 ns:AF
def oV:AA->V
 | none=>.non
 | some i=>.int i
def pV:Option (AI×AI)->V
 | none=>.non
 | some p=>.ref p.1
structure rT(s:Nat)(t0:Nat->Prop)(H H':Hp)(T T':Tg):Prop where
 kp:∀b o,H b=some o->(T b).1=s->¬ t0 (T b).2->H' b=some o
 tg:∀b o,H b=some o->T' b=T b
section
variable {CHd CC:AI}{H H':Hp}{T T':Tg}{s j i:Nat}{t0:Nat->Prop}
theorem rT.at{a:AI}{o:HO}{m:Nat}(f:rT s t0 H H' T T')(b:T a=(s,m))(n:¬ t0 m)(h:H a=some o):H' a=some o:=f.kp a o h (by rw[b]) (by rw[b];exact n)
theorem rT.tag{a:AI}{o:HO}{x:Nat×Nat}(f:rT s t0 H H' T T')(h:H a=some o)(b:T a=x):T' a=x:=(f.tg a o h).trans b
theorem rT.yj{a:AI}{o:HO}{m:Nat}(c:T a=(s,m)):rT s (·=m) H (upd H a o) T T:=⟨λb u h e n=>by
  have:b≠a:=λz=>n (by rw[z,c]);rw[aA this];exact h,λ_ _ _=>rfl⟩
theorem rT.of_same(e:bx H H'):rT s (λ_=>False) H H' T T:=⟨λb o h _ _=>e b o h,λ_ _ _=>rfl⟩
theorem rT.Zk6{s':Nat}(e:fc s' H H' T T')(n:s≠s'):rT s (λ_=>False) H H' T T':=⟨λb o h z _=>e.kp b o h (by rw[z];exact n),e.tg⟩
structure HdO(CHd:AI)(H:Hp)(T:Tg)(s j:Nat)(p:AI×AI)(m:Str×Au):Prop where
 t1:T p.1=(s,20+2 * j)
 t2:T p.2=(s,21+2 * j)
 o1:∃dx,H p.1=some (.ins CHd dx (Zf7 m.1 p.2))
 o2:H p.2=some (.lst (m.2.map oV))
theorem HdO.mv{p:AI×AI}{m:Str×Au}(h:HdO CHd H T s j p m)(f:rT s t0 H H' T T')(n1:¬ t0 (20+2 * j))(n2:¬ t0 (21+2 * j)):HdO CHd H' T' s j p m:=by
 obtain⟨a1,a2,⟨c,a⟩,b⟩:=h;exact⟨f.tag a a1,f.tag b a2,⟨c,f.at a1 n1 a⟩,f.at a2 n2 b⟩
structure CeO(CC:AI)(H:Hp)(T:Tg)(s i:Nat)(p:AI×AI)(c:Ce):Prop where
 t1:T p.1=(s,100+2 * i)
 t2:T p.2=(s,101+2 * i)
 o1:∃dx,H p.1=some (.ins CC dx (jH c.birth c.bulk c.tone c.load p.2))
 o2:H p.2=some (.lst (c.fl.map oV))
theorem CeO.mv{p:AI×AI}{c:Ce}(h:CeO CC H T s i p c)(f:rT s t0 H H' T T')(n1:¬ t0 (100+2 * i))(n2:¬ t0 (101+2 * i)):CeO CC H' T' s i p c:=by
 obtain⟨a1,a2,⟨d,a⟩,b⟩:=h;exact⟨f.tag a a1,f.tag b a2,⟨d,f.at a1 n1 a⟩,f.at a2 n2 b⟩
def CeP(CC:AI)(H:Hp)(T:Tg)(s i:Nat):Option (AI×AI)->Option Ce->Prop
 | none,none=>True
 | some p,some c=>CeO CC H T s i p c
 | _,_=>False
theorem CeP.mv{p:Option (AI×AI)}{c:Option Ce}(h:CeP CC H T s i p c)(f:rT s t0 H H' T T')(n1:¬ t0 (100+2 * i))(n2:¬ t0 (101+2 * i)):CeP CC H' T' s i p c:=by
 cases p with
 | none=>cases c with
  | none=>trivial
  | some c=>exact h.elim
 | some p=>cases c with
  | none=>exact h.elim
  | some c=>exact CeO.mv h f n1 n2
end
def NmO(H:Hp)(T:Tg)(t:AI)(m:Str×(Int×Int)):Prop:=T t=(0,0)/\H t=some (.tup [.int m.2.1,.int m.2.2])
structure Cs where
 W:AI
 H:AI
 C:AI
 K:AI
 D:AI
 S:AI
 F:AI
 E:AI
 L:AI
structure WB(X:Cs)(H:Hp)(T:Tg)(s:Nat)(A:Wa)(w tells:Int):Prop where
 tw:T A.wo=(s,0)
 tk:T A.ki=(0,0)
 tl:T A.lk=(0,0)
 tn:T A.hl=(s,5)
 ow:∃dx,H A.wo=some (.ins X.W dx (wX A.hp A.ki A.hl A.nm A.sw))
 ok:∃dx,H A.ki=some (.ins X.K dx (Fx A.lk tells))
 ol:∃dx,(w=0/\H A.lk=some (.ins X.F dx []))\/(w=1/\H A.lk=some (.ins X.E dx []))\/(w=2/\H A.lk=some (.ins X.L dx []))
 on:H A.hl=some (.lst (A.hs.map λp=>V.ref p.1))
structure WH(X:Cs)(H:Hp)(T:Tg)(s:Nat)(A:Wa)(room used born:Int):Prop where
 th:T A.hp=(s,1)
 tc:T A.ca=(s,2)
 oh:∃dx,H A.hp=some (.ins X.H dx (je room A.ca used born))
 oc:H A.ca=some (.lst (A.cs.map pV))
def wU(M:List (Str×(Int×Int)))(ns:AF):List ((Int ⊕ Str)×V):=List.zipWith (λ(m:Str×(Int×Int)) (t:AI)=>(Sum.inr m.1,V.ref t)) M ns
structure WN(H:Hp)(T:Tg)(s:Nat)(A:Wa)(names:List (Str×(Int×Int))):Prop where
 tm:T A.nm=(s,6)
 om:H A.nm=some (.dK (wU names A.ns))
 nms:Al (NmO H T) A.ns names
structure WS(X:Cs)(H:Hp)(T:Tg)(s:Nat)(A:Wa)(S:Sw):Prop where
 ts:T A.sw=(s,7)
 tg:T A.gr=(s,8)
 os:∃dx,H A.sw=some (.ins X.S dx (bY S.sense S.phase A.gr S.looked S.turn S.at' S.stop S.walks S.looks S.passes S.loss))
 og:H A.gr=some (.lst (S.grey.map V.int))
structure WD(X:Cs)(H:Hp)(T:Tg)(s:Nat)(hs:List (AI×AI))(hands:List (Str×Au)):Prop where
 lh:hs.length=hands.length
 l5:hs.length<=30
 hd:∀(j:Nat) p m,hs[j]? =some p->hands[j]? =some m->HdO X.D H T s j p m
structure WC(X:Cs)(H:Hp)(T:Tg)(s:Nat)(cs:List (Option (AI×AI)))(cells:List (Option Ce)):Prop where
 lc:cs.length=cells.length
 ce:∀(i:Nat) p c,cs[i]? =some p->cells[i]? =some c->CeP X.C H T s i p c
structure WJ(X:Cs)(H:Hp)(T:Tg)(s:Nat)(A:Wa)(M:Wm):Prop where
 jb:WB X H T s A M.w M.tells
 jh:WH X H T s A M.room M.used M.born
 jn:WN H T s A M.names
 js:WS X H T s A M.sw
 jd:WD X H T s A.hs M.hands
 jc:WC X H T s A.cs M.cells
section
variable {X:Cs}{H H':Hp}{T T':Tg}{s:Nat}{t0:Nat->Prop}{A:Wa}{M:Wm}
theorem WB.mv{w tells:Int}(j:WB X H T s A w tells)(f:rT s t0 H H' T T')(a:∀b o,H b=some o->T b=(0,0)->H' b=some o)(h:¬ t0 0)(n5:¬ t0 5):WB X H' T' s A w tells:=by
 obtain⟨tw,tk,tl,tn,⟨d1,ow⟩,⟨d3,ok⟩,⟨d4,ol⟩,on⟩:=j;have d:∃o,H A.lk=some o:=by
  rcases ol with ⟨_,e⟩ | ⟨_,e⟩ | ⟨_,e⟩
  ·exact⟨_,e⟩
  ·exact⟨_,e⟩
  ·exact⟨_,e⟩
 obtain⟨g,c⟩:=d;refine⟨f.tag ow tw,f.tag ok tk,f.tag c tl,f.tag on tn,⟨d1,f.at tw h ow⟩,⟨d3,a _ _ ok tk⟩,⟨d4,?_⟩,f.at tn n5 on⟩;rcases ol with ⟨z,e⟩ | ⟨z,e⟩ | ⟨z,e⟩
 ·exact .inl ⟨z,a _ _ e tl⟩
 ·exact .inr (.inl ⟨z,a _ _ e tl⟩)
 ·exact .inr (.inr ⟨z,a _ _ e tl⟩)
theorem WH.mv{room used born:Int}(j:WH X H T s A room used born)(f:rT s t0 H H' T T')(n1:¬ t0 1)(n2:¬ t0 2):WH X H' T' s A room used born:=by
 obtain⟨th,tc,⟨d,oh⟩,oc⟩:=j;exact⟨f.tag oh th,f.tag oc tc,⟨d,f.at th n1 oh⟩,f.at tc n2 oc⟩
theorem WN.mv{names:List (Str×(Int×Int))}(j:WN H T s A names)(f:rT s t0 H H' T T')(a:∀b o,H b=some o->T b=(0,0)->H' b=some o)(n6:¬ t0 6):WN H' T' s A names:=by
 obtain⟨tm,om,nms⟩:=j;exact⟨f.tag om tm,f.at tm n6 om,nms.mono (by rintro t m ⟨z1,z2⟩;exact⟨f.tag z2 z1,a _ _ z2 z1⟩)⟩
theorem WS.mv{S:Sw}(j:WS X H T s A S)(f:rT s t0 H H' T T')(n7:¬ t0 7)(n8:¬ t0 8):WS X H' T' s A S:=by
 obtain⟨ts,tg,⟨d,os⟩,og⟩:=j;exact⟨f.tag os ts,f.tag og tg,⟨d,f.at ts n7 os⟩,f.at tg n8 og⟩
theorem WD.mv{hs:List (AI×AI)}{hands:List (Str×Au)}(j:WD X H T s hs hands)(f:rT s t0 H H' T T')(n:∀k,20<=k->k<100->¬ t0 k):WD X H' T' s hs hands:=by
 obtain⟨lh,l5,hd⟩:=j;refine⟨lh,l5,λj p m a b=>?_⟩;have hl:j<hs.length:=(dj a).1;exact(hd j p m a b).mv f (n _ δ δ) (n _ δ δ)
theorem WC.mv{cs:List (Option (AI×AI))}{cells:List (Option Ce)}(j:WC X H T s cs cells)(f:rT s t0 H H' T T')(n:∀k,100<=k->¬ t0 k):WC X H' T' s cs cells:=by
 obtain⟨lc,ce⟩:=j;exact⟨lc,λi p c a b=>(ce i p c a b).mv f (n _ δ) (n _ δ)⟩
theorem WJ.mv(j:WJ X H T s A M)(f:rT s (λ_=>False) H H' T T')(a:∀b o,H b=some o->T b=(0,0)->H' b=some o):WJ X H' T' s A M:=
 ⟨j.jb.mv f a id id,j.jh.mv f id id,j.jn.mv f a id,j.js.mv f id id,j.jd.mv f λ_ _ _=>id,j.jc.mv f λ_ _=>id⟩
theorem WJ.same(j:WJ X H T s A M)(e:bx H H'):WJ X H' T s A M:=j.mv (rT.of_same e) λb o h _=>e b o h
theorem WJ.other{s':Nat}(j:WJ X H T s A M)(e:fc s' H H' T T')(n:s≠s')(a:s'≠0):WJ X H' T' s A M:=j.mv (rT.Zk6 e n) λb o h t=>e.kp b o h (by rw[t];exact λz=>a z.symm)
theorem kE{a:AI}{f:HO}{m:Nat}(d:s≠0)(c:T a=(s,m)):∀b o,H b=some o->T b=(0,0)->upd H a f b=some o:=λb o e t=>by
 rw[aA (Oz t c (λz=>d (congrArg Prod.fst z).symm))];exact e
theorem WJ.slot(j:WJ X H T s A M)(w:WT H T)(g:s≠0){h k:Nat}{p:AI×AI}{m:Str×Au}{x:AA}(hp:A.hs[h]? =some p)(hm:M.hands[h]? =some m):
  fc s H (upd H p.2 (.lst ((m.2.map oV).set k (oV x)))) T T/\WJ X (upd H p.2 (.lst ((m.2.map oV).set k (oV x)))) T s A { M with hands:=M.hands.set h (m.1,m.2.set k x) }:=by
 have hl:=j.jd.l5;have q:h<A.hs.length:=(dj hp).1;have c:h<M.hands.length:=(dj hm).1;have d:=j.jd.hd h p m hp hm;refine⟨fc.upd w d.o2 (by rw[d.t2]),?_⟩;have f:rT s (·=21+2 * h) H (upd H p.2 (.lst ((m.2.map oV).set k (oV x)))) T T:=rT.yj d.t2;have l:upd H p.2 (.lst ((m.2.map oV).set k (oV x))) p.2=some (.lst ((m.2.set k x).map oV)):=by rw[ao,List.map_set]
 refine⟨j.jb.mv f (kE g d.t2) δ δ,j.jh.mv f δ δ,j.jn.mv f (kE g d.t2) δ,j.js.mv f δ δ,⟨by rw[List.length_set];exact j.jd.lh,hl,λi o n b a=>?_⟩,j.jc.mv f λ_ _=>δ⟩
 by_cases e:i=h
 ·subst e;dsimp only at a;rw[List.getElem?_set_self c]at a;rw[hp]at b;cases b;cases a;obtain⟨dd,o1⟩:=d.o1;exact⟨d.t1,d.t2,⟨dd,f.at d.t1 δ o1⟩,l⟩
 ·dsimp only at a;rw[List.getElem?_set_ne (λz=>e z.symm)]at a;exact(j.jd.hd i o n b a).mv f δ δ
theorem WC.at(j:WC X H T s A.cs M.cells){i:Nat}{c:Ce}(h:M.cells[i]? =some (some c)):∃p,A.cs[i]? =some (some p)/\CeO X.C H T s i p c:=by
 have hl:i<A.cs.length:=by rw[j.lc];exact(dj h).1
 have e:=j.ce i _ _ (bL hl) h;cases a:A.cs[i]with
 | none=>rw[a]at e;exact e.elim
 | some g=>rw[a]at e;exact⟨g,by rw[bL hl,a],e⟩
theorem WC.at0(j:WC X H T s A.cs M.cells){i:Nat}(h:M.cells[i]? =some none):A.cs[i]? =some none:=by
 have hl:i<A.cs.length:=by rw[j.lc];exact(dj h).1
 have e:=j.ce i _ _ (bL hl) h;cases a:A.cs[i]with
 | none=>rw[bL hl,a]
 | some g=>rw[a]at e;exact e.elim
theorem WC.chg(j:WC X H T s A.cs M.cells){i:Nat}{p:AI×AI}{c':Ce}(f:rT s t0 H H' T T')(hp:A.cs[i]? =some (some p))(n:∀k,100<=k->k≠100+2 * i->k≠101+2 * i->¬ t0 k)(e:CeO X.C H' T' s i p c'):
  WC X H' T' s A.cs (M.cells.set i (some c')):=by
 have hl:i<A.cs.length:=(dj hp).1;refine⟨by rw[List.length_set];exact j.lc,λk g c b a=>?_⟩
 by_cases hk:k=i
 ·subst hk;rw[List.getElem?_set_self (by rw[<- j.lc];exact hl)]at a;rw[hp]at b;cases b;cases a;exact e
 ·rw[List.getElem?_set_ne (λz=>hk z.symm)]at a;exact(j.ce k g c b a).mv f (n _ δ δ δ) (n _ δ δ δ)
theorem WJ.field(j:WJ X H T s A M)(w:WT H T)(a:s≠0){i k:Nat}{p:AI×AI}{c:Ce}{x:AA}(hp:A.cs[i]? =some (some p))(e:CeO X.C H T s i p c):
  fc s H (upd H p.2 (.lst ((c.fl.map oV).set k (oV x)))) T T/\WJ X (upd H p.2 (.lst ((c.fl.map oV).set k (oV x)))) T s A { M with cells:=M.cells.set i (some { c with fl:=c.fl.set k x }) }:=by
 refine⟨fc.upd w e.o2 (by rw[e.t2]),?_⟩;have f:rT s (·=101+2 * i) H (upd H p.2 (.lst ((c.fl.map oV).set k (oV x)))) T T:=rT.yj e.t2;have b:upd H p.2 (.lst ((c.fl.map oV).set k (oV x))) p.2=some (.lst ((c.fl.set k x).map oV)):=by rw[ao,List.map_set]
 obtain⟨dd,o1⟩:=e.o1;exact⟨j.jb.mv f (kE a e.t2) δ δ,j.jh.mv f δ δ,j.jn.mv f (kE a e.t2) δ,j.js.mv f δ δ,j.jd.mv f λ_ _ _=>δ,
  j.jc.chg f hp (λk _ _ n2 z=>n2 z) ⟨e.t1,e.t2,⟨dd,f.at e.t1 δ o1⟩,b⟩⟩
theorem WJ.cell(j:WJ X H T s A M)(w:WT H T)(a:s≠0){i:Nat}{p:AI×AI}{c:Ce}{dx:AI}{tone load:Int}(hp:A.cs[i]? =some (some p))(e:CeO X.C H T s i p c):
  fc s H (upd H p.1 (.ins X.C dx (jH c.birth c.bulk tone load p.2))) T T/\WJ X (upd H p.1 (.ins X.C dx (jH c.birth c.bulk tone load p.2))) T s A { M with cells:=M.cells.set i (some { c with tone:=tone,load:=load }) }:=by
 obtain⟨dd,o1⟩:=e.o1;refine⟨fc.upd w o1 (by rw[e.t1]),?_⟩;have f:rT s (·=100+2 * i) H (upd H p.1 (.ins X.C dx (jH c.birth c.bulk tone load p.2))) T T:=rT.yj e.t1;exact⟨j.jb.mv f (kE a e.t1) δ δ,j.jh.mv f δ δ,j.jn.mv f (kE a e.t1) δ,j.js.mv f δ δ,j.jd.mv f λ_ _ _=>δ,
  j.jc.chg f hp (λk _ n1 _ z=>n1 z) ⟨e.t1,e.t2,⟨dx,ao⟩,f.at e.t2 δ e.o2⟩⟩
theorem WJ.sweep(j:WJ X H T s A M)(w:WT H T)(a:s≠0){dx:AI}(S:Sw)(b:S.grey=M.sw.grey):
  fc s H (upd H A.sw (.ins X.S dx (bY S.sense S.phase A.gr S.looked S.turn S.at' S.stop S.walks S.looks S.passes S.loss))) T T/\
  WJ X (upd H A.sw (.ins X.S dx (bY S.sense S.phase A.gr S.looked S.turn S.at' S.stop S.walks S.looks S.passes S.loss))) T s A { M with sw:=S }:=by
 obtain⟨ts,tg,⟨dd,os⟩,og⟩:=j.js;refine⟨fc.upd w os (by rw[ts]),?_⟩;have f:rT s (·=7) H (upd H A.sw (.ins X.S dx (bY S.sense S.phase A.gr S.looked S.turn S.at' S.stop S.walks S.looks S.passes S.loss))) T T:=rT.yj ts;exact⟨j.jb.mv f (kE a ts) δ δ,j.jh.mv f δ δ,j.jn.mv f (kE a ts) δ,⟨ts,tg,⟨dx,ao⟩,by rw[b];exact f.at tg δ og⟩,j.jd.mv f λ_ _ _=>δ,j.jc.mv f λ_ _=>δ⟩
theorem WJ.Zpk(j:WJ X H T s A M)(w:WT H T)(a:s≠0){g:AE}:fc s H (upd H A.gr (.lst (g.map V.int))) T T/\WJ X (upd H A.gr (.lst (g.map V.int))) T s A { M with sw:={ M.sw with grey:=g } }:=by
 obtain⟨ts,tg,⟨dd,os⟩,og⟩:=j.js;refine⟨fc.upd w og (by rw[tg]),?_⟩;have f:rT s (·=8) H (upd H A.gr (.lst (g.map V.int))) T T:=rT.yj tg;exact⟨j.jb.mv f (kE a tg) δ δ,j.jh.mv f δ δ,j.jn.mv f (kE a tg) δ,⟨ts,tg,⟨dd,f.at ts δ os⟩,ao⟩,j.jd.mv f λ_ _ _=>δ,j.jc.mv f λ_ _=>δ⟩
theorem WJ.back(j:WJ X H T s A M)(w:WT H T)(u:s≠0){i:Nat}{dx:AI}{used':Int}(hi:i<A.cs.length)(H':Hp)(kp:∀b o,H b=some o->b≠A.hp->b≠A.ca->H' b=some o)(a1:H' A.hp=some (.ins X.H dx (je M.room A.ca used' M.born)))(a2:H' A.ca=some (.lst ((A.cs.map pV).set i V.non))):
  fc s H H' T T/\WJ X H' T s { A with cs:=A.cs.set i none } { M with used:=used',cells:=M.cells.set i none }:=by
 obtain⟨th,tc,⟨dd,oh⟩,oc⟩:=j.jh;have al:∀b o,H b=some o->∃r,H' b=some r:=λb o h=>by
  by_cases z1:b=A.hp
  ·exact⟨_,by rw[z1];exact a1⟩
  ·by_cases y:b=A.ca
   ·exact⟨_,by rw[y];exact a2⟩
   ·exact⟨o,kp b o h z1 y⟩
 have f:rT s (λk=>k=1\/k=2) H H' T T:=⟨λb o h e n=>kp b o h (λz=>n (.inl (by rw[z,th]))) (λz=>n (.inr (by rw[z,tc]))),λ_ _ _=>rfl⟩;have v:∀b o,H b=some o->T b=(0,0)->H' b=some o:=λb o h t=>kp b o h (Oz t th (λz=>u (congrArg Prod.fst z).symm)) (Oz t tc (λz=>u (congrArg Prod.fst z).symm));refine⟨⟨λb o h n=>kp b o h (λz=>n (by rw[z,th])) (λz=>n (by rw[z,tc])),al,λ_ _ _=>rfl,λb h=>w b ?_⟩,?_⟩
 ·cases z:H b with
  | none=>rfl
  | some o=>obtain⟨r,x⟩:=al b o z;rw[h]at x;cases x
 ·refine⟨?_,⟨th,tc,⟨dx,a1⟩,by rw[List.map_set];exact a2⟩,?_,?_,j.jd.mv f λ_ _ _=>δ,⟨by rw[List.length_set,List.length_set];exact j.jc.lc,λk g c d a=>?_⟩⟩
  ·obtain⟨l,p,m,q,E,D,C,B⟩:=j.jb.mv f v δ δ;exact⟨l,p,m,q,E,D,C,B⟩
  ·obtain⟨l,p,m⟩:=j.jn.mv f v δ;exact⟨l,p,m⟩
  ·obtain⟨l,p,m,q⟩:=j.js.mv f δ δ;exact⟨l,p,m,q⟩
  ·by_cases hk:k=i
   ·subst hk;dsimp only at d a;rw[List.getElem?_set_self hi]at d;rw[List.getElem?_set_self (by rw[<- j.jc.lc];exact hi)]at a;cases d;cases a
    trivial
   ·dsimp only at d a;rw[List.getElem?_set_ne (λz=>hk z.symm)]at d a;exact(j.jc.ce k g c d a).mv f δ δ
end
def iD{a:Type}:List (Option a)->Nat
 | []=>0
 | none::_=>0
 | some _::l=>iD l+1
def ji{a:Type}(l:List (Option a))(x:a):List (Option a):=if iD l<l.length then l.set (iD l) (some x)else l++[some x]
theorem Ys{b:Type}(l:List (Option b)):iD l<=l.length:=by
 induction l with
 | nil=>exact Nat.le_refl _
 | cons a l ih=>cases a with
  | none=>exact Nat.zero_le _
  | some a=>exact Nat.succ_le_succ ih
theorem Zoj{b:Type}{l:List (Option b)}(h:iD l<l.length):l[iD l]? =some none:=by
 induction l with
 | nil=>exact absurd h (Nat.lt_irrefl _)
 | cons a l ih=>cases a with
  | none=>rfl
  | some a=>exact ih (Nat.lt_of_succ_lt_succ h)
theorem Zam{c:Type}{f:Option c->V}(d:∀x,f x=V.non↔x=none)(l:List (Option c)):(l.map f).idxOf V.non=iD l/\(V.non∈l.map f↔iD l<l.length):=by
 induction l with
 | nil=>exact⟨rfl,⟨λz=>(nomatch z),λz=>absurd z (Nat.lt_irrefl _)⟩⟩
 | cons a l ih=>
  rw[List.map_cons,List.idxOf_cons];cases a with
  | none=>
   have e:f none=V.non:=(d none).mpr rfl;rw[e];exact⟨rfl,⟨λ_=>Nat.zero_lt_succ _,λ_=>List.mem_cons_self⟩⟩
  | some a=>
   have e:f (some a)≠V.non:=λz=>by cases (d (some a)).mp z
   have b:(f (some a) == V.non)=false:=beq_eq_false_iff_ne.mpr e;rw[b];refine⟨congrArg (· + 1) ih.1,?_⟩;show _↔iD l+1<l.length+1;rw[List.mem_cons,ih.2];constructor
   ·rintro(z | z)
    ·exact absurd z.symm e
    ·omega
   ·intro z;exact .inr δ
theorem Zjb{a:Type}{f:Option a->V}(d:∀x,f x=V.non↔x=none)(l:List (Option a))(x:a):putN (l.map f) (f (some x))=(ji l x).map f:=by
 obtain⟨c,b⟩:=Zam d l;unfold putN ji
 by_cases z:iD l<l.length
 ·rw[if_pos z,if_pos (b.mpr z),List.map_set];exact congrArg (λk=>(l.map f).set k (f (some x))) c
 ·rw[if_neg z,if_neg (λw=>z (b.mp w)),List.map_append];rfl
theorem Zjs(p:Option (AI×AI)):pV p=V.non↔p=none:=by cases p<;>simp[pV]
theorem Lr{a:Type}(l:List (Option a))(x:a):(ji l x)[iD l]? =some (some x):=by
 unfold ji
 by_cases z:iD l<l.length
 ·rw[if_pos z,List.getElem?_set_self z]
 ·have e:iD l=l.length:=Nat.le_antisymm (Ys l) δ;rw[if_neg z,e,List.getElem?_append_right Δ,Nat.sub_self];rfl
theorem Zem{a:Type}{l:List (Option a)}{x:a}{i:Nat}{y:Option a}(hi:i≠iD l)(h:(ji l x)[i]? =some y):l[i]? =some y:=by
 unfold ji at h
 by_cases z:iD l<l.length
 ·rw[if_pos z,List.getElem?_set_ne (λw=>hi w.symm)]at h;exact h
 ·rw[if_neg z]at h;have e:iD l=l.length:=Nat.le_antisymm (Ys l) δ;have hl:=(dj h).1;rw[List.length_append,List.length_singleton]at hl;rw[List.getElem?_append_left δ]at h;exact h
theorem Zjc{a b:Type}{l:List (Option a)}{m:List (Option b)}{x:a}{y:b}(hl:l.length=m.length)(c:iD l=iD m):(ji l x).length=(ji m y).length:=by
 unfold ji
 by_cases z:iD l<l.length
 ·rw[if_pos z,if_pos δ,List.length_set,List.length_set];exact hl
 ·rw[if_neg z,if_neg δ,List.length_append,List.length_append,hl];rfl
theorem Zn5{a:Type}(l:List (Option a))(x:a):(ji l x).length<=l.length+1:=by
 unfold ji
 by_cases z:iD l<l.length
 ·rw[if_pos z,List.length_set];omega
 ·rw[if_neg z,List.length_append];exact Nat.le_refl _
theorem Zoi{d f:Type}:∀(l:List (Option d)) (m:List (Option f)),l.length=m.length->(∀(i:Nat) x y,l[i]? =some x->m[i]? =some y->(x=none↔y=none))->iD l=iD m:=by
 intro l
 induction l with
 | nil=>
  intro m hl _;cases m with
  | nil=>rfl
  | cons b m=>simp at hl
 | cons a l ih=>
  intro m hl h;cases m with
  | nil=>simp at hl
  | cons b m=>
   have c:=ih m (by simpa using hl) λi x y h1 h2=>h (i+1) x y (by simpa using h1) (by simpa using h2);have e:=h 0 a b rfl rfl;cases a with
   | none=>rw[e.mp rfl];rfl
   | some a=>cases b with
    | none=>exact absurd (e.mpr rfl) aI
    | some b=>exact congrArg (· + 1) c
section
variable {X:Cs}{H H':Hp}{T T':Tg}{s:Nat}{A:Wa}{M:Wm}
theorem WC.fst(j:WC X H T s A.cs M.cells):iD A.cs=iD M.cells:=Zoi _ _ j.lc λi p c a b=>by
 have e:=j.ce i p c a b;cases p with
 | none=>cases c with
  | none=>exact⟨λ_=>rfl,λ_=>rfl⟩
  | some c=>exact e.elim
 | some p=>cases c with
  | none=>exact e.elim
  | some c=>exact⟨λz=>(by cases z),λz=>(by cases z)⟩
theorem WJ.put(j:WJ X H T s A M)(w:WT H T)(x:s≠0){dx:AI}{used':Int}{p fa:AI}{c:Ce}(kp:∀b o,H b=some o->b≠A.hp->b≠A.ca->H' b=some o)(a1:H' A.hp=some (.ins X.H dx (je M.room A.ca used' (M.born+1))))(a2:H' A.ca=some (.lst (putN (A.cs.map pV) (.ref p))))
  (n1:H p=none) (n2:H fa=none) (N:p≠fa) (o1:∃dx,H' p=some (.ins X.C dx (jH c.birth c.bulk c.tone c.load fa))) (o2:H' fa=some (.lst (c.fl.map oV))):
  ∃T',fc s H H' T T'/\WJ X H' T' s { A with cs:=ji A.cs (p,fa) } { M with used:=used',born:=M.born+1,cells:=ji M.cells c }:=by
 obtain⟨th,tc,⟨dd,oh⟩,oc⟩:=j.jh;have i1:=j.jc.fst
 let k:=iD A.cs
 let T':Tg:=fX (fX T p (s,100+2 * k)) fa (s,101+2 * k)
 have told:∀b o,H b=some o->T' b=T b:=λb o h=>by
  show fX _ _ _ b=_;rw[iI (aF h n2),iI (aF h n1)]
 have t1:T' p=(s,100+2 * k):=by show fX _ _ _ p=_;rw[iI N,eZ]
 have t2:T' fa=(s,101+2 * k):=by show fX _ _ _ fa=_;rw[eZ]
 have al:∀b o,H b=some o->∃v,H' b=some v:=λb o h=>by
  by_cases z1:b=A.hp
  ·exact⟨_,by rw[z1];exact a1⟩
  ·by_cases E:b=A.ca
   ·exact⟨_,by rw[E];exact a2⟩
   ·exact⟨o,kp b o h z1 E⟩
 have f:rT s (λk=>k=1\/k=2) H H' T T':=⟨λb o h e n=>kp b o h (λz=>n (.inl (by rw[z,th]))) (λz=>n (.inr (by rw[z,tc]))),told⟩;have y:∀b o,H b=some o->T b=(0,0)->H' b=some o:=λb o h t=>kp b o h (Oz t th (λz=>x (congrArg Prod.fst z).symm)) (Oz t tc (λz=>x (congrArg Prod.fst z).symm));refine⟨T',⟨λb o h D=>kp b o h (λz=>D (by rw[z,th])) (λz=>D (by rw[z,tc])),al,told,λb h=>?_⟩,?_⟩
 ·have a:b≠p:=λe=>by obtain⟨d,z⟩:=o1;rw[e,z]at h;cases h
  have l:b≠fa:=λe=>by rw[e,o2]at h;cases h
  have hb:H b=none:=by
   cases z:H b with
   | none=>rfl
   | some o=>obtain⟨v,B⟩:=al b o z;rw[h]at B;cases B
  show fX _ _ _ b=_;rw[iI l,iI a];exact w b hb
 ·refine⟨?_,⟨f.tag oh th,f.tag oc tc,⟨dx,a1⟩,?_⟩,?_,?_,j.jd.mv f λ_ _ _=>δ,⟨Zjc j.jc.lc i1,λi g F r q=>?_⟩⟩
  ·obtain⟨a,l,m,u,L,K,J,I⟩:=j.jb.mv f y δ δ;exact⟨a,l,m,u,L,K,J,I⟩
  ·show H' A.ca=some (.lst ((ji A.cs (p,fa)).map pV));rw[<- Zjb Zjs];exact a2
  ·obtain⟨a,l,m⟩:=j.jn.mv f y δ;exact⟨a,l,m⟩
  ·obtain⟨a,l,m,u⟩:=j.js.mv f δ δ;exact⟨a,l,m,u⟩
  ·dsimp only at r q
   by_cases hk:i=iD A.cs
   ·subst hk;rw[Lr]at r;rw[i1,Lr]at q;cases r;cases q;exact⟨t1,t2,o1,o2⟩
   ·exact(j.jc.ce i g F (Zem hk r) (Zem (by rw[<- i1];exact hk) q)).mv f δ δ
end
def cellAt(M:Wm)(x:Int):Option Ce:=if 0<=x then(M.cells[x.toNat]?).join else none
def nZ(M:Wm):AA->AA
 | none=>none
 | some x=>(cellAt M x).map (·.birth)
def aR(M:Wm)(h k:Nat):AA:=((M.hands[h]?).bind λm=>m.2[k]?).join
def setSlot(M:Wm)(h k:Nat)(x:AA):Wm:={ M with hands:=M.hands.modify h λm=>(m.1,m.2.set k x) }
def setCell(M:Wm)(i:Int)(c:Ce):Wm:={ M with cells:=M.cells.set i.toNat (some c) }
def bI(M:Wm):AA->AA×Wm
 | none=>(none,M)
 | some i=>match cellAt M i with
  | none=>(none,M)
  | some c=>if M.sw.phase="walk"/\c.tone≠M.sw.sense then(some c.birth,{ setCell M i { c with tone:=M.sw.sense }with sw:={ M.sw with grey:=M.sw.grey++[i] } })else(none,M)
def bO(M:Wm)(h:Nat):Bool:=decide (M.sw.looked / 2 ^ h % 2=1)
def jW(M:Wm)(a birth:Int):Bool:=match cellAt M a with
 | none=>true
 | some c=>if c.birth=birth then decide (M.sw.phase="give"/\c.tone≠M.sw.sense)else true
def kY(l:List (Str×(Int×Int)))(k:Str)(v:Int×Int):List (Str×(Int×Int)):=if (l.any λm=>decide (m.1=k))=true then l.map (λm=>if m.1=k then(m.1,v)else m)else l++[(k,v)]
def p6(l:List (Str×(Int×Int)))(k:Str):Option (Int×Int):=(l.find? λm=>decide (m.1=k)).map (·.2)
def TgO(s:Nat)(t:Nat×Nat):Prop:=t.1=0\/t.1=s+1
theorem TgO.ne{s:Nat}{t:Nat×Nat}(h:TgO s t)(a:s≠0):t.1≠s:=by unfold TgO at h;omega
inductive Rf where
 | full | empty | iK | uQ
 deriving DecidableEq
structure Ev where
 word:Str
 thing:AA
 notes:AE
inductive iV where
 | make (h s:Nat) (many bulk:Int)
 | get (h s t f:Nat)
 | put (h t f s:Nat)
 | copy (h s t:Nat)
 | drop (h s:Nat)
 | give (h s g t:Nat)
 | write (h t:Nat) (load:Int)
 | read (h t:Nat)
 | name (h t:Nat) (word:Str)
 | seek (h s:Nat) (word:Str)
def old?(M:Wm):Bool:=decide (M.tells % 2=1)
def lK(M:Wm):Bool:=decide (M.tells / 2 % 2=1)
def ZV:AA->AE
 | none=>[]
 | some b=>[b]
def aQ(M:Wm):Au->AE×Wm
 | []=>([],M)
 | x::l=>(ZV (bI M x).1++(aQ (bI M x).2 l).1,(aQ (bI M x).2 l).2)
def g8(M:Wm):iV->Except Rf (Ev×Wm)
 | .make h s a bulk=>
  if M.used+(1+a+bulk)<=M.room then
   .ok (⟨"made",some (M.born+1),[]⟩,setSlot { M with used:=M.used+(1+a+bulk),born:=M.born+1,cells:=ji M.cells ⟨M.born+1,bulk,M.sw.sense,0,List.replicate a.toNat none⟩ } h s (some (iD M.cells)))
  else .error .full
 | .get h s t f=>match aR M h t with
  | none=>.error .empty
  | some x=>match cellAt M x with
   | none=>.error .empty
   | some c=>match c.fl[f]? with
    | none=>.error .iK
    | some v=>.ok (⟨"got",nZ M v,[]⟩,setSlot M h s v)
 | .put h t f s=>match aR M h t with
  | none=>.error .empty
  | some x=>match cellAt M x with
   | none=>.error .empty
   | some c=>match c.fl[f]? with
    | none=>.error .iK
    | some v=>
     let M1:=setCell M x { c with fl:=c.fl.set f (aR M h s) }
     let r:=aQ M1 ((if old? M=true then [v]else [])++if (lK M && !bO M h)=true then [aR M h s]else [])
     .ok (⟨"put",nZ M v,r.1⟩,r.2)
 | .copy h s t=>.ok (⟨"copied",nZ M (aR M h t),[]⟩,setSlot M h s (aR M h t))
 | .drop h s=>.ok (⟨"dropped",nZ M (aR M h s),[]⟩,setSlot M h s none)
 | .give h s g t=>
  let r:=aQ (setSlot M g t (aR M h s)) (if (lK M && !bO M h)=true then [aR M h s]else [])
  .ok (⟨"given",nZ M (aR M h s),r.1⟩,r.2)
 | .write h t load=>match aR M h t with
  | none=>.error .empty
  | some x=>match cellAt M x with
   | none=>.error .empty
   | some c=>.ok (⟨"wrote",some c.load,[]⟩,setCell M x { c with load:=load })
 | .read h t=>match aR M h t with
  | none=>.error .empty
  | some x=>match cellAt M x with
   | none=>.error .empty
   | some c=>.ok (⟨"read",some c.load,[]⟩,M)
 | .name h t word=>match aR M h t with
  | none=>.error .empty
  | some x=>match cellAt M x with
   | none=>.error .empty
   | some c=>.ok (⟨"named",some c.birth,[]⟩,{ M with names:=kY M.names word (x,c.birth) })
 | .seek h s word=>match p6 M.names word with
  | none=>.error .uQ
  | some (p,b)=>
   if jW M p b=true then .ok (⟨"sought",none,[]⟩,setSlot M h s none)
   else
    let r:=aQ (setSlot M h s (some p)) [some p]
    .ok (⟨"sought",some b,r.1⟩,r.2)
def dV:iV->List V
 | .make h s a bulk=>[.str "make",.int h,.int s,.int a,.int bulk]
 | .get h s t f=>[.str "get",.int h,.int s,.int t,.int f]
 | .put h t f s=>[.str "put",.int h,.int t,.int f,.int s]
 | .copy h s t=>[.str "copy",.int h,.int s,.int t]
 | .drop h s=>[.str "drop",.int h,.int s]
 | .give h s g t=>[.str "give",.int h,.int s,.int g,.int t]
 | .write h t load=>[.str "write",.int h,.int t,.int load]
 | .read h t=>[.str "read",.int h,.int t]
 | .name h t word=>[.str "name",.int h,.int t,.str word]
 | .seek h s word=>[.str "seek",.int h,.int s,.str word]
def uM(M:Wm)(h s:Nat):Prop:=∃m,M.hands[h]? =some m/\s<m.2.length
def okD(M:Wm):iV->Prop
 | .make h s a bulk=>uM M h s/\0<=a/\a<=1000/\0<=bulk
 | .get h s t _=>uM M h s/\uM M h t
 | .put h t _ s=>uM M h t/\uM M h s
 | .copy h s t=>uM M h s/\uM M h t
 | .drop h s=>uM M h s
 | .give h s g t=>uM M h s/\uM M g t
 | .write h t _=>uM M h t
 | .read h t=>uM M h t
 | .name h t _=>uM M h t
 | .seek h s _=>uM M h s
structure Ok(M:Wm):Prop where
 sl:∀m∈M.hands,∀x,some x∈m.2->∃c,cellAt M x=some c
 fl:∀c,some c∈M.cells->∀x,some x∈c.fl->∃d,cellAt M x=some d
 tn:∀c,some c∈M.cells->c.tone=0\/c.tone=1
def Rn(a c d b:AI):Rf->AI
 | .full=>a
 | .empty=>c
 | .iK=>d
 | .uQ=>b
def EvN(b H:Hp)(T:Tg)(s:Nat)(a:AI)(e:Ev):Prop:=∃l,(b l=none/\TgO s (T l)/\TgO s (T a))/\H a=some (.tup [.str e.word,oV e.thing,.ref l])/\H l=some (.lst (e.notes.map V.int))
theorem rC{H:Hp}{T:Tg}{s:Nat}{l:AI}(w:WT H T)(a:s≠0)(n:H l=none):H l=none/\TgO s (T l):=⟨n,by rw[w l n];exact .inl rfl⟩
inductive uA(X:Cs)(rf:Rf->AI)(P:iV->Prop)(wo dd:AI)(H:Hp)(Q:VK)(E:XK):Prop
 | mk (T s A M d) (_:P d) (_:WT H T) (_:s≠0) (_:WJ X H T s A M) (_:A.wo=wo) (_:H dd=some (.tup (dV d))) (_:okD M d) (_:M.cells.length<=900) (_:(M.sw.phase="walk"->M.sw.grey.length<=10000)) (_:(0<=M.tells/\M.tells<4)) (_:M.names.length<=1000) (_:(∀r,g8 M d=.error r->∀H',bx H H'->E (.ref (rf r)) none H')) (_:(∀e M',g8 M d=.ok (e,M')->∀H' T' A' a,fc s H H' T T'->WJ X H' T' s A' M'->A'.wo=wo->EvN H H' T' s a e->Q (.ref a) H')):uA X rf P wo dd H Q E
def cP(X:Cs)(a:Rf->AI)(P:iV->Prop):Sp:=λvs H Q E=>∃wo dd,vs=[.ref wo,.ref dd]/\uA X a P wo dd H Q E
abbrev Zv0(X:Cs)(rf:Rf->AI):Sp:=cP X rf λ_=>True
theorem Zgl{b:Type}{l:List (Option b)}{x a:b}{i:Nat}(h:l[i]? =some (some a)):(ji l x)[i]? =some (some a):=by
 have hl:=(dj h).1;unfold ji
 by_cases z:iD l<l.length
 ·have hi:i≠iD l:=λe=>by rw[e,Zoj z]at h;cases h
  rw[if_pos z,List.getElem?_set_ne (λw=>hi w.symm)];exact h
 ·rw[if_neg z,List.getElem?_append_left hl];exact h
theorem cF{M:Wm}{x:Int}{c:Ce}:cellAt M x=some c↔0<=x/\M.cells[x.toNat]? =some (some c):=by
 unfold cellAt
 by_cases z:0<=x
 ·rw[if_pos z];cases e:M.cells[x.toNat]? with
  | none=>simp
  | some y=>cases y with
   | none=>simp
   | some d=>simp[z]
 ·rw[if_neg z];simp[z]
theorem qe{M:Wm}{x:Int}{c:Ce}(h:cellAt M x=some c):some c∈M.cells:=List.mem_of_getElem? (cF.mp h).2
theorem BP{M:Wm}{x u b:Int}{c d:Ce}(h:cellAt M x=some d):cellAt { M with used:=u,born:=b,cells:=ji M.cells c } x=some d:=by
 obtain⟨a,h1⟩:=cF.mp h;exact cF.mpr ⟨a,Zgl h1⟩
theorem qd{M:Wm}{u b:Int}{c:Ce}:cellAt { M with used:=u,born:=b,cells:=ji M.cells c } (iD M.cells)=some c:=
 cF.mpr ⟨δ,by rw[Int.toNat_natCast];exact Lr _ _⟩
theorem Zkj{a:Type}{l:List (Option a)}{x:a}{y:Option a}(h:y∈ji l x):y∈l\/y=some x:=by
 unfold ji at h
 by_cases z:iD l<l.length
 ·rw[if_pos z]at h;rcases List.mem_or_eq_of_mem_set h with h | h
  ·exact .inl h
  ·exact .inr h
 ·rw[if_neg z]at h;rcases List.mem_append.mp h with h | h
  ·exact .inl h
  ·exact .inr (List.mem_singleton.mp h)
theorem Zgf{M:Wm}{h k:Nat}{m:Str×Au}{x:AA}(hm:M.hands[h]? =some m)(hk:m.2[k]? =some x):aR M h k=x:=by
 unfold aR;rw[hm];show(m.2[k]?).join=x;rw[hk];rfl
theorem Om{M:Wm}{h k:Nat}(o:uM M h k):∃m,M.hands[h]? =some m/\m.2[k]? =some (aR M h k)/\k<m.2.length:=by
 obtain⟨m,hm,hk⟩:=o;refine⟨m,hm,?_,hk⟩;rw[Zgf hm (bL hk)];exact bL hk
theorem RM{M:Wm}{h k:Nat}{x:AA}{m:Str×Au}(hm:M.hands[h]? =some m):(setSlot M h k x).hands=M.hands.set h (m.1,m.2.set k x):=by
 show M.hands.modify h _=_;refine List.ext_getElem? ?_;intro i;rw[List.getElem?_modify]
 by_cases e:h=i
 ·subst e;rw[List.getElem?_set_self (dj hm).1,hm];simp
 ·rw[List.getElem?_set_ne e];simp[e]
theorem jJ{M:Wm}{h k:Nat}{x:AA}{y:AA}:nZ (setSlot M h k x) y=nZ M y:=by cases y<;>rfl
def rowsOf(M:Wm):List Au:=M.hands.map λm=>m.2.map (nZ M)
theorem Zgj{M:Wm}{h k:Nat}(o:uM M h k):∃r,(rowsOf M)[h]? =some r/\r[k]? =some (nZ M (aR M h k))/\k<r.length:=by
 obtain⟨m,hm,hk,hl⟩:=Om o;refine⟨m.2.map (nZ M),?_,?_,by rw[bA];exact hl⟩
 ·unfold rowsOf;rw[cL,hm];rfl
 ·rw[cL,hk];rfl
theorem Ou{M:Wm}(h:M.sw.phase≠"walk")(x:AA):bI M x=(none,M):=by
 cases x with
 | none=>rfl
 | some x=>
  unfold bI;dsimp only;cases cellAt M x with
  | none=>rfl
  | some c=>
   dsimp only;rw[if_neg (λz=>h z.1)]
theorem JG:∀{l:Au}{M:Wm},M.sw.phase≠"walk"->aQ M l=([],M)
 | [],_,_=>rfl
 | x::l,M,h=>by
  show(ZV (bI M x).1++(aQ (bI M x).2 l).1,(aQ (bI M x).2 l).2)=_;rw[Ou h];show(ZV none++(aQ M l).1,(aQ M l).2)=_;rw[JG h];rfl
theorem Ke{M:Wm}{h s:Nat}{a bulk:Int}(b:M.used+(1+a+bulk)<=M.room):g8 M (.make h s a bulk)=.ok (⟨"made",some (M.born+1),[]⟩,setSlot { M with used:=M.used+(1+a+bulk),born:=M.born+1,cells:=ji M.cells ⟨M.born+1,bulk,M.sw.sense,0,List.replicate a.toNat none⟩ } h s (some (iD M.cells))):=by
 show(if _ then _ else _)=_;rw[if_pos b]
structure lW(K:aD)(X:Cs):Prop where
 c:TxC K X.C X.H
 cW:Lj K X.W
 R6:cQ K X.W "heap"
 nWk:cQ K X.W "kind"
 nWd:cQ K X.W "hands"
 nWn:cQ K X.W "names"
 Vn:cQ K X.W "sweeper"
 cD:Lj K X.D
 nDn:cQ K X.D "name"
 nDs:cQ K X.D "slots"
 cK:Lj K X.K
 nKl:cQ K X.K "looking"
 nKt:cQ K X.K "tells"
 cS:Lj K X.S
 n1:cQ K X.S "sense"
 n2:cQ K X.S "phase"
 n3:cQ K X.S "grey"
 n4:cQ K X.S "looked"
 n5:cQ K X.S "turn"
 n6:cQ K X.S "at"
 n7:cQ K X.S "stop"
 n8:cQ K X.S "walks"
 n9:cQ K X.S "looks"
 n10:cQ K X.S "passes"
 n11:cQ K X.S "loss"
structure WJ0(X:Cs)(H:Hp)(T:Tg)(s:Nat)(A:Wa)(M:Wm):Prop where
 jb:WB X H T s A M.w M.tells
 jh:WH X H T s A M.room M.used M.born
 js:WS X H T s A M.sw
 jd:WD X H T s A.hs M.hands
 jc:WC X H T s A.cs M.cells
theorem WJ.w0{X:Cs}{H:Hp}{T:Tg}{s:Nat}{A:Wa}{M:Wm}(j:WJ X H T s A M):WJ0 X H T s A M:=⟨j.jb,j.jh,j.js,j.jd,j.jc⟩
theorem WJ.names{X:Cs}{H:Hp}{T:Tg}{s:Nat}{A:Wa}{M:Wm}{o:HO}(j:WJ X H T s A M)(a:s≠0):WJ0 X (upd H A.nm o) T s A M:=by
 have f:rT s (·=6) H (upd H A.nm o) T T:=rT.yj j.jn.tm;exact⟨j.jb.mv f (kE a j.jn.tm) δ δ,j.jh.mv f δ δ,j.js.mv f δ δ,j.jd.mv f λ_ _ _=>δ,j.jc.mv f λ_ _=>δ⟩
theorem WJ0.same{X:Cs}{H H':Hp}{T:Tg}{s:Nat}{A:Wa}{M:Wm}(j:WJ0 X H T s A M)(e:bx H H'):WJ0 X H' T s A M:=by
 have f:rT s (λ_=>False) H H' T T:=rT.of_same e;exact⟨j.jb.mv f (λb o h _=>e b o h) id id,j.jh.mv f id id,j.js.mv f id id,j.jd.mv f λ_ _ _=>id,j.jc.mv f λ_ _=>id⟩
def atO(cs:List V):V->V
 | .int i=>if 0<=i then(cs[i.toNat]?).getD .non else .non
 | _=>.non
inductive Ir(CH:AI)(hp:AI)(pl:V)(H:Hp)(Q:VK):Prop
 | mk (_:(pl=.non\/∃i,pl=.int i)) (ca room used born cs) (_:HpO CH H hp ca room used born cs) (_:Q (atO cs pl) H):Ir CH hp pl H Q
def jt(a:AI):Sp:=λvs H Q E=>∃hp pl,vs=[.ref hp,pl]/\Ir a hp pl H Q
def cO(M:Wm)(x:AA):Option Ce:=x.bind (cellAt M)
inductive Cd(X:Cs)(hp:AI)(pl:V)(H:Hp)(Q:VK):Prop
 | mk (x) (_:pl=oV x) (T s A M) (_:WJ X H T s A M) (_:A.hp=hp) (_:Q (oV (nZ M x)) H):Cd X hp pl H Q
def jl(X:Cs):Sp:=λvs H Q E=>∃hp pl,vs=[.ref hp,pl]/\Cd X hp pl H Q
inductive yL(X:Cs)(p:AI)(f:Int)(H:Hp)(Q:VK):Prop
 | mk (T s i q c) (_:CeO X.C H T s i q c) (_:q.1=p) (_:Q (.bl (decide (0<=f) && decide (f<c.fl.length))) H):yL X p f H Q
def Kh(X:Cs):Sp:=λvs H Q E=>∃p f,vs=[.ref p,.int f]/\yL X p f H Q
inductive BX(X:Cs)(wo:AI)(h:Int)(H:Hp)(Q:VK):Prop
 | mk (T s A M k p) (_:WJ X H T s A M) (_:A.wo=wo) (_:h=((k:Nat):Int)) (_:A.hs[k]? =some p) (_:Q (.ref p.2) H):BX X wo h H Q
def iG(X:Cs):Sp:=λvs H Q E=>∃wo h,vs=[.ref wo,.int h]/\BX X wo h H Q
inductive yK(X:Cs)(wo:AI)(p:AI)(H:Hp)(Q:VK):Prop
 | mk (T s A M i q c) (_:WJ0 X H T s A M) (_:A.wo=wo) (_:CeO X.C H T s i q c) (_:q.1=p) (_:Q (.bl (decide (c.tone=M.sw.sense))) H):yK X wo p H Q
def jg(X:Cs):Sp:=λvs H Q E=>∃wo p,vs=[.ref wo,.ref p]/\yK X wo p H Q
inductive yJ(X:Cs)(wo:AI)(h:Int)(H:Hp)(Q:VK):Prop
 | mk (T s A M k) (_:WJ X H T s A M) (_:A.wo=wo) (_:h=((k:Nat):Int)) (_:Q (.bl (bO M k)) H):yJ X wo h H Q
def Kg(X:Cs):Sp:=λvs H Q E=>∃wo h,vs=[.ref wo,.int h]/\yJ X wo h H Q
inductive BR(X:Cs)(wo:AI)(v:V)(H:Hp)(Q:VK):Prop
 | mk (T s A M) (_:WJ X H T s A M) (_:A.wo=wo) (_:(0<=M.tells/\M.tells<4)) (_:∀l,H l=none->Q (.ref l) (upd H l (.lst (if old? M=true then [v]else [])))):BR X wo v H Q
def Q5(X:Cs):Sp:=λvs H Q E=>∃wo v,vs=[.ref wo,v]/\BR X wo v H Q
inductive BV(X:Cs)(wo:AI)(h:Int)(v:V)(H:Hp)(Q:VK):Prop
 | mk (T s A M k) (_:WJ X H T s A M) (_:A.wo=wo) (_:(0<=M.tells/\M.tells<4)) (_:h=((k:Nat):Int)) (_:∀l,H l=none->Q (.ref l) (upd H l (.lst (if (lK M && !bO M k)=true then [v]else [])))):BV X wo h v H Q
def Cj(X:Cs):Sp:=λvs H Q E=>∃wo h v,vs=[.ref wo,.int h,v]/\BV X wo h v H Q
inductive Io(X:Cs)(CE:AI)(wo:AI)(h:Int)(t:Int)(H:Hp)(Q:VK)(E:XK):Prop
 | mk (T s A M hn tn) (_:WJ X H T s A M) (_:A.wo=wo) (_:h=((hn:Nat):Int)) (_:t=((tn:Nat):Int)) (_:uM M hn tn) (_:(cO M (aR M hn tn)=none->E (.ref CE) none H)) (_:(∀i c p,aR M hn tn=some i->0<=i->cellAt M i=some c->A.cs[i.toNat]? =some (some p)->CeO X.C H T s i.toNat p c->Q (.ref p.1) H)):Io X CE wo h t H Q E
def uy(X:Cs)(CE:AI):Sp:=λvs H Q E=>∃wo h t,vs=[.ref wo,.int h,.int t]/\Io X CE wo h t H Q E
inductive yM(X:Cs)(CE:AI)(CF:AI)(wo:AI)(h:Int)(t:Int)(f:Int)(H:Hp)(Q:VK)(E:XK):Prop
 | mk (T s A M hn tn fn) (_:WJ X H T s A M) (_:A.wo=wo) (_:h=((hn:Nat):Int)) (_:t=((tn:Nat):Int)) (_:f=((fn:Nat):Int)) (_:uM M hn tn) (_:(cO M (aR M hn tn)=none->E (.ref CE) none H)) (_:(∀i c,aR M hn tn=some i->0<=i->cellAt M i=some c->c.fl[fn]? =none->E (.ref CF) none H)) (_:(∀i c p,aR M hn tn=some i->0<=i->cellAt M i=some c->A.cs[i.toNat]? =some (some p)->CeO X.C H T s i.toNat p c->fn<c.fl.length->Q (.ref p.2) H)):yM X CE CF wo h t f H Q E
def yU(X:Cs)(CE a:AI):Sp:=λvs H Q E=>∃wo h t f,vs=[.ref wo,.int h,.int t,.int f]/\yM X CE a wo h t f H Q E
inductive Zdu(X:Cs)(wo:AI)(pl:V)(H:Hp)(Q:VK):Prop
 | mk (x) (_:pl=oV x) (T s A M) (_:WT H T) (_:s≠0) (_:WJ X H T s A M) (_:A.wo=wo) (_:(M.sw.phase="walk"->M.sw.grey.length<=20000)) (_:∀H',fc s H H' T T->WJ X H' T s A (bI M x).2->Q (oV (bI M x).1) H'):Zdu X wo pl H Q
def Zmf(X:Cs):Sp:=λvs H Q E=>∃wo pl,vs=[.ref wo,pl]/\Zdu X wo pl H Q
def PlO(H:Hp)(T:Tg)(A:Wa)(M:Wm)(pl:AI)(xs:Au):Prop:=(H pl=some (.lst (xs.map oV))/\T pl=(0,0))\/(∃(k:Nat) (p:AI×AI) (m:Str×Au),A.hs[k]? =some p/\M.hands[k]? =some m/\pl=p.2/\xs=m.2)\/(∃(k:Nat) (p:AI×AI) (c:Ce),A.cs[k]? =some (some p)/\M.cells[k]? =some (some c)/\pl=p.2/\xs=c.fl)
theorem PlO.get{X:Cs}{H:Hp}{T:Tg}{s:Nat}{A:Wa}{M:Wm}{pl:AI}{xs:Au}(h:PlO H T A M pl xs)(j:WJ X H T s A M):H pl=some (.lst (xs.map oV)):=by
 rcases h with ⟨h,_⟩ | ⟨k,p,m,h1,h2,rfl,rfl⟩ | ⟨k,p,c,h1,h2,rfl,rfl⟩
 ·exact h
 ·exact(j.jd.hd k p m h1 h2).o2
 ·have e:=j.jc.ce k _ _ h1 h2;exact(show CeO X.C H T s k p c from e).o2
inductive BZ(X:Cs)(wo:AI)(pl:AI)(H:Hp)(Q:VK):Prop
 | mk (xs T s A M) (_:WT H T) (_:s≠0) (_:WJ X H T s A M) (_:A.wo=wo) (_:PlO H T A M pl xs) (_:xs.length<=100) (_:(M.sw.phase="walk"->M.sw.grey.length<=10000)) (_:∀H' T' l,fc s H H' T T'->WJ X H' T' s A (aQ M xs).2->H' l=some (.lst ((aQ M xs).1.map V.int))->(H l=none/\TgO s (T' l))->Q (.ref l) H'):BZ X wo pl H Q
def mH(X:Cs):Sp:=λvs H Q E=>∃wo pl,vs=[.ref wo,.ref pl]/\BZ X wo pl H Q
inductive Zdw(X:Cs)(wo:AI)(p:Int)(b:Int)(H:Hp)(Q:VK):Prop
 | mk (T s A M) (_:WJ0 X H T s A M) (_:A.wo=wo) (_:Q (.bl (jW M p b)) H):Zdw X wo p b H Q
def Zdy(X:Cs):Sp:=λvs H Q E=>∃wo p b,vs=[.ref wo,.int p,.int b]/\Zdw X wo p b H Q
inductive rR(X:Cs)(CN:AI)(wo:AI)(z:Str)(H:Hp)(Q:VK)(E:XK):Prop
 | mk (T s A M) (_:WJ X H T s A M) (_:A.wo=wo) (_:(p6 M.names z=none->E (.ref CN) none H)) (_:(∀p b,p6 M.names z=some (p,b)->Q (if jW M p b=true then .non else .int p) H)):rR X CN wo z H Q E
def Bm(X:Cs)(a:AI):Sp:=λvs H Q E=>∃wo z,vs=[.ref wo,.str z]/\rR X a wo z H Q E
theorem tU(x:AA):oV x=.non\/∃i,oV x=.int i:=by cases x with
 | none=>exact .inl rfl
 | some i=>exact .inr ⟨i,rfl⟩
section
variable {X:Cs}{H H':Hp}{T T':Tg}{s:Nat}{A:Wa}{M:Wm}
theorem WJ0.hpO(j:WJ0 X H T s A M):HpO X.H H A.hp A.ca M.room M.used M.born (A.cs.map pV):=⟨j.jh.oh,j.jh.oc⟩
theorem WJ0.look(j:WJ0 X H T s A M)(x:AA):(cO M x=none/\atO (A.cs.map pV) (oV x)=.non)\/∃i c p,x=some i/\0<=i/\cellAt M i=some c/\M.cells[i.toNat]? =some (some c)/\A.cs[i.toNat]? =some (some p)/\atO (A.cs.map pV) (oV x)=.ref p.1/\CeO X.C H T s i.toNat p c:=by
 cases x with
 | none=>exact .inl ⟨rfl,rfl⟩
 | some i=>
  show(cellAt M i=none/\atO _ (.int i)=_)\/_
  by_cases a:0<=i
  ·cases hc:M.cells[i.toNat]? with
   | none=>
    have hl:A.cs[i.toNat]? =none:=by
     rw[List.getElem?_eq_none_iff]at hc ⊢;rw[j.jc.lc];exact hc
    refine .inl ⟨by unfold cellAt;rw[if_pos a,hc];rfl,?_⟩;show(if 0<=i then _ else _)=_;rw[if_pos a,cL,hl];rfl
   | some y=>cases y with
    | none=>
     refine .inl ⟨by unfold cellAt;rw[if_pos a,hc];rfl,?_⟩;show(if 0<=i then _ else _)=_;rw[if_pos a,cL,j.jc.at0 hc];rfl
    | some c=>
     obtain⟨p,hp,e⟩:=j.jc.at hc;refine .inr ⟨i,c,p,rfl,a,by unfold cellAt;rw[if_pos a,hc];rfl,hc,hp,?_,e⟩;show(if 0<=i then _ else _)=_;rw[if_pos a,cL,hp];rfl
  ·refine .inl ⟨by unfold cellAt;rw[if_neg a],?_⟩;show(if 0<=i then _ else _)=_;rw[if_neg a]
theorem WJ.hpO(j:WJ X H T s A M):HpO X.H H A.hp A.ca M.room M.used M.born (A.cs.map pV):=j.w0.hpO
theorem WJ.look(j:WJ X H T s A M)(x:AA):(cO M x=none/\atO (A.cs.map pV) (oV x)=.non)\/∃i c p,x=some i/\0<=i/\cellAt M i=some c/\M.cells[i.toNat]? =some (some c)/\A.cs[i.toNat]? =some (some p)/\atO (A.cs.map pV) (oV x)=.ref p.1/\CeO X.C H T s i.toNat p c:=j.w0.look x
theorem WJ.hand(j:WJ X H T s A M){k:Nat}{p:AI×AI}(hp:A.hs[k]? =some p):∃m,M.hands[k]? =some m/\HdO X.D H T s k p m:=by
 have hl:k<M.hands.length:=by rw[<- j.jd.lh];exact(dj hp).1
 exact⟨_,bL hl,j.jd.hd k p _ hp (bL hl)⟩
theorem WJ.handOf(j:WJ X H T s A M){h t:Nat}(o:uM M h t):∃p m,A.hs[h]? =some p/\M.hands[h]? =some m/\m.2[t]? =some (aR M h t)/\t<m.2.length/\HdO X.D H T s h p m:=by
 obtain⟨m,hm,hk,hl⟩:=Om o;have a:h<A.hs.length:=by rw[j.jd.lh];exact(dj hm).1
 exact⟨_,m,bL a,hm,hk,hl,j.jd.hd h _ m (bL a) hm⟩
theorem WJ.fresh(j:WJ X H T s A M){l:AI}{o:HO}{v:Nat×Nat}(h:H l=none):WJ X (upd H l o) (fX T l v) s A M:=
 j.mv (H':=upd H l o) (T':=fX T l v) ⟨λb u e _ _=>by rw[aA (aF e h)];exact e,λb u e=>iI (aF e h)⟩ λb u e _=>by rw[aA (aF e h)];exact e
end
theorem Zux{t:Int}(h:0<=t/\t<4):Builtin.bitAnd t 1=t % 2/\(Builtin.bitAnd t 2=0↔¬ t / 2 % 2=1):=by
 have:t=0\/t=1\/t=2\/t=3:=δ
 rcases this with rfl | rfl | rfl | rfl<;>decide
section
variable {K:aD}{X:Cs}{H:Hp}{Q:VK}{E:XK}{n:μ}{bk ct:μ}
theorem Zdo{hp:AI}{pl:V}(T:lW K X)(q:Ir X.H hp pl H Q):Nz K ν [↑hp,some pl] H:=by
 obtain⟨a,ca,room,used,born,cs,⟨⟨b,h1⟩,h2⟩,q⟩:=q;unfold Nz;rcases a with rfl | ⟨i,rfl⟩
 ·apply q
 ·apply pY (λz=>?_) (λz=>?_)
  ·ext;rw[show atO cs (.int i)=.non from if_neg δ]at q;exact q
  ·rw[show atO cs (.int i)=(cs[i.toNat]?).getD .non from if_pos δ]at q;apply aH h1 T.c.dg T.c.cB cj ?_;apply eO (cJ.of h2) ?_;apply pY (λy=>?_) (λy=>?_)
   ·ext;rw[List.getElem?_eq_none_iff.mpr δ]at q;exact q
   ·apply aH h1 T.c.dg T.c.cB cj ?_;ext;have hl:i.toNat<cs.length:=δ
    refine eF (cJ.of h2) (mY δ (bL hl)) ?_;rw[bL hl]at q;exact q
theorem Zb2{hp:AI}{pl:V}(T:lW K X)(q:Cd X hp pl H Q):Jv K (jt X.H) ν [↑hp,some pl,none] H:=by
 obtain⟨x,rfl,Tg,s,A,M,j,rfl,q⟩:=q;unfold Jv;exists _,_,rfl,tU x,_,_,_,_,_,j.hpO;rcases j.look x with ⟨d,a⟩ | ⟨i,c,p,rfl,e,b,_,_,a,⟨t1,t2,⟨f,o1⟩,o2⟩⟩
 ·rw[a];have:nZ M x=none:=by
   cases x with
   | none=>rfl
   | some i=>show(cellAt M i).map _=none;rw[show cellAt M i=none from d];rfl
  rw[this]at q;apply q
 ·rw[a];have:nZ M (some i)=some c.birth:=by show(cellAt M i).map _=_;rw[b];rfl
  rw[this]at q;apply aH o1 T.c.dW T.c.eY fW ?_;exact q
theorem GX{p:AI}{f:Int}(T:lW K X)(q:yL X p f H Q):qM K ν [↑p,some (.int f)] H:=by
 obtain⟨Tg,s,i,r,c,⟨t1,t2,⟨a,o1⟩,o2⟩,rfl,q⟩:=q;unfold qM;apply pY (λz=>?_) (λz=>?_)
 ·rw[decide_eq_true z,Bool.true_and]at q;apply aH o1 T.c.dW T.c.gK jq ?_;apply eO (cJ.of o2) ?_;ext;rw[bA];exact q
 ·rw[decide_eq_false z,Bool.false_and]at q;apply q
theorem Zh{wo:AI}{h:Int}(T:lW K X)(q:BX X wo h H Q):Js K ν [↑wo,some (.int h)] H:=by
 obtain⟨Tg,s,A,M,k,p,j,rfl,rfl,hp,q⟩:=q;obtain⟨d1,ow⟩:=j.jb.ow;obtain⟨m,hm,⟨t1,t2,⟨a,o1⟩,o2⟩⟩:=j.hand hp;unfold Js;apply aH ow T.cW T.nWd dU ?_;apply eF (cJ.of j.jb.on) (eN (v:=.ref p.1) (by rw[cL,hp];rfl)) ?_;refine aH o1 T.cD T.nDs pZ ?_;exact q
theorem Yq{wo p:AI}(T:lW K X)(q:yK X wo p H Q):Dv K ν [↑wo,↑p] H:=by
 obtain⟨Tg,s,A,M,i,r,c,j,rfl,⟨t1,t2,⟨a,o1⟩,o2⟩,rfl,q⟩:=q;obtain⟨d1,ow⟩:=j.jb.ow;obtain⟨d2,os⟩:=j.js.os;unfold Dv;apply aH o1 T.c.dW T.c.nA Th ?_;apply aH ow T.cW T.Vn bC ?_;apply aH os T.cS T.n1 jX ?_;apply q
end
theorem Zsm{y:Int}:Builtin.bitAnd y 1=y % 2:=by
 unfold Builtin.bitAnd
 by_cases h:0<=y
 ·rw[decide_eq_true h,decide_eq_true (show(0:Int)<=1 by decide)];show((y.toNat &&& 1:Nat):Int)=_;rw[Nat.and_one_is_mod];omega
 ·rw[decide_eq_false h,decide_eq_true (show(0:Int)<=1 by decide)];show(1:Int) - ((1 &&& (Builtin.bitNot y).toNat:Nat):Int)=_;rw[Nat.and_comm,Nat.and_one_is_mod];unfold Builtin.bitNot;omega
section
variable {K:aD}{X:Cs}{H:Hp}{Q:VK}{E:XK}{n:μ}{bk ct:μ}{CE CF CN:AI}
theorem Xz{wo:AI}{h:Int}(T:lW K X)(q:yJ X wo h H Q):Du K ν [↑wo,some (.int h)] H:=by
 obtain⟨Tg,s,A,M,k,j,rfl,rfl,q⟩:=q;obtain⟨d1,ow⟩:=j.jb.ow;obtain⟨d2,os⟩:=j.js.os;unfold Du;apply aH ow T.cW T.Vn bC ?_;apply aH os T.cS T.n4 gO ?_;ext;rw[Zsm,Int.toNat_natCast];exact q
theorem Mm{wo:AI}{v:V}(T:lW K X)(q:BR X wo v H Q):
  xM K ν [↑wo,some v] H:=by
 obtain⟨Tg,s,A,M,j,rfl,b,q⟩:=q;obtain⟨d1,ow⟩:=j.jb.ow;obtain⟨d2,ok⟩:=j.jb.ok;obtain⟨a,_⟩:=Zux b;unfold xM;apply aH ow T.cW T.nWk iR ?_;apply aH ok T.cK T.nKt gY ?_;ext;rw[a];refine pY (λz=>?_) (λz=>?_)
 ·apply⟨bG ζ,λl hl=>?_⟩;have:=q l hl;rw[if_neg (by unfold old?;rw[decide_eq_true_iff];omega)]at this;exact this
 ·apply⟨bG ζ,λl hl=>?_⟩;have:=q l hl;rw[if_pos (by unfold old?;rw[decide_eq_true_iff];omega)]at this;exact this
theorem Mp{wo:AI}{h:Int}{v:V}(T:lW K X)(q:BV X wo h v H Q):
  xN K (Kg X) ν [↑wo,some (.int h),some v] H:=by
 obtain⟨Tg,s,A,M,k,j,rfl,b,rfl,q⟩:=q;obtain⟨d1,ow⟩:=j.jb.ow;obtain⟨d2,ok⟩:=j.jb.ok;obtain⟨_,a⟩:=Zux b;unfold xN;apply aH ow T.cW T.nWk iR ?_;apply aH ok T.cK T.nKt gY ?_;apply pY (λz=>?_) (λz=>?_)
 ·apply⟨bG ζ,λl hl=>?_⟩;have:=q l hl;have e:lK M=false:=by unfold lK;exact decide_eq_false (a.mp z)
  rw[e,Bool.false_and,if_neg ε]at this;exact this
 ·have e:lK M=true:=by unfold lK;exact decide_eq_true (Decidable.not_not.mp λw=>z (a.mpr w))
  rw[e,Bool.true_and]at q;exists _,_,rfl,Tg,s,A,M,k,j,rfl,rfl;cases hl:bO M k with
  | true=>
   rw[hl]at q;apply⟨bG ζ,λl hl=>?_⟩;exact q l hl
  | false=>
   rw[hl]at q;apply⟨bG ζ,λl hl=>?_⟩;exact q l hl
theorem Zdn{wo:AI}{h t:Int}(T:lW K X)(q:Io X CE wo h t H Q E):
  Ny K CE (jt X.H) (iG X) E ν [↑wo,some (.int h),some (.int t),none] H:=by
 obtain⟨Tg,s,A,M,hn,tn,j,rfl,rfl,rfl,ok,l,f⟩:=q;obtain⟨d1,ow⟩:=j.jb.ow;obtain⟨p,m,hp,hm,hs,hl,⟨t1,t2,o1,o2⟩⟩:=j.handOf ok;unfold Ny;apply aH ow T.cW T.R6 bJ ?_;exists _,_,rfl,Tg,s,A,M,hn,p,j,rfl,rfl,hp;apply eF (cJ.of o2) (eN (v:=oV (aR M hn tn)) (by rw[cL,hs];rfl)) ?_;exists _,_,rfl,tU _,_,_,_,_,_,j.hpO;rcases j.look (aR M hn tn)with ⟨k,a⟩ | ⟨i,c,o,d,e,g,_,b,a,ce⟩
 ·rw[a];apply⟨ε,l k⟩
 ·rw[a];apply f i c o d e g b ce
theorem Yu{wo:AI}{h t f:Int}(T:lW K X)(q:yM X CE CF wo h t f H Q E):
  Dw K X.C CF (Kh X) (uy X CE) E ν [↑wo,some (.int h),some (.int t),some (.int f),none] H:=by
 obtain⟨Tg,s,A,M,hn,tn,fn,j,rfl,rfl,rfl,rfl,ok,k,e,g⟩:=q;unfold Dw;apply⟨_,_,_,rfl,Tg,s,A,M,hn,tn,j,rfl,rfl,rfl,ok,k,λi c p a b d hp ce=>?_⟩;obtain⟨t1,t2,⟨l,o1⟩,o2⟩:=id ce;exists p.1,l,_,rfl,o1,BL;exists _,_,rfl,Tg,s,_,p,c,ce,rfl
 by_cases z:fn<c.fl.length
 ·rw[show(decide ((0:Int)<=(fn:Int)) && decide ((fn:Int)<c.fl.length))=true from by simp;omega];apply aH o1 T.c.dW T.c.gK jq ?_;exact g i c p a b d hp ce z
 ·rw[show(decide ((0:Int)<=(fn:Int)) && decide ((fn:Int)<c.fl.length))=false from by simp;omega];apply⟨ε,e i c a b d (List.getElem?_eq_none_iff.mpr δ)⟩
theorem Zoh{wo:AI}{pl b:Int}(T:lW K X)(q:Zdw X wo pl b H Q):Zek K (jt X.H) (jg X) ν [↑wo,some (.int pl),some (.int b),none] H:=by
 obtain⟨Tg,s,A,M,j,rfl,q⟩:=q;obtain⟨d1,ow⟩:=j.jb.ow;obtain⟨d2,os⟩:=j.js.os;unfold Zek;apply aH ow T.cW T.R6 bJ ?_;exists _,_,rfl,tU (some pl),_,_,_,_,_,j.hpO;unfold jW at q;rcases j.look (some pl)with ⟨e,a⟩ | ⟨i,c,p,f,g,d,_,hp,a,ce⟩
 ·rw[show atO (A.cs.map pV) (.int pl)=.non from a];rw[show cellAt M pl=none from e]at q;apply q
 ·cases f;rw[show atO (A.cs.map pV) (.int pl)=.ref p.1 from a];rw[d]at q;dsimp only at q;obtain⟨t1,t2,⟨h,o1⟩,o2⟩:=id ce;apply aH o1 T.c.dW T.c.eY fW ?_;apply uX (λz=>?_) (λz=>?_)
  ·rw[if_neg z]at q;apply q
  ·rw[if_pos z]at q;apply aH ow T.cW T.Vn bC ?_;apply aH os T.cS T.n2 jY ?_;apply pY (λy=>?_) (λy=>?_)
   ·exists _,_,rfl,Tg,s,A,M,_,p,c,j,rfl,ce,rfl;ext;have:decide (M.sw.phase="give"/\c.tone≠M.sw.sense)=!decide (c.tone=M.sw.sense):=by simp[y]
    rw[this]at q;exact q
   ·have:decide (M.sw.phase="give"/\c.tone≠M.sw.sense)=false:=decide_eq_false λw=>y w.1;rw[this]at q;exact q
theorem Zns{wo:AI}{pl:V}(T:lW K X)(q:Zdu X wo pl H Q):Zej K (jt X.H) (jg X) ν [↑wo,some pl,none,none] H:=by
 obtain⟨x,rfl,Tg,s,A,M,w,v,j,rfl,J,q⟩:=q;obtain⟨d1,ow⟩:=j.jb.ow;obtain⟨d2,os⟩:=j.js.os;unfold Zej;apply aH ow T.cW T.Vn bC ?_;apply aH ow T.cW T.R6 bJ ?_;exists _,_,rfl,tU x,_,_,_,_,_,j.hpO;apply aH os T.cS T.n2 jY ?_;ext;have stay:bI M x=(none,M)->Q .non H:=λe=>by
  have:=q H (fc.refl w);rw[e]at this;exact this j
 refine uX (λz=>?_) (λz=>?_)
 ·apply stay (Ou z x)
 ·rcases j.look x with ⟨L,k⟩ | ⟨i,c,p,rfl,P,t,hc,hp,k,ce⟩
  ·rw[k];apply stay ?_;cases x with
   | none=>rfl
   | some i=>unfold bI;dsimp only;rw[show cellAt M i=none from L]
  ·rw[k];obtain⟨t1,t2,⟨dx,o1⟩,o2⟩:=id ce;exists _,_,rfl,Tg,s,A,M,_,p,c,j.w0,rfl,ce,rfl
   by_cases y:c.tone=M.sw.sense
   ·rw[decide_eq_true y];apply stay ?_;unfold bI;dsimp only;rw[t];dsimp only;rw[if_neg λw=>w.2 y]
   ·rw[decide_eq_false y];have E:bI M (some i)=(some c.birth,{ setCell M i { c with tone:=M.sw.sense }with sw:={ M.sw with grey:=M.sw.grey++[i] } }):=by
     unfold bI;dsimp only;rw[t];dsimp only;rw[if_pos ⟨z,y⟩]
    rw[E]at q;apply aH os T.cS T.n1 jX ?_;apply⟨p.1,X.C,dx,_,rfl,o1,T.c.dW,T.c.nA,by show 5<1000;decide,?_⟩;rw[Qz];obtain⟨a,b⟩:=j.cell w v (dx:=dx) (tone:=M.sw.sense) (load:=c.load) hp ce;generalize upd H p.1 (.ins X.C dx (jH c.birth c.bulk M.sw.sense c.load p.2))=u at a b ⊢;obtain⟨d3,r⟩:=b.js.os;obtain⟨O,f,D⟩:=b.jc.at (i:=i.toNat) (c:={ c with tone:=M.sw.sense,load:=c.load }) (by rw[List.getElem?_set_self (dj hc).1]);rw[hp]at f;cases f;apply aH r T.cS T.n3 pG ?_;ext;have o:=J z;refine⟨.inl ⟨rfl,_,cJ.of b.js.og⟩,?_⟩;exists _,_,_,rfl,rfl,b.js.og,?_
    ·rw[bA];exact Nat.lt_of_le_of_lt o ε
    obtain⟨h,m⟩:=b.Zpk a.wt v (g:=M.sw.grey++[i]);have N:(M.sw.grey.map V.int++[V.int i])=(M.sw.grey++[i]).map V.int:=by rw[List.map_append];rfl
    show bB _ _ _ (upd u A.gr (.lst (M.sw.grey.map V.int++[oV (some i)])));rw[show(M.sw.grey.map V.int++[oV (some i)])=(M.sw.grey++[i]).map V.int from N];generalize upd u A.gr (.lst ((M.sw.grey++[i]).map V.int))=F at h m ⊢;obtain⟨R,d,l⟩:=m.jc.at (i:=i.toNat) (c:={ c with tone:=M.sw.sense,load:=c.load }) (by show(M.cells.set _ _)[_]? =_;rw[List.getElem?_set_self (dj hc).1]);rw[hp]at d;cases d;obtain⟨_,_,⟨B,I⟩,_⟩:=l;apply aH I T.c.dW T.c.eY fW ?_;exact q F (a.trans h) m
theorem Zqw{Tg:Tg}{z:Str}:∀{ns:AF}{names:List (Str×(Int×Int))},Al (NmO H Tg) ns names->(p6 names z=none/\nO (wU names ns) (Sum.inr z)=none)\/∃p b t,p6 names z=some (p,b)/\nO (wU names ns) (Sum.inr z)=↑t/\H t=some (.tup [.int p,.int b])/\Tg t=(0,0):=by
 intro ns names h
 induction h with
 | nil=>exact .inl ⟨rfl,rfl⟩
 | @cons t m ns names h1 _ ih=>
  by_cases e:m.1=z
  ·refine .inr ⟨m.2.1,m.2.2,t,?_,?_,h1.2,h1.1⟩
   ·unfold p6;rw[List.find?_cons_of_pos (by simpa using e)];rfl
   ·show(List.find? _ ((Sum.inr m.1,V.ref t)::wU names ns)).map _=_;rw[List.find?_cons_of_pos (by simpa using e)];rfl
  ·have g:p6 (m::names) z=p6 names z:=by unfold p6;rw[List.find?_cons_of_neg (by simpa using e)]
   have v:nO (wU (m::names) (t::ns)) (Sum.inr z)=nO (wU names ns) (Sum.inr z):=by
    show(List.find? _ ((Sum.inr m.1,V.ref t)::wU names ns)).map _=_;rw[List.find?_cons_of_neg (by simpa using e)];rfl
   rw[g,v];exact ih
theorem NB{wo:AI}{z:Str}(T:lW K X)(q:rR X CN wo z H Q E):
  xO K CN (Zdy X) E ν [↑wo,some (.str z),none,none] H:=by
 obtain⟨Tg,s,A,M,j,rfl,g,f⟩:=q;obtain⟨d1,ow⟩:=j.jb.ow;obtain⟨tm,om,nms⟩:=j.jn;unfold xO;apply aH ow T.cW T.nWn jm ?_;refine⟨_,_,rfl,Zm5 om,?_⟩;rcases Zqw (z:=z) nms with ⟨c,a⟩ | ⟨p,b,t,c,a,e,_⟩
 ·rw[a];apply⟨ε,g c⟩
 ·rw[a,show(!(some (V.ref t)).isSome)=false from rfl];apply aH ow T.cW T.nWn jm ?_;apply⟨_,_,rfl,by have:=Zm5 (z:=z) om;rw[a]at this;exact this,?_⟩;exists t,_,0,_,rfl,rfl,fj.of e,rfl;apply aH ow T.cW T.nWn jm ?_;apply⟨_,_,rfl,by have:=Zm5 (z:=z) om;rw[a]at this;exact this,?_⟩;exists t,_,1,_,rfl,rfl,fj.of e,rfl;exists _,_,_,rfl,Tg,s,A,M,j.w0,rfl;have:=f p b c;cases d:jW M p b with
  | true=>
   rw[d]at this;apply this
  | false=>
   rw[d]at this;apply this
theorem fc.new{s:Nat}{H a:Hp}{T c:Tg}{l:AI}{o d:HO}(e:fc s H a T c)(hl:H l=none)(hx:a l=some d):fc s H (upd a l o) T c where
 kp:=λb u h z=>by rw[aA (aF h hl)];exact e.kp b u h z
 al:=λb u h=>by rw[aA (aF h hl)];exact e.al b u h
 tg:=e.tg
 wt:=λb h=>e.wt b (by
  by_cases z:b=l
  ·rw[z,ao]at h;cases h
  ·rw[aA z]at h;exact h)
theorem fc.fresh{s:Nat}{H:Hp}{T:Tg}{l:AI}{o:HO}{v:Nat×Nat}(w:WT H T)(hl:H l=none):fc s H (upd H l o) T (fX T l v) where
 kp:=λb u h z=>by rw[aA (aF h hl)];exact h
 al:=λb u h=>⟨u,by rw[aA (aF h hl)];exact h⟩
 tg:=λb u h=>iI (aF h hl)
 wt:=λb h=>by
  by_cases z:b=l
  ·rw[z,ao]at h;cases h
  ·rw[aA z]at h;rw[iI z];exact w b h
theorem Zcg{M:Wm}{x:AA}:(bI M x).2.sw.phase=M.sw.phase/\(bI M x).2.sw.grey.length<=M.sw.grey.length+1/\(bI M x).2.tells=M.tells/\(bI M x).2.names=M.names:=by
 cases x with
 | none=>exact⟨rfl,Nat.le_succ _,rfl,rfl⟩
 | some i=>
  unfold bI;dsimp only;cases cellAt M i with
  | none=>exact⟨rfl,Nat.le_succ _,rfl,rfl⟩
  | some c=>
   dsimp only
   by_cases z:M.sw.phase="walk"/\c.tone≠M.sw.sense
   ·rw[if_pos z];exact⟨rfl,by show(M.sw.grey++[i]).length<=_;rw[List.length_append];exact Nat.le_refl _,rfl,rfl⟩
   ·rw[if_neg z];exact⟨rfl,Nat.le_succ _,rfl,rfl⟩
theorem JH{M:Wm}{x:AA}:(bI M x).2.hands=M.hands:=by
 cases x with
 | none=>rfl
 | some i=>
  unfold bI;dsimp only;cases cellAt M i with
  | none=>rfl
  | some c=>
   dsimp only;split<;>rfl
theorem Zch{M:Wm}{x:AA}{k:Nat}{c:Ce}(h:M.cells[k]? =some (some c)):∃c',(bI M x).2.cells[k]? =some (some c')/\c'.fl=c.fl/\c'.birth=c.birth/\c'.bulk=c.bulk/\c'.load=c.load:=by
 cases x with
 | none=>exact⟨c,h,rfl,rfl,rfl,rfl⟩
 | some i=>
  unfold bI;dsimp only;cases hc:cellAt M i with
  | none=>exact⟨c,h,rfl,rfl,rfl,rfl⟩
  | some d=>
   dsimp only;split
   ·show ∃c',(M.cells.set i.toNat _)[k]? =_/\_
    by_cases z:i.toNat=k
    ·subst z;obtain⟨_,hd⟩:=cF.mp hc;rw[h]at hd;cases hd;exact⟨_,List.getElem?_set_self (dj h).1,rfl,rfl,rfl,rfl⟩
    ·rw[List.getElem?_set_ne z];exact⟨c,h,rfl,rfl,rfl,rfl⟩
   ·exact⟨c,h,rfl,rfl,rfl,rfl⟩
theorem iC:∀{l:Au}{M:Wm}{x:AA},aQ M (l++[x])=((aQ M l).1++ZV (bI (aQ M l).2 x).1,(bI (aQ M l).2 x).2)
 | [],M,x=>by
  show(ZV (bI M x).1++[],(bI M x).2)=([]++ZV (bI M x).1,(bI M x).2);rw[List.append_nil,List.nil_append]
 | y::l,M,x=>by
  show(ZV (bI M y).1++(aQ (bI M y).2 (l++[x])).1,(aQ (bI M y).2 (l++[x])).2)=_;rw[iC];show _=((ZV (bI M y).1++(aQ (bI M y).2 l).1)++_,_);rw[List.append_assoc];rfl
theorem qU:∀{l:Au}{M:Wm},(aQ M l).2.sw.phase=M.sw.phase/\(aQ M l).2.sw.grey.length<=M.sw.grey.length+l.length
 | [],M=>⟨rfl,Nat.le_refl _⟩
 | y::l,M=>by
  obtain⟨a,b,_⟩:=Zcg (M:=M) (x:=y);obtain⟨c,d⟩:=qU (l:=l) (M:=(bI M y).2);refine⟨c.trans a,?_⟩;show(aQ (bI M y).2 l).2.sw.grey.length<=_;rw[List.length_cons];omega
theorem uO:∀{l:Au}{M:Wm},(aQ M l).1.length<=l.length
 | [],M=>Nat.le_refl _
 | y::l,M=>by
  have:=uO (l:=l) (M:=(bI M y).2);show(ZV (bI M y).1++(aQ (bI M y).2 l).1).length<=_;rw[List.length_append,List.length_cons];have:(ZV (bI M y).1).length<=1:=by cases (bI M y).1<;>simp[ZV]
  omega
theorem ZW{wo pl:AI}(T:lW K X)(q:BZ X wo pl H Q):Jt K (Zmf X) ν [↑wo,↑pl,none,none,none] H:=by
 obtain⟨d,Tg,s,A,M,w,s0,j,rfl,F,hx,hg,q⟩:=q;have E:=F.get j;unfold Jt;apply⟨bG ζ,λl hl=>?_⟩;have f:pl≠l:=aF E hl;have r:fc s H (upd H l (.lst [])) Tg (fX Tg l (s+1,0)):=fc.fresh w hl;have U:WJ X (upd H l (.lst [])) (fX Tg l (s+1,0)) s A M:=j.fresh hl;have Z:upd H l (.lst []) l=some (.lst []):=ao;have tl:fX Tg l (s+1,0) l=(s+1,0):=eZ;have u:PlO (upd H l (.lst [])) (fX Tg l (s+1,0)) A M pl d:=by
  rcases F with ⟨h1,h2⟩ | h
  ·exact .inl ⟨(aA f).trans h1,(iI f).trans h2⟩
  ·exact .inr h
 have C:upd H l (.lst []) pl=some (.lst (d.map oV)):=(aA f).trans E;generalize upd H l (.lst [])=H1 at r U Z C u ⊢;generalize fX Tg l (s+1,0)=v at r U tl u;apply⟨pl,rfl,⟨_,cJ.of C⟩,forL (d.map oV) (λi P t=>∃O R,P=[↑A.wo,↑pl,↑l,O,R]/\fc s H t Tg v/\WJ X t v s A (aQ M (d.take i)).2/\t l=some (.lst ((aQ M (d.take i)).1.map V.int))/\PlO t v A (aQ M (d.take i)).2 pl d) ⟨_,_,rfl,r,U,Z,u⟩ (by rintro _ _ _ _ ⟨_,_,_,_,j,_,e⟩;exact cJ.of (e.get j)) ?_ ?_⟩
 ·rintro i x P t hi ⟨O,R,rfl,o,L,N,J⟩;obtain⟨y,hy,rfl⟩:∃y,d[i]? =some y/\oV y=x:=by
   rw[cL]at hi;obtain⟨y,a,b⟩:=Option.map_eq_some_iff.mp hi;exact⟨y,a,b⟩
  have il:=(dj hy).1;have B:d.take (i+1)=d.take i++[y]:=by
   rw[List.take_add_one,hy];rfl
  obtain⟨gp,gl⟩:=qU (l:=d.take i) (M:=M);have nl:=uO (l:=d.take i) (M:=M);have tk:(d.take i).length<=100:=by rw[List.length_take];omega
  apply⟨_,_,rfl,y,rfl,v,s,A,_,o.wt,s0,L,rfl,λz=>?_,λHy g Y=>?_⟩
  ·have:=hg (gp.symm.trans z);omega
  have I:Hy l=some (.lst ((aQ M (d.take i)).1.map V.int)):=g.kp _ _ N (by rw[tl];show s+1≠s;omega);have W:PlO Hy v A (bI (aQ M (d.take i)).2 y).2 pl d:=by
   rcases J with ⟨h1,h2⟩ | ⟨k,p,m,h1,h2,S,h4⟩ | ⟨k,p,c,h1,h2,S,h4⟩
   ·exact .inl ⟨g.kp _ _ h1 (by rw[h2];exact λz=>s0 z.symm),h2⟩
   ·exact .inr (.inl ⟨k,p,m,h1,by rw[JH];exact h2,S,h4⟩)
   ·obtain⟨c',e1,e2,_⟩:=Zch (x:=y) h2;exact .inr (.inr ⟨k,p,c',h1,e1,S,by rw[e2];exact h4⟩)
  have D:=o.trans g;ext;cases hn:(bI (aQ M (d.take i)).2 y).1 with
  | none=>
   dsimp only[oV];apply⟨_,_,rfl,D,?_,?_,by rw[B,iC];exact W⟩
   ·rw[B,iC];exact Y
   ·rw[B,iC];show Hy l=some (.lst (((aQ M (d.take i)).1++ZV (bI (aQ M (d.take i)).2 y).1).map V.int));rw[hn];show Hy l=some (.lst (((aQ M (d.take i)).1++[]).map V.int));rw[List.append_nil];exact I
  | some b=>
   dsimp only[oV];exists .inl ⟨rfl,_,cJ.of I⟩;exists _,_,_,rfl,rfl,I,?_
   ·rw[bA];exact Nat.lt_of_le_of_lt (show _<=100 by omega) ε
   exists _,_,rfl,fc.new D hl I,?_,?_
   ·rw[B,iC];exact Y.other (s':=s+1) (fc.upd g.wt I (by rw[tl])) δ δ
   ·rw[B,iC,ao];show some (HO.lst _)=some (HO.lst (((aQ M (d.take i)).1++ZV (bI (aQ M (d.take i)).2 y).1).map V.int));rw[hn,List.map_append];rfl
   ·rw[B,iC];rcases W with ⟨h1,h2⟩ | h
    ·exact .inl ⟨by rw[aA f];exact h1,h2⟩
    ·exact .inr h
 ·rintro P t ⟨O,R,rfl,o,L,N,J⟩;ext;rw[show(d.map oV).length=d.length from bA _,List.take_length]at L N;exact q t v l o L N ⟨hl,by rw[tl];exact .inr rfl⟩
end
theorem lY{M:Wm}{h k:Nat}{x:AA}{m:Str×Au}(hm:M.hands[h]? =some m):{ M with hands:=M.hands.set h (m.1,m.2.set k x) }=setSlot M h k x:=by
 have e:=RM (k:=k) (x:=x) hm;show _={ M with hands:=_ };rw[show(M.hands.modify h λm=>(m.1,m.2.set k x))=M.hands.set h (m.1,m.2.set k x)from e]
def Py(d:iV):Prop:=∃h s a bulk,d=.make h s a bulk
def Zaj(d:iV):Prop:=∃h s t f,d=.get h s t f
def Zah(d:iV):Prop:=∃h t f s,d=.put h t f s
def Qc(d:iV):Prop:=∃h s t,d=.copy h s t
def Qa(d:iV):Prop:=∃h s,d=.drop h s
def PX(d:iV):Prop:=∃h s g t,d=.give h s g t
def Fz(d:iV):Prop:=∃h t load,d=.write h t load
def Px(d:iV):Prop:=∃h t,d=.read h t
def isName(d:iV):Prop:=∃h t word,d=.name h t word
def Pu(d:iV):Prop:=∃h s word,d=.seek h s word
section
variable {X:Cs}{H Hx:Hp}{T Tx:Tg}{s:Nat}{A Ax:Wa}{M M':Wm}{d:iV}{e:Ev}{wo:AI}{Q:VK}
theorem fc.free{s:Nat}{H Hx:Hp}{T Tx:Tg}{l:AI}(e:fc s H Hx T Tx)(h:Hx l=none):H l=none:=by
 cases z:H l with
 | none=>rfl
 | some o=>obtain⟨b,a⟩:=e.al l o z;rw[h]at a;cases a
theorem ev0(i:s≠0)(k:∀e M',g8 M d=.ok (e,M')->∀H' T' g a,fc s H H' T T'->WJ X H' T' s g M'->g.wo=wo->EvN H H' T' s a e->Q (.ref a) H')(m:g8 M d=.ok (e,M'))(hn:e.notes=[])(st:fc s H Hx T Tx)(j:WJ X Hx Tx s Ax M')(aw:Ax.wo=wo){l a:AI}(hl:Hx l=none)(h:upd Hx l (.lst []) a=none):
  Q (.ref a) (upd (upd Hx l (.lst [])) a (.tup [.str e.word,oV e.thing,.ref l])):=by
 have c:=aM hl (.lst []);have b:=aM h (.tup [.str e.word,oV e.thing,.ref l]);have f:=c.trans b;refine k e M' m _ Tx Ax a (st.trans (fc.same st.wt f)) (j.same f) aw ⟨l,⟨fc.free st hl,(rC st.wt i hl).2,(rC st.wt i (c.free h)).2⟩,ao,?_⟩;rw[hn];exact b _ _ ao
theorem ev1(h:s≠0){l a:AI}(b:H l=none/\TgO s (Tx l))(i:∀e M',g8 M d=.ok (e,M')->∀H' T' f a,fc s H H' T T'->WJ X H' T' s f M'->f.wo=wo->EvN H H' T' s a e->Q (.ref a) H')(k:g8 M d=.ok (e,M'))(st:fc s H Hx T Tx)(j:WJ X Hx Tx s Ax M')(aw:Ax.wo=wo)(hl:Hx l=some (.lst (e.notes.map V.int)))(g:Hx a=none):
  Q (.ref a) (upd Hx a (.tup [.str e.word,oV e.thing,.ref l])):=by
 have c:=aM g (.tup [.str e.word,oV e.thing,.ref l]);exact i e M' k _ Tx Ax a (st.trans (fc.same st.wt c)) (j.same c) aw ⟨l,⟨b.1,b.2,(rC st.wt h g).2⟩,ao,c _ _ hl⟩
end
theorem Jf{M:Wm}{i:Int}{c c':Ce}(h:cellAt M i=some c)(hb:c'.birth=c.birth)(x:AA):nZ (setCell M i c') x=nZ M x:=by
 cases x with
 | none=>rfl
 | some y=>
  obtain⟨a,h1⟩:=cF.mp h;show(cellAt (setCell M i c') y).map _=(cellAt M y).map _
  by_cases e:y=i
  ·subst e;rw[h,show cellAt (setCell M y c') y=some c' from cF.mpr ⟨a,by show(M.cells.set _ _)[_]? =_;rw[List.getElem?_set_self (dj h1).1]⟩];show some c'.birth=some c.birth;rw[hb]
  ·have:cellAt (setCell M i c') y=cellAt M y:=by
    unfold cellAt setCell
    by_cases z:0<=y
    ·rw[if_pos z,if_pos z];show((M.cells.set _ _)[_]?).join=_;rw[List.getElem?_set_ne δ]
    ·rw[if_neg z,if_neg z]
   rw[this]
theorem Zgx{M:Wm}{y:AA}(x:AA):nZ (bI M y).2 x=nZ M x:=by
 cases y with
 | none=>rfl
 | some i=>
  unfold bI;dsimp only;cases hc:cellAt M i with
  | none=>rfl
  | some c=>
   dsimp only
   by_cases z:M.sw.phase="walk"/\c.tone≠M.sw.sense
   ·rw[if_pos z];have e:=Jf (M:=M) (i:=i) (c:=c) (c':={ c with tone:=M.sw.sense }) hc rfl x;cases x with
    | none=>rfl
    | some y=>exact e
   ·rw[if_neg z]
theorem uP:∀{l:Au}{M:Wm} (x:AA),nZ (aQ M l).2 x=nZ M x
 | [],_,_=>rfl
 | y::l,M,x=>(uP (l:=l) (M:=(bI M y).2) x).trans (Zgx x)
theorem Zl4{b:Bool}{x:AA}:(if b=true then [oV x]else [])=(if b=true then [x]else []).map oV:=by cases b<;>rfl
section
variable {K:aD}{X:Cs}{H:Hp}{Q:VK}{E:XK}{n:μ}{bk ct:μ}{rf:Rf->AI}
theorem Zdj{wo dd:AI}(T:lW K X)(q:uA X rf Qc wo dd H Q E):Nx K (jl X) (iG X) ν [↑wo,↑dd,none,none] H:=by
 obtain⟨Tg,s,A,M,_,⟨h,sl,t,rfl⟩,w,g,j,rfl,od,⟨o1,o2⟩,hc,u,r,hn,B,i⟩:=q;obtain⟨p,m,hp,hm,hs,hl,hd⟩:=j.handOf o2;obtain⟨z,b,_,f⟩:=Om o1;rw[hm]at b;cases b;unfold Nx;exists dd,_,1,_,rfl,rfl,fj.of od,rfl;exists _,_,rfl,Tg,s,A,M,h,p,j,rfl,rfl,hp;exists dd,_,3,_,rfl,rfl,fj.of od,rfl;refine eF (cJ.of hd.o2) (eN (v:=oV (aR M h t)) (by rw[cL,hs];rfl)) ?_;exists dd,_,2,_,rfl,rfl,fj.of od,rfl;refine⟨p.2,_,_,sl,rfl,rfl,hd.o2,o9 (by rw[bA];exact f),?_⟩;obtain⟨e,c⟩:=j.slot w g (k:=sl) (x:=aR M h t) hp hm;rw[lY hm]at c;generalize upd H p.2 (.lst ((m.2.map oV).set sl (oV (aR M h t))))=y at e c ⊢;obtain⟨d1,ow⟩:=c.jb.ow;apply aH ow T.cW T.R6 bJ ?_;exists _,_,rfl,aR M h t,rfl,Tg,s,A,_,c,rfl;rw[jJ];apply⟨bG ζ,λl hl=>⟨bG ζ,λa o=>?_⟩⟩;exact ev0 g i (d:=.copy h sl t) rfl rfl e c rfl hl o
theorem Zdi{wo dd:AI}(T:lW K X)(q:uA X rf Qa wo dd H Q E):Nv K (jl X) (iG X) ν [↑wo,↑dd,none,none] H:=by
 obtain⟨Tg,s,A,M,_,⟨h,sl,rfl⟩,w,e,j,rfl,od,o1,hc,o,i,hn,t,f⟩:=q;obtain⟨p,m,hp,hm,hs,hl,hd⟩:=j.handOf o1;unfold Nv;exists dd,_,1,_,rfl,rfl,fj.of od,rfl;exists _,_,rfl,Tg,s,A,M,h,p,j,rfl,rfl,hp;exists dd,_,2,_,rfl,rfl,fj.of od,rfl;refine eF (cJ.of hd.o2) (eN (v:=oV (aR M h sl)) (by rw[cL,hs];rfl)) ?_;exists dd,_,2,_,rfl,rfl,fj.of od,rfl;refine⟨p.2,_,_,sl,rfl,rfl,hd.o2,o9 (by rw[bA];exact hl),?_⟩;obtain⟨c,b⟩:=j.slot w e (k:=sl) (x:=none) hp hm;rw[lY hm]at b;show bB _ _ _ (upd H p.2 (.lst ((m.2.map oV).set sl (oV none))));generalize upd H p.2 (.lst ((m.2.map oV).set sl (oV none)))=r at c b ⊢;obtain⟨d1,ow⟩:=b.jb.ow;apply aH ow T.cW T.R6 bJ ?_;exists _,_,rfl,aR M h sl,rfl,Tg,s,A,_,b,rfl;rw[jJ];apply⟨bG ζ,λl hl=>⟨bG ζ,λa g=>?_⟩⟩;exact ev0 e f (d:=.drop h sl) rfl rfl c b rfl hl g
theorem Zdh{wo dd:AI}(T:lW K X)(q:uA X rf PX wo dd H Q E):Nu K (jl X) (mH X) (iG X) (Cj X) ν [↑wo,↑dd,none,none,none,none] H:=by
 obtain⟨Tg,s,A,M,_,⟨h,sl,g,t,rfl⟩,w,z,j,rfl,od,⟨o1,o2⟩,hc,N,I,hn,Y,L⟩:=q;obtain⟨p,m,hp,hm,hs,hl,hd⟩:=j.handOf o1;obtain⟨B,S,f,e,F,y,u⟩:=j.handOf o2;unfold Nu;exists dd,_,1,_,rfl,rfl,fj.of od,rfl;exists dd,_,3,_,rfl,rfl,fj.of od,rfl;exists _,_,rfl,Tg,s,A,M,h,p,j,rfl,rfl,hp;exists dd,_,2,_,rfl,rfl,fj.of od,rfl;refine eF (cJ.of hd.o2) (eN (v:=oV (aR M h sl)) (by rw[cL,hs];rfl)) ?_;exists _,_,rfl,Tg,s,A,M,g,B,j,rfl,rfl,f;exists dd,_,4,_,rfl,rfl,fj.of od,rfl;refine⟨B.2,_,_,t,rfl,rfl,u.o2,o9 (by rw[bA];exact y),?_⟩;obtain⟨b,o⟩:=j.slot w z (k:=t) (x:=aR M h sl) f e;rw[lY e]at o;generalize upd H B.2 (.lst ((S.2.map oV).set t (oV (aR M h sl))))=R at b o ⊢;apply⟨_,_,_,rfl,Tg,s,A,_,h,o,rfl,I,rfl,λO c=>?_⟩;rw[show(lK (setSlot M g t (aR M h sl)) && !bO (setSlot M g t (aR M h sl)) h)=(lK M && !bO M h)from rfl,Zl4];generalize zz:upd R O _=H2;obtain⟨l,P⟩:=nwO c zz;apply⟨_,_,rfl,_,Tg,s,A,_,b.wt.same l,z,o.same l,rfl,.inl ⟨P,b.wt _ c⟩,by cases (lK M && !bO M h)<;>simp,N,λV D W C r J i=>?_⟩;obtain⟨d1,ow⟩:=r.jb.ow;apply aH ow T.cW T.R6 bJ ?_;exists _,_,rfl,aR M h sl,rfl,D,s,A,_,r,rfl;rw[uP,jJ];apply⟨bG ζ,λa U=>?_⟩;exact ev1 z ⟨fc.free b (l.free i.1),i.2⟩ L (d:=.give h sl g t) rfl (b.trans ((fc.same b.wt l).trans C)) r rfl J U
theorem Zdg{wo dd S:AI}(T:lW K X)(hF:rf .full=S)(q:uA X rf Py wo dd H Q E):Nt K X.H (Ko K X.C X.H S) (jl X) (iG X) E ν [↑wo,↑dd,none,none,none,none] H:=by
 obtain⟨Tg,s,A,M,_,⟨h,sl,f,bulk,rfl⟩,w,B,j,rfl,od,⟨o1,m0,m1,b0⟩,hc,hg,ht,hn,hE,hQ⟩:=q;obtain⟨p,m,hp,hm,hs,hl,hd⟩:=j.handOf o1;obtain⟨d1,ow⟩:=j.jb.ow;obtain⟨d2,os⟩:=j.js.os;obtain⟨th,tc,⟨d3,oh⟩,oc⟩:=j.jh;have Z:A.cs.length<=900:=by rw[j.jc.lc];exact hc
 unfold Nt;exists dd,_,1,_,rfl,rfl,fj.of od,rfl;exists _,_,rfl,Tg,s,A,M,h,p,j,rfl,rfl,hp;exists dd,_,3,_,rfl,rfl,fj.of od,rfl;exists dd,_,4,_,rfl,rfl,fj.of od,rfl;apply aH ow T.cW T.R6 bJ ?_;refine⟨A.hp,d3,_,rfl,oh,S8,?_⟩;apply aH ow T.cW T.Vn bC ?_;apply aH os T.cS T.n1 jX ?_;apply⟨_,_,_,_,rfl,A.ca,d3,_,_,_,_,oh,oc,?_,by rw[bA];omega,m0,m1,λhf H' sm=>?_,λhf P fa O N L U a1 a2 co=>?_⟩
 ·intro y hy;obtain⟨o,ho,rfl⟩:=List.mem_map.mp hy;cases o with
  | none=>exact .inl rfl
  | some g=>
   obtain⟨i,hi,I⟩:=List.getElem_of_mem ho;have e:=j.jc.ce i _ _ (bL hi) (bL (by rw[<- j.jc.lc];exact hi));rw[I]at e;cases t:M.cells[i]'(by rw[<- j.jc.lc];exact hi)with
   | none=>rw[t]at e;exact e.elim
   | some c=>
    rw[t]at e;obtain⟨_,_,⟨dx,o1⟩,_⟩:=(show CeO X.C H Tg s i g c from e);exact .inr ⟨g.1,X.C,dx,_,rfl,o1,T.c.dW,T.c.LQ⟩
 ·rw[<- hF];refine hE .full ?_ H' sm;show(if _ then _ else _)=_;rw[if_neg δ]
 ·obtain⟨⟨dp,W⟩,Y⟩:=co;have D:P≠fa:=lM W Y aI;obtain⟨T1,v,R⟩:=j.put w B (H':=O) (dx:=d3) (used':=M.used+(1+f+bulk)) (p:=P) (fa:=fa) (c:=⟨M.born+1,bulk,M.sw.sense,0,List.replicate f.toNat none⟩)
   (λb o hb n1 n2=>U b o hb (by simp[n1,n2])) a1 a2 N L D ⟨dp,W⟩ (by rw[Y,List.map_replicate];rfl)
  have I:((A.cs.map pV).idxOf V.non:Int)=(iD M.cells:Nat):=by rw[(Zam Zjs A.cs).1,j.jc.fst]
  ext;rw[I];refine⟨dd,_,2,_,rfl,rfl,fj.of (U _ _ od ?_),rfl,?_⟩
  ·intro z;rcases List.mem_cons.mp z with z | z
   ·rw[z,oh]at od;cases od
   ·rw[List.mem_singleton.mp z,oc]at od;cases od
  have F:=R.jd.hd h p m hp hm;refine⟨p.2,_,_,sl,rfl,rfl,F.o2,o9 (by rw[bA];exact hl),?_⟩;obtain⟨r,u⟩:=R.slot v.wt B (k:=sl) (x:=some (iD M.cells:Nat)) hp hm;rw[lY (M:={ M with used:=M.used+(1+f+bulk),born:=M.born+1,cells:=ji M.cells ⟨M.born+1,bulk,M.sw.sense,0,List.replicate f.toNat none⟩ }) hm]at u;show bB _ _ _ (upd O p.2 (.lst ((m.2.map oV).set sl (oV (some (iD M.cells:Nat))))));generalize upd O p.2 (.lst ((m.2.map oV).set sl (oV (some (iD M.cells:Nat)))))=H2 at r u ⊢;obtain⟨d5,J⟩:=u.jb.ow;apply aH J T.cW T.R6 bJ ?_;exists _,_,rfl,some (iD M.cells:Nat),rfl,T1,s,_,_,u,rfl;rw[jJ];rw[show nZ { M with used:=M.used+(1+f+bulk),born:=M.born+1,cells:=ji M.cells ⟨M.born+1,bulk,M.sw.sense,0,List.replicate f.toNat none⟩ } (some (iD M.cells:Nat))=some (M.born+1)from by
   show(cellAt _ _).map _=_;rw[qd];rfl]
  apply⟨bG ζ,λl hl=>⟨bG ζ,λa ha=>?_⟩⟩;exact ev0 B hQ (d:=.make h sl f bulk) (Ke δ) rfl (v.trans r) u rfl hl ha
end
theorem Zhw{M:Wm}{h s t f:Nat}(e:cO M (aR M h t)=none):g8 M (.get h s t f)=.error .empty:=by
 show(match aR M h t with | none=>_ | some x=>_)=_;cases hs:aR M h t with
 | none=>rfl
 | some x=>
  rw[hs]at e;show(match cellAt M x with | none=>_ | some c=>_)=_;rw[show cellAt M x=none from e]
theorem Zhu{M:Wm}{h s t f:Nat}(e:cO M (aR M h t)=none):g8 M (.put h t f s)=.error .empty:=by
 show(match aR M h t with | none=>_ | some x=>_)=_;cases hs:aR M h t with
 | none=>rfl
 | some x=>
  rw[hs]at e;show(match cellAt M x with | none=>_ | some c=>_)=_;rw[show cellAt M x=none from e]
theorem Zaw{M:Wm}{h t:Nat}{l:Int}(e:cO M (aR M h t)=none):g8 M (.write h t l)=.error .empty:=by
 show(match aR M h t with | none=>_ | some x=>_)=_;cases hs:aR M h t with
 | none=>rfl
 | some x=>
  rw[hs]at e;show(match cellAt M x with | none=>_ | some c=>_)=_;rw[show cellAt M x=none from e]
theorem Zdl{M:Wm}{h t:Nat}(e:cO M (aR M h t)=none):g8 M (.read h t)=.error .empty:=by
 show(match aR M h t with | none=>_ | some x=>_)=_;cases hs:aR M h t with
 | none=>rfl
 | some x=>
  rw[hs]at e;show(match cellAt M x with | none=>_ | some c=>_)=_;rw[show cellAt M x=none from e]
theorem Zdm{M:Wm}{h t:Nat}{z:Str}(e:cO M (aR M h t)=none):g8 M (.name h t z)=.error .empty:=by
 show(match aR M h t with | none=>_ | some x=>_)=_;cases hs:aR M h t with
 | none=>rfl
 | some x=>
  rw[hs]at e;show(match cellAt M x with | none=>_ | some c=>_)=_;rw[show cellAt M x=none from e]
theorem Zm3{M:Wm}{h s t f:Nat}{i:Int}{c:Ce}(a:aR M h t=some i)(d:cellAt M i=some c)(b:c.fl[f]? =none):g8 M (.get h s t f)=.error .iK:=by
 show(match aR M h t with | none=>_ | some x=>_)=_;rw[a];show(match cellAt M i with | none=>_ | some c=>_)=_;rw[d];show(match c.fl[f]? with | none=>_ | some v=>_)=_;rw[b]
theorem Zm1{M:Wm}{h s t f:Nat}{i:Int}{c:Ce}(a:aR M h t=some i)(d:cellAt M i=some c)(b:c.fl[f]? =none):g8 M (.put h t f s)=.error .iK:=by
 show(match aR M h t with | none=>_ | some x=>_)=_;rw[a];show(match cellAt M i with | none=>_ | some c=>_)=_;rw[d];show(match c.fl[f]? with | none=>_ | some v=>_)=_;rw[b]
theorem Zm2{M:Wm}{h s t f:Nat}{i:Int}{c:Ce}{v:AA}(a:aR M h t=some i)(d:cellAt M i=some c)(b:c.fl[f]? =some v):g8 M (.get h s t f)=.ok (⟨"got",nZ M v,[]⟩,setSlot M h s v):=by
 show(match aR M h t with | none=>_ | some x=>_)=_;rw[a];show(match cellAt M i with | none=>_ | some c=>_)=_;rw[d];show(match c.fl[f]? with | none=>_ | some v=>_)=_;rw[b]
def putL(M:Wm)(h s:Nat)(v:AA):Au:=(if old? M=true then [v]else [])++if (lK M && !bO M h)=true then [aR M h s]else []
theorem Zm0{M:Wm}{h s t f:Nat}{i:Int}{c:Ce}{v:AA}(a:aR M h t=some i)(d:cellAt M i=some c)(b:c.fl[f]? =some v):g8 M (.put h t f s)=.ok (⟨"put",nZ M v,(aQ (setCell M i { c with fl:=c.fl.set f (aR M h s) }) (putL M h s v)).1⟩,(aQ (setCell M i { c with fl:=c.fl.set f (aR M h s) }) (putL M h s v)).2):=by
 show(match aR M h t with | none=>_ | some x=>_)=_;rw[a];show(match cellAt M i with | none=>_ | some c=>_)=_;rw[d];show(match c.fl[f]? with | none=>_ | some v=>_)=_;rw[b];rfl
theorem Zdk{M:Wm}{h t:Nat}{l i:Int}{c:Ce}(a:aR M h t=some i)(b:cellAt M i=some c):g8 M (.write h t l)=.ok (⟨"wrote",some c.load,[]⟩,setCell M i { c with load:=l }):=by
 show(match aR M h t with | none=>_ | some x=>_)=_;rw[a];show(match cellAt M i with | none=>_ | some c=>_)=_;rw[b]
theorem Zht{M:Wm}{h t:Nat}{i:Int}{c:Ce}(a:aR M h t=some i)(b:cellAt M i=some c):g8 M (.read h t)=.ok (⟨"read",some c.load,[]⟩,M):=by
 show(match aR M h t with | none=>_ | some x=>_)=_;rw[a];show(match cellAt M i with | none=>_ | some c=>_)=_;rw[b]
theorem Zhv{M:Wm}{h t:Nat}{z:Str}{i:Int}{c:Ce}(a:aR M h t=some i)(b:cellAt M i=some c):g8 M (.name h t z)=.ok (⟨"named",some c.birth,[]⟩,{ M with names:=kY M.names z (i,c.birth) }):=by
 show(match aR M h t with | none=>_ | some x=>_)=_;rw[a];show(match cellAt M i with | none=>_ | some c=>_)=_;rw[b]
section
variable {X:Cs}{H H':Hp}{T T':Tg}{s:Nat}{A:Wa}{M:Wm}
theorem Zqv{z:Str}{v:Int×Int}{t:AI}(d:NmO H T t (z,v)):∀{ns:AF}{names:List (Str×(Int×Int))},Al (NmO H T) ns names->(∃b,(wU names ns).map (λkv=>if kv.1=Sum.inr z then(kv.1,V.ref t)else kv)=wU (names.map λm=>if m.1=z then(m.1,v)else m) b/\Al (NmO H T) b (names.map λm=>if m.1=z then(m.1,v)else m))/\
  ((wU names ns).any λkv=>decide (kv.1=Sum.inr z))=(names.any λm=>decide (m.1=z))/\wU names ns++[(Sum.inr z,V.ref t)]=wU (names++[(z,v)]) (ns++[t])/\Al (NmO H T) (ns++[t]) (names++[(z,v)]):=by
 intro ns names h
 induction h with
 | nil=>exact⟨⟨[],rfl,.nil⟩,rfl,rfl,.cons d .nil⟩
 | @cons a m ns names h1 _ ih=>
  obtain⟨⟨b,f,c⟩,e3,g,i⟩:=ih;refine⟨?_,?_,?_,.cons h1 i⟩
  ·by_cases e:m.1=z
   ·refine⟨t::b,?_,?_⟩
    ·show(if (Sum.inr m.1:Int ⊕ Str)=Sum.inr z then _ else _)::_=_;rw[if_pos (by rw[e]),List.map_cons,if_pos e];show _::_=(Sum.inr m.1,V.ref t)::wU _ b;rw[<- f];rfl
    ·rw[List.map_cons,if_pos e];exact .cons (by rw[e];exact d) c
   ·refine⟨a::b,?_,?_⟩
    ·show(if (Sum.inr m.1:Int ⊕ Str)=Sum.inr z then _ else _)::_=_;rw[if_neg (λw=>e (Sum.inr.inj w)),List.map_cons,if_neg e];show _::_=(Sum.inr m.1,V.ref a)::wU _ b;rw[<- f];rfl
    ·rw[List.map_cons,if_neg e];exact .cons h1 c
  ·show(decide ((Sum.inr m.1:Int ⊕ Str)=Sum.inr z) || (wU names ns).any _)=(decide (m.1=z) || names.any _);rw[e3];congr 1
   by_cases e:m.1=z<;>simp[e]
  ·show(Sum.inr m.1,V.ref a)::(wU names ns++_)=(Sum.inr m.1,V.ref a)::wU (names++_) (ns++_);rw[g]
theorem Zkd{ns:AF}{names:List (Str×(Int×Int))}(h:Al (NmO H T) ns names):(wU names ns).length=names.length:=by
 induction h with
 | nil=>rfl
 | @cons a m ns names h1 _ ih=>show(_::wU names ns).length=_;rw[List.length_cons,List.length_cons,ih]
theorem WJ.named(j:WJ X H T s A M)(w:WT H T)(k:s≠0){z:Str}{v:Int×Int}{t:AI}(n:NmO H T t (z,v)):∃a,fc s H (upd H A.nm (.dK (putK (wU M.names A.ns) (Sum.inr z) (.ref t)))) T T/\
  WJ X (upd H A.nm (.dK (putK (wU M.names A.ns) (Sum.inr z) (.ref t)))) T s { A with ns:=a } { M with names:=kY M.names z v }:=by
 obtain⟨tm,om,nms⟩:=j.jn;obtain⟨⟨n1,C,l⟩,e3,u,x⟩:=Zqv n nms;have f:rT s (·=6) H (upd H A.nm (.dK (putK (wU M.names A.ns) (Sum.inr z) (.ref t)))) T T:=rT.yj tm;have i:∀{ns:AF}{names:List (Str×(Int×Int))},Al (NmO H T) ns names->Al (NmO (upd H A.nm (.dK (putK (wU M.names A.ns) (Sum.inr z) (.ref t)))) T) ns names:=λh=>h.mono (by rintro t m ⟨z1,z2⟩;exact⟨z1,kE k tm _ _ z2 z1⟩);have go:∀a,putK (wU M.names A.ns) (Sum.inr z) (.ref t)=wU (kY M.names z v) a->Al (NmO H T) a (kY M.names z v)->WJ X (upd H A.nm (.dK (putK (wU M.names A.ns) (Sum.inr z) (.ref t)))) T s { A with ns:=a } { M with names:=kY M.names z v }:=λa B D=>by
  refine⟨?_,?_,⟨tm,by show upd _ A.nm _ A.nm=_;rw[ao,B],i D⟩,?_,j.jd.mv f λ_ _ _=>δ,j.jc.mv f λ_ _=>δ⟩
  ·obtain⟨c,e,d,g,r,q,p,o⟩:=j.jb.mv f (kE k tm) δ δ;exact⟨c,e,d,g,r,q,p,o⟩
  ·obtain⟨c,e,d,g⟩:=j.jh.mv f δ δ;exact⟨c,e,d,g⟩
  ·obtain⟨c,e,d,g⟩:=j.js.mv f δ δ;exact⟨c,e,d,g⟩
 by_cases b:(M.names.any λm=>decide (m.1=z))=true
 ·refine⟨n1,fc.upd w om (by rw[tm]),go n1 ?_ ?_⟩
  ·unfold putK kY;rw[if_pos (e3.trans b),if_pos b,C]
  ·unfold kY;rw[if_pos b];exact l
 ·refine⟨A.ns++[t],fc.upd w om (by rw[tm]),go _ ?_ ?_⟩
  ·unfold putK kY;rw[if_neg (λy=>b (e3.symm.trans y)),if_neg b,u]
  ·unfold kY;rw[if_neg b];exact x
end
section
variable {K:aD}{X:Cs}{H:Hp}{Q:VK}{E:XK}{n:μ}{bk ct:μ}{rf:Rf->AI}{CE CF CN:AI}
theorem Zhs{wo dd:AI}(T:lW K X)(y:rf .empty=CE)(r:rf .iK=CF)(q:uA X rf Zaj wo dd H Q E):U3 K (jl X) (yU X CE CF) (iG X) E ν [↑wo,↑dd,none,none,none,none] H:=by
 obtain⟨Tg,s,A,M,_,⟨h,sl,t,f,rfl⟩,w,C,j,rfl,od,⟨o1,o2⟩,hc,N,L,hn,B,F⟩:=q;obtain⟨p,m,hp,hm,hs,hl,hd⟩:=j.handOf o1;unfold U3;exists dd,_,1,_,rfl,rfl,fj.of od,rfl;exists dd,_,3,_,rfl,rfl,fj.of od,rfl;exists dd,_,4,_,rfl,rfl,fj.of od,rfl;apply⟨_,_,_,_,rfl,Tg,s,A,M,h,t,f,j,rfl,rfl,rfl,rfl,o2,λe=>?_,λi c o D u z=>?_,λi c O o D u I ce z=>?_⟩
 ·rw[<- y];exact B .empty (Zhw e) H (bx.refl _)
 ·rw[<- r];exact B .iK (Zm3 o u z) H (bx.refl _)
 ·have hv:=bL z;apply eF (cJ.of ce.o2) (eN (v:=oV (c.fl[f])) (by rw[cL,hv];rfl)) ?_;exists _,_,rfl,Tg,s,A,M,h,p,j,rfl,rfl,hp;exists dd,_,2,_,rfl,rfl,fj.of od,rfl;refine⟨p.2,_,_,sl,rfl,rfl,hd.o2,o9 (by rw[bA];exact hl),?_⟩;obtain⟨g,b⟩:=j.slot w C (k:=sl) (x:=c.fl[f]) hp hm;rw[lY hm]at b;generalize upd H p.2 (.lst ((m.2.map oV).set sl (oV c.fl[f])))=P at g b ⊢;obtain⟨d1,ow⟩:=b.jb.ow;apply aH ow T.cW T.R6 bJ ?_;exists _,_,rfl,c.fl[f],rfl,Tg,s,A,_,b,rfl;rw[jJ];apply⟨bG ζ,λl hl=>⟨bG ζ,λa J=>?_⟩⟩;exact ev0 C F (d:=.get h sl t f) (Zm2 o u hv) rfl g b rfl hl J
theorem Zhr{wo dd:AI}(T:lW K X)(P:rf .empty=CE)(J:rf .iK=CF)(q:uA X rf Zah wo dd H Q E):U0 K (jl X) (yU X CE CF) (mH X) (iG X) (Cj X) (Q5 X) E ν [↑wo,↑dd,none,none,none,none,none,none] H:=by
 obtain⟨Tg,s,A,M,_,⟨h,t,f,sl,rfl⟩,w,R,j,rfl,od,⟨o2,o1⟩,hc,hg,U,hn,Y,hQ⟩:=q;obtain⟨p,m,hp,hm,hs,hl,hd⟩:=j.handOf o1;unfold U0;exists dd,_,1,_,rfl,rfl,fj.of od,rfl;exists dd,_,3,_,rfl,rfl,fj.of od,rfl;exists dd,_,2,_,rfl,rfl,fj.of od,rfl;apply⟨_,_,_,_,rfl,Tg,s,A,M,h,t,f,j,rfl,rfl,rfl,rfl,o2,λe=>?_,λi c F h0 u y=>?_,λi c W F h0 u L ce y=>?_⟩
 ·rw[<- P];exact Y .empty (Zhu e) H (bx.refl _)
 ·rw[<- J];exact Y .iK (Zm1 F u y) H (bx.refl _)
 ·have hv:=bL y;apply eF (cJ.of ce.o2) (eN (v:=oV (c.fl[f])) (by rw[cL,hv];rfl)) ?_;exists _,_,rfl,Tg,s,A,M,h,p,j,rfl,rfl,hp;exists dd,_,4,_,rfl,rfl,fj.of od,rfl;refine eF (cJ.of hd.o2) (eN (v:=oV (aR M h sl)) (by rw[cL,hs];rfl)) ?_;exists W.2,_,_,f,rfl,rfl,ce.o2,o9 (by rw[bA];exact y);obtain⟨b,l⟩:=j.field w R (k:=f) (x:=aR M h sl) L ce;have l:WJ X _ Tg s A (setCell M i { c with fl:=c.fl.set f (aR M h sl) }):=l;generalize upd H W.2 (.lst ((c.fl.map oV).set f (oV (aR M h sl))))=H1 at b l ⊢;apply⟨_,_,rfl,Tg,s,A,_,l,rfl,U,λV I=>?_⟩;rw[show old? (setCell M i { c with fl:=c.fl.set f (aR M h sl) })=old? M from rfl,Zl4];generalize zz:upd H1 V _=H2;obtain⟨C,g1⟩:=nwO I zz;apply⟨_,_,_,rfl,Tg,s,A,_,h,l.same C,rfl,U,rfl,λl2 O=>?_⟩;rw[show(lK (setCell M i { c with fl:=c.fl.set f (aR M h sl) }) && !bO (setCell M i { c with fl:=c.fl.set f (aR M h sl) }) h)=(lK M && !bO M h)from rfl,Zl4];generalize zz:upd H2 l2 _=H3;obtain⟨z,g2⟩:=nwO O zz;apply⟨V,l2,_,_,rfl,rfl,z _ _ g1,g2,?_,λS o=>?_⟩
  ·refine bG ?_;cases old? M<;>cases (lK M && !bO M h)<;>simp
  rw[<- List.map_append];generalize zz:upd H3 S _=H4;obtain⟨s3,D⟩:=nwO o zz;have D:H4 S=some (.lst ((putL M h sl c.fl[f]).map oV)):=D;have g:=C.trans (z.trans s3);apply⟨_,_,rfl,putL M h sl c.fl[f],Tg,s,A,_,b.wt.same g,R,l.same g,rfl,.inl ⟨D,(b.wt.same (C.trans z)) _ o⟩,?_,hg,λH5 Z l5 B N g5 r=>?_⟩
  ·unfold putL;cases old? M<;>cases (lK M && !bO M h)<;>simp
  obtain⟨d1,ow⟩:=N.jb.ow;apply aH ow T.cW T.R6 bJ ?_;exists _,_,rfl,c.fl[f],rfl,Z,s,A,_,N,rfl;rw[uP,Jf (c':={ c with fl:=c.fl.set f (aR M h sl) }) u rfl];apply⟨bG ζ,λa ha=>?_⟩;exact ev1 R ⟨fc.free b (g.free r.1),r.2⟩ hQ (d:=.put h t f sl) (Zm0 F u hv) (b.trans ((fc.same b.wt g).trans B)) N rfl g5 ha
theorem Zav{wo dd:AI}(T:lW K X)(m:rf .empty=CE)(q:uA X rf Fz wo dd H Q E):Ju K (uy X CE) E ν [↑wo,↑dd,none,none] H:=by
 obtain⟨Tg,s,A,M,_,⟨h,t,load,rfl⟩,w,p,j,rfl,od,o1,hc,F,B,hn,z,u⟩:=q;unfold Ju;exists dd,_,1,_,rfl,rfl,fj.of od,rfl;exists dd,_,2,_,rfl,rfl,fj.of od,rfl;apply⟨_,_,_,rfl,Tg,s,A,M,h,t,j,rfl,rfl,rfl,o1,λe=>?_,λi c k r D v g ce=>?_⟩
 ·rw[<- m];exact z .empty (Zaw e) H (bx.refl _)
 ·obtain⟨t1,t2,⟨dx,b⟩,x⟩:=id ce;apply aH b T.c.dW T.c.lz Bl ?_;exists dd,_,3,_,rfl,rfl,fj.of od,rfl;apply⟨k.1,X.C,dx,_,rfl,b,T.c.dW,T.c.lz,by show 5<1000;decide,?_⟩;rw[QB];obtain⟨f,o⟩:=j.cell w p (dx:=dx) (tone:=c.tone) (load:=load) g ce;generalize upd H k.1 (.ins X.C dx (jH c.birth c.bulk c.tone load k.2))=I at f o ⊢;apply⟨bG ζ,λl hl=>⟨bG ζ,λa y=>?_⟩⟩;exact ev0 p u (d:=.write h t load) (Zdk r v) rfl f o rfl hl y
theorem Zde{wo dd:AI}(T:lW K X)(f:rf .empty=CE)(q:uA X rf Px wo dd H Q E):Nq K (uy X CE) E ν [↑wo,↑dd,none] H:=by
 obtain⟨Tg,s,A,M,_,⟨h,t,rfl⟩,w,v,j,rfl,od,o1,hc,z,x,hn,u,k⟩:=q;unfold Nq;exists dd,_,1,_,rfl,rfl,fj.of od,rfl;exists dd,_,2,_,rfl,rfl,fj.of od,rfl;apply⟨_,_,_,rfl,Tg,s,A,M,h,t,j,rfl,rfl,rfl,o1,λe=>?_,λi c B g y m o ce=>?_⟩
 ·rw[<- f];exact u .empty (Zdl e) H (bx.refl _)
 ·obtain⟨t1,t2,⟨C,b⟩,p⟩:=id ce;apply aH b T.c.dW T.c.lz Bl ?_;apply⟨bG ζ,λl hl=>⟨bG ζ,λa r=>?_⟩⟩;exact ev0 v k (d:=.read h t) (Zht g m) rfl (fc.refl w) j rfl hl r
theorem Zdf{wo dd:AI}(T:lW K X)(u:rf .empty=CE)(q:uA X rf isName wo dd H Q E):Nr K (uy X CE) (iG X) E ν [↑wo,↑dd,none,none,none] H:=by
 obtain⟨Tg,s,A,M,_,⟨h,t,z,rfl⟩,w,B,j,rfl,od,o1,hc,U,P,hn,O,D⟩:=q;obtain⟨p,m,hp,hm,hs,hl,hd⟩:=j.handOf o1;unfold Nr;exists dd,_,1,_,rfl,rfl,fj.of od,rfl;exists dd,_,2,_,rfl,rfl,fj.of od,rfl;apply⟨_,_,_,rfl,Tg,s,A,M,h,t,j,rfl,rfl,rfl,o1,λe=>?_,λi c V x S I J ce=>?_⟩
 ·rw[<- u];exact O .empty (Zdm e) H (bx.refl _)
 ·obtain⟨t1,t2,⟨W,o⟩,L⟩:=id ce;apply aH o T.c.dW T.c.eY fW ?_;exists _,_,rfl,Tg,s,A,M,h,p,j,rfl,rfl,hp;apply eF (cJ.of hd.o2) (eN (v:=oV (aR M h t)) (by rw[cL,hs];rfl)) ?_;rw[x];apply⟨bG ζ,λtp b=>?_⟩;generalize zz:upd H tp _=H1;obtain⟨g,r⟩:=nwO b zz;have r:H1 tp=some (.tup [.int i,.int c.birth]):=r;have k:=j.same g;have F:=w.same g;obtain⟨d1,ow⟩:=k.jb.ow;apply aH ow T.cW T.nWn jm ?_;exists dd,_,3,_,rfl,rfl,fj.of (g _ _ od),rfl;refine⟨_,_,rfl,Zun k.jn.om (by rw[Zkd k.jn.nms];exact Nat.lt_of_le_of_lt hn ε),?_⟩;obtain⟨C,f,y⟩:=k.named F B (z:=z) (v:=(i,c.birth)) (t:=tp) ⟨w _ b,r⟩;generalize upd H1 A.nm (.dK (putK (wU M.names A.ns) (Sum.inr z) (.ref tp)))=R at f y ⊢;apply⟨bG ζ,λl hl=>⟨bG ζ,λa N=>?_⟩⟩;exact ev0 B D (d:=.name h t z) (Zhv x I) rfl ((fc.same w g).trans f) y rfl hl N
theorem Zdd{wo dd:AI}(T:lW K X)(v:rf .uQ=CN)(q:uA X rf Pu wo dd H Q E):Np K (jl X) (mH X) (Bm X CN) (iG X) E ν [↑wo,↑dd,none,none] H:=by
 obtain⟨Tg,s,A,M,_,⟨h,sl,z,rfl⟩,w,D,j,rfl,od,o1,hc,O,Z,hn,U,N⟩:=q;obtain⟨p,m,hp,hm,hs,hl,hd⟩:=j.handOf o1;unfold Np;exists dd,_,3,_,rfl,rfl,fj.of od,rfl;apply⟨_,_,rfl,Tg,s,A,M,j,rfl,λe=>?_,λi b e=>?_⟩
 ·rw[<- v];refine U .uQ ?_ H (bx.refl _);show(match p6 M.names z with | none=>_ | some (p,b)=>_)=_;rw[e]
 ·let x:AA:=if jW M i b=true then none else some i
  have ex:(if jW M i b=true then V.non else .int i)=oV x:=by
   show _=oV (if _ then _ else _);cases jW M i b<;>rfl
  rw[ex];have P:g8 M (.seek h sl z)=.ok (⟨"sought",nZ M x,(aQ (setSlot M h sl x) [x]).1⟩,(aQ (setSlot M h sl x) [x]).2):=by
   show(match p6 M.names z with | none=>_ | some (p,b)=>_)=_;rw[e];dsimp only;cases f:jW M i b with
   | true=>
    have:x=none:=by show(if _ then _ else _)=_;rw[f];rfl
    rw[this];rfl
   | false=>
    have hx:x=some i:=by show(if _ then _ else _)=_;rw[f];rfl
    have:nZ M (some i)=some b:=by
     unfold jW at f;show(cellAt M i).map _=_;cases l:cellAt M i with
     | none=>rw[l]at f;cases f
     | some c=>
      rw[l]at f;dsimp only at f
      by_cases y:c.birth=b
      ·rw[<- y];rfl
      ·rw[if_neg y]at f;cases f
    rw[hx,this];rfl
  clear_value x;exists dd,_,1,_,rfl,rfl,fj.of od,rfl;exists _,_,rfl,Tg,s,A,M,h,p,j,rfl,rfl,hp;exists dd,_,2,_,rfl,rfl,fj.of od,rfl;refine⟨p.2,_,_,sl,rfl,rfl,hd.o2,o9 (by rw[bA];exact hl),?_⟩;obtain⟨g,B⟩:=j.slot w D (k:=sl) (x:=x) hp hm;rw[lY hm]at B;generalize upd H p.2 (.lst ((m.2.map oV).set sl (oV x)))=R at g B ⊢;apply⟨bG ζ,λI o=>?_⟩;generalize zz:upd R I _=H2;obtain⟨t,C⟩:=nwO o zz;have C:H2 I=some (.lst ([x].map oV)):=C;apply⟨_,_,rfl,[x],Tg,s,A,_,g.wt.same t,D,B.same t,rfl,.inl ⟨C,g.wt _ o⟩,ζ,O,λW J Y F u L r=>?_⟩;obtain⟨d1,ow⟩:=u.jb.ow;apply aH ow T.cW T.R6 bJ ?_;exists _,_,rfl,x,rfl,J,s,A,_,u,rfl;rw[uP,jJ];apply⟨bG ζ,λa S=>?_⟩;exact ev1 D ⟨fc.free g (t.free r.1),r.2⟩ N (d:=.seek h sl z) P (g.trans ((fc.same g.wt t).trans F)) u rfl L S
end
section
variable {K:aD}{X:Cs}{H:Hp}{Q:VK}{E:XK}{n:μ}{bk ct:μ}{rf:Rf->AI}{f1 f2 f3 f4 f5 f6 f7 f8 f9 f10:AI}
theorem Zuo{wo dd:AI}(T:lW K X)(q:uA X rf (λ_=>True) wo dd H Q E):
  Zj5 K f1 f2 f3 f4 f5 f6 f7 f8 f9 f10 (cP X rf Qc) (cP X rf Qa) (cP X rf Zaj) (cP X rf PX) (cP X rf Py) (cP X rf isName) (cP X rf Zah) (cP X rf Px) (cP X rf Pu) (cP X rf Fz) E ν [↑wo,↑dd,none] H:=by
 obtain⟨Tg,s,A,M,d,_,w,k,j,rfl,od,r1,r2,c,b,e,a,i⟩:=q;unfold Zj5;cases d with
 | make h l m bulk=>
  exists dd,_,0,_,rfl,rfl,fj.of od,rfl;refine⟨_,f5,rfl,rfl,?_⟩;apply jw (cP X rf Py) rfl ζ ?_;apply⟨_,_,rfl,Tg,s,A,M,_,⟨_,_,_,_,rfl⟩,w,k,j,rfl,od,r1,r2,c,b,e,a,i⟩
 | get h l t f=>
  exists dd,_,0,_,rfl,rfl,fj.of od,rfl;refine⟨_,f3,rfl,rfl,?_⟩;apply jw (cP X rf Zaj) rfl ζ ?_;apply⟨_,_,rfl,Tg,s,A,M,_,⟨_,_,_,_,rfl⟩,w,k,j,rfl,od,r1,r2,c,b,e,a,i⟩
 | put h t f l=>
  exists dd,_,0,_,rfl,rfl,fj.of od,rfl;refine⟨_,f7,rfl,rfl,?_⟩;apply jw (cP X rf Zah) rfl ζ ?_;apply⟨_,_,rfl,Tg,s,A,M,_,⟨_,_,_,_,rfl⟩,w,k,j,rfl,od,r1,r2,c,b,e,a,i⟩
 | copy h l t=>
  exists dd,_,0,_,rfl,rfl,fj.of od,rfl;refine⟨_,f1,rfl,rfl,?_⟩;apply jw (cP X rf Qc) rfl ζ ?_;apply⟨_,_,rfl,Tg,s,A,M,_,⟨_,_,_,rfl⟩,w,k,j,rfl,od,r1,r2,c,b,e,a,i⟩
 | drop h l=>
  exists dd,_,0,_,rfl,rfl,fj.of od,rfl;refine⟨_,f2,rfl,rfl,?_⟩;apply jw (cP X rf Qa) rfl ζ ?_;apply⟨_,_,rfl,Tg,s,A,M,_,⟨_,_,rfl⟩,w,k,j,rfl,od,r1,r2,c,b,e,a,i⟩
 | give h l g t=>
  exists dd,_,0,_,rfl,rfl,fj.of od,rfl;refine⟨_,f4,rfl,rfl,?_⟩;apply jw (cP X rf PX) rfl ζ ?_;apply⟨_,_,rfl,Tg,s,A,M,_,⟨_,_,_,_,rfl⟩,w,k,j,rfl,od,r1,r2,c,b,e,a,i⟩
 | write h t load=>
  exists dd,_,0,_,rfl,rfl,fj.of od,rfl;refine⟨_,f10,rfl,rfl,?_⟩;apply jw (cP X rf Fz) rfl ζ ?_;apply⟨_,_,rfl,Tg,s,A,M,_,⟨_,_,_,rfl⟩,w,k,j,rfl,od,r1,r2,c,b,e,a,i⟩
 | read h t=>
  exists dd,_,0,_,rfl,rfl,fj.of od,rfl;refine⟨_,f8,rfl,rfl,?_⟩;apply jw (cP X rf Px) rfl ζ ?_;apply⟨_,_,rfl,Tg,s,A,M,_,⟨_,_,rfl⟩,w,k,j,rfl,od,r1,r2,c,b,e,a,i⟩
 | name h t z=>
  exists dd,_,0,_,rfl,rfl,fj.of od,rfl;refine⟨_,f6,rfl,rfl,?_⟩;apply jw (cP X rf isName) rfl ζ ?_;apply⟨_,_,rfl,Tg,s,A,M,_,⟨_,_,_,rfl⟩,w,k,j,rfl,od,r1,r2,c,b,e,a,i⟩
 | seek h l z=>
  exists dd,_,0,_,rfl,rfl,fj.of od,rfl;refine⟨_,f9,rfl,rfl,?_⟩;apply jw (cP X rf Pu) rfl ζ ?_;apply⟨_,_,rfl,Tg,s,A,M,_,⟨_,_,_,rfl⟩,w,k,j,rfl,od,r1,r2,c,b,e,a,i⟩
end
inductive yN(X:Cs)(hp:AI)(sl:AI)(H:Hp)(Q:VK):Prop
 | mk (T s A M) (xs:Au) (_:WJ X H T s A M) (_:A.hp=hp) (_:H sl=some (.lst (xs.map oV))) (_:xs.length<=1000) (_:∀l,H l=none->Q (.ref l) (upd H l (.lst ((xs.map (nZ M)).map oV)))):yN X hp sl H Q
def Kl(X:Cs):Sp:=λvs H Q E=>∃hp sl,vs=[.ref hp,.ref sl]/\yN X hp sl H Q
section
variable {K:aD}{X:Cs}{H:Hp}{Q:VK}{E:XK}{n:μ}{bk ct:μ}
theorem YC{hp sl:AI}(T:lW K X)(q:yN X hp sl H Q):
  Dy K (jl X) ν [↑hp,↑sl] H:=by
 obtain⟨Tg,s,A,M,b,j,rfl,o,hx,q⟩:=q;unfold Dy;apply VH ?_;exists _,rfl,⟨_,cJ.of o⟩;refine XC (cJ.of o) (λi=>(b[i]?).map λx=>oV (nZ M x)) (by rw[bA];omega) (λi x hx=>?_) ?_
 ·rw[cL]at hx;obtain⟨y,hy,rfl⟩:=Option.map_eq_some_iff.mp hx;refine⟨λq hq=>?_,λz q hz hq=>?_⟩
  ·rw[hy]at hq;exact Qf hq
  ·rw[hy]at hz;cases hz;walk_at"c";apply⟨_,_,rfl,y,rfl,Tg,s,A,M,j,rfl,hq⟩
 ·intro p hp;have:(List.range (b.map oV).length).filterMap (λi=>(b[i]?).map λx=>oV (nZ M x))=(b.map (nZ M)).map oV:=by
   rw[bA,List.map_map];clear q o hx
   induction b with
   | nil=>rfl
   | cons a l ih=>
    rw[List.length_cons,List.range_succ_eq_map,List.filterMap_cons];simp only[List.getElem?_cons_zero,Option.map_some,List.map_cons,List.filterMap_map];congr 1
  rw[this];exact q p hp
end
inductive yQ(CD:AI)(p:AI)(nm:Str)(many:Int)(H:Hp)(Q:VK):Prop
 | mk (dx) (_:H p=some (.ins CD dx [])) (_:0<=many) (_:many<=1000) (_:∀sa H',H sa=none->H' p=some (.ins CD dx (Zf7 nm sa))->H' sa=some (.lst (List.replicate many.toNat V.non))->(∀b o,H b=some o->b≠p->H' b=some o)->Q .non H'):yQ CD p nm many H Q
def Kr(b:AI):Sp:=λvs H Q E=>∃p nm a,vs=[.ref p,.str nm,.int a]/\yQ b p nm a H Q
def yV(a:AI):Sp:=λvs H Q E=>∃p,vs=[.ref p]/\∃dx,H p=some (.ins a dx [])/\
 ∀gr H',H gr=none->H' p=some (.ins a dx (bY 0 "rest" gr 0 0 0 0 0 0 0 .non))->H' gr=some (.lst [])->(∀b o,H b=some o->b≠p->H' b=some o)->Q .non H'
section
variable {K:aD}{X:Cs}{H:Hp}{Q:VK}{E:XK}{n:μ}{bk ct:μ}
theorem IW{p:AI}{nm:Str}{a:Int}(T:lW K X)(q:yQ X.D p nm a H Q):
  sX K ⟨λ_ H'=>Q .non H',Q,bk,ct⟩ [↑p,some (.str nm),some (.int a)] H:=by
 obtain⟨r,hp,s,h1,h⟩:=q;unfold sX;exists p,X.D,r,[],rfl,hp,T.cD,T.nDn,ε;apply⟨ε,λj g=>?_⟩;apply⟨j,a,_,rfl,rfl,ao,δ,δ,?_,λl c=>?_⟩
 ·show 1 * a.toNat<=sizeLine;exact bG δ
 have f:p≠j:=aF ao g;have d:p≠l:=aF (by rw[aA f];exact ao) c;have i:H l=none:=by
  by_cases z:l=j
  ·rw[z,ao]at c;cases c
  ·rw[aA z,aA (λe=>d e.symm)]at c;exact c
 have m:H j=none:=by rw[aA (λe=>f e.symm)]at g;exact g
 apply⟨p,X.D,r,_,rfl,by rw[aA d,aA f];exact ao,T.cD,T.nDs,by show 1<1000;decide,?_⟩;refine h l _ i ?_ ?_ λb o hb n=>?_
 ·rw[ao,Zlf]
 ·rw[aA d.symm,ao];congr 2;generalize a.toNat=k
  induction k with
  | zero=>rfl
  | succ k ih=>rw[List.replicate_succ,List.replicate_succ,List.flatten_cons,ih];rfl
 ·rw[aA n,aA (aF hb i),aA (aF hb m),aA n];exact hb
theorem zA{p:AI}(T:lW K X)(q:∃dx,H p=some (.ins X.S dx [])/\
 ∀gr H',H gr=none->H' p=some (.ins X.S dx (bY 0 "rest" gr 0 0 0 0 0 0 0 .non))->H' gr=some (.lst [])->(∀b o,H b=some o->b≠p->H' b=some o)->Q .non H'):
  oG K ⟨λ_ H'=>Q .non H',Q,bk,ct⟩ [↑p] H:=by
 obtain⟨dx,hp,h⟩:=q;unfold oG;exists p,X.S,dx,[],rfl,hp,T.cS,T.n1,ε;apply⟨p,X.S,dx,_,rfl,ao,T.cS,T.n2,by show 1<1000;decide,?_⟩;rw[dB];apply⟨ε,λgr a=>?_⟩;have c:p≠gr:=aF ao a;have d:H gr=none:=by rw[aA c.symm]at a;exact a
 apply⟨p,X.S,dx,_,rfl,by rw[aA c];exact ao,T.cS,T.n3,by show 2<1000;decide,?_⟩;apply⟨p,X.S,dx,_,rfl,ao,T.cS,T.n4,by show 3<1000;decide,?_⟩;rw[dB];apply⟨p,X.S,dx,_,rfl,ao,T.cS,T.n5,by show 4<1000;decide,?_⟩;rw[dB];apply⟨p,X.S,dx,_,rfl,ao,T.cS,T.n6,by show 5<1000;decide,?_⟩;rw[dB];apply⟨p,X.S,dx,_,rfl,ao,T.cS,T.n7,by show 6<1000;decide,?_⟩;rw[dB];apply⟨p,X.S,dx,_,rfl,ao,T.cS,T.n8,by show 7<1000;decide,?_⟩;rw[dB];apply⟨p,X.S,dx,_,rfl,ao,T.cS,T.n9,by show 8<1000;decide,?_⟩;rw[dB];apply⟨p,X.S,dx,_,rfl,ao,T.cS,T.n10,by show 9<1000;decide,?_⟩;rw[dB];apply⟨p,X.S,dx,_,rfl,ao,T.cS,T.n11,by show 10<1000;decide,?_⟩;rw[dB];refine h gr _ d ?_ ?_ λb o hb e=>?_
 ·rw[ao,Zgb]
 ·rw[aA c.symm,ao]
 ·rw[aA e,aA (aF hb d),aA e];exact hb
end
def wd(w:Int):Str:=if w=0 then "first" else if w=1 then "each" else "last"
def tlS(t:Int):Str:=if t=0 then "" else if t=1 then " old" else if t=2 then " new" else " old new"
def words(w t:Int):Str:=wd w++tlS t
theorem Zg5{w t c t':Int}(w0:0<=w)(j:w<3)(i:0<=t)(t1:t<4)(a0:0<=c)(a1:c<3)(b0:0<=t')(h:t'<4)(e:words w t=words c t'):w=c/\t=t':=by
 have d:∀a∈[(0:Int),1,2],∀b∈[(0:Int),1,2,3],∀f∈[(0:Int),1,2],∀g∈[(0:Int),1,2,3],words a b=words f g->a=f/\b=g:=γ
 exact d w (by simp;omega) t (by simp;omega) c (by simp;omega) t' (by simp;omega) e
theorem Zi6(w:Int):(wd w).length<=5:=by
 unfold wd
 by_cases h:w=0
 ·rw[if_pos h];decide
 ·rw[if_neg h]
  by_cases h:w=1
  ·rw[if_pos h];decide
  ·rw[if_neg h];decide
structure KdO(X:Cs)(H:Hp)(ki lk:AI)(w t:Int):Prop where
 ok:∃dx,H ki=some (.ins X.K dx (Fx lk t))
 ol:∃dx,(w=0/\H lk=some (.ins X.F dx []))\/(w=1/\H lk=some (.ins X.E dx []))\/(w=2/\H lk=some (.ins X.L dx []))
theorem KdO.same{X:Cs}{H H':Hp}{ki lk:AI}{w t:Int}(k:KdO X H ki lk w t)(s:bx H H'):KdO X H' ki lk w t:=by
 obtain⟨⟨d1,a⟩,⟨d2,b⟩⟩:=k;refine⟨⟨d1,s _ _ a⟩,⟨d2,?_⟩⟩;rcases b with ⟨z,e⟩ | ⟨z,e⟩ | ⟨z,e⟩
 ·exact .inl ⟨z,s _ _ e⟩
 ·exact .inr (.inl ⟨z,s _ _ e⟩)
 ·exact .inr (.inr ⟨z,s _ _ e⟩)
inductive Im(X:Cs)(z:Str)(H:Hp)(Q:VK):Prop
 | mk (w t) (_:0<=w) (_:w<3) (_:0<=t) (_:t<4) (_:z=words w t) (_:∀ki lk H',bx H H'->H ki=none->H lk=none->KdO X H' ki lk w t->Q (.ref ki) H'):Im X z H Q
def pD(X:Cs):Sp:=λvs H Q E=>∃z,vs=[.str z]/\Im X z H Q
def wV(room:Int)(hands:List (Str×Int))(w t:Int):Wm:=⟨room,0,0,[],hands.map λm=>(m.1,List.replicate m.2.toNat none),[],w,t,⟨0,"rest",[],0,0,0,0,0,0,0,.non⟩⟩
inductive vp(X:Cs)(p:AI)(room:Int)(ki:AI)(hl0:AI)(H:Hp)(Q:VK):Prop
 | mk (dx T s lk w t) (ts:AF) (hands) (_:H p=some (.ins X.W dx [])) (_:WT H T) (_:s≠0) (_:KdO X H ki lk w t) (_:T ki=(0,0)) (_:T lk=(0,0)) (_:ki≠p) (_:lk≠p) (_:H hl0=some (.lst (ts.map V.ref))) (_:Al (λ(t:AI) (m:Str×Int)=>H t=some (.tup [.str m.1,.int m.2])/\0<=m.2/\m.2<=1000) ts hands) (_:hands.length<=30) (_:∀H' T' A,(∀b o,H b=some o->b≠p->H' b=some o)->(∀b o,H b=some o->b≠p->T' b=T b)->WT H' T'->A.wo=p->WJ X H' T' s A (wV room hands w t)->Q .non H'):vp X p room ki hl0 H Q
def GK(X:Cs):Sp:=λvs H Q E=>∃p room ki a,vs=[.ref p,.int room,.ref ki,.ref a]/\vp X p room ki a H Q
def Km(a:AI):Sp:=λvs H Q E=>∃p l t,vs=[.ref p,.ref l,.int t]/\∃dx,H p=some (.ins a dx [])/\∀H',H' p=some (.ins a dx (Fx l t))->(∀b o,H b=some o->b≠p->H' b=some o)->Q .non H'
def kJ(v:V):Sp:=λvs H Q E=>∃a,vs=[.ref a]/\Q v H
inductive YG(X:Cs)(ki:AI)(H:Hp)(Q:VK):Prop
 | mk (lk w t) (_:KdO X H ki lk w t) (_:0<=t) (_:t<4) (_:∀H',bx H H'->Q (.str (words w t)) H'):YG X ki H Q
def Zft(X:Cs):Sp:=λvs H Q E=>∃ki,vs=[.ref ki]/\YG X ki H Q
section
variable {K:aD}{X:Cs}{H:Hp}{Q:VK}{E:XK}{n:μ}{bk ct:μ}
theorem TJ{a:AI}(T:lW K X)(q:Q (.str "first") H):z8 ν [↑a] H:=by
 unfold z8;apply q
theorem Y4{a:AI}(T:lW K X)(q:Q (.str "each") H):DP ν [↑a] H:=by
 unfold DP;apply q
theorem YT{a:AI}(T:lW K X)(q:Q (.str "last") H):Dz ν [↑a] H:=by
 unfold Dz;apply q
theorem IK{p l:AI}{t:Int}(T:lW K X)(q:∃dx,H p=some (.ins X.K dx [])/\∀H',H' p=some (.ins X.K dx (Fx l t))->(∀b o,H b=some o->b≠p->H' b=some o)->Q .non H'):
  sV K ⟨λ_ H'=>Q .non H',Q,bk,ct⟩ [↑p,↑l,some (.int t)] H:=by
 obtain⟨dx,hp,h⟩:=q;unfold sV;exists p,X.K,dx,[],rfl,hp,T.cK,T.nKl,ε;apply⟨p,X.K,dx,_,rfl,ao,T.cK,T.nKt,by show 1<1000;decide,?_⟩;rw[dB];refine h _ ?_ λb o hb a=>?_
 ·rw[ao,Zl1]
 ·rw[aA a];exact hb
theorem w0{w:Int}(a:w=0\/w=1\/w=2):words w 0=wd w:=by rcases a with rfl | rfl | rfl<;>decide +kernel
theorem w3{w:Int}(a:w=0\/w=1\/w=2):words w 3=(wd w++" old")++" new":=by rcases a with rfl | rfl | rfl<;>decide +kernel
theorem w3l{w:Int}(a:w=0\/w=1\/w=2):(wd w++" old":Str).length<=20:=by rcases a with rfl | rfl | rfl<;>decide +kernel
theorem Mh{p lk:AI}{dx:AI}{w t:Int}(a:w=0\/w=1\/w=2)(T:lW K X)(hp:H p=some (.ins X.K dx (Fx lk t)))(d:0<=t)(t1:t<4)(q:Q (.str (words w t)) H):
  (aP (dF (bT (aV (Y6) (aV aE (bh K ρ "tells") υ) π)) (bz (aV (G.xV) χ (tC (.str " old"))) (aN 1)) cC)
   (aP (dF (bT (aV (Y6) (aV aE (bh K ρ "tells") Ψ) π)) (bz (aV (G.xV) χ (tC (.str " new"))) (aN 1)) cC)
   (bB χ))) ν [↑p,some (.str (wd w))] H:=by
 have c:=Zi6 w;have b:t=0\/t=1\/t=2\/t=3:=δ
 apply aH hp T.cK T.nKt gY ?_;ext;rcases b with rfl | rfl | rfl | rfl
 ·refine uX (λz=>absurd ε z) ax;apply aH hp T.cK T.nKt gY ?_;apply uX (λz=>absurd ε z) ax;ext;rw[w0 a]at q;exact q
 ·refine uX ax (λz=>absurd z ε);apply uY (bG (by have:(" old":Str).length=4:=rfl;omega)) ?_;apply aH hp T.cK T.nKt gY ?_;apply uX (λz=>absurd ε z) ax;apply q
 ·refine uX (λz=>absurd ε z) ax;apply aH hp T.cK T.nKt gY ?_;apply uX ax (λz=>absurd z ε);apply uY (bG (by have:(" new":Str).length=4:=rfl;omega)) ?_;apply q
 ·refine uX ax (λz=>absurd z ε);apply uY (bG (by have:(" old":Str).length=4:=rfl;omega)) ?_;apply aH hp T.cK T.nKt gY ?_;apply uX ax (λz=>absurd z ε);apply uY (bG (by have:(" new":Str).length=4:=rfl;have:=w3l a;omega)) ?_;ext;rw[w3 a]at q;exact q
theorem Tv{p:AI}(T:lW K X)(q:YG X p H Q):
  z7 K X.E X.F X.L (kJ (.str "each")) (kJ (.str "first")) (kJ (.str "last")) ν [↑p,none] H:=by
 obtain⟨lk,w,t,⟨⟨b,hp⟩,⟨dl,ol⟩⟩,a,t1,h⟩:=q;have h:=h H (bx.refl _);unfold z7;refine VG ?_;left;rcases ol with ⟨rfl,o⟩ | ⟨rfl,o⟩ | ⟨rfl,o⟩
 ·refine JZ ?_;apply aH hp T.cK T.nKl fL ?_;left;refine⟨lk,dl,_,rfl,o,rfl,?_⟩;left;refine⟨lk,rfl,?_⟩;left;exact Mh (w:=0) ε T hp a t1 h
 ·refine wH (JZ ?_);apply aH hp T.cK T.nKl fL ?_;left;refine⟨lk,dl,_,rfl,o,rfl,?_⟩;left;refine⟨lk,rfl,?_⟩;left;exact Mh (w:=1) ε T hp a t1 h
 ·refine wH (wH ?_);apply aH hp T.cK T.nKl fL ?_;left;refine⟨lk,dl,_,rfl,o,rfl,?_⟩;left;refine⟨lk,rfl,?_⟩;left;exact Mh (w:=2) ε T hp a t1 h
theorem Zcw{z:Str}(T:lW K X)(q:Im X z H Q):
  Nk K X.E X.F X.K X.L (Km X.K) (Zft X) ν [some (.str z),none,none,none] H:=by
 obtain⟨U,tq,wq0,wq1,J,P,ez,hq⟩:=q;unfold Nk;ext;intro c g n1 m1 e1;have N:bx H (upd (upd H g (.own c)) c (.ins X.F g [])):=λb o hb=>by rw[aA (aF hb n1),aA (aF hb m1)];exact hb
 have o1:upd (upd H g (.own c)) c (.ins X.F g []) c=some (.ins X.F g []):=ao;generalize upd (upd H g (.own c)) c (.ins X.F g [])=W at N o1 ⊢;ext;intro a h n2 m2 e2;have v:bx W (upd (upd W h (.own a)) a (.ins X.E h [])):=λb o hb=>by rw[aA (aF hb n2),aA (aF hb m2)];exact hb
 have o2:upd (upd W h (.own a)) a (.ins X.E h []) a=some (.ins X.E h []):=ao;generalize upd (upd W h (.own a)) a (.ins X.E h [])=B at v o2 ⊢;ext;intro al dl n3 m3 e3;have u:bx B (upd (upd B dl (.own al)) al (.ins X.L dl [])):=λb o hb=>by rw[aA (aF hb n3),aA (aF hb m3)];exact hb
 have o3:upd (upd B dl (.own al)) al (.ins X.L dl []) al=some (.ins X.L dl []):=ao;generalize upd (upd B dl (.own al)) al (.ins X.L dl [])=H3 at u o3 ⊢;apply⟨bG ζ,λlp hlp=>?_⟩;generalize zz:upd H3 lp _=H4;obtain⟨I,g4⟩:=nwO hlp zz;have R:=I _ _ (u _ _ (v _ _ o1));have M:=I _ _ (u _ _ o2);have O:=I _ _ o3;have D:=N.trans (v.trans (u.trans I));have lko:∀{i:Nat}{x:V},([.ref c,.ref a,.ref al]:List V)[i]? =some x->i<3/\∃lk,x=.ref lk/\H lk=none/\∃f,((i:Int)=0/\H4 lk=some (.ins X.F f []))\/((i:Int)=1/\H4 lk=some (.ins X.E f []))\/((i:Int)=2/\H4 lk=some (.ins X.L f [])):=by
  intro i x hx
  match i,hx with
  | 0,hx=>cases hx;exact⟨δ,c,rfl,n1,g,.inl ⟨rfl,R⟩⟩
  | 1,hx=>cases hx;exact⟨δ,a,rfl,N.free n2,h,.inr (.inl ⟨rfl,M⟩)⟩
  | 2,hx=>cases hx;exact⟨δ,al,rfl,(N.trans v).free n3,dl,.inr (.inr ⟨rfl,O⟩)⟩
  | k+3,hx=>cases hx
 clear N v u I R M O;refine⟨lp,rfl,⟨_,cJ.of g4⟩,forL [.ref c,.ref a,.ref al] (λi j Hx=>∃v1 l m,j=[some (.str z),v1,l,m]/\bx H4 Hx/\∀(w:Nat) (t:Int),w<i->0<=t->t<4->z≠words w t) ⟨_,_,_,rfl,bx.refl _,λw t hw=>absurd hw (Nat.not_lt_zero _)⟩ (by rintro _ _ _ _ ⟨_,_,_,_,s,_⟩;exact cJ.of (s _ _ g4)) ?_ ?_⟩
 ·rintro i x j H5 hi ⟨v1,l,m,rfl,s5,hn⟩;obtain⟨hi3,lk,rfl,nlk,Z,ol⟩:=lko hi;exists 4,rfl,δ,δ;refine forR (λk j Hx=>∃l m,j=[some (.str z),↑lk,l,m]/\bx H4 Hx/\∀(t:Int),0<=t->t<k->z≠words i t) ⟨_,_,rfl,s5,λt h0 h1=>absurd h1 δ⟩ ?_ ?_
  ·rintro k j H6 hk ⟨l,m,rfl,y,r⟩;have hk4:k<4:=hk;have e0:(0:Int)+(k:Int)=k:=δ
   rw[e0];ext;intro p f np ndx ned;refine⟨p,lk,k,rfl,f,ao,λH7 k1 k2=>⟨rfl,?_⟩⟩;have C:bx H6 H7:=λb o hb=>by
    refine k2 b o ?_ (aF hb np);rw[aA (aF hb np),aA (aF hb ndx)];exact hb
   have kd:KdO X H7 p lk i k:=⟨⟨f,k1⟩,⟨Z,by
    rcases ol with ⟨e,o⟩ | ⟨e,o⟩ | ⟨e,o⟩
    ·exact .inl ⟨e,C _ _ (y _ _ o)⟩
    ·exact .inr (.inl ⟨e,C _ _ (y _ _ o)⟩)
    ·exact .inr (.inr ⟨e,C _ _ (y _ _ o)⟩)⟩⟩
   exists p,f,_,rfl,k1,Pq;apply⟨p,rfl,lk,i,k,kd,δ,δ,λH8 A=>?_⟩;apply pY (λe=>?_) (λe=>?_)
   ·ext;obtain⟨rfl,rfl⟩:=Zg5 wq0 wq1 J P δ δ δ δ (ez.symm.trans e.symm);refine hq p lk _ (D.trans (y.trans (C.trans A))) ((D.trans y).free np) nlk ⟨⟨f,A _ _ k1⟩,?_⟩;obtain⟨_,⟨d,od⟩⟩:=kd;refine⟨d,?_⟩;rcases od with ⟨e,o⟩ | ⟨e,o⟩ | ⟨e,o⟩
    ·exact .inl ⟨e,A _ _ o⟩
    ·exact .inr (.inl ⟨e,A _ _ o⟩)
    ·exact .inr (.inr ⟨e,A _ _ o⟩)
   ·apply⟨_,_,rfl,y.trans (C.trans A),λt S t1=>?_⟩
    by_cases ht:t=k
    ·rw[ht];exact λw=>e w.symm
    ·exact r t S δ
  ·rintro j H3 ⟨l,m,rfl,u,r⟩;refine⟨_,_,_,rfl,u,λw t hw S t1=>?_⟩
   by_cases Y:w=i
   ·rw[Y];exact r t S t1
   ·exact hn w t δ S t1
 ·rintro j B ⟨v1,l,m,rfl,v,hn⟩
  exfalso
  have:=hn U.toNat tq (by show U.toNat<3;omega) J P;have e:((U.toNat:Nat):Int)=U:=δ
  rw[e]at this;exact this ez
end
structure Ex(p:AI)(H H':Hp)(T T':Tg):Prop where
 kp:∀b o,H b=some o->b≠p->H' b=some o
 al:∀b o,H b=some o->∃o',H' b=some o'
 tg:∀b o,H b=some o->T' b=T b
 wt:WT H' T'
section
variable {p:AI}{H H1 H2 H':Hp}{T T1 T2 T':Tg}
theorem Ex.trans(a:Ex p H H1 T T1)(b:Ex p H1 H2 T1 T2):Ex p H H2 T T2 where
 kp:=λx o h n=>b.kp x o (a.kp x o h n) n
 al:=λx o h=>by obtain⟨o1,h1⟩:=a.al x o h;exact b.al x o1 h1
 tg:=λx o h=>by obtain⟨o1,h1⟩:=a.al x o h;rw[b.tg x o1 h1,a.tg x o h]
 wt:=b.wt
theorem Zt0(w:WT H T)(al:∀b o,H b=some o->∃a,H' b=some a):WT H' T:=λb h=>w b (by
 cases z:H b with
 | none=>rfl
 | some o=>obtain⟨a,e⟩:=al b o z;rw[h]at e;cases e)
theorem Zbe{a:AI}{o:HO}{v:Nat×Nat}(w:WT H T)(h:H a=some o):WT H (fX T a v):=λb hb=>by
 rw[iI (λe=>by rw[e,h]at hb;cases hb)];exact w b hb
theorem Ex.Zi7{o a:HO}(w:WT H T)(h:H p=some a):Ex p H (upd H p o) T T where
 kp:=λx u hx n=>by rw[aA n];exact hx
 al:=λx u hx=>by
  by_cases e:x=p
  ·exact⟨o,by rw[e,ao]⟩
  ·exact⟨u,by rw[aA e];exact hx⟩
 tg:=λ_ _ _=>rfl
 wt:=Zt0 w λx u hx=>by
  by_cases e:x=p
  ·exact⟨o,by rw[e,ao]⟩
  ·exact⟨u,by rw[aA e];exact hx⟩
theorem Ex.news{vs:List (AI×(Nat×Nat))}(w:WT H T)(s:bx H H')(hn:∀v∈vs,H v.1=none/\∃o,H' v.1=some o):Ex p H H' T (vs.foldr (λv t=>fX t v.1 v.2) T):=by
 have tg:∀b o,H b=some o->(vs.foldr (λv t=>fX t v.1 v.2) T) b=T b:=by
  intro b o hb
  induction vs with
  | nil=>rfl
  | cons v vs ih=>
   show fX _ v.1 v.2 b=_;rw[iI (aF hb (hn v List.mem_cons_self).1)];exact ih λu hu=>hn u (List.mem_cons_of_mem _ hu)
 refine⟨λb o hb _=>s _ _ hb,λb o hb=>⟨o,s _ _ hb⟩,tg,?_⟩;clear tg
 induction vs with
 | nil=>exact w.same s
 | cons v vs ih=>
  obtain⟨o,a⟩:=(hn v List.mem_cons_self).2;exact Zbe (ih λu hu=>hn u (List.mem_cons_of_mem _ hu)) a
end
section
variable {K:aD}{X:Cs}{H:Hp}{Q:VK}{E:XK}{n:μ}{bk ct:μ}
theorem Gz{p ki hl0:AI}{room:Int}(T:lW K X)(q:vp X p room ki hl0 H Q):
  qH K X.D X.H X.S (Kr X.D) (Kp X.H) (yV X.S) ⟨λ_ H'=>Q .non H',Q,bk,ct⟩ [↑p,some (.int room),↑ki,↑hl0] H:=by
 obtain⟨f,T0,s,lk,w,t,ts,hands,hp,wt0,s0,kd,tki,tlk,nki,P,oh0,al,hn,hQ⟩:=q;have x0:WT H (fX T0 p (s,0)):=Zbe wt0 hp;have tp:fX T0 p (s,0) p=(s,0):=eZ;have U:∀b o,H b=some o->b≠p->fX T0 p (s,0) b=T0 b:=λb _ _ hb=>iI hb;generalize hT:fX T0 p (s,0)=Ta at x0 tp U;unfold qH;ext;intro hq dh nh ndh neh;refine⟨hq,room,rfl,dh,ao,λca H1 n a1 a2 k1=>⟨rfl,?_⟩⟩;have Zqz:H ca=none:=by
  by_cases z:ca=hq
  ·rw[z,ao]at n;cases n
  ·rw[aA z]at n
   by_cases y:ca=dh
   ·rw[y,ao]at n;cases n
   ·rw[aA y]at n;exact n
 have sm1:bx H H1:=λb o hb=>k1 b o (by rw[aA (aF hb nh),aA (aF hb ndh)];exact hb) (aF hb nh);have e1:Ex p H H1 Ta _:=Ex.news (vs:=[(hq,(s,1)),(ca,(s,2))]) x0 sm1 (by
  intro v hv;simp only[List.mem_cons,List.not_mem_nil,or_false]at hv;rcases hv with rfl | rfl
  ·exact⟨nh,_,a1⟩
  ·exact⟨Zqz,_,a2⟩)
 have nhc:hq≠ca:=lM a1 a2 aI;have th1:([(hq,(s,1)),(ca,(s,2))].foldr (λv t=>fX t v.1 v.2) Ta) hq=(s,1):=eZ;have tc1:([(hq,(s,1)),(ca,(s,2))].foldr (λv t=>fX t v.1 v.2) Ta) ca=(s,2):=(iI nhc.symm).trans eZ;generalize ([(hq,(s,1)),(ca,(s,2))]:List (AI×(Nat×Nat))).foldr (λv t=>fX t v.1 v.2) Ta=Tb at e1 th1 tc1;have hp1:=sm1 _ _ hp;have nph:hq≠p:=λz=>by rw[z,hp]at nh;cases nh
 have npc:ca≠p:=λz=>by rw[z,hp]at Zqz;cases Zqz
 clear k1 n;exists p,X.W,f,[],rfl,hp1,T.cW,T.R6,ε;have e2:=e1.trans (Ex.Zi7 (o:=.ins X.W f a8) e1.wt hp1);have g2:upd H1 p (.ins X.W f a8) p=some (.ins X.W f a8):=ao;have a1:=(aA (o:=.ins X.W f a8) nph).trans a1;have a2:=(aA (o:=.ins X.W f a8) npc).trans a2;generalize upd H1 p (.ins X.W f a8)=H2 at e2 g2 a1 a2 ⊢;apply⟨p,X.W,f,_,rfl,g2,T.cW,T.nWk,by show 1<1000;decide,?_⟩;have e3:=e2.trans (Ex.Zi7 (o:=.ins X.W f (bU "kind" (.ref ki) a8)) e2.wt g2);have g3:upd H2 p (.ins X.W f (bU "kind" (.ref ki) a8)) p=some (.ins X.W f (bU "kind" (.ref ki) a8)):=ao;have a1:=(aA (o:=.ins X.W f (bU "kind" (.ref ki) a8)) nph).trans a1;have a2:=(aA (o:=.ins X.W f (bU "kind" (.ref ki) a8)) npc).trans a2;generalize upd H2 p (.ins X.W f (bU "kind" (.ref ki) a8))=H3 at e3 g3 a1 a2 ⊢;generalize L:(bU "kind" (.ref ki) a8)=u at g3 ⊢;have lF3:u.length=2:=by rw[<- L];rfl
 have O:H3 hl0=some (.lst (ts.map V.ref)):=e3.kp _ _ oh0 (λz=>by rw[z,hp]at oh0;cases oh0);have ltl:ts.length=hands.length:=al.length;have Zv4:∀(i:Nat) a,ts[i]? =some a->∃m,hands[i]? =some m/\H3 a=some (.tup [.str m.1,.int m.2])/\0<=m.2/\m.2<=1000:=λi a ha=>by
  have hl:i<hands.length:=by rw[<- ltl];exact(dj ha).1
  obtain⟨a',ha',z1,A,z3⟩:=al.get (bL hl);rw[ha]at ha';cases ha';exact⟨_,bL hl,e3.kp _ _ z1 (λz=>by rw[z,hp]at z1;cases z1),A,z3⟩
 have lo:=e3.wt;apply⟨_,rfl,⟨_,cJ.of O⟩,Zf1 ?_⟩;refine⟨λi m ys Hx=>i<=ts.length/\m=ts.length - i/\∃(hs:List (AI×AI)) (Tx:Tg),ys=hs.map (λq=>V.ref q.1)/\hs.length=i/\bx H3 Hx/\Ex p H3 Hx Tb Tx/\∀(j:Nat) q m,hs[j]? =some q->hands[j]? =some m->HdO X.D Hx Tx s j q (m.1,List.replicate m.2.toNat none)/\q.1≠p/\q.2≠p,
  ⟨ts.length,Nat.zero_le _,rfl,[],Tb,rfl,rfl,bx.refl _,⟨λ_ _ h _=>h,λ_ o h=>⟨o,h⟩,λ_ _ _=>rfl,lo⟩,λj q m e=>by simp at e⟩,?_⟩
 rintro i m ys Hx ⟨hi,rfl,hs,Tx,rfl,hl,sx,ex,hds⟩
 by_cases hk:i=ts.length
 ·refine .inl ⟨⟨_,cJ.of (sx _ _ O),by rw[bA];omega⟩,λd F=>?_⟩;have Zz1:H3 d=none:=sx.free F;have s4:=aM F (.lst (hs.map λq=>V.ref q.1));have e4:Ex p Hx _ Tx _:=Ex.news (p:=p) (vs:=[(d,(s,5))]) ex.wt s4 (by
   intro v hv;rw[List.mem_singleton.mp hv];exact⟨F,_,ao⟩)
  have t4:([(d,(s,5))].foldr (λv t=>fX t v.1 v.2) Tx) d=(s,5):=eZ;have o4:upd Hx d (.lst (hs.map λq=>V.ref q.1)) d=some (.lst (hs.map λq=>V.ref q.1)):=ao;have I:=sx _ _ g3;have nhp:d≠p:=λz=>by rw[z,I]at F;cases F
  have hp4:=s4 _ _ I;generalize upd Hx d (.lst (hs.map λq=>V.ref q.1))=H4 at s4 e4 o4 hp4 ⊢;generalize ([(d,(s,5))]:List (AI×(Nat×Nat))).foldr (λv t=>fX t v.1 v.2) Tx=T4 at e4 t4;apply⟨p,X.W,f,_,rfl,hp4,T.cW,T.nWd,by rw[lF3];decide,?_⟩;have e5:=Ex.Zi7 (p:=p) (o:=.ins X.W f (bU "hands" (.ref d) u)) e4.wt hp4;have hp5:upd H4 p (.ins X.W f (bU "hands" (.ref d) u)) p=some (.ins X.W f (bU "hands" (.ref d) u)):=ao;generalize upd H4 p (.ins X.W f (bU "hands" (.ref d) u))=H5 at e5 hp5 ⊢;ext;intro nm M;have nnp:nm≠p:=λz=>by rw[z,hp5]at M;cases M
  have s6:=aM M (.dK []);have e6:Ex p H5 _ T4 _:=Ex.news (p:=p) (vs:=[(nm,(s,6))]) e5.wt s6 (by
   intro v hv;rw[List.mem_singleton.mp hv];exact⟨M,_,ao⟩)
  have t6:([(nm,(s,6))].foldr (λv t=>fX t v.1 v.2) T4) nm=(s,6):=eZ;have o6:upd H5 nm (.dK []) nm=some (.dK []):=ao;have hp6:=s6 _ _ hp5;generalize upd H5 nm (.dK [])=H6 at s6 e6 o6 hp6 ⊢;generalize ([(nm,(s,6))]:List (AI×(Nat×Nat))).foldr (λv t=>fX t v.1 v.2) T4=T6 at e6 t6;apply⟨p,X.W,f,_,rfl,hp6,T.cW,T.nWn,by rw[<- L];show 3<1000;decide,?_⟩;have e7:=Ex.Zi7 (p:=p) (o:=.ins X.W f a9) e6.wt hp6;have J:upd H6 p (.ins X.W f a9) p=some (.ins X.W f a9):=ao;generalize upd H6 p (.ins X.W f a9)=H7 at e7 J ⊢;ext;intro sw ds C nds nes;refine⟨sw,rfl,ds,ao,λgr H8 l Z Y k8=>⟨rfl,?_⟩⟩;have Zqx:H7 gr=none:=by
   by_cases z:gr=sw
   ·rw[z,ao]at l;cases l
   ·rw[aA z]at l
    by_cases y:gr=ds
    ·rw[y,ao]at l;cases l
    ·rw[aA y]at l;exact l
  have s8:bx H7 H8:=λb o hb=>k8 b o (by rw[aA (aF hb C),aA (aF hb nds)];exact hb) (aF hb C);have e8:Ex p H7 H8 T6 _:=Ex.news (p:=p) (vs:=[(sw,(s,7)),(gr,(s,8))]) e7.wt s8 (by
   intro v hv;simp only[List.mem_cons,List.not_mem_nil,or_false]at hv;rcases hv with rfl | rfl
   ·exact⟨C,_,Z⟩
   ·exact⟨Zqx,_,Y⟩)
  have nsg:sw≠gr:=lM Z Y aI;have ts8:([(sw,(s,7)),(gr,(s,8))].foldr (λv t=>fX t v.1 v.2) T6) sw=(s,7):=eZ;have tg8:([(sw,(s,7)),(gr,(s,8))].foldr (λv t=>fX t v.1 v.2) T6) gr=(s,8):=(iI nsg.symm).trans eZ;generalize ([(sw,(s,7)),(gr,(s,8))]:List (AI×(Nat×Nat))).foldr (λv t=>fX t v.1 v.2) T6=T8 at e8 ts8 tg8;have hp8:=s8 _ _ J;have nsp:sw≠p:=λz=>by rw[z,J]at C;cases C
  have ngp:gr≠p:=λz=>by rw[z,J]at Zqx;cases Zqx
  clear k8 l;apply⟨p,X.W,f,_,rfl,hp8,T.cW,T.Vn,by rw[<- L];show 4<1000;decide,?_⟩;have e9:=Ex.Zi7 (p:=p) (o:=.ins X.W f (bU "sweeper" (.ref sw) a9)) e8.wt hp8;have hp9:upd H8 p (.ins X.W f (bU "sweeper" (.ref sw) a9)) p=some (.ins X.W f (wX hq ki d nm sw)):=by
   rw[ao,<- L,Zg4]
  generalize upd H8 p (.ins X.W f (bU "sweeper" (.ref sw) a9))=H9 at e9 hp9 ⊢;have N:=e9;have f69:=e7.trans (e8.trans e9);have f49:=e5.trans (e6.trans f69);have E:=e4.trans f49;have B:=ex.trans E;have g:=e3.trans B;obtain⟨⟨dk,ok⟩,⟨dl,ol⟩⟩:=kd;have hlk:∃o,H lk=some o:=by
   rcases ol with ⟨_,z⟩ | ⟨_,z⟩ | ⟨_,z⟩
   ·exact⟨_,z⟩
   ·exact⟨_,z⟩
   ·exact⟨_,z⟩
  obtain⟨olk,elk⟩:=hlk;refine hQ H9 T8 ⟨p,hq,ca,ki,lk,d,nm,sw,gr,hs,[],[]⟩ g.kp (λb o hb nb=>(g.tg b o hb).trans (U b o hb nb)) g.wt rfl ⟨⟨(g.tg _ _ hp).trans tp,(g.tg _ _ ok).trans ((U _ _ ok nki).trans tki),(g.tg _ _ elk).trans ((U _ _ elk P).trans tlk),(f49.tg _ _ o4).trans t4,⟨f,hp9⟩,⟨dk,g.kp _ _ ok nki⟩,⟨dl,?_⟩,f49.kp _ _ o4 nhp⟩,
   ⟨(B.tg _ _ a1).trans th1,(B.tg _ _ a2).trans tc1,⟨dh,B.kp _ _ a1 nph⟩,B.kp _ _ a2 npc⟩,⟨(f69.tg _ _ o6).trans t6,f69.kp _ _ o6 nnp,.nil⟩,
   ⟨(N.tg _ _ Z).trans ts8,(N.tg _ _ Y).trans tg8,⟨ds,N.kp _ _ Z nsp⟩,N.kp _ _ Y ngp⟩,⟨?_,by show hs.length<=30;rw[hl,hk,ltl];exact hn,?_⟩,⟨rfl,λi q c z=>by simp at z⟩⟩
  ·rcases ol with ⟨z,y⟩ | ⟨z,y⟩ | ⟨z,y⟩
   ·exact .inl ⟨z,g.kp _ _ y P⟩
   ·exact .inr (.inl ⟨z,g.kp _ _ y P⟩)
   ·exact .inr (.inr ⟨z,g.kp _ _ y P⟩)
  ·show hs.length=(hands.map _).length;rw[bA,hl,hk,ltl]
  ·intro j q m z1 A;have A:(hands.map λm=>(m.1,List.replicate m.2.toNat none))[j]? =some m:=A;rw[cL]at A;obtain⟨m0,y1,rfl⟩:=Option.map_eq_some_iff.mp A;obtain⟨⟨u1,u2,⟨du,u3⟩,u4⟩,v1,v2⟩:=hds j q m0 z1 y1;exact⟨(E.tg _ _ u3).trans u1,(E.tg _ _ u4).trans u2,⟨du,E.kp _ _ u3 v1⟩,E.kp _ _ u4 v2⟩
 ·have R:i<ts.length:=δ
  refine .inr ⟨⟨_,_,cJ.of (sx _ _ O),by rw[cL,bL R];rfl⟩,?_,λx H' y=>?_⟩
  ·rw[bA,hl];exact Nat.lt_of_lt_of_le R (bG δ)
  obtain⟨y1,y2⟩:=y;subst y1;have ey:=y2 _ (cJ.of (sx _ _ O));rw[cL,bL R]at ey;have ey:x=.ref ts[i]:=(Option.some.inj ey).symm;subst ey;obtain⟨m,hm,ot,m0,m1⟩:=Zv4 i _ (bL R);refine Qf (Zcx ⟨ts[i],.str m.1,.int m.2,_,rfl,fj.of (sx _ _ ot),?_⟩);walk_at"c";ext;intro q1 dq nq ndq neq;refine⟨q1,m.1,m.2,rfl,dq,ao,m0,m1,λsa Hy r Z Y k=>⟨rfl,?_⟩⟩;have Zqs:H' sa=none:=by
   by_cases z:sa=q1
   ·rw[z,ao]at r;cases r
   ·rw[aA z]at r
    by_cases y:sa=dq
    ·rw[y,ao]at r;cases r
    ·rw[aA y]at r;exact r
  have sy:bx H' Hy:=λb o hb=>k b o (by rw[aA (aF hb nq),aA (aF hb ndq)];exact hb) (aF hb nq);have ey:Ex p H' Hy Tx _:=Ex.news (p:=p) (vs:=[(q1,(s,20+2 * i)),(sa,(s,21+2 * i))]) ex.wt sy (by
   intro v hv;simp only[List.mem_cons,List.not_mem_nil,or_false]at hv;rcases hv with rfl | rfl
   ·exact⟨nq,_,Z⟩
   ·exact⟨Zqs,_,Y⟩)
  have nqs:q1≠sa:=lM Z Y aI;have I:=sx _ _ g3;refine⟨ts.length - (i+1),δ,δ,rfl,hs++[(q1,sa)],_,by rw[List.map_append];rfl,by rw[List.length_append,hl];rfl,sx.trans sy,ex.trans ey,λj q m' z1 A=>?_⟩
  by_cases hj:j<hs.length
  ·rw[List.getElem?_append_left hj]at z1;obtain⟨⟨u1,u2,⟨du,u3⟩,u4⟩,v1,v2⟩:=hds j q m' z1 A;exact⟨⟨(ey.tg _ _ u3).trans u1,(ey.tg _ _ u4).trans u2,⟨du,sy _ _ u3⟩,sy _ _ u4⟩,v1,v2⟩
  ·have hj':=(dj z1).1;rw[List.length_append,List.length_singleton]at hj';have ej:j=hs.length:=δ
   subst ej;rw[List.getElem?_append_right Δ,Nat.sub_self]at z1;cases z1;rw[hl]at A ⊢;rw[hm]at A;cases A;exact⟨⟨eZ,(iI nqs.symm).trans eZ,⟨dq,Z⟩,by rw[Y,List.map_replicate];rfl⟩,(λz=>by rw[show q1=p from z,I]at nq;cases nq),(λz=>by rw[show sa=p from z,I]at Zqs;cases Zqs)⟩
end
section
variable {K:aD}{X:Cs}{H:Hp}{Q:VK}{E:XK}{T:Tg}{s:Nat}{A:Wa}{M:Wm}
theorem Zhm{i:Nat}{c:Ce}(j:WJ X H T s A M)(w:WT H T)(m:s≠0)(hc:M.cells[i]? =some (some c))
  (k:∀H' l,fc s H H' T T->WJ X H' T s l { M with used:=M.used - (1+c.fl.length+c.bulk),cells:=M.cells.set i none }->l.wo=A.wo->Q (.int c.birth) H'):
  yW X.C X.H [.ref A.hp,.int i] H Q E:=by
 obtain⟨th,tc,⟨g,oh⟩,oc⟩:=j.jh;obtain⟨h,d,ce⟩:=j.jc.at hc;obtain⟨_,_,⟨p,o1⟩,f⟩:=id ce;have hl:=(dj hc).1;refine⟨A.hp,i,rfl,A.ca,g,M.room,M.used,M.born,A.cs.map pV,h.1,h.2,c.birth,c.bulk,c.tone,c.load,c.fl.map oV,δ,oh,oc,by rw[Int.toNat_natCast,cL,d];rfl,⟨⟨p,o1⟩,f⟩,?_⟩;rw[Int.toNat_natCast,bA];have e:A.hp≠A.ca:=lM oh oc aI;obtain⟨a,n⟩:=j.back w m (i:=i) (used':=M.used - (1+c.fl.length+c.bulk)) (by rw[j.jc.lc];exact hl) (upd (upd H A.hp (.ins X.H g (je M.room A.ca (M.used - (1+c.fl.length+c.bulk)) M.born))) A.ca (.lst ((A.cs.map pV).set i V.non)))
  (λb o hb n1 n2=>by rw[aA n2,aA n1];exact hb) (by rw[aA e];exact ao) ao
 exact k _ _ a n rfl
end
def heldOf(M:Wm):List Au:=M.hands.map (·.2)
inductive Zdv(X:Cs)(wo:AI)(H:Hp)(Q:VK):Prop
 | mk (T s A M) (_:WJ X H T s A M) (_:A.wo=wo) (_:M.hands.length<=1000) (_:∀(l:AI) (ls:AF) H',bx H H'->H l=none->H' l=some (.lst (ls.map V.ref))->ls.length=(heldOf M).length->ls.Nodup->(∀r∈ls,H r=none)->l∉ls->(∀(j:Nat) r x,ls[j]? =some r->(heldOf M)[j]? =some x->H' r=some (.lst (x.map oV)))->Q (.ref l) H'):Zdv X wo H Q
def Zmg(X:Cs):Sp:=λvs H Q E=>∃wo,vs=[.ref wo]/\Zdv X wo H Q
section
variable {K:aD}{X:Cs}{H:Hp}{Q:VK}{E:XK}{n:μ}{bk ct:μ}
theorem Zoe{wo:AI}(T:lW K X)(q:Zdv X wo H Q):
  Xa K ν [↑wo] H:=by
 obtain⟨Tg,s,A,M,j,rfl,hl,q⟩:=q;obtain⟨v,ow⟩:=j.jb.ow;unfold Xa;apply VH ?_;apply aH ow T.cW T.nWd dU ?_;have l5:=j.jd.l5;refine⟨_,rfl,⟨_,cJ.of j.jb.on⟩,?_⟩;refine Zky (cJ.of j.jb.on) (by rw[bA];omega) (λi r u=>∃x,(heldOf M)[i]? =some x/\u r=some (.lst (x.map oV))) (by rintro _ _ _ _ ⟨x,e,z⟩ s;exact⟨x,e,s _ _ z⟩) (by rintro _ _ _ ⟨_,_,z⟩;exact⟨_,z⟩) (λx t q hq=>Qf hq) (λi x t hi a B hq=>?_) ?_
 ·rw[cL]at hi;obtain⟨p,hp,rfl⟩:=Option.map_eq_some_iff.mp hi;have g:=j.same a;obtain⟨m,hm,hd⟩:=g.hand hp;obtain⟨v,o1⟩:=hd.o1;walk_at"c";apply aH o1 T.cD T.nDs pZ ?_;apply LK (cJ.of hd.o2) λl hl=>?_;exact hq l _ (aM hl _) hl ⟨_,by unfold heldOf;rw[cL,hm];rfl,ao⟩
 ·intro rs w a hl nd o hr p hp;have b:=aM hp (.lst (rs.map V.ref));refine q p rs _ (a.trans b) (a.free hp) ao ?_ nd o (λz=>?_) λf r x h d=>?_
  ·rw[hl,bA];unfold heldOf;rw[bA,j.jd.lh]
  ·obtain⟨k,hk,e⟩:=List.getElem_of_mem z;obtain⟨_,_,c⟩:=hr k p (by rw[bL hk,e]);rw[hp]at c;cases c
  ·obtain⟨y,e3,z⟩:=hr f r h;rw[d]at e3;cases e3;exact b _ _ z
end
def fK(w:Int)(h:Nat):Int:=if w=0 then 2 ^ h - 1 else 0
def lR(M:Wm):Wm:={ M with sw:={ M.sw with sense:=1 - M.sw.sense,phase:="walk",grey:=[],looked:=fK M.w M.hands.length,turn:=M.sw.turn+1,walks:=0,looks:=0,passes:=0 } }
def Ra:Sp:=λvs H Q E=>∃h,vs=[.int h]/\0<=h/\h<=30/\Q (.int (2 ^ h.toNat - 1)) H
def vB(k:Nat):Sp:=λvs H Q E=>∃a h,vs=[.ref a,.int h]/\0<=h/\h<=30/\Q (.int (if k=0 then 2 ^ h.toNat - 1 else 0)) H
inductive YQ(X:Cs)(wo:AI)(H:Hp)(Q:VK):Prop
 | mk (T s A M) (_:WT H T) (_:s≠0) (_:WJ X H T s A M) (_:A.wo=wo) (_:∀H' T' A',fc s H H' T T'->WJ X H' T' s A' (lR M)->A'.wo=wo->Q .non H'):YQ X wo H Q
def Zg1(X:Cs):Sp:=λvs H Q E=>∃wo,vs=[.ref wo]/\YQ X wo H Q
section
variable {X:Cs}{H H':Hp}{T T':Tg}{s:Nat}{A:Wa}{M:Wm}
theorem WJ.Znv(j:WJ X H T s A M)(w:WT H T)(k:s≠0){dx l:AI}(S:Sw)(hl:H l=none)(N:S.grey=[]):
  fc s H (upd (upd H l (.lst [])) A.sw (.ins X.S dx (bY S.sense S.phase l S.looked S.turn S.at' S.stop S.walks S.looks S.passes S.loss))) T (fX T l (s,8))/\
  WJ X (upd (upd H l (.lst [])) A.sw (.ins X.S dx (bY S.sense S.phase l S.looked S.turn S.at' S.stop S.walks S.looks S.passes S.loss))) (fX T l (s,8)) s { A with gr:=l } { M with sw:=S }:=by
 obtain⟨ts,tg,⟨dd,os⟩,og⟩:=id j.js;have e:l≠A.sw:=(aF os hl).symm;have i:WT (upd H l (.lst [])) (fX T l (s,8)):=Zbe (w.same (aM hl _)) ao;have d:fc s H (upd H l (.lst [])) T (fX T l (s,8)):=⟨λb o h _=>(aM hl _) _ _ h,λb o h=>⟨o,(aM hl _) _ _ h⟩,λb o h=>iI (aF h hl),i⟩;have c:WJ X (upd H l (.lst [])) (fX T l (s,8)) s A M:=j.fresh hl;obtain⟨a,E,⟨K,g⟩,J⟩:=id c.js;refine⟨d.trans (fc.upd i g (by rw[a])),?_⟩;have f:rT s (·=7) (upd H l (.lst [])) (upd (upd H l (.lst [])) A.sw (.ins X.S dx (bY S.sense S.phase l S.looked S.turn S.at' S.stop S.walks S.looks S.passes S.loss))) (fX T l (s,8)) (fX T l (s,8)):=rT.yj a;have m:=c.jb.mv f (kE k a) δ δ;have C:=c.jh.mv f δ δ;have p:=c.jn.mv f (kE k a) δ;have y:=c.jd.mv f λ_ _ _=>δ
 have x:=c.jc.mv f λ_ _=>δ
 obtain⟨r,q,n,t,B,L,D,v⟩:=m;obtain⟨y1,O,z,u⟩:=C;obtain⟨z1,F,I⟩:=p;exact⟨⟨r,q,n,t,B,L,D,v⟩,⟨y1,O,z,u⟩,⟨z1,F,I⟩,⟨a,eZ,⟨dx,ao⟩,by rw[aA e,ao,N];rfl⟩,y,x⟩
end
section
variable {K:aD}{X:Cs}{H:Hp}{Q:VK}{E:XK}{n:μ}{bk ct:μ}
theorem Zps{j:Int}(a:0<=j)(h1:j<=1000):Ln 1 j:=⟨a,δ,ε⟩
theorem Zi0{h:Int}(q:0<=h/\h<=30/\Q (.int (2 ^ h.toNat - 1)) H):U4 ν [some (.int h)] H:=by
 obtain⟨a,h1,q⟩:=q;unfold U4;exists _,_,rfl,rfl,Zps a δ;ext;rw[Int.one_mul];exact q
theorem zE{a:AI}{h:Int}(q:0<=h/\h<=30/\Q (.int (if (1:Nat)=0 then 2 ^ h.toNat - 1 else 0)) H):oH ν [↑a,some (.int h)] H:=by
 unfold oH;apply q.2.2
theorem GQ{a:AI}{h:Int}(q:0<=h/\h<=30/\Q (.int (if (0:Nat)=0 then 2 ^ h.toNat - 1 else 0)) H):qK Ra ν [↑a,some (.int h)] H:=by
 obtain⟨b,h1,q⟩:=q;unfold qK;apply⟨h,rfl,b,h1,q⟩
theorem Zma{wo:AI}(c:lW K X)(q:YQ X wo H Q):
  Zw K X.E X.F X.L (vB 0) (vB 1) ⟨λ_ H'=>Q .non H',Q,bk,ct⟩ [↑wo,none] H:=by
 obtain⟨T,s,A,M,w,P,j,rfl,q⟩:=q;obtain⟨U,ow⟩:=j.jb.ow;obtain⟨g,os⟩:=j.js.os;obtain⟨W,ok⟩:=j.jb.ok;obtain⟨dl,ol⟩:=j.jb.ol;have on:=j.jb.on;have lh:=j.jd.lh;have l5:=j.jd.l5;unfold Zw;apply aH ow c.cW c.Vn bC ?_;apply aH os c.cS c.n1 jX ?_;apply⟨A.sw,X.S,g,_,rfl,os,c.cS,c.n1,by show 11<1000;decide,?_⟩;rw[G3];apply aH ao c.cS c.n5 pF ?_;apply⟨A.sw,X.S,g,_,rfl,ao,c.cS,c.n5,by show 11<1000;decide,?_⟩;rw[Ky,dB];apply⟨A.sw,X.S,g,_,rfl,ao,c.cS,c.n2,by show 11<1000;decide,?_⟩;rw[jK,dB];apply⟨ε,λgr m=>?_⟩;have t:A.sw≠gr:=aF ao m;have v:H gr=none:=by rw[aA t.symm]at m;exact m
 apply⟨A.sw,X.S,g,_,rfl,by rw[aA t];exact ao,c.cS,c.n3,by show 11<1000;decide,?_⟩;rw[KD];have N:∀(a b:HO) (o:HO),upd (upd (upd H A.sw a) gr o) A.sw b=upd (upd H gr o) A.sw b:=λa b o=>by
  funext x
  by_cases z:x=A.sw
  ·rw[z,ao,ao]
  ·rw[aA z,aA z]
   by_cases y:x=gr
   ·rw[y,ao,ao]
   ·rw[aA y,aA y,aA z]
 rw[N];have fin:∀{lo:Int}{I:St},I=[↑A.wo,↑A.sw]->lo=fK M.w M.hands.length->∀(r:Hp),r=upd (upd H gr (.lst [])) A.sw (.ins X.S g (bY (1 - M.sw.sense) "walk" gr M.sw.looked (M.sw.turn+1) M.sw.at' M.sw.stop M.sw.walks M.sw.looks M.sw.passes M.sw.loss))->
   (∃a C dx fs,V.ref A.sw=.ref a/\r a=some (.ins C dx fs)/\Lj K C/\cQ K C "looked"/\fs.length<1000/\(aP (dY K χ π "walks") (aP (dY K χ π "looks") (dY K χ π "passes"))) ⟨λ_ H'=>Q .non H',Q,bk,ct⟩ I (upd r a (.ins C dx (bU "looked" (.int lo) fs)))):=by
  rintro lo I rfl D r rfl;refine⟨A.sw,X.S,g,_,rfl,ao,c.cS,c.n4,by show 11<1000;decide,?_⟩;rw[qC,dB];apply⟨A.sw,X.S,g,_,rfl,ao,c.cS,c.n8,by show 11<1000;decide,?_⟩;rw[rW,dB];apply⟨A.sw,X.S,g,_,rfl,ao,c.cS,c.n9,by show 11<1000;decide,?_⟩;rw[lX,dB];apply⟨A.sw,X.S,g,_,rfl,ao,c.cS,c.n10,by show 11<1000;decide,?_⟩;rw[qz,dB];obtain⟨st,R⟩:=j.Znv w P (dx:=g) (l:=gr) { M.sw with sense:=1 - M.sw.sense,phase:="walk",grey:=[],looked:=fK M.w M.hands.length,turn:=M.sw.turn+1,walks:=0,looks:=0,passes:=0 } v rfl;subst D;exact q _ _ _ st R rfl
 have kp:∀b o,H b=some o->b≠A.sw->upd (upd H gr (.lst [])) A.sw (.ins X.S g (bY (1 - M.sw.sense) "walk" gr M.sw.looked (M.sw.turn+1) M.sw.at' M.sw.stop M.sw.walks M.sw.looks M.sw.passes M.sw.loss)) b=some o:=λb o hb O=>by
  rw[aA O,aA (aF hb v)];exact hb
 have B:∀{a:AI}{C d:AI}{fs:List (Str×V)},H a=some (.ins C d fs)->fs.length<11->a≠A.sw:=λe hl z=>by
  rw[z,os]at e;have:=Option.some.inj e
  injection this with _ _ e3
  rw[<- e3]at hl;exact absurd hl (by show ¬ 11<11;decide)
 have f:=kp _ _ ow (B ow (by show 5<11;decide));have i:=kp _ _ ok (B ok (by show 2<11;decide));have h:=kp _ _ on (lM on os aI);generalize k:upd (upd H gr (.lst [])) A.sw (.ins X.S g (bY (1 - M.sw.sense) "walk" gr M.sw.looked (M.sw.turn+1) M.sw.at' M.sw.stop M.sw.walks M.sw.looks M.sw.passes M.sw.loss))=r at kp f i h ⊢;have n:((A.hs.map λp=>V.ref p.1).length:Int)=(M.hands.length:Int):=by rw[bA,lh]
 refine VG ?_;left;rcases ol with ⟨J,o⟩ | ⟨J,o⟩ | ⟨J,o⟩
 ·have u:=kp _ _ o (B o (by show 0<11;decide));refine JZ ?_;left;refine aH f c.cW c.nWk iR ?_;refine aH i c.cK c.nKl fL ?_;left;refine⟨A.lk,dl,_,rfl,u,rfl,?_⟩;left;refine aH f c.cW c.nWd dU ?_;left;refine eO (cJ.of h) ?_;rw[n];left;refine⟨A.lk,_,rfl,δ,δ,?_⟩;left;exact fin rfl (by unfold fK;rw[if_pos J,if_pos rfl,Int.toNat_natCast]) _ k.symm
 ·have u:=kp _ _ o (B o (by show 0<11;decide));refine wH (JZ ?_);left;refine aH f c.cW c.nWk iR ?_;refine aH i c.cK c.nKl fL ?_;left;refine⟨A.lk,dl,_,rfl,u,rfl,?_⟩;left;refine aH f c.cW c.nWd dU ?_;left;refine eO (cJ.of h) ?_;rw[n];left;refine⟨A.lk,_,rfl,δ,δ,?_⟩;left;exact fin rfl (by unfold fK;rw[if_neg (show ¬ (1:Nat)=0 by decide),if_neg δ]) _ k.symm
 ·have u:=kp _ _ o (B o (by show 0<11;decide));refine wH (wH ?_);left;refine aH f c.cW c.nWk iR ?_;refine aH i c.cK c.nKl fL ?_;left;refine⟨A.lk,dl,_,rfl,u,rfl,?_⟩;left;refine aH f c.cW c.nWd dU ?_;left;refine eO (cJ.of h) ?_;rw[n];left;refine⟨A.lk,_,rfl,δ,δ,?_⟩;left;exact fin rfl (by unfold fK;rw[if_neg (show ¬ (1:Nat)=0 by decide),if_neg δ]) _ k.symm
end
def Mj(M:Wm):Bool:=decide (M.sw.phase="walk"\/M.sw.phase="lost")
def Jq(M:Wm)(p b:Int):AA:=if jW M p b=true then none else match cellAt M p with
 | none=>none
 | some c=>if Mj M=true/\¬ c.tone=M.sw.sense then none else some p
inductive vh(X:Cs)(wo:AI)(H:Hp)(Q:VK):Prop
 | mk (T s A M) (_:WJ0 X H T s A M) (_:A.wo=wo) (_:∀H',bx H H'->Q (.bl (Mj M)) H'):vh X wo H Q
def GF(X:Cs):Sp:=λvs H Q E=>∃wo,vs=[.ref wo]/\vh X wo H Q
inductive Il(X:Cs)(wo:AI)(p:Int)(b:Int)(H:Hp)(Q:VK):Prop
 | mk (T s A M) (_:WJ0 X H T s A M) (_:A.wo=wo) (_:∀H',bx H H'->Q (oV (Jq M p b)) H'):Il X wo p b H Q
def Wr(X:Cs):Sp:=λvs H Q E=>∃wo p b,vs=[.ref wo,.int p,.int b]/\Il X wo p b H Q
section
variable {K:aD}{X:Cs}{H:Hp}{Q:VK}{E:XK}{n:μ}{bk ct:μ}
theorem Sq{wo:AI}(T:lW K X)(q:vh X wo H Q):zU K ν [↑wo] H:=by
 obtain⟨Tg,s,A,M,j,rfl,q⟩:=q;obtain⟨d1,ow⟩:=j.jb.ow;obtain⟨d2,os⟩:=j.js.os;unfold zU;apply aH ow T.cW T.Vn bC ?_;apply aH os T.cS T.n2 jY ?_;apply⟨bG ζ,λtp a=>?_⟩;generalize zz:upd H tp _=H1;obtain⟨b,d⟩:=nwO a zz;refine⟨tp,_,rfl,.inr (fj.of d),rfl,rfl,?_⟩;have q:=q H1 b;rw[show Mj M=(if false=true then !inV (V.str M.sw.phase) [V.str "walk",.str "lost"]else inV (V.str M.sw.phase) [V.str "walk",.str "lost"])from by
  rw[if_neg Bool.false_ne_true];show Mj M=(("walk":Str) == M.sw.phase || (("lost":Str) == M.sw.phase || false));unfold Mj
  by_cases h1:M.sw.phase="walk"
  ·simp[h1]
  ·by_cases h2:M.sw.phase="lost"
   ·simp[h2]
   ·have e:¬ ("walk":Str)=M.sw.phase:=λz=>h1 z.symm;have c:¬ ("lost":Str)=M.sw.phase:=λz=>h2 z.symm;simp[h1,h2,e,c]]at q
 exact q
theorem Zc2{wo:AI}{p b:Int}(T:lW K X)(q:Il X wo p b H Q):Nh K (Zdy X) (jg X) (GF X) ν [↑wo,some (.int p),some (.int b)] H:=by
 obtain⟨Tg,s,A,M,j,rfl,q⟩:=q;unfold Nh;exists _,_,_,rfl,Tg,s,A,M,j,rfl;have h:∀c,cellAt M p=some c->jW M p b=false->Jq M p b=if Mj M=true/\¬ c.tone=M.sw.sense then none else some p:=λc hc a=>by
  unfold Jq;rw[a,if_neg Bool.false_ne_true,hc]
 cases a:jW M p b with
 | true=>
  ext;have:=q H (bx.refl _);rw[show Jq M p b=none from if_pos a]at this;exact this
 | false=>
  apply⟨_,rfl,Tg,s,A,M,j,rfl,λu k=>?_⟩;obtain⟨c,hc⟩:∃c,cellAt M p=some c:=by
   cases e:cellAt M p with
   | none=>
    have:jW M p b=true:=by unfold jW;rw[e]
    rw[this]at a;cases a
   | some c=>exact⟨c,rfl⟩
  have q:=q u k;rw[h c hc a]at q;have d:=j.same k;cases l:Mj M with
  | false=>
   ext;rw[if_neg (λz=>by rw[l]at z;cases z.1)]at q;exact q
  | true=>
   ext;obtain⟨d1,ow⟩:=d.jb.ow;obtain⟨x,oh⟩:=d.jh.oh;rcases d.look (some p)with ⟨g,_⟩ | ⟨i,y,m,w,t,o,r,hp,_,ce⟩
   ·have g:cellAt M p=none:=g;rw[hc]at g;cases g
   cases w;rw[hc]at o;cases o;refine aH ow T.cW T.R6 bJ ?_;apply aH oh T.c.dg T.c.cB cj ?_;apply eF (cJ.of d.jh.oc) (mY (v:=.ref m.1) t (by rw[cL,hp];rfl)) ?_;exists _,_,rfl,Tg,s,A,M,_,m,c,d,rfl,ce,rfl;ext
   by_cases f:c.tone=M.sw.sense
   ·rw[if_neg (λz=>z.2 f)]at q;refine uX (λz=>absurd f z) ax;apply q
   ·rw[if_pos ⟨l,f⟩]at q;refine uX ax (λz=>absurd z f);apply q
end
def m5(M:Wm):Au:=M.names.map λm=>Jq M m.2.1 m.2.2
def iw(M:Wm):List Au:=heldOf M++[m5 M]
inductive YK(X:Cs)(wo:AI)(H:Hp)(Q:VK):Prop
 | mk (T s A M) (_:s≠0) (_:WJ X H T s A M) (_:A.wo=wo) (_:M.hands.length<=1000) (_:M.names.length<=1000) (_:∀(l:AI) (ls:AF) H',bx H H'->H l=none->H' l=some (.lst (ls.map V.ref))->ls.length=(iw M).length->(∀r∈ls,H r=none)->l∉ls->(∀(j:Nat) r x,ls[j]? =some r->(iw M)[j]? =some x->H' r=some (.lst (x.map oV)))->Q (.ref l) H'):YK X wo H Q
def Zfy(X:Cs):Sp:=λvs H Q E=>∃wo,vs=[.ref wo]/\YK X wo H Q
section
variable {K:aD}{X:Cs}{H:Hp}{Q:VK}{E:XK}{n:μ}{bk ct:μ}
theorem Ztd{T:Tg}{ns:AF}{names:List (Str×(Int×Int))}(h:Al (NmO H T) ns names):∀{i:Nat}{kv:L2.Key×V},(wU names ns)[i]? =some kv->∃t m,names[i]? =some m/\kv.2=.ref t/\H t=some (.tup [.int m.2.1,.int m.2.2])/\T t=(0,0):=by
 induction h with
 | nil=>intro i kv e;simp[wU]at e
 | cons a h ih=>
  intro i kv e;cases i with
  | zero=>cases e;exact⟨_,_,rfl,rfl,a.2,a.1⟩
  | succ i=>exact ih (i:=i) (kv:=kv) (by simpa[wU]using e)
theorem Zj0{wo:AI}(T:lW K X)(q:YK X wo H Q):
  Zv K (Zmg X) (Wr X) H ν [↑wo] H:=by
 obtain⟨Tg,s,A,M,h0,j,rfl,hh,hn,q⟩:=q;unfold Zv;apply⟨_,rfl,Tg,s,A,M,j,rfl,hh,λl1 a H1 s1 nl1 Z J nd1 nn1 Zz0 g1=>?_⟩;have Y:=j.same s1;obtain⟨dw,ow⟩:=Y.jb.ow;have om:=Y.jn.om;apply aH ow T.cW T.nWn jm ?_;refine⟨_,_,rfl,.inl om,λvv W=>?_⟩;generalize zz:upd H1 vv _=H2;obtain⟨N,g2⟩:=nwO W zz;have S:=Y.same N;have D:=S.jn.om;refine⟨_,_,_,rfl,g2,D,λo=>?_⟩;have lnm:(wU M.names A.ns).length=M.names.length:=Zkd S.jn.nms;have w3:=S.names (o:=.uh o (.dK (wU M.names A.ns))) h0;have f:∀b u,H2 b=some u->b≠A.nm->upd H2 A.nm (.uh o (.dK (wU M.names A.ns))) b=some u:=λb u hb nb=>by rw[aA nb];exact hb
 have O:upd H2 A.nm (.uh o (.dK (wU M.names A.ns))) A.nm=some (.uh o (.dK (wU M.names A.ns))):=ao;generalize upd H2 A.nm (.uh o (.dK (wU M.names A.ns)))=H3 at w3 f O ⊢;have nmn:∀t xs,H2 t=some (.tup xs)->t≠A.nm:=λt xs z=>lM z D (λy=>by cases y);refine Zf1 ?_;refine Zr4 M.names.length δ (λi y _=>∃m,M.names[i]? =some m/\y=oV (Jq M m.2.1 m.2.2)) (λ_ _ _ _ h _=>h) (λH' s=>⟨s _ _ O,δ⟩) (λi H' hi s=>⟨s _ _ O,δ⟩) (λi x H4 R hi v y=>?_) ?_
 ·obtain⟨rfl,kv,ekv,rfl⟩:=y;obtain⟨t,m,em,et,ot,tt⟩:=Ztd S.jn.nms ekv;refine⟨rfl,λq hq=>Qf hq,λq hq=>?_⟩;have U:=v _ _ (f _ _ ot (nmn _ _ ot));refine⟨t,_,_,_,by rw[et],fj.of U,?_⟩;walk_at"c";apply⟨_,_,_,rfl,Tg,s,A,M,w3.same v,rfl,λH6 d=>hq _ _ d ⟨m,em,rfl⟩⟩
 ·intro ys H4 v ly hy p np;have ey:ys=(m5 M).map oV:=by
   refine List.ext_getElem? λi=>?_
   by_cases hi:i<ys.length
   ·obtain⟨m,g,l⟩:=hy i ys[i] (bL hi);rw[bL hi,l];unfold m5;rw[cL,cL,g];rfl
   ·rw[List.getElem?_eq_none δ,List.getElem?_eq_none];unfold m5;rw[bA,bA];omega
  subst ey;have g5:=v _ _ O;have C:p≠A.nm:=λz=>by rw[z,g5]at np;cases np
  refine⟨A.nm,o,_,by rw[aA C.symm];exact g5,(λo' u z=>by rw[j.jn.om]at z;cases z),?_⟩;generalize w:upd (upd H4 p (.lst ((m5 M).map oV))) A.nm (.dK (wU M.names A.ns))=R;have L:bx H2 R:=λb u hb=>by
   rw[<- w]
   by_cases z:b=A.nm
   ·subst z;rw[ao];rw[D]at hb;exact hb
   ·have h3:=f b u hb z;rw[aA z,aA (aF (v _ _ h3) np)];exact v _ _ h3
  have np2:H2 p=none:=by
   cases z:H2 p with
   | none=>rfl
   | some u=>
    have:=v _ _ (f p u z C);rw[np]at this;cases this
  have I:R p=some (.lst ((m5 M).map oV)):=by rw[<- w,aA C];exact ao
  clear w;have F:=s1.trans (N.trans L);have B:=N.trans L;apply⟨bG ζ,λl2 nl2=>?_⟩;generalize zz:upd R l2 _=H6;obtain⟨d,g6⟩:=nwO nl2 zz;refine⟨l1,l2,_,_,rfl,rfl,d _ _ (B _ _ Z),g6,?_,λl3 c=>?_⟩
  ·rw[bA];have:(heldOf M).length=M.hands.length:=by unfold heldOf;rw[bA]
   exact bG (by simp;omega)
  have P:=aM c (.lst (a.map V.ref++[.ref p]));have E:=F.trans (d.trans P);have e7:a.map V.ref++[V.ref p]=(a++[p]).map V.ref:=by rw[List.map_append];rfl
  rw[e7]at P E ⊢;have fp:H p=none:=s1.free (N.free np2);refine q l3 (a++[p]) _ E (F.free (d.free c)) ao ?_ (λr hr=>?_) (λhr=>?_) λk r x g l=>?_
  ·unfold iw;rw[List.length_append,List.length_append,J];rfl
  ·rcases List.mem_append.mp hr with hr | hr
   ·exact nn1 r hr
   ·rw[List.mem_singleton.mp hr];exact fp
  ·rcases List.mem_append.mp hr with hr | hr
   ·obtain⟨k,hk,e⟩:=List.getElem_of_mem hr;have:=g1 k l3 (heldOf M)[k] (by rw[bL hk,e]) (bL δ);rw[d _ _ (B _ _ this)]at c;cases c
   ·rw[List.mem_singleton.mp hr,d _ _ I]at c;cases c
  ·unfold iw at l
   by_cases hk:k<a.length
   ·rw[List.getElem?_append_left hk]at g;rw[List.getElem?_append_left δ]at l;exact P _ _ (d _ _ (B _ _ (g1 k r x g l)))
   ·have hk2:=(dj g).1;rw[List.length_append,List.length_singleton]at hk2;have ek:k=a.length:=δ
    rw[List.getElem?_append_right δ]at g l;rw[ek,Nat.sub_self]at g;rw[ek,J,Nat.sub_self]at l;cases g;cases l;exact P _ _ (d _ _ I)
end
namespace KB
abbrev Fd:=List (Option Au)
def J2(F:Fd)(p:Int):Option Au:=if 0<=p then(F[p.toNat]?).join else none
def nxt(F:Fd)(pl:AA)(f:Int):AA:=match pl with
 | none=>none
 | some p=>match J2 F p with
  | none=>none
  | some fl=>if 0<=f then(fl[f.toNat]?).join else none
abbrev Rw:=List Au
def slt(R:Rw)(r s:Int):AA:=((R[r.toNat]?).bind λx=>x[s.toNat]?).join
def Xg(F:Fd)(w:AE)(x:AA×Nat):Option (Int×AE):=match x.1 with
 | none=>none
 | some q=>if (J2 F q).isSome then some (q,w++[(x.2:Int)])else none
def onw(F:Fd)(w:AE)(n:Nat)(ps:Au):List (Int×AE):=(ps.zipIdx n).filterMap (Xg F w)
def q0(F:Fd)(n:Nat)(R:Rw):List (Int×AE):=(R.zipIdx n).flatMap λx=>onw F [(x.2:Int)] 0 x.1
structure Good(F:Fd)(R:Rw)(p:Int)(w:AE):Prop where
 ex:∃r s fs row,w=r::s::fs/\0<=r/\0<=s/\R[r.toNat]? =some row/\s.toNat<row.length/\(∀f∈fs,0<=f)/\fs.foldl (nxt F) (slt R r s)=some p
 there:(J2 F p).isSome=true
theorem zg{F:Fd}{w:AE}{n:Nat}{ps:Au}{q:Int}{v:AE}(h:(q,v)∈onw F w n ps):∃k,ps[k]? =some (some q)/\v=w++[((n+k:Nat):Int)]/\(J2 F q).isSome=true:=by
 obtain⟨⟨x,m⟩,hm,e⟩:=List.mem_filterMap.mp h;obtain⟨a,b⟩:=List.mem_zipIdx_iff_le_and_getElem?_sub.mp hm;unfold Xg at e;cases x with
 | none=>cases e
 | some c=>
  simp only at e;split at e
  ·rename_i hs
   cases e;refine⟨m - n,b,?_,hs⟩;have:n+(m - n)=m:=by have:=a;simp only at this;omega
   rw[this]
  ·cases e
theorem Zlh{F:Fd}{R:Rw}{p q:Int}{w v:AE}{fl:Au}(g:Good F R p w)(a:J2 F p=some fl)(h:(q,v)∈onw F w 0 fl):Good F R q v:=by
 obtain⟨k,hk,rfl,hs⟩:=zg h;obtain⟨⟨r,s,fs,row,rfl,h1,h2,c,h4,h5,b⟩,_⟩:=g;refine⟨⟨r,s,fs++[((0+k:Nat):Int)],row,rfl,h1,h2,c,h4,λf a=>?_,?_⟩,hs⟩
 ·rcases List.mem_append.mp a with z | z
  ·exact h5 f z
  ·have:f=((0+k:Nat):Int):=by simpa using z
   omega
 ·rw[List.foldl_append,b];show nxt F (some p) _=some q;unfold nxt;simp only[a];rw[if_pos δ];have:(((0+k:Nat):Int)).toNat=k:=δ
  rw[this,hk];rfl
theorem Zog{F:Fd}{R:Rw}{q:Int}{v:AE}(h:(q,v)∈q0 F 0 R):Good F R q v:=by
 obtain⟨⟨row,n⟩,hm,h⟩:=List.mem_flatMap.mp h;have hr:R[n]? =some row:=List.mem_zipIdx_iff_getElem?.mp hm;obtain⟨k,hk,rfl,hs⟩:=zg h;refine⟨⟨(n:Int),((0+k:Nat):Int),[],row,rfl,δ,δ,by simpa using hr,?_,(λf b=>by cases b),?_⟩,hs⟩
 ·have:k<row.length:=(dj hk).1;omega
 ·show slt R _ _=some q;unfold slt;have a:((n:Int)).toNat=n:=δ
  have c:(((0+k:Nat):Int)).toNat=k:=δ
  rw[a,c,hr];simp only[Option.bind_some,hk,Option.join_some]
inductive Mg(F:Fd)(R:Rw):List (Int×AE)->Nat->List (Int×AE)->Prop
 | start:Mg F R (q0 F 0 R) 0 []
 | old {q k l p w}:Mg F R q k l->q[k]? =some (p,w)->p∈l.map (·.1)->Mg F R q (k+1) l
 | new {q k l p w fl}:Mg F R q k l->q[k]? =some (p,w)->p∉l.map (·.1)->J2 F p=some fl->Mg F R (q++onw F w 0 fl) (k+1) (l++[(p,w)])
theorem Mg.good{F:Fd}{R:Rw}{q l:List (Int×AE)}{k:Nat}(b:Mg F R q k l):(∀x∈q,Good F R x.1 x.2)/\∀x∈l,Good F R x.1 x.2:=by
 induction b with
 | start=>exact⟨λx hx=>Zog hx,λx hx=>nomatch hx⟩
 | old _ _ _ ih=>exact ih
 | new b hq hn c ih=>
  have g:=ih.1 _ (List.mem_of_getElem? hq);refine⟨λx hx=>?_,λx hx=>?_⟩
  ·rcases List.mem_append.mp hx with z | z
   ·exact ih.1 x z
   ·exact Zlh g c z
  ·rcases List.mem_append.mp hx with z | z
   ·exact ih.2 x z
   ·have a:=List.mem_singleton.mp z;rw[a];exact g
def wgt:Option Au->Nat
 | none=>0
 | some fl=>fl.length
def Zbh(F:Fd)(l:List (Int×AE)):Nat:=((F.zipIdx).map λx=>if (x.2:Int)∈l.map (·.1)then 0 else wgt x.1).sum
theorem Zij{a:Type}(f g:a->Nat):∀(xs:List a),(∀x∈xs,g x<=f x)->(xs.map g).sum<=(xs.map f).sum
 | [],_=>Nat.le_refl _
 | x::xs,h=>by
  have h1:=h x ζ;have h2:=Zij f g xs λy hy=>h y (by simp[hy]);simp only[List.map_cons,List.sum_cons];omega
theorem Zb{b:Type}(f g:b->Nat)(d:Nat):∀(xs:List b) (a:b),a∈xs->(∀x∈xs,g x<=f x)->g a+d<=f a->(xs.map g).sum+d<=(xs.map f).sum
 | [],_,h,_,_=>nomatch h
 | x::xs,a,c,h,hd=>by
  have h1:=h x ζ;have h2:=Zij f g xs λy hy=>h y (by simp[hy]);simp only[List.map_cons,List.sum_cons];rcases List.mem_cons.mp c with z | z
  ·subst z;omega
  ·have e:=Zb f g d xs a z (λy hy=>h y (by simp[hy])) hd;omega
theorem Ly{F:Fd}{w:AE}{n:Nat}{ps:Au}:(onw F w n ps).length<=ps.length:=by
 unfold onw;have:=List.length_filterMap_le (Xg F w) (ps.zipIdx n);rw[List.length_zipIdx]at this;exact this
theorem Zia{F:Fd}{l:List (Int×AE)}{p:Int}{w:AE}{fl:Au}(hn:p∉l.map (·.1))(a:J2 F p=some fl):Zbh F (l++[(p,w)])+fl.length<=Zbh F l:=by
 unfold J2 at a;split at a
 ·rename_i b
  have hp:F[p.toNat]? =some (some fl):=by
   cases e:F[p.toNat]? with
   | none=>rw[e]at a;cases a
   | some x=>rw[e]at a;simp only[Option.join_some]at a;rw[a]
  unfold Zbh;refine Zb _ _ fl.length _ (some fl,p.toNat) (List.mem_zipIdx_iff_getElem?.mpr hp) (λx _=>?_) ?_
  ·simp only[List.map_append,List.map_cons,List.map_nil,List.mem_append]
   by_cases h1:(x.2:Int)∈l.map (·.1)
   ·simp only[h1,true_or,↓reduceIte,Nat.le_refl]
   ·simp only[h1,false_or];split
    ·exact Nat.zero_le _
    ·exact Nat.le_refl _
  ·have e:((p.toNat:Nat):Int)=p:=δ
   simp only[List.map_append,List.map_cons,List.map_nil,List.mem_append,e];rw[if_pos (.inr ζ),if_neg hn];show 0+fl.length<=wgt (some fl);show 0+fl.length<=fl.length;omega
 ·cases a
def total(F:Fd)(R:Rw):Nat:=(q0 F 0 R).length+Zbh F []
theorem Mg.bound{F:Fd}{R:Rw}{q l:List (Int×AE)}{k:Nat}(b:Mg F R q k l):q.length+Zbh F l<=total F R:=by
 induction b with
 | start=>exact Nat.le_refl _
 | old _ _ _ ih=>exact ih
 | new b hq hn a ih=>
  have h2:=@Ly F;rw[List.length_append];refine Nat.le_trans ?_ ih
  rename_i w fl
  have c:=h2 (w:=w) (n:=0) (ps:=fl);have h4:=Zia (w:=w) hn a;omega
end KB
def Zou(cs:List V)(i:Int):V:=if 0<=i then(cs[i.toNat]?).getD .non else .non
def CO(a:AI)(H:Hp)(cs:List V)(i:Nat):Option Au->Prop
 | none=>cs[i]? =some .non
 | some fl=>∃p fa b u t l,cs[i]? =↑p/\za a H p fa b u t l (fl.map oV)
structure HV(CC CH:AI)(H:Hp)(hp:AI)(F:KB.Fd):Prop where
 ex:∃ca room used born cs,HpO CH H hp ca room used born cs/\cs.length=F.length/\∀(i:Nat) x,F[i]? =some x->CO CC H cs i x
theorem HpO.same{a:AI}{H H':Hp}{hp ca:AI}{room used born:Int}{cs:List V}(h:HpO a H hp ca room used born cs)(s:bx H H'):HpO a H' hp ca room used born cs:=by
 obtain⟨⟨b,h1⟩,h2⟩:=h;exact⟨⟨b,s _ _ h1⟩,s _ _ h2⟩
theorem CO.same{a:AI}{H H':Hp}{cs:List V}{i:Nat}{x:Option Au}(h:CO a H cs i x)(s:bx H H'):CO a H' cs i x:=by
 cases x with
 | none=>exact h
 | some fl=>
  obtain⟨p,d,b,u,t,l,e,c⟩:=h;exact⟨p,d,b,u,t,l,e,c.same s⟩
theorem HV.same{b a:AI}{H H':Hp}{hp:AI}{F:KB.Fd}(h:HV b a H hp F)(s:bx H H'):HV b a H' hp F:=by
 obtain⟨ca,room,used,born,cs,o,l,e⟩:=h;exact⟨ca,room,used,born,cs,o.same s,l,λi x hx=>(e i x hx).same s⟩
theorem Zlq{a:AI}{H:Hp}{cs:List V}{F:KB.Fd}(hl:cs.length=F.length)(e:∀(i:Nat) x,F[i]? =some x->CO a H cs i x)(i:Int):
  (KB.J2 F i=none/\Zou cs i=.non)\/∃fl p fa b u t l,KB.J2 F i=some fl/\Zou cs i=.ref p/\cs[i.toNat]? =↑p/\0<=i/\za a H p fa b u t l (fl.map oV):=by
 unfold KB.J2 Zou
 by_cases d:0<=i
 ·simp only[d,↓reduceIte];cases g:F[i.toNat]? with
  | none=>
   have:cs[i.toNat]? =none:=by rw[List.getElem?_eq_none_iff]at g ⊢;omega
   exact .inl ⟨rfl,by rw[this];rfl⟩
  | some x=>
   have c:=e _ _ g;cases x with
   | none=>exact .inl ⟨rfl,by rw[show cs[i.toNat]? =some V.non from c];rfl⟩
   | some fl=>
    obtain⟨p,fa,b,u,t,l,f,h⟩:=c;exact .inr ⟨fl,p,fa,b,u,t,l,rfl,by rw[f];rfl,f,trivial,h⟩
 ·simp only[d,↓reduceIte];exact .inl ⟨trivial,trivial⟩
def Cm(H:Hp):AF->List (Int×AE)->Prop
 | [],[]=>True
 | t::ts,x::b=>(∃a,H t=some (.tup [.int x.1,.ref a])/\H a=some (.tup (x.2.map V.int)))/\Cm H ts b
 | _,_=>False
theorem Cm.same{H H':Hp}(s:bx H H'):∀{ts:AF}{b:List (Int×AE)},Cm H ts b->Cm H' ts b
 | [],[],_=>trivial
 | [],_::_,h=>h.elim
 | _::_,[],h=>h.elim
 | _::_,_::_,⟨⟨a,h1,h2⟩,c⟩=>⟨⟨a,s _ _ h1,s _ _ h2⟩,Cm.same s c⟩
theorem Cm.app{H:Hp}:∀{ts us:AF}{a rs:List (Int×AE)},Cm H ts a->Cm H us rs->Cm H (ts++us) (a++rs)
 | [],_,[],_,_,h=>h
 | [],_,_::_,_,h,_=>h.elim
 | _::_,_,[],_,h,_=>h.elim
 | _::_,_,_::_,_,⟨h1,b⟩,h=>⟨h1,Cm.app b h⟩
theorem Cm.len{H:Hp}:∀{ts:AF}{a:List (Int×AE)},Cm H ts a->ts.length=a.length
 | [],[],_=>rfl
 | [],_::_,h=>h.elim
 | _::_,[],h=>h.elim
 | _::_,_::_,⟨_,b⟩=>by rw[List.length_cons,List.length_cons,Cm.len b]
theorem Cm.at{H:Hp}:∀{ts:AF}{b:List (Int×AE)}{i:Nat}{x:Int×AE},Cm H ts b->b[i]? =some x->∃t a,ts[i]? =some t/\H t=some (.tup [.int x.1,.ref a])/\H a=some (.tup (x.2.map V.int))
 | [],[],_,_,_,e=>by simp at e
 | [],_::_,_,_,h,_=>h.elim
 | _::_,[],_,_,h,_=>h.elim
 | t::_,_::_,0,_,⟨⟨a,h1,h2⟩,_⟩,e=>by cases e;exact⟨t,a,rfl,h1,h2⟩
 | _::_,_::_,i+1,_,⟨_,c⟩,e=>Cm.at (i:=i) c e
def Q7(K:aD)(b c:AI):Sp:=λvs H Q E=>∃hp a wt F ps w,vs=[.ref hp,.ref a,.ref wt]/\HV b c H hp F/\cJ K H a (ps.map oV)/\fj K H wt (w.map V.int)/\w≠[]/\w.length<=100000/\ps.length<=1000/\
 ∀l ts H',H l=none->bx H H'->H' l=some (.lst (ts.map V.ref))->Cm H' ts (KB.onw F w 0 ps)->Q (.ref l) H'
def Ck(K:aD)(H:Hp):AF->KB.Rw->Prop
 | [],[]=>True
 | a::as,r::R=>cJ K H a (r.map oV)/\Ck K H as R
 | _,_=>False
theorem Ck.same{K:aD}{H H':Hp}(s:bx H H'):∀{as:AF}{R:KB.Rw},Ck K H as R->Ck K H' as R
 | [],[],_=>trivial
 | [],_::_,h=>h.elim
 | _::_,[],h=>h.elim
 | _::_,_::_,⟨h1,a⟩=>⟨s.seq h1,Ck.same s a⟩
theorem Ck.len{K:aD}{H:Hp}:∀{as:AF}{R:KB.Rw},Ck K H as R->as.length=R.length
 | [],[],_=>rfl
 | [],_::_,h=>h.elim
 | _::_,[],h=>h.elim
 | _::_,_::_,⟨_,a⟩=>by rw[List.length_cons,List.length_cons,Ck.len a]
theorem Ck.at{K:aD}{H:Hp}:∀{as:AF}{R:KB.Rw}{i:Nat}{a:AI},Ck K H as R->as[i]? =some a->∃r,R[i]? =some r/\cJ K H a (r.map oV)
 | [],[],_,_,_,e=>by simp at e
 | [],_::_,_,_,h,_=>h.elim
 | _::_,[],_,_,h,_=>h.elim
 | _::_,r::_,0,_,⟨h1,_⟩,e=>by cases e;exact⟨r,rfl,h1⟩
 | _::_,_::_,i+1,_,⟨_,b⟩,e=>Ck.at (i:=i) b e
structure Few(F:KB.Fd)(R:KB.Rw):Prop where
 f:F.length<=1000
 g:∀p fl,KB.J2 F p=some fl->fl.length<=1000
 r:R.length<=1000
 s:∀x∈R,x.length<=1000
 t:KB.total F R<=90000
def Ws(K:aD)(c d:AI):Sp:=λvs H Q E=>∃hp b F rs R,vs=[.ref hp,.ref b]/\HV c d H hp F/\cJ K H b (rs.map V.ref)/\Ck K H rs R/\Few F R/\
 ∀l ts q a H',KB.Mg F R q q.length a->H l=none->bx H H'->H' l=some (.lst (ts.map V.ref))->Cm H' ts a->Q (.ref l) H'
theorem Zuw{g f hp:AI}{H:Hp}{Q:VK}{E:XK}{pl:AA}{F:KB.Fd}(v:HV g f H hp F)(e:pl.bind (KB.J2 F)=none->Q .non H)(j:∀fl p fa b u t l,pl.bind (KB.J2 F)=some fl->za g H p fa b u t l (fl.map oV)->Q (.ref p) H):jt f [.ref hp,oV pl] H Q E:=by
 obtain⟨ca,room,used,born,cs,o,hl,h⟩:=v;refine⟨hp,oV pl,rfl,tU pl,ca,room,used,born,cs,o,?_⟩;cases pl with
 | none=>exact e rfl
 | some i=>
  show Q (Zou cs i) H;rcases Zlq hl h i with ⟨d,a⟩ | ⟨fl,p,fa,b,u,t,l,d,a,_,_,c⟩
  ·rw[a];exact e d
  ·rw[a];exact j fl p fa b u t l d c
theorem ZQ(F:KB.Fd)(w:AE)(n:Nat)(ps:Au)(x:AA):KB.onw F w n (ps++[x])=KB.onw F w n ps++(KB.Xg F w (x,n+ps.length)).toList:=by
 unfold KB.onw;rw[List.zipIdx_append,List.filterMap_append];congr 1
theorem take_snoc{a:Type}{xs:List a}{i:Nat}{x:a}(h:xs[i]? =some x):xs.take (i+1)=xs.take i++[x]:=by
 rw[List.take_add_one,h];rfl
theorem iT{H:Hp}{a:AI}{o:HO}(h:H a=none):bx H (upd H a o):=λb u q=>by rw[aA (aF q h)];exact q
section
variable {K:aD}{cG cA cU:AI}{H:Hp}{Q:VK}{E:XK}{n:μ}{bk ct:μ}
theorem Zcc{hp a wt:AI}{F:KB.Fd}{ps:Au}{w:AE}(v:HV cG cA H hp F)(P:cJ K H a (ps.map oV))(Y:fj K H wt (w.map V.int))(E:w≠[])(R:w.length<=100000)(W:ps.length<=1000)
  (Zq9:∀{H':Hp},bx H H'->fj K H' wt (w.map V.int))
  (q:∀l ts H',H l=none->bx H H'->H' l=some (.lst (ts.map V.ref))->Cm H' ts (KB.onw F w 0 ps)->Q (.ref l) H'):
  zb K (jt cA) ν [↑hp,↑a,↑wt] H:=by
 unfold zb;apply⟨a,rfl,⟨_,P⟩,Znx P (by rw[bA];omega) (λi s f=>bx H f/\i<=ps.length/\∃ts,s=ts.map V.ref/\Cm f ts (KB.onw F w 0 (ps.take i))) ⟨bx.refl _,Nat.zero_le _,[],rfl,trivial⟩ ?_ ?_ ?_⟩
 ·rintro i s f ⟨sm,hi,ts,rfl,g⟩;refine⟨sm,?_⟩;rw[bA,g.len];refine Nat.le_trans KB.Ly ?_;rw[List.length_take];omega
 ·rintro i x s f t C O hx ⟨sm,hi,ts,rfl,g⟩ S;walk_at"c";rw[cL]at hx;obtain⟨y,hy,rfl⟩:=Option.map_eq_some_iff.mp hx;have r:i<ps.length:=(dj hy).1;have k:0+(ps.take i).length=i:=by rw[List.length_take];omega
  have B:bx f (upd f t (.tup [.int i,oV y])):=iT S;have m:=sm.trans B;apply Zuw (v.same m) (λe=>?_) (λfl p fa b u Z l e c=>?_)
  ·refine Zd0 ?_;apply Znz (O _ _ ⟨m,r,ts,rfl,?_⟩);rw[take_snoc hy,ZQ,k];have L:KB.Xg F w (y,i)=none:=by
    unfold KB.Xg;cases y with
    | none=>rfl
    | some d=>simp only;rw[show KB.J2 F d=none from e];rfl
   rw[L];simp only[Option.toList_none,List.append_nil];exact g.same B
  ·refine Zd0 ?_;apply Zcx ?_;obtain⟨d,rfl⟩:∃d,y=some d:=by
    cases y with
    | none=>cases e
    | some d=>exact⟨d,rfl⟩
   have X:KB.J2 F d=some fl:=e;apply⟨(by show 1<=sizeLine;decide),λt2 I=>?_⟩;have M:=B.trans (iT (o:=.tup [.int i]) I);refine⟨wt,t2,w.map V.int,[.int i],rfl,rfl,Zq9 (sm.trans M),fj.of ao,by simpa using E,by rw[bA];exact bG (by simp only[List.length_cons,List.length_nil];omega),ay,(λ_ h J=>?_)⟩;have T:=M.trans (iT (o:=.tup (w.map V.int++[.int i])) J);apply⟨(by show 2<=sizeLine;decide),λA j=>?_⟩;have N:=T.trans (iT (o:=.tup [oV (some d),.ref h]) j);have D:h≠A:=aF ao j;have U:upd (upd (upd (upd f t (.tup [.int i,oV (some d)])) t2 (.tup [.int i])) h (.tup (w.map V.int++[.int i]))) A (.tup [oV (some d),.ref h]) h=some (.tup (w.map V.int++[.int i])):=by
    rw[aA D,ao]
   apply O _ _ ⟨sm.trans N,r,ts++[A],ζ,?_⟩;rw[take_snoc hy,ZQ,k];have L:KB.Xg F w (some d,i)=some (d,w++[(i:Int)]):=by
    unfold KB.Xg;simp only[X,Option.isSome_some,↓reduceIte]
   rw[L];refine(g.same N).app ⟨⟨h,ao,?_⟩,trivial⟩;rw[U,List.map_append];rfl
 ·rintro s f ⟨sm,_,ts,rfl,g⟩ l hl;ext;rw[bA,List.take_length]at g;exact q l ts _ (sm.free hl) (sm.trans (iT hl)) ao (g.same (iT hl))
end
theorem Zq9{K:aD}{H H':Hp}{a:AI}{xs:List V}(e:bx H H')(h:fj K H a xs):fj K H' a xs:=by
 rcases h with (h | ⟨o,h⟩) | h
 ·exact .inl (.inl (e _ _ h))
 ·exact .inl (.inr ⟨o,e _ _ h⟩)
 ·exact .inr h
def TK(H H':Hp):Prop:=∀b xs,H b=some (.tup xs)->H' b=some (.tup xs)
theorem TK.same{H H':Hp}(s:bx H H'):TK H H':=λb _ h=>s b _ h
theorem TK.upd{H:Hp}{a:AI}{o:HO}(h:∀xs,H a≠some (.tup xs)):TK H (L2.upd H a o):=λb xs q=>by
 have n:b≠a:=λz=>h xs (by rw[<- z];exact q);rw[aA n];exact q
theorem TK.trans{H d e:Hp}(a:TK H d)(b:TK d e):TK H e:=λc xs h=>b c xs (a c xs h)
theorem Cm.tk{H H':Hp}(s:TK H H'):∀{ts:AF}{b:List (Int×AE)},Cm H ts b->Cm H' ts b
 | [],[],_=>trivial
 | [],_::_,h=>h.elim
 | _::_,[],h=>h.elim
 | _::_,_::_,⟨⟨a,h1,h2⟩,c⟩=>⟨⟨a,s _ _ h1,s _ _ h2⟩,Cm.tk s c⟩
def Ww(H:Hp):List (Key×V)->List (Int×AE)->Prop
 | [],[]=>True
 | kv::b,x::c=>(kv.1=Sum.inl x.1/\∃a,kv.2=.ref a/\H a=some (.tup (x.2.map V.int)))/\Ww H b c
 | _,_=>False
theorem Ww.tk{H H':Hp}(s:TK H H'):∀{b:List (Key×V)}{c:List (Int×AE)},Ww H b c->Ww H' b c
 | [],[],_=>trivial
 | [],_::_,h=>h.elim
 | _::_,[],h=>h.elim
 | _::_,_::_,⟨⟨e,a,h1,h2⟩,d⟩=>⟨⟨e,a,h1,s _ _ h2⟩,Ww.tk s d⟩
theorem Ww.app{H:Hp}:∀{c b:List (Key×V)}{a rs:List (Int×AE)},Ww H c a->Ww H b rs->Ww H (c++b) (a++rs)
 | [],_,[],_,_,h=>h
 | [],_,_::_,_,h,_=>h.elim
 | _::_,_,[],_,h,_=>h.elim
 | _::_,_,_::_,_,⟨h1,d⟩,h=>⟨h1,Ww.app d h⟩
theorem Ww.len{H:Hp}:∀{ts:List (Key×V)}{a:List (Int×AE)},Ww H ts a->ts.length=a.length
 | [],[],_=>rfl
 | [],_::_,h=>h.elim
 | _::_,[],h=>h.elim
 | _::_,_::_,⟨_,b⟩=>by rw[List.length_cons,List.length_cons,Ww.len b]
theorem Ww.val{H:Hp}(p:Int):∀{a:List (Key×V)}{b:List (Int×AE)},Ww H a b->(nO a (Sum.inl p)).isSome=decide (p∈b.map (·.1))
 | [],[],_=>by simp[nO]
 | [],_::_,h=>h.elim
 | _::_,[],h=>h.elim
 | kv::a,x::b,⟨⟨c,_⟩,d⟩=>by
  by_cases e:x.1=p
  ·rw[Cq (by rw[c,e])];simp[e]
  ·rw[Cr (by rw[c];exact λz=>e (Sum.inl.inj z)),Ww.val p d];simp only[List.map_cons,List.mem_cons];have f:¬ p=x.1:=λz=>e z.symm;simp only[f,false_or]
theorem Ww.prs{H:Hp}:∀{ts:AF}{b:List (Key×V)}{c:List (Int×AE)},Ww H b c->Zba H ts b->Cm H ts c
 | [],[],[],_,_=>trivial
 | _,[],_::_,h,_=>h.elim
 | _,_::_,[],h,_=>h.elim
 | [],_::_,_::_,_,h=>h.elim
 | _::_,[],[],_,h=>h.elim
 | t::ts,kv::b,x::c,⟨⟨e,a,h1,h2⟩,f⟩,⟨d,g⟩=>⟨⟨a,by rw[d,e,h1];rfl,h2⟩,Ww.prs f g⟩
theorem Zn4(F:KB.Fd)(R:KB.Rw)(i:Nat)(r:Au)(h:R[i]? =some r):KB.q0 F 0 (R.take (i+1))=KB.q0 F 0 (R.take i)++KB.onw F [(i:Int)] 0 r:=by
 unfold KB.q0;rw[take_snoc h,List.zipIdx_append,List.flatMap_append];have hl:(R.take i).length=i:=by
  have:=(dj h).1;rw[List.length_take];omega
 rw[hl];simp only[List.zipIdx_cons,List.zipIdx_nil,List.flatMap_cons,List.flatMap_nil,List.append_nil,Nat.zero_add]
structure RS(K:aD)(CC CH:AI)(H0 H:Hp)(ql d:AI)(F:KB.Fd)(R:KB.Rw)(q qs:List (Int×AE))(k:Nat):Prop where
 sm:bx H0 H
 nq:H0 ql=none
 b:KB.Mg F R q k qs
 hk:k<=q.length
 oq:∃ts,H ql=some (.lst (ts.map V.ref))/\Cm H ts q
 od:∃kvs,H d=some (.dK kvs)/\Ww H kvs qs
 nd:H0 d=none
theorem Zkr{H:Hp}{a:AI}{xs:List V}{o:HO}(h:H a=some (.lst xs)):TK H (upd H a o):=TK.upd λb z=>by rw[h]at z;cases z
theorem Zup{H:Hp}{a:AI}{xs:List (Key×V)}{o:HO}(h:H a=some (.dK xs)):TK H (upd H a o):=TK.upd λb z=>by rw[h]at z;cases z
theorem MJ{c H:Hp}{a:AI}{o:HO}(s:bx c H)(h:c a=none):bx c (upd H a o):=λb u q=>by rw[aA (aF q h)];exact s b u q
theorem Zp3{F:KB.Fd}{R:KB.Rw}{q l:List (Int×AE)}{k:Nat}(b:KB.Mg F R q k l):l.length<=k:=by
 induction b with
 | start=>exact Nat.le_refl _
 | old _ _ _ ih=>omega
 | new _ _ _ _ ih=>rw[List.length_append];simp only[List.length_cons,List.length_nil];omega
theorem Zmm{F:KB.Fd}{R:KB.Rw}{q l:List (Int×AE)}{k:Nat}(b:KB.Mg F R q k l):∀x∈q,x.2.length<=k+2:=by
 induction b with
 | start=>
  intro x hx;obtain⟨⟨row,n⟩,hm,h⟩:=List.mem_flatMap.mp hx;obtain⟨j,_,e,_⟩:=KB.zg (q:=x.1) (v:=x.2) h;rw[e];simp
 | old _ _ _ ih=>intro x hx;have:=ih x hx;omega
 | new b hq _ _ ih=>
  intro x hx;rcases List.mem_append.mp hx with z | z
  ·have:=ih x z;omega
  ·obtain⟨j,_,e,_⟩:=KB.zg (q:=x.1) (v:=x.2) z;have:=ih _ (List.mem_of_getElem? hq);rw[e,List.length_append];simp only[List.length_cons,List.length_nil];simp only at this;omega
theorem Zqh(F:KB.Fd):∀(R S:KB.Rw) (n:Nat),(KB.q0 F n R).length<=(KB.q0 F n (R++S)).length:=λR S n=>by
 unfold KB.q0;rw[List.zipIdx_append,List.flatMap_append,List.length_append];omega
theorem Zn3(F:KB.Fd)(R:KB.Rw)(i:Nat):(KB.q0 F 0 (R.take i)).length<=KB.total F R:=by
 have:=Zqh F (R.take i) (R.drop i) 0;rw[List.take_append_drop]at this;unfold KB.total;omega
section
variable {K:aD}{cG cA cU:AI}{H:Hp}{Q:VK}{E:XK}{n:μ}{bk ct:μ}
theorem Zt{hp W:AI}{F:KB.Fd}{rs:AF}{R:KB.Rw}{v2 v3 v4 v5 v6 v7 v8:Option V}(T:TxC K cG cA)(v:HV cG cA H hp F)(hr:cJ K H W (rs.map V.ref))(rw':Ck K H rs R)(fw:Few F R)
  (q:∀l ts q L H',KB.Mg F R q q.length L->H l=none->bx H H'->H' l=some (.lst (ts.map V.ref))->Cm H' ts L->Q (.ref l) H'):
  Bs K (Q7 K cG cA) ν [↑hp,↑W,v2,v3,v4,v5,v6,v7,v8] H:=by
 have hrl:=rw'.len;have f1:=fw.r;unfold Bs;apply⟨(by show 0<=sizeLine;decide),λA I=>?_⟩;apply⟨W,rfl,⟨_,(iT I).seq hr⟩,Zok (rs.map V.ref) (λi N M=>i<=rs.length/\bx H M/\(∃ts,M A=some (.lst (ts.map V.ref))/\Cm M ts (KB.q0 F 0 (R.take i)))/\∃x y,N=[↑hp,↑W,↑A,x,y,v5,v6,v7,v8])
  ⟨Nat.zero_le _,iT I,⟨[],ao,trivial⟩,_,_,rfl⟩ (by rintro i N M _ ⟨_,sm,_⟩;exact sm.seq hr) ?_ ?_⟩
 ·rintro i x t N M hx ⟨hi,sm,⟨ts,f,D⟩,y,z,rfl⟩ ht;rw[cL]at hx;obtain⟨r,er,rfl⟩:=Option.map_eq_some_iff.mp hx;obtain⟨row,eR,Z⟩:=rw'.at er;have hil:i<rs.length:=(dj er).1;have C:=iT (o:=.tup [.int i,.ref r]) ht;refine⟨t,_,rfl,fj.of ao,rfl,.int i,_,rfl,?_⟩;exists .ref r,_,rfl;exists rfl;exists .inl ⟨rfl,_,cJ.of (C _ _ f)⟩;apply⟨(by show 1<=sizeLine;decide),λt2 ht2=>?_⟩;have B:=C.trans (iT (o:=.tup [.int i]) ht2);apply⟨hp,r,t2,F,row,[(i:Int)],rfl,v.same (sm.trans B),(sm.trans B).seq Z,fj.of ao,ay,(by show 1<=100000;decide),fw.s _ (List.mem_of_getElem? eR),λl us H' hl s3 hl' qa'=>?_⟩;have s4:=B.trans s3;have hq':H' A=some (.lst (ts.map V.ref)):=s4 _ _ f;ext;have hlen:ts.length<=100000:=by
   rw[D.len];exact Nat.le_trans (Nat.le_trans (Zn3 F R i) fw.t) ε
  have hlen2:us.length<=1000:=by
   rw[qa'.len];exact Nat.le_trans KB.Ly (fw.s _ (List.mem_of_getElem? eR))
  refine⟨A,l,_,_,rfl,rfl,hq',hl',by rw[bA,bA];exact bG δ,?_⟩;apply⟨hil,MJ (sm.trans s4) I,⟨ts++us,by rw[ao,List.map_append],?_⟩,_,_,rfl⟩;rw[Zn4 F R i row eR];exact((D.same s4).app qa').tk (Zkr hq')
 ·rintro N M ⟨hi,sm,⟨ts,f,D⟩,y,z,rfl⟩;rw[bA,hrl,List.take_length]at D;ext;intro d hd;ext;have ndq:d≠A:=λe=>by rw[e,f]at hd;cases hd
  refine⟨λm N M=>∃q L k x y v7 v8,m=KB.total F R - k/\N=[↑hp,↑W,↑A,x,y,↑d,some (.int (k:Nat)),v7,v8]/\RS K cG cA H M A d F R q L k,⟨_,KB.q0 F 0 R,[],0,_,_,_,_,rfl,rfl,?_⟩,?_⟩
  ·exact⟨sm.trans (iT hd),I,.start,Nat.zero_le _,⟨ts,by rw[aA ndq.symm];exact f,D.same (iT hd)⟩,⟨[],ao,trivial⟩,sm.free hd⟩
  ·rintro m N Hy ⟨Y,L,k,x,y,v7,v8,rfl,rfl,rs'⟩;obtain⟨E,nq,b,hk,⟨ts,f,D⟩,⟨h,j,X⟩,nd⟩:=rs';have hlq:=D.len;apply eO (cJ.of f) ?_;ext;have hb:=b.bound;refine pY (λz=>?_) (λz=>?_)
   ·rw[bA]at z;have S:k<Y.length:=δ
    have hq:Y[k]? =some Y[k]:=bL S;obtain⟨t,a,et,ht,P⟩:=D.at hq;generalize hx:Y[k]=pw at hq ht P;obtain⟨p,w⟩:=pw;refine⟨λσ' H'=>∃q2 O x y v7 v8,σ'=[↑hp,↑W,↑A,x,y,↑d,some (.int ((k:Int)+1)),v7,v8]/\RS K cG cA H H' A d F R q2 O (k+1),?_,?_⟩
    ·rintro σ' H' ⟨q2,O,x,y,v7,v8,rfl,r2⟩;exact⟨KB.total F R - (k+1),δ,q2,O,k+1,x,y,v7,v8,rfl,by rw[show((k+1:Nat):Int)=(k:Int)+1 from δ],r2⟩
    have hix:QJ (ts.map V.ref) ((k:Nat):Int)=↑t:=eN (by rw[cL,et];rfl);apply eF (cJ.of f) hix ?_;exists t,_,0,.int p,rfl,rfl,fj.of ht,mY ε rfl;apply eF (cJ.of f) hix ?_;exists t,_,1,.ref a,rfl,rfl,fj.of ht,mY ε rfl;exists d,h,_,rfl,.inl j,rfl;ext;have gd:=b.good.1 _ (List.mem_of_getElem? hq);refine Zrc (λy=>?_) (λy=>?_)
    ·have hno:nO h (Sum.inl p)=none:=by
      cases e:nO h (Sum.inl p)with
      | none=>rfl
      | some _=>rw[e]at y;simp at y
     have hnp:p∉L.map (·.1):=by
      have:=X.val p;rw[hno]at this;simpa using this
     obtain⟨fl,J⟩:∃fl,KB.J2 F p=some fl:=Option.isSome_iff_exists.mp gd.there;exists d,_,rfl,Zbd.k (k:=Sum.inl p) j ?_
     ·have h2:=X.len;have h3:=Zp3 b;have h4:=fw.t;exact Nat.lt_of_le_of_lt (show h.length<=1000000 by omega) (show 1000000<sizeLine by decide)
     rw[Zjd _ hno];have nd':A≠d:=lM f j aI;have C:bx H (upd Hy d (.dK (h++[(Sum.inl p,.ref a)]))):=MJ E nd;have k1:TK Hy (upd Hy d (.dK (h++[(Sum.inl p,.ref a)]))):=Zup j;have q1:upd Hy d (.dK (h++[(Sum.inl p,.ref a)])) A=some (.lst (ts.map V.ref)):=(aA nd').trans f;exists .inl ⟨rfl,_,cJ.of q1⟩;ext;obtain⟨ca,room,used,born,cs,ho,hl,he⟩:=(v.same C).ex;have ho':=ho;obtain⟨⟨dx,o1⟩,o2⟩:=ho';refine aH o1 T.dg T.cB cj ?_;ext;rcases Zlq hl he p with ⟨e1,_⟩ | ⟨fl',p',fa,b',u,t',l,e1,_,e3,e4,c⟩
     ·rw[J]at e1;cases e1
     rw[J]at e1;cases e1;refine eF (cJ.of o2) (mY e4 e3) ?_;obtain⟨⟨dc,c1⟩,c2⟩:=c;refine aH c1 T.dW T.gK jq ?_;ext;have hw:=Zmm b _ (List.mem_of_getElem? hq);have hgt:=fw.t;refine⟨hp,fa,a,F,fl,w,rfl,v.same C,cJ.of c2,fj.of (k1 _ _ P),?_,?_,fw.g p fl J,λl2 us U hl2 B hl2' qa2=>?_⟩
     ·obtain⟨r0,s0,fs0,_,e0,_⟩:=gd.ex;intro z;rw[show w=(p,w).2 from rfl,e0]at z;cases z
     ·simp only at hw;omega
     have hq2:U A=some (.lst (ts.map V.ref)):=B _ _ q1;have hd2:U d=some (.dK (h++[(Sum.inl p,.ref a)])):=B _ _ ao;have k2:=k1.trans (TK.same B);have k3:TK U (upd U A (.lst (ts.map V.ref++us.map V.ref))):=Zkr hq2;have b2:=KB.Mg.new b hq hnp J;have hb2:=b2.bound;rw[List.length_append,<- qa2.len,<- hlq]at hb2;apply⟨A,l2,_,_,rfl,rfl,hq2,hl2',by rw[bA,bA];exact bG δ,?_⟩;apply⟨_,_,_,_,_,_,rfl,⟨MJ (C.trans B) nq,nq,b2,by rw[List.length_append];omega,⟨ts++us,by rw[ao,List.map_append],(((D.tk k2).app qa2).tk k3)⟩,⟨_,by rw[aA nd'.symm];exact hd2,((X.tk k2).app ?_).tk k3⟩,nd⟩⟩;exact⟨⟨rfl,a,rfl,k2 _ _ P⟩,trivial⟩
    ·have hin:p∈L.map (·.1):=by
      have:=X.val p;cases e:nO h (Sum.inl p)with
      | none=>rw[e]at y;simp at y
      | some _=>rw[e]at this;simpa using this.symm
     apply⟨_,_,_,_,_,_,rfl,⟨E,nq,.old b hq hin,δ,⟨ts,f,D⟩,⟨h,j,X⟩,nd⟩⟩
   ·rw[bA]at z;have S:k=Y.length:=δ
    subst S;apply⟨d,h,rfl,.inl j,λvw hvw=>?_⟩;ext;have C:=iT (o:=HN vw d) hvw;refine Zo7 ao (.inl (C _ _ j)) λl us U hl B hl2 pa=>?_;apply q l us Y L U b ((E.trans C).free hl) ((E.trans C).trans B) hl2 ((X.tk (TK.same (C.trans B))).prs pa)
end
def fdOf(M:Wm):KB.Fd:=M.cells.map λo=>o.map (·.fl)
theorem WJ0.hv{X:Cs}{H:Hp}{T:Tg}{s:Nat}{A:Wa}{M:Wm}(j:WJ0 X H T s A M):HV X.C X.H H A.hp (fdOf M):=by
 have hl:=j.jc.lc;refine⟨A.ca,M.room,M.used,M.born,A.cs.map pV,j.hpO,by unfold fdOf;rw[bA,bA];exact hl,λi x hx=>?_⟩;unfold fdOf at hx;rw[cL]at hx;obtain⟨o,a,rfl⟩:=Option.map_eq_some_iff.mp hx;cases o with
 | none=>
  show(A.cs.map pV)[i]? =some .non;rw[cL,j.jc.at0 a];rfl
 | some c=>
  obtain⟨p,hp,ce⟩:=j.jc.at a;obtain⟨_,_,o1,o2⟩:=ce;exact⟨p.1,p.2,c.birth,c.bulk,c.tone,c.load,by rw[cL,hp];rfl,⟨o1,o2⟩⟩
theorem Qn{M:Wm}(x:Int):KB.J2 (fdOf M) x=(cellAt M x).map (·.fl):=by
 unfold KB.J2 fdOf cellAt
 by_cases h:0<=x
 ·rw[if_pos h,if_pos h,cL];cases M.cells[x.toNat]? with
  | none=>rfl
  | some o=>cases o<;>rfl
 ·rw[if_neg h,if_neg h];rfl
section
variable {K:aD}{X:Cs}{H:Hp}{Q:VK}{E:XK}{n:μ}{bk ct:μ}
theorem Zgt{hp a wt:AI}{F:KB.Fd}{ps:Au}{w:AE}(q:HV X.C X.H H hp F/\cJ K H a (ps.map oV)/\fj K H wt (w.map V.int)/\w≠[]/\w.length<=100000/\ps.length<=1000/\∀l ts H',H l=none->bx H H'->H' l=some (.lst (ts.map V.ref))->Cm H' ts (KB.onw F w 0 ps)->Q (.ref l) H'):
  zb K (jt X.H) ν [↑hp,↑a,↑wt] H:=by
 obtain⟨v,h1,h2,b,h4,h5,q⟩:=q;exact Zcc v h1 h2 b h4 h5 (λe=>Zq9 e h2) q
theorem Zc4{hp b:AI}{F:KB.Fd}{rs:AF}{R:KB.Rw}(T:lW K X)(q:HV X.C X.H H hp F/\cJ K H b (rs.map V.ref)/\Ck K H rs R/\Few F R/\∀l ts q a H',KB.Mg F R q q.length a->H l=none->bx H H'->H' l=some (.lst (ts.map V.ref))->Cm H' ts a->Q (.ref l) H'):
  Bs K (Q7 K X.C X.H) ν [↑hp,↑b,none,none,none,none,none,none,none] H:=by
 obtain⟨v,h1,h2,d,q⟩:=q;exact Zt T.c v h1 h2 d q
end
def fP(a:Int):List (Str×Au)->Nat->Wm->AE×Wm
 | [],_,M=>([],M)
 | m::l,k,M=>if a / 2 ^ k % 2=1 then((aQ M m.2).1++(fP a l (k+1) (aQ M m.2).2).1,(fP a l (k+1) (aQ M m.2).2).2)else fP a l (k+1) M
def lsE(x:Int):Nat->Nat->Int
 | _,0=>0
 | i,n+1=>if x / 2 ^ i % 2=0 then 2 ^ i else lsE x (i+1) n
def wD(k:Nat)(lo:Int)(n:Nat):Int:=if k=0 then 0 else if k=1 then lsE lo 0 n else 2 ^ n - 1
theorem Ow(b:Int)(m:Str×Au):∀(l:List (Str×Au)) (k:Nat) (M:Wm),fP b (l++[m]) k M=if b / 2 ^ (k+l.length) % 2=1 then((fP b l k M).1++(aQ (fP b l k M).2 m.2).1,(aQ (fP b l k M).2 m.2).2)else fP b l k M
 | [],k,M=>by
  show(if b / 2 ^ k % 2=1 then((aQ M m.2).1++[],(aQ M m.2).2)else([],M))=_;rw[List.append_nil];rfl
 | a::l,k,M=>by
  have e:k+(a::l).length=k+1+l.length:=by rw[List.length_cons];omega
  rw[e,List.cons_append];show(if b / 2 ^ k % 2=1 then((aQ M a.2).1++(fP b (l++[m]) (k+1) (aQ M a.2).2).1,(fP b (l++[m]) (k+1) (aQ M a.2).2).2)else fP b (l++[m]) (k+1) M)=_;show _=if b / 2 ^ (k+1+l.length) % 2=1 then(((if b / 2 ^ k % 2=1 then((aQ M a.2).1++(fP b l (k+1) (aQ M a.2).2).1,(fP b l (k+1) (aQ M a.2).2).2)else fP b l (k+1) M)).1++(aQ (if b / 2 ^ k % 2=1 then((aQ M a.2).1++(fP b l (k+1) (aQ M a.2).2).1,(fP b l (k+1) (aQ M a.2).2).2)else fP b l (k+1) M).2 m.2).1,(aQ (if b / 2 ^ k % 2=1 then((aQ M a.2).1++(fP b l (k+1) (aQ M a.2).2).1,(fP b l (k+1) (aQ M a.2).2).2)else fP b l (k+1) M).2 m.2).2)else(if b / 2 ^ k % 2=1 then((aQ M a.2).1++(fP b l (k+1) (aQ M a.2).2).1,(fP b l (k+1) (aQ M a.2).2).2)else fP b l (k+1) M)
  by_cases h:b / 2 ^ k % 2=1
  ·simp only[if_pos h];rw[Ow b m l (k+1)]
   by_cases h2:b / 2 ^ (k+1+l.length) % 2=1
   ·simp only[if_pos h2,List.append_assoc]
   ·simp only[if_neg h2]
  ·simp only[if_neg h];rw[Ow b m l (k+1)]
theorem Et:∀{l:Au}{M:Wm},(aQ M l).2.hands=M.hands
 | [],_=>rfl
 | x::l,M=>by
  show(aQ (bI M x).2 l).2.hands=_;rw[Et,JH]
theorem yo(a:Int)(B:Nat):∀(l:List (Str×Au)) (k:Nat) (M:Wm),(∀m∈l,m.2.length<=B)->(fP a l k M).2.sw.phase=M.sw.phase/\(fP a l k M).2.sw.grey.length<=M.sw.grey.length+l.length * B/\(fP a l k M).1.length<=l.length * B/\(fP a l k M).2.hands=M.hands
 | [],_,_,_=>by simp[fP]
 | m::l,k,M,h=>by
  have hm:=h m ζ;have e:(m::l).length * B=l.length * B+B:=by rw[List.length_cons,Nat.succ_mul]
  unfold fP
  by_cases z:a / 2 ^ k % 2=1
  ·rw[if_pos z];obtain⟨a1,a2,d,b⟩:=yo a B l (k+1) (aQ M m.2).2 λx hx=>h x (by simp[hx]);obtain⟨c,g⟩:=qU (l:=m.2) (M:=M);have f:=uO (l:=m.2) (M:=M);exact⟨a1.trans c,by show(fP a l (k+1) (aQ M m.2).2).2.sw.grey.length<=_;omega,by show((aQ M m.2).1++_).length<=_;rw[List.length_append];omega,b.trans Et⟩
  ·rw[if_neg z];obtain⟨a1,a2,d,b⟩:=yo a B l (k+1) M λx hx=>h x (by simp[hx]);exact⟨a1,δ,δ,b⟩
structure Wv(M M':Wm):Prop where
 rm:M'.room=M.room
 us:M'.used=M.used
 bn:M'.born=M.born
 hd:M'.hands=M.hands
 nm:M'.names=M.names
 ww:M'.w=M.w
 tl:M'.tells=M.tells
 sw:∃g,M'.sw={ M.sw with grey:=g }
 ce:M'.cells.map (λo=>o.map λc=>{ c with tone:=0 })=M.cells.map (λo=>o.map λc=>{ c with tone:=0 })
theorem Wv.refl(M:Wm):Wv M M:=⟨rfl,rfl,rfl,rfl,rfl,rfl,rfl,⟨_,rfl⟩,rfl⟩
theorem Wv.trans{M M1 M2:Wm}(a:Wv M M1)(b:Wv M1 M2):Wv M M2:=by
 obtain⟨a1,a2,n,l,t,h,q,⟨g,s⟩,p⟩:=a;obtain⟨c,o,d,r,k,j,i,⟨m,e⟩,f⟩:=b;exact⟨c.trans a1,o.trans a2,d.trans n,r.trans l,k.trans t,j.trans h,i.trans q,⟨m,by rw[e,s]⟩,f.trans p⟩
theorem Zk8(M:Wm)(x:AA):Wv M (bI M x).2:=by
 cases x with
 | none=>exact Wv.refl M
 | some i=>
  unfold bI;dsimp only;cases hc:cellAt M i with
  | none=>exact Wv.refl M
  | some c=>
   dsimp only;split
   ·obtain⟨a,h1⟩:=cF.mp hc;refine⟨rfl,rfl,rfl,rfl,rfl,rfl,rfl,⟨_,rfl⟩,?_⟩;show(M.cells.set i.toNat _).map _=_;rw[List.map_set];refine List.ext_getElem? λk=>?_
    by_cases z:i.toNat=k
    ·subst z;rw[List.getElem?_set_self (by rw[bA];exact(dj h1).1),cL,h1];rfl
    ·rw[List.getElem?_set_ne z]
   ·exact Wv.refl M
theorem tV:∀(l:Au) (M:Wm),Wv M (aQ M l).2
 | [],M=>Wv.refl M
 | x::l,M=>(Zk8 M x).trans (tV l _)
theorem Ht(a:Int):∀(l:List (Str×Au)) (k:Nat) (M:Wm),Wv M (fP a l k M).2
 | [],_,M=>Wv.refl M
 | m::l,k,M=>by
  unfold fP;split
  ·exact(tV m.2 M).trans (Ht a l (k+1) _)
  ·exact Ht a l (k+1) M
theorem Zke(a:Int)(l:List (Str×Au))(k:Nat)(M:Wm):(fP a l k M).2.sw.turn=M.sw.turn/\(fP a l k M).2.sw.looked=M.sw.looked/\(fP a l k M).2.sw.looks=M.sw.looks:=by
 obtain⟨g,e⟩:=(Ht a l k M).sw;rw[e];exact⟨rfl,rfl,rfl⟩
theorem Zgw{M:Wm}{x:AA}(h:(bI M x).1=none):(bI M x).2=M:=by
 cases x with
 | none=>rfl
 | some i=>
  unfold bI at h ⊢;dsimp only at h ⊢;cases hc:cellAt M i with
  | none=>rfl
  | some c=>
   rw[hc]at h;dsimp only at h ⊢;split
   ·rename_i z
    rw[if_pos z]at h;cases h
   ·rfl
theorem Oq:∀{l:Au}{M:Wm},(aQ M l).1=[]->(aQ M l).2=M
 | [],_,_=>rfl
 | x::l,M,h=>by
  have h:ZV (bI M x).1++(aQ (bI M x).2 l).1=[]:=h;obtain⟨h1,h2⟩:=List.append_eq_nil_iff.mp h;have a:(bI M x).1=none:=by
   cases e:(bI M x).1 with
   | none=>rfl
   | some b=>rw[e]at h1;cases h1
  show(aQ (bI M x).2 l).2=M;rw[Oq h2,Zgw a]
theorem Xm(a:Int):∀{l:List (Str×Au)}{k:Nat}{M:Wm},(fP a l k M).1=[]->(fP a l k M).2=M
 | [],_,_,_=>rfl
 | m::l,k,M,h=>by
  unfold fP at h ⊢;split
  ·rename_i z
   rw[if_pos z]at h;obtain⟨h1,h2⟩:=List.append_eq_nil_iff.mp h;show(fP a l (k+1) (aQ M m.2).2).2=M;rw[Xm a h2,Oq h1]
  ·rename_i z
   rw[if_neg z]at h;exact Xm a h
theorem Z5:∀(l:List (Str×Au)) (k:Nat) (M:Wm),fP 0 l k M=([],M)
 | [],_,_=>rfl
 | m::l,k,M=>by
  unfold fP;rw[if_neg ζ,Z5 l (k+1) M]
inductive vg(X:Cs)(wo:AI)(bits:Int)(H:Hp)(Q:VK):Prop
 | mk (T s A M) (_:WT H T) (_:s≠0) (_:WJ X H T s A M) (_:A.wo=wo) (_:(∀m∈M.hands,m.2.length<=100)) (_:(M.sw.phase="walk"->M.sw.grey.length<=5000)) (_:∀H' T' l,fc s H H' T T'->WJ X H' T' s A (fP bits M.hands 0 M).2->H' l=some (.lst ((fP bits M.hands 0 M).1.map V.int))->(H l=none/\TgO s (T' l))->Q (.ref l) H'):vg X wo bits H Q
def pq(X:Cs):Sp:=λvs H Q E=>∃wo a,vs=[.ref wo,.int a]/\vg X wo a H Q
def lJ(k:Nat):Sp:=λvs H Q E=>∃a lo h,vs=[.ref a,.int lo,.int h]/\0<=h/\h<=30/\Q (.int (wD k lo h.toNat)) H
section
variable {K:aD}{X:Cs}{H:Hp}{Q:VK}{E:XK}{n:μ}{bk ct:μ}
theorem Iz{a:AI}(q:Q (.bl true) H):sU ν [↑a] H:=by
 unfold sU;apply q
theorem Tu{a:AI}(q:Q (.bl false) H):z6 ν [↑a] H:=by
 unfold z6;apply q
theorem yX{a:AI}{lo h:Int}(q:0<=h/\h<=30/\Q (.int (wD 0 lo h.toNat)) H):m7 ν [↑a,some (.int lo),some (.int h)] H:=by
 unfold m7;apply q.2.2
theorem GP{a:AI}{lo h:Int}(q:0<=h/\h<=30/\Q (.int (wD 2 lo h.toNat)) H):qJ Ra ν [↑a,some (.int lo),some (.int h)] H:=by
 obtain⟨b,h1,q⟩:=q;unfold qJ;apply⟨h,rfl,b,h1,q⟩
theorem GR{a:AI}{lo h:Int}(q:0<=h/\h<=30/\Q (.int (wD 1 lo h.toNat)) H):qL ν [↑a,some (.int lo),some (.int h),none] H:=by
 obtain⟨j,h1,q⟩:=q;have q:Q (.int (lsE lo 0 h.toNat)) H:=q;unfold qL;exists h,rfl,δ,δ;refine forR (λi d c=>∃v,d=[↑a,some (.int lo),some (.int h),v]/\c=H/\(i<=h.toNat->lsE lo 0 h.toNat=lsE lo i (h.toNat - i))) ⟨none,rfl,rfl,λ_=>rfl⟩ ?_ ?_
 ·rintro i d c hi ⟨v,rfl,rfl,b⟩;have b:=b δ;have f:h.toNat - i=(h.toNat - (i+1))+1:=δ
  rw[f]at b;have g:lsE lo i (h.toNat - (i+1)+1)=if lo / 2 ^ i % 2=0 then 2 ^ i else lsE lo (i+1) (h.toNat - (i+1)):=rfl
  rw[g]at b;have e:((0:Int)+(i:Int)).toNat=i:=δ
  ext;rw[e,Zsm];refine pY (λz=>?_) (λz=>?_)
  ·rw[if_pos z]at b;apply i_I (Zps δ δ) ?_;rw[e,Int.one_mul,<- b];exact q
  ·rw[if_neg z]at b;apply⟨_,rfl,rfl,λ_=>b⟩
 ·rintro d c ⟨v,rfl,rfl,b⟩;have b:=b Δ;rw[Nat.sub_self]at b;have b:lsE lo 0 h.toNat=0:=b;ext;rw[b]at q;exact q
theorem R1{wo:AI}{a:Int}(B:lW K X)(q:vg X wo a H Q):
  zT K (mH X) ν [↑wo,some (.int a),none,none,none] H:=by
 obtain⟨T,s,A,M,w,s0,j,rfl,hs,hg,q⟩:=q;have lh:=j.jd.lh;have l5:=j.jd.l5;unfold zT;apply⟨bG ζ,λl hl=>?_⟩;have g:fc s H (upd H l (.lst [])) T (fX T l (s+1,1)):=fc.fresh w hl;have k:WJ X (upd H l (.lst [])) (fX T l (s+1,1)) s A M:=j.fresh hl;have W:upd H l (.lst []) l=some (.lst []):=ao;have tl:fX T l (s+1,1) l=(s+1,1):=eZ;generalize upd H l (.lst [])=H1 at g k W ⊢;generalize fX T l (s+1,1)=T1 at g k tl;obtain⟨dw,ow⟩:=k.jb.ow;apply aH ow B.cW B.nWd dU ?_;apply⟨A.hl,rfl,⟨_,cJ.of k.jb.on⟩,Zok (A.hs.map λp=>V.ref p.1) (λi F f=>∃P J L,F=[↑A.wo,some (.int a),↑l,J,L]/\fc s H f T P/\P l=(s+1,1)/\WJ X f P s A (fP a (M.hands.take i) 0 M).2/\f l=some (.lst ((fP a (M.hands.take i) 0 M).1.map V.int))) ⟨T1,_,_,rfl,g,tl,k,W⟩ (by rintro _ _ _ _ ⟨_,_,_,_,_,_,z,_⟩;exact cJ.of z.jb.on) ?_ ?_⟩
 ·rintro i x t F f hx ⟨E,J,L,rfl,c,b,C,D⟩ ht;rw[cL]at hx;obtain⟨p,hp,rfl⟩:=Option.map_eq_some_iff.mp hx;have hil:i<A.hs.length:=(dj hp).1;obtain⟨m,hm⟩:∃m,M.hands[i]? =some m:=⟨_,bL δ⟩;have N:M.hands.take (i+1)=M.hands.take i++[m]:=by rw[List.take_add_one,hm];rfl
  have u:(M.hands.take i).length=i:=by rw[List.length_take];omega
  obtain⟨n1,n2,n3,n4⟩:=yo a 100 (M.hands.take i) 0 M λx hx=>hs x (List.mem_of_mem_take hx);have e:=Ow a m (M.hands.take i) 0 M;rw[<- N,Nat.zero_add,u]at e;generalize zz:upd f t _=H3;obtain⟨O,I⟩:=nwO ht zz;have R:=C.same O;have h:=c.trans (fc.same (s:=s) c.wt O);have v:=O _ _ D;refine⟨t,_,rfl,fj.of I,rfl,.int i,_,rfl,?_⟩;exists .ref p.1,_,rfl;exists rfl;ext;rw[Zsm,Int.toNat_natCast];refine pY (λz=>?_) (λz=>?_)
  ·rw[if_pos z]at e;exists .inl ⟨rfl,_,cJ.of v⟩;have o:(fP a (M.hands.take i) 0 M).2.hands[i]? =some m:=by rw[n4];exact hm
   have hd:=R.jd.hd i p m hp o;obtain⟨dx,o1⟩:=hd.o1;have U:=hs m (List.mem_of_getElem? hm);have hB:(M.hands.take i).length * 100<=3000:=by rw[u];omega
   apply aH o1 B.cD B.nDs pZ ?_;apply⟨_,_,rfl,m.2,E,s,A,_,h.wt,s0,R,rfl,.inr (.inl ⟨i,p,m,hp,o,rfl,rfl⟩),U,λy=>?_,λH4 Y l4 d Z g4 nl4=>?_⟩
   ·have:=hg (n1.symm.trans y);omega
   have S:H4 l=some (.lst ((fP a (M.hands.take i) 0 M).1.map V.int)):=d.kp _ _ v (by rw[b];show s+1≠s;omega);have nl:=uO (l:=m.2) (M:=(fP a (M.hands.take i) 0 M).2);apply⟨l,l4,_,_,rfl,rfl,S,g4,by rw[bA,bA];exact bG δ,?_⟩;ext;have r:Y l=(s+1,1):=(d.tg _ _ v).trans b;refine⟨Y,_,_,rfl,fc.new (h.trans d) hl S,r,?_,?_⟩
   ·rw[e];exact Z.other (s':=s+1) (fc.upd d.wt S (by rw[r])) δ δ
   ·rw[e,ao,List.map_append]
  ·rw[if_neg z]at e;apply⟨E,_,_,rfl,h,b,by rw[e];exact R,by rw[e];exact v⟩
 ·rintro F f ⟨E,J,L,rfl,c,b,C,D⟩;ext;rw[bA,lh,List.take_length]at C D;exact q f E l c C D ⟨hl,by rw[b];exact .inr rfl⟩
end
structure Zi2(M:Wm):Prop where
 cl:M.cells.length<=900
 hl:∀m∈M.hands,m.2.length<=100
 fl:∀c,some c∈M.cells->c.fl.length<=50
 nl:M.names.length<=900
 gl:M.sw.phase="walk"->M.sw.grey.length<=900
 gc:M.sw.phase="walk"->∀x∈M.sw.grey,∃c,cellAt M x=some c
 ph:M.sw.phase="rest"\/M.sw.phase="walk"\/M.sw.phase="give"\/M.sw.phase="lost"
 a0:0<=M.sw.at'
inductive Zpv(H:Hp)(T:Tg)(M:Wm)(b:Int)(w:AE):Prop
 | mk (a wl) (_:M.sw.loss=.ref a) (_:T a=(0,0)) (_:H a=some (.tup [.str "lost",.int b,.ref wl])) (_:T wl=(0,0)) (_:H wl=some (.lst (w.map V.int))):Zpv H T M b w
inductive Zmh(H0 H:Hp)(T:Tg)(fr:Prop)(M:Wm)(b:Int)(w:AE)(ev:AI):Prop
 | mk (a wl) (_:M.sw.loss=.ref a) (_:T a=(0,0)) (_:H a=some (.tup [.str "lost",.int b,.ref wl])) (_:T wl=(0,0)) (_:H wl=some (.lst (w.map V.int))) (_:(∀x y l,H ev=some (.tup [x,y,.ref l])->wl≠l)) (_:(fr->H0 wl=none)):Zmh H0 H T fr M b w ev
def oK(M:Wm)(i:Nat):Option Ce:=((M.cells[i]?).join).bind λc=>if c.tone=M.sw.sense then none else some c
def pN(M:Wm):AE:=(List.range M.cells.length).filterMap λi=>(oK M i).map λ_=>(i:Int)
def jT(M:Wm):AE:=(List.range M.cells.length).filterMap λi=>(oK M i).map (·.birth)
def fY(M:Wm):Wm:={ M with sw:={ M.sw with stop:=M.cells.length,at':=0 } }
def bQ(M:Wm):Int:=wD M.w.toNat M.sw.looked M.hands.length
def nY(M:Wm):Prop:=bQ M=0\/(M.w=2/\(fP (bQ M) M.hands 0 M).1=[])
inductive lH(lb:Int)(lw:AE)(M:Wm):Ev->Wm->Prop
 | begin:M.sw.phase="rest"->lH lb lw M ⟨"begin",some (M.sw.turn+1),(fP (fK M.w M.hands.length) M.hands 0 (lR M)).1⟩ (fP (fK M.w M.hands.length) M.hands 0 (lR M)).2
 | walk (x:Int) (g:AE) (c:Ce):M.sw.phase="walk"->M.sw.grey=x::g->cellAt M x=some c->lH lb lw M ⟨"walk",some c.birth,(aQ { M with sw:={ M.sw with grey:=g,walks:=M.sw.walks+1 } } c.fl).1⟩ (aQ { M with sw:={ M.sw with grey:=g,walks:=M.sw.walks+1 } } c.fl).2
 | look (N:Wm):M.sw.phase="walk"->M.sw.grey=[]->¬ nY M->N=(fP (bQ M) M.hands 0 M).2->lH lb lw M ⟨"look",some (bQ M),(fP (bQ M) M.hands 0 M).1⟩ { N with sw:={ N.sw with looks:=N.sw.looks+1,looked:=if M.w=2 then N.sw.looked else Builtin.bitOr N.sw.looked (bQ M) } }
 | cut (q qs:List (Int×AE)):M.sw.phase="walk"->M.sw.grey=[]->nY M->KB.Mg (fdOf M) (iw M) q q.length qs->(∀x∈qs,∀c,cellAt M x.1=some c->c.tone=M.sw.sense)->lH lb lw M ⟨"cut",some (jT M).length,jT M⟩ { fY M with sw:={ (fY M).sw with phase:="give" } }
 | lost (q qs:List (Int×AE)) (i:Nat) (x:Int×AE) (c:Ce) (v:V):M.sw.phase="walk"->M.sw.grey=[]->nY M->KB.Mg (fdOf M) (iw M) q q.length qs->qs[i]? =some x->(∀(k:Nat) y d,k<i->qs[k]? =some y->cellAt M y.1=some d->d.tone=M.sw.sense)->cellAt M x.1=some c->c.tone≠M.sw.sense->lH lb lw M ⟨"lost",some c.birth,x.2⟩ { fY M with sw:={ (fY M).sw with phase:="lost",loss:=v } }
 | pass:M.sw.phase="give"->M.sw.at'<M.sw.stop->(∀c,cellAt M M.sw.at'=some c->c.tone=M.sw.sense)->lH lb lw M ⟨"pass",some M.sw.at',[]⟩ { M with sw:={ M.sw with at':=M.sw.at'+1,passes:=M.sw.passes+1 } }
 | back (c:Ce):M.sw.phase="give"->M.sw.at'<M.sw.stop->cellAt M M.sw.at'=some c->c.tone≠M.sw.sense->lH lb lw M ⟨"back",some c.birth,[M.sw.at']⟩ { M with used:=M.used - (1+c.fl.length+c.bulk),cells:=M.cells.set M.sw.at'.toNat none,sw:={ M.sw with at':=M.sw.at'+1,passes:=M.sw.passes+1 } }
 | fin:M.sw.phase="give"->¬ M.sw.at'<M.sw.stop->lH lb lw M ⟨"end",some M.sw.turn,[M.sw.walks,M.sw.looks,M.sw.passes]⟩ { M with sw:={ M.sw with phase:="rest" } }
 | again:M.sw.phase="lost"->lH lb lw M ⟨"lost",some lb,lw⟩ M
inductive wO(X:Cs)(P:Wm->Prop)(wo:AI)(H:Hp)(Q:VK):Prop
 | mk (T s A M lb lw) (_:WT H T) (_:s≠0) (_:WJ X H T s A M) (_:A.wo=wo) (_:Zi2 M) (_:P M) (_:(M.sw.phase="lost"->Zpv H T M lb lw)) (_:∀e M',lH lb lw M e M'->∀H' T' A' a,fc s H H' T T'->WJ X H' T' s A' M'->A'.wo=wo->EvN H H' T' s a e->(M'.sw.phase="lost"->∃b,e.thing=some b/\Zmh H H' T' (M.sw.phase≠"lost") M' b e.notes a)->Q (.ref a) H'):wO X P wo H Q
def cV(X:Cs)(P:Wm->Prop):Sp:=λvs H Q E=>∃wo,vs=[.ref wo]/\wO X P wo H Q
def Zjr(M:Wm):Prop:=M.sw.phase="walk"/\M.sw.grey≠[]
def Zju(M:Wm):Prop:=M.sw.phase="walk"/\M.sw.grey=[]
def Zjv(M:Wm):Prop:=M.sw.phase="walk"/\M.sw.grey=[]/\nY M
def Zjt(M:Wm):Prop:=M.sw.phase="give"/\M.sw.at'<M.sw.stop
def pEnd(M:Wm):Prop:=M.sw.phase="give"/\¬ M.sw.at'<M.sw.stop
def Vg(z:Str)(M:Wm):Prop:=M.sw.phase=z
def Znf(_:Wm):Prop:=True
inductive vf(K:aD)(ev:AI)(H:Hp)(Q:VK):Prop
 | mk (z b l) (ns:AE) (_:H ev=some (.tup [.str z,.int b,.ref l])) (_:H l=some (.lst (ns.map V.int))) (_:∀a l' H',bx H H'->H a=none->H l'=none->H' a=some (.tup [.str z,.int b,.ref l'])->H' l'=some (.lst (ns.map V.int))->Q (.ref a) H'):vf K ev H Q
def vA(K:aD):Sp:=λvs H Q E=>∃ev,vs=[.ref ev]/\vf K ev H Q
inductive Ca(X:Cs)(wo:AI)(H:Hp)(Q:VK):Prop
 | mk (T s A M) (_:WJ X H T s A M) (_:A.wo=wo) (_:M.cells.length<=900) (_:∀l H',bx H H'->H l=none->H' l=some (.lst ((pN M).map V.int))->Q (.ref l) H'):Ca X wo H Q
def Q9(X:Cs):Sp:=λvs H Q E=>∃wo,vs=[.ref wo]/\Ca X wo H Q
section
variable {K:aD}{X:Cs}{H:Hp}{Q:VK}{E:XK}{n:μ}{bk ct:μ}
theorem Rq{ev:AI}(q:vf K ev H Q):
  zP K ν [↑ev] H:=by
 obtain⟨z,b,l,ns,o1,o2,q⟩:=q;unfold zP;exists ev,_,0,_,rfl,rfl,fj.of o1,rfl;exists ev,_,1,_,rfl,rfl,fj.of o1,rfl;exists ev,_,2,_,rfl,rfl,fj.of o1,rfl;apply LK (cJ.of o2) λd c=>?_;generalize zz:upd H d _=H1;obtain⟨e,h⟩:=nwO c zz;apply⟨bG ζ,λa g=>?_⟩;have f:=aM g (.tup [.str z,.int b,.ref d]);exact q a d _ (e.trans f) (e.free g) c ao (f _ _ h)
theorem Qm{a b:Type}{f g:a->Option b}:∀{l:List a},(∀x∈l,f x=g x)->l.filterMap f=l.filterMap g
 | [],_=>rfl
 | x::l,h=>by
  rw[List.filterMap_cons,List.filterMap_cons,h x ζ,Qm λy hy=>h y (by simp[hy])]
theorem Zx{a b:Type}(f:a->Option b):∀(xs:List a),(List.range xs.length).filterMap (λi=>(xs[i]?).bind f)=xs.filterMap f
 | []=>rfl
 | x::xs=>by
  rw[List.length_cons,List.range_succ_eq_map,List.filterMap_cons];simp only[List.getElem?_cons_zero,Option.bind_some,List.filterMap_map,List.filterMap_cons];have e:((λi=>((x::xs)[i]?).bind f) ∘ Nat.succ)=λi=>(xs[i]?).bind f:=by
   funext i
   simp
  rw[e,Zx f xs]
theorem Zgo{A:Wa}{M:Wm}{T:Tg}{s:Nat}(j:WJ X H T s A M)(f:V->Option V)(d:∀(i:Nat) (c:Ce),M.cells[i]? =some (some c)->f (.int i)=(oK M i).map λ_=>V.int i):((plc (A.cs.map pV)).map V.int).filterMap f=(pN M).map V.int:=by
 unfold plc pN;rw[List.filterMap_map,List.filterMap_map,List.filterMap_filter,List.map_filterMap,bA,j.jc.lc];refine Qm λi hi=>?_;have a:=List.mem_range.mp hi;have e:(A.cs.map pV)[i]? =some V.non↔M.cells[i]? =some none:=by
  constructor
  ·intro z;cases hc:M.cells[i]with
   | none=>rw[bL a,hc]
   | some c=>
    obtain⟨p,hp,_⟩:=j.jc.at (i:=i) (c:=c) (by rw[bL a,hc]);rw[cL,hp]at z;cases z
  ·intro z;rw[cL,j.jc.at0 z];rfl
 by_cases z:M.cells[i]? =some none
 ·rw[if_neg (by simp[e.mpr z])];unfold oK;rw[z];rfl
 ·have b:¬ (A.cs.map pV)[i]? =some V.non:=λy=>z (e.mp y);rw[if_pos (by simp only[b,decide_false,Bool.not_false])];cases hc:M.cells[i]with
  | none=>exact absurd (by rw[bL a,hc]) z
  | some c=>
   show f (.int (i:Int))=_;rw[d i c (by rw[bL a,hc]),Option.map_map];rfl
theorem Zal{wo:AI}(d:lW K X)(q:Ca X wo H Q):
  xR K X.H (vC X.H) (jg X) ν [↑wo,none] H:=by
 obtain⟨T,s,A,M,j,rfl,hc,q⟩:=q;obtain⟨F,ow⟩:=j.jb.ow;obtain⟨C,oh⟩:=j.jh.oh;unfold xR;apply aH ow d.cW d.R6 bJ ?_;apply VH ?_;exists A.hp,C,_,rfl,oh,Qi;apply⟨_,rfl,A.ca,M.room,M.used,M.born,_,j.hpO,by rw[bA,j.jc.lc];omega,λlt r=>?_⟩;generalize zz:upd H lt _=H1;obtain⟨h,w⟩:=nwO r zz;have e:=j.same h;have I:(plc (A.cs.map pV)).length<=900:=by
  unfold plc;rw[bA];refine Nat.le_trans (List.length_filter_le _ _) ?_;rw[List.length_range,bA,j.jc.lc];exact hc
 refine⟨lt,rfl,⟨_,cJ.of w⟩,?_⟩
 let f:V->Option V:=λv=>match v with
  | .int p=>(oK M p.toNat).map λ_=>V.int p
  | _=>none
 refine XC (cJ.of w) (λi=>(((plc (A.cs.map pV)).map V.int)[i]?).bind f) (by rw[bA];omega) (λi x hi=>?_) ?_
 ·rw[cL]at hi;obtain⟨p,hp,rfl⟩:=Option.map_eq_some_iff.mp hi;have hm:=List.mem_of_getElem? hp;unfold plc at hm;obtain⟨k,hk,rfl⟩:=List.mem_map.mp hm;obtain⟨m,l⟩:=List.mem_filter.mp hk;have b:k<M.cells.length:=by
   have:=List.mem_range.mp m;rw[bA,j.jc.lc]at this;exact this
  obtain⟨c,a⟩:∃c,M.cells[k]? =some (some c):=by
   cases u:M.cells[k]with
   | none=>
    exfalso
    have:(A.cs.map pV)[k]? =some V.non:=by rw[cL,j.jc.at0 (i:=k) (by rw[bL b,u])];rfl
    simp[this]at l
   | some c=>exact⟨c,by rw[bL b,u]⟩
  obtain⟨t,g,ce⟩:=e.jc.at a;have B:(((plc (A.cs.map pV)).map V.int)[i]?).bind f=(oK M k).map λ_=>V.int (k:Int):=by
   rw[cL,hp];show(oK M (Int.toNat k)).map _=_;rw[Int.toNat_natCast]
  have D:(oK M k)=if c.tone=M.sw.sense then none else some c:=by unfold oK;rw[a];rfl
  obtain⟨E,o⟩:=e.jh.oh;refine⟨λq hq=>?_,λy q hy hq=>?_⟩
  ·rw[B,D]at hq;walk_at"c";apply aH o d.c.dg d.c.cB cj ?_;apply eF (cJ.of e.jh.oc) (eN (v:=.ref t.1) (by rw[cL,g];rfl)) ?_;exists _,_,rfl,T,s,A,M,_,t,c,e.w0,rfl,ce,rfl;ext
   by_cases z:c.tone=M.sw.sense
   ·rw[if_pos z]at hq;rw[decide_eq_true z];exact hq
   ·rw[if_neg z]at hq;rw[decide_eq_false z];exact hq
  ·rw[B]at hy;obtain⟨_,_,rfl⟩:=Option.map_eq_some_iff.mp hy;walk_at"c";apply hq
 ·intro p np;rw[Zx f,Zgo j f (λi c hc=>by show(oK M (Int.toNat i)).map _=_;rw[Int.toNat_natCast])];exact q p _ (h.trans (aM np _)) (h.free np) ao
theorem KN{wo:AI}(c:lW K X)(q:wO X (Vg "rest") wo H Q):vQ K (Zg1 X) (pq X) ν [↑wo,none] H:=by
 obtain⟨T,s,A,M,E,D,w,t,j,rfl,ok,ph,lo,q⟩:=q;unfold vQ;apply⟨_,rfl,T,s,A,M,w,t,j,rfl,λI y i d o b=>?_⟩;obtain⟨F,ow⟩:=o.jb.ow;obtain⟨J,os⟩:=o.js.os;rw[b]at ow;apply aH ow c.cW c.Vn bC ?_;apply aH os c.cS c.n4 gO ?_;apply⟨_,_,rfl,y,s,i,_,d.wt,t,o,b,ok.hl,λ_=>Nat.zero_le _,λv x l e h p g=>?_⟩;have h:WJ X v x s i (fP (fK M.w M.hands.length) M.hands 0 (lR M)).2:=h;have p:v l=some (.lst ((fP (fK M.w M.hands.length) M.hands 0 (lR M)).1.map V.int)):=p;obtain⟨C,f⟩:=h.jb.ow;obtain⟨B,m⟩:=h.js.os;rw[b]at f;have r:=Zke (fK M.w M.hands.length) M.hands 0 (lR M);apply aH f c.cW c.Vn bC ?_;apply aH m c.cS c.n5 pF ?_;apply⟨bG ζ,λa u=>?_⟩;rw[r.1];have k:=aM u (.tup [.str "begin",.int (M.sw.turn+1),.ref l]);refine q _ _ (.begin ph) _ x i a (d.trans (e.trans (fc.same e.wt k))) (h.same k) b ⟨l,⟨fc.free d g.1,g.2,(rC e.wt t u).2⟩,ao,k _ _ p⟩ λz=>?_;have:=(yo (fK M.w M.hands.length) 100 M.hands 0 (lR M) ok.hl).1;rw[this]at z;exact absurd z (show ¬ ("walk":Str)="lost" by decide)
end
inductive vo(X:Cs)(wo:AI)(H:Hp)(Q:VK):Prop
 | mk (T s A M) (_:WT H T) (_:s≠0) (_:WJ X H T s A M) (_:A.wo=wo) (_:Zi2 M) (_:(∀q qs H',KB.Mg (fdOf M) (iw M) q q.length qs->(∀x∈qs,∀c,cellAt M x.1=some c->c.tone=M.sw.sense)->bx H H'->Q .non H')) (_:(∀q qs (i:Nat) x c a wl H',KB.Mg (fdOf M) (iw M) q q.length qs->qs[i]? =some x->(∀(k:Nat) y d,k<i->qs[k]? =some y->cellAt M y.1=some d->d.tone=M.sw.sense)->cellAt M x.1=some c->c.tone≠M.sw.sense->bx H H'->H a=none->H wl=none->H' a=some (.tup [.str "lost",.int c.birth,.ref wl])->H' wl=some (.lst (x.2.map V.int))->Q (.ref a) H')):vo X wo H Q
def GJ(X:Cs):Sp:=λvs H Q E=>∃wo,vs=[.ref wo]/\vo X wo H Q
section
variable {K:aD}{X:Cs}{H:Hp}{Q:VK}{E:XK}{n:μ}{bk ct:μ}
theorem Zik{a:Type}(f:a->Nat)(B:Nat):∀(xs:List a),(∀x∈xs,f x<=B)->(xs.map f).sum<=xs.length * B
 | [],_=>ζ
 | x::xs,h=>by
  have h1:=h x ζ;have h2:=Zik f B xs λy hy=>h y (by simp[hy]);rw[List.map_cons,List.sum_cons,List.length_cons,Nat.succ_mul];omega
theorem Zpl{a b:Type}(f:a->List b)(B:Nat):∀(xs:List a),(∀x∈xs,(f x).length<=B)->(xs.flatMap f).length<=xs.length * B
 | [],_=>ζ
 | x::xs,h=>by
  have h1:=h x ζ;have h2:=Zpl f B xs λy hy=>h y (by simp[hy]);rw[List.flatMap_cons,List.length_append,List.length_cons,Nat.succ_mul];omega
theorem Zsa{M:Wm}{T:Tg}{s:Nat}{A:Wa}(j:WJ X H T s A M)(ok:Zi2 M):Few (fdOf M) (iw M):=by
 have l5:=j.jd.l5;have lh:=j.jd.lh;have hl:(heldOf M).length=M.hands.length:=by unfold heldOf;rw[bA]
 have hr:(iw M).length<=31:=by unfold iw;rw[List.length_append,hl,<- lh];simp;omega
 have a:∀x∈iw M,x.length<=900:=λx hx=>by
  unfold iw at hx;rcases List.mem_append.mp hx with hx | hx
  ·obtain⟨m,hm,rfl⟩:=List.mem_map.mp hx;exact Nat.le_trans (ok.hl m hm) ε
  ·rw[List.mem_singleton.mp hx];unfold m5;rw[bA];exact ok.nl
 have f:(fdOf M).length=M.cells.length:=by unfold fdOf;rw[bA]
 have b:=ok.cl;have d:∀(i:Nat) x,(fdOf M)[i]? =some x->KB.wgt x<=50:=λi x hx=>by
  unfold fdOf at hx;rw[cL]at hx;obtain⟨o,e,rfl⟩:=Option.map_eq_some_iff.mp hx;cases o with
  | none=>exact Nat.zero_le _
  | some c=>exact ok.fl c (List.mem_of_getElem? e)
 refine⟨δ,λp fl hp=>?_,δ,λx hx=>by have:=a x hx;omega,?_⟩
 ·rw[Qn]at hp;obtain⟨c,hc,rfl⟩:=Option.map_eq_some_iff.mp hp;have:=ok.fl c (qe hc);omega
 ·unfold KB.total;have h1:(KB.q0 (fdOf M) 0 (iw M)).length<=31 * 900:=by
   unfold KB.q0;refine Nat.le_trans (Zpl _ 900 _ λx hx=>?_) (by rw[List.length_zipIdx];exact Nat.mul_le_mul_right _ hr);refine Nat.le_trans KB.Ly (a x.1 ?_);obtain⟨_,h2⟩:=List.mem_zipIdx_iff_le_and_getElem?_sub.mp hx;exact List.mem_of_getElem? h2
  have h2:KB.Zbh (fdOf M) []<=900 * 50:=by
   unfold KB.Zbh;refine Nat.le_trans (Zik _ 50 _ λx hx=>?_) (by rw[List.length_zipIdx,f];exact Nat.mul_le_mul_right _ b);obtain⟨_,h2⟩:=List.mem_zipIdx_iff_le_and_getElem?_sub.mp hx;simp only[List.map_nil,List.not_mem_nil,↓reduceIte];exact d _ _ h2
  omega
theorem Zeh{M:Wm}:∀{rows:List Au}{a:AF},a.length=rows.length->(∀(j:Nat) r x,a[j]? =some r->rows[j]? =some x->H r=some (.lst (x.map oV)))->Ck K H a rows
 | [],[],_,_=>trivial
 | [],_::_,h,_=>by simp at h
 | _::_,[],h,_=>by simp at h
 | x::rows,r::a,h,g=>⟨cJ.of (g 0 r x rfl rfl),Zeh (M:=M) (by simpa using h) λj r x b c=>g (j+1) r x (by simpa using b) (by simpa using c)⟩
theorem Tf{wo:AI}(g:lW K X)(q:vo X wo H Q):
  zV K (jg X) (Ws K X.C X.H) (Zfy X) ν [↑wo,none,none,none] H:=by
 obtain⟨T,s,A,M,w,s0,j,rfl,ok,q1,q2⟩:=q;obtain⟨dw,ow⟩:=j.jb.ow;have l5:=j.jd.l5;have lh:=j.jd.lh;have nl:=ok.nl;unfold zV;apply aH ow g.cW g.R6 bJ ?_;apply⟨_,rfl,T,s,A,M,s0,j,rfl,δ,δ,λra rs H1 s1 nra R I nrs nrl g1=>?_⟩;apply⟨A.hp,ra,fdOf M,rs,iw M,rfl,(j.same s1).w0.hv,cJ.of R,Zeh (M:=M) I g1,Zsa j ok,λl ts q m H2 Z nl2 s2 ol qa=>?_⟩;have f:=s1.trans s2;have D:=j.same f;have good:=Z.good.2;have p:=qa.len;obtain⟨dw2,Y⟩:=D.jb.ow;obtain⟨dh2,S⟩:=D.jh.oh;refine⟨l,rfl,⟨_,cJ.of ol⟩,forL (ts.map V.ref) (λi J u=>∃v1 N O,J=[↑A.wo,v1,N,O]/\u=H2/\∀(k:Nat) y d,k<i->m[k]? =some y->cellAt M y.1=some d->d.tone=M.sw.sense) ⟨_,_,_,rfl,rfl,λk y d hk=>absurd hk (Nat.not_lt_zero _)⟩ (by rintro _ _ _ _ ⟨_,_,_,_,z,_⟩;rw[z];exact cJ.of ol) ?_ ?_⟩
 ·rintro i x J u hi ⟨v1,N,O,rfl,rfl,b⟩;rw[cL]at hi;obtain⟨t,ht,rfl⟩:=Option.map_eq_some_iff.mp hi;have E:i<m.length:=by rw[<- p];exact(dj ht).1
  obtain⟨t',wa,et,ot,r⟩:=qa.at (bL E);rw[ht]at et;cases et;have hx:m[i]? =some m[i]:=bL E;generalize m[i]=x at hx ot r;obtain⟨fl,B⟩:=Option.isSome_iff_exists.mp (good x (List.mem_of_getElem? hx)).there;rw[Qn]at B;obtain⟨c,hc,_⟩:=Option.map_eq_some_iff.mp B;obtain⟨x0,W⟩:=cF.mp hc;obtain⟨pp,U,ce⟩:=D.jc.at W;obtain⟨_,_,⟨dc,oc⟩,_⟩:=id ce;refine⟨t,_,rfl,fj.of ot,rfl,?_⟩;refine⟨_,_,rfl,?_⟩;exists _,_,rfl;exists rfl;apply aH Y g.cW g.R6 bJ ?_;refine aH S g.c.dg g.c.cB cj ?_;apply eF (cJ.of D.jh.oc) (mY (v:=.ref pp.1) x0 (by rw[cL,U];rfl)) ?_;exists _,_,rfl,T,s,A,M,_,pp,c,D.w0,rfl,ce,rfl;apply uX (λz=>?_) (λz=>?_)
  ·apply aH oc g.c.dW g.c.eY fW ?_;apply Zo6 (fj.of r) λF o=>?_;generalize zz:upd u F _=H3;obtain⟨s3,g3⟩:=nwO o zz;apply⟨bG ζ,λa na=>?_⟩;have s4:=aM na (.tup [.str "lost",.int c.birth,.ref F]);exact q2 q m i x c a F _ Z hx b hc z (f.trans (s3.trans s4)) (f.free (s3.free na)) (f.free o) ao (s4 _ _ g3)
  ·apply⟨_,_,_,rfl,rfl,λk y d hk L P=>?_⟩
   by_cases h:k<i
   ·exact b k y d h L P
   ·have:k=i:=δ
    subst this;rw[hx]at L;cases L;rw[hc]at P;cases P;exact z
 ·rintro J u ⟨v1,N,O,rfl,rfl,b⟩;rw[bA,p]at b;apply q1 q m u Z (λx hx c hc=>?_) f;obtain⟨k,hk,e⟩:=List.getElem_of_mem hx;exact b k x c hk (by rw[bL hk,e]) hc
theorem Xf{M:Wm}:((pN M).map some).map (nZ M)=(jT M).map some:=by
 unfold pN jT;rw[List.map_map,List.map_filterMap,List.map_filterMap];refine Qm λi hi=>?_;rw[Option.map_map,Option.map_map];cases hp:oK M i with
 | none=>rfl
 | some c=>
  unfold oK at hp;obtain⟨d,hd,e⟩:=Option.bind_eq_some_iff.mp hp;have a:d=c:=by
   split at e
   ·cases e
   ·exact Option.some.inj e
  subst a;show some (nZ M (some (i:Int)))=some (some d.birth);have:cellAt M (i:Int)=some d:=by
   unfold cellAt;rw[if_pos δ,Int.toNat_natCast,hd]
  show some ((cellAt M (i:Int)).map _)=_;rw[this];rfl
theorem Zca{M:Wm}(h:M.cells.length<=900):(jT M).length<=900/\(pN M).length<=900:=by
 unfold jT pN;have h1:=List.length_filterMap_le (λi=>(oK M i).map (·.birth)) (List.range M.cells.length);have h2:=List.length_filterMap_le (λ(i:Nat)=>(oK M i).map λ_=>(i:Int)) (List.range M.cells.length);rw[List.length_range]at h1 h2;exact⟨δ,δ⟩
theorem Zsi{wo:AI}(f:lW K X)(q:wO X Zjv wo H Q):Zj6 K (Kl X) (GJ X) (Q9 X) (vA K) ν [↑wo,none,none,none] H:=by
 obtain⟨T,s,A,M,lb,lw,w,p,j,rfl,ok,⟨ph,gr,cd⟩,lo,q⟩:=q;obtain⟨dw,ow⟩:=j.jb.ow;obtain⟨R,os⟩:=j.js.os;obtain⟨dh,oh⟩:=j.jh.oh;have J:=ok.cl;unfold Zj6;apply aH ow f.cW f.Vn bC ?_;apply aH ow f.cW f.R6 bJ ?_;refine aH oh f.c.dg f.c.cB cj ?_;apply eO (cJ.of j.jh.oc) ?_;rw[bA,j.jc.lc];apply⟨A.sw,X.S,R,_,rfl,os,f.cS,f.n7,by show 11<1000;decide,?_⟩;rw[Kz];apply⟨A.sw,X.S,R,_,rfl,ao,f.cS,f.n6,by show 11<1000;decide,?_⟩;rw[zG,dB];obtain⟨b,u⟩:=j.sweep w p (dx:=R) { M.sw with stop:=M.cells.length,at':=0 } rfl;have u:WJ X _ T s A (fY M):=u;generalize upd H A.sw (.ins X.S R (bY M.sw.sense M.sw.phase A.gr M.sw.looked M.sw.turn 0 M.cells.length M.sw.walks M.sw.looks M.sw.passes M.sw.loss))=H1 at b u ⊢;have ok1:Zi2 (fY M):=⟨ok.cl,ok.hl,ok.fl,ok.nl,ok.gl,ok.gc,ok.ph,Int.le_refl _⟩;apply⟨_,rfl,T,s,A,fY M,b.wt,p,u,rfl,ok1,λq' W C bf r k=>?_,λq' W i x c a B C bf hx r hc ht k P E oa I=>?_⟩
 ·have v:=u.same k;obtain⟨dw2,ow2⟩:=v.jb.ow;obtain⟨e,h⟩:=v.js.os;apply⟨A.sw,X.S,e,_,rfl,h,f.cS,f.n2,by show 11<1000;decide,?_⟩;rw[jK];obtain⟨d,g⟩:=v.sweep (b.wt.same k) p (dx:=e) { (fY M).sw with phase:="give" } rfl;have g:WJ X _ T s A { fY M with sw:={ (fY M).sw with phase:="give" } }:=g;generalize upd C A.sw (.ins X.S e (bY (fY M).sw.sense "give" A.gr (fY M).sw.looked (fY M).sw.turn (fY M).sw.at' (fY M).sw.stop (fY M).sw.walks (fY M).sw.looks (fY M).sw.passes (fY M).sw.loss))=H3 at d g ⊢;obtain⟨dw3,Z⟩:=g.jb.ow;obtain⟨ob,ol⟩:=Zca J;apply aH Z f.cW f.R6 bJ ?_;apply⟨_,rfl,T,s,A,_,g,rfl,J,λl4 H4 m nl4 g4=>?_⟩;have e4:(pN { fY M with sw:={ (fY M).sw with phase:="give" } }).map V.int=((pN M).map some).map oV:=by
   rw[List.map_map];rfl
  rw[e4]at g4;apply⟨A.hp,l4,rfl,T,s,A,_,(pN M).map some,g.same m,rfl,g4,by rw[bA];omega,λl5 F=>?_⟩;have e5:(((pN M).map some).map (nZ { fY M with sw:={ (fY M).sw with phase:="give" } })).map oV=(jT M).map V.int:=by
   have:nZ { fY M with sw:={ (fY M).sw with phase:="give" } }=nZ M:=by funext x;cases x<;>rfl
   rw[this,Xf,List.map_map];rfl
  rw[e5];generalize zz:upd H4 l5 _=H5;obtain⟨s5,g5⟩:=nwO F zz;apply eO (cJ.of g5) ?_;rw[bA];apply⟨bG ζ,λa P=>?_⟩;have s6:=aM P (.tup [.str "cut",.int (jT M).length,.ref l5]);have N:=m.trans (s5.trans s6);have D:H l5=none:=fc.free b (k.free (fc.free d (m.free F)));exact q _ _ (.cut q' W ph gr cd bf r) _ T A a (b.trans ((fc.same b.wt k).trans (d.trans (fc.same d.wt N)))) (g.same N) rfl ⟨l5,⟨D,(rC w p D).2,(rC d.wt p ((m.trans s5).free P)).2⟩,ao,s6 _ _ g5⟩ λz=>absurd z (show ¬ ("give":Str)="lost" by decide)
 ·have v:=u.same k;have w2:=b.wt.same k;obtain⟨e,h⟩:=v.js.os;apply⟨A.sw,X.S,e,_,rfl,h,f.cS,f.n2,by show 11<1000;decide,?_⟩;rw[jK];apply⟨A.sw,X.S,e,_,rfl,ao,f.cS,f.n11,by show 11<1000;decide,?_⟩;rw[KC,dB];obtain⟨d,g⟩:=v.sweep w2 p (dx:=e) { (fY M).sw with phase:="lost",loss:=.ref a } rfl;have g:WJ X _ T s A { fY M with sw:={ (fY M).sw with phase:="lost",loss:=.ref a } }:=g;have ta:T a=(0,0):=b.wt _ P;have tw:T B=(0,0):=b.wt _ E;have t:upd C A.sw (.ins X.S e a4) a=some (.tup [.str "lost",.int c.birth,.ref B]):=(aA (lM oa h aI)).trans oa;have o:upd C A.sw (.ins X.S e a4) B=some (.lst (x.2.map V.int)):=(aA (lM I h aI)).trans I;generalize upd C A.sw (.ins X.S e a4)=H3 at d g t o ⊢;apply⟨a,rfl,"lost",c.birth,B,x.2,t,o,λa' l' H4 m Y O L U=>?_⟩;have D:H l'=none:=fc.free b (k.free (fc.free d O));exact q _ _ (.lost q' W i x c (.ref a) ph gr cd bf hx r hc ht) _ T A a' (b.trans ((fc.same b.wt k).trans (d.trans (fc.same d.wt m)))) (g.same m) rfl ⟨l',⟨D,(rC w p D).2,(rC d.wt p Y).2⟩,L,U⟩ λ_=>⟨c.birth,rfl,a,B,rfl,ta,m _ _ t,tw,m _ _ o,(λx y l z=>by rw[L]at z;cases z;exact aF o O),λ_=>fc.free b E⟩
end
theorem toN{x:Int}(h:0<=x):∃k:Nat,x=k:=⟨x.toNat,δ⟩
section
variable {K:aD}{X:Cs}{H:Hp}{Q:VK}{E:XK}{n:μ}{bk ct:μ}
theorem Zmq{wo:AI}(b:lW K X)(q:wO X Zjr wo H Q):Zei K (mH X) ν [↑wo,none,none] H:=by
 obtain⟨T,s,A,M,Z,Y,w,B,j,rfl,ok,⟨ph,gr⟩,lo,q⟩:=q;obtain⟨dw,ow⟩:=j.jb.ow;obtain⟨ds,os⟩:=j.js.os;obtain⟨dh,oh⟩:=j.jh.oh;have og:=j.js.og;cases p:M.sw.grey with
 | nil=>exact absurd p gr
 | cons x g=>
  obtain⟨c,hc⟩:=ok.gc ph x (by rw[p];simp);obtain⟨P,h⟩:=cF.mp hc;have E:=ok.gl ph;have U:=ok.fl c (qe hc);rw[p]at og;unfold Zei;apply aH ow b.cW b.Vn bC ?_;apply aH ow b.cW b.R6 bJ ?_;refine aH oh b.c.dg b.c.cB cj ?_;apply aH os b.cS b.n3 pG ?_;exists .inl ⟨rfl,_,cJ.of og⟩;exists A.gr,_,0,0,.int x,rfl,rfl,og,ε,ε,by simp[seqIndex?],rfl;obtain⟨d,r⟩:=j.Zpk w B (g:=g);show dM K _ _ (upd H A.gr (.lst (g.map V.int))) _;generalize upd H A.gr (.lst (g.map V.int))=H1 at d r ⊢;obtain⟨I,f,ce⟩:=r.jc.at (i:=x.toNat) (c:=c) h;refine eF (cJ.of r.jh.oc) (mY (v:=.ref I.1) P (by rw[cL,f];rfl)) ?_;obtain⟨o,y⟩:=r.js.os;apply aH y b.cS b.n8 vH ?_;apply⟨A.sw,X.S,o,_,rfl,y,b.cS,b.n8,by show 11<1000;decide,?_⟩;rw[rW];obtain⟨e,t⟩:=r.sweep d.wt B (dx:=o) { M.sw with grey:=g,walks:=M.sw.walks+1 } rfl;have t:WJ X _ T s A { M with sw:={ M.sw with grey:=g,walks:=M.sw.walks+1 } }:=t;generalize upd H1 A.sw _=H2 at e t ⊢;obtain⟨R,m,D⟩:=t.jc.at (i:=x.toNat) (c:=c) h;rw[f]at m;cases m;obtain⟨_,_,⟨dc,oc⟩,N⟩:=id D;apply aH oc b.c.dW b.c.eY fW ?_;apply aH oc b.c.dW b.c.gK jq ?_;apply⟨_,_,rfl,c.fl,T,s,A,_,e.wt,B,t,rfl,.inr (.inr ⟨x.toNat,I,c,f,h,rfl,rfl⟩),δ,λ_=>?_,λW J l k L O u=>?_⟩
  ·show g.length<=10000;rw[p,List.length_cons]at E;omega
  apply⟨bG ζ,λa F=>?_⟩;have C:=aM F (.tup [.str "walk",.int c.birth,.ref l]);refine q _ _ (.walk x g c ph p hc) _ J A a (d.trans (e.trans (k.trans (fc.same k.wt C)))) (L.same C) rfl ⟨l,⟨fc.free d (fc.free e u.1),u.2,(rC k.wt B F).2⟩,ao,C _ _ O⟩ λz=>?_;rw[(qU (l:=c.fl) (M:={ M with sw:={ M.sw with grey:=g,walks:=M.sw.walks+1 } })).1]at z;exact absurd (ph.symm.trans z) (show ¬ ("walk":Str)="lost" by decide)
theorem RN{wo:AI}(e:lW K X)(q:wO X Zjt wo H Q):zR K X.H (yW X.C X.H) (jt X.H) (jg X) ν [↑wo,none,none,none] H:=by
 obtain⟨T,s,A,M,lb,lw,w,r,j,rfl,ok,⟨ph,lt⟩,lo,q⟩:=q;obtain⟨dw,ow⟩:=j.jb.ow;obtain⟨N,os⟩:=j.js.os;unfold zR;apply aH ow e.cW e.Vn bC ?_;apply aH os e.cS e.n6 Cv ?_;apply⟨A.sw,X.S,N,_,rfl,os,e.cS,e.n6,by show 11<1000;decide,?_⟩;rw[zG];apply aH ao e.cS e.n10 rY ?_;apply⟨A.sw,X.S,N,_,rfl,ao,e.cS,e.n10,by show 11<1000;decide,?_⟩;rw[qz,dB];obtain⟨b,o⟩:=j.sweep w r (dx:=N) { M.sw with at':=M.sw.at'+1,passes:=M.sw.passes+1 } rfl;generalize upd H A.sw _=L at b o ⊢;obtain⟨dw1,t⟩:=o.jb.ow;obtain⟨O,I⟩:=o.jh.oh;apply aH t e.cW e.R6 bJ ?_;exists _,_,rfl,tU (some M.sw.at'),_,_,_,_,_,o.hpO;have x:(∀c,cellAt M M.sw.at'=some c->c.tone=M.sw.sense)->∀l a p,L a=none->L l=none->bx L p->p a=some (.tup [.str "pass",.int M.sw.at',.ref l])->p l=some (.lst [])->Q (.ref a) p:=λhp l a p g nl h Z ol=>
  q _ _ (.pass ph lt hp) _ T A a (b.trans (fc.same b.wt h)) (o.same h) rfl ⟨l,⟨fc.free b nl,(rC b.wt r nl).2,(rC b.wt r g).2⟩,Z,ol⟩ λz=>absurd (ph.symm.trans z) (show ¬ ("give":Str)="lost" by decide)
 rcases o.look (some M.sw.at')with ⟨J,E⟩ | ⟨i,c,U,ei,h0,D,u,Y,E,ce⟩
 ·have J:cellAt M M.sw.at'=none:=J;rw[show atO (A.cs.map pV) (.int M.sw.at')=.non from E];apply⟨bG ζ,λl nl=>⟨bG ζ,λa g=>?_⟩⟩;have h:=aM nl (.lst []);have m:=aM g (.tup [.str "pass",.int M.sw.at',.ref l]);exact x (λc hc=>by rw[J]at hc;cases hc) l a _ (h.free g) nl (h.trans m) ao (m _ _ ao)
 ·cases ei;have D:cellAt M M.sw.at'=some c:=D;rw[show atO (A.cs.map pV) (.int M.sw.at')=.ref U.1 from E];exists _,_,rfl,T,s,A,_,_,U,c,o.w0,rfl,ce,rfl
  by_cases z:c.tone=M.sw.sense
  ·rw[decide_eq_true (show c.tone=({ M.sw with at':=M.sw.at'+1,passes:=M.sw.passes+1 }:Sw).sense from z)];apply⟨bG ζ,λl nl=>⟨bG ζ,λa g=>?_⟩⟩;have h:=aM nl (.lst []);have m:=aM g (.tup [.str "pass",.int M.sw.at',.ref l]);exact x (λd hd=>by rw[D]at hd;cases hd;exact z) l a _ (h.free g) nl (h.trans m) ao (m _ _ ao)
  ·rw[decide_eq_false (show ¬ c.tone=({ M.sw with at':=M.sw.at'+1,passes:=M.sw.passes+1 }:Sw).sense from z)];obtain⟨k,B⟩:=toN h0;have hk:M.cells[k]? =some (some c):=by rw[B,Int.toNat_natCast]at u;exact u
   apply aH t e.cW e.R6 bJ ?_;exists A.hp,O,_,rfl,I,Tc;ext;rw[B];refine Zhm o b.wt r hk λp W f V F=>?_;apply⟨bG ζ,λl nl=>⟨bG ζ,λa g=>?_⟩⟩;have m:=aM nl (.lst [.int (k:Int)]);have R:=aM g (.tup [.str "back",.int c.birth,.ref l]);have v:=m.trans R;have P:=lH.back (lb:=lb) (lw:=lw) (M:=M) c ph lt D z;rw[B,Int.toNat_natCast]at P;rw[B]at V;exact q _ _ P _ T W a (b.trans (f.trans (fc.same f.wt v))) (V.same v) F ⟨l,⟨fc.free b (fc.free f nl),(rC f.wt r nl).2,(rC f.wt r (m.free g)).2⟩,ao,R _ _ ao⟩ λy=>absurd (ph.symm.trans y) (show ¬ ("give":Str)="lost" by decide)
theorem Zse{wo:AI}(c:lW K X)(q:wO X pEnd wo H Q):Zj4 K ν [↑wo,none] H:=by
 obtain⟨T,s,A,M,r,p,w,g,j,rfl,ok,⟨ph,lt⟩,lo,q⟩:=q;obtain⟨t,ow⟩:=j.jb.ow;obtain⟨m,os⟩:=j.js.os;unfold Zj4;apply aH ow c.cW c.Vn bC ?_;apply⟨A.sw,X.S,m,_,rfl,os,c.cS,c.n2,by show 11<1000;decide,?_⟩;rw[jK];obtain⟨b,f⟩:=j.sweep w g (dx:=m) { M.sw with phase:="rest" } rfl;generalize upd H A.sw _=u at b f ⊢;obtain⟨o,d⟩:=f.js.os;apply aH d c.cS c.n5 pF ?_;apply aH d c.cS c.n8 vH ?_;apply aH d c.cS c.n9 nR ?_;apply aH d c.cS c.n10 rY ?_;apply⟨bG ζ,λl nl=>⟨bG ζ,λa i=>?_⟩⟩;have h:=aM nl (.lst [.int M.sw.walks,.int M.sw.looks,.int M.sw.passes]);have k:=aM i (.tup [.str "end",.int M.sw.turn,.ref l]);have e:=h.trans k;exact q _ _ (.fin ph lt) _ T A a (b.trans (fc.same b.wt e)) (f.same e) rfl ⟨l,⟨fc.free b nl,(rC b.wt g nl).2,(rC b.wt g (h.free i)).2⟩,ao,k _ _ ao⟩ λz=>absurd z (show ¬ ("rest":Str)="lost" by decide)
theorem KJ{wo:AI}(a:lW K X)(q:wO X (Vg "give") wo H Q):vP K (cV X pEnd) (cV X Zjt) ν [↑wo] H:=by
 obtain⟨T,s,A,M,c,b,w,d,j,rfl,ok,ph,lo,q⟩:=q;obtain⟨e,ow⟩:=j.jb.ow;obtain⟨f,os⟩:=j.js.os;unfold vP;apply aH ow a.cW a.Vn bC ?_;apply aH os a.cS a.n6 Cv ?_;apply aH ow a.cW a.Vn bC ?_;apply aH os a.cS a.n7 Ms ?_;apply pY (λz=>?_) (λz=>?_)
 ·apply⟨_,rfl,T,s,A,M,c,b,w,d,j,rfl,ok,⟨ph,z⟩,lo,q⟩
 ·apply⟨_,rfl,T,s,A,M,c,b,w,d,j,rfl,ok,⟨ph,z⟩,lo,q⟩
theorem KH{wo:AI}(a:lW K X)(q:wO X (Vg "walk") wo H Q):vO K (cV X Zju) (cV X Zjr) ν [↑wo] H:=by
 obtain⟨T,s,A,M,c,b,w,e,j,rfl,ok,ph,lo,q⟩:=q;obtain⟨f,ow⟩:=j.jb.ow;obtain⟨h,os⟩:=j.js.os;unfold vO;apply aH ow a.cW a.Vn bC ?_;apply aH os a.cS a.n3 pG ?_;refine Zt1 (cJ.of j.js.og) ?_;cases d:M.sw.grey with
 | nil=>
  refine Ym ?_;apply⟨_,rfl,T,s,A,M,c,b,w,e,j,rfl,ok,⟨ph,d⟩,lo,q⟩
 | cons x g=>
  refine Zd1 ?_;apply⟨_,rfl,T,s,A,M,c,b,w,e,j,rfl,ok,⟨ph,by rw[d];simp⟩,lo,q⟩
theorem Cy{wo:AI}(c:lW K X)(q:wO X (Vg "lost") wo H Q):qD K (vA K) ν [↑wo] H:=by
 obtain⟨T,s,A,M,f,m,w,h,j,rfl,ok,ph,lo,q⟩:=q;obtain⟨o,ow⟩:=j.jb.ow;obtain⟨r,os⟩:=j.js.os;obtain⟨i,e,g,t1,o1,t2,o2⟩:=lo ph;rw[g]at os;unfold qD;apply aH ow c.cW c.Vn bC ?_;apply aH os c.cS c.n11 Mu ?_;apply⟨i,rfl,"lost",f,e,m,o1,o2,λa l p b k nl d ol=>?_⟩;exact q _ _ (.again ph) _ T A a (fc.same w b) (j.same b) rfl ⟨l,⟨nl,(rC w h nl).2,(rC w h k).2⟩,d,ol⟩ λ_=>⟨f,rfl,i,e,g,t1,b _ _ o1,t2,b _ _ o2,(λx y l z=>by rw[d]at z;cases z;exact aF o2 nl),λz=>absurd ph z⟩
theorem Zmu{wo e f g h:AI}(b:lW K X)(q:wO X Znf wo H Q):W9 K e f g h (cV X (Vg "rest")) (cV X (Vg "give")) (cV X (Vg "walk")) (cV X (Vg "lost")) ν [↑wo,none] H:=by
 obtain⟨T,s,A,M,c,a,w,d,j,rfl,ok,_,lo,q⟩:=q;obtain⟨i,ow⟩:=j.jb.ow;obtain⟨k,os⟩:=j.js.os;unfold W9;apply aH ow b.cW b.Vn bC ?_;apply aH os b.cS b.n2 jY ?_;rcases ok.ph with ph | ph | ph | ph
 ·rw[ph];refine⟨_,e,rfl,rfl,?_⟩;apply jw (cV X (Vg "rest")) rfl ζ ?_;apply⟨_,rfl,T,s,A,M,c,a,w,d,j,rfl,ok,ph,lo,q⟩
 ·rw[ph];refine⟨_,g,rfl,rfl,?_⟩;apply jw (cV X (Vg "walk")) rfl ζ ?_;apply⟨_,rfl,T,s,A,M,c,a,w,d,j,rfl,ok,ph,lo,q⟩
 ·rw[ph];refine⟨_,f,rfl,rfl,?_⟩;apply jw (cV X (Vg "give")) rfl ζ ?_;apply⟨_,rfl,T,s,A,M,c,a,w,d,j,rfl,ok,ph,lo,q⟩
 ·rw[ph];refine⟨_,h,rfl,rfl,?_⟩;apply jw (cV X (Vg "lost")) rfl ζ ?_;apply⟨_,rfl,T,s,A,M,c,a,w,d,j,rfl,ok,ph,lo,q⟩
end
section
variable {K:aD}{X:Cs}{H:Hp}{Q:VK}{E:XK}{n:μ}{bk ct:μ}
theorem Mv{A:Wa}{w:Int}{σ:St}{b:TE}{q:Bool->Hp->Prop}(ol:∃dx,(w=0/\H A.lk=some (.ins X.F dx []))\/(w=1/\H A.lk=some (.ins X.E dx []))\/(w=2/\H A.lk=some (.ins X.L dx [])))(a:∀d:VK,d (.ref A.lk) H->b σ H d)(h:q (decide (w≠2)) H):
  tB (G.Bp (gQ X.F "stays" (kJ (.bl true)) [] E0 b aG) (G.Bp (gQ X.E "stays" (kJ (.bl true)) [] E0 b aG) (gQ X.L "stays" (kJ (.bl false)) [] E0 b aG))) σ H q:=by
 refine Ztt ?_;obtain⟨dl,⟨c,o⟩ | ⟨c,o⟩ | ⟨c,o⟩⟩:=ol
 ·rw[show decide (w≠2)=true from decide_eq_true δ]at h;refine JZ ?_;left;refine a _ ?_;refine⟨A.lk,dl,_,rfl,o,rfl,?_⟩;left;exact⟨_,rfl,i_B h⟩
 ·rw[show decide (w≠2)=true from decide_eq_true δ]at h;refine wH (JZ ?_);left;refine a _ ?_;refine⟨A.lk,dl,_,rfl,o,rfl,?_⟩;left;exact⟨_,rfl,i_B h⟩
 ·rw[show decide (w≠2)=false from decide_eq_false δ]at h;refine wH (wH ?_);left;refine a _ ?_;refine⟨A.lk,dl,_,rfl,o,rfl,?_⟩;left;exact⟨_,rfl,i_B h⟩
theorem Zh0{T:Tg}{s:Nat}{A:Wa}{M:Wm}{lb:Int}{lw:AE}(k:lW K X)(w:WT H T)(D:s≠0)(j:WJ X H T s A M)(ok:Zi2 M)(ph:M.sw.phase="walk")(gr:M.sw.grey=[])
  (q:∀e C,lH lb lw M e C->∀H' T' U a,fc s H H' T T'->WJ X H' T' s U C->U.wo=A.wo->EvN H H' T' s a e->(C.sw.phase="lost"->∃b,e.thing=some b/\Zmh H H' T' (M.sw.phase≠"lost") C b e.notes a)->Q (.ref a) H'):
  jR K X.E X.F X.L (kJ (.bl false)) (kJ (.bl true)) (cV X Zjv) (pq X) ν [↑A.wo,↑A.sw,↑A.lk,some (.int (bQ M)),none] H:=by
 unfold jR;apply⟨_,_,rfl,T,s,A,M,w,D,j,rfl,ok.hl,λ_=>by rw[gr];exact Nat.zero_le _,λB I l g t O nl=>?_⟩;have nt:=Ht (bQ M) M.hands 0 M;have ww:=nt.ww;have ol:=t.jb.ol;rw[ww]at ol;have J:nY M->cV X Zjv [.ref A.wo] B Q E0:=λcd=>by
  have e:(fP (bQ M) M.hands 0 M).2=M:=by
   rcases cd with z | ⟨_,z⟩
   ·rw[z,Z5]
   ·exact Xm _ z
  rw[e]at t;refine⟨_,rfl,I,s,A,M,lb,lw,g.wt,D,t,rfl,ok,⟨ph,gr,cd⟩,λz=>absurd (ph.symm.trans z) ε,λe' C r H' T' U a st' j' aw' ev' Y=>?_⟩;obtain⟨l',P,o1,o2⟩:=ev';exact q e' C r H' T' U a (g.trans st') j' aw' ⟨l',⟨fc.free g P.1,P.2⟩,o1,o2⟩ λz=>let ⟨b,h0,a0,wl,h1,h2,h3,h4,h5,h6,h7⟩:=Y z;⟨b,h0,a0,wl,h1,h2,h3,h4,h5,h6,λf=>fc.free g (h7 f)⟩
 have p:¬ nY M->∀(lo:Int),lo=(if M.w=2 then(fP (bQ M) M.hands 0 M).2.sw.looked else Builtin.bitOr (fP (bQ M) M.hands 0 M).2.sw.looked (bQ M))->∀o,fc s B o I I->WJ X o I s A { (fP (bQ M) M.hands 0 M).2 with sw:={ (fP (bQ M) M.hands 0 M).2.sw with looks:=(fP (bQ M) M.hands 0 M).2.sw.looks+1,looked:=lo } }->o l=some (.lst ((fP (bQ M) M.hands 0 M).1.map V.int))->∀a,o a=none->Q (.ref a) (upd o a (.tup [.str "look",.int (bQ M),.ref l])):=λN lo Z o d u x a y=>by
  have s3:=aM y (.tup [.str "look",.int (bQ M),.ref l]);subst Z;refine q _ _ (.look _ ph gr N rfl) _ I A a (g.trans (d.trans (fc.same d.wt s3))) (u.same s3) rfl ⟨l,⟨nl.1,nl.2,(rC d.wt D y).2⟩,ao,s3 _ _ x⟩ λz=>?_;have:=(yo (bQ M) 100 M.hands 0 M ok.hl).1;have z:(fP (bQ M) M.hands 0 M).2.sw.phase="lost":=z;rw[this]at z;exact absurd (ph.symm.trans z) ε
 apply pY (λhz=>?_) (λhz=>?_)
 ·apply J (.inl hz)
 ·refine Zpj ?_;refine Ztw ?_;refine Mv ol (λQ' h=>by left;exact h) ?_
  by_cases R:M.w=2
  ·rw[show decide (M.w≠2)=false from decide_eq_false δ];refine Ym ?_;refine Zpi ?_;left;refine Zt1 (cJ.of O) ?_;cases hn:(fP (bQ M) M.hands 0 M).1 with
   | nil=>
    refine Zd1 ?_;apply J (.inr ⟨R,hn⟩)
   | cons b bs=>
    have N:¬ nY M:=λz=>by
     rcases z with z | ⟨_,z⟩
     ·exact hz z
     ·rw[hn]at z;cases z
    have p:=p N _ rfl;rw[if_pos R]at p;obtain⟨c,i⟩:=t.js.os;refine Ym ?_;apply aH i k.cS k.n9 nR ?_;apply⟨A.sw,X.S,c,_,rfl,i,k.cS,k.n9,by show 11<1000;decide,?_⟩;rw[lX];obtain⟨d,u⟩:=t.sweep g.wt D (dx:=c) { (fP (bQ M) M.hands 0 M).2.sw with looks:=(fP (bQ M) M.hands 0 M).2.sw.looks+1 } rfl;have x:upd B A.sw (.ins X.S c (bY (fP (bQ M) M.hands 0 M).2.sw.sense (fP (bQ M) M.hands 0 M).2.sw.phase A.gr (fP (bQ M) M.hands 0 M).2.sw.looked (fP (bQ M) M.hands 0 M).2.sw.turn (fP (bQ M) M.hands 0 M).2.sw.at' (fP (bQ M) M.hands 0 M).2.sw.stop (fP (bQ M) M.hands 0 M).2.sw.walks ((fP (bQ M) M.hands 0 M).2.sw.looks+1) (fP (bQ M) M.hands 0 M).2.sw.passes (fP (bQ M) M.hands 0 M).2.sw.loss)) l=some (.lst ((fP (bQ M) M.hands 0 M).1.map V.int)):=(aA (lM O i aI)).trans O;generalize upd B A.sw _=o at d u x ⊢;have m:=u.jb.ol;have v:({ (fP (bQ M) M.hands 0 M).2 with sw:={ (fP (bQ M) M.hands 0 M).2.sw with looks:=(fP (bQ M) M.hands 0 M).2.sw.looks+1 } }:Wm).w=M.w:=ww;rw[v]at m;refine VG ?_;refine Zru ?_;refine Mv m (λQ' h=>by left;exact h) ?_;rw[show decide (M.w≠2)=false from decide_eq_false δ];apply⟨bG ζ,λa y=>p o d u x a y⟩
  ·rw[show decide (M.w≠2)=true from decide_eq_true δ];have N:¬ nY M:=λz=>by
    rcases z with z | ⟨z,_⟩
    ·exact hz z
    ·exact R z
   have p:=p N _ rfl;rw[if_neg R]at p;obtain⟨c,i⟩:=t.js.os;apply aH i k.cS k.n9 nR ?_;apply⟨A.sw,X.S,c,_,rfl,i,k.cS,k.n9,by show 11<1000;decide,?_⟩;rw[lX];obtain⟨Zyz,W⟩:=t.sweep g.wt D (dx:=c) { (fP (bQ M) M.hands 0 M).2.sw with looks:=(fP (bQ M) M.hands 0 M).2.sw.looks+1 } rfl;have m:=W.jb.ol;have v:({ (fP (bQ M) M.hands 0 M).2 with sw:={ (fP (bQ M) M.hands 0 M).2.sw with looks:=(fP (bQ M) M.hands 0 M).2.sw.looks+1 } }:Wm).w=M.w:=ww;rw[v]at m;refine VG ?_;refine Zru ?_;refine Mv m (λQ' h=>by left;exact h) ?_;rw[show decide (M.w≠2)=true from decide_eq_true δ];apply aH ao k.cS k.n4 gO ?_;apply⟨A.sw,X.S,c,_,rfl,ao,k.cS,k.n4,by show 11<1000;decide,?_⟩;rw[qC,dB];obtain⟨d,u⟩:=t.sweep g.wt D (dx:=c) { (fP (bQ M) M.hands 0 M).2.sw with looks:=(fP (bQ M) M.hands 0 M).2.sw.looks+1,looked:=Builtin.bitOr (fP (bQ M) M.hands 0 M).2.sw.looked (bQ M) } rfl;have x:upd B A.sw (.ins X.S c (bY (fP (bQ M) M.hands 0 M).2.sw.sense (fP (bQ M) M.hands 0 M).2.sw.phase A.gr (Builtin.bitOr (fP (bQ M) M.hands 0 M).2.sw.looked (bQ M)) (fP (bQ M) M.hands 0 M).2.sw.turn (fP (bQ M) M.hands 0 M).2.sw.at' (fP (bQ M) M.hands 0 M).2.sw.stop (fP (bQ M) M.hands 0 M).2.sw.walks ((fP (bQ M) M.hands 0 M).2.sw.looks+1) (fP (bQ M) M.hands 0 M).2.sw.passes (fP (bQ M) M.hands 0 M).2.sw.loss)) l=some (.lst ((fP (bQ M) M.hands 0 M).1.map V.int)):=(aA (lM O i aI)).trans O;generalize upd B A.sw _=o at d u x ⊢;apply⟨bG ζ,λa y=>p o d u x a y⟩
theorem Pj{wo:AI}(a:lW K X)(q:wO X Zju wo H Q):xP K X.E X.F X.L (lJ 1) (lJ 2) (kJ (.bl false)) (lJ 0) (kJ (.bl true)) (cV X Zjv) (pq X) ν [↑wo,none,none,none,none] H:=by
 obtain⟨T,s,A,M,i,h,w,g,j,rfl,ok,⟨ph,gr⟩,lo,q⟩:=q;obtain⟨k,ow⟩:=j.jb.ow;obtain⟨m,os⟩:=j.js.os;obtain⟨l,f⟩:=j.jb.ok;have on:=j.jb.on;have lh:=j.jd.lh;have l5:=j.jd.l5;have c:((A.hs.map λp=>V.ref p.1).length:Int)=(M.hands.length:Int):=by rw[bA,lh]
 have b:=Zh0 (n:=n) (bk:=bk) (ct:=ct) a w g j ok ph gr q;obtain⟨dl,ol⟩:=j.jb.ol;unfold xP;apply aH ow a.cW a.Vn bC ?_;apply aH ow a.cW a.nWk iR ?_;refine aH f a.cK a.nKl fL ?_;refine Zu2 ?_;refine VG ?_;left;rcases ol with ⟨d,o⟩ | ⟨d,o⟩ | ⟨d,o⟩
 ·have e:bQ M=wD 0 M.sw.looked M.hands.length:=by unfold bQ;rw[d];rfl
  refine JZ ?_;left;refine⟨A.lk,dl,_,rfl,o,rfl,?_⟩;left;refine aH os a.cS a.n4 gO ?_;left;refine aH ow a.cW a.nWd dU ?_;left;refine eO (cJ.of on) ?_;rw[c];left;refine⟨A.lk,_,_,rfl,δ,δ,?_⟩;rw[Int.toNat_natCast,<- e];left;exact b
 ·have e:bQ M=wD 1 M.sw.looked M.hands.length:=by unfold bQ;rw[d];rfl
  refine wH (JZ ?_);left;refine⟨A.lk,dl,_,rfl,o,rfl,?_⟩;left;refine aH os a.cS a.n4 gO ?_;left;refine aH ow a.cW a.nWd dU ?_;left;refine eO (cJ.of on) ?_;rw[c];left;refine⟨A.lk,_,_,rfl,δ,δ,?_⟩;rw[Int.toNat_natCast,<- e];left;exact b
 ·have e:bQ M=wD 2 M.sw.looked M.hands.length:=by unfold bQ;rw[d];rfl
  refine wH (wH ?_);left;refine⟨A.lk,dl,_,rfl,o,rfl,?_⟩;left;refine aH os a.cS a.n4 gO ?_;left;refine aH ow a.cW a.nWd dU ?_;left;refine eO (cJ.of on) ?_;rw[c];left;refine⟨A.lk,_,_,rfl,δ,δ,?_⟩;rw[Int.toNat_natCast,<- e];left;exact b
end
abbrev uz:=List (Str×Int)
structure HsB(hs:uz):Prop where
 n1:1<=hs.length
 n5:hs.length<=5
 sb:∀m∈hs,3<=m.2/\m.2<=9
def Es(hs:uz)(h s:Nat):Prop:=∃m,hs[h]? =some m/\(s:Int)<m.2
def okR(hs:uz):iV->Prop
 | .make h s a bulk=>Es hs h s/\0<=a/\a<=8/\0<=bulk
 | .get h s t _=>Es hs h s/\Es hs h t
 | .put h t _ s=>Es hs h t/\Es hs h s
 | .copy h s t=>Es hs h s/\Es hs h t
 | .drop h s=>Es hs h s
 | .give h s g t=>Es hs h s/\Es hs g t
 | .write h t _=>Es hs h t
 | .read h t=>Es hs h t
 | .name h t _=>Es hs h t
 | .seek h s _=>Es hs h s
def Zsx(M:Wm):Prop:=M.sw.phase="walk"->M.sw.grey.Nodup/\∀x∈M.sw.grey,∃c,cellAt M x=some c/\c.tone=M.sw.sense
structure KW(M:Wm)(hs:uz)(k:Nat):Prop where
 hl:M.hands.length=hs.length
 hn:∀(i:Nat) m n,M.hands[i]? =some m->hs[i]? =some n->m.2.length=n.2.toNat
 cl:M.cells.length<=k
 nl:M.names.length<=k
 fl:∀c,some c∈M.cells->c.fl.length<=8
 gr:Zsx M
 ph:M.sw.phase="rest"\/M.sw.phase="walk"\/M.sw.phase="give"\/M.sw.phase="lost"
 a0:0<=M.sw.at'
 tl:0<=M.tells/\M.tells<4
section
variable {M:Wm}{hs:uz}{k:Nat}
theorem Ov:∀(n:Nat) (l:AE),l.Nodup->(∀x∈l,0<=x/\x<n)->l.length<=n
 | 0,l,_,h=>by
  cases l with
  | nil=>exact Nat.le_refl _
  | cons x l=>have:=h x ζ;omega
 | n+1,l,nd,h=>by
  have h1:(l.erase (n:Int)).length<=n:=Ov n _ (nd.erase _) λx hx=>by
   have h2:=h x (List.mem_of_mem_erase hx);have b:x≠(n:Int):=((nd.mem_erase_iff).mp hx).1
   push_cast at h2
   omega
  have h4:=List.length_erase (a:=(n:Int)) (l:=l);split at h4<;>omega
theorem Ie{x:Int}{c:Ce}(h:cellAt M x=some c):0<=x/\x<M.cells.length:=by
 obtain⟨a,h1⟩:=cF.mp h;have:=(dj h1).1;omega
theorem KW.ok(p:KW M hs k)(hb:HsB hs)(hk:k<=900):Zi2 M:=by
 have b:=p.cl;have d:=p.nl;refine⟨δ,λm hm=>?_,λc hc=>by have:=p.fl c hc;omega,δ,λph=>?_,λph x hx=>?_,p.ph,p.a0⟩
 ·obtain⟨i,hi,e⟩:=List.getElem_of_mem hm;have a:i<hs.length:=by rw[<- p.hl];exact hi
  have h1:=p.hn i m _ (by rw[bL hi,e]) (bL a);have h2:=hb.sb _ (List.getElem_mem a);omega
 ·obtain⟨nd,h1⟩:=p.gr ph;refine Nat.le_trans (Ov M.cells.length _ nd λx hx=>?_) δ;obtain⟨c,hc,_⟩:=h1 x hx;exact Ie hc
 ·obtain⟨c,hc,_⟩:=(p.gr ph).2 x hx;exact⟨c,hc⟩
theorem KW.uM(p:KW M hs k){h s:Nat}(o:Es hs h s):uM M h s:=by
 obtain⟨m,hm,b⟩:=o;have a:h<M.hands.length:=by rw[p.hl];exact(dj hm).1
 refine⟨_,bL a,?_⟩;have:=p.hn h _ m (bL a) hm;omega
theorem KW.okD(p:KW M hs k){d:iV}(o:okR hs d):okD M d:=by
 cases d with
 | make h s a bulk=>exact⟨p.uM o.1,o.2.1,by have:=o.2.2.1;omega,o.2.2.2⟩
 | get h s t f=>exact⟨p.uM o.1,p.uM o.2⟩
 | put h t f s=>exact⟨p.uM o.1,p.uM o.2⟩
 | copy h s t=>exact⟨p.uM o.1,p.uM o.2⟩
 | drop h s=>exact p.uM o
 | give h s g t=>exact⟨p.uM o.1,p.uM o.2⟩
 | write h t l=>exact p.uM o
 | read h t=>exact p.uM o
 | name h t z=>exact p.uM o
 | seek h s z=>exact p.uM o
theorem KW.mono{a:Nat}(p:KW M hs k)(h:k<=a):KW M hs a:=by
 obtain⟨a1,a2,g,i,e,b,c,d,f⟩:=p;exact⟨a1,a2,δ,δ,e,b,c,d,f⟩
theorem KW.slot(p:KW M hs k)(h s:Nat)(x:AA):KW (setSlot M h s x) hs k:=by
 obtain⟨a1,a2,f,e,o,d,j,l,g⟩:=p;refine⟨by show(M.hands.modify h _).length=_;rw[List.length_modify];exact a1,λi m n a c=>?_,f,e,o,d,j,l,g⟩;have a:(M.hands.modify h λm=>(m.1,m.2.set s x))[i]? =some m:=a;rw[List.getElem?_modify]at a;cases em:M.hands[i]? with
 | none=>rw[em]at a;cases a
 | some b=>
  rw[em]at a
  by_cases z:h=i
  ·have e3:(b.1,b.2.set s x)=m:=by simpa[z]using a
   rw[<- e3];show(b.2.set s x).length=_;rw[List.length_set];exact a2 i b n em c
  ·have e3:b=m:=by simpa[z]using a
   rw[<- e3];exact a2 i b n em c
theorem cN{i:Int}{c c':Ce}(h:cellAt M i=some c)(x:Int):cellAt (setCell M i c') x=if x=i then some c' else cellAt M x:=by
 obtain⟨b,h1⟩:=cF.mp h;unfold cellAt;show(if 0<=x then((M.cells.set i.toNat (some c'))[x.toNat]?).join else none)=_
 by_cases e:x=i
 ·subst e;rw[if_pos b,if_pos rfl,List.getElem?_set_self (dj h1).1];rfl
 ·rw[if_neg e]
  by_cases a:0<=x
  ·rw[if_pos a,if_pos a,List.getElem?_set_ne δ]
  ·rw[if_neg a,if_neg a]
theorem KW.cell(p:KW M hs k){i:Int}{c c':Ce}(h:cellAt M i=some c)(b:c'.tone=c.tone)(q:c'.fl.length=c.fl.length):KW (setCell M i c') hs k:=by
 have h8:=p.fl c (qe h);obtain⟨a1,a2,j,g,o,f,m,n,l⟩:=p;refine⟨a1,a2,by show(M.cells.set _ _).length<=_;rw[List.length_set];exact j,g,λd hd=>?_,λph=>?_,m,n,l⟩
 ·rcases List.mem_or_eq_of_mem_set (show some d∈M.cells.set _ _ from hd)with hd | hd
  ·exact o d hd
  ·cases hd;omega
 ·obtain⟨nd,h1⟩:=f ph;refine⟨nd,λx hx=>?_⟩;obtain⟨d,hd,a⟩:=h1 x hx;rw[cN h]
  by_cases e:x=i
  ·subst e;rw[h]at hd;cases hd;exact⟨c',by rw[if_pos rfl],by rw[b];exact a⟩
  ·exact⟨d,by rw[if_neg e];exact hd,a⟩
theorem KW.note(p:KW M hs k)(x:AA):KW (bI M x).2 hs k:=by
 cases x with
 | none=>exact p
 | some i=>
  unfold bI;dsimp only;cases hc:cellAt M i with
  | none=>exact p
  | some c=>
   dsimp only;split
   ·rename_i z
    obtain⟨z1,n⟩:=z;have h8:=p.fl c (qe hc);obtain⟨a1,a2,l,j,s,h,o,q,m⟩:=p;obtain⟨nd,h1⟩:=h z1;have g:i∉M.sw.grey:=λhi=>by
     obtain⟨d,hd,f⟩:=h1 i hi;rw[hc]at hd;cases hd;exact n f
    refine⟨a1,a2,by show(M.cells.set _ _).length<=_;rw[List.length_set];exact l,j,λd hd=>?_,λ_=>⟨?_,λx hx=>?_⟩,o,q,m⟩
    ·rcases List.mem_or_eq_of_mem_set (show some d∈M.cells.set _ _ from hd)with hd | hd
     ·exact s d hd
     ·cases hd;exact h8
    ·show(M.sw.grey++[i]).Nodup;rw[List.nodup_append];exact⟨nd,ζ,λa r b hb e=>g (by rw[List.mem_singleton.mp hb]at e;rw[<- e];exact r)⟩
    ·have e:=cN (c':={ c with tone:=M.sw.sense }) hc x;show ∃d,cellAt (setCell M i { c with tone:=M.sw.sense }) x=some d/\d.tone=M.sw.sense;rw[e]
     by_cases ex:x=i
     ·exact⟨_,by rw[if_pos ex],rfl⟩
     ·rcases List.mem_append.mp (show x∈M.sw.grey++[i]from hx)with hx | hx
      ·obtain⟨d,hd,f⟩:=h1 x hx;exact⟨d,by rw[if_neg ex];exact hd,f⟩
      ·exact absurd (List.mem_singleton.mp hx) ex
   ·exact p
theorem KW.notes:∀{l:Au}{M:Wm},KW M hs k->KW (aQ M l).2 hs k
 | [],_,p=>p
 | x::l,_,p=>KW.notes (l:=l) (p.note x)
theorem KW.nh(a:Int):∀{l:List (Str×Au)}{j:Nat}{M:Wm},KW M hs k->KW (fP a l j M).2 hs k
 | [],_,_,p=>p
 | m::l,j,M,p=>by
  unfold fP;split
  ·exact KW.nh a (l:=l) (KW.notes p)
  ·exact KW.nh a (l:=l) p
theorem KW.put(p:KW M hs k){u b:Int}{c:Ce}(j:c.fl.length<=8):KW { M with used:=u,born:=b,cells:=ji M.cells c } hs (k+1):=by
 obtain⟨a1,a2,m,l,i,e,g,h,f⟩:=p;refine⟨a1,a2,?_,by show M.names.length<=_;omega,λd hd=>?_,λph=>?_,g,h,f⟩
 ·have:=Zn5 M.cells c;show(ji M.cells c).length<=_;omega
 ·rcases Zkj hd with hd | hd
  ·exact i d hd
  ·cases hd;exact j
 ·obtain⟨nd,h1⟩:=e ph;refine⟨nd,λx hx=>?_⟩;obtain⟨d,hd,a⟩:=h1 x hx;exact⟨d,BP hd,a⟩
theorem Zgm{l:List (Str×(Int×Int))}{z:Str}{v:Int×Int}:(kY l z v).length<=l.length+1:=by
 unfold kY;split
 ·rw[bA];omega
 ·rw[List.length_append];simp
theorem KW.name(p:KW M hs k){z:Str}{v:Int×Int}:KW { M with names:=kY M.names z v } hs (k+1):=by
 obtain⟨a1,a2,f,g,d,a,b,c,e⟩:=p;refine⟨a1,a2,by show M.cells.length<=_;omega,?_,d,a,b,c,e⟩;have:=Zgm (l:=M.names) (z:=z) (v:=v);show(kY M.names z v).length<=_;omega
theorem KW.deed(p:KW M hs k){d:iV}{e:Ev}{i:Wm}(o:okR hs d)(h:g8 M d=.ok (e,i)):KW i hs (k+1):=by
 have le:k<=k+1:=δ
 cases d with
 | make a s b bulk=>
  simp only[g8]at h;split at h
  ·right;refine KW.slot (KW.put p ?_) _ _ _;show(List.replicate b.toNat none).length<=8;rw[List.length_replicate];have:=o.2.2.1;omega
  ·cases h
 | get a s t f=>
  simp only[g8]at h;split at h
  ·cases h
  ·split at h
   ·cases h
   ·split at h
    ·cases h
    ·right;exact(p.slot _ _ _).mono le
 | put a t f s=>
  simp only[g8]at h;split at h
  ·cases h
  ·split at h
   ·cases h
   ·rename_i c hc
    split at h
    ·cases h
    ·right;exact(KW.notes (p.cell (c':={ c with fl:=c.fl.set f (aR M a s) }) hc rfl (by show(List.set _ _ _).length=_;rw[List.length_set]))).mono le
 | copy a s t=>
  right;exact(p.slot _ _ _).mono le
 | drop a s=>
  right;exact(p.slot _ _ _).mono le
 | give a s g t=>
  right;exact(KW.notes (p.slot _ _ _)).mono le
 | write a t l=>
  simp only[g8]at h;split at h
  ·cases h
  ·split at h
   ·cases h
   ·rename_i c hc
    right;exact(p.cell (c':={ c with load:=l }) hc rfl rfl).mono le
 | read a t=>
  simp only[g8]at h;split at h
  ·cases h
  ·split at h
   ·cases h
   ·right;exact p.mono le
 | name a t z=>
  simp only[g8]at h;split at h
  ·cases h
  ·split at h
   ·cases h
   ·right;exact p.name
 | seek a s z=>
  simp only[g8]at h;split at h
  ·cases h
  ·split at h
   ·right;exact(p.slot _ _ _).mono le
   ·right;exact(KW.notes (p.slot _ _ _)).mono le
theorem KW.step(p:KW M hs k){lb:Int}{lw:AE}{e:Ev}{s:Wm}(h:lH lb lw M e s):KW s hs k:=by
 cases h with
 | begin ph=>
  refine KW.nh _ ?_;obtain⟨a1,a2,b,a,j,n,l,m,f⟩:=p;exact⟨a1,a2,b,a,j,λ_=>⟨List.nodup_nil,λx hx=>(nomatch hx)⟩,.inr (.inl rfl),m,f⟩
 | walk x g c ph o hc=>
  refine KW.notes ?_;obtain⟨a1,a2,b,a,j,n,l,m,f⟩:=p;refine⟨a1,a2,b,a,j,λ_=>?_,l,m,f⟩;obtain⟨nd,h1⟩:=n ph;rw[o]at nd h1;exact⟨(List.nodup_cons.mp nd).2,λy hy=>h1 y (List.mem_cons_of_mem _ hy)⟩
 | look N ph o D B=>
  have C:KW N hs k:=by rw[B];exact KW.nh _ p
  obtain⟨a1,a2,b,a,j,n,l,m,f⟩:=C;exact⟨a1,a2,b,a,j,n,l,m,f⟩
 | cut q t ph o A w r=>
  obtain⟨a1,a2,b,a,j,n,l,m,f⟩:=p;exact⟨a1,a2,b,a,j,λz=>absurd z (show ¬ ("give":Str)="walk" by decide),.inr (.inr (.inl rfl)),Int.le_refl _,f⟩
 | lost q t i x c v ph o A w hx r hc u=>
  obtain⟨a1,a2,b,a,j,n,l,m,f⟩:=p;exact⟨a1,a2,b,a,j,λz=>absurd z (show ¬ ("lost":Str)="walk" by decide),.inr (.inr (.inr rfl)),Int.le_refl _,f⟩
 | pass ph lt hp=>
  obtain⟨a1,a2,b,a,j,n,l,m,f⟩:=p;exact⟨a1,a2,b,a,j,n,l,by show 0<=M.sw.at'+1;omega,f⟩
 | back c ph lt hc u=>
  obtain⟨a1,a2,b,a,j,n,l,m,f⟩:=p;refine⟨a1,a2,by show(M.cells.set _ _).length<=_;rw[List.length_set];exact b,a,λd hd=>?_,λz=>absurd (ph.symm.trans z) ε,l,by show 0<=M.sw.at'+1;omega,f⟩;rcases List.mem_or_eq_of_mem_set (show some d∈M.cells.set _ _ from hd)with hd | hd
  ·exact j d hd
  ·cases hd
 | fin ph lt=>
  obtain⟨a1,a2,b,a,j,n,l,m,f⟩:=p;exact⟨a1,a2,b,a,j,λz=>absurd z (show ¬ ("rest":Str)="walk" by decide),.inl rfl,m,f⟩
 | again ph=>exact p
theorem KW.new{room:Int}{w t:Int}(b:0<=t)(h1:t<4):KW (wV room hs w t) hs 0:=by
 refine⟨by show(hs.map _).length=_;rw[bA],λi m n a d=>?_,Nat.le_refl _,Nat.le_refl _,λc hc=>(nomatch hc),λz=>absurd z (show ¬ ("rest":Str)="walk" by decide),.inl rfl,Int.le_refl _,⟨b,h1⟩⟩;have a:(hs.map λm=>(m.1,List.replicate m.2.toNat (none:AA)))[i]? =some m:=a;rw[cL,d]at a;cases a;exact List.length_replicate
end
abbrev Rz:=Str×V×AE
def rfS:Rf->Str
 | .full=>"full"
 | .empty=>"empty"
 | .iK=>"field"
 | .uQ=>"name"
def Hj:Except Rf (Ev×Wm)->Rz
 | .ok x=>(x.1.word,oV x.1.thing,x.1.notes)
 | .error r=>("refused",.str (rfS r),[])
def stM(M:Wm):Except Rf (Ev×Wm)->Wm
 | .ok x=>x.2
 | .error _=>M
def evz(e:Ev):Rz:=(e.word,oV e.thing,e.notes)
def ig(a:List Rz):Bool:=match a.getLast? with
 | some x=>decide (x.1=("lost":Str))
 | none=>false
theorem Ph(a:List Rz)(x:Rz):ig (a++[x])=decide (x.1=("lost":Str)):=by
 unfold ig;rw[List.getLast?_concat]
inductive Bo where
 | sw (n:Nat)
 | dd (d:iV)
def rV:Bo->List V
 | .sw n=>[.str "sweep",.int n]
 | .dd d=>dV d
inductive Ma:Wm->Nat->List Rz->Wm->Prop
 | stop (M:Wm):Ma M 0 [] M
 | lost {M M':Wm}{n:Nat}{e:Ev}:lH 0 [] M e M'->e.word=("lost":Str)->Ma M (n+1) [evz e] M'
 | go {M N M':Wm}{n:Nat}{e:Ev}{es:List Rz}:lH 0 [] M e N->e.word≠("lost":Str)->Ma N n es M'->Ma M (n+1) (evz e::es) M'
def Ze0(M:Wm):Bo->List Rz->Wm->Prop
 | .sw n,b,a=>Ma M n b a
 | .dd d,b,a=>b=[Hj (g8 M d)]/\a=stM M (g8 M d)
inductive qi:Wm->List Bo->List (List Rz)->Wm->Prop
 | nil (M:Wm):qi M [] [] M
 | lost {M M':Wm}{r:Bo}{rs:List Bo}{es:List Rz}:Ze0 M r es M'->ig es=true->qi M (r::rs) [es] M'
 | go {M N M':Wm}{r:Bo}{rs:List Bo}{es:List Rz}{lg:List (List Rz)}:Ze0 M r es N->ig es=false->qi N rs lg M'->qi M (r::rs) (es::lg) M'
def Nl(M:Wm):Prop:=M.sw.phase≠("lost":Str)/\M.sw.loss=.non
section
variable {F:KB.Fd}{R:KB.Rw}
end
theorem Zfg{M a:Wm}{d:iV}{e:Ev}(h:g8 M d=.ok (e,a)):∃g,a.sw={ M.sw with grey:=g }:=by
 cases d<;>simp only[g8]at h<;>(repeat' split at h)<;>first | (cases h;done) | (cases h;exact⟨_,rfl⟩) | (cases h;exact(tV _ _).sw)
section
variable {M M' M2 N:Wm}{e e2:Ev}{a c:Int}{b d:AE}
theorem Nl.keep(n:Nl M)(h:∃g,M'.sw={ M.sw with grey:=g }):Nl M':=by
 obtain⟨g,h⟩:=h;exact⟨by rw[h];exact n.1,by rw[h];exact n.2⟩
theorem Nl.deed(n:Nl M)(d:iV):Nl (stM M (g8 M d)):=by
 cases z:g8 M d with
 | error r=>exact n
 | ok x=>exact n.keep (Zfg (e:=x.1) (by rw[z];rfl))
theorem Nl.step(n:Nl M)(h:lH a b M e M'):(e.word=("lost":Str)/\M'.sw.phase=("lost":Str))\/(e.word≠("lost":Str)/\Nl M'):=by
 cases h with
 | begin ph=>
  obtain⟨g,h⟩:=(Ht (fK M.w M.hands.length) M.hands 0 (lR M)).sw;exact .inr ⟨by show ¬("begin":Str)="lost";decide,by rw[h];show ¬("walk":Str)="lost";decide,by rw[h];exact n.2⟩
 | walk x g c ph d hc=>
  obtain⟨o,h⟩:=(tV c.fl { M with sw:={ M.sw with grey:=g,walks:=M.sw.walks+1 } }).sw;exact .inr ⟨by show ¬("walk":Str)="lost";decide,by rw[h];exact n.1,by rw[h];exact n.2⟩
 | look N ph d r p=>
  obtain⟨o,h⟩:=(Ht (bQ M) M.hands 0 M).sw;subst p;exact .inr ⟨by show ¬("look":Str)="lost";decide,by show(fP (bQ M) M.hands 0 M).2.sw.phase≠_;rw[h];exact n.1,by show(fP (bQ M) M.hands 0 M).2.sw.loss=_;rw[h];exact n.2⟩
 | cut q j ph d m l f=>exact .inr ⟨by show ¬("cut":Str)="lost";decide,by show ¬("give":Str)="lost";decide,n.2⟩
 | lost q j i x c v ph d m l hx f hc k=>exact .inl ⟨rfl,rfl⟩
 | pass ph lt hp=>exact .inr ⟨by show ¬("pass":Str)="lost";decide,n⟩
 | back c ph lt hc k=>exact .inr ⟨by show ¬("back":Str)="lost";decide,n⟩
 | fin ph lt=>exact .inr ⟨by show ¬("end":Str)="lost";decide,by show ¬("rest":Str)="lost";decide,n.2⟩
 | again ph=>exact absurd ph n.1
end
theorem Zcq(x:Rz){a:List Rz}(h:a≠[]):ig (x::a)=ig a:=by
 unfold ig;rw[List.getLast?_cons_of_ne_nil h]
theorem Ma.ne{M b:Wm}{n:Nat}{a:List Rz}(h:Ma M n a b)(z:n≠0):a≠[]:=by
 cases h with
 | stop=>exact absurd rfl z
 | lost=>exact λy=>nomatch y
 | go=>exact λy=>nomatch y
theorem Ma.nl{M b:Wm}{n:Nat}{a:List Rz}(h:Ma M n a b):Nl M->ig a=false->Nl b:=by
 induction h with
 | stop M=>exact λn _=>n
 | @lost M b k e s l=>
  intro n z;rw[show ig [evz e]=true from decide_eq_true l]at z;cases z
 | @go M N b k e a s l h ih=>
  intro n z;have c:Nl N:=by
   rcases n.step s with y | y
   ·exact absurd y.1 l
   ·exact y.2
  by_cases hz:a=[]
  ·subst hz;exact ih c rfl
  ·rw[Zcq _ hz]at z;exact ih c z
theorem Ze0.nl{M a:Wm}{r:Bo}{b:List Rz}(h:Ze0 M r b a)(n:Nl M)(z:ig b=false):Nl a:=by
 cases r with
 | sw k=>exact Ma.nl h n z
 | dd d=>
  obtain⟨rfl,rfl⟩:=h;exact n.deed d
theorem Zj2(M:Wm)(d:iV):(Hj (g8 M d)).1≠("lost":Str):=by
 cases d<;>simp only[g8]<;>(repeat' split)<;>(simp only[Hj];decide)
def HsO(H:Hp)(l:AI)(hs:uz):Prop:=∃ts:AF,H l=some (.lst (ts.map V.ref))/\Al (λ(a:AI) (m:Str×Int)=>H a=some (.tup [.str m.1,.int m.2])) ts hs
theorem HsO.same{H H':Hp}{l:AI}{hs:uz}(h:HsO H l hs)(s:bx H H'):HsO H' l hs:=by
 obtain⟨ts,h1,h2⟩:=h;exact⟨ts,s _ _ h1,h2.mono λa m z=>s _ _ z⟩
theorem HsO.at{H:Hp}{l:AI}{hs:uz}(h:HsO H l hs){i:Nat}{m:Str×Int}(hm:hs[i]? =some m):∃ts:AF,∃t,H l=some (.lst (ts.map V.ref))/\ts[i]? =some t/\H t=some (.tup [.str m.1,.int m.2]):=by
 obtain⟨ts,h1,h2⟩:=h;obtain⟨t,e,z⟩:=h2.get hm;exact⟨ts,t,h1,e,z⟩
theorem Zpu{d e:Type}{P:d->e->Prop}:∀{xs:List d}{c:List e},xs.length=c.length->(∀(i:Nat) x y,xs[i]? =some x->c[i]? =some y->P x y)->Al P xs c
 | [],[],_,_=>.nil
 | [],_::_,h,_=>by simp at h
 | _::_,[],h,_=>by simp at h
 | x::xs,y::c,h,p=>.cons (p 0 x y rfl rfl) (Zpu (by simpa using h) λi a b h1 h2=>p (i+1) a b (by simpa using h1) (by simpa using h2))
inductive Zdx(K:aD)(a:AI)(k:Int)(H:Hp)(Q:VK):Prop
 | mk (ns:AE) (_:cJ K H a (ns.map V.int)) (_:0<=k) (_:∀z:Int,Q (.int z) H):Zdx K a k H Q
def Zdz(K:aD):Sp:=λvs H Q E=>∃a k,vs=[.ref a,.int k]/\Zdx K a k H Q
def okW(hs:uz):Bo->Prop
 | .sw n=>1<=n/\n<=200
 | .dd d=>okR hs d
def Zi3(hs:uz)(H:Hp)(Q:VK):Prop:=∀a r H',bx H H'->H' a=some (.tup (rV r))->okW hs r->Q (.ref a) H'
theorem Zi3.same{hs:uz}{H H':Hp}{Q:VK}(q:Zi3 hs H Q)(s:bx H H'):Zi3 hs H' Q:=λa r b c=>q a r b (s.trans c)
def RwL(H:Hp)(l:AI)(rs:List Bo):Prop:=∃as:AF,H l=some (.lst (as.map V.ref))/\as.length=rs.length/\∀(i:Nat) a,as[i]? =some a->∃r,rs[i]? =some r/\H a=some (.tup (rV r))
theorem Ze8(c:Nat):(⟨#[c]⟩:Str).length=1:=rfl
theorem Zis(a b:Str):(a++b).length=a.length+b.length:=by
 show(a.cps++b.cps).size=_;rw[Array.size_append];rfl
section
variable {K:aD}{H:Hp}{Q:VK}{E:XK}{n:μ}{bk ct:μ}
theorem Li{a:AI}{k:Int}(q:Zdx K a k H Q):vW K ν [↑a,some (.int k)] H:=by
 obtain⟨ns,b,c,h⟩:=q;unfold vW;apply eO b ?_;apply pY (λh1=>?_) (λh1=>?_)
 ·ext;rw[bA]at h1;have hk:k.toNat<ns.length:=δ
  exact eF b (mY c (by rw[cL,bL hk]<;>rfl)) (h _)
 ·apply h _
end
def Rj(b H:Hp)(T:Tg)(s:Nat)(a:AI)(x:Rz):Prop:=∃l,b l=none/\H a=some (.tup [.str x.1,x.2.1,.ref l])/\H l=some (.lst (x.2.2.map V.int))/\TgO s (T a)/\TgO s (T l)
theorem Rj.mv{c H H':Hp}{T T':Tg}{s:Nat}{a:AI}{x:Rz}(b:s≠0)(h:Rj c H T s a x)(st:fc s H H' T T'):Rj c H' T' s a x:=by
 obtain⟨l,f,h1,h2,t1,t2⟩:=h;exact⟨l,f,st.kp _ _ h1 (t1.ne b),st.kp _ _ h2 (t2.ne b),by rw[st.tg _ _ h1];exact t1,by rw[st.tg _ _ h2];exact t2⟩
theorem Rj.put{b H:Hp}{T:Tg}{s:Nat}{a p:AI}{x:Rz}{xs:List V}{o c:HO}(h:Rj b H T s a x)(hp:b p=some c)(hl:H p=some (.lst xs)):Rj b (upd H p o) T s a x:=by
 obtain⟨l,f,h1,h2,t⟩:=h;exact⟨l,f,by rw[aA λz=>by rw[z,hl]at h1;cases h1];exact h1,by rw[aA λz=>by rw[z,hp]at f;cases f];exact h2,t⟩
theorem Rj.base{b c H:Hp}{T:Tg}{s:Nat}{a:AI}{x:Rz}(h:Rj b H T s a x)(sm:bx c b):Rj c H T s a x:=by
 obtain⟨l,f,r⟩:=h;exact⟨l,sm.free f,r⟩
def Zv2(X:Cs)(M:Wm)(r:Bo)(hs:uz)(k:Nat)(T:Tg)(s:Nat)(wo:AI)(H:Hp)(Q:VK):Prop:=
 ∀a as b H' T' c p,Ze0 M r a b->a≠[]->a.length<=1000->KW b hs (k+1)->fc s H H' T T'->WJ X H' T' s c b->c.wo=wo->Al (Rj H H' T' s) as a->H' p=some (.lst (as.map V.ref))->H p=none->TgO s (T' p)->Q (.ref p) H'
inductive DnQ(X:Cs)(wo dd:AI)(H:Hp)(Q:VK):Prop
 | mk (T s A M r hs k) (_:WT H T) (_:s≠0) (_:WJ X H T s A M) (_:A.wo=wo) (_:H dd=some (.tup (rV r))) (_:okW hs r) (_:KW M hs k) (_:HsB hs) (_:k<=800) (_:Nl M) (_:Zv2 X M r hs k T s wo H Q):DnQ X wo dd H Q
def Iu:Sp:=λvs H Q E=>∃z,vs=[.str z]/\∀a l H',bx H H'->H a=none->H l=none->H' a=some (.tup [.str "refused",.str z,.ref l])->H' l=some (.lst [])->Q (.ref a) H'
inductive DdQ(X:Cs)(wo dd:AI)(H:Hp)(Q:VK):Prop
 | mk (T s A M d hs k) (_:WT H T) (_:s≠0) (_:WJ X H T s A M) (_:A.wo=wo) (_:H dd=some (.tup (dV d))) (_:okR hs d) (_:KW M hs k) (_:k<=800) (_:∀H' T' A' a,fc s H H' T T'->WJ X H' T' s A' (stM M (g8 M d))->A'.wo=wo->Rj H H' T' s a (Hj (g8 M d))->Q (.ref a) H'):DdQ X wo dd H Q
def Zfv(X:Cs):Sp:=λvs H Q E=>∃wo dd,vs=[.ref wo,.ref dd]/\DdQ X wo dd H Q
theorem KW.turn{M:Wm}{hs:uz}{k:Nat}(p:KW M hs k){d:iV}(o:okR hs d):KW (stM M (g8 M d)) hs (k+1):=by
 cases e:g8 M d with
 | ok x=>exact p.deed (e:=x.1) o (by rw[e];rfl)
 | error r=>exact p.mono (Nat.le_succ _)
theorem KW.grl{M:Wm}{hs:uz}{k:Nat}(p:KW M hs k)(hk:k<=800)(z:M.sw.phase="walk"):M.sw.grey.length<=800:=by
 obtain⟨nd,gr⟩:=p.gr z;have:=Ov M.cells.length M.sw.grey nd λx hx=>by
  obtain⟨c,hc,_⟩:=gr x hx;exact Ie hc
 have:=p.cl;omega
theorem Zoq{X:Cs}{b:Rf->AI}{wo dd:AI}{T:Tg}{s:Nat}{A:Wa}{M:Wm}{d:iV}{hs:uz}{k:Nat}{H:Hp}{Q:VK}{E:XK}(w:WT H T)(h:s≠0)(j:WJ X H T s A M)(aw:A.wo=wo)(g:H dd=some (.tup (dV d)))(o:okR hs d)(kw:KW M hs k)(hk:k<=800)
  (h1:∀r,g8 M d=.error r->∀H',bx H H'->E (.ref (b r)) none H') (h2:∀e c,g8 M d=.ok (e,c)->∀H' T' f a,fc s H H' T T'->WJ X H' T' s f c->f.wo=wo->EvN H H' T' s a e->Q (.ref a) H'):Zv0 X b [.ref wo,.ref dd] H Q E:=
 ⟨wo,dd,rfl,T,s,A,M,d,trivial,w,h,j,aw,g,kw.okD o,by have:=kw.cl;omega,λz=>Nat.le_trans (kw.grl hk z) ε,kw.tl,by have:=kw.nl;omega,h1,h2⟩
variable {K:aD}{X:Cs}{rf:Rf->AI}{H:Hp}{Q:VK}{E:XK}{n:μ}{bk ct:μ}
section
theorem Zc3{z:Str}(q:∀a l H',bx H H'->H a=none->H l=none->H' a=some (.tup [.str "refused",.str z,.ref l])->H' l=some (.lst [])->Q (.ref a) H'):Ni ν [some (.str z)] H:=by
 unfold Ni;apply⟨ε,λl nl=>?_⟩;refine⟨bG ζ,λa b=>?_⟩;exact q a l _ ((aM nl _).trans (aM b _)) ((aM nl _).free b) nl ao ((aM b _) _ _ ao)
theorem Rp{wo dd CE p t u:AI}(h1:rf .empty=CE)(h2:rf .full=p)(C:rf .iK=t)(h4:rf .uQ=u)(q:DdQ X wo dd H Q):
  rF CE p t u (Zv0 X rf) Iu ν [↑wo,↑dd] H:=by
 obtain⟨T,s,A,M,d,hs,k,w,m,j,aw,I,o,kw,hk,q⟩:=q;subst h1 h2 C h4;have i:∀r,g8 M d=.error r->∀b,bx H b->∀a l f,bx b f->b a=none->b l=none->f a=some (.tup [.str "refused",.str (rfS r),.ref l])->f l=some (.lst [])->Q (.ref a) f:=λr er b c a l f y F fl K hl=>by
  have g:=c.trans y;refine q f T A a (fc.same w g) (by rw[er];exact j.same g) aw ?_;rw[er];exact⟨l,c.free fl,K,hl,(rC w m (c.free F)).2,(rC w m (c.free fl)).2⟩
 unfold rF;apply Zoq w m j aw I o kw hk (λr er b c=>?_) λe L v b x J a st D h ev=>?_
 ·have z:=i r er b c;cases r with
  | full=>
   refine .inr (.inr (.inl ⟨rfl,?_⟩));apply⟨_,rfl,z⟩
  | empty=>
   refine .inl ⟨rfl,?_⟩;apply⟨_,rfl,z⟩
  | iK=>
   refine .inr (.inl ⟨rfl,?_⟩);apply⟨_,rfl,z⟩
  | uQ=>
   refine .inr (.inr (.inr ⟨rfl,?_⟩));apply⟨_,rfl,z⟩
 ·ext;obtain⟨l,⟨fl,t1,t2⟩,E,B⟩:=ev;exact q b x J a st (by rw[v];exact D) h (by rw[v];exact⟨l,fl,E,B,t2,t1⟩)
end
def EvH(H:Hp)(a:AI)(x:Rz):Prop:=∃l,H a=some (.tup [.str x.1,x.2.1,.ref l])/\H l=some (.lst (x.2.2.map V.int))
theorem Rj.h{b H:Hp}{T:Tg}{s:Nat}{a:AI}{x:Rz}(h:Rj b H T s a x):EvH H a x:=by
 obtain⟨l,_,h1,h2,_⟩:=h;exact⟨l,h1,h2⟩
inductive YH(p:AI)(H:Hp)(Q:VK):Prop
 | mk (as es) (_:H p=some (.lst (as.map V.ref))) (_:Al (EvH H) as es) (_:Q (.bl (ig es)) H):YH p H Q
def Mf:Sp:=λvs H Q E=>∃p,vs=[.ref p]/\YH p H Q
inductive SwQ(X:Cs)(wo:AI)(m:Int)(H:Hp)(Q:VK):Prop
 | mk (T s A M hs k) (n:Nat) (_:m=n) (_:WT H T) (_:s≠0) (_:WJ X H T s A M) (_:A.wo=wo) (_:KW M hs k) (_:HsB hs) (_:k<=800) (_:Nl M) (_:n<=1000) (_:∀es as M' H' T' A' p,Ma M n es M'->es.length<=n->KW M' hs k->fc s H H' T T'->WJ X H' T' s A' M'->A'.wo=wo->Al (Rj H H' T' s) as es->H' p=some (.lst (as.map V.ref))->H p=none->TgO s (T' p)->Q (.ref p) H'):SwQ X wo m H Q
def Zfw(X:Cs):Sp:=λvs H Q E=>∃wo m,vs=[.ref wo,.int m]/\SwQ X wo m H Q
structure SwI(X:Cs)(M:Wm)(hs:uz)(k n:Nat)(s:Nat)(wo p:AI)(H H1:Hp)(T:Tg)(Hx:Hp)(es:List Rz)(as:AF)(N:Wm)(Tx:Tg)(Ax:Wa):Prop where
 st:fc s H Hx T Tx
 j:WJ X Hx Tx s Ax N
 aw:Ax.wo=wo
 kw:KW N hs k
 hp:Hx p=some (.lst (as.map V.ref))
 tp:(Tx p).1=s+1
 ev:Al (Rj H1 Hx Tx s) as es
 le:es.length<=n
 al:∀b o,H1 b=some o->∃o',Hx b=some o'
 go:(ig es=false/\Nl N/\∀n' es' M',Ma N n' es' M'->Ma M (es.length+n') (es++es') M')\/(ig es=true/\Ma M n es N)
theorem SwI.turn{X:Cs}{M:Wm}{hs:uz}{k n s:Nat}{wo p:AI}{H g:Hp}{T:Tg}{u:Hp}{c:List Rz}{as:AF}{N:Wm}{E:Tg}{Q:Wa}(i:SwI X M hs k n s wo p H g T u c as N E Q)(R:s≠0)(np:H p=none)(j:∃o,g p=some o)(lt:c.length<n)(nl:ig c=false)
  {e:Ev}{t:Wm} (r:lH 0 [] N e t) {Hy:Hp}{Ty:Tg}{y:Wa}{a:AI} (st:fc s u Hy E Ty) (K:WJ X Hy Ty s y t) (aw:y.wo=wo) (ev:EvN u Hy Ty s a e):
  Hy p=some (.lst (as.map V.ref))/\SwI X M hs k n s wo p H g T (upd Hy p (.lst (as.map V.ref++[.ref a]))) (c++[evz e]) (as++[a]) t Ty y:=by
 have f:Hy p=some (.lst (as.map V.ref)):=st.kp _ _ i.hp (by rw[i.tp];omega);have q:(Ty p).1=s+1:=by rw[st.tg _ _ i.hp];exact i.tp
 have d:fc (s+1) Hy (upd Hy p (.lst (as.map V.ref++[.ref a]))) Ty Ty:=fc.upd st.wt f q;have A:∀b,u b=none->g b=none:=λb hb=>by
  cases z:g b with
  | none=>rfl
  | some o=>obtain⟨U,e⟩:=i.al b o z;rw[hb]at e;cases e
 obtain⟨o1,j⟩:=j;obtain⟨l,⟨fl,t1,t2⟩,P,I⟩:=ev;have er:Rj g Hy Ty s a (evz e):=⟨l,A _ fl,P,I,t2,t1⟩;have B:Al (Rj g (upd Hy p (.lst (as.map V.ref++[.ref a]))) Ty s) (as++[a]) (c++[evz e]):=((i.ev.mono λa x h=>h.mv R st).app er).mono λa x h=>h.put j f;have C:fc s H (upd Hy p (.lst (as.map V.ref++[.ref a]))) T Ty:=by
  have z:=i.st.trans st;exact⟨λb o hb L=>by rw[aA (aF hb np)];exact z.kp b o hb L,λb o hb=>by rw[aA (aF hb np)];exact z.al b o hb,z.tg,d.wt⟩
 refine⟨f,C,K.other d δ δ,aw,i.kw.step r,by rw[ao,List.map_append];rfl,q,B,by rw[List.length_append];show _+1<=_;omega,λb o hb=>?_,?_⟩
 ·obtain⟨o2,h2⟩:=i.al b o hb;obtain⟨S,O⟩:=st.al b o2 h2;exact d.al b S O
 rcases i.go with ⟨_,F,co⟩ | ⟨z,_⟩
 ·rw[Ph];rcases F.step r with ⟨m,ph⟩ | ⟨m,J⟩
  ·refine .inr ⟨decide_eq_true m,?_⟩
   ·have:=co (n - c.length) [evz e] t (by rw[show n - c.length=(n - c.length - 1)+1 by omega];exact .lost r m);rw[show c.length+(n - c.length)=n by omega]at this;exact this
  ·refine .inl ⟨decide_eq_false m,J,λv D w h=>?_⟩;have:=co (v+1) (evz e::D) w (.go r m h);rw[List.length_append,List.append_assoc];rw[show c.length+(v+1)=c.length + [evz e].length+v by show _=c.length+1+v;omega]at this;exact this
 ·rw[nl]at z;cases z
def Zfu(X:Cs):Sp:=λvs H Q E=>∃wo dd,vs=[.ref wo,.ref dd]/\DnQ X wo dd H Q
section
theorem Rr{p:AI}(q:YH p H Q):zQ K ν [↑p] H:=by
 obtain⟨c,e,hp,al,h⟩:=q;have hl:=al.length;unfold zQ;apply eO (cJ.of hp) ?_;rw[bA];ext;rcases List.eq_nil_or_concat e with rfl | ⟨d,x,rfl⟩
 ·have:c=[]:=List.length_eq_zero_iff.mp hl;subst this;rw[if_neg ε];exact h
 ·rw[List.concat_eq_append]at hl al h;rcases List.eq_nil_or_concat c with rfl | ⟨bs,a,rfl⟩
  ·rw[List.length_append]at hl;cases hl
  rw[List.concat_eq_append]at hl al hp ⊢;rw[List.length_append,List.length_append]at hl;have k:[x].length=1:=rfl;have j:[a].length=1:=rfl;obtain⟨g,b,l,f,m⟩:=al.get (i:=d.length) (y:=x) (by rw[List.getElem?_append_right Δ,Nat.sub_self];rfl);rw[show d.length=bs.length by omega,List.getElem?_append_right Δ,Nat.sub_self]at b;cases b;rw[List.length_append,if_pos (decide_eq_true (by show(0:Int)<((bs.length+1:Nat):Int);omega))];apply eF (v:=.ref a) (cJ.of hp) (by rw[List.map_append];exact Zb4 _ _) ?_;exists a,_,0,_,rfl,rfl,fj.of f,rfl;ext;rw[Ph]at h;exact h
theorem SwI.fin{M:Wm}{hs:uz}{k nn s:Nat}{wo p:AI}{d:Hp}{T:Tg}{e:Hp}{b:List Rz}{as:AF}{N:Wm}{c:Tg}{g:Wa}(i:SwI X M hs k nn s wo p H d T e b as N c g)(sm:bx H d)(z:b.length=nn\/ig b=true):Ma M nn b N/\Al (Rj H e c s) as b:=by
 refine⟨?_,i.ev.mono λa x h=>h.base sm⟩
 ·rcases i.go with ⟨f,_,co⟩ | ⟨_,h⟩
  ·rcases z with z | z
   ·have:=co 0 [] N (.stop N);rw[List.append_nil,Nat.add_zero,z]at this;exact this
   ·rw[f]at z;cases z
  ·exact h
theorem SwI.new{M:Wm}{hs:uz}{k nn s:Nat}{wo p:AI}{T:Tg}{A:Wa}(w:WT H T)(d:s≠0)(j:WJ X H T s A M)(aw:A.wo=wo)(kw:KW M hs k)(nl:Nl M)(np:H p=none):SwI X M hs k nn s wo p H (upd H p (.lst [])) T (upd H p (.lst [])) [] [] M (fX T p (s+1,0)) A:=
 ⟨fc.fresh w np,j.other (fc.fresh (s:=s+1) (v:=(s+1,0)) (o:=.lst []) w np) δ δ,aw,kw,ao,by rw[eZ],.nil,Nat.zero_le _,λb o hb=>⟨o,hb⟩,.inl ⟨rfl,nl,λe a c h=>by rw[List.length_nil,Nat.zero_add];exact h⟩⟩
theorem Zga{wo:AI}{m:Int}(q:SwQ X wo m H Q):Ng K (cV X Znf) Mf ν [↑wo,some (.int m),none] H:=by
 obtain⟨T,s,A,M,hs,k,nn,rfl,w,u,j,aw,kw,hb,hk,nl,S,q⟩:=q;unfold Ng;apply⟨ε,λp np=>?_⟩;have sm:=aM np (.lst []);have v:=SwI.new (nn:=nn) w u j aw kw nl np;have D:upd H p (.lst []) p=some (.lst (([]:AF).map V.ref)):=ao;generalize upd H p (.lst [])=F at sm D v ⊢;have fin:∀{g b c N d f},SwI X M hs k nn s wo p H F T g b c N d f->(b.length=nn\/ig b=true)->Q (.ref p) g:=λ{g b c N d f} i z=>by
  obtain⟨O,P⟩:=i.fin sm z;exact q b c N g d f p O i.le i.kw i.st i.j i.aw P i.hp np (.inr i.tp)
 exists λB C g=>∃b c N d f,C=[↑wo,some (.int nn),↑p]/\B=nn - b.length/\SwI X M hs k nn s wo p H F T g b c N d f,⟨_,[],[],M,_,A,rfl,rfl,v⟩;rintro B C g ⟨b,c,N,d,f,rfl,rfl,i⟩;have hl:=i.ev.length;apply eO (cJ.of i.hp) ?_;rw[bA];apply pY (λlt=>?_) (λU=>?_)
 ·exists p,rfl,c,b,i.hp,i.ev.mono λa x h=>h.h;refine⟨ig b,rfl,?_⟩;cases z:ig b with
  | true=>
   apply fin i (.inr z)
  | false=>
   exists _,λ_ _ h=>h;exists .inl ⟨rfl,_,cJ.of i.hp⟩;ext;have I:Nl N:=by
    rcases i.go with ⟨_,h,_⟩ | ⟨E,_⟩
    ·exact h
    ·rw[z]at E;cases E
   refine⟨wo,rfl,d,s,f,N,0,[],i.st.wt,u,i.j,i.aw,i.kw.ok hb δ,trivial,λy=>absurd y I.1,λe R r Hy Ty J a t L l ev lo=>?_⟩;obtain⟨o,i2⟩:=i.turn u np ⟨_,D⟩ δ z r t L l ev;apply⟨p,_,_,rfl,rfl,o,by rw[bA,sizeLine_eq];omega,?_⟩;apply⟨nn - (b++[evz e]).length,by rw[List.length_append];show nn - (b.length+1)<_;omega,b++[evz e],c++[a],R,Ty,J,rfl,rfl,i2⟩
 ·apply fin i (.inl (by have:=i.le;omega))
theorem Zii{wo:AI}{m:Int}(q:SwQ X wo m H Q):Ng K (cV X Znf) Mf ν [↑wo,some (.int m),none] H:=Zga q
theorem Zi9{wo dd:AI}(q:DnQ X wo dd H Q):Zu K (Zfw X) (Zfv X) ν [↑wo,↑dd] H:=by
 obtain⟨T,s,A,M,r,hs,k,w,x,j,aw,g,o,kw,hb,hk,nl,q⟩:=q;unfold Zu;cases r with
 | sw m=>
  have o1:1<=m:=o.1;have o2:m<=200:=o.2;exists dd,_,0,_,rfl,rfl,fj.of g,rfl;apply pY ax (λz=>absurd rfl z);exists dd,_,1,_,rfl,rfl,fj.of g,rfl;apply⟨wo,_,rfl,T,s,A,M,hs,k,m,rfl,w,x,j,aw,kw,hb,hk,nl,δ,λC y D h c v p sw le u st i b ev hp np tp=>?_⟩;exact q C y D h c v p sw (sw.ne δ) δ (u.mono (Nat.le_succ _)) st i b ev hp np tp
 | dd d=>
  have wd:∃w,¬ w=("sweep":Str)/\(dV d)[0]? =some (.str w):=by cases d<;>exact⟨_,ε,rfl⟩
  obtain⟨E,nw,B⟩:=wd;exists dd,_,0,_,rfl,rfl,fj.of g,mY ε B;apply pY (λz=>absurd z nw) ax;apply⟨wo,dd,rfl,T,s,A,M,d,hs,k,w,x,j,aw,g,o,kw,hk,λh c v a st i b ev=>?_⟩;apply⟨by show 1<=_;decide,λp hp=>?_⟩;have e:=aM hp (.lst [.ref a]);have er:Rj H (upd h p (.lst [.ref a])) c s a (Hj (g8 M d)):=by
   obtain⟨l,f,h1,h2,t⟩:=ev;exact⟨l,f,e _ _ h1,e _ _ h2,t⟩
  exact q [Hj (g8 M d)] [a] _ _ c v p ⟨rfl,rfl⟩ ζ (by show 1<=1000;decide) (kw.turn o) (st.trans (fc.same st.wt e)) (i.same e) b (.cons er .nil) ao (fc.free st hp) (rC st.wt x hp).2
end
structure TxS(K:aD)(X:Cs)(aW:AI):Prop where
 w:lW K X
 iy:Lj K aW
 Zci:cQ K aW "room"
 Zcj:cQ K aW "kind"
 Lz:cQ K aW "hands"
 Xn:cQ K aW "rows"
inductive vq(C:AI)(p:AI)(m:Int)(kd:AI)(hl:AI)(rl:AI)(H:Hp)(Q:VK):Prop
 | mk (dx xs ys) (_:H p=some (.ins C dx [])) (_:H hl=some (.lst xs)) (_:H rl=some (.lst ys)) (_:∀H' h2 r2,H' p=some (.ins C dx (pK m kd h2 r2))->H' h2=some (.lst xs)->H' r2=some (.lst ys)->(∀b o,H b=some o->b≠p->H' b=some o)->H h2=none->H r2=none->h2≠r2->Q .non H'):vq C p m kd hl rl H Q
def iB(C:AI):Sp:=λvs H Q E=>∃p m kd hl rl,vs=[.ref p,.int m,.ref kd,.ref hl,.ref rl]/\vq C p m kd hl rl H Q
def LgH(H:Hp)(ps:AF)(c:List (List Rz)):Prop:=Al (λb a=>∃as:AF,H b=some (.lst (as.map V.ref))/\Al (EvH H) as a) ps c
def LgR(a H:Hp)(T:Tg)(s:Nat)(ps:AF)(d:List (List Rz)):Prop:=Al (λb c=>∃as:AF,H b=some (.lst (as.map V.ref))/\a b=none/\TgO s (T b)/\Al (Rj a H T s) as c) ps d
def JN(a:List (List Rz)):Bool:=match a.getLast? with
 | some b=>ig b
 | none=>false
theorem Pb(b:List (List Rz))(a:List Rz):JN (b++[a])=ig a:=by
 unfold JN;rw[List.getLast?_concat]
theorem EvH.same{H H':Hp}{a:AI}{x:Rz}(h:EvH H a x)(s:bx H H'):EvH H' a x:=by
 obtain⟨l,h1,h2⟩:=h;exact⟨l,s _ _ h1,s _ _ h2⟩
theorem LgH.same{H H':Hp}{ps:AF}{c:List (List Rz)}(h:LgH H ps c)(s:bx H H'):LgH H' ps c:=h.mono (by rintro b d ⟨as,h1,h2⟩;exact⟨as,s _ _ h1,h2.mono λa x z=>EvH.same z s⟩)
theorem LgR.h{d H:Hp}{T:Tg}{s:Nat}{ps:AF}{c:List (List Rz)}(h:LgR d H T s ps c):LgH H ps c:=h.mono (by rintro b e ⟨as,h1,_,_,h2⟩;exact⟨as,h1,h2.mono λa x z=>Rj.h z⟩)
theorem LgR.mv{d H H':Hp}{T T':Tg}{s:Nat}{ps:AF}{e:List (List Rz)}(h:LgR d H T s ps e)(c:s≠0)(st:fc s H H' T T'):LgR d H' T' s ps e:=h.mono (by rintro b g ⟨as,h1,f,t,h2⟩;exact⟨as,st.kp _ _ h1 (t.ne c),f,by rw[st.tg _ _ h1];exact t,h2.mono λa x z=>Rj.mv c z st⟩)
theorem LgR.put{c H:Hp}{T:Tg}{s:Nat}{ps:AF}{d:List (List Rz)}{p:AI}{o e:HO}{xs:List V}(h:LgR c H T s ps d)(hp:c p=some e)(hl:H p=some (.lst xs)):LgR c (upd H p o) T s ps d:=h.mono (by rintro b g ⟨as,h1,f,t,h2⟩;exact⟨as,by rw[aA λz=>by rw[z,hp]at f;cases f];exact h1,f,t,h2.mono λa x z=>Rj.put z hp hl⟩)
inductive QV(p:AI)(H:Hp)(Q:VK):Prop
 | mk (ps lg) (_:H p=some (.lst (ps.map V.ref))) (_:LgH H ps lg) (_:Q (.bl (JN lg)) H):QV p H Q
def lU:Sp:=λvs H Q E=>∃p,vs=[.ref p]/\QV p H Q
inductive Ii(CS:AI)(X:Cs)(sc:AI)(H:Hp)(Q:VK):Prop
 | mk (T s dx m kd hl rl lk w t hs) (_:H sc=some (.ins CS dx (pK m kd hl rl))) (_:KdO X H kd lk w t) (_:HsO H hl hs) (_:HsB hs) (_:WT H T) (_:s≠0) (_:T kd=(0,0)) (_:T lk=(0,0)) (_:∀H' T' A,bx H H'->(∀b o,H b=some o->T' b=T b)->WT H' T'->WJ X H' T' s A (wV m hs w t)->Q (.ref A.wo) H'):Ii CS X sc H Q
def Wo(a:AI)(X:Cs):Sp:=λvs H Q E=>∃sc,vs=[.ref sc]/\Ii a X sc H Q
inductive Zsv(CS:AI)(X:Cs)(sc:AI)(most:Option Nat)(H:Hp)(Q:VK):Prop
 | mk (dx m kd hl rl lk w t hs) (rs:List Bo) (_:H sc=some (.ins CS dx (pK m kd hl rl))) (_:KdO X H kd lk w t) (_:0<=t) (_:t<4) (_:HsO H hl hs) (_:HsB hs) (_:RwL H rl rs) (_:rs.length<=700) (_:(∀r∈rs,okW hs r)) (_:∀H' p ps lg M',bx H H'->qi (wV m hs w t) (rs.take (most.getD rs.length)) lg M'->H' p=some (.lst (ps.map V.ref))->LgH H' ps lg->H p=none->Q (.ref p) H'):Zsv CS X sc most H Q
def oN:Option Nat->V
 | none=>.non
 | some k=>.int k
def Wq(b:AI)(X:Cs):Sp:=λvs H Q E=>∃sc v,vs=[.ref sc,v]/\∃a,v=oN a/\Zsv b X sc a H Q
theorem Nl.new{m:Int}{hs:uz}{w t:Int}:Nl (wV m hs w t):=⟨by show ¬("rest":Str)="lost";decide,rfl⟩
section
variable {K:aD}{X:Cs}{aW:AI}{H:Hp}{Q:VK}{E:XK}{n:μ}{bk ct:μ}
theorem GD{p kd hl rl:AI}{m:Int}(T:TxS K X aW)(q:vq aW p m kd hl rl H Q):
  qI K ⟨λ_ H'=>Q .non H',Q,bk,ct⟩ [↑p,some (.int m),↑kd,↑hl,↑rl] H:=by
 obtain⟨n,u,v,hp,s,hr,h⟩:=q;have t:hl≠p:=λe=>by rw[e,hp]at s;cases s
 have f:rl≠p:=λe=>by rw[e,hp]at hr;cases hr
 unfold qI;exists p,aW,n,[],rfl,hp,T.iy,T.Zci,ε;apply⟨p,aW,n,_,rfl,ao,T.iy,T.Zcj,by show 1<1000;decide,?_⟩;rw[dB];apply LK (cJ.of (by rw[aA t];exact s)) λh2 a=>?_;have l:p≠h2:=λe=>by rw[<- e,ao]at a;cases a
 apply⟨p,aW,n,_,rfl,by rw[aA l];exact ao,T.iy,T.Lz,by show 2<1000;decide,?_⟩;ext;have d:h2≠p:=Ne.symm l;have r:rl≠h2:=λe=>by rw[<- e,aA f,hr]at a;cases a
 refine LK (cJ.of (by rw[aA f,aA r,aA f];exact hr)) λr2 c=>?_;have k:p≠r2:=λe=>by rw[<- e,ao]at c;cases c
 have i:r2≠p:=Ne.symm k;have g:h2≠r2:=λe=>by rw[<- e,aA d,ao]at c;cases c
 apply⟨p,aW,n,_,rfl,by rw[aA k];exact ao,T.iy,T.Xn,by show 3<1000;decide,?_⟩;refine h _ h2 r2 ?_ ?_ ?_ (λb o hb j=>?_) (by rw[aA d]at a;exact a) (by rw[aA i,aA (Ne.symm g),aA i]at c;exact c) g
 ·rw[ao,Zgh]
 ·rw[aA d,aA g,aA d,ao]
 ·rw[aA i,ao]
 ·have n1:b≠h2:=λe=>by rw[<- e,aA j,hb]at a;cases a
  have n2:b≠r2:=λe=>by rw[<- e,aA j,aA n1,aA j,hb]at c;cases c
  rw[aA j,aA n2,aA j,aA n1,aA j];exact hb
theorem Zcy{p:AI}(q:QV p H Q):Nm K Mf ν [↑p] H:=by
 obtain⟨d,f,hp,al,h⟩:=q;have hl:=al.length;unfold Nm;apply eO (cJ.of hp) ?_;rw[bA];ext;rcases List.eq_nil_or_concat f with rfl | ⟨e,x,rfl⟩
 ·have:d=[]:=List.length_eq_zero_iff.mp hl;subst this;rw[if_neg ε];exact h
 ·rw[List.concat_eq_append]at hl al h;rcases List.eq_nil_or_concat d with rfl | ⟨bs,a,rfl⟩
  ·rw[List.length_append]at hl;cases hl
  rw[List.concat_eq_append]at hl al hp ⊢;rw[List.length_append,List.length_append]at hl;have m:[x].length=1:=rfl;have l:[a].length=1:=rfl;obtain⟨k,b,c,g,j⟩:=Al.get al (i:=e.length) (y:=x) (by rw[List.getElem?_append_right Δ,Nat.sub_self];rfl);rw[show e.length=bs.length by omega,List.getElem?_append_right Δ,Nat.sub_self]at b;cases b;rw[List.length_append,if_pos (decide_eq_true (by show(0:Int)<((bs.length+1:Nat):Int);omega))];apply eF (v:=.ref a) (cJ.of hp) (by rw[List.map_append];exact Zb4 _ _) ?_;ext;rw[Pb]at h;exact⟨a,rfl,c,x,g,j,h⟩
theorem Y9{sc:AI}(TT:TxS K X aW)(q:Ii aW X sc H Q):
  Jr K X.W (GK X) ν [↑sc] H:=by
 obtain⟨T,s,L,m,kd,hl,rl,lk,w,t,hs,o,kk,k,hb,wt,F,tk,tl,h⟩:=q;obtain⟨r,C,p⟩:=id k;obtain⟨⟨d1,g⟩,⟨d2,ol⟩⟩:=id kk;unfold Jr;apply aH o TT.iy TT.Zci xm ?_;apply aH o TT.iy TT.Zcj xq ?_;apply aH o TT.iy TT.Lz nU ?_;ext;intro x j nx f ne;have c:bx H (upd (upd H j (.own x)) x (.ins X.W j [])):=λb o hb=>by rw[aA (aF hb nx),aA (aF hb f)];exact hb
 have d:lk≠x:=by
  rcases ol with ⟨_,e⟩ | ⟨_,e⟩ | ⟨_,e⟩<;>exact aF e nx
 have n5:=hb.n5;refine⟨x,m,kd,hl,rfl,j,T,s,lk,w,t,r,hs,ao,wt.same c,F,kk.same c,tk,tl,aF g nx,d,c _ _ C,Zpu p.length λi a y D l=>?_,δ,λv I A u t2 B aw E=>⟨rfl,?_⟩⟩
 ·obtain⟨J,e3,z⟩:=p.get l;rw[D]at e3;cases e3;have:=hb.sb y (List.mem_of_getElem? l);exact⟨c _ _ z,δ,δ⟩
 ·have:=h v I A (λb o hb=>u b o (c b o hb) (aF hb nx)) (λb o hb=>t2 b o (c b o hb) (aF hb nx)) B E;rw[aw]at this;exact this
theorem Zqb{sc:AI}{v:V}(TT:TxS K X aW)(q:∃d,v=oN d/\Zsv aW X sc d H Q):
  Zj3 K lU (Zfu X) (Wo aW X) ν [↑sc,some v,none,none,none] H:=by
 obtain⟨d,rfl,dx,m,kd,hl,rl,lk,w,t,hs,rs,o,kk,t0,t1,hls,hb,⟨j,hr,len,hrow⟩,h1,rok,h⟩:=q;unfold Zj3;apply⟨sc,rfl,λ_=>(0,0),1,dx,m,kd,hl,rl,lk,w,t,hs,o,kk,hls,hb,λ_ _=>rfl,ε,rfl,rfl,λH1 T1 A s1 tg1 wt1 j1=>?_⟩;apply⟨ε,λp hp=>?_⟩;have D:fc 7 H1 (upd H1 p (.lst [])) T1 (fX T1 p (7,0)):=fc.fresh wt1 hp;have j2:=j1.other D ε ε;have s2:=s1.trans (aM hp (.lst []));have tp2:fX T1 p (7,0) p=(7,0):=eZ;have tg2:∀b o,H b=some o->fX T1 p (7,0) b=(0,0):=λb o hb=>by rw[D.tg _ _ (s1 _ _ hb)];exact tg1 b o hb
 have c2:upd H1 p (.lst []) p=some (.lst (([]:AF).map V.ref)):=ao;have fp:H p=none:=s1.free hp;have M:=D.wt;generalize fX T1 p (7,0)=T2 at D j2 tp2 tg2 M;generalize upd H1 p (.lst [])=H2 at D j2 s2 c2 M ⊢;apply aH (s2 _ _ o) TT.iy TT.Xn pJ ?_;ext;have cut:∃hi:AA,((oN d=.non/\hi=none)\/∃i,oN d=.int i/\hi=some i)/\Yx (j.map V.ref) none hi=(j.take (d.getD rs.length)).map V.ref:=by
  cases d with
  | none=>
   refine⟨none,.inl ⟨rfl,rfl⟩,?_⟩;unfold Yx;rw[show HT.Jp (j.map V.ref).length 0 none=0 from rfl,show HT.Jp (j.map V.ref).length (j.map V.ref).length none=(j.map V.ref).length from rfl,List.drop_zero,Nat.sub_zero,List.take_length];show _=(j.take rs.length).map V.ref;rw[<- len,List.take_length]
  | some k=>
   refine⟨some k,.inr ⟨_,rfl,rfl⟩,?_⟩;unfold Yx;rw[HT.Ziz,List.drop_zero,Nat.sub_zero];show _=(j.take k).map V.ref;have:HT.Jp (j.map V.ref).length (j.map V.ref).length (some (k:Int))=min k j.length:=by
    rw[bA];simp only[HT.Jp];rw[if_neg δ];omega
   rw[this,List.map_take];rcases Nat.le_total k j.length with z | z
   ·rw[Nat.min_eq_left z]
   ·rw[Nat.min_eq_right z,List.take_of_length_le (by rw[bA];exact Nat.le_refl _),List.take_of_length_le (by rw[bA];exact z)]
 obtain⟨hi,ehi,Zsf⟩:=cut;have key:∀R:VK,Zgk K (.ref rl) none hi H2 R->(oN d=.non/\Zgk K (.ref rl) none none H2 R)\/∃i,oN d=.int i/\Zgk K (.ref rl) none (some i) H2 R:=λR Z=>by
  rcases ehi with ⟨e1,e2⟩ | ⟨i,e1,e2⟩
  ·rw[e2]at Z;exact .inl ⟨e1,Z⟩
  ·rw[e2]at Z;exact .inr ⟨i,e1,Z⟩
 refine key _ ?_;refine⟨rl,_,rfl,cJ.of (s2 _ _ hr),λql hq=>?_⟩;rw[Zsf];have okt:∀r∈rs.take (d.getD rs.length),okW hs r:=λr hr=>rok r (List.mem_of_mem_take hr);have W:∀(i:Nat) a,(j.take (d.getD rs.length))[i]? =some a->∃r,(rs.take (d.getD rs.length))[i]? =some r/\H a=some (.tup (rV r)):=λi a ha=>by
  have hi:i<d.getD rs.length:=by
   have:=(dj ha).1;rw[List.length_take]at this;omega
  rw[List.getElem?_take_of_lt hi]at ha ⊢;exact hrow i a ha
 have E:(j.take (d.getD rs.length)).length=(rs.take (d.getD rs.length)).length:=by rw[List.length_take,List.length_take,len]
 have Zvq:(j.take (d.getD rs.length)).length<=700:=by rw[List.length_take];omega
 generalize rs.take (d.getD rs.length)=rt at okt W E h;generalize j.take (d.getD rs.length)=at' at W E Zvq ⊢;generalize zz:upd H2 ql _=H3;obtain⟨s3,c3⟩:=nwO hq zz;have tq:T2 ql=(0,0):=M ql hq;have cp3:=s3 _ _ c2;have j3:=j2.same s3;have wt3:=M.same s3;have s03:=s2.trans s3;have k0:KW (wV m hs w t) hs 0:=KW.new t0 t1;refine⟨ql,rfl,⟨_,cJ.of c3⟩,forL (at'.map V.ref) (λi σ u=>∃O Ax N s F v4,σ=[↑sc,some (oN d),↑A.wo,↑p,v4]/\bx H u/\(∀b o,H b=some o->O b=(0,0))/\(u ql=some (.lst (at'.map V.ref))/\O ql=(0,0))/\WT u O/\WJ X u O 1 Ax N/\Ax.wo=A.wo/\KW N hs i/\Nl N/\(u p=some (.lst (s.map V.ref))/\O p=(7,0))/\LgR H3 u O 1 s F/\F.length<=i/\(∀b o,H3 b=some o->∃o',u b=some o')/\∀y C S,qi N y C S->qi (wV m hs w t) (rt.take i++y) (F++C) S) ⟨T2,A,_,[],[],none,rfl,s03,tg2,⟨c3,tq⟩,wt3,j3,rfl,k0,Nl.new,⟨cp3,tp2⟩,.nil,Nat.le_refl _,λb o hb=>⟨o,hb⟩,λy C S h=>h⟩ (by rintro i σ u _ ⟨_,_,_,_,_,_,_,_,_,⟨c,_⟩,_⟩;exact cJ.of c) ?_ ?_⟩
 ·rintro i v σ u hv ⟨O,Ax,N,s,F,v4,rfl,sx,J,⟨cq,L⟩,wtx,jx,aw,kx,nl,⟨cp,T⟩,I,hlg,al,co⟩;rw[cL]at hv;obtain⟨a,ha,rfl⟩:=Option.map_eq_some_iff.mp hv;obtain⟨r,er,hd⟩:=W i a ha;have hi:=(dj ha).1;have et:rt.take (i+1)=rt.take i++[r]:=by rw[List.take_add_one,er];rfl
  exists .inl ⟨rfl,_,cJ.of cp⟩;apply⟨A.wo,a,rfl,O,1,Ax,N,r,hs,i,wtx,ε,jx,aw,sx _ _ hd,okt r (List.mem_of_getElem? er),kx,hb,δ,nl,λY as' S Hy Ty Ay b rr ne le kw' g jy awy ev hbb fb tb=>?_⟩;have U:=g.kp _ _ cp (by rw[T];decide);have tpy:Ty p=(7,0):=by rw[g.tg _ _ cp];exact T
  have lps:s.length=F.length:=I.length;apply⟨p,_,_,rfl,rfl,U,by rw[bA,sizeLine_eq];omega,?_⟩;have B:fc 7 Hy (upd Hy p (.lst (s.map V.ref++[.ref b]))) Ty Ty:=fc.upd g.wt U (by rw[tpy]);have jz:=jy.other B ε ε;have fr3:∀c,u c=none->H3 c=none:=λc hc=>by
   cases z:H3 c with
   | none=>rfl
   | some o=>obtain⟨o',e⟩:=al c o z;rw[hc]at e;cases e
  have P:LgR H3 (upd Hy p (.lst (s.map V.ref++[.ref b]))) Ty 1 (s++[b]) (F++[Y]):=LgR.put (Al.app (I.mv ε g) ⟨as',hbb,fr3 _ fb,tb,ev.mono (by rintro a x ⟨l,f,h⟩;exact⟨l,fr3 _ f,h⟩)⟩) cp3 U;have cz:upd Hy p (.lst (s.map V.ref++[.ref b])) p=some (.lst ((s++[b]).map V.ref)):=by rw[ao,List.map_append];rfl
  have sxz:bx H (upd Hy p (.lst (s.map V.ref++[.ref b]))):=λc o hc=>B.kp _ _ (g.kp _ _ (sx _ _ hc) (by rw[J c o hc];decide)) (by rw[g.tg _ _ (sx _ _ hc),J c o hc];decide);exists p,rfl,s++[b],F++[Y],cz,P.h;rw[Pb];refine⟨ig Y,rfl,?_⟩;cases z:ig Y with
  | true=>
   ext;have rn:=co (r::rt.drop (i+1)) [Y] S (.lost rr z);have ed:rt.take i++r::rt.drop (i+1)=rt:=by
    have:=List.take_append_drop (i+1) rt;rw[et,List.append_assoc]at this;exact this
   rw[ed]at rn;exact h _ p _ _ S sxz rn cz P.h fp
  | false=>
   ext;have cqy:=g.kp _ _ cq (by rw[L];decide);refine⟨Ty,Ay,S,s++[b],F++[Y],_,rfl,sxz,λc o hc=>by rw[g.tg _ _ (sx _ _ hc)];exact J c o hc,⟨B.kp _ _ cqy (by rw[g.tg _ _ cq,L];decide),by rw[g.tg _ _ cq];exact L⟩,B.wt,jz,awy,kw',(rr.nl nl z),⟨cz,tpy⟩,P,by rw[List.length_append];show _+1<=_;omega,λc o hc=>?_,λy C M'' Z=>?_⟩
   ·obtain⟨o1,e1⟩:=al c o hc;obtain⟨o2,e2⟩:=g.al c o1 e1;exact B.al c o2 e2
   ·rw[et,List.append_assoc,List.append_assoc];exact co (r::y) (Y::C) M'' (.go rr z Z)
 ·rintro σ u ⟨O,Ax,N,s,F,v4,rfl,sx,J,⟨cq,L⟩,wtx,jx,aw,kx,nl,⟨cp,T⟩,I,hlg,al,co⟩;ext;have rn:=co [] [] N (.nil N);rw[List.append_nil,List.append_nil,bA,E,List.take_length]at rn;exact h u p s F N sx rn cp I.h fp
end
structure TB(w0:Int)(M:Wm):Prop where
 bu:∀i j c d,cellAt M i=some c->cellAt M j=some d->c.birth=d.birth->i=j
 bn:∀i c,cellAt M i=some c->1<=c.birth/\c.birth<=M.born
 b0:0<=M.born
 se:M.sw.sense=0\/M.sw.sense=1
 tn:∀i c,cellAt M i=some c->c.tone=0\/c.tone=1
 rs:M.sw.phase="rest"->∀i c,cellAt M i=some c->c.tone=M.sw.sense
 gv:M.sw.phase="give"->∀i c,cellAt M i=some c->c.tone≠M.sw.sense->M.sw.at'<=i/\i<M.sw.stop
 ww:M.w=w0
structure Sb(M M':Wm):Prop where
 ce:∀i,(cellAt M' i).map (·.birth)=(cellAt M i).map (·.birth)
 tn:∀i c c',cellAt M i=some c->cellAt M' i=some c'->c'.tone=c.tone\/(M.sw.phase="walk"/\c'.tone=M.sw.sense)
 bn:M'.born=M.born
 se:M'.sw.sense=M.sw.sense
 ph:M'.sw.phase=M.sw.phase
 at_:M'.sw.at'=M.sw.at'
 st:M'.sw.stop=M.sw.stop
 ww:M'.w=M.w
section
variable {M M':Wm}{w0:Int}
theorem Sb.get(h:Sb M M'){i:Int}{c':Ce}(e:cellAt M' i=some c'):∃c,cellAt M i=some c/\c'.birth=c.birth/\(c'.tone=c.tone\/(M.sw.phase="walk"/\c'.tone=M.sw.sense)):=by
 have h1:=h.ce i;rw[e]at h1;cases hc:cellAt M i with
 | none=>rw[hc]at h1;cases h1
 | some c=>
  rw[hc]at h1;exact⟨c,rfl,Option.some.inj h1,h.tn i c c' hc e⟩
theorem Sb.nj(h:M'.cells=M.cells)(bn:M'.born=M.born)(se:M'.sw.sense=M.sw.sense)(ph:M'.sw.phase=M.sw.phase)(at_:M'.sw.at'=M.sw.at')(st:M'.sw.stop=M.sw.stop)(ww:M'.w=M.w):Sb M M':=by
 have e:∀i,cellAt M' i=cellAt M i:=λi=>by unfold cellAt;rw[h]
 exact⟨λi=>by rw[e],λi c a h1 h2=>by rw[e,h1]at h2;cases h2;exact .inl rfl,bn,se,ph,at_,st,ww⟩
theorem Sb.refl(M:Wm):Sb M M:=Sb.nj rfl rfl rfl rfl rfl rfl rfl
theorem Sb.trans{d:Wm}(a:Sb M M')(b:Sb M' d):Sb M d:=by
 refine⟨λi=>(b.ce i).trans (a.ce i),λi c g h1 h2=>?_,b.bn.trans a.bn,b.se.trans a.se,b.ph.trans a.ph,b.at_.trans a.at_,b.st.trans a.st,b.ww.trans a.ww⟩;obtain⟨f,e,_,h4⟩:=b.get h2;have h5:=a.tn i c f h1 e;rw[a.ph,a.se]at h4;rcases h4 with h4 | h4
 ·rcases h5 with h5 | h5
  ·exact .inl (h4.trans h5)
  ·exact .inr ⟨h5.1,h4.trans h5.2⟩
 ·exact .inr h4
theorem Sb.slot(M:Wm)(h s:Nat)(x:AA):Sb M (setSlot M h s x):=Sb.nj rfl rfl rfl rfl rfl rfl rfl
theorem Sb.cell{i:Int}{c c':Ce}(h:cellAt M i=some c)(hb:c'.birth=c.birth)(a:c'.tone=c.tone\/(M.sw.phase="walk"/\c'.tone=M.sw.sense)):Sb M (setCell M i c'):=by
 refine⟨λx=>?_,λx d b h1 h2=>?_,rfl,rfl,rfl,rfl,rfl,rfl⟩
 ·rw[cN h]
  by_cases e:x=i
  ·subst e;rw[if_pos rfl,h];exact congrArg some hb
  ·rw[if_neg e]
 ·rw[cN h]at h2
  by_cases e:x=i
  ·subst e;rw[if_pos rfl]at h2;rw[h]at h1;cases h1;cases h2;exact a
  ·rw[if_neg e,h1]at h2;cases h2;exact .inl rfl
theorem Sb.note(M:Wm)(x:AA):Sb M (bI M x).2:=by
 cases x with
 | none=>exact Sb.refl M
 | some i=>
  unfold bI;dsimp only;cases hc:cellAt M i with
  | none=>exact Sb.refl M
  | some c=>
   dsimp only;split
   ·rename_i z
    exact(Sb.cell (c':={ c with tone:=M.sw.sense }) hc rfl (.inr ⟨z.1,rfl⟩)).trans (Sb.nj rfl rfl rfl rfl rfl rfl rfl)
   ·exact Sb.refl M
theorem Sb.notes:∀(l:Au) (M:Wm),Sb M (aQ M l).2
 | [],M=>Sb.refl M
 | x::l,M=>(Sb.note M x).trans (Sb.notes l _)
theorem Sb.nh(a:Int):∀(l:List (Str×Au)) (j:Nat) (M:Wm),Sb M (fP a l j M).2
 | [],_,M=>Sb.refl M
 | m::l,j,M=>by
  unfold fP;split
  ·exact(Sb.notes m.2 M).trans (Sb.nh a l (j+1) _)
  ·exact Sb.nh a l (j+1) M
theorem TB.sb(p:TB w0 M)(h:Sb M M'):TB w0 M':=by
 refine⟨λi j c d h1 h2 e=>?_,λi c h1=>?_,by rw[h.bn];exact p.b0,by rw[h.se];exact p.se,λi c h1=>?_,λph i c h1=>?_,λph i c h1 g=>?_,by rw[h.ww];exact p.ww⟩
 ·obtain⟨a,b,f,_⟩:=h.get h1;obtain⟨l,k,m,_⟩:=h.get h2;exact p.bu i j a l b k (by rw[<- f,<- m];exact e)
 ·obtain⟨a,b,f,_⟩:=h.get h1;rw[f,h.bn];exact p.bn i a b
 ·obtain⟨a,b,_,t1⟩:=h.get h1;rcases t1 with t1 | t1
  ·rw[t1];exact p.tn i a b
  ·rw[t1.2];exact p.se
 ·obtain⟨a,b,_,t1⟩:=h.get h1;rw[h.ph]at ph;rw[h.se];rcases t1 with t1 | t1
  ·rw[t1];exact p.rs ph i a b
  ·exact t1.2
 ·obtain⟨a,b,_,t1⟩:=h.get h1;rw[h.ph]at ph;rw[h.se]at g;rw[h.at_,h.st];rcases t1 with t1 | t1
  ·exact p.gv ph i a b (by rw[<- t1];exact g)
  ·exact absurd t1.2 g
theorem dO{x u b:Int}{c d:Ce}(h:cellAt { M with used:=u,born:=b,cells:=ji M.cells c } x=some d):(x=iD M.cells/\d=c)\/cellAt M x=some d:=by
 obtain⟨g,h1⟩:=cF.mp h;have h1:(ji M.cells c)[x.toNat]? =some (some d):=h1
 by_cases z:x.toNat=iD M.cells
 ·rw[z,Lr]at h1;cases h1;exact .inl ⟨δ,rfl⟩
 ·refine .inr (cF.mpr ⟨g,?_⟩);unfold ji at h1;split at h1
  ·rw[List.getElem?_set_ne (λe=>z e.symm)]at h1;exact h1
  ·rename_i y
   rw[List.getElem?_append]at h1;split at h1
   ·exact h1
   ·rename_i i
    have a:=(dj h1).1;have f:=Ys M.cells;have:x.toNat - M.cells.length<1:=a;omega
theorem TB.put(p:TB w0 M){u:Int}{c:Ce}(hb:c.birth=M.born+1)(b:c.tone=M.sw.sense):TB w0 { M with used:=u,born:=M.born+1,cells:=ji M.cells c }:=by
 have b0:=p.b0;refine⟨λi j d e h1 h2 f=>?_,λi d h1=>?_,by show 0<=M.born+1;omega,p.se,λi d h1=>?_,λph i d h1=>?_,λph i d h1 hp=>?_,p.ww⟩
 ·rcases dO h1 with ⟨z1,a⟩ | z1
  ·rcases dO h2 with ⟨y1,g⟩ | y1
   ·rw[z1,y1]
   ·have:=p.bn j e y1;rw[a,hb]at f;omega
  ·rcases dO h2 with ⟨y1,g⟩ | y1
   ·have:=p.bn i d z1;rw[g,hb]at f;omega
   ·exact p.bu i j d e z1 y1 f
 ·show 1<=d.birth/\d.birth<=M.born+1;rcases dO h1 with ⟨z1,a⟩ | z1
  ·rw[a,hb];omega
  ·have:=p.bn i d z1;omega
 ·rcases dO h1 with ⟨z1,a⟩ | z1
  ·rw[a,b];exact p.se
  ·exact p.tn i d z1
 ·rcases dO h1 with ⟨z1,a⟩ | z1
  ·rw[a];exact b
  ·exact p.rs ph i d z1
 ·rcases dO h1 with ⟨z1,a⟩ | z1
  ·rw[a]at hp;exact absurd b hp
  ·exact p.gv ph i d z1 hp
theorem Zop{d:iV}{e:Ev}(h:g8 M d=.ok (e,M')):(∃b s a bulk,d=.make b s a bulk/\e=⟨"made",some (M.born+1),[]⟩/\∃u,Sb { M with used:=u,born:=M.born+1,cells:=ji M.cells ⟨M.born+1,bulk,M.sw.sense,0,List.replicate a.toNat none⟩ } M')\/((∀b s a bulk,d≠.make b s a bulk)/\Sb M M'):=by
 cases d with
 | make b s a bulk=>
  simp only[g8]at h;split at h
  ·right;exact .inl ⟨b,s,a,bulk,rfl,(Prod.mk.inj h2).1.symm,_,Sb.slot _ _ _ _⟩
  ·cases h
 | get b s t f=>
  simp only[g8]at h;split at h
  ·cases h
  ·split at h
   ·cases h
   ·split at h
    ·cases h
    ·right;exact .inr ⟨λ_ _ _ _ z=>(nomatch z),(Sb.slot _ _ _ _)⟩
 | put b t f s=>
  simp only[g8]at h;split at h
  ·cases h
  ·split at h
   ·cases h
   ·rename_i c hc
    split at h
    ·cases h
    ·right;exact .inr ⟨λ_ _ _ _ z=>(nomatch z),((Sb.cell (c':={ c with fl:=c.fl.set f (aR M b s) }) hc rfl (.inl rfl)).trans (Sb.notes _ _))⟩
 | copy b s t=>
  right;exact .inr ⟨λ_ _ _ _ z=>(nomatch z),(Sb.slot _ _ _ _)⟩
 | drop b s=>
  right;exact .inr ⟨λ_ _ _ _ z=>(nomatch z),(Sb.slot _ _ _ _)⟩
 | give b s g t=>
  right;exact .inr ⟨λ_ _ _ _ z=>(nomatch z),((Sb.slot _ _ _ _).trans (Sb.notes _ _))⟩
 | write b t l=>
  simp only[g8]at h;split at h
  ·cases h
  ·split at h
   ·cases h
   ·rename_i c hc
    right;exact .inr ⟨λ_ _ _ _ z=>(nomatch z),(Sb.cell (c':={ c with load:=l }) hc rfl (.inl rfl))⟩
 | read b t=>
  simp only[g8]at h;split at h
  ·cases h
  ·split at h
   ·cases h
   ·right;exact .inr ⟨λ_ _ _ _ z=>(nomatch z),Sb.refl _⟩
 | name b t z=>
  simp only[g8]at h;split at h
  ·cases h
  ·split at h
   ·cases h
   ·right;exact .inr ⟨λ_ _ _ _ z=>(nomatch z),(Sb.nj rfl rfl rfl rfl rfl rfl rfl)⟩
 | seek b s z=>
  simp only[g8]at h;split at h
  ·cases h
  ·split at h
   ·right;exact .inr ⟨λ_ _ _ _ z=>(nomatch z),(Sb.slot _ _ _ _)⟩
   ·right;exact .inr ⟨λ_ _ _ _ z=>(nomatch z),((Sb.slot _ _ _ _).trans (Sb.notes _ _))⟩
theorem TB.deed(p:TB w0 M){d:iV}{e:Ev}(h:g8 M d=.ok (e,M')):TB w0 M':=by
 rcases Zop h with ⟨_,_,_,_,_,_,_,s⟩ | ⟨_,s⟩
 ·exact(TB.put p rfl rfl).sb s
 ·exact p.sb s
theorem TB.step(p:TB w0 M){lb:Int}{lw:AE}{e:Ev}(h:lH lb lw M e M'):TB w0 M':=by
 cases h with
 | begin ph=>
  refine TB.sb ?_ (Sb.nh _ _ _ _);obtain⟨a1,a2,b,l,k,o,m,f⟩:=p;exact⟨a1,a2,b,by show 1 - M.sw.sense=0\/1 - M.sw.sense=1;omega,k,λz=>absurd z (show ¬ ("walk":Str)="rest" by decide),λz=>absurd z (show ¬ ("walk":Str)="give" by decide),f⟩
 | walk x g c ph s hc=>
  have a:Sb M { M with sw:={ M.sw with grey:=g,walks:=M.sw.walks+1 } }:=Sb.nj rfl rfl rfl rfl rfl rfl rfl;exact p.sb (a.trans (Sb.notes c.fl _))
 | look N ph s I E=>
  subst E;exact p.sb ((Sb.nh _ _ _ _).trans (Sb.nj rfl rfl rfl rfl rfl rfl rfl))
 | cut q y ph s C B t=>
  obtain⟨a1,a2,b,l,k,o,m,f⟩:=p;exact⟨a1,a2,b,l,k,λz=>absurd z (show ¬ ("give":Str)="rest" by decide),λ_ i c hc _=>Ie (M:=M) hc,f⟩
 | lost q y i x c v ph s C B hx t hc n=>
  obtain⟨a1,a2,b,l,k,o,m,f⟩:=p;exact⟨a1,a2,b,l,k,λz=>absurd z (show ¬ ("lost":Str)="rest" by decide),λz=>absurd z (show ¬ ("lost":Str)="give" by decide),f⟩
 | pass ph lt hp=>
  obtain⟨a1,a2,b,l,k,o,m,f⟩:=p;refine⟨a1,a2,b,l,k,o,λ_ i c hc n=>?_,f⟩;have h1:=m ph i c hc n;have h2:i≠M.sw.at':=λz=>n (hp c (by rw[<- z];exact hc));show M.sw.at'+1<=i/\i<M.sw.stop;omega
 | back c ph lt hc n=>
  obtain⟨a1,a2,b,l,k,o,m,f⟩:=p;have r:∀(u:Int) (w:Sw) (i:Int) (d:Ce),cellAt { M with used:=u,cells:=M.cells.set M.sw.at'.toNat none,sw:=w } i=some d->i≠M.sw.at'/\cellAt M i=some d:=λu w i d hd=>by
   obtain⟨D,h1⟩:=cF.mp hd;have h1:(M.cells.set M.sw.at'.toNat none)[i.toNat]? =some (some d):=h1;obtain⟨H,A⟩:=cF.mp hc
   by_cases z:M.sw.at'.toNat=i.toNat
   ·rw[z,List.getElem?_set_self (by rw[<- z];exact(dj A).1)]at h1;cases h1
   ·rw[List.getElem?_set_ne z]at h1;exact⟨λe=>z (by rw[e]),cF.mpr ⟨D,h1⟩⟩
  refine⟨λi j d e h1 h2 F=>a1 i j d e (r _ _ i d h1).2 (r _ _ j e h2).2 F,λi d h1=>a2 i d (r _ _ i d h1).2,b,l,λi d h1=>k i d (r _ _ i d h1).2,λz=>absurd (ph.symm.trans z) ε,λ_ i d h1 hp=>?_,f⟩;obtain⟨n1,n2⟩:=r _ _ i d h1;have J:=m ph i d n2 hp;show M.sw.at'+1<=i/\i<M.sw.stop;omega
 | fin ph lt=>
  obtain⟨a1,a2,b,l,k,o,m,f⟩:=p;refine⟨a1,a2,b,l,k,λ_ i c hc=>?_,λz=>absurd z (show ¬ ("rest":Str)="give" by decide),f⟩;refine Decidable.byContradiction λn=>?_;have h1:=m ph i c hc n;omega
 | again ph=>exact p
theorem TB.new{room:Int}{hs:uz}{w t:Int}:TB w (wV room hs w t):=by
 have e:∀i c,cellAt (wV room hs w t) i=some c->False:=λi c h=>nomatch qe h;exact⟨λi _ c _ h=>(e i c h).elim,λi c h=>(e i c h).elim,Int.le_refl _,.inl rfl,λi c h=>(e i c h).elim,λ_ i c h=>(e i c h).elim,λ_ i c h=>(e i c h).elim,rfl⟩
end
def nhL(a:Int):List (Str×Au)->Nat->Au
 | [],_=>[]
 | m::l,k=>if a / 2 ^ k % 2=1 then m.2++nhL a l (k+1)else nhL a l (k+1)
theorem Ot:∀(a b:Au) (M:Wm),aQ M (a++b)=((aQ M a).1++(aQ (aQ M a).2 b).1,(aQ (aQ M a).2 b).2)
 | [],b,M=>rfl
 | x::a,b,M=>by
  show(ZV (bI M x).1++(aQ (bI M x).2 (a++b)).1,(aQ (bI M x).2 (a++b)).2)=((ZV (bI M x).1++(aQ (bI M x).2 a).1)++(aQ (aQ (bI M x).2 a).2 b).1,(aQ (aQ (bI M x).2 a).2 b).2);rw[Ot a b,List.append_assoc]
theorem Ox(a:Int):∀(l:List (Str×Au)) (k:Nat) (M:Wm),fP a l k M=aQ M (nhL a l k)
 | [],_,_=>rfl
 | m::l,k,M=>by
  unfold fP nhL;split
  ·rw[Ot,Ox a l (k+1)]
  ·exact Ox a l (k+1) M
section
variable {M N:Wm}
theorem Zki{h s:Nat}{x y:AA}{m:Str×Au}(hm:m∈(setSlot M h s x).hands)(hy:y∈m.2):y=x\/∃a∈M.hands,y∈a.2:=by
 obtain⟨i,hi,c⟩:=List.getElem_of_mem hm;have b:(M.hands.modify h λm=>(m.1,m.2.set s x))[i]? =some m:=by rw[<- c];exact bL hi
 rw[List.getElem?_modify]at b;cases em:M.hands[i]? with
 | none=>rw[em]at b;cases b
 | some a=>
  rw[em]at b
  by_cases z:h=i
  ·have e3:(a.1,a.2.set s x)=m:=by simpa[z]using b
   rw[<- e3]at hy;rcases List.mem_or_eq_of_mem_set (show y∈a.2.set s x from hy)with w | w
   ·exact .inr ⟨a,List.mem_of_getElem? em,w⟩
   ·exact .inl w
  ·have e3:a=m:=by simpa[z]using b
   exact .inr ⟨a,List.mem_of_getElem? em,by rw[e3];exact hy⟩
theorem slot_mem{h k:Nat}{j:Int}(e:aR M h k=some j):∃m,M.hands[h]? =some m/\some j∈m.2:=by
 unfold aR at e;cases hm:M.hands[h]? with
 | none=>rw[hm]at e;cases e
 | some m=>
  rw[hm]at e;have e:(m.2[k]?).join=some j:=e;cases hk:m.2[k]? with
  | none=>rw[hk]at e;cases e
  | some x=>
   rw[hk]at e;have e:x=some j:=e;subst e;exact⟨m,rfl,List.mem_of_getElem? hk⟩
theorem Zeu{F:KB.Fd}{w:AE}{ps:Au}{q:Int}(n:Nat)(h:some q∈ps)(a:(KB.J2 F q).isSome=true):∃v,(q,v)∈KB.onw F w n ps:=by
 obtain⟨k,hk,e⟩:=List.getElem_of_mem h;refine⟨w++[((n+k:Nat):Int)],List.mem_filterMap.mpr ⟨(some q,n+k),?_,?_⟩⟩
 ·refine List.mem_zipIdx_iff_le_and_getElem?_sub.mpr ⟨ζ,?_⟩;show ps[n+k - n]? =_;rw[Nat.add_sub_cancel_left,bL hk,e]
 ·unfold KB.Xg;dsimp only;rw[if_pos a]
theorem Zds{F:KB.Fd}{R:KB.Rw}{q l:List (Int×AE)}{k:Nat}(b:KB.Mg F R q k l):
  (∀i x,i<k->q[i]? =some x->x.1∈l.map (·.1))/\(∀row∈R,∀y,some y∈row->(KB.J2 F y).isSome=true->∃v,(y,v)∈q)/\(∀x∈l,∀fl,KB.J2 F x.1=some fl->∀y,some y∈fl->(KB.J2 F y).isSome=true->∃v,(y,v)∈q):=by
 induction b with
 | start=>
  refine⟨λi x h=>absurd h (Nat.not_lt_zero _),λrow hr y hy f=>?_,λx hx=>(nomatch hx)⟩;obtain⟨n,hn,e⟩:=List.getElem_of_mem hr;obtain⟨v,hv⟩:=Zeu (F:=F) (w:=[((n:Nat):Int)]) 0 hy f;exact⟨v,List.mem_flatMap.mpr ⟨(row,n),List.mem_zipIdx_iff_getElem?.mpr (by rw[bL hn,e]),hv⟩⟩
 | @old q k l p w b hq hp ih=>
  refine⟨λi x hi hx=>?_,ih.2.1,ih.2.2⟩
  by_cases e:i=k
  ·rw[e,hq]at hx;cases hx;exact hp
  ·exact ih.1 i x δ hx
 | @new q k l p w fl b hq hp f ih=>
  have hk:k<q.length:=(dj hq).1;have up:∀{y:Int},(∃v,(y,v)∈q)->∃v,(y,v)∈q++KB.onw F w 0 fl:=λ⟨v,h⟩=>⟨v,List.mem_append.mpr (.inl h)⟩;refine⟨λi x hi hx=>?_,λrow hr y hy f=>up (ih.2.1 row hr y hy f),λx hx d a y hy c=>?_⟩
  ·rw[List.getElem?_append_left δ]at hx;rw[List.map_append]
   by_cases e:i=k
   ·rw[e,hq]at hx;cases hx;exact List.mem_append.mpr (.inr (List.mem_singleton.mpr rfl))
   ·exact List.mem_append.mpr (.inl (ih.1 i x δ hx))
  ·rcases List.mem_append.mp hx with hx | hx
   ·exact up (ih.2.2 x hx d a y hy c)
   ·rw[List.mem_singleton.mp hx]at a;have a:KB.J2 F p=some d:=a;rw[f]at a;cases a;obtain⟨v,hv⟩:=Zeu (F:=F) (w:=w) 0 hy c;exact⟨v,List.mem_append.mpr (.inr hv)⟩
theorem Vo{l:List (Str×(Int×Int))}{k:Str}{v:Int×Int}{x:Str×(Int×Int)}(h:x∈kY l k v):x∈l\/x.2=v:=by
 unfold kY at h;split at h
 ·obtain⟨m,hm,e⟩:=List.mem_map.mp h;split at e
  ·rw[<- e];exact .inr rfl
  ·rw[<- e];exact .inl hm
 ·rcases List.mem_append.mp h with h | h
  ·exact .inl h
  ·rw[List.mem_singleton.mp h];exact .inr rfl
theorem Zfp{c:Ce}(hc:cellAt M M.sw.at'=some c){u:Int}{w:Sw}{i:Int}{d:Ce}(hd:cellAt { M with used:=u,cells:=M.cells.set M.sw.at'.toNat none,sw:=w } i=some d):i≠M.sw.at'/\cellAt M i=some d:=by
 obtain⟨a,h1⟩:=cF.mp hd;have h1:(M.cells.set M.sw.at'.toNat none)[i.toNat]? =some (some d):=h1;obtain⟨f,b⟩:=cF.mp hc
 by_cases z:M.sw.at'.toNat=i.toNat
 ·rw[z,List.getElem?_set_self (by rw[<- z];exact(dj b).1)]at h1;cases h1
 ·rw[List.getElem?_set_ne z]at h1;exact⟨λe=>z (by rw[e]),cF.mpr ⟨a,h1⟩⟩
theorem Zfq{c:Ce}(hc:cellAt M M.sw.at'=some c){u:Int}{w:Sw}{i:Int}(hi:i≠M.sw.at'):cellAt { M with used:=u,cells:=M.cells.set M.sw.at'.toNat none,sw:=w } i=cellAt M i:=by
 obtain⟨b,d⟩:=cF.mp hc;unfold cellAt
 by_cases a:0<=i
 ·have:M.sw.at'.toNat≠i.toNat:=λe=>hi δ;simp[a,List.getElem?_set_ne this]
 ·simp[a]
end
inductive Rc(M:Wm):Int->Prop
 | hand {m:Str×Au}{j:Int}{c:Ce}:m∈M.hands->some j∈m.2->cellAt M j=some c->Rc M j
 | name {x:Str×(Int×Int)}{c:Ce}:x∈M.names->cellAt M x.2.1=some c->c.birth=x.2.2->c.tone=M.sw.sense->Rc M x.2.1
 | via {i j:Int}{c d:Ce}:Rc M i->cellAt M i=some c->some j∈c.fl->cellAt M j=some d->Rc M j
section
variable {M N:Wm}{w0:Int}
theorem Rg.cut{q f:List (Int×AE)}(ph:M.sw.phase="walk")(b:KB.Mg (fdOf M) (iw M) q q.length f)(l:∀x∈f,∀c,cellAt M x.1=some c->c.tone=M.sw.sense){i:Int}{c:Ce}(r:Rc M i)(hc:cellAt M i=some c):c.tone=M.sw.sense:=by
 obtain⟨p,o,s⟩:=Zds b;have fs:∀{j:Int}{d:Ce},cellAt M j=some d->(KB.J2 (fdOf M) j).isSome=true:=λ{j d} h=>by rw[Qn,h];rfl
 have a:∀{j:Int},(∃v,(j,v)∈q)->j∈f.map (·.1):=λ{j} ⟨v,h⟩=>by
  obtain⟨n,hn,e⟩:=List.getElem_of_mem h;have:=p n q[n] hn (bL hn);rw[e]at this;exact this
 have m:∀{j:Int},Rc M j->j∈f.map (·.1):=λ{j} r=>by
  induction r with
  | hand hm k hc=>exact a (o _ (List.mem_append.mpr (.inl (List.mem_map.mpr ⟨_,hm,rfl⟩))) _ k (fs hc))
  | @name x c hx hc hb t=>
   refine a (o (m5 M) (List.mem_append.mpr (.inr (List.mem_singleton.mpr rfl))) _ (List.mem_map.mpr ⟨x,hx,?_⟩) (fs hc));unfold Jq;have g:jW M x.2.1 x.2.2=false:=by
    unfold jW;rw[hc];dsimp only;rw[if_pos hb];exact decide_eq_false (λy=>absurd (ph.symm.trans y.1) ε)
   rw[g,if_neg ε,hc];dsimp only;rw[if_neg (λy=>y.2 t)]
  | @via i j c d r hc k hd ih=>
   obtain⟨x,hx,e⟩:=List.mem_map.mp ih;exact a (s x hx c.fl (by rw[e,Qn,hc];rfl) j k (fs hd))
 obtain⟨x,hx,e⟩:=List.mem_map.mp (m r);exact l x hx c (by rw[e];exact hc)
end
theorem Zkk{M:Wm}{b:Int}:b∈jT M↔∃i c,cellAt M i=some c/\c.birth=b/\c.tone≠M.sw.sense:=by
 unfold jT;constructor
 ·intro h;obtain⟨i,_,e⟩:=List.mem_filterMap.mp h;obtain⟨c,hc,rfl⟩:=Option.map_eq_some_iff.mp e;unfold oK at hc;obtain⟨f,h1,h2⟩:=Option.bind_eq_some_iff.mp hc;split at h2
  ·cases h2
  ·rename_i a
   cases h2;exact⟨i,c,by unfold cellAt;rw[if_pos δ,Int.toNat_natCast];exact h1,rfl,a⟩
 ·rintro⟨i,c,hc,rfl,a⟩;obtain⟨d,h1⟩:=cF.mp hc;refine List.mem_filterMap.mpr ⟨i.toNat,List.mem_range.mpr (dj h1).1,?_⟩;unfold oK;rw[h1];show(if c.tone=M.sw.sense then none else some c).map _=_;rw[if_neg a];rfl
def Zit:iV->Str
 | .make _ _ _ _=>"made"
 | .get _ _ _ _=>"got"
 | .put _ _ _ _=>"put"
 | .copy _ _ _=>"copied"
 | .drop _ _=>"dropped"
 | .give _ _ _ _=>"given"
 | .write _ _ _=>"wrote"
 | .read _ _=>"read"
 | .name _ _ _=>"named"
 | .seek _ _ _=>"sought"
def Mi(l:List (Str×(Int×Int))):List (Str×Int):=l.map λm=>(m.1,m.2.2)
def Hb(M:Wm)(b:Int):Prop:=∃i c,cellAt M i=some c/\c.birth=b
structure Sc where
 ld:Int
 fl:Au
structure QZ where
 room:Int
 used:Int
 born:Int
 rows:List Au
 cells:Int->Option Sc
 words:List (Str×Int)
structure Iv(w0:Int)(P ct:Int->Prop)(M:Wm)(S:QZ):Prop where
 tb:TB w0 M
 hd:∀m∈M.hands,∀j,some j∈m.2->P j
 nm:∀x∈M.names,¬ ct x.2.2->P x.2.1
 ce:∀j,P j->∃c,cellAt M j=some c/\¬ ct c.birth/\(∀y,some y∈c.fl->P y)/\S.cells c.birth=some ⟨c.load,c.fl.map (nZ M)⟩
 al:∀b,1<=b->b<=M.born->¬ ct b->Hb M b
 cb:∀b,ct b->b<=M.born
 dm:∀j c,cellAt M j=some c->(ct c.birth↔M.sw.phase="give"/\c.tone≠M.sw.sense)
 np:∀x∈M.names,1<=x.2.2/\x.2.2<=M.born/\∀j c,cellAt M j=some c->c.birth=x.2.2->j=x.2.1
 ro:S.rows=rowsOf M
 wo:S.words=Mi M.names
 bo:S.born=M.born
 rm:S.room=M.room
 us:M.used<=S.used/\((∀b,¬ ct b)->M.used=S.used)
 bk:∀j c,cellAt M j=some c->0<=c.bulk
section
variable {M M' N:Wm}{S:QZ}{w0:Int}{P P' ct ct':Int->Prop}
theorem QH{x:Int}{c:Ce}(h:cellAt M x=some c):nZ M (some x)=some c.birth:=by show(cellAt M x).map _=_;rw[h];rfl
theorem Xy{fl:Au}(h:∀y,some y∈fl->∃c c',cellAt M y=some c/\cellAt N y=some c'/\c'.birth=c.birth):fl.map (nZ N)=fl.map (nZ M):=by
 refine List.map_congr_left λx hx=>?_;cases x with
 | none=>rfl
 | some y=>
  obtain⟨c,c',h1,h2,a⟩:=h y hx;rw[QH h1,QH h2,a]
theorem Zo(a:N.hands=M.hands)(h:∀m∈M.hands,∀y,some y∈m.2->∃c c',cellAt M y=some c/\cellAt N y=some c'/\c'.birth=c.birth):rowsOf N=rowsOf M:=by
 unfold rowsOf;rw[a];exact List.map_congr_left λm hm=>Xy (h m hm)
theorem Iv.mv(v:Iv w0 P ct M S)(tb:TB w0 N)(p:N.hands=M.hands)(l:N.names=M.names)(i:N.born=M.born)(t:N.room=M.room)(r:N.used<=M.used/\((∀b,¬ ct' b)->N.used=M.used))
  (sub:∀j,P' j->P j) (hd:∀m∈M.hands,∀j,some j∈m.2->P' j) (nm:∀x∈M.names,¬ ct' x.2.2->P' x.2.1) (cb:∀b,ct' b->b<=M.born)
  (ce:∀j c,P' j->cellAt M j=some c->∃c',cellAt N j=some c'/\c'.birth=c.birth/\c'.fl=c.fl/\c'.load=c.load/\¬ ct' c.birth/\∀y,some y∈c.fl->P' y)
  (bw:∀j c',cellAt N j=some c'->∃c,cellAt M j=some c/\c.birth=c'.birth/\c.bulk=c'.bulk)
  (al:∀b,Hb M b->¬ ct' b->Hb N b) (o:∀b,ct b->ct' b)
  (dm:∀j c,cellAt N j=some c->(ct' c.birth↔N.sw.phase="give"/\c.tone≠N.sw.sense)):Iv w0 P' ct' N S:=by
 have f:∀j,P' j->∃c c',cellAt M j=some c/\cellAt N j=some c'/\c'.birth=c.birth:=λj d=>by
  obtain⟨c,h1,_⟩:=v.ce j (sub j d);obtain⟨c',h2,a,_⟩:=ce j c d h1;exact⟨c,c',h1,h2,a⟩
 refine⟨tb,by rw[p];exact hd,by rw[l];exact nm,λj d=>?_,λb h1 h2 a=>al b (v.al b h1 (by rw[<- i];exact h2) λz=>a (o b z)) a,by rw[i];exact cb,dm,λx hx=>?_,?_,by rw[l];exact v.wo,v.bo.trans i.symm,v.rm.trans t.symm,⟨Int.le_trans r.1 v.us.1,λz=>(r.2 z).trans (v.us.2 λb h=>z b (o b h))⟩,λj c hc=>?_⟩
 ·obtain⟨c,h1,_,_,h4⟩:=v.ce j (sub j d);obtain⟨c',e,g,k,s,u,q⟩:=ce j c d h1;refine⟨c',e,by rw[g];exact u,by rw[k];exact q,?_⟩;rw[g,k,s,h4,Xy λy hy=>f y (q y hy)]
 ·rw[l]at hx;obtain⟨h1,h2,a⟩:=v.np x hx;refine⟨h1,by rw[i];exact h2,λj c hc hb=>?_⟩;obtain⟨n,e,g,_⟩:=bw j c hc;exact a j n e (g.trans hb)
 ·rw[v.ro];exact(Zo p λm hm y hy=>f y (hd m hm y hy)).symm
 ·obtain⟨n,e,_,k⟩:=bw j c hc;rw[<- k];exact v.bk j n e
theorem Wv.at(n:Wv M N)(j:Int):(cellAt N j).map (λc=>{ c with tone:=0 })=(cellAt M j).map (λc=>{ c with tone:=0 }):=by
 unfold cellAt;split
 ·have:=congrArg (λl=>l[j.toNat]?) n.ce;simp only[cL]at this;cases h1:N.cells[j.toNat]? with
  | none=>
   rw[h1]at this;cases h2:M.cells[j.toNat]? with
   | none=>rfl
   | some y=>rw[h2]at this;cases this
  | some x=>
   rw[h1]at this;cases h2:M.cells[j.toNat]? with
   | none=>rw[h2]at this;cases this
   | some y=>rw[h2]at this;exact Option.some.inj this
 ·rfl
theorem Wv.fw(n:Wv M N){j:Int}{c:Ce}(h:cellAt M j=some c):∃c',cellAt N j=some c'/\c'.birth=c.birth/\c'.fl=c.fl/\c'.load=c.load/\c'.bulk=c.bulk:=by
 have:=n.at j;rw[h]at this;cases a:cellAt N j with
 | none=>rw[a]at this;cases this
 | some c'=>
  rw[a]at this;obtain⟨b,e,_,e3,d⟩:=Ce.mk.inj (Option.some.inj this);exact⟨c',rfl,b,d,e3,e⟩
theorem Wv.bw(n:Wv M N){j:Int}{c':Ce}(h:cellAt N j=some c'):∃c,cellAt M j=some c/\c.birth=c'.birth/\c.bulk=c'.bulk:=by
 have:=n.at j;rw[h]at this;cases a:cellAt M j with
 | none=>rw[a]at this;cases this
 | some c=>
  rw[a]at this;obtain⟨b,d,_⟩:=Ce.mk.inj (Option.some.inj this);exact⟨c,rfl,b.symm,d.symm⟩
theorem Iv.notes(v:Iv w0 P ct M S)(l:Au):Iv w0 P ct (aQ M l).2 S:=by
 have n:=tV l M;have sb:=Sb.notes l M;refine v.mv (v.tb.sb sb) n.hd n.nm n.bn n.rm ⟨Int.le_of_eq n.us,λ_=>n.us⟩ (λ_ h=>h) v.hd v.nm v.cb (λj c k hc=>?_) (λj c h=>n.bw h) (λb ⟨j,c,h1,h2⟩ _=>?_) (λ_ h=>h) (λj c hc=>?_)
 ·obtain⟨g,h1,h2,e,h4,_⟩:=n.fw hc;obtain⟨i,d,f,m,_⟩:=v.ce j k;rw[hc]at d;cases d;exact⟨g,h1,h2,e,h4,f,m⟩
 ·obtain⟨g,d,f,_⟩:=n.fw h1;exact⟨j,g,d,f.trans h2⟩
 ·obtain⟨i,h1,h2,e⟩:=sb.get hc;rw[h2,v.dm j i h1,sb.ph,sb.se];constructor
  ·rintro⟨a,b⟩;exact⟨a,by rw[e.resolve_right λz=>absurd (a.symm.trans z.1) ε];exact b⟩
  ·rintro⟨a,b⟩;exact⟨a,by rw[<- e.resolve_right λz=>absurd (a.symm.trans z.1) ε];exact b⟩
theorem Iv.sw(v:Iv w0 P ct M S)(tb:TB w0 N)(e:∃w,N={ M with sw:=w })(dm:∀j c,cellAt M j=some c->(ct c.birth↔N.sw.phase="give"/\c.tone≠N.sw.sense)):Iv w0 P ct N S:=by
 obtain⟨w,rfl⟩:=e;refine v.mv tb rfl rfl rfl rfl ⟨Int.le_refl _,λ_=>rfl⟩ (λ_ h=>h) v.hd v.nm v.cb (λj c f hc=>?_) (λj c h=>⟨c,h,rfl,rfl⟩) (λb h _=>h) (λ_ h=>h) dm;obtain⟨i,a,d,g,_⟩:=v.ce j f;rw[hc]at a;cases a;exact⟨c,hc,rfl,rfl,rfl,d,g⟩
end
def zu(S:QZ)(h s:Nat):AA:=((S.rows[h]?).bind λx=>x[s]?).join
def Ze3(S:QZ)(z:Str):AA:=(S.words.find? λm=>decide (m.1=z)).map (·.2)
def Zja(l:List (Str×Int))(k:Str)(v:Int):List (Str×Int):=if (l.any λm=>decide (m.1=k))=true then l.map (λm=>if m.1=k then(m.1,v)else m)else l++[(k,v)]
theorem Zmo(l:List (Str×(Int×Int)))(z:Str)(v:Int×Int):Mi (kY l z v)=Zja (Mi l) z v.2:=by
 unfold kY Zja Mi;have e:((l.map λm=>(m.1,m.2.2)).any λm=>decide (m.1=z))=l.any λm=>decide (m.1=z):=by rw[List.any_map];rfl
 rw[e];split
 ·rw[List.map_map,List.map_map];refine List.map_congr_left λm _=>?_;show((if m.1=z then(m.1,v)else m).1,(if m.1=z then(m.1,v)else m).2.2)=if m.1=z then(m.1,v.2)else(m.1,m.2.2)
  by_cases h:m.1=z
  ·rw[if_pos h,if_pos h]
  ·rw[if_neg h,if_neg h]
 ·rw[List.map_append];rfl
theorem Zmp(l:List (Str×(Int×Int)))(z:Str):((Mi l).find? λm=>decide (m.1=z)).map (·.2)=(p6 l z).map (·.2):=by
 unfold Mi p6;rw[List.find?_map];cases h:l.find? ((λm=>decide (m.1=z)) ∘ λm=>(m.1,m.2.2))with
 | none=>
  have:(l.find? λm=>decide (m.1=z))=none:=h;rw[this];rfl
 | some m=>
  have:(l.find? λm=>decide (m.1=z))=some m:=h;rw[this];rfl
def Br(S:QZ)(h k:Nat)(x:AA):QZ:={ S with rows:=S.rows.modify h λr=>r.set k x }
def Zea(S:QZ)(b:Int)(c:Sc):QZ:={ S with cells:=λx=>if x=b then some c else S.cells x }
def newS(S:QZ)(a bulk:Int):QZ:=Zea { S with used:=S.used+(1+a+bulk),born:=S.born+1 } (S.born+1) ⟨0,List.replicate a.toNat none⟩
def byS(S:QZ)(o:AA)(k:Int->Sc->Except Rf (AA×QZ)):Except Rf (AA×QZ):=match o with
 | none=>.error .empty
 | some b=>match S.cells b with
  | none=>.error .empty
  | some c=>k b c
def Zdt(S:QZ):iV->Except Rf (AA×QZ)
 | .make h s a bulk=>if S.used+(1+a+bulk)<=S.room then .ok (some (S.born+1),Br (newS S a bulk) h s (some (S.born+1)))else .error .full
 | .get h s t f=>byS S (zu S h t) λ_ c=>match c.fl[f]? with
  | none=>.error .iK
  | some v=>.ok (v,Br S h s v)
 | .put h t f s=>byS S (zu S h t) λb c=>match c.fl[f]? with
  | none=>.error .iK
  | some v=>.ok (v,Zea S b ⟨c.ld,c.fl.set f (zu S h s)⟩)
 | .copy h s t=>.ok (zu S h t,Br S h s (zu S h t))
 | .drop h s=>.ok (zu S h s,Br S h s none)
 | .give h s g t=>.ok (zu S h s,Br S g t (zu S h s))
 | .write h t l=>byS S (zu S h t) λb c=>.ok (some c.ld,Zea S b ⟨l,c.fl⟩)
 | .read h t=>byS S (zu S h t) λ_ c=>.ok (some c.ld,S)
 | .name h t z=>byS S (zu S h t) λb _=>.ok (some b,{ S with words:=Zja S.words z b })
 | .seek h s z=>match Ze3 S z with
  | none=>.error .uQ
  | some b=>.ok (some b,Br S h s (some b))
section
variable {M M' N:Wm}{S:QZ}{w0:Int}{P ct:Int->Prop}
theorem Iv.row(v:Iv w0 P ct M S){h s:Nat}(o:uM M h s):zu S h s=nZ M (aR M h s):=by
 obtain⟨r,h1,h2,a⟩:=Zgj o;unfold zu;rw[v.ro,h1];show(r[s]?).join=_;rw[h2];rfl
theorem Iv.sl(v:Iv w0 P ct M S){h s:Nat}{j:Int}(e:aR M h s=some j):P j:=by
 obtain⟨m,hm,a⟩:=slot_mem e;exact v.hd m (List.mem_of_getElem? hm) j a
theorem Iv.slot(v:Iv w0 P ct M S){h s:Nat}{x:AA}(o:uM M h s)(hx:∀j,x=some j->P j):Iv w0 P ct (setSlot M h s x) (Br S h s (nZ M x)):=by
 have b:nZ (setSlot M h s x)=nZ M:=funext λ_=>jJ;refine⟨v.tb.sb (Sb.slot M h s x),λm hm j a=>?_,v.nm,λj a=>?_,v.al,v.cb,v.dm,v.np,?_,v.wo,v.bo,v.rm,v.us,v.bk⟩
 ·rcases Zki hm a with e | ⟨d,c,h1⟩
  ·exact hx j e.symm
  ·exact v.hd d c j h1
 ·rw[b];exact v.ce j a
 ·show S.rows.modify h _=(M.hands.modify h _).map λm=>m.2.map (nZ (setSlot M h s x));rw[b,v.ro];unfold rowsOf;refine List.ext_getElem? λk=>?_;rw[List.getElem?_modify,cL,cL,List.getElem?_modify];cases M.hands[k]? with
  | none=>rfl
  | some m=>
   show some _=some _
   by_cases z:h=k
   ·simp[z,List.map_set]
   ·simp[z]
theorem Qy{x:Int}{c c':Ce}(hc:cellAt M x=some c)(hb:c'.birth=c.birth)(b:c'.tone=c.tone)(hk:c'.bulk=c.bulk){j:Int}{d:Ce}(h:cellAt (setCell M x c') j=some d):∃a,cellAt M j=some a/\a.birth=d.birth/\a.tone=d.tone/\a.bulk=d.bulk:=by
 rw[cN hc j]at h
 by_cases e:j=x
 ·rw[if_pos e]at h;cases h;exact⟨c,by rw[e];exact hc,hb.symm,b.symm,hk.symm⟩
 ·rw[if_neg e]at h;exact⟨d,h,rfl,rfl,rfl⟩
theorem Zm7{x:Int}{c c':Ce}(hc:cellAt M x=some c)(hb:c'.birth=c.birth)(a:c'.tone=c.tone){j:Int}{d:Ce}(h:cellAt M j=some d):∃d',cellAt (setCell M x c') j=some d'/\d'.birth=d.birth/\d'.tone=d.tone:=by
 rw[cN hc j]
 by_cases e:j=x
 ·rw[if_pos e];rw[e,hc]at h;cases h;exact⟨c',rfl,hb,a⟩
 ·rw[if_neg e];exact⟨d,h,rfl,rfl⟩
theorem Iv.cell(v:Iv w0 P ct M S){x:Int}{c c':Ce}(q:P x)(hc:cellAt M x=some c)(hb:c'.birth=c.birth)(f:c'.tone=c.tone)(hk:c'.bulk=c.bulk)(r:∀y,some y∈c'.fl->P y):Iv w0 P ct (setCell M x c') (Zea S c.birth ⟨c'.load,c'.fl.map (nZ M)⟩):=by
 have n:nZ (setCell M x c')=nZ M:=by
  funext y
  cases y with
  | none=>rfl
  | some y=>exact(Sb.cell hc hb (.inl f)).ce y
 refine⟨v.tb.sb (Sb.cell hc hb (.inl f)),v.hd,v.nm,λj o=>?_,λb h1 h2 i=>?_,v.cb,λj d hd=>?_,λy hy=>?_,?_,v.wo,v.bo,v.rm,v.us,λj d hd=>?_⟩
 ·rw[cN hc j,n]
  by_cases e:j=x
  ·rw[if_pos e];obtain⟨d,h1,h2,_⟩:=v.ce x q;rw[hc]at h1;cases h1;exact⟨c',rfl,by rw[hb];exact h2,r,if_pos hb⟩
  ·rw[if_neg e];obtain⟨d,h1,h2,i,h4⟩:=v.ce j o;exact⟨d,h1,h2,i,(if_neg λz=>e (v.tb.bu j x d c h1 hc z)).trans h4⟩
 ·obtain⟨j,d,a,g⟩:=v.al b h1 h2 i;obtain⟨p,l,k,_⟩:=Zm7 hc hb f a;exact⟨j,p,l,k.trans g⟩
 ·obtain⟨h,a,g,l,_⟩:=Qy hc hb f hk hd;rw[<- g,<- l];exact v.dm j h a
 ·obtain⟨h1,h2,i⟩:=v.np y hy;refine⟨h1,h2,λj d hd e=>?_⟩;obtain⟨h,a,g,_⟩:=Qy hc hb f hk hd;exact i j h a (g.trans e)
 ·show S.rows=M.hands.map λm=>m.2.map (nZ (setCell M x c'));rw[n];exact v.ro
 ·obtain⟨h,a,_,_,k⟩:=Qy hc hb f hk hd;rw[<- k];exact v.bk j h a
theorem Iv.make(v:Iv w0 P ct M S){a bulk:Int}(r:0<=a)(b0:0<=bulk):
  Iv w0 (λj=>P j\/j=((iD M.cells:Nat):Int)) ct { M with used:=M.used+(1+a+bulk),born:=M.born+1,cells:=ji M.cells ⟨M.born+1,bulk,M.sw.sense,0,List.replicate a.toNat none⟩ } (newS S a bulk):=by
 have c:∀{j d},cellAt { M with used:=M.used+(1+a+bulk),born:=M.born+1,cells:=ji M.cells ⟨M.born+1,bulk,M.sw.sense,0,List.replicate a.toNat none⟩ } j=some d->(j=((iD M.cells:Nat):Int)/\d=⟨M.born+1,bulk,M.sw.sense,0,List.replicate a.toNat none⟩)\/cellAt M j=some d:=λh=>dO h;have kp:∀{j d},cellAt M j=some d->cellAt { M with used:=M.used+(1+a+bulk),born:=M.born+1,cells:=ji M.cells ⟨M.born+1,bulk,M.sw.sense,0,List.replicate a.toNat none⟩ } j=some d:=λh=>BP h;have l:¬ ct (M.born+1):=λz=>by have:=v.cb _ z;omega
 have q:=v.tb.b0;have p:=v.bo;refine⟨TB.put v.tb rfl rfl,λm hm j i=>.inl (v.hd m hm j i),λx hx h=>.inl (v.nm x hx h),λj i=>?_,λb h1 h2 f=>?_,λb h=>by have:=v.cb b h;show b<=M.born+1;omega,λj d hd=>?_,λx hx=>?_,?_,v.wo,by show S.born+1=M.born+1;omega,v.rm,⟨by have:=v.us.1;show _+_<=_+_;omega,λz=>by have:=v.us.2 z;show _+_=_+_;omega⟩,λj d hd=>?_⟩
 ·rcases i with i | rfl
  ·obtain⟨d,h1,h2,f,h4⟩:=v.ce j i;refine⟨d,kp h1,h2,λy hy=>.inl (f y hy),?_⟩;rw[Xy (M:=M) λy hy=>by
    obtain⟨g,k,_⟩:=v.ce y (f y hy);exact⟨g,g,k,kp k,rfl⟩]
   exact(if_neg (by have:=(v.tb.bn j d h1).2;omega)).trans h4
  ·refine⟨_,qd,l,λy hy=>?_,?_⟩
   ·cases List.eq_of_mem_replicate hy
   rw[List.map_replicate];exact if_pos (by show M.born+1=_;omega)
 ·by_cases e:b=M.born+1
  ·exact⟨_,_,qd,e.symm⟩
  ·obtain⟨j,d,o,n⟩:=v.al b h1 (by have h2:b<=M.born+1:=h2;omega) f;exact⟨j,d,kp o,n⟩
 ·rcases c hd with ⟨_,rfl⟩ | hd
  ·exact⟨λz=>absurd z l,λz=>absurd rfl z.2⟩
  ·exact v.dm j d hd
 ·obtain⟨h1,h2,f⟩:=v.np x hx;refine⟨h1,by show _<=M.born+1;omega,λj d hd e=>?_⟩;rcases c hd with ⟨_,rfl⟩ | hd
  ·have e:M.born+1=x.2.2:=e;omega
  ·exact f j d hd e
 ·have:=Zo (M:=M) (N:={ M with used:=M.used+(1+a+bulk),born:=M.born+1,cells:=ji M.cells ⟨M.born+1,bulk,M.sw.sense,0,List.replicate a.toNat none⟩ }) rfl λm hm y hy=>by
   obtain⟨g,k,_⟩:=v.ce y (v.hd m hm y hy);exact⟨g,g,k,kp k,rfl⟩
  exact v.ro.trans this.symm
 ·rcases c hd with ⟨_,rfl⟩ | hd
  ·exact b0
  ·exact v.bk j d hd
theorem Iv.name(v:Iv w0 P ct M S){x:Int}{c:Ce}(a:P x)(hc:cellAt M x=some c)(z:Str):Iv w0 P ct { M with names:=kY M.names z (x,c.birth) } { S with words:=Zja S.words z c.birth }:=by
 refine⟨v.tb.sb (Sb.nj rfl rfl rfl rfl rfl rfl rfl),v.hd,λy hy h=>?_,v.ce,v.al,v.cb,v.dm,λy hy=>?_,v.ro,by show Zja S.words z c.birth=Mi (kY M.names z (x,c.birth));rw[Zmo,v.wo],v.bo,v.rm,v.us,v.bk⟩
 ·rcases Vo hy with hy | hy
  ·exact v.nm y hy h
  ·rw[hy];exact a
 ·rcases Vo hy with hy | hy
  ·exact v.np y hy
  ·rw[hy];obtain⟨h1,h2⟩:=v.tb.bn x c hc;exact⟨h1,h2,λj d hd e=>v.tb.bu j x d c hd hc e⟩
theorem Iv.gone(v:Iv w0 P ct M S){x:Str×(Int×Int)}(hx:x∈M.names):jW M x.2.1 x.2.2=true↔ct x.2.2:=by
 obtain⟨h1,h2,f⟩:=v.np x hx;constructor
 ·intro g;refine Classical.byContradiction λc=>?_;obtain⟨j,d,a,b⟩:=v.al _ h1 h2 c;have e:=f j d a b;rw[e]at a;unfold jW at g;rw[a]at g;dsimp only at g;rw[if_pos b]at g;exact c (by rw[<- b];exact(v.dm _ d a).mpr (of_decide_eq_true g))
 ·intro hc;unfold jW;cases a:cellAt M x.2.1 with
  | none=>rfl
  | some d=>
   dsimp only
   by_cases e:d.birth=x.2.2
   ·rw[if_pos e];exact decide_eq_true ((v.dm _ d a).mp (by rw[e];exact hc))
   ·rw[if_neg e]
theorem Iv.at(v:Iv w0 P ct M S){h t:Nat}{x:Int}(o:uM M h t)(e:aR M h t=some x):∃c,cellAt M x=some c/\P x/\(∀y,some y∈c.fl->P y)/\∀k,byS S (zu S h t) k=k c.birth ⟨c.load,c.fl.map (nZ M)⟩:=by
 obtain⟨c,h1,_,a,h4⟩:=v.ce x (v.sl e);refine⟨c,h1,v.sl e,a,λk=>?_⟩;rw[v.row o,e,QH h1];show(match S.cells c.birth with | none=>_ | some c=>_)=_;rw[h4]
theorem Iv.em(v:Iv w0 P ct M S){h t:Nat}(o:uM M h t)(e:aR M h t=none)(k:Int->Sc->Except Rf (AA×QZ)):byS S (zu S h t) k=.error .empty:=by
 rw[v.row o,e];rfl
inductive DnO(w0:Int)(ct:Int->Prop)(M:Wm)(S:QZ)(d:iV):Prop
 | full:(∃b,ct b)->Zdt S d=.error .full->DnO w0 ct M S d
 | er (r:Rf):g8 M d=.error r->Zdt S d=.error r->DnO w0 ct M S d
 | gone (e:Ev) (M':Wm):(∃b,ct b)->g8 M d=.ok (e,M')->e.word="sought"->e.thing=none->DnO w0 ct M S d
 | ok (e:Ev) (M':Wm) (S':QZ) (P':Int->Prop):g8 M d=.ok (e,M')->e.word=Zit d->(M.sw.phase="rest"->e.notes=[])->Zdt S d=.ok (e.thing,S')->Iv w0 P' ct M' S'->DnO w0 ct M S d
theorem Iv.deed(v:Iv w0 P ct M S){d:iV}(o:okD M d):DnO w0 ct M S d:=by
 have I:∀{N:Wm}{l:Au},N.sw.phase="rest"->(aQ N l).1=[]:=λh=>by rw[JG (by rw[h];decide)]
 cases d with
 | make h s C bulk=>
  obtain⟨o,O,_,b0⟩:=o;have u:=v.us;have er:=v.rm
  by_cases f:S.used+(1+C+bulk)<=S.room
  ·have q:=(v.make O b0).slot (x:=some ((iD M.cells:Nat):Int)) (h:=h) (s:=s) o λj e=>.inr (Option.some.inj e).symm;rw[QH qd]at q;refine .ok _ _ _ _ (Ke δ) rfl (λ_=>rfl) ((if_pos f).trans ?_) q;rw[v.bo]
  ·by_cases z:∃b,ct b
   ·exact .full z (if_neg f)
   ·have:=u.2 λb h=>z ⟨b,h⟩;exact .er .full (if_neg δ) (if_neg f)
 | get h s t f=>
  cases hx:aR M h t with
  | none=>exact .er .empty (by simp only[g8,hx]) (v.em o.2 hx _)
  | some x=>
   obtain⟨c,hc,i,p,hs⟩:=v.at o.2 hx;cases hv:c.fl[f]? with
   | none=>exact .er .iK (by simp only[g8,hx,hc,hv]) ((hs _).trans (by simp only[cL,hv];rfl))
   | some y=>exact .ok ⟨"got",nZ M y,[]⟩ _ _ _ (by simp only[g8,hx,hc,hv]) rfl (λ_=>rfl) ((hs _).trans (by simp only[cL,hv];rfl)) (v.slot (x:=y) o.1 λj e=>p j (by rw[<- e];exact List.mem_of_getElem? hv))
 | put h t f s=>
  cases hx:aR M h t with
  | none=>exact .er .empty (by simp only[g8,hx]) (v.em o.1 hx _)
  | some x=>
   obtain⟨c,hc,i,p,hs⟩:=v.at o.1 hx;cases hv:c.fl[f]? with
   | none=>exact .er .iK (by simp only[g8,hx,hc,hv]) ((hs _).trans (by simp only[cL,hv];rfl))
   | some y=>
    have q:=v.cell (c':={ c with fl:=c.fl.set f (aR M h s) }) i hc rfl rfl rfl λz hz=>by
     rcases List.mem_or_eq_of_mem_set hz with w | w
     ·exact p z w
     ·exact v.sl w.symm
    refine .ok _ _ _ _ (show g8 M (.put h t f s)=_ by simp only[g8,hx,hc,hv];rfl) rfl (λz=>I (N:=setCell M x { c with fl:=c.fl.set f (aR M h s) }) z) ((hs _).trans ?_) (q.notes _);simp only[cL,hv,List.map_set,v.row o.2];rfl
 | copy h s t=>
  have q:=v.slot (x:=aR M h t) o.1 λj e=>v.sl e;rw[<- v.row o.2]at q;exact .ok ⟨"copied",nZ M (aR M h t),[]⟩ _ _ _ rfl rfl (λ_=>rfl) (by rw[<- v.row o.2];rfl) q
 | drop h s=>exact .ok ⟨"dropped",nZ M (aR M h s),[]⟩ _ _ _ rfl rfl (λ_=>rfl) (by rw[<- v.row o];rfl) (v.slot (x:=none) o λj e=>nomatch e)
 | give h s g t=>
  have q:=v.slot (x:=aR M h s) o.2 λj e=>v.sl e;rw[<- v.row o.1]at q;exact .ok _ _ _ _ rfl rfl (λz=>I (N:=setSlot M g t (aR M h s)) z) (by show Except.ok (zu S h s,_)=_;rw[<- v.row o.1]) (q.notes _)
 | write h t l=>
  cases hx:aR M h t with
  | none=>exact .er .empty (by simp only[g8,hx]) (v.em o hx _)
  | some x=>
   obtain⟨c,hc,i,p,hs⟩:=v.at o hx;exact .ok ⟨"wrote",some c.load,[]⟩ _ _ _ (by simp only[g8,hx,hc]) rfl (λ_=>rfl) (hs _) (v.cell (c':={ c with load:=l }) i hc rfl rfl rfl p)
 | read h t=>
  cases hx:aR M h t with
  | none=>exact .er .empty (by simp only[g8,hx]) (v.em o hx _)
  | some x=>
   obtain⟨c,hc,i,p,hs⟩:=v.at o hx;exact .ok ⟨"read",some c.load,[]⟩ _ _ _ (by simp only[g8,hx,hc]) rfl (λ_=>rfl) (hs _) v
 | name h t z=>
  cases hx:aR M h t with
  | none=>exact .er .empty (by simp only[g8,hx]) (v.em o hx _)
  | some x=>
   obtain⟨c,hc,i,p,hs⟩:=v.at o hx;exact .ok ⟨"named",some c.birth,[]⟩ _ _ _ (by simp only[g8,hx,hc]) rfl (λ_=>rfl) (hs _) (v.name i hc z)
 | seek h s z=>
  have A:Ze3 S z=(p6 M.names z).map (·.2):=by
   unfold Ze3;rw[v.wo,Zmp]
  cases r:p6 M.names z with
  | none=>exact .er .uQ (by simp only[g8,r]) (by simp only[Zdt,A,r];rfl)
  | some y=>
   obtain⟨a,b⟩:=y;rw[r]at A;have A:Ze3 S z=some b:=A;obtain⟨x,hx,ex⟩:=Option.map_eq_some_iff.mp r;have n:=List.mem_of_find?_eq_some hx;have H:x.2.1=a:=by rw[ex]
   have D:x.2.2=b:=by rw[ex]
   have m:=v.gone n;rw[H,D]at m
   by_cases E:jW M a b=true
   ·exact .gone _ _ ⟨b,m.mp E⟩ (show g8 M (.seek h s z)=.ok (⟨"sought",none,[]⟩,setSlot M h s none) by simp only[g8,r];exact if_pos E) rfl rfl
   ·have B:¬ ct b:=λk=>E (m.mpr k);have i:P a:=by rw[<- H];exact v.nm x n (by rw[D];exact B)
    have L:nZ M (some a)=some b:=by
     obtain⟨h1,h2,K⟩:=v.np x n;rw[H,D]at K;rw[D]at h1 h2;obtain⟨j,d,F,J⟩:=v.al b h1 h2 B;rw[K j d F J]at F;rw[QH F,J]
    have q:=v.slot (x:=some a) o λj e=>by cases e;exact i
    rw[L]at q;exact .ok ⟨"sought",some b,(aQ (setSlot M h s (some a)) [some a]).1⟩ (aQ (setSlot M h s (some a)) [some a]).2 _ _ (by simp only[g8,r];exact if_neg E) rfl (λz=>I (N:=setSlot M h s (some a)) z) (by simp only[Zdt,A]) (q.notes _)
end
section
variable {M M' N:Wm}{S:QZ}{w0 lb:Int}{lw:AE}{P ct:Int->Prop}{e:Ev}
theorem Iv.step(v:Iv w0 P ct M S)(r:lH lb lw M e M')(nl:e.word≠"lost"):∃R D,Iv w0 R D M' S:=by
 have a:=v.tb.step r;have nw:∀{z:Str},M.sw.phase=z->z≠"give"->∀j c,cellAt M j=some c->¬ ct c.birth:=λph n j c hc y=>n (ph.symm.trans ((v.dm j c hc).mp y).1);cases r with
 | begin ph=>
  have l:=nw ph ε;have A:TB w0 (lR M):=by
   obtain⟨a1,a2,L,W,J,Z,X,Q⟩:=v.tb;exact⟨a1,a2,L,by show 1 - M.sw.sense=0\/1 - M.sw.sense=1;omega,J,λz=>absurd z (show ¬ ("walk":Str)="rest" by decide),λz=>absurd z (show ¬ ("walk":Str)="give" by decide),Q⟩
  have B:Iv w0 P ct (lR M) S:=v.sw A ⟨_,rfl⟩ λj c hc=>⟨λz=>absurd z (l j c hc),λz=>absurd z.1 (show ¬ ("walk":Str)="give" by decide)⟩;rw[Ox];exact⟨P,ct,B.notes _⟩
 | walk x g c ph C hc=>
  have B:Iv w0 P ct { M with sw:={ M.sw with grey:=g,walks:=M.sw.walks+1 } } S:=v.sw (v.tb.sb (Sb.nj rfl rfl rfl rfl rfl rfl rfl)) ⟨_,rfl⟩ v.dm;exact⟨P,ct,B.notes _⟩
 | look Y ph C U I=>
  subst I;rw[Ox]at a ⊢;exact⟨P,ct,(v.notes _).sw a ⟨_,rfl⟩ λj c hc=>(v.notes _).dm j c hc⟩
 | cut q K ph C T F p=>
  have N:∀{j:Int}{c:Ce},Rc M j->cellAt M j=some c->c.tone=M.sw.sense:=λr hc=>Rg.cut ph F p r hc;have l:=nw ph ε;have w:∀{j:Int}{c:Ce},cellAt M j=some c->(c.birth∈jT M↔c.tone≠M.sw.sense):=λ{j c} hc=>by
   rw[Zkk];constructor
   ·rintro⟨k,d,h1,h2,O⟩;have:=v.tb.bu k j d c h1 hc h2;rw[this,hc]at h1;cases h1;exact O
   ·exact λh=>⟨j,c,hc,rfl,h⟩
  refine⟨λj=>P j/\Rc M j,λb=>ct b\/b∈jT M,v.mv a rfl rfl rfl rfl ⟨Int.le_refl _,λ_=>rfl⟩ (λj h=>h.1) (λm hm j f=>?_) (λx hx h=>?_) (λb h=>?_) (λj c f hc=>?_) (λj c h=>⟨c,h,rfl,rfl⟩) (λb h _=>h) (λb h=>.inl h) (λj c hc=>?_)⟩
  ·obtain⟨c,h1,_⟩:=v.ce j (v.hd m hm j f);exact⟨v.hd m hm j f,.hand hm f h1⟩
  ·have h1:¬ ct x.2.2:=λz=>h (.inl z);obtain⟨n1,n2,n3⟩:=v.np x hx;obtain⟨j,c,i,s⟩:=v.al _ n1 n2 h1;have e:=n3 j c i s;rw[e]at i;refine⟨v.nm x hx h1,.name hx i s (Decidable.byContradiction λz=>h (.inr ?_))⟩;rw[<- s];exact(w i).mpr z
  ·rcases h with h | h
   ·exact v.cb b h
   ·obtain⟨j,c,h1,rfl,_⟩:=Zkk.mp h;exact(v.tb.bn j c h1).2
  ·obtain⟨c0,i,_,t,_⟩:=v.ce j f.1;rw[hc]at i;cases i;refine⟨c,hc,rfl,rfl,rfl,λz=>?_,λy hy=>?_⟩
   ·rcases z with z | z
    ·exact l j c hc z
    ·exact(w hc).mp z (N f.2 hc)
   ·obtain⟨d,h1,_⟩:=v.ce y (t y hy);exact⟨t y hy,.via f.2 hc hy h1⟩
  ·have hc:cellAt M j=some c:=hc;constructor
   ·rintro(z | z)
    ·exact absurd z (l j c hc)
    ·exact⟨rfl,(w hc).mp z⟩
   ·exact λz=>.inr ((w hc).mpr z.2)
 | lost q K j x c u ph C T F hx p hc E=>exact absurd rfl nl
 | pass ph lt hp=>exact⟨P,ct,v.sw a ⟨_,rfl⟩ v.dm⟩
 | back c ph lt hc E=>
  have o:ct c.birth:=(v.dm _ c hc).mpr ⟨ph,E⟩;have hb:=v.bk _ c hc;have H:∀j,P j->j≠M.sw.at':=λj f e=>by
   obtain⟨d,h1,h2,_⟩:=v.ce j f;rw[e,hc]at h1;cases h1;exact h2 o
  refine⟨P,ct,v.mv a rfl rfl rfl rfl ⟨by show M.used - _<=M.used;omega,λz=>absurd o (z _)⟩ (λ_ h=>h) v.hd v.nm v.cb (λj d f hd=>?_) (λj d h=>⟨d,(Zfp hc h).2,rfl,rfl⟩) (λb ⟨j,d,h1,h2⟩ hn=>?_) (λ_ h=>h) (λj d h=>v.dm j d (Zfp hc h).2)⟩
  ·obtain⟨V,i,s,t,_⟩:=v.ce j f;rw[hd]at i;cases i;exact⟨d,by rw[Zfq hc (H j f)];exact hd,rfl,rfl,rfl,s,t⟩
  ·refine⟨j,d,?_,h2⟩;rw[Zfq hc (λe=>hn (by rw[e,hc]at h1;cases h1;rw[<- h2];exact o))];exact h1
 | fin ph lt=>
  refine⟨P,ct,v.sw a ⟨_,rfl⟩ λj c hc=>⟨λz=>?_,λz=>absurd z.1 (show ¬ ("rest":Str)="give" by decide)⟩⟩;have h1:=(v.dm j c hc).mp z;have:=v.tb.gv ph j c hc h1.2;omega
 | again ph=>exact absurd rfl nl
end
def ddB:Bo->Bool
 | .sw _=>false
 | .dd _=>true
theorem Ma.iv{M c:Wm}{n:Nat}{b:List Rz}(h:Ma M n b c)(z:ig b=false){S:QZ}{w0:Int}{P ct:Int->Prop}(v:Iv w0 P ct M S):∃d a,Iv w0 d a c S:=by
 induction h generalizing P ct with
 | stop M=>exact⟨P,ct,v⟩
 | lost r l=>exact absurd l (of_decide_eq_false z)
 | @go M N c n e b r l h ih=>
  obtain⟨d,a,f⟩:=v.step r l;refine ih ?_ f;cases b with
  | nil=>rfl
  | cons y k=>exact z
theorem Ma.kw{M a:Wm}{n:Nat}{b:List Rz}(h:Ma M n b a){hs:uz}{k:Nat}(p:KW M hs k):KW a hs k:=by
 induction h with
 | stop M=>exact p
 | lost r l=>exact p.step r
 | go r l h ih=>exact ih (p.step r)
theorem qi.ne{M c:Wm}{r:Bo}{rs:List Bo}{d:List (List Rz)}(h:qi M (r::rs) d c):∃b a,d=b::a/\((ig b=true/\a=[])\/ig b=false)/\(ig b=true->a=[])/\∃N,Ze0 M r b N/\(ig b=false->qi N rs a c):=by
 cases h with
 | lost h z=>exact⟨_,_,rfl,.inl ⟨z,rfl⟩,λ_=>rfl,_,h,λy=>by rw[z]at y;cases y⟩
 | go h z g=>exact⟨_,_,rfl,.inr z,(λy=>by rw[z]at y;cases y),_,h,λ_=>g⟩
def Cmp(rs:List Bo)(w l:List (List Rz)):Prop:=∃(hs:uz) (w0:Int) (P c ct:Int->Prop) (S:QZ) (M W b a:Wm) (k:Nat),(∀r∈rs,okW hs r)/\KW M hs k/\KW W hs k/\Iv w0 P ct M S/\Iv w0 c (λ_=>False) W S/\W.sw.phase=("rest":Str)/\qi M rs w b/\qi W (rs.filter λr=>ddB r) l a
def Zmj(rs:List Bo)(w l:List (List Rz)):Prop:=w=[]\/Cmp rs w l
theorem W8(M:Wm)(d:iV):ig [Hj (g8 M d)]=false:=decide_eq_false (Zj2 M d)
theorem Cmp.sw{n:Nat}{rs:List Bo}{w l:List (List Rz)}(c:Cmp (.sw n::rs) w l):∃e a,w=e::a/\Zmj rs a l:=by
 obtain⟨hs,w0,P,p,ct,S,M,W,o,f,k,ok,g,kw,h,m,ph,rm,d⟩:=c;obtain⟨e,a,rfl,z,_,N,ro,go⟩:=rm.ne;refine⟨e,a,rfl,?_⟩;rcases z with ⟨_,z⟩ | z
 ·exact .inl z
 ·obtain⟨i,b,j⟩:=Ma.iv ro z h;exact .inr ⟨hs,w0,i,p,b,S,N,W,o,f,k,λr hr=>ok r (List.mem_cons_of_mem _ hr),Ma.kw ro g,kw,j,m,ph,go z,d⟩
theorem Zhx{M a:Wm}{d:iV}{e:Ev}(h:g8 M d=.ok (e,a)):a.sw.phase=M.sw.phase:=by
 obtain⟨g,h⟩:=Zfg h;rw[h]
theorem Zmb{S a:QZ}{d:iV}{t:AA}(h:Zdt S d=.ok (t,a))(w:Zit d="sought"):t≠none:=by
 cases d with
 | seek b s z=>
  simp only[Zdt]at h;split at h
  ·cases h
  ·cases h;exact λy=>nomatch y
 | _=>exact absurd w (by dsimp only[Zit];decide)
theorem Cmp.dd{d:iV}{rs:List Bo}{w l:List (List Rz)}(c:Cmp (.dd d::rs) w l):∃x y q p,w=[x]::q/\l=[y]::p/\(∃M,x=Hj (g8 M d))/\(∃M,y=Hj (g8 M d))/\y.2.2=[]/\¬ (y.1="sought"/\y.2.1=.non)/\((y.1="refused"/\y.2.1=.str "full")\/(x.1="sought"/\x.2.1=.non)\/(x.1=y.1/\x.2.1=y.2.1/\Zmj rs q p)):=by
 obtain⟨hs,w0,P,T,ct,S,M,W,E,s,k,ok,t,kw,u,C,ph,rm,g⟩:=c;obtain⟨L,q,rfl,_,_,N,⟨rfl,rfl⟩,go⟩:=rm.ne;have g:qi W (.dd d::rs.filter λr=>ddB r) l s:=g;obtain⟨L,p,rfl,_,_,V,⟨rfl,rfl⟩,i⟩:=g.ne;have od:okR hs d:=ok (.dd d) (List.mem_cons_self ..);have m:∀r∈rs,okW hs r:=λr hr=>ok r (List.mem_cons_of_mem _ hr);refine⟨_,_,q,p,rfl,rfl,⟨M,rfl⟩,⟨W,rfl⟩,?_⟩;have go:=go (W8 M d);have i:=i (W8 W d);have n:=t.turn od;have o:=kw.turn od;have U:∀b:Int,¬ (λ_:Int=>False) b:=λ_ h=>h;rcases C.deed (kw.okD od)with ⟨⟨b,h⟩,_⟩ | ⟨r,h1,h2⟩ | ⟨_,_,⟨b,h⟩,_⟩ | ⟨e,O,F,A,h1,B,h4,h2,K⟩
 ·exact h.elim
 ·rw[h1]at i o ⊢;refine⟨rfl,λz=>absurd z.1 (show ¬ ("refused":Str)="sought" by decide),?_⟩;rcases u.deed (t.okD od)with ⟨_,a⟩ | ⟨R,f,a⟩ | ⟨e,N,_,f,a,j⟩ | ⟨e,M1,F,A,f,_,_,a,_⟩
  ·rw[h2]at a;cases a;exact .inl ⟨rfl,rfl⟩
  ·rw[h2]at a;cases a;rw[f]at go n ⊢;exact .inr (.inr ⟨rfl,rfl,.inr ⟨hs,w0,P,T,ct,S,M,W,E,s,k+1,m,n,o,u,C,ph,go,i⟩⟩)
  ·rw[f];refine .inr (.inl ⟨a,?_⟩);show oV e.thing=_;rw[j];rfl
  ·rw[h2]at a;cases a
 ·exact h.elim
 ·rw[h1]at i o ⊢;refine⟨h4 ph,λz=>?_,?_⟩
  ·have z1:e.word="sought":=z.1;have D:oV e.thing=.non:=z.2;refine Zmb h2 (B.symm.trans z1) ?_;cases J:e.thing with
   | none=>rfl
   | some x=>rw[J]at D;cases D
  ·rcases u.deed (t.okD od)with ⟨_,a⟩ | ⟨R,f,a⟩ | ⟨v,N,_,f,a,j⟩ | ⟨v,M1,X,P3,f,j,_,a,H⟩
   ·rw[h2]at a;cases a
   ·rw[h2]at a;cases a
   ·rw[f];refine .inr (.inl ⟨a,?_⟩);show oV v.thing=_;rw[j];rfl
   ·rw[h2]at a;obtain⟨Q,I⟩:=Prod.mk.inj (Except.ok.inj a);subst I;rw[f]at go n ⊢;refine .inr (.inr ⟨j.trans B.symm,?_,.inr ⟨hs,w0,P3,A,ct,F,M1,O,E,s,k+1,m,n,o,H,K,(Zhx h1).trans ph,go,i⟩⟩);show oV v.thing=oV e.thing;rw[Q]
theorem Cmp.new{hs:uz}{m w t:Int}{rs:List Bo}{lw k:List (List Rz)}{i f:Wm}(e:0<=t)(t1:t<4)(ok:∀r∈rs,okW hs r)(a:qi (wV m hs w t) rs lw i)(b:qi (wV m hs w t) (rs.filter λr=>ddB r) k f):Cmp rs lw k:=by
 have g:∀j,cellAt (wV m hs w t) j=none:=λj=>by
  unfold cellAt;split
  ·show(([]:List (Option Ce))[_]?).join=_;rfl
  ·rfl
 have hn:∀x∈(wV m hs w t).hands,∀j,some j∉x.2:=λx hx j d=>by
  obtain⟨y,_,rfl⟩:=List.mem_map.mp hx;cases List.eq_of_mem_replicate d
 have v:Iv w (λ_=>False) (λ_=>False) (wV m hs w t) ⟨m,0,0,rowsOf (wV m hs w t),λ_=>none,[]⟩:=by
  refine⟨TB.new,λx hx j d=>hn x hx j d,(λx hx=>nomatch hx),λj h=>h.elim,λb h1 h2=>?_,λb h=>h.elim,λj c h=>?_,(λx hx=>nomatch hx),rfl,rfl,rfl,rfl,⟨Int.le_refl _,λ_=>rfl⟩,λj c h=>?_⟩
  ·have:b<=0:=h2;omega
  ·rw[g]at h;cases h
  ·rw[g]at h;cases h
 exact⟨hs,w,_,_,_,_,_,_,i,f,0,ok,KW.new e t1,KW.new e t1,v,v,rfl,a,b⟩
def wh(M:Wm)(x:AA):Prop:=∃i c,x=some i/\cellAt M i=some c/\c.tone≠M.sw.sense
structure Wt(M N:Wm):Prop where
 ph:N.sw.phase=M.sw.phase
 se:N.sw.sense=M.sw.sense
 lk:N.sw.looked=M.sw.looked
 ww:N.w=M.w
 tl:N.tells=M.tells
 hd:N.hands=M.hands
 gr:∀i∈M.sw.grey,i∈N.sw.grey
 ce:∀i c',cellAt N i=some c'->∃c,cellAt M i=some c/\c'.fl=c.fl/\(c'.tone=c.tone\/(M.sw.phase="walk"/\c'.tone=M.sw.sense/\i∈N.sw.grey))
section
variable {M N:Wm}
theorem Wt.refl(M:Wm):Wt M M:=⟨rfl,rfl,rfl,rfl,rfl,rfl,λ_ h=>h,λi c h=>⟨c,h,rfl,.inl rfl⟩⟩
theorem Wt.trans{P:Wm}(a:Wt M N)(b:Wt N P):Wt M P:=by
 refine⟨b.ph.trans a.ph,b.se.trans a.se,b.lk.trans a.lk,b.ww.trans a.ww,b.tl.trans a.tl,b.hd.trans a.hd,λi h=>b.gr i (a.gr i h),λi m h=>?_⟩;obtain⟨e,h1,g,t1⟩:=b.ce i m h;obtain⟨c,j,k,d⟩:=a.ce i e h1;refine⟨c,j,g.trans k,?_⟩;rw[a.ph,a.se]at t1;rcases t1 with t1 | t1
 ·rcases d with d | ⟨f,d,l⟩
  ·exact .inl (t1.trans d)
  ·exact .inr ⟨f,t1.trans d,b.gr i l⟩
 ·exact .inr t1
theorem Wt.note(M:Wm)(x:AA):Wt M (bI M x).2:=by
 cases x with
 | none=>exact Wt.refl M
 | some i=>
  unfold bI;dsimp only;cases hc:cellAt M i with
  | none=>exact Wt.refl M
  | some c=>
   dsimp only;split
   ·rename_i z
    refine⟨rfl,rfl,rfl,rfl,rfl,rfl,λj a=>List.mem_append.mpr (.inl a),λj d hd=>?_⟩;have hd:cellAt (setCell M i { c with tone:=M.sw.sense }) j=some d:=hd;rw[cN hc]at hd
    by_cases e:j=i
    ·rw[if_pos e]at hd;cases hd;subst e;exact⟨c,hc,rfl,.inr ⟨z.1,rfl,List.mem_append.mpr (.inr ζ)⟩⟩
    ·rw[if_neg e]at hd;exact⟨d,hd,rfl,.inl rfl⟩
   ·exact Wt.refl M
theorem Wt.notes:∀(l:Au) (M:Wm),Wt M (aQ M l).2
 | [],M=>Wt.refl M
 | x::l,M=>(Wt.note M x).trans (Wt.notes l _)
theorem Wt.up(h:Wt M N){x:AA}(w:wh N x):wh M x:=by
 obtain⟨i,b,e,h1,h2⟩:=w;obtain⟨c,a,_,t⟩:=h.ce i b h1;rw[h.se]at h2;rcases t with t | t
 ·exact⟨i,c,e,a,by rw[<- t];exact h2⟩
 ·exact absurd t.2.1 h2
theorem Zk7(ph:M.sw.phase="walk")(x:AA):¬ wh (bI M x).2 x:=by
 rintro⟨i,a,rfl,h1,h2⟩;unfold bI at h1 h2;dsimp only at h1 h2;cases hc:cellAt M i with
 | none=>
  rw[hc]at h1;have h1:cellAt M i=some a:=h1;rw[hc]at h1;cases h1
 | some c=>
  rw[hc]at h1 h2;dsimp only at h1 h2
  by_cases z:c.tone≠M.sw.sense
  ·rw[if_pos ⟨ph,z⟩]at h1 h2;have h1:cellAt (setCell M i { c with tone:=M.sw.sense }) i=some a:=h1;rw[cN hc,if_pos rfl]at h1;cases h1;exact h2 rfl
  ·rw[if_neg (λy=>z y.2)]at h1 h2;have h1:cellAt M i=some a:=h1;rw[hc]at h1;cases h1;exact z h2
theorem lq(l:Au):∀(M:Wm),M.sw.phase="walk"->∀x∈l,¬ wh (aQ M l).2 x:=by
 induction l with
 | nil=>intro M ph x hx;cases hx
 | cons y l ih=>
  intro M ph x hx w;have w:wh (aQ (bI M y).2 l).2 x:=w;rcases List.mem_cons.mp hx with e | hx
  ·subst e;exact Zk7 ph x ((Wt.notes l _).up w)
  ·exact ih _ ((Wt.note M y).ph.trans ph) x hx w
theorem Zgv(ph:M.sw.phase="walk"){x:AA}(h:(bI M x).1=none):(bI M x).2=M/\¬ wh M x:=by
 cases x with
 | none=>exact⟨rfl,(by rintro ⟨_,_,e,_⟩;exact nomatch e)⟩
 | some i=>
  unfold bI at h ⊢;dsimp only at h ⊢;cases hc:cellAt M i with
  | none=>exact⟨rfl,(by rintro ⟨j,c,e,h1,_⟩;cases e;rw[hc]at h1;cases h1)⟩
  | some c=>
   rw[hc]at h;dsimp only at h ⊢
   by_cases z:c.tone≠M.sw.sense
   ·rw[if_pos ⟨ph,z⟩]at h;cases h
   ·rw[if_neg (λy=>z y.2)];exact⟨rfl,(by rintro ⟨j,d,e,h1,h2⟩;cases e;rw[hc]at h1;cases h1;exact z h2)⟩
theorem Zgu(l:Au):∀(M:Wm),M.sw.phase="walk"->(aQ M l).1=[]->∀x∈l,¬ wh M x:=by
 induction l with
 | nil=>intro M ph h x hx;cases hx
 | cons y l ih=>
  intro M ph h x hx;have h:ZV (bI M y).1++(aQ (bI M y).2 l).1=[]:=h;obtain⟨h1,h2⟩:=List.append_eq_nil_iff.mp h;have hn:(bI M y).1=none:=by
   cases e:(bI M y).1 with
   | none=>rfl
   | some b=>rw[e]at h1;cases h1
  obtain⟨a,nw⟩:=Zgv ph hn;rw[a]at h2;rcases List.mem_cons.mp hx with e | hx
  ·rw[e];exact nw
  ·exact ih M ph h2 x hx
theorem Zmn{i:Int}{c c':Ce}(h:cellAt M i=some c)(a:c'.tone=c.tone){y:AA}(w:wh (setCell M i c') y):wh M y:=by
 obtain⟨k,d,e,h1,h2⟩:=w;rw[cN h]at h1
 by_cases z:k=i
 ·rw[if_pos z]at h1;cases h1;exact⟨k,c,e,by rw[z];exact h,by rw[<- a];exact h2⟩
 ·rw[if_neg z]at h1;exact⟨k,d,e,h1,h2⟩
theorem N7{n j:Nat}(h:j<n):((2:Int) ^ n - 1) / 2 ^ j % 2=1:=by
 have h1:=Nat.testBit_two_pow_sub_one n j;rw[Nat.testBit_eq_decide_div_mod_eq,decide_eq_true h]at h1;have h2:(2 ^ n - 1) / 2 ^ j % 2=1:=of_decide_eq_true h1;have a:1<=2 ^ n:=Nat.one_le_two_pow;have e:((2:Int) ^ n - 1)=((2 ^ n - 1:Nat):Int):=by rw[Int.natCast_sub a];simp
 rw[e];have:(((2 ^ n - 1) / 2 ^ j % 2:Nat):Int)=1:=by rw[h2];rfl
 rw[<- this];simp
theorem Zos{F:KB.Fd}{R:KB.Rw}{P:Int->Prop}(c:∀row∈R,∀y,some y∈row->P y)(h1:∀y fl,P y->KB.J2 F y=some fl->∀z,some z∈fl->P z){q l:List (Int×AE)}{k:Nat}(b:KB.Mg F R q k l):(∀x∈q,P x.1)/\∀x∈l,P x.1:=by
 induction b with
 | start=>
  refine⟨λx hx=>?_,λx hx=>nomatch hx⟩;obtain⟨⟨row,n⟩,hm,h⟩:=List.mem_flatMap.mp hx;obtain⟨k,hk,_,_⟩:=KB.zg (q:=x.1) (v:=x.2) h;exact c row (List.mem_of_getElem? (List.mem_zipIdx_iff_getElem?.mp hm)) x.1 (List.mem_of_getElem? hk)
 | old _ _ _ ih=>exact ih
 | @new q k l y w fl b hq hn d ih=>
  have a:P y:=ih.1 _ (List.mem_of_getElem? hq);refine⟨λx hx=>?_,λx hx=>?_⟩
  ·rcases List.mem_append.mp hx with hx | hx
   ·exact ih.1 x hx
   ·obtain⟨k,hk,_,_⟩:=KB.zg (q:=x.1) (v:=x.2) hx;exact h1 y fl a d x.1 (List.mem_of_getElem? hk)
  ·rcases List.mem_append.mp hx with hx | hx
   ·exact ih.2 x hx
   ·rw[List.mem_singleton.mp hx];exact a
end
inductive Gd(M:Wm):Int->Prop
 | grey {i j:Int}{c:Ce}:i∈M.sw.grey->cellAt M i=some c->some j∈c.fl->Gd M j
 | via {i j:Int}{c:Ce}:Gd M i->cellAt M i=some c->c.tone≠M.sw.sense->some j∈c.fl->Gd M j
structure Wu(M N:Wm):Prop where
 se:N.sw.sense=M.sw.sense
 gr:∀i∈M.sw.grey,i∈N.sw.grey
 ce:∀i c,cellAt M i=some c->∃c',cellAt N i=some c'/\c'.fl=c.fl/\(c'.tone=c.tone\/(c'.tone=M.sw.sense/\i∈N.sw.grey))
section
variable {M N:Wm}
theorem Wu.refl(M:Wm):Wu M M:=⟨rfl,λ_ h=>h,λi c h=>⟨c,h,rfl,.inl rfl⟩⟩
theorem Wu.trans{P:Wm}(a:Wu M N)(b:Wu N P):Wu M P:=by
 refine⟨b.se.trans a.se,λi h=>b.gr i (a.gr i h),λi c h=>?_⟩;obtain⟨e,h1,f,t1⟩:=a.ce i c h;obtain⟨j,h2,d,t2⟩:=b.ce i e h1;refine⟨j,h2,d.trans f,?_⟩;rw[a.se]at t2;rcases t2 with t2 | t2
 ·rcases t1 with t1 | ⟨t1,g⟩
  ·exact .inl (t2.trans t1)
  ·exact .inr ⟨t2.trans t1,b.gr i g⟩
 ·exact .inr t2
theorem Wu.note(M:Wm)(x:AA):Wu M (bI M x).2:=by
 cases x with
 | none=>exact Wu.refl M
 | some i=>
  unfold bI;dsimp only;cases hc:cellAt M i with
  | none=>exact Wu.refl M
  | some c=>
   dsimp only;split
   ·refine⟨rfl,λj a=>List.mem_append.mpr (.inl a),λj d hd=>?_⟩;show ∃b,cellAt (setCell M i { c with tone:=M.sw.sense }) j=some b/\_;rw[cN hc]
    by_cases e:j=i
    ·rw[if_pos e];rw[e,hc]at hd;cases hd;exact⟨_,rfl,rfl,.inr ⟨rfl,List.mem_append.mpr (.inr (by simp[e]))⟩⟩
    ·rw[if_neg e];exact⟨d,hd,rfl,.inl rfl⟩
   ·exact Wu.refl M
theorem Wu.notes:∀(l:Au) (M:Wm),Wu M (aQ M l).2
 | [],M=>Wu.refl M
 | x::l,M=>(Wu.note M x).trans (Wu.notes l _)
theorem Gd.wu(h:Wu M N){j:Int}(g:Gd M j):Gd N j:=by
 induction g with
 | grey hi hc a=>
  obtain⟨d,h1,b,_⟩:=h.ce _ _ hc;exact .grey (h.gr _ hi) h1 (by rw[b];exact a)
 | via g hc e a ih=>
  obtain⟨d,h1,b,t1⟩:=h.ce _ _ hc;rcases t1 with t1 | ⟨_,c⟩
  ·exact .via ih h1 (by rw[t1,h.se];exact e) (by rw[b];exact a)
  ·exact .grey c h1 (by rw[b];exact a)
theorem Gd.walk{x:Int}{g:AE}{c:Ce}(ph:M.sw.phase="walk")(n:M.sw.grey=x::g)(hc:cellAt M x=some c){j:Int}(f:Gd M j)(w:wh (aQ { M with sw:={ M.sw with grey:=g,walks:=M.sw.walks+1 } } c.fl).2 (some j)):Gd (aQ { M with sw:={ M.sw with grey:=g,walks:=M.sw.walks+1 } } c.fl).2 j:=by
 have U:=Wu.notes c.fl { M with sw:={ M.sw with grey:=g,walks:=M.sw.walks+1 } };have h:∀{j:Int},Gd M j->Gd (aQ { M with sw:={ M.sw with grey:=g,walks:=M.sw.walks+1 } } c.fl).2 j\/some j∈c.fl:=λ{j} f=>by
  induction f with
  | @grey i j d hi hd a=>
   obtain⟨m,h1,b,_⟩:=U.ce i d hd;rw[n]at hi;rcases List.mem_cons.mp hi with e | hi
   ·rw[e,hc]at hd;cases hd;exact .inr a
   ·exact .inl (.grey (U.gr i hi) h1 (by rw[b];exact a))
  | @via i j d p hd l a ih=>
   obtain⟨m,h1,b,t1⟩:=U.ce i d hd;rcases t1 with t1 | ⟨_,o⟩
   ·rcases ih with ih | ih
    ·exact .inl (.via ih h1 (by rw[t1,U.se];exact l) (by rw[b];exact a))
    ·exact absurd (show wh _ (some i)from⟨i,m,rfl,h1,by rw[t1,U.se];exact l⟩) (lq c.fl { M with sw:={ M.sw with grey:=g,walks:=M.sw.walks+1 } } ph (some i) ih)
   ·exact .inl (.grey o h1 (by rw[b];exact a))
 rcases h f with k | k
 ·exact k
 ·exact absurd w (lq c.fl { M with sw:={ M.sw with grey:=g,walks:=M.sw.walks+1 } } ph (some j) k)
theorem Gd.none(a:M.sw.grey=[]){j:Int}(g:Gd M j):False:=by
 induction g with
 | grey hi _ _=>rw[a]at hi;cases hi
 | via _ _ _ _ ih=>exact ih
theorem Zck{b:Type}{l:List b}{f:Nat}{a y:b}(h:a∈l):a∈l.set f y\/l[f]? =some a:=by
 obtain⟨n,hn,e⟩:=List.getElem_of_mem h
 by_cases z:f=n
 ·subst z;exact .inr (by rw[bL hn,e])
 ·refine .inl (List.mem_of_getElem? (i:=n) ?_);rw[List.getElem?_set_ne z,bL hn,e]
theorem Gd.put{i:Int}{c:Ce}{f:Nat}{v y:AA}{l:Au}(ph:M.sw.phase="walk")(hc:cellAt M i=some c)(hv:c.fl[f]? =some v)(hl:v∈l){j:Int}(m:Gd M j)(w:wh (aQ Φ l).2 (some j)):Gd (aQ Φ l).2 j:=by
 have U:=Wu.notes l Φ;have q:¬ wh (aQ Φ l).2 v:=lq l Φ ph v hl;have ce:∀(k:Int) (d:Ce),cellAt M k=some d->∃b,cellAt (aQ Φ l).2 k=some b/\(∀a∈d.fl,a∈b.fl\/a=v)/\(b.tone=d.tone\/k∈(aQ Φ l).2.sw.grey):=λk d hd=>by
  have h1:=cN (c':={ c with fl:=c.fl.set f y }) hc k
  by_cases e:k=i
  ·rw[if_pos e]at h1;rw[e,hc]at hd;cases hd;obtain⟨b,h2,n,t2⟩:=U.ce k _ h1;refine⟨b,h2,λa o=>?_,?_⟩
   ·rcases Zck (f:=f) (y:=y) o with z | z
    ·exact .inl (by rw[n];exact z)
    ·rw[hv]at z;exact .inr (Option.some.inj z).symm
   ·rcases t2 with t2 | t2
    ·exact .inl t2
    ·exact .inr t2.2
  ·rw[if_neg e]at h1;obtain⟨b,h2,n,t2⟩:=U.ce k d (h1.trans hd);refine⟨b,h2,λa o=>.inl (by rw[n];exact o),?_⟩;rcases t2 with t2 | t2
   ·exact .inl t2
   ·exact .inr t2.2
 have p:∀{j:Int},Gd M j->Gd (aQ Φ l).2 j\/some j=v:=λ{j} m=>by
  induction m with
  | @grey k j d hk hd g=>
   obtain⟨b,h1,h,_⟩:=ce k d hd;rcases h _ g with z | z
   ·exact .inl (.grey (U.gr k hk) h1 z)
   ·exact .inr z
  | @via k j d t hd s g ih=>
   obtain⟨b,h1,h,t1⟩:=ce k d hd;rcases h _ g with z | z
   ·rcases t1 with t1 | t1
    ·have r:b.tone≠(aQ Φ l).2.sw.sense:=by rw[t1,U.se];exact s
     rcases ih with ih | ih
     ·exact .inl (.via ih h1 r z)
     ·exact absurd (show wh _ v from⟨k,b,ih.symm,h1,r⟩) q
    ·exact .inl (.grey t1 h1 z)
   ·exact .inr z
 rcases p m with k | k
 ·exact k
 ·rw[k]at w;exact absurd w q
theorem Wt.cell{i:Int}{c c':Ce}(h:cellAt M i=some c)(b:c'.tone=c.tone)(a:c'.fl=c.fl):Wt M (setCell M i c'):=by
 refine⟨rfl,rfl,rfl,rfl,rfl,rfl,λ_ h=>h,λk d hd=>?_⟩;rw[cN h]at hd
 by_cases e:k=i
 ·rw[if_pos e]at hd;cases hd;exact⟨c,by rw[e];exact h,a,.inl b⟩
 ·rw[if_neg e]at hd;exact⟨d,hd,rfl,.inl rfl⟩
theorem Wu.cell{i:Int}{c c':Ce}(h:cellAt M i=some c)(b:c'.tone=c.tone)(a:c'.fl=c.fl):Wu M (setCell M i c'):=by
 refine⟨rfl,λ_ h=>h,λk d hd=>?_⟩;rw[cN h]
 by_cases e:k=i
 ·rw[if_pos e];rw[e,h]at hd;cases hd;exact⟨c',rfl,a,.inl b⟩
 ·rw[if_neg e];exact⟨d,hd,rfl,.inl rfl⟩
theorem Z9{h s k:Nat}{x:AA}{m:Str×Au}(hm:(setSlot M h s x).hands[k]? =some m):∃a,M.hands[k]? =some a/\∀y∈m.2,y∈a.2\/(k=h/\y=x):=by
 have b:(M.hands.modify h λm=>(m.1,m.2.set s x))[k]? =some m:=hm;rw[List.getElem?_modify]at b;cases em:M.hands[k]? with
 | none=>rw[em]at b;cases b
 | some a=>
  rw[em]at b;refine⟨a,rfl,λy hy=>?_⟩
  by_cases z:h=k
  ·have e3:(a.1,a.2.set s x)=m:=by simpa[z]using b
   rw[<- e3]at hy;rcases List.mem_or_eq_of_mem_set (show y∈a.2.set s x from hy)with w | w
   ·exact .inl w
   ·exact .inr ⟨z.symm,w⟩
  ·have e3:a=m:=by simpa[z]using b
   exact .inl (by rw[e3];exact hy)
theorem Wh{x y:Int}(hx:0<=x)(hy:0<=y):Builtin.bitOr x y=((x.toNat ||| y.toNat:Nat):Int):=by
 have e:∀z:Int,Builtin.bitNot (Builtin.bitNot z)=z:=λz=>by unfold Builtin.bitNot;omega
 have n1:decide (0<=Builtin.bitNot x)=false:=decide_eq_false (by unfold Builtin.bitNot;omega);have n2:decide (0<=Builtin.bitNot y)=false:=decide_eq_false (by unfold Builtin.bitNot;omega);unfold Builtin.bitOr Builtin.bitAnd;rw[n1,n2];show Builtin.bitNot (Builtin.bitNot _)=_;rw[e,e,e]
theorem YB(a h:Nat):(((a:Nat):Int) / 2 ^ h % 2=1)↔a.testBit h=true:=by
 rw[Nat.testBit_eq_decide_div_mod_eq,decide_eq_true_iff];have:((a:Nat):Int) / 2 ^ h % 2=((a / 2 ^ h % 2:Nat):Int):=ζ
 rw[this];omega
theorem Zsl{x y:Int}(hx:0<=x)(hy:0<=y)(h:Nat):(Builtin.bitOr x y / 2 ^ h % 2=1)↔(x / 2 ^ h % 2=1\/y / 2 ^ h % 2=1):=by
 rw[Wh hx hy,YB,Nat.testBit_or,Bool.or_eq_true,<- YB,<- YB,Int.toNat_of_nonneg hx,Int.toNat_of_nonneg hy]
theorem Hz(x:Int):∀(n i:Nat),(lsE x i n=0/\∀k,i<=k->k<i+n->x / 2 ^ k % 2≠0)\/∃k,i<=k/\k<i+n/\lsE x i n=2 ^ k
 | 0,i=>.inl ⟨rfl,λk h1 h2=>δ⟩
 | n+1,i=>by
  unfold lsE
  by_cases z:x / 2 ^ i % 2=0
  ·rw[if_pos z];exact .inr ⟨i,Nat.le_refl _,δ,rfl⟩
  ·rw[if_neg z];rcases Hz x n (i+1)with ⟨h1,h2⟩ | ⟨k,h1,h2,c⟩
   ·refine .inl ⟨h1,λk a b=>?_⟩
    by_cases e:k=i
    ·rw[e];exact z
    ·exact h2 k δ δ
   ·exact .inr ⟨k,δ,δ,c⟩
theorem O5{b:Int}(l:List (Str×Au)):∀(k i:Nat) (m:Str×Au) (x:AA),l[i]? =some m->x∈m.2->b / 2 ^ (k+i) % 2=1->x∈nhL b l k:=by
 induction l with
 | nil=>intro k i m x h;cases h
 | cons a l ih=>
  intro k i m x h hx hb;unfold nhL;cases i with
  | zero=>
   cases h;rw[Nat.add_zero]at hb;rw[if_pos hb];exact List.mem_append.mpr (.inl hx)
  | succ i=>
   have r:=ih (k+1) i m x h hx (by rw[show k+1+i=k+(i+1) by omega];exact hb);split
   ·exact List.mem_append.mpr (.inr r)
   ·exact r
end
structure qx(M:Wm):Prop where
 nl:M.sw.phase≠"lost"
 kd:(M.w=2/\M.tells / 2 % 2=1)\/(M.w≠2/\M.tells % 2=1/\(M.w=0\/(M.w=1/\M.tells / 2 % 2=1)))
 lk:M.sw.phase="walk"->0<=M.sw.looked/\(M.w=0->∀h m,M.hands[h]? =some m->bO M h=true)/\(M.w=2->M.sw.looked=0)
 gf:M.sw.phase="walk"->∀i c,cellAt M i=some c->c.tone=M.sw.sense->i∉M.sw.grey->∀j,some j∈c.fl->wh M (some j)->M.w≠2/\Gd M j
 gh:M.sw.phase="walk"->∀h m,M.hands[h]? =some m->bO M h=true->∀j,some j∈m.2->wh M (some j)->Gd M j
section
variable {M M' N:Wm}{w0:Int}
theorem qx.nw(a:M.sw.phase≠"walk")(nl:M.sw.phase≠"lost")(kd:(M.w=2/\M.tells / 2 % 2=1)\/(M.w≠2/\M.tells % 2=1/\(M.w=0\/(M.w=1/\M.tells / 2 % 2=1)))):qx M:=⟨nl,kd,λz=>absurd z a,λz=>absurd z a,λz=>absurd z a⟩
theorem qx.sl(p:qx M)(b:M.sw.phase="walk"){h k:Nat}(lo:bO M h=true){j:Int}(e:aR M h k=some j)(w:wh M (some j)):Gd M j:=by
 obtain⟨m,hm,a⟩:=slot_mem e;exact p.gh b h m hm lo j a w
theorem qx.l2(p:qx M)(a:M.sw.phase="walk"){h:Nat}(lo:bO M h=true):M.w≠2:=λz=>by
 unfold bO at lo;rw[(p.lk a).2.2 z,Int.zero_ediv]at lo;cases lo
theorem qx.of(p:qx M)(W:Wt N M')(x:N.sw.phase=M.sw.phase)(q:N.sw.sense=M.sw.sense)(e3:N.sw.looked=M.sw.looked)(u:N.w=M.w)(v:N.tells=M.tells)(r:∀(h:Nat) m,N.hands[h]? =some m->∃n,M.hands[h]? =some n)
  (gf:M.sw.phase="walk"->∀i c,cellAt N i=some c->c.tone=M.sw.sense->i∉M'.sw.grey->∀j,some j∈c.fl->wh M' (some j)->M.w≠2/\Gd M' j)
  (gh:M.sw.phase="walk"->∀(h:Nat) m,N.hands[h]? =some m->bO M h=true->∀j,some j∈m.2->wh M' (some j)->Gd M' j):qx M':=by
 have ph:M'.sw.phase=M.sw.phase:=W.ph.trans x;have lo:∀k,bO M' k=bO M k:=λk=>by unfold bO;rw[W.lk,e3]
 have ww:M'.w=M.w:=W.ww.trans u;refine⟨by rw[ph];exact p.nl,by rw[ww,W.tl,v];exact p.kd,λz=>?_,λz i s h1 h2 o j d w=>?_,λz k m hm l j d w=>?_⟩
 ·obtain⟨a,b,c⟩:=p.lk (ph.symm.trans z);refine⟨by rw[W.lk,e3];exact a,λy k m hm=>?_,λy=>by rw[W.lk,e3];exact c (ww.symm.trans y)⟩;rw[W.hd]at hm;obtain⟨n,f⟩:=r k m hm;rw[lo];exact b (ww.symm.trans y) k n f
 ·obtain⟨c,f,t,e⟩:=W.ce i s h1;rw[t]at d;rw[W.se,q]at h2;rw[ww];refine gf (ph.symm.trans z) i c f ?_ o j d w;rcases e with e | ⟨_,_,g⟩
  ·rw[<- e];exact h2
  ·exact absurd g o
 ·rw[W.hd]at hm;rw[lo]at l;exact gh (ph.symm.trans z) k m hm l j d w
theorem qx.wt(p:qx M)(W:Wt M N)(u:Wu M N):qx N:=by
 refine p.of W rfl rfl rfl rfl rfl (λh m hm=>⟨m,hm⟩) (λz i c h1 h2 e j d w=>?_) (λz h m hm lo j d w=>(p.gh z h m hm lo j d (W.up w)).wu u);obtain⟨a,b⟩:=p.gf z i c h1 h2 (λg=>e (W.gr i g)) j d (W.up w);exact⟨a,b.wu u⟩
theorem qx.new(p:qx M){u:Int}{c:Ce}(n:c.tone=M.sw.sense)(q:∀y∈c.fl,y=none):qx { M with used:=u,born:=M.born+1,cells:=ji M.cells c }:=by
 have up:∀{y:AA},wh { M with used:=u,born:=M.born+1,cells:=ji M.cells c } y->wh M y:=λ{y} ⟨i,d,e,h1,h2⟩=>by
  rcases dO h1 with ⟨_,z⟩ | z
  ·rw[z]at h2;exact absurd n h2
  ·exact⟨i,d,e,z,h2⟩
 have l:∀{j:Int},Gd M j->Gd { M with used:=u,born:=M.born+1,cells:=ji M.cells c } j:=λg=>Gd.wu (M:=M) (N:={ M with used:=u,born:=M.born+1,cells:=ji M.cells c }) ⟨rfl,λ_ h=>h,λi d h=>⟨d,BP h,rfl,.inl rfl⟩⟩ g;refine⟨p.nl,p.kd,p.lk,λz i d h1 h2 o j f w=>?_,λz k m hm lo j f w=>l (p.gh z k m hm lo j f (up w))⟩;rcases dO h1 with ⟨_,e⟩ | e
 ·rw[e]at f;exact nomatch q _ f
 ·obtain⟨a,b⟩:=p.gf z i d e h2 o j f (up w);exact⟨a,l b⟩
theorem qx.put(p:qx M){i:Int}{c:Ce}{f:Nat}{v y:AA}{l:Au}(hc:cellAt M i=some c)(hv:c.fl[f]? =some v)(hl:M.w≠2->v∈l)(s:M.sw.phase="walk"->y∈l\/(M.w≠2/\∀j,y=some j->wh M (some j)->Gd M j)):qx (aQ Φ l).2:=by
 have W:=Wt.notes l Φ;have up:∀{z:AA},wh (aQ Φ l).2 z->wh M z:=λw=>Zmn (c':={ c with fl:=c.fl.set f y }) hc rfl (W.up w);refine p.of W rfl rfl rfl rfl rfl (λh m hm=>⟨m,hm⟩) (λz k d h1 h2 u j o w=>?_) (λz k m hm lo j o w=>(p.gh z k m hm lo j o (up w)).put z hc hv (hl (p.l2 z lo)) w);have q:∃n,cellAt M k=some n/\n.tone=M.sw.sense/\(some j∈n.fl\/some j=y):=by
  rw[cN hc]at h1
  by_cases e:k=i
  ·rw[if_pos e]at h1;cases h1;exact⟨c,by rw[e];exact hc,h2,List.mem_or_eq_of_mem_set o⟩
  ·rw[if_neg e]at h1;exact⟨d,h1,h2,.inl o⟩
 obtain⟨n,t,r,h4 | h4⟩:=q
 ·obtain⟨a,b⟩:=p.gf z k n t r (λg=>u (W.gr k g)) j h4 (up w);exact⟨a,b.put z hc hv (hl a) w⟩
 ·rcases s z with h5 | ⟨a,h5⟩
  ·exact absurd w (by rw[h4];exact lq l Φ z y h5)
  ·exact⟨a,(h5 j h4.symm (up w)).put z hc hv (hl a) w⟩
theorem qx.slot(p:qx M){h s:Nat}{x:AA}(l:Au)(q:M.sw.phase="walk"->bO M h=true->x∈l\/∀j,x=some j->wh M (some j)->Gd M j):qx (aQ (setSlot M h s x) l).2:=by
 have W:=Wt.notes l (setSlot M h s x);have e:∀{j:Int},Gd M j->Gd (aQ (setSlot M h s x) l).2 j:=λg=>Gd.wu (Wu.notes l (setSlot M h s x)) (Gd.wu (M:=M) (N:=setSlot M h s x) ⟨rfl,λ_ h=>h,λi c h=>⟨c,h,rfl,.inl rfl⟩⟩ g);have up:∀{y:AA},wh (aQ (setSlot M h s x) l).2 y->wh M y:=λw=>W.up w;refine p.of W rfl rfl rfl rfl rfl (λk m hm=>?_) (λz i c h1 h2 r j d w=>?_) (λz k m hm lo j d w=>?_)
 ·obtain⟨n,f,_⟩:=Z9 hm;exact⟨n,f⟩
 ·obtain⟨a,b⟩:=p.gf z i c h1 h2 (λg=>r (W.gr i g)) j d (up w);exact⟨a,e b⟩
 ·obtain⟨n,f,h1⟩:=Z9 hm;rcases h1 _ d with h1 | ⟨t,o⟩
  ·exact e (p.gh z k n f lo j h1 (up w))
  ·rcases q z (by rw[<- t];exact lo)with h5 | h5
   ·rw[o]at w;exact absurd w (lq l (setSlot M h s x) z x h5)
   ·exact e (h5 j o.symm (up w))
theorem qx.told(p:qx M)(b:M.sw.phase="walk"){h k:Nat}:aR M h k∈(if (lK M && !bO M h)=true then [aR M h k]else [])\/(M.w≠2/\∀j,aR M h k=some j->wh M (some j)->Gd M j):=by
 by_cases lo:bO M h=true
 ·exact .inr ⟨p.l2 b lo,λj e w=>p.sl b lo e w⟩
 ·have a:M.tells / 2 % 2=1->aR M h k∈(if (lK M && !bO M h)=true then [aR M h k]else []):=λz=>by
   rw[show lK M=true from decide_eq_true z,Bool.eq_false_iff.mpr lo];exact List.mem_singleton.mpr rfl
  rcases p.kd with z | ⟨c,_,z | z⟩
  ·exact .inl (a z.2)
  ·refine .inr ⟨c,λj e _=>?_⟩;obtain⟨m,hm,_⟩:=slot_mem e;exact absurd ((p.lk b).2.1 z h m hm) lo
  ·exact .inl (a z.2)
theorem qx.deed(p:qx M){d:iV}{e:Ev}(h:g8 M d=.ok (e,M')):qx M':=by
 cases d with
 | make a s b bulk=>
  simp only[g8]at h;split at h
  ·right;refine(p.new (u:=M.used+(1+b+bulk)) (c:=⟨M.born+1,bulk,M.sw.sense,0,List.replicate b.toNat none⟩) rfl λy hy=>List.eq_of_mem_replicate hy).slot [] λ_ _=>.inr λj e w=>?_;obtain⟨i,d,m,h1,h2⟩:=w;cases e;cases m;rw[qd]at h1;cases h1;exact absurd rfl h2
  ·cases h
 | get a s t f=>
  simp only[g8]at h;split at h
  ·cases h
  ·rename_i x hx
   split at h
   ·cases h
   ·rename_i c hc
    split at h
    ·cases h
    ·rename_i v hv
     right;refine p.slot [] λz lo=>.inr λj e w=>?_;have k:some j∈c.fl:=by rw[<- e];exact List.mem_of_getElem? hv
     by_cases tc:c.tone=M.sw.sense
     ·by_cases g:x∈M.sw.grey
      ·exact .grey g hc k
      ·exact(p.gf z x c hc tc g j k w).2
     ·exact .via (p.sl z lo hx ⟨x,c,rfl,hc,tc⟩) hc tc k
 | put a t f s=>
  simp only[g8]at h;split at h
  ·cases h
  ·split at h
   ·cases h
   ·rename_i c hc
    split at h
    ·cases h
    ·rename_i v hv
     right;refine p.put (y:=aR M a s) hc hv (λz=>?_) (λz=>(p.told z).imp (λy=>List.mem_append.mpr (.inr y)) id);rcases p.kd with y | ⟨_,y,_⟩
     ·exact absurd y.1 z
     ·exact List.mem_append.mpr (.inl (by rw[if_pos (show old? M=true from decide_eq_true y)];exact List.mem_singleton.mpr rfl))
 | copy a s t=>
  right;exact p.slot [] λz lo=>.inr λj e w=>p.sl z lo e w
 | drop a s=>
  right;exact p.slot [] λz lo=>.inr λj e w=>nomatch e
 | give a s g t=>
  right;exact p.slot _ λz _=>(p.told z).imp id And.right
 | write a t l=>
  simp only[g8]at h;split at h
  ·cases h
  ·split at h
   ·cases h
   ·rename_i c hc
    right;exact p.wt (Wt.cell hc rfl rfl) (Wu.cell hc rfl rfl)
 | read a t=>
  simp only[g8]at h;split at h
  ·cases h
  ·split at h
   ·cases h
   ·right;exact p
 | name a t z=>
  simp only[g8]at h;split at h
  ·cases h
  ·split at h
   ·cases h
   ·right;exact p.wt ⟨rfl,rfl,rfl,rfl,rfl,rfl,λ_ h=>h,λi c h=>⟨c,h,rfl,.inl rfl⟩⟩ ⟨rfl,λ_ h=>h,λi c h=>⟨c,h,rfl,.inl rfl⟩⟩
 | seek a s z=>
  simp only[g8]at h;split at h
  ·cases h
  ·split at h
   ·right;exact p.slot [] λz lo=>.inr λj e w=>nomatch e
   ·right;exact p.slot _ λ_ _=>.inl (List.mem_singleton.mpr rfl)
theorem qx.hands(p:qx M)(ph:M.sw.phase="walk")(d:M.sw.grey=[])(b:nY M):∀m∈M.hands,∀x∈m.2,¬ wh M x:=by
 intro m hm x hx w;obtain⟨h,f,rfl⟩:=List.getElem_of_mem hm;have hm:=bL f;have fin:bO M h=true->False:=λlo=>by
  obtain⟨j,c,rfl,h1,h2⟩:=w;exact(p.gh ph h _ hm lo j hx ⟨j,c,rfl,h1,h2⟩).none d
 rcases p.kd with ⟨z,_⟩ | ⟨_,_,z | ⟨z,_⟩⟩
 ·have a:bQ M=2 ^ M.hands.length - 1:=by unfold bQ wD;rw[z];rfl
  rcases b with y | ⟨_,y⟩
  ·rw[a]at y;have h1:=N7 (n:=M.hands.length) (j:=0) δ;rw[y]at h1;exact absurd h1 ε
  ·rw[Ox]at y;refine Zgu _ M ph y x (O5 M.hands 0 h _ x hm hx ?_) w;rw[a];exact N7 δ
 ·exact fin ((p.lk ph).2.1 z h _ hm)
 ·rcases b with y | y
  ·unfold bQ wD at y;rw[z]at y;have y:lsE M.sw.looked 0 M.hands.length=0:=y;rcases Hz M.sw.looked M.hands.length 0 with ⟨_,h2⟩ | ⟨k,_,_,e⟩
   ·have:=h2 h δ δ;exact fin (decide_eq_true (by have:=Int.emod_nonneg (M.sw.looked / 2 ^ h) (show(2:Int)≠0 by decide);have:=Int.emod_lt_of_pos (M.sw.looked / 2 ^ h) (show(0:Int)<2 by decide);omega))
   ·rw[y]at e;have:(0:Int)<2 ^ k:=Int.pow_pos ε;omega
  ·rw[z]at y;exact absurd y.1 ε
theorem qx.found(p:qx M)(ph:M.sw.phase="walk")(a:M.sw.grey=[])(r:nY M){q g:List (Int×AE)}{k:Nat}(b:KB.Mg (fdOf M) (iw M) q k g){x:Int×AE}(hx:x∈g){c:Ce}(hc:cellAt M x.1=some c):c.tone=M.sw.sense:=by
 have f:¬ wh M (some x.1):=by
  refine(Zos (P:=λy=>¬ wh M (some y)) (λrow hr y hy=>?_) (λy fl s l z hz=>?_) b).2 x hx
  ·rcases List.mem_append.mp hr with hr | hr
   ·obtain⟨m,hm,rfl⟩:=List.mem_map.mp hr;exact p.hands ph a r m hm _ hy
   ·rw[List.mem_singleton.mp hr]at hy;obtain⟨m,hm,e⟩:=List.mem_map.mp hy;unfold Jq at e;split at e
    ·cases e
    ·split at e
     ·cases e
     ·rename_i d hd
      split at e
      ·cases e
      ·rename_i z
       have e:=Option.some.inj e;rintro⟨i,t,o,j,h4⟩;cases o;rw[<- e,hd]at j;cases j;exact z ⟨decide_eq_true (.inl ph),h4⟩
  ·rw[Qn]at l;obtain⟨d,hd,rfl⟩:=Option.map_eq_some_iff.mp l;have n:d.tone=M.sw.sense:=Decidable.byContradiction λh=>s ⟨y,d,rfl,hd,h⟩;exact λw=>(p.gf ph y d hd n (by rw[a];simp) z hz w).2.none a
 exact Decidable.byContradiction λh=>f ⟨x.1,c,rfl,hc,h⟩
theorem qx.step(p:qx M)(tb:TB w0 M){lb:Int}{lw:AE}{e:Ev}(h:lH lb lw M e M'):qx M'/\e.word≠"lost":=by
 cases h with
 | begin ph=>
  rw[Ox];have W:=Wt.notes (nhL (fK M.w M.hands.length) M.hands 0) (lR M);have D:(aQ (lR M) (nhL (fK M.w M.hands.length) M.hands 0)).2.sw.phase="walk":=W.ph;have n:(aQ (lR M) (nhL (fK M.w M.hands.length) M.hands 0)).2.sw.looked=fK M.w M.hands.length:=W.lk;have at0:M.w=0->fK M.w M.hands.length=2 ^ M.hands.length - 1:=λz=>by unfold fK;rw[if_pos z]
  have r:M.w≠0->fK M.w M.hands.length=0:=λz=>by unfold fK;rw[if_neg z]
  have s:M.w=0->∀k m,M.hands[k]? =some m->fK M.w M.hands.length / 2 ^ k % 2=1:=λz k m hm=>by
   rw[at0 z];exact N7 (dj hm).1
  refine⟨⟨by rw[D];decide,by rw[W.ww,W.tl];exact p.kd,λ_=>⟨?_,λz k m hm=>?_,λz=>?_⟩,λ_ i H h1 h2 l=>?_,λ_ k m hm lo j f w=>?_⟩,show ¬ ("begin":Str)="lost" by decide⟩
  ·rw[n]
   by_cases z:M.w=0
   ·rw[at0 z];have:(0:Int)<2 ^ M.hands.length:=Int.pow_pos ε;omega
   ·rw[r z];exact Int.le_refl _
  ·rw[W.ww]at z;rw[W.hd]at hm;unfold bO;rw[n];exact decide_eq_true (s z k m hm)
  ·rw[W.ww]at z;have z:M.w=2:=z;rw[n,r δ]
  ·obtain⟨c,P,_,E⟩:=W.ce i H h1;have h4:=tb.rs ph i c P;have h5:=tb.se;have V:H.tone=1 - M.sw.sense:=h2.trans W.se;rcases E with E | ⟨_,_,g⟩
   ·omega
   ·exact absurd g l
  ·rw[W.hd]at hm;have hm:M.hands[k]? =some m:=hm
   by_cases z:M.w=0
   ·exact absurd w (lq _ (lR M) rfl _ (O5 M.hands 0 k m _ hm f (by rw[Nat.zero_add];exact s z k m hm)))
   ·unfold bO at lo;rw[n,r z,Int.zero_ediv]at lo;exact absurd lo ε
 | walk x g c ph o hc=>
  have W:=Wt.notes c.fl { M with sw:={ M.sw with grey:=g,walks:=M.sw.walks+1 } };have up:∀{y:AA},wh (aQ { M with sw:={ M.sw with grey:=g,walks:=M.sw.walks+1 } } c.fl).2 y->wh M y:=λw=>W.up w;refine⟨p.of W rfl rfl rfl rfl rfl (λh m hm=>⟨m,hm⟩) (λz i d h1 h2 l j f w=>?_) (λz k m hm lo j f w=>(p.gh ph k m hm lo j f (up w)).walk ph o hc w),show ¬ ("walk":Str)="lost" by decide⟩;have h1:cellAt M i=some d:=h1
  by_cases ex:i=x
  ·rw[ex,hc]at h1;cases h1;exact absurd w (lq c.fl { M with sw:={ M.sw with grey:=g,walks:=M.sw.walks+1 } } ph _ f)
  ·obtain⟨a,b⟩:=p.gf ph i d h1 h2 (λgr=>by
    rw[o]at gr;rcases List.mem_cons.mp gr with gr | gr
    ·exact ex gr
    ·exact l (W.gr i gr)) j f (up w)
   exact⟨a,b.walk ph o hc w⟩
 | look N ph o F Q=>
  subst Q;rw[Ox];have W:=Wt.notes (nhL (bQ M) M.hands 0) M;have q:=p.wt W (Wu.notes (nhL (bQ M) M.hands 0) M);have nw:=lq (nhL (bQ M) M.hands 0) M ph;refine⟨?_,show ¬ ("look":Str)="lost" by decide⟩;generalize (aQ M (nhL (bQ M) M.hands 0)).2=N at W q nw;have A:∀{j:Int}{u:Sw},u.sense=N.sw.sense->u.grey=N.sw.grey->Gd N j->Gd { N with sw:=u } j:=λ{j u} R U g=>Gd.wu (M:=N) (N:={ N with sw:=u }) ⟨R,λi h=>by show i∈u.grey;rw[U];exact h,λi c h=>⟨c,h,rfl,.inl rfl⟩⟩ g;obtain⟨q0,_,X⟩:=q.lk (W.ph.trans ph)
  by_cases B:M.w=2
  ·rw[if_pos B];exact⟨q.nl,q.kd,q.lk,λz i c h1 h2 l j f w=>⟨(q.gf z i c h1 h2 l j f w).1,A rfl rfl (q.gf z i c h1 h2 l j f w).2⟩,λz k m hm lo j f w=>A rfl rfl (q.gh z k m hm lo j f w)⟩
  ·have O:M.w=1:=by
    rcases p.kd with z | ⟨_,_,z | ⟨z,_⟩⟩
    ·exact absurd z.1 B
    ·exact absurd (show nY M from .inl (by unfold bQ wD;rw[z];rfl)) F
    ·exact z
   obtain⟨b,S⟩:∃b:Nat,bQ M=2 ^ b:=by
    have L:bQ M=lsE M.sw.looked 0 M.hands.length:=by unfold bQ wD;rw[O];rfl
    rcases Hz M.sw.looked M.hands.length 0 with ⟨h1,_⟩ | ⟨k,_,_,l⟩
    ·exact absurd (show nY M from .inl (L.trans h1)) F
    ·exact⟨k,L.trans l⟩
   have t:0<=bQ M:=by rw[S];exact Int.le_of_lt (Int.pow_pos ε)
   rw[if_neg B];refine⟨q.nl,q.kd,λ_=>⟨?_,λz=>absurd (show N.w=0 from z) (by rw[W.ww];omega),λz=>absurd (show N.w=2 from z) (by rw[W.ww];exact B)⟩,λz i c h1 h2 l j f w=>⟨(q.gf z i c h1 h2 l j f w).1,A rfl rfl (q.gf z i c h1 h2 l j f w).2⟩,λz k m hm lo j f w=>?_⟩
   ·show 0<=Builtin.bitOr N.sw.looked (bQ M);rw[Wh q0 t];omega
   ·have lo:Builtin.bitOr N.sw.looked (bQ M) / 2 ^ k % 2=1:=of_decide_eq_true lo;rcases(Zsl q0 t k).mp lo with lo | lo
    ·exact A rfl rfl (q.gh z k m hm (decide_eq_true lo) j f w)
    ·have hm:N.hands[k]? =some m:=hm;rw[W.hd]at hm;exact absurd w (nw _ (O5 M.hands 0 k m _ hm f (by rw[Nat.zero_add];exact lo)))
 | cut q T ph o K J C=>exact⟨qx.nw (show ¬ ("give":Str)="walk" by decide) (show ¬ ("give":Str)="lost" by decide) p.kd,show ¬ ("cut":Str)="lost" by decide⟩
 | lost q T i x c v ph o K J hx C hc I=>exact absurd (p.found ph o K J (List.mem_of_getElem? hx) hc) I
 | pass ph lt hp=>exact⟨qx.nw (by show M.sw.phase≠_;rw[ph];decide) p.nl p.kd,show ¬ ("pass":Str)="lost" by decide⟩
 | back c ph lt hc I=>exact⟨qx.nw (by show M.sw.phase≠_;rw[ph];decide) p.nl p.kd,show ¬ ("back":Str)="lost" by decide⟩
 | fin ph lt=>exact⟨qx.nw (show ¬ ("rest":Str)="walk" by decide) (show ¬ ("rest":Str)="lost" by decide) p.kd,show ¬ ("end":Str)="lost" by decide⟩
 | again ph=>exact absurd ph p.nl
end
theorem Pg{b x:List Rz}{a:List (List Rz)}:JN (b::x::a)=JN (x::a):=by
 unfold JN;rw[List.getLast?_cons_cons]
theorem qi.lens{M c:Wm}{rs:List Bo}{a:List (List Rz)}(h:qi M rs a c):a.length<=rs.length/\(a.length<rs.length->JN a=true):=by
 induction h with
 | nil=>exact⟨Nat.le_refl _,λz=>absurd z (Nat.lt_irrefl _)⟩
 | lost r l=>exact⟨ζ,λ_=>l⟩
 | @go M N c r rs d a e l h ih=>
  refine⟨Nat.succ_le_succ ih.1,λz=>?_⟩;have b:=ih.2 (Nat.lt_of_succ_lt_succ z);cases a with
  | nil=>cases b
  | cons x k=>rw[Pg];exact b
theorem qi.dds{M c:Wm}{rs:List Bo}{b:List (List Rz)}(h:qi M rs b c):(∀r∈rs,ddB r=true)->b.length=rs.length:=by
 induction h with
 | nil=>exact λ_=>rfl
 | @lost M c r rs e a l=>
  intro z;cases r with
  | sw n=>exact absurd (z _ (List.mem_cons_self ..)) (λy=>nomatch y)
  | dd d=>
   obtain⟨rfl,_⟩:=a;rw[W8]at l;cases l
 | go a l h ih=>exact λz=>congrArg Nat.succ (ih λr hr=>z r (List.mem_cons_of_mem _ hr))
theorem Ma.snd{M d:Wm}{n:Nat}{c:List Rz}(h:Ma M n c d){w0:Int}:qx M->TB w0 M->ig c=false/\qx d/\TB w0 d:=by
 induction h with
 | stop M=>exact λp tb=>⟨rfl,p,tb⟩
 | lost r l=>exact λp tb=>absurd l (p.step tb r).2
 | @go M N d n e c r l h ih=>
  intro p tb;obtain⟨a,b⟩:=ih (p.step tb r).1 (tb.step r);refine⟨?_,b⟩;cases c with
  | nil=>exact decide_eq_false l
  | cons x k=>exact a
theorem qi.snd{M j:Wm}{rs:List Bo}{i:List (List Rz)}(h:qi M rs i j){w0:Int}:qx M->TB w0 M->JN i=false:=by
 have f:∀{M N:Wm}{r:Bo}{g:List Rz},Ze0 M r g N->qx M->TB w0 M->ig g=false/\qx N/\TB w0 N:=λ{M N r g} h p tb=>by
  cases r with
  | sw n=>exact Ma.snd h p tb
  | dd d=>
   obtain⟨rfl,rfl⟩:=h;refine⟨W8 M d,?_⟩;cases z:g8 M d with
   | error r=>exact⟨p,tb⟩
   | ok x=>exact⟨p.deed (e:=x.1) z,tb.deed (e:=x.1) z⟩
 induction h with
 | nil=>exact λ_ _=>rfl
 | lost r l=>exact λp tb=>(f r p tb).1
 | @go M N j r rs g i m l h ih=>
  intro p tb;obtain⟨a,b,c⟩:=f m p tb;cases i with
  | nil=>exact l
  | cons x k=>rw[Pg];exact ih b c
theorem qx.Zvm{m w t:Int}{hs:uz}(h:(w=2/\t / 2 % 2=1)\/(w≠2/\t % 2=1/\(w=0\/(w=1/\t / 2 % 2=1)))):qx (wV m hs w t):=qx.nw (show ¬ ("rest":Str)="walk" by decide) (show ¬ ("rest":Str)="lost" by decide) h
def Q3:Sp:=λvs H Q E=>∃c j,vs=[.int c,.int j]/\∀z:Str,Q (.str z) H
def Iw:Sp:=λvs H Q E=>∃w c,vs=[.int w,.int c]/\∀l hs H',bx H H'->H l=none->HsO H' l hs->HsB hs->Q (.ref l) H'
def Q8:Sp:=λvs H Q E=>∃c,vs=[.int c]/\∀w t H',0<=w->w<3->0<=t->t<4->bx H H'->Q (.str (words w t)) H'
def Ziq(w t:Int):Bool:=if w=2 then decide (t / 2 % 2=1)else decide (t % 2=1) && (decide (w=0) || decide (t / 2 % 2=1))
inductive QM(z:Str)(H:Hp)(Q:VK):Prop
 | mk (w t) (_:z=words w t) (_:0<=w) (_:w<3) (_:0<=t) (_:t<4) (_:∀H',bx H H'->Q (.bl (Ziq w t)) H'):QM z H Q
def nJ:Sp:=λvs H Q E=>∃z,vs=[.str z]/\QM z H Q
inductive Ij(c:Int)(k:Int)(H:Hp)(Q:VK):Prop
 | mk (_:0<=k) (_:k<=100) (hs) (_:Zi3 hs H Q):Ij c k H Q
def pC:Sp:=λvs H Q E=>∃c k,vs=[.int c,.int k]/\Ij c k H Q
section
theorem Lf{c j:Int}(q:∀z:Str,Q (.str z) H):vR ν [some (.int c),some (.int j),none,none,none,none] H:=by
 unfold vR;have p:=Int.emod_nonneg (c / 26) (show(12:Int)≠0 by decide);have d1:=Int.emod_lt_of_pos (c / 26) (show(0:Int)<12 by decide);exists _,rfl,δ,δ;refine forR (λk f d=>∃(z:Str) (b a:Option V),f=[some (.int c),some (.int j),some (.str "abcdefghijklmnopqrstuvwxyz"),some (.str z),b,a]/\d=H/\z.length=k) ⟨_,none,none,rfl,rfl,rfl⟩ ?_ ?_
 ·rintro k f d hk ⟨z,b,a,rfl,rfl,hz⟩;have m:k<13:=δ
  have go:∀(e:Int) (a:Option V),Zc6 (.str "abcdefghijklmnopqrstuvwxyz") (.int (e % 26)) d λy i=>xV (.str z) y i λx l=>aN 3 x [some (.int c),some (.int j),some (.str "abcdefghijklmnopqrstuvwxyz"),some (.str z),some (.int (0+(k:Int))),a] l λg h=>∃(z:Str) (b a:Option V),g=[some (.int c),some (.int j),some (.str "abcdefghijklmnopqrstuvwxyz"),some (.str z),b,a]/\h=d/\z.length=k+1:=λe a=>by
   refine Zl8 ε (Int.emod_nonneg _ ε) (Int.emod_lt_of_pos _ ε) λo=>?_;refine uY (by rw[Ze8];exact bG δ) ?_;exact⟨_,_,_,rfl,rfl,by rw[Zis,Ze8,hz]⟩
  apply pY ax ax
  ·apply go _ _
  ·apply go _ _
 ·rintro f d ⟨z,b,a,rfl,rfl,_⟩;apply q z
theorem Lh{c:Int}(q:∀w t H',0<=w->w<3->0<=t->t<4->bx H H'->Q (.str (words w t)) H'):vV K ν [some (.int c),none] H:=by
 unfold vV;apply⟨ε,λp np=>?_⟩;generalize zz:upd H p _=H1;obtain⟨g,j⟩:=nwO np zz;have f:=Int.emod_nonneg c (show(3:Int)≠0 by decide);have z1:=Int.emod_lt_of_pos c (show(0:Int)<3 by decide);ext;have h:QJ [V.str "first",.str "each",.str "last"] (c % 3)=some (.str (wd (c % 3))):=by
  rcases(by omega:c % 3=0\/c % 3=1\/c % 3=2)with e | e | e<;>rw[e]<;>rfl
 refine eF (cJ.of j) h ?_;have k:=Zi6 (c % 3);generalize c % 3=w at *;have fin:∀t,0<=t->t<4->Q (.str (wd w++tlS t)) H1:=λt i h1=>q w t H1 f z1 i h1 g;have d:∀a b:Str,wd w++a++b=wd w++(a++b):=λa b=>by
  show Str.mk _=Str.mk _;rw[show(wd w++a).cps=(wd w).cps++a.cps from rfl,Array.append_assoc];rfl
 apply pY ax ax
 ·apply uY (bG (by rw[show((" old":Str)).length=4 from rfl];omega)) ?_;apply pY ax ax
  ·apply uY (bG (by rw[Zis,show((" old":Str)).length=4 from rfl,show((" new":Str)).length=4 from rfl];omega)) ?_;ext;rw[d];exact fin 3 ε ε
  ·apply fin 1 ε ε
 ·apply pY ax ax
  ·apply uY (bG (by rw[show((" new":Str)).length=4 from rfl];omega)) ?_;apply fin 2 ε ε
  ·ext;have:=fin 0 ε ε;rw[show wd w++tlS 0=wd w from by show Str.mk _=_;rw[show(tlS 0).cps=#[]from rfl,Array.append_empty]]at this;exact this
theorem Zmz:∀w∈[(0:Int),1,2],∀t∈[(0:Int),1,2,3],inV (.str (words w t)) [V.str "first old",.str "first old new",.str "last new",.str "last old new",.str "each old new"]=Ziq w t:=γ
theorem Zq8{w t:Int}(w0:0<=w)(a:w<3)(h:Ziq w t=true):(w=2/\t / 2 % 2=1)\/(w≠2/\t % 2=1/\(w=0\/(w=1/\t / 2 % 2=1))):=by
 unfold Ziq at h
 by_cases z:w=2
 ·rw[if_pos z]at h;exact .inl ⟨z,of_decide_eq_true h⟩
 ·rw[if_neg z,Bool.and_eq_true,Bool.or_eq_true]at h;have:=h.2.imp of_decide_eq_true of_decide_eq_true;exact .inr ⟨z,of_decide_eq_true h.1,δ⟩
theorem Tp{z:Str}(q:QM z H Q):zX K ν [some (.str z),none] H:=by
 obtain⟨w,t,rfl,w0,a,b,t1,q⟩:=q;unfold zX;apply⟨ε,λp np=>?_⟩;exists p,_,rfl,.inl (cJ.of ao),rfl,rfl;have:=Zmz w (by simp;omega) t (by simp;omega);rw[<- this]at q;exact q _ (aM np _)
theorem Tn{c k:Int}(q:Ij c k H Q):zW K ν [some (.int c),some (.int k)] H:=by
 obtain⟨i,h,hs,q⟩:=q;unfold zW;apply⟨ε,λp np=>?_⟩;generalize zz:upd H p _=H1;obtain⟨b,d⟩:=nwO np zz;ext;have g:=Int.emod_nonneg (c / 16+k) (show(4:Int)≠0 by decide);have z1:=Int.emod_lt_of_pos (c / 16+k) (show(0:Int)<4 by decide);obtain⟨m,hm,f,j⟩:∃m:Int,QJ [V.int 2,.int 5,.int 9,.int 24] ((c / 16+k) % 4)=some (.int m)/\0<m/\m<=24:=by
  rcases(by omega:(c / 16+k) % 4=0\/(c / 16+k) % 4=1\/(c / 16+k) % 4=2\/(c / 16+k) % 4=3)with e | e | e | e<;>rw[e]<;>exact⟨_,rfl,ε,ε⟩
 refine eF (cJ.of d) hm ?_;ext;have a0:=Int.emod_nonneg ((c+43 * k+3) * 69621 % 5003) (show m≠0 by omega);have a1:=Int.emod_lt_of_pos ((c+43 * k+3) * 69621 % 5003) f;generalize (c+43 * k+3) * 69621 % 5003 % m=u at a0 a1 ⊢;refine⟨by show 2<=sizeLine;decide,λt a=>?_⟩;obtain⟨k,rfl⟩:=Int.eq_ofNat_of_zero_le a0;exact q t (.sw (k+1)) _ (b.trans (aM a _)) (by rw[ao];show _=some (HO.tup [V.str "sweep",V.int ((k+1:Nat):Int)]);rw[show(1+(k:Int))=((k+1:Nat):Int) by omega]) ⟨δ,δ⟩
end
inductive YJ(c:Int)(k:Int)(l:AI)(b:Int)(H:Hp)(Q:VK):Prop
 | mk (_:0<=k) (_:k<=100) (hs:uz) (_:HsO H l hs) (_:HsB hs) (_:Zi3 hs H Q):YJ c k l b H Q
def Zfx:Sp:=λvs H Q E=>∃c k l b,vs=[.int c,.int k,.ref l,.int b]/\YJ c k l b H Q
section
theorem Ig{w c:Int}(q:∀l hs H',bx H H'->H l=none->HsO H' l hs->HsB hs->Q (.ref l) H'):sS K ν [some (.int w),some (.int c),none,none,none,none,none,none,none] H:=by
 unfold sS;have R:=Int.emod_nonneg (c / 26) (show(4:Int)≠0 by decide);have d1:=Int.emod_lt_of_pos (c / 26) (show(0:Int)<4 by decide);ext;generalize c / 26 % 4=sz at R d1 ⊢;refine⟨ε,λl nl=>?_⟩;generalize zz:upd H l _=A;obtain⟨B,s⟩:=nwO nl zz;have s:A l=some (.lst (([]:AF).map V.ref)):=s;apply⟨ε,λp np=>?_⟩;generalize zz:upd A p _=L;obtain⟨v,J⟩:=nwO np zz
 replace s:=v _ _ s
 have B:=B.trans v;ext;have W:=Int.emod_nonneg w (show(5:Int)≠0 by decide);have z1:=Int.emod_lt_of_pos w (show(0:Int)<5 by decide);obtain⟨m,hm,Z,m1⟩:∃m:Nat,QJ [V.int 1,.int 2,.int 2,.int 3,.int 5] (w % 5)=some (.int m)/\1<=m/\m<=5:=by
  rcases(by omega:w % 5=0\/w % 5=1\/w % 5=2\/w % 5=3\/w % 5=4)with e | e | e | e | e<;>rw[e]<;>first | exact⟨1,rfl,ε,ε⟩ | exact⟨2,rfl,ε,ε⟩ | exact⟨3,rfl,ε,ε⟩ | exact⟨5,rfl,ε,ε⟩
 refine eF (cJ.of J) hm ?_;exists _,rfl,δ,δ;refine forR (λk g j=>∃(ts:AF) (hs:uz) (F E f d:Option V),g=[some (.int w),some (.int c),some (.str "abcdefghijklmnopqrstuvwxyz"),some (.int (1+sz)),↑l,F,E,f,d]/\bx H j/\j l=some (.lst (ts.map V.ref))/\Al (λ(a:AI) (m:Str×Int)=>j a=some (.tup [.str m.1,.int m.2])) ts hs/\hs.length=k/\∀m∈hs,3<=m.2/\m.2<=9) ⟨[],[],none,none,none,none,rfl,B,s,.nil,rfl,λm hm=>by cases hm⟩ ?_ ?_
 ·rintro k g j hk ⟨ts,hs,F,E,f,d,rfl,P,r,al,hl,hb⟩;have T:k<5:=δ
  have N:=al.length;exists _,rfl,δ,δ;refine forR (λi g Hy=>∃(z:Str) (f d:Option V),g=[some (.int w),some (.int c),some (.str "abcdefghijklmnopqrstuvwxyz"),some (.int (1+sz)),↑l,some (.int (0+(k:Int))),some (.str z),f,d]/\Hy=j/\z.length=i) ⟨_,_,_,rfl,rfl,rfl⟩ ?_ ?_
  ·rintro i g Hy hi ⟨z,f,d,rfl,rfl,hz⟩;have Y:i<5:=δ
   have go:∀(e:Int) (d:Option V),Zc6 (.str "abcdefghijklmnopqrstuvwxyz") (.int (e % 26)) Hy λy L=>xV (.str z) y L λx A=>aN 6 x [some (.int w),some (.int c),some (.str "abcdefghijklmnopqrstuvwxyz"),some (.int (1+sz)),↑l,some (.int (0+(k:Int))),some (.str z),some (.int (0+(i:Int))),d] A λD H'=>∃(z:Str) (f d:Option V),D=[some (.int w),some (.int c),some (.str "abcdefghijklmnopqrstuvwxyz"),some (.int (1+sz)),↑l,some (.int (0+(k:Int))),some (.str z),f,d]/\H'=Hy/\z.length=i+1:=λe d=>by
    refine Zl8 ε (Int.emod_nonneg _ ε) (Int.emod_lt_of_pos _ ε) λX=>?_;refine uY (by rw[Ze8];exact bG δ) ?_;exact⟨_,_,_,rfl,rfl,by rw[Zis,Ze8,hz]⟩
   apply pY ax ax
   ·apply go _ _
   ·apply go _ _
  ·rintro g Hy ⟨z,f,d,rfl,rfl,_⟩;exists .inl ⟨rfl,_,cJ.of r⟩;ext;have y1:=Int.emod_nonneg (c / 7+(0+(k:Int)) * (0+(k:Int)) * 2) (show(7:Int)≠0 by decide);have U:=Int.emod_lt_of_pos (c / 7+(0+(k:Int)) * (0+(k:Int)) * 2) (show(0:Int)<7 by decide);generalize (c / 7+(0+(k:Int)) * (0+(k:Int)) * 2) % 7=u at y1 U ⊢;refine⟨bG ζ,λt O=>?_⟩;generalize zz:upd Hy t _=H4;obtain⟨C,S⟩:=nwO O zz
   replace r:=C _ _ r
   exists l,_,_,rfl,rfl,r,?_
   ·rw[bA];exact Nat.lt_of_le_of_lt (show _<=1000 by omega) ε
   rw[show ts.map V.ref++[V.ref t]=(ts++[t]).map V.ref from by rw[List.map_append];rfl];have M:∀b I,H4 b=some (.tup I)->upd H4 l (.lst ((ts++[t]).map V.ref)) b=some (.tup I):=λb I hb=>by
    rw[aA (lM hb r aI)];exact hb
   apply⟨ts++[t],hs++[(z,3+u)],_,_,_,_,rfl,λb o hb=>by rw[aA (aF hb nl)];exact C _ _ (P _ _ hb),ao,(al.mono λa m h=>M _ _ (C _ _ h)).app (M _ _ S),by rw[List.length_append,hl];rfl,λm hm=>?_⟩;rcases List.mem_append.mp hm with hm | hm
   ·exact hb m hm
   ·rw[List.mem_singleton.mp hm];show 3<=3+u/\3+u<=9;omega
 ·rintro g j ⟨ts,hs,F,E,f,d,rfl,v,J,al,hl,hb⟩;apply q l hs j v nl ⟨ts,J,al⟩ ⟨δ,δ,hb⟩
theorem uR(a:Int){m:Nat}(h:0<m):∃u:Nat,a % (m:Int)=u/\u<m:=by
 obtain⟨u,hu⟩:=Int.eq_ofNat_of_zero_le (Int.emod_nonneg a (show(m:Int)≠0 by omega));have:=Int.emod_lt_of_pos a (show(0:Int)<m by omega);exact⟨u,hu,δ⟩
theorem Zp6{y z sz:Int}(h:3<=sz){p:AI}{a:VK}(hp:H p=some (.lst [.int 3,.int 3,.int 3,.int sz]))(k:∀u:Nat,(u:Int)<sz->a (.int u) H):dM K (.ref p) (.int (y % 4)) H λv H'=>rI (λ_ j=>0<j) (λi j=>.int (i % j)) (.int z) v H' a:=by
 have c:=Int.emod_nonneg y (show(4:Int)≠0 by decide);have z1:=Int.emod_lt_of_pos y (show(0:Int)<4 by decide);obtain⟨m,hm,b,d⟩:∃m:Int,QJ [V.int 3,.int 3,.int 3,.int sz] (y % 4)=some (.int m)/\0<m/\m<=sz:=by
  rcases(by omega:y % 4=0\/y % 4=1\/y % 4=2\/y % 4=3)with e | e | e | e<;>rw[e]<;>exact⟨_,rfl,δ,δ⟩
 refine eF (cJ.of hp) hm ⟨z,m,rfl,rfl,b,?_⟩;obtain⟨u,hu⟩:=Int.eq_ofNat_of_zero_le (Int.emod_nonneg z (show m≠0 by omega));have:=Int.emod_lt_of_pos z b;show a (.int (z % m)) H;rw[hu]at this ⊢;exact k u δ
theorem QK{c k b:Int}{l:AI}(q:YJ c k l b H Q):xT K Q3 ν [some (.int c),some (.int k),↑l,some (.int b),none,none,none,none,none,none,none,none,none] H:=by
 obtain⟨k0,k1,hs,I,hb,q⟩:=q;have n1:=hb.n1;have n5:=hb.n5;obtain⟨ts0,o1,o2⟩:=id I;unfold xT;ext;generalize (c+17 * k * k+29) * 48271 % 7919=way;have o0:=Int.emod_nonneg ((c+31 * k+7) * 16807) (show(6133:Int)≠0 by decide);generalize (c+31 * k+7) * 16807 % 6133=a at o0 ⊢;refine eO (cJ.of o1) ?_;rw[bA,o2.length];obtain⟨g,eg,Z⟩:=uR (way / 16) (show 0<hs.length by omega);ext;rw[eg];refine eO (cJ.of o1) ?_;rw[bA,o2.length];obtain⟨r,er,hr⟩:=uR a (show 0<hs.length by omega);ext;rw[er];have w:hs[g]? =some hs[g]:=bL Z;have D:hs[r]? =some hs[r]:=bL hr;obtain⟨ts,t,B,J,E⟩:=I.at w;have W:=hb.sb _ (List.getElem_mem Z);refine eF (v:=.ref t) (cJ.of B) (eN (by rw[cL,J];rfl)) ?_;exists t,_,1,_,rfl,rfl,fj.of E,rfl;apply⟨by show 4<=sizeLine;decide,λp1 C=>?_⟩;generalize zz:upd H p1 _=H1;obtain⟨h,o⟩:=nwO C zz;apply Zp6 W.1 o λu hu=>?_;apply eF (v:=.ref t) (cJ.of (h _ _ B)) (eN (by rw[cL,J];rfl)) ?_;exists t,_,1,_,rfl,rfl,fj.of (h _ _ E),rfl;apply⟨by show 4<=sizeLine;decide,λp2 F=>?_⟩;generalize zz:upd H1 p2 _=H2;obtain⟨s,A⟩:=nwO F zz;apply Zp6 W.1 A λi hi=>?_;have x:Es hs g u:=⟨_,w,hu⟩;have y:Es hs g i:=⟨_,w,hi⟩;have q:=q.same (h.trans s)
 replace I:=I.same (h.trans s)
 clear o A C F B E o1 o2 h s;ext;have N:=Int.emod_nonneg way (show(16:Int)≠0 by decide);have O:=Int.emod_lt_of_pos way (show(0:Int)<16 by decide);generalize way % 16=kd at N O ⊢;have U:=Int.emod_nonneg (a / 15) (show(3:Int)≠0 by decide);obtain⟨f,X⟩:=Int.eq_ofNat_of_zero_le U;refine pY ax (λh3=>?_)
 ·have fin:∀bulk:Int,0<=bulk->bB (cY (aj (tC (.str "make")) (aj (ak 6) (aj (ak 8) (aj (aV (dM K) (dX (aj υ (aj Ψ (aj am (aj π (aj Ψ (aj υ (aj (tC (.int 8)) aG)))))))) (aV ξ (aV τ (ak 5) (tC (.int 9))) (tC (.int 7)))) (aj (ak 11) aG)))))) ν [some (.int c),some (.int k),↑l,some (.int b),some (.int way),some (.int a),some (.int g),some (.int r),some (.int u),some (.int i),some (.int kd),some (.int bulk),none] H2:=λbulk b0=>by
   apply⟨ε,λp np=>?_⟩;generalize zz:upd H2 p _=H3;obtain⟨h,o⟩:=nwO np zz;ext;have Y:=Int.emod_nonneg (a / 9) (show(7:Int)≠0 by decide);have z1:=Int.emod_lt_of_pos (a / 9) (show(0:Int)<7 by decide);generalize a / 9 % 7=z at Y z1 ⊢;obtain⟨d,hm,R,m1⟩:∃d:Int,QJ [V.int 1,.int 2,.int 3,.int 0,.int 2,.int 1,.int 8] z=some (.int d)/\0<=d/\d<=8:=by
    rcases(by omega:z=0\/z=1\/z=2\/z=3\/z=4\/z=5\/z=6)with rfl | rfl | rfl | rfl | rfl | rfl | rfl<;>exact⟨_,rfl,ε,ε⟩
   refine eF (cJ.of o) hm ?_;apply⟨by show 5<=sizeLine;decide,λt P=>?_⟩;exact q t (.dd (.make g u d bulk)) _ (h.trans (aM P _)) ao ⟨x,R,m1,b0⟩
  apply pY ax ax
  ·exact⟨_,rfl,_,_,rfl,rfl,⟨ε,ε,ε⟩,_,_,rfl,rfl,_,_,rfl,rfl,(show(0:Int)<10 ^ Int.toNat 12+1 by decide),fin _ (Int.emod_nonneg _ ε)⟩
  ·exact fin _ U
 apply pY ax (λh5=>?_)
 ·ext;rw[X];refine⟨by show 5<=sizeLine;decide,λp np=>?_⟩;exact q p (.dd (.get g u i f)) _ (aM np _) ao ⟨x,y⟩
 apply pY ax (λh8=>?_)
 ·ext;rw[X];refine⟨by show 5<=sizeLine;decide,λp np=>?_⟩;exact q p (.dd (.put g i f u)) _ (aM np _) ao ⟨y,x⟩
 apply pY ax (λe8=>?_)
 ·apply⟨by show 4<=sizeLine;decide,λp np=>?_⟩;exact q p (.dd (.copy g u i)) _ (aM np _) ao ⟨x,y⟩
 apply pY ax (λe9=>?_)
 ·apply⟨by show 3<=sizeLine;decide,λp np=>?_⟩;exact q p (.dd (.drop g u)) _ (aM np _) ao x
 apply pY ax (λe10=>?_)
 ·ext;obtain⟨ts,t,B,J,E⟩:=I.at D;have rb:=hb.sb _ (List.getElem_mem hr);refine eF (v:=.ref t) (cJ.of B) (eN (by rw[cL,J];rfl)) ?_;exists t,_,1,_,rfl,rfl,fj.of E,rfl;ext;obtain⟨v,hv⟩:=Int.eq_ofNat_of_zero_le (Int.emod_nonneg (way / 80) (show hs[r].2≠0 by omega));have:=Int.emod_lt_of_pos (way / 80) (show 0<hs[r].2 by omega);rw[hv]at this ⊢;refine⟨by show 5<=sizeLine;decide,λp np=>?_⟩;exact q p (.dd (.give g u r v)) _ (aM np _) ao ⟨x,_,D,this⟩
 apply pY ax (λe11=>?_)
 ·ext;generalize c % 10 ^ (60:Int).toNat - 10 ^ (60:Int).toNat * (a % 2)+a % 2=ld;refine⟨by show 4<=sizeLine;decide,λp np=>?_⟩;generalize zz:upd H2 p _=H3;obtain⟨h,o⟩:=nwO np zz;have o:H3 p=some (.tup (rV (.dd (.write g i ld)))):=o;apply⟨by show 3<=sizeLine;decide,λL S=>?_⟩;generalize zz:upd H3 L _=H4;obtain⟨s,A⟩:=nwO S zz;have A:H4 L=some (.tup (rV (.dd (.read g i)))):=A;apply⟨by show 2<=sizeLine;decide,λl2 T=>?_⟩;have M:=aM T (.lst [.ref p,.ref L]);ext;have Y:=Int.emod_nonneg (a / 2) (show(2:Int)≠0 by decide);have z1:=Int.emod_lt_of_pos (a / 2) (show(0:Int)<2 by decide);rcases(by omega:a / 2 % 2=0\/a / 2 % 2=1)with e | e<;>rw[e]
  ·exact eF (cJ.of ao) rfl (q p (.dd (.write g i ld)) _ (h.trans (s.trans M)) (M _ _ (s _ _ o)) y)
  ·exact eF (cJ.of ao) rfl (q L (.dd (.read g i)) _ (h.trans (s.trans M)) (M _ _ A) y)
 apply pY ax (λe12=>?_)
 ·apply⟨_,_,rfl,λz=>?_⟩;apply⟨by show 4<=sizeLine;decide,λp np=>?_⟩;exact q p (.dd (.name g i z)) _ (aM np _) ao y
 apply pY ax (λe13=>?_)
 ·apply⟨_,_,rfl,λz=>?_⟩;apply⟨by show 4<=sizeLine;decide,λp np=>?_⟩;exact q p (.dd (.seek g u z)) _ (aM np _) ao x
 apply⟨ε,λp np=>?_⟩;generalize zz:upd H2 p _=H3;obtain⟨h,o⟩:=nwO np zz;ext;obtain⟨m,hm,R,m1⟩:∃m:Int,QJ [V.int 6,.int 24] (kd - 14)=some (.int m)/\0<m/\m<=24:=by
  rcases(by omega:kd - 14=0\/kd - 14=1)with e | e<;>rw[e]<;>exact⟨_,rfl,ε,ε⟩
 refine eF (cJ.of o) hm ?_;ext;have a0:=Int.emod_nonneg (a / 2) (show m≠0 by omega);have a1:=Int.emod_lt_of_pos (a / 2) R;generalize a / 2 % m=v at a0 a1 ⊢;refine⟨by show 2<=sizeLine;decide,λt P=>?_⟩;obtain⟨v,rfl⟩:=Int.eq_ofNat_of_zero_le a0;exact q t (.sw (v+1)) _ (h.trans (aM P _)) (by rw[ao];show _=some (HO.tup [V.str "sweep",V.int ((v+1:Nat):Int)]);rw[show(1+(v:Int))=((v+1:Nat):Int) by omega]) ⟨δ,δ⟩
end
def RA(hs:uz)(H:Hp)(as:AF):Prop:=∀a∈as,∃r,H a=some (.tup (rV r))/\okW hs r
def RwO(hs:uz)(H:Hp)(p:AI)(m:Nat):Prop:=∃as:AF,H p=some (.lst (as.map V.ref))/\RA hs H as/\as.length=m
def Zbb(hs:uz)(H:Hp)(Q:VK):Prop:=∀p m H',bx H H'->m<=11->RwO hs H' p m->Q (.ref p) H'
def Rh(hs:uz)(σ:St)(m:Nat)(a:TA):Prop:=∀H (Q:List V->Hp->Prop),(∀as H',bx H H'->RA hs H' as->as.length=m->Q (as.map V.ref) H')->a σ H Q
def Zsw(hs:uz)(σ:St)(a:TE):Prop:=∀H Q,Zi3 hs H Q->a σ H Q
section
variable {K:aD}{H:Hp}{Q:VK}{E:XK}{n:μ}{bk ct:μ}{hs:uz}{σ:St}{m:Nat}
theorem RA.same{H H':Hp}{as:AF}(h:RA hs H as)(s:bx H H'):RA hs H' as:=λa b=>let ⟨r,h1,h2⟩:=h a b;⟨r,s _ _ h1,h2⟩
theorem Rh.nil:Rh hs σ 0 aG:=λH Q q=>q [] H (bx.refl _) (λ_ h=>nomatch h) rfl
theorem Rh.cons{f:TE}{c:TA}(a:Zsw hs σ f)(b:Rh hs σ m c):Rh hs σ (m+1) (aj f c):=λH Q q=>a H _ λx r i g h1 o1=>b i _ λas h d h2 l2=>q (x::as) h (g.trans d) (λy hy=>by
 rcases List.mem_cons.mp hy with e | hy
 ·rw[e];exact⟨r,d _ _ h1,o1⟩
 ·exact h2 y hy) (congrArg Nat.succ l2)
theorem xK{b:TA}(a:Rh hs σ m b)(hm:m<=11)(q:∀p H',bx H H'->RwO hs H' p m->Q (.ref p) H'):dX b σ H Q:=a H _ λas e c h1 d=>⟨by rw[bA];exact bG δ,λp np=>q p _ (c.trans (aM np _)) ⟨as,ao,h1.same (aM np _),d⟩⟩
theorem mZ{c:TA}{p:AI}{i k:Nat}(hi:σ[i]? =some (↑p))(o:RwO hs H p k)(a:Rh hs σ m c)(hk:k+m<=11)(q:∀d H',bx H H'->RwO hs H' d (k+m)->Q (.ref d) H'):aV Hl (ak i) (dX c) σ H Q:=by
 obtain⟨e,o1,o2,h⟩:=o;refine⟨_,hi,xK a δ λf j b ⟨bs,b1,b2,b3⟩=>⟨p,f,_,_,rfl,rfl,b _ _ o1,b1,by rw[bA,bA];exact bG δ,λg np=>q g _ (b.trans (aM np _)) ⟨e++bs,by rw[ao,List.map_append],λx hx=>?_,by rw[List.length_append,h,b3]⟩⟩⟩;rcases List.mem_append.mp hx with hx | hx
 ·exact(o2.same (b.trans (aM np _))) x hx
 ·exact(b2.same (aM np _)) x hx
theorem jV{d:iV}{a:TA}(o:okR hs d)(h:∀(H:Hp) (Q:List V->Hp->Prop),Q (dV d) H->a σ H Q):Zsw hs σ (cY a):=λH Q q=>h H _ ⟨by have:(dV d).length<=5:=(by cases d<;>exact Nat.le_of_ble_eq_true rfl);exact bG δ,λp np=>q p (.dd d) _ (aM np _) ao o⟩
theorem Zq{c:Int}{k:Int}(k0:0<=k)(k1:k<=100)(a:σ[0]? =some (some (.int c))):Zsw hs σ (aX pC [] E0 (aj ρ (aj (tC (.int k)) aG))):=λH Q q=>⟨_,a,c,k,rfl,k0,k1,hs,q⟩
end
inductive BW(c:Int)(h:Int)(a:Int)(b:Int)(d:Int)(H:Hp)(Q:VK):Prop
 | mk (hs:uz) (hn an bn dn:Nat) (_:h=hn) (_:a=an) (_:b=bn) (_:d=dn) (_:Es hs hn an) (_:Es hs hn bn) (_:Es hs hn dn) (_:Zbb hs H Q):BW c h a b d H Q
def Q6:Sp:=λvs H Q E=>∃c h a b d,vs=[.int c,.int h,.int a,.int b,.int d]/\BW c h a b d H Q
inductive YM(c:Int)(h:Int)(a:Int)(b:Int)(H:Hp)(Q:VK):Prop
 | mk (hs:uz) (hn an bn:Nat) (_:h=hn) (_:a=an) (_:b=bn) (_:Es hs hn an) (_:Es hs hn bn) (_:Zbb hs H Q):YM c h a b H Q
def Zfz:Sp:=λvs H Q E=>∃c h a b,vs=[.int c,.int h,.int a,.int b]/\YM c h a b H Q
inductive QT(c:Int)(h:Int)(a:Int)(b:Int)(z:Str)(H:Hp)(Q:VK):Prop
 | mk (hs:uz) (hn an bn:Nat) (_:h=hn) (_:a=an) (_:b=bn) (_:Es hs hn an) (_:Es hs hn bn) (_:Zbb hs H Q):QT c h a b z H Q
def Zb7:Sp:=λvs H Q E=>∃c h a b z,vs=[.int c,.int h,.int a,.int b,.str z]/\QT c h a b z H Q
inductive QW(c:Int)(h:Int)(g:Int)(a:Int)(b:Int)(H:Hp)(Q:VK):Prop
 | mk (hs:uz) (hn gn an bn:Nat) (_:h=hn) (_:g=gn) (_:a=an) (_:b=bn) (_:Es hs hn an) (_:Es hs hn bn) (_:Es hs gn an) (_:Es hs gn bn) (_:Zbb hs H Q):QW c h g a b H Q
def Zb8:Sp:=λvs H Q E=>∃c h g a b,vs=[.int c,.int h,.int g,.int a,.int b]/\QW c h g a b H Q
section
theorem Gy{c h a b d:Int}(q:BW c h a b d H Q):qG pC ν [some (.int c),some (.int h),some (.int a),some (.int b),some (.int d),none] H:=by
 obtain⟨hs,hn,f,bn,g,rfl,rfl,rfl,rfl,e,ob,od,q⟩:=q;dsimp only[qG,aP,bz,bB,aN,List.set];refine xK (hs:=hs) (m:=4) ?_ ε λs v l o1=>?_
 ·exact .cons (jV (d:=.make hn f 1 0) ⟨e,ε,ε,ε⟩ λH Q h=>⟨_,rfl,_,rfl,h⟩) (.cons (jV (d:=.make hn bn 0 0) ⟨ob,ε,ε,ε⟩ λH Q h=>⟨_,rfl,_,rfl,h⟩) (.cons (jV (d:=.put hn f 0 bn) ⟨e,ob⟩ λH Q h=>⟨_,rfl,_,rfl,_,rfl,h⟩) (.cons (jV (d:=.drop hn bn) ob λH Q h=>⟨_,rfl,_,rfl,h⟩) .nil)))
 refine mZ (i:=5) (m:=4) rfl o1 ?_ ε λu t j o2=>?_
 ·exact .cons (Zq ε ε rfl) (.cons (jV (d:=.get hn bn f 0) ⟨ob,e⟩ λH Q h=>⟨_,rfl,_,rfl,_,rfl,h⟩) (.cons (jV (d:=.drop hn g) od λH Q h=>⟨_,rfl,_,rfl,h⟩) (.cons (jV (d:=.put hn f 0 g) ⟨e,od⟩ λH Q h=>⟨_,rfl,_,rfl,_,rfl,h⟩) .nil)))
 refine mZ (i:=5) (m:=2) rfl o2 ?_ ε λp k o r=>q p _ k (l.trans (j.trans o)) ε r;exact .cons (Zq ε ε rfl) (.cons (jV (d:=.read hn bn) ob λH Q h=>⟨_,rfl,_,rfl,h⟩) .nil)
theorem QL{c h a b:Int}(q:YM c h a b H Q):xU pC ν [some (.int c),some (.int h),some (.int a),some (.int b),none] H:=by
 obtain⟨hs,hn,f,bn,rfl,rfl,rfl,e,ob,q⟩:=q;dsimp only[xU,aP,bz,bB,aN,List.set];refine xK (hs:=hs) (m:=4) ?_ ε λr u k o1=>?_
 ·exact .cons (jV (d:=.make hn bn 0 0) ⟨ob,ε,ε,ε⟩ λH Q h=>⟨_,rfl,_,rfl,h⟩) (.cons (Zq ε ε rfl) (.cons (jV (d:=.make hn f 1 0) ⟨e,ε,ε,ε⟩ λH Q h=>⟨_,rfl,_,rfl,h⟩) (.cons (jV (d:=.put hn f 0 bn) ⟨e,ob⟩ λH Q h=>⟨_,rfl,_,rfl,_,rfl,h⟩) .nil)))
 refine mZ (i:=4) (m:=3) rfl o1 ?_ ε λt s g o2=>?_
 ·exact .cons (jV (d:=.drop hn bn) ob λH Q h=>⟨_,rfl,_,rfl,h⟩) (.cons (Zq ε ε rfl) (.cons (jV (d:=.get hn bn f 0) ⟨ob,e⟩ λH Q h=>⟨_,rfl,_,rfl,_,rfl,h⟩) .nil))
 refine mZ (i:=4) (m:=2) rfl o2 ?_ ε λo j l p=>q o _ j (k.trans (g.trans l)) ε p;exact .cons (jV (d:=.write hn bn _) ob λH Q h=>⟨_,rfl,_,rfl,_,rfl,_,_,rfl,rfl,⟨ε,ε,ε⟩,_,_,rfl,rfl,(show(0:Int)<10 ^ Int.toNat 60 by decide),h⟩) (.cons (jV (d:=.read hn bn) ob λH Q h=>⟨_,rfl,_,rfl,h⟩) .nil)
theorem Tq{c h a b:Int}{z:Str}(q:QT c h a b z H Q):zY pC ν [some (.int c),some (.int h),some (.int a),some (.int b),some (.str z),none] H:=by
 obtain⟨hs,hn,f,bn,rfl,rfl,rfl,e,ob,q⟩:=q;dsimp only[zY,aP,bz,bB,aN,List.set];refine xK (hs:=hs) (m:=4) ?_ ε λr u k o1=>?_
 ·exact .cons (jV (d:=.make hn f 1 0) ⟨e,ε,ε,ε⟩ λH Q h=>⟨_,rfl,_,rfl,h⟩) (.cons (jV (d:=.make hn bn 0 0) ⟨ob,ε,ε,ε⟩ λH Q h=>⟨_,rfl,_,rfl,h⟩) (.cons (jV (d:=.put hn f 0 bn) ⟨e,ob⟩ λH Q h=>⟨_,rfl,_,rfl,_,rfl,h⟩) (.cons (jV (d:=.name hn f z) e λH Q h=>⟨_,rfl,_,rfl,_,rfl,h⟩) .nil)))
 refine mZ (i:=5) (m:=4) rfl o1 ?_ ε λt s g o2=>?_
 ·exact .cons (jV (d:=.drop hn f) e λH Q h=>⟨_,rfl,_,rfl,h⟩) (.cons (jV (d:=.drop hn bn) ob λH Q h=>⟨_,rfl,_,rfl,h⟩) (.cons (Zq ε ε rfl) (.cons (jV (d:=.seek hn bn z) ob λH Q h=>⟨_,rfl,_,rfl,_,rfl,h⟩) .nil)))
 refine mZ (i:=5) (m:=3) rfl o2 ?_ ε λo j l p=>q o _ j (k.trans (g.trans l)) ε p;exact .cons (Zq ε ε rfl) (.cons (jV (d:=.get hn f bn 0) ⟨e,ob⟩ λH Q h=>⟨_,rfl,_,rfl,_,rfl,h⟩) (.cons (jV (d:=.read hn f) e λH Q h=>⟨_,rfl,_,rfl,h⟩) .nil))
theorem Tr{c h g a b:Int}(q:QW c h g a b H Q):zZ pC ν [some (.int c),some (.int h),some (.int g),some (.int a),some (.int b),none] H:=by
 obtain⟨hs,hn,j,e,bn,rfl,rfl,rfl,rfl,f,ob,ga,k,q⟩:=q;dsimp only[zZ,aP,bz,bB,aN,List.set];refine xK (hs:=hs) (m:=4) ?_ ε λu x p o1=>?_
 ·exact .cons (jV (d:=.make hn e 1 0) ⟨f,ε,ε,ε⟩ λH Q h=>⟨_,rfl,_,rfl,h⟩) (.cons (jV (d:=.make hn bn 0 0) ⟨ob,ε,ε,ε⟩ λH Q h=>⟨_,rfl,_,rfl,h⟩) (.cons (jV (d:=.put hn e 0 bn) ⟨f,ob⟩ λH Q h=>⟨_,rfl,_,rfl,_,rfl,h⟩) (.cons (jV (d:=.drop hn bn) ob λH Q h=>⟨_,rfl,_,rfl,h⟩) .nil)))
 refine mZ (i:=5) (m:=4) rfl o1 ?_ ε λw v l o2=>?_
 ·exact .cons (Zq ε ε rfl) (.cons (jV (d:=.give hn e j bn) ⟨f,k⟩ λH Q h=>⟨_,rfl,_,rfl,_,rfl,_,rfl,h⟩) (.cons (jV (d:=.drop hn e) f λH Q h=>⟨_,rfl,_,rfl,h⟩) (.cons (Zq ε ε rfl) .nil)))
 refine mZ (i:=5) (m:=2) rfl o2 ?_ ε λs o r t=>q s _ o (p.trans (l.trans r)) ε t;exact .cons (jV (d:=.get j e bn 0) ⟨ga,k⟩ λH Q h=>⟨_,rfl,_,rfl,_,rfl,h⟩) (.cons (jV (d:=.read j e) ga λH Q h=>⟨_,rfl,_,rfl,h⟩) .nil)
end
def Q4:Sp:=λvs H Q E=>∃i,vs=[.int i]/\Q (.bl true) H
inductive QS(c:Int)(k:Int)(l:AI)(b:Int)(H:Hp)(Q:VK):Prop
 | mk (_:0<=k) (_:k<=100) (hs:uz) (_:HsO H l hs) (_:HsB hs) (_:Zbb hs H Q):QS c k l b H Q
def yS:Sp:=λvs H Q E=>∃c k l b,vs=[.int c,.int k,.ref l,.int b]/\QS c k l b H Q
def thV(v:V):Prop:=v=.non\/(∃z,v=.str z)\/∃i,v=.int i
inductive QX(p:AI)(H:Hp)(Q:VK):Prop
 | mk (a x) (_:H p=some (.lst [.ref a])) (_:EvH H a x) (_:thV x.2.1) (_:Q (.bl true) H):QX p H Q
def Zb9:Sp:=λvs H Q E=>∃p,vs=[.ref p]/\QX p H Q
section
theorem Tj{i:Int}(q:Q (.bl true) H):rG ν [some (.int i)] H:=by
 unfold rG;apply q
theorem Lg{c k b:Int}{l:AI}(q:QS c k l b H Q):vU K Zb8 Zb7 Zfz Zfx Q6 Q3 ν [some (.int c),some (.int k),↑l,some (.int b),none,none,none,none,none,none] H:=by
 obtain⟨y,t,hs,f,hb,q⟩:=q;have n1:=hb.n1;have n5:=hb.n5;obtain⟨j,o1,o2⟩:=id f;unfold vU;ext;generalize (c+13 * k * k+5) * 39373 % 6991=way;refine uX ax ax
 ·apply⟨_,_,l,_,rfl,y,t,hs,f,hb,λa r D s h o=>?_⟩;apply⟨by show 1<=sizeLine;decide,λp np=>q p 1 _ (s.trans (aM np _)) ε ⟨[a],ao,λx hx=>?_,rfl⟩⟩;rw[List.mem_singleton.mp hx];exact⟨r,aM np _ _ _ h,o⟩
 apply eO (cJ.of o1) ?_;rw[bA,o2.length];obtain⟨g,C,d⟩:=uR (way / 16) (show 0<hs.length by omega);ext;rw[C];refine eO (cJ.of o1) ?_;rw[bA,o2.length];obtain⟨r,er,hr⟩:=uR (way / 80) (show 0<hs.length by omega);ext;rw[er];obtain⟨u,B,hu⟩:=uR (way / 4) (show 0<3 by decide);obtain⟨v,ev,hv⟩:=uR (way / 12) (show 0<2 by decide);rw[show way / 4 % 3=(u:Int)from B,show way / 12 % 2=(v:Int)from ev];obtain⟨w,A,e⟩:=uR ((u:Int)+1+v) (show 0<3 by decide);rw[show((u:Int)+1+v) % 3=(w:Int)from A];have ok:∀{h:Nat},h<hs.length->∀{s:Nat},s<3->Es hs h s:=λ{h} i {s} E=>⟨_,bL i,by have:=(hb.sb _ (List.getElem_mem i)).1;omega⟩;have m:(3:Int) - u - w=((3 - u - w:Nat):Int):=δ
 refine pY ax ax
 ·apply⟨_,_,_,_,_,rfl,hs,g,u,w,3 - u - w,rfl,rfl,rfl,m,ok d hu,ok d e,ok d δ,q⟩
 apply pY ax ax
 ·apply⟨_,_,_,_,rfl,hs,g,u,w,rfl,rfl,rfl,ok d hu,ok d e,q⟩
 apply pY ax ax
 ·apply⟨_,_,rfl,λz=>?_⟩;apply⟨_,_,_,_,z,rfl,hs,g,u,w,rfl,rfl,rfl,ok d hu,ok d e,q⟩
 apply⟨_,_,_,_,_,rfl,hs,g,r,u,w,rfl,rfl,rfl,rfl,ok d hu,ok d e,ok hr hu,ok hr e,q⟩
theorem Tt{p:AI}(q:QX p H Q):rH K Q4 ν [↑p] H:=by
 obtain⟨a,⟨z,v,ns⟩,hp,⟨l,c,ol⟩,e,q⟩:=q;have b:∀{d:VK},d (.ref a) H->dM K (.ref p) (.int 0) H d:=λh=>eF (v:=.ref a) (cJ.of hp) (eN (j:=0) rfl) h;unfold rH;apply rB hp ?_;apply eO (cJ.of hp) ?_;apply uX (λz=>absurd rfl z) ax;apply b ?_;apply Yn c ?_;apply b ?_;exists a,_,rfl,.inr (fj.of c);apply uX (λz=>absurd rfl z) ax;apply b ?_;exists a,_,0,_,rfl,rfl,fj.of c,rfl;apply b ?_;exists a,_,2,_,rfl,rfl,fj.of c,rfl;apply rB ol ?_;apply b ?_;exists a,_,1,_,rfl,rfl,fj.of c,rfl;rcases e with rfl | ⟨y,rfl⟩ | ⟨i,rfl⟩
 ·apply q
 ·apply b ?_;exists a,_,1,_,rfl,rfl,fj.of c,rfl;apply q
 ·apply b ?_;exists a,_,1,_,rfl,rfl,fj.of c,rfl;apply b ?_;exists a,_,1,_,rfl,rfl,fj.of c,rfl;apply⟨i,rfl,q⟩
end
inductive Ik(w:AI)(p1:AI)(p2:AI)(H:Hp)(Q:VK):Prop
 | mk (rs ps1 Vz ps2 lg2) (_:RwL H w rs) (_:rs.length<=700) (_:H p1=some (.lst (ps1.map V.ref))) (_:LgH H ps1 Vz) (_:H p2=some (.lst (ps2.map V.ref))) (_:LgH H ps2 lg2) (_:Cmp rs Vz lg2) (_:∀H',bx H H'->Q (.bl true) H'):Ik w p1 p2 H Q
def jN:Sp:=λvs H Q E=>∃w b a,vs=[.ref w,.ref b,.ref a]/\Ik w b a H Q
theorem Zr(M:Wm)(d:iV):(∃r,Hj (g8 M d)=(("refused":Str),.str (rfS r),[]))\/((Hj (g8 M d)).1≠"refused"/\∃o,(Hj (g8 M d)).2.1=oV o):=by
 cases h:g8 M d with
 | error r=>exact .inl ⟨r,rfl⟩
 | ok x=>
  refine .inr ⟨?_,x.1.thing,rfl⟩;show x.1.word≠"refused";cases d<;>simp only[g8]at h<;>(repeat' split at h)<;>first | (cases h;done) | (cases h;dsimp only;decide)
theorem Zj1(M:Wm)(d:iV):thV (Hj (g8 M d)).2.1:=by
 rcases Zr M d with ⟨r,h⟩ | ⟨_,o,h⟩<;>rw[h]
 ·exact .inr (.inl ⟨_,rfl⟩)
 ·cases o with
  | none=>exact .inl rfl
  | some i=>exact .inr (.inr ⟨i,rfl⟩)
theorem Zfm(d:iV):∃z:Str,QJ (rV (.dd d)) 0=some (.str z)/\z≠"sweep":=by
 cases d<;>exact⟨_,rfl,ε⟩
theorem Zgi{v:V}(h:thV v):Zqa v v=true:=by
 rcases h with rfl | ⟨_,rfl⟩ | ⟨_,rfl⟩<;>rfl
section
theorem Zpo{ps:AF}{d:List (List Rz)}{i:Nat}{x:Rz}{f:List (List Rz)}(h:LgH H ps d)(e:d.drop i=[x]::f):∃b a l,ps[i]? =some b/\H b=some (.lst [.ref a])/\EvH H a x/\H a=some (.tup [.str x.1,x.2.1,.ref l])/\H l=some (.lst (x.2.2.map V.int)):=by
 have m:d[i]? =some [x]:=by
  have:=congrArg List.head? e;rw[List.head?_drop]at this;exact this
 obtain⟨b,hb,g,ob,al⟩:=h.get m;obtain⟨a,k,ev⟩:=al.get (i:=0) rfl;have c:=al.length;obtain rfl:g=[a]:=by
  cases g with
  | nil=>cases k
  | cons y n=>
   cases k;cases n with
   | nil=>rfl
   | cons _ _=>cases c
 obtain⟨l,j,ol⟩:=ev;exact⟨b,a,l,hb,ob,⟨l,j,ol⟩,j,ol⟩
theorem Ia{b:Type}{l a:List b}{i:Nat}{x:b}(e:l.drop i=x::a):i<l.length/\l.drop (i+1)=a:=by
 constructor
 ·have:=congrArg List.length e;rw[List.length_drop,List.length_cons]at this;omega
 ·rw[<- List.tail_drop,e];rfl
structure Tw(H:Hp)(b1 b2 a1 a2 n1 n2:AI)(x y:Rz):Prop where
 ob1:H b1=some (.lst [.ref a1])
 ob2:H b2=some (.lst [.ref a2])
 oa1:H a1=some (.tup [.str x.1,x.2.1,.ref n1])
 oa2:H a2=some (.tup [.str y.1,y.2.1,.ref n2])
 tx:thV x.2.1
 ty:thV y.2.1
section
variable {b1 b2 a1 a2 n1 n2:AI}{x y:Rz}{v0 v1 v2 v3 v4 v5:Option V}{nx:μ}
theorem Tw.i1(t:Tw H b1 b2 a1 a2 n1 n2 x y){a:VK}(h:a (.ref a1) H):dM K (.ref b1) (.int 0) H a:=eF (v:=.ref a1) (cJ.of t.ob1) (eN (j:=0) rfl) h
theorem Tw.i2(t:Tw H b1 b2 a1 a2 n1 n2 x y){a:VK}(h:a (.ref a2) H):dM K (.ref b2) (.int 0) H a:=eF (v:=.ref a2) (cJ.of t.ob2) (eN (j:=0) rfl) h
theorem sa9(t:Tw H b1 b2 a1 a2 n1 n2 x y)(a:x.1=y.1)(b:x.2.1=y.2.1)(h:nx [v0,v1,v2,v3,v4,v5,↑b1,↑b2] H):fB K ⟨nx,Q,bk,ct⟩ [v0,v1,v2,v3,v4,v5,↑b1,↑b2] H:=by
 unfold fB;apply t.i1 ?_;exists a1,_,0,_,rfl,rfl,fj.of t.oa1,rfl;apply t.i2 ?_;exists a2,_,0,_,rfl,rfl,fj.of t.oa2,rfl;apply uX (λz=>absurd a z) ax;apply t.i1 ?_;exists a1,_,1,_,rfl,rfl,fj.of t.oa1,rfl;apply t.i2 ?_;exists a2,_,1,_,rfl,rfl,fj.of t.oa2,rfl;rw[b];refine⟨Zgi t.ty,?_⟩;rw[decide_eq_true rfl];apply h
theorem sa8(t:Tw H b1 b2 a1 a2 n1 n2 x y)(r:Q (.bl true) H)(h:¬ (x.1="sought"/\x.2.1=.non)->x.1=y.1/\x.2.1=y.2.1/\nx [v0,v1,v2,v3,v4,v5,↑b1,↑b2] H):fD K ⟨nx,Q,bk,ct⟩ [v0,v1,v2,v3,v4,v5,↑b1,↑b2] H:=by
 have go:¬ (x.1="sought"/\x.2.1=.non)->fB K ⟨nx,Q,bk,ct⟩ [v0,v1,v2,v3,v4,v5,↑b1,↑b2] H:=λz=>let ⟨e1,e2,h⟩:=h z;sa9 t e1 e2 h
 unfold fD;apply t.i1 ?_;exists a1,_,0,_,rfl,rfl,fj.of t.oa1,rfl;apply pY (λz1=>?_) (λz1=>go λz=>z1 z.1);apply t.i1 ?_;exists a1,_,1,_,rfl,rfl,fj.of t.oa1,rfl;refine⟨rfl,?_⟩;apply pY ax (λa=>go λz=>a z.2);apply r
theorem sa7(t:Tw H b1 b2 a1 a2 n1 n2 x y)(c:y.1="refused"->∃z,y.2.1=.str z)(r:Q (.bl true) H)(h:¬ (y.1="refused"/\y.2.1=.str "full")->¬ (x.1="sought"/\x.2.1=.non)->x.1=y.1/\x.2.1=y.2.1/\nx [v0,v1,v2,v3,v4,v5,↑b1,↑b2] H):fG K ⟨nx,Q,bk,ct⟩ [v0,v1,v2,v3,v4,v5,↑b1,↑b2] H:=by
 have go:¬ (y.1="refused"/\y.2.1=.str "full")->fD K ⟨nx,Q,bk,ct⟩ [v0,v1,v2,v3,v4,v5,↑b1,↑b2] H:=λz=>sa8 t r (h z);unfold fG;apply t.i2 ?_;exists a2,_,0,_,rfl,rfl,fj.of t.oa2,rfl;apply pY (λz1=>?_) (λz1=>go λz=>z1 z.1);obtain⟨d,b⟩:=c z1;apply t.i2 ?_;exists a2,_,1,_,rfl,rfl,fj.of t.oa2,rfl;refine⟨by rw[b];rfl,?_⟩;apply pY ax (λa=>go λz=>a z.2);apply r
end
theorem yI{w F E:AI}(q:Ik w F E H Q):m6 K Zb9 ν [↑w,↑F,↑E,none,none,none,none,none] H:=by
 obtain⟨rs,ps1,o,ps2,e,⟨as,w1,w2,w3⟩,r7,o1,a1,o2,a2,T,q⟩:=q;have l1:=a1.length;unfold m6;apply⟨w,rfl,⟨_,cJ.of w1⟩,Zok (as.map V.ref) (λi l g=>∃(k:Nat) (A D B u:Option V),l=[↑w,↑F,↑E,some (.int k),A,D,B,u]/\bx H g/\i<=o.length/\Zmj (rs.drop i) (o.drop i) (e.drop k)) ⟨0,none,none,none,none,rfl,bx.refl _,Nat.zero_le _,.inr T⟩ (by rintro i l g _ ⟨_,_,_,_,_,_,s,_⟩;exact cJ.of (s _ _ w1)) ?_ ?_⟩
 ·rintro i x t l g hx ⟨k,A,D,B,u,rfl,b,hi,J⟩ nt;rw[cL]at hx;obtain⟨c,hc,rfl⟩:=Option.map_eq_some_iff.mp hx;obtain⟨r,hr,N⟩:=w3 i c hc;generalize zz:upd g t _=H2;obtain⟨s2,g2⟩:=nwO nt zz
  replace b:=b.trans s2
  refine⟨t,_,rfl,fj.of g2,rfl,?_⟩;refine⟨_,_,rfl,?_⟩;exists _,_,rfl;exists rfl;apply eO (cJ.of (b _ _ o1)) ?_;rw[bA,l1];apply pY ax (λne=>?_)
  ·apply q _ b
  have P:i<o.length:=δ
  have J:Cmp (rs.drop i) (o.drop i) (e.drop k):=by
   rcases J with z | z
   ·have:=congrArg List.length z;rw[List.length_drop,List.length_nil]at this;omega
   ·exact z
  have er:rs.drop i=r::rs.drop (i+1):=by
   rw[<- List.getElem_cons_drop (dj hr).1,(dj hr).2]
  rw[er]at J;have oc:=b _ _ N;cases r with
  | sw m=>
   obtain⟨es,w',R,S⟩:=J.sw;obtain⟨_,X⟩:=Ia R;exists c,_,0,_,rfl,rfl,fj.of oc,rfl;apply pY ax (λz=>absurd rfl z);apply⟨k,_,_,_,_,rfl,b,P,by rw[X];exact S⟩
  | dd d=>
   obtain⟨x,y,w',l',R,e3,⟨M1,ex⟩,⟨M2,Y⟩,yn,ys,W⟩:=J.dd;obtain⟨_,X⟩:=Ia R;obtain⟨_,e4⟩:=Ia e3;obtain⟨O,f,n1,h1,ob1,ev1,oa1,on1⟩:=Zpo (a1.same b) R;obtain⟨L,a,n2,h2,ob2,ev2,oa2,M⟩:=Zpo (a2.same b) e3;obtain⟨zw,hz,nz⟩:=Zfm d;have tx:thV x.2.1:=by rw[ex];exact Zj1 _ _
   have ty:thV y.2.1:=by rw[Y];exact Zj1 _ _
   have fy:y.1="refused"->∃z,y.2.1=.str z:=λz=>by
    rcases Zr M2 d with ⟨r,h⟩ | ⟨h,_⟩
    ·rw[Y,h];exact⟨_,rfl⟩
    ·rw[<- Y]at h;exact absurd z h
   have ix1:∀{p:Hp}{I:VK},bx H2 p->I (.ref f) p->dM K (.ref O) (.int 0) p I:=λs h=>eF (v:=.ref f) (cJ.of (s _ _ ob1)) (eN (j:=0) rfl) h;have Z:∀{p:Hp}{I:VK},bx H2 p->I (.ref a) p->dM K (.ref L) (.int 0) p I:=λs h=>eF (v:=.ref a) (cJ.of (s _ _ ob2)) (eN (j:=0) rfl) h;exists c,_,0,_,rfl,rfl,fj.of oc,hz;apply pY (λz=>absurd z nz) ax;apply eF (v:=.ref O) (cJ.of (b _ _ o1)) (eN (by rw[cL,h1];rfl)) ?_;apply eF (v:=.ref L) (cJ.of (b _ _ o2)) (eN (by rw[cL,h2];rfl)) ?_;apply Zs3 rfl ?_;dsimp only[List.set];exists O,rfl,f,x,ob1,ev1,tx;exists L,rfl,a,y,ob2,ev2,ty;apply Z (bx.refl _) ?_;exists a,_,2,_,rfl,rfl,fj.of oa2,rfl;apply⟨ε,λe0 ne0=>?_⟩;generalize zz:upd H2 e0 _=H3;obtain⟨C,g3⟩:=nwO ne0 zz;rw[yn]at M;apply Zrm (cJ.of (C _ _ M)) (cJ.of g3) rfl ?_;have tw:Tw H3 O L f a n1 n2 x y:=⟨C _ _ ob1,C _ _ ob2,C _ _ oa1,C _ _ oa2,tx,ty⟩;have go:fG K ⟨λl g=>∃(k:Nat) (A D B u:Option V),l=[↑w,↑F,↑E,some (.int k),A,D,B,u]/\bx H g/\i+1<=o.length/\Zmj (rs.drop (i+1)) (o.drop (i+1)) (e.drop k),Q,n,λl g=>∃(k:Nat) (A D B u:Option V),l=[↑w,↑F,↑E,some (.int k),A,D,B,u]/\bx H g/\i+1<=o.length/\Zmj (rs.drop (i+1)) (o.drop (i+1)) (e.drop k)⟩ [↑w,↑F,↑E,some (.int ((k:Int)+1)),some (.int i),↑c,↑O,↑L] H3:=sa7 tw fy (q _ (b.trans C)) λz1 U=>by
    rcases W with d1 | d1 | ⟨d1,d2,d3⟩
    ·exact absurd d1 z1
    ·exact absurd d1 U
    ·exact⟨d1,d2,k+1,_,_,_,_,rfl,b.trans C,P,by rw[X,e4];exact d3⟩
   apply tw.i2 ?_;exists a,_,0,_,rfl,rfl,fj.of tw.oa2,rfl;apply pY (λz1=>?_) (λ_=>go);apply tw.i2 ?_;exists a,_,1,_,rfl,rfl,fj.of tw.oa2,rfl;refine⟨rfl,?_⟩;apply pY (λU=>absurd ⟨z1,U⟩ ys) (λ_=>go)
 ·rintro l g ⟨k,A,D,B,u,rfl,b,_⟩;apply q _ b
end
inductive YL(CS:AI)(sc:AI)(H:Hp)(Q:VK):Prop
 | mk (dx m kd hl rl xs rs) (_:H sc=some (.ins CS dx (pK m kd hl rl))) (_:H hl=some (.lst xs)) (_:RwL H rl rs) (_:rs.length<=700) (_:∀H' sc' dx' hl' rl',bx H H'->H' sc'=some (.ins CS dx' (pK m kd hl' rl'))->H' hl'=some (.lst xs)->RwL H' rl' (rs.filter λr=>ddB r)->Q (.ref sc') H'):YL CS sc H Q
def zp(a:AI):Sp:=λvs H Q E=>∃sc,vs=[.ref sc]/\YL a sc H Q
theorem Zfa{a b:Type}(f:a->Option b):∀xs:List a,(List.range xs.length).filterMap (λi=>(xs[i]?).bind f)=xs.filterMap f
 | []=>rfl
 | x::xs=>by
  rw[List.length_cons,List.range_succ_eq_map,List.filterMap_cons,List.filterMap_cons];have ih:=Zfa f xs;simp only[List.getElem?_cons_zero,Option.bind_some,List.filterMap_map];have e:(List.range xs.length).filterMap ((λi=>((x::xs)[i]?).bind f) ∘ Nat.succ)=xs.filterMap f:=ih;rw[e]
theorem flt{H:Hp}:∀{as:AF}{rs:List Bo},as.length=rs.length->(∀(i:Nat) a,as[i]? =some a->∃r,rs[i]? =some r/\H a=some (.tup (rV r)))->∃bs:AF,(as.zip rs).filterMap (λx=>if ddB x.2=true then some (V.ref x.1)else none)=bs.map V.ref/\bs.length=(rs.filter λr=>ddB r).length/\∀(i:Nat) b,bs[i]? =some b->∃r,(rs.filter λr=>ddB r)[i]? =some r/\H b=some (.tup (rV r))
 | [],[],_,_=>⟨[],rfl,rfl,λi b h=>by cases h⟩
 | [],_::_,h,_=>by cases h
 | _::_,[],h,_=>by cases h
 | a::as,r::rs,h,g=>by
  obtain⟨bs,d,c,e3⟩:=flt (H:=H) (as:=as) (rs:=rs) (Nat.succ.inj h) λi a e=>g (i+1) a e;obtain⟨f,er,hr⟩:=g 0 a rfl;cases er;rw[List.zip_cons_cons,List.filterMap_cons,List.filter_cons]
  by_cases z:ddB r=true
  ·dsimp only;rw[if_pos z,if_pos z,d];refine⟨a::bs,rfl,by rw[List.length_cons,List.length_cons,c],λi b hb=>?_⟩
   match i,hb with
   | 0,hb=>cases hb;exact⟨r,rfl,hr⟩
   | i+1,hb=>exact e3 i b hb
  ·dsimp only;rw[if_neg z,if_neg z,d];exact⟨bs,rfl,c,e3⟩
theorem RwL.same{H H':Hp}{l:AI}{rs:List Bo}(h:RwL H l rs)(s:bx H H'):RwL H' l rs:=by
 obtain⟨c,h1,h2,b⟩:=h;exact⟨c,s _ _ h1,h2,λi a d=>let ⟨x,e,q⟩:=b i a d;⟨x,e,s _ _ q⟩⟩
theorem Zvd(r:Bo):∃z:Str,QJ (rV r) 0=some (.str z)/\(decide (z="sweep")=!ddB r):=by
 cases r with
 | sw n=>exact⟨_,rfl,rfl⟩
 | dd d=>
  obtain⟨z,h1,h2⟩:=Zfm d;exact⟨z,h1,decide_eq_false h2⟩
section
variable {K:aD}{X:Cs}{aW:AI}{H:Hp}{Q:VK}{E:XK}{n:μ}{bk ct:μ}
theorem Zkz{l:AI}{rs:List Bo}{σ:St}{g:VK}(hr:RwL H l rs)(h1:rs.length<=700)(h:∀p H',H p=none->bx H H'->RwL H' p (rs.filter λr=>ddB r)->g (.ref p) H'):
  LCg (Itl K l) [] (bT (aV (Y6) (aV a7 ρ π) (tC (.str "sweep")))) ρ σ H g:=by
 obtain⟨f,hr,len,c⟩:=hr;refine XC (cJ.of hr) (λi=>((f.zip rs)[i]?).bind λx=>if ddB x.2=true then ↑x.1else none) (by rw[bA];omega) (λi x hx=>?_) λp hp=>?_
 ·rw[cL]at hx;obtain⟨a,j,rfl⟩:=Option.map_eq_some_iff.mp hx;obtain⟨r,er,hb⟩:=c i a j;have s:(f.zip rs)[i]? =some (a,r):=List.getElem?_zip_eq_some.mpr ⟨j,er⟩;rw[s];obtain⟨z,hz,o⟩:=Zvd r;refine⟨λq hq=>?_,λv q hv hq=>?_⟩
  ·walk_at"c";exists a,_,0,_,rfl,rfl,fj.of hb,hz;ext;rw[o,Bool.not_not];cases r with
   | sw m=>exact hq
   | dd d=>exact hq
  ·walk_at"c";cases r with
   | sw m=>cases hv
   | dd d=>
    cases hv;apply hq
 rw[bA,show f.length=(f.zip rs).length by rw[List.length_zip];omega,Zfa];obtain⟨bs,e,bl,n⟩:=flt (H:=H) len c;rw[e];have k:=aM hp (.lst (bs.map V.ref));exact h p _ hp k ⟨bs,ao,bl,λi b hb=>let ⟨r,er,h⟩:=n i b hb;⟨r,er,k _ _ h⟩⟩
theorem Zj9{sc:AI}(TT:TxS K X aW)(q:YL aW sc H Q):
  Nj K aW (iB aW) ν [↑sc,none] H:=by
 obtain⟨E,m,kd,hl,rl,D,rs,o,y,hr,h1,h⟩:=q;unfold Nj;apply VH ?_;apply aH o TT.iy TT.Xn pJ ?_;ext;obtain⟨z,g,_⟩:=id hr;refine⟨rl,rfl,⟨_,cJ.of g⟩,?_⟩;refine Zkz hr h1 λp d hp a l=>?_;obtain⟨bs,v,bl,u⟩:=l;apply aH (a _ _ o) TT.iy TT.Zci xm ?_;apply aH (a _ _ o) TT.iy TT.Zcj xq ?_;apply aH (a _ _ o) TT.iy TT.Lz nU ?_;ext;intro x c nx f ne;have e:bx d (upd (upd d c (.own x)) x (.ins aW c [])):=λb o hb=>by rw[aA (aF hb nx),aA (aF hb f)];exact hb
 refine⟨x,m,kd,hl,p,rfl,c,_,_,ao,e _ _ (a _ _ y),e _ _ v,λk h2 r2 w t e3 s A B C=>⟨rfl,?_⟩⟩;have j:bx d k:=λb o hb=>s b o (e b o hb) (aF hb nx);exact h k x c h2 r2 (a.trans j) w t ⟨bs,e3,bl,λi b hb=>let ⟨r,er,h⟩:=u i b hb;⟨r,er,j _ _ h⟩⟩
end
inductive Zme(K:aD)(a:AI)(H:Hp)(Q:VK):Prop
 | mk (ns:AE) (_:cJ K H a (ns.map V.int)) (_:ns.length<=63) (_:∀H',Q (.bl true) H'):Zme K a H Q
def Zg0(K:aD):Sp:=λvs H Q E=>∃a,vs=[.ref a]/\Zme K a H Q
theorem Zut(ns:AE):∃cs:AE,Yx (ns.map V.int) (some 3) (some 63)=cs.map V.int/\cs.length<=60:=by
 refine⟨(ns.drop (HT.Jp ns.length 0 (some 3))).take (HT.Jp ns.length ns.length (some 63) - HT.Jp ns.length 0 (some 3)),?_,?_⟩
 ·unfold Yx;rw[List.map_take,List.map_drop,bA]
 ·rw[List.length_take];have:HT.Jp ns.length ns.length (some 63) - HT.Jp ns.length 0 (some 3)<=60:=by
   simp only[HT.Jp];rw[if_neg ε,if_neg ε];omega
  omega
section
variable {K:aD}{X:Cs}{aW:AI}{H:Hp}{Q:VK}{E:XK}{n:μ}{bk ct:μ}{hs:uz}{m w t:Int}{rs:List Bo}{a l wv x p1 p2 dd ki h2 r2 dx:AI}{v1 v2 v5 v7 v8:Option V}{ts as ps1 ps2:AF}{Vz lg2:List (List Rz)}{M1 M2:Wm}
theorem YF{d:Nat}:∀ds:AF,Al (Dq K H (d+1)) (ds.map V.ref) (ds.map V.ref)
 | []=>.nil
 | a::ds=>.cons (.inr ⟨a,a,rfl,rfl,.inl rfl⟩) (YF ds)
structure Ru(H:Hp)(aW:AI)(hs:uz)(m w t:Int)(rs:List Bo)(l wv x p1 p2 dd ki h2 r2 dx:AI)(ts as ps1 ps2:AF)(Vz lg2:List (List Rz))(M1 M2:Wm):Prop where
 wb:0<=w/\w<3/\0<=t/\t<4
 ok:∀r∈rs,okW hs r
 rl:rs.length<=700
 wo:RwL H wv rs
 wa:H wv=some (.lst (as.map V.ref))
 hl:H l=some (.lst (ts.map V.ref))
 sc:H x=some (.ins aW dx (pK m ki h2 r2))
 sh:H h2=some (.lst (ts.map V.ref))
 sr:H r2=some (.lst (as.map V.ref))
 dd:RwL H dd (rs.filter λr=>ddB r)
 o1:H p1=some (.lst (ps1.map V.ref))
 o2:H p2=some (.lst (ps2.map V.ref))
 a1:LgH H ps1 Vz
 a2:LgH H ps2 lg2
 r1:qi (wV m hs w t) rs Vz M1
 r2:qi (wV m hs w t) (rs.filter λr=>ddB r) lg2 M2
theorem Ztg(u:Ru H aW hs m w t rs l wv x p1 p2 dd ki h2 r2 dx ts as ps1 ps2 Vz lg2 M1 M2)(h:∀H',Q (.bl true) H'):uE jN nJ lU ν [↑a,v1,v2,↑l,some (.str (words w t)),v5,↑wv,v7,v8,↑dd,↑x,↑p1,↑p2] H:=by
 obtain⟨w0,e,f,t1⟩:=u.wb;have fin:∀H',bx H H'->uD jN ν [↑a,v1,v2,↑l,some (.str (words w t)),v5,↑wv,v7,v8,↑dd,↑x,↑p1,↑p2] H':=λH' s=>by
  unfold uD;apply⟨wv,p1,p2,rfl,rs,ps1,Vz,ps2,lg2,u.wo.same s,u.rl,s _ _ u.o1,u.a1.same s,s _ _ u.o2,u.a2.same s,Cmp.new f t1 u.ok u.r1 u.r2,λg _=>h g⟩
 unfold uE;apply⟨_,rfl,w,t,rfl,w0,e,f,t1,λd b=>?_⟩;cases c:Ziq w t with
 | false=>
  apply fin d b
 | true=>
  exists p1,rfl,ps1,Vz,b _ _ u.o1,u.a1.same b;rw[u.r1.snd (qx.Zvm (Zq8 w0 e c)) TB.new];apply fin d b
theorem Zth(TT:TxS K X aW)(u:Ru H aW hs m w t rs l wv x p1 p2 dd ki h2 r2 dx ts as ps1 ps2 Vz lg2 M1 M2)(h:∀H',Q (.bl true) H'):uF K jN nJ lU ν [↑a,v1,v2,↑l,some (.str (words w t)),v5,↑wv,v7,v8,↑dd,↑x,↑p1,↑p2] H:=by
 obtain⟨i,d1,d2,_⟩:=u.dd;have e:=u.r2.dds λr hr=>(List.mem_filter.mp hr).2;have b:as.length=rs.length:=by
  obtain⟨f,c,g,_⟩:=u.wo;rw[u.wa]at c;have:=congrArg List.length (HO.lst.inj (Option.some.inj c));rw[bA,bA]at this;omega
 have len:=u.r1.lens;have d:=u.a1.length;have l2:=u.a2.length;have fin:=Ztg (n:=n) (bk:=bk) (ct:=ct) (a:=a) (v1:=v1) (v2:=v2) (v5:=v5) (v7:=v7) (v8:=v8) u h;unfold uF;apply rB u.o1 ?_;apply rB u.o2 ?_;apply eO (cJ.of u.o2) ?_;apply eO (cJ.of d1) ?_;rw[bA,bA,l2,e,d2];apply uX (λz=>absurd rfl z) ax;apply eO (cJ.of u.o1) ?_;apply eO (cJ.of u.wa) ?_;rw[bA,bA,d,b];apply pY (λz=>absurd z δ) ax;apply aH u.sc TT.iy TT.Xn pJ ?_;exists r2,wv,_,_,rfl,rfl,.inl ⟨cJ.of u.sr,cJ.of u.wa⟩,YF as;apply aH u.sc TT.iy TT.Lz nU ?_;exists h2,l,_,_,rfl,rfl,.inl ⟨cJ.of u.sh,cJ.of u.hl⟩,YF ts;apply eO (cJ.of u.o1) ?_;apply eO (cJ.of u.wa) ?_;rw[bA,bA,d,b];apply pY (λz=>?_) (λ_=>fin);exists p1,rfl,ps1,Vz,u.o1,u.a1;rw[len.2 δ];apply fin
end
section
variable {K:aD}{X:Cs}{aW:AI}{H:Hp}{Q:VK}{E:XK}{n:μ}{bk ct:μ}{hs:uz}{m w t:Int}{a l:AI}{v1 v2 v5 v7 v8:Option V}
theorem Zvo{F dd:AI}{rs:List Bo}(TT:TxS K X aW)(wb:0<=w/\w<3/\0<=t/\t<4)(P:HsO H l hs)(hb:HsB hs)(f:RwL H F rs)(rl:rs.length<=700)(ok:∀r∈rs,okW hs r)(od:RwL H dd (rs.filter λr=>ddB r))(h:∀H',Q (.bl true) H'):xQ K aW (iB aW) jN nJ lU (pD X) (zp aW) (Wq aW X) ν [↑a,v1,v2,↑l,some (.str (words w t)),some (.int m),↑F,v7,v8,↑dd,none,none,none] H:=by
 obtain⟨w0,w1,C,t1⟩:=id wb;unfold xQ;apply⟨_,rfl,w,t,w0,w1,C,t1,rfl,λki lk H6 D nki nlk kd=>?_⟩
 replace P:=P.same D
 replace f:=f.same D
 replace od:=od.same D
 obtain⟨ts,Y,k2⟩:=id P;obtain⟨as,r1,r2,r3⟩:=id f;apply⟨l,_,rfl,cJ.of Y,λla S=>?_⟩;generalize zz:upd H6 la _=H7;obtain⟨U,c7⟩:=nwO S zz;apply⟨F,_,rfl,cJ.of (U _ _ r1),λlb B=>?_⟩;generalize zz:upd H7 lb _=H8;obtain⟨T,c8⟩:=nwO B zz;ext;intro x A nx L ne;have M:bx H8 (upd (upd H8 A (.own x)) x (.ins aW A [])):=λb o hb=>by rw[aA (aF hb nx),aA (aF hb L)];exact hb
 refine⟨x,m,ki,la,lb,rfl,A,_,_,ao,M _ _ (T _ _ c7),M _ _ c8,λO h2 q E I e3 kM f1 f2 f3=>⟨rfl,?_⟩⟩;have g:bx H6 O:=U.trans (T.trans λb o hb=>kM b o (M b o hb) (aF hb nx))
 replace kd:=kd.same g
 have u:∀{H':Hp}{p:AI},bx O H'->H' p=some (.lst (ts.map V.ref))->HsO H' p hs:=λs e=>⟨ts,e,k2.mono λa m z=>s _ _ (g _ _ z)⟩;have v:RwL O q rs:=⟨as,e3,r2,λi c hc=>let ⟨y,q1,q2⟩:=r3 i c hc;⟨y,q1,g _ _ q2⟩⟩;apply⟨x,_,rfl,none,rfl,A,m,ki,h2,q,lk,w,t,hs,rs,E,kd,C,t1,u (bx.refl _) I,hb,v,δ,ok,λHb p ps lg Mb sb W hp al np=>?_⟩;rw[show(none:Option Nat).getD rs.length=rs.length from rfl,List.take_length]at W;apply⟨x,rfl,A,m,ki,h2,q,_,rs,sb _ _ E,sb _ _ I,v.same sb,rl,λHc y dy h3 J sc g1 g2 g3=>?_⟩;apply⟨y,_,rfl,none,rfl,dy,m,ki,h3,J,lk,w,t,hs,_,g1,kd.same (sb.trans sc),C,t1,u (sb.trans sc) g2,hb,g3,Nat.le_trans (List.length_filter_le _ _) rl,λr hr=>ok r (List.mem_filter.mp hr).1,λHd p' ps' lg' Mc sd Z R N np'=>?_⟩;rw[show ∀k:Nat,(none:Option Nat).getD k=k from λ_=>rfl,List.take_length]at Z;ext;have d:=sc.trans sd;have j:=g.trans (sb.trans d);exact Zth TT ⟨wb,ok,rl,f.same j,j _ _ r1,j _ _ Y,(sb.trans d) _ _ E,(sb.trans d) _ _ I,(sb.trans d) _ _ e3,od.same j,d _ _ hp,R,al.same d,N,W,Z⟩ h
theorem RwO.toL{H:Hp}{p:AI}{m:Nat}(h:RwO hs H p m):∃rs,RwL H p rs/\rs.length=m/\∀r∈rs,okW hs r:=by
 obtain⟨c,h1,h2,n⟩:=h;have j:∀c:AF,RA hs H c->∃rs:List Bo,c.length=rs.length/\(∀(i:Nat) a,c[i]? =some a->∃r,rs[i]? =some r/\H a=some (.tup (rV r)))/\∀r∈rs,okW hs r:=by
  intro c
  induction c with
  | nil=>exact λ_=>⟨[],rfl,λi a z=>(nomatch z),λr z=>nomatch z⟩
  | cons a c ih=>
   intro h;obtain⟨r,k,l⟩:=h a (List.mem_cons_self ..);obtain⟨rs,f,d,g⟩:=ih λb hb=>h b (List.mem_cons_of_mem _ hb);refine⟨r::rs,congrArg Nat.succ f,λi b hb=>?_,λy hy=>?_⟩
   ·cases i with
    | zero=>cases hb;exact⟨r,rfl,k⟩
    | succ i=>exact d i b hb
   ·rcases List.mem_cons.mp hy with e | hy
    ·rw[e];exact l
    ·exact g y hy
 obtain⟨rs,f,d,g⟩:=j c h2;exact⟨rs,⟨c,h1,f,d⟩,δ,g⟩
theorem Zvp{ns:AE}{b:Int}(TT:TxS K X aW)(wb:0<=w/\w<3/\0<=t/\t<4)(hS:cJ K H a (ns.map V.int))(q:HsO H l hs)(hb:HsB hs)(h:∀H',Q (.bl true) H'):qF K aW (iB aW) yS jN nJ lU (pD X) (zp aW) (Wq aW X) ν [↑a,v1,some (.int b),↑l,some (.str (words w t)),some (.int m),none,none,none,none,none,none,none] H:=by
 obtain⟨cs,B,cl⟩:=Zut ns;unfold qF;apply⟨ε,λD A=>?_⟩;generalize zz:upd H D _=H1;obtain⟨L,g⟩:=nwO A zz;have g:H1 D=some (.lst (([]:AF).map V.ref)):=g;apply⟨a,_,rfl,L.seq hS,λcp C=>?_⟩;rw[B];generalize zz:upd H1 cp _=H2;obtain⟨F,N⟩:=nwO C zz
 replace q:=q.same (L.trans F)
 replace g:=F _ _ g
 apply⟨cp,rfl,⟨_,cJ.of N⟩,Zok (cs.map V.int) (λi j e=>∃f k v7 v8,j=[↑a,v1,some (.int b),↑l,some (.str (words w t)),some (.int m),↑f,v7,v8,none,none,none,none]/\bx H2 e/\k<=11 * i/\RwO hs e f k) ⟨D,0,none,none,rfl,bx.refl _,Nat.le_refl _,[],g,λ_ z=>(nomatch z),rfl⟩ (by rintro i j e _ ⟨_,_,_,_,_,s,_⟩;exact cJ.of (s _ _ N)) ?_ ?_⟩
 ·rintro i x I j e hx ⟨f,k,v7,v8,rfl,o,hk,u⟩ S;rw[cL]at hx;obtain⟨c,hc,rfl⟩:=Option.map_eq_some_iff.mp hx;have hi:=(dj hc).1;generalize zz:upd e I _=H3;obtain⟨M,Y⟩:=nwO S zz;refine⟨I,_,rfl,fj.of Y,rfl,?_⟩;refine⟨_,_,rfl,?_⟩;exists _,_,rfl;exists rfl;apply⟨_,_,l,_,rfl,δ,δ,hs,q.same (o.trans M),hb,λp R H4 Z hk' W=>?_⟩;obtain⟨r,P,q2,q3⟩:=u;obtain⟨bs,T,b2,U⟩:=W;have d:=M.trans Z;apply⟨f,p,_,_,rfl,rfl,d _ _ P,T,by rw[bA,bA,sizeLine_eq];omega,λp' v=>?_⟩;have E:=aM v (.lst (r.map V.ref++bs.map V.ref));apply⟨p',k+R,_,_,rfl,o.trans (d.trans E),δ,r++bs,by rw[ao,List.map_append],λy hy=>?_,by rw[List.length_append,q3,U]⟩;rcases List.mem_append.mp hy with hy | hy
  ·exact(q2.same (d.trans E)) y hy
  ·exact(b2.same E) y hy
 ·rintro j e ⟨f,k,v7,v8,rfl,o,hk,u⟩;rw[bA]at hk;obtain⟨rs,r1,r2,r3⟩:=u.toL;obtain⟨r,r4,_⟩:=id r1;apply VH ?_;apply⟨f,rfl,⟨_,cJ.of r4⟩,Zkz r1 δ λp H' np J O=>?_⟩;apply Zvo TT wb (q.same (o.trans J)) hb (r1.same J) δ r3 O h
theorem Zr5{a:AI}(TT:TxS K X aW)(q:Zme K a H Q):
  Zc5 K aW (iB aW) (Zdz K) Iw Q8 yS jN nJ lU (pD X) (zp aW) (Wq aW X) ν [↑a,none,none,none,none,none,none,none,none,none,none,none,none] H:=by
 obtain⟨ns,c,j,h⟩:=q;unfold Zc5;apply⟨a,_,rfl,ns,c,ε,λz1=>?_⟩;ext;generalize (z1+13) * 48271 % 7919=way;refine⟨a,_,rfl,ns,c,ε,λx=>?_⟩;apply⟨_,_,rfl,λl hs B i nl v hb=>?_⟩;apply⟨a,_,rfl,ns,i.seq c,ε,λC=>?_⟩;apply⟨_,rfl,λw t f w0 r k t1 g=>?_⟩;have b:=i.trans g;apply⟨a,_,rfl,ns,b.seq c,ε,λy=>?_⟩;have fin:∀(m:Int) (d:Hp),bx f d->qF K aW (iB aW) yS jN nJ lU (pD X) (zp aW) (Wq aW X) ν [↑a,some (.int way),some (.int (x % 10 ^ Int.toNat 9)),↑l,some (.str (words w t)),some (.int m),none,none,none,none,none,none,none] d:=λm d s=>Zvp TT ⟨w0,r,k,t1⟩ ((b.trans s).seq c) (v.same (g.trans s)) hb h;ext;have A:=Int.emod_nonneg (way / 25) (show(4:Int)≠0 by decide);have y1:=Int.emod_lt_of_pos (way / 25) (show(0:Int)<4 by decide);refine pY (λz=>?_) (λ_=>fin _ f (bx.refl _));apply⟨ε,λp np=>?_⟩;generalize zz:upd f p _=H3;obtain⟨u,o⟩:=nwO np zz;ext;obtain⟨m,hm⟩:∃m:Int,QJ [V.int 1000,.int 60,.int (10 ^ Int.toNat 15)] (way / 25 % 4 - 1)=some (.int m):=by
  rcases(by omega:way / 25 % 4 - 1=0\/way / 25 % 4 - 1=1\/way / 25 % 4 - 1=2)with e | e | e<;>rw[e]<;>exact⟨_,rfl⟩
 refine eF (cJ.of o) hm ?_;apply fin m H3 u
end
def top(i:Nat):Stmt:=PySem.Challenge.pw_greywalk_k48_whole_sweeps_unseen.main.body.getD i (.Pass ⟨0,0,0,0⟩)
abbrev vN:Stmt:=inClass (top 8) 0
abbrev Dt:Stmt:=inClass (top 8) 1
abbrev sO:Stmt:=inClass (top 8) 2
abbrev vL:Stmt:=inClass (top 9) 0
abbrev jA:Stmt:=inClass (top 9) 1
abbrev Nb:Stmt:=inClass (top 9) 2
abbrev Jm:Stmt:=inClass (top 9) 3
abbrev Jl:Stmt:=inClass (top 9) 4
abbrev Dr:Stmt:=inClass (top 9) 5
abbrev UT:Stmt:=top 10
abbrev M9:Stmt:=top 11
abbrev Zm:Stmt:=top 15
abbrev pM:Stmt:=inClass (top 16) 2
abbrev oF:Stmt:=inClass (top 16) 3
abbrev vJ:Stmt:=inClass (top 16) 4
abbrev Ds:Stmt:=inClass (top 17) 0
abbrev sI:Stmt:=inClass (top 17) 2
abbrev Jo:Stmt:=inClass (top 18) 0
abbrev sJ:Stmt:=inClass (top 18) 2
abbrev Jk:Stmt:=inClass (top 19) 0
abbrev sH:Stmt:=inClass (top 19) 2
abbrev Dn:Stmt:=inClass (top 19) 3
abbrev vK:Stmt:=inClass (top 20) 0
abbrev Dp:Stmt:=inClass (top 20) 2
abbrev Ut:Stmt:=top 21
abbrev vM:Stmt:=inClass (top 23) 0
abbrev pL:Stmt:=inClass (top 24) 0
abbrev sE:Stmt:=inClass (top 25) 0
abbrev Zix:Stmt:=top 26
abbrev Jj:Stmt:=top 27
abbrev Jg:Stmt:=top 28
abbrev Jh:Stmt:=top 29
abbrev Df:Stmt:=top 30
abbrev Zef:Stmt:=top 31
abbrev Ziw:Stmt:=top 32
abbrev M5:Stmt:=top 33
abbrev Ziy:Stmt:=top 34
abbrev Zed:Stmt:=top 35
abbrev Uq:Stmt:=top 36
abbrev MN:Stmt:=top 38
abbrev UL:Stmt:=top 39
abbrev Ji:Stmt:=top 40
abbrev zJ:Stmt:=top 41
abbrev zK:Stmt:=top 42
abbrev Uy:Stmt:=top 43
abbrev Zk:Stmt:=top 44
abbrev Zj:Stmt:=top 45
abbrev UJ:Stmt:=top 46
abbrev UG:Stmt:=top 47
abbrev Uz:Stmt:=top 48
abbrev M8:Stmt:=top 49
abbrev Uw:Stmt:=top 50
abbrev Ux:Stmt:=top 51
abbrev Uv:Stmt:=top 52
abbrev zL:Stmt:=top 53
abbrev Zt3:Stmt:=top 55
abbrev sG:Stmt:=inClass (top 58) 0
abbrev MK:Stmt:=top 59
abbrev Zee:Stmt:=top 60
abbrev Us:Stmt:=top 62
abbrev Zi:Stmt:=top 63
abbrev De:Stmt:=top 65
abbrev xx:Stmt:=top 66
abbrev xr:Stmt:=top 67
abbrev Ziu:Stmt:=top 68
abbrev zM:Stmt:=top 69
abbrev Zp7:Stmt:=top 70
abbrev Dg:Stmt:=top 71
abbrev M7:Stmt:=top 72
abbrev CZ:Stmt:=top 73
abbrev xu:Stmt:=top 74
abbrev Dd:Stmt:=top 75
abbrev s_end:Stmt:=top 76
abbrev rZ:Stmt:=top 77
abbrev Ziv:Stmt:=top 79
abbrev Zeb:Stmt:=top 81
abbrev Zec:Stmt:=top 82
abbrev Dc:Stmt:=top 83
abbrev CW:Stmt:=top 84
abbrev Ur:Stmt:=top 85
abbrev MP:Stmt:=top 86
abbrev Uu:Stmt:=top 87
abbrev xJ:Stmt:=top 89
abbrev Dh:Stmt:=top 90
abbrev xH:Stmt:=top 91
abbrev Dj:Stmt:=top 92
abbrev vI:Stmt:=top 93
abbrev xF:Stmt:=top 94
abbrev zN:Stmt:=top 95
abbrev Di:Stmt:=top 96
abbrev su:Stmt:=top 97
abbrev zO:Stmt:=top 98
abbrev Dk:Stmt:=top 99
abbrev Dl:Stmt:=top 100
abbrev xG:Stmt:=top 101
abbrev Dm:Stmt:=top 102
abbrev oE:Stmt:=top 103
abbrev M6:Stmt:=top 104
abbrev Fi(K:aD)(c:AI)(s:Str)(f:AI):Prop:=W.findIn K (.ref c) s=some (↑f)
abbrev Fo(K:aD)(c:AI)(s:Str):Prop:=W.findIn K (.ref c) s=some none
abbrev Ns(K:aD)(s:Str)(f:AI):Prop:=W.nsIn K mainGlobals s=some (↑f)
abbrev Ki(K:aD)(f:AI):Prop:=W.keepIn K (.ref f)=true
abbrev Ci(K:aD)(c:AJ)(s:Str):Prop:=W.codeIn K c s=true
abbrev Lk(K:aD)(f:AI)(a b:Str)(s:Stmt)(d:AJ)(oc:AJ)(od:Option AI)(kV dc pm:AJ)(an:Option AI)(cd ct:AJ)(sl:Array AB):Prop:=K.lookup f=some ⟨oc,od,.func (W.fnOf a b (iQ s) (fJ s) (aC s) d kV dc pm an cd ct),sl⟩
abbrev FnG(K:aD)(x q:Str)(s:Stmt)(f:AI):Prop:=∃fd,Fun K x q s f fd
section
variable {K:aD}{x q:Str}{s:Stmt}{f C:AI}{oc:AJ}{od:Option AI}{kV dc pm:AJ}{an:Option AI}{cd ct:AJ}{sl:Array AB}
theorem fgm(l:Lk K f x q s .none oc od kV dc pm an cd ct sl)(c:Ci K cd q)(k:Ki K f):FnG K x q s f:=⟨_,Zln l c k⟩
noncomputable def gm (g:FnG K x q s f):AL:=g.choose
theorem BK(g:FnG K x q s f):Fun K x q s f (gm g):=g.choose_spec
structure FA(K:aD)(x:Str)(s:Stmt)(f:AI):Prop where
 a:Ns K x f
 g:FnG K x x s f
theorem fam(a:Ns K x f)(l:Lk K f x x s .none oc od kV dc pm an cd ct sl)(c:Ci K cd x)(k:Ki K f):FA K x s f:=⟨a,fgm l c k⟩
structure FT(K:aD)(mg:As)(x:Str)(s:Stmt)(f:AI):Prop where
 m:mg x=↑f
 g:FnG K x x s f
structure MT(K:aD)(C:AI)(x q:Str)(s:Stmt)(f:AI):Prop where
 m:Meth K C x f
 g:FnG K x q s f
theorem mtm(a:Fi K C x f)(i:W.isFn K (.ref f)=true)(l:Lk K f x q s .none oc od kV dc pm an cd ct sl)(c:Ci K cd q)(k:Ki K f):MT K C x q s f:=⟨⟨a,i,k⟩,fgm l c k⟩
structure CA(K:aD)(C:AI):Prop where
 c:Lj K C
 mk':W.makesIn K C=true
 k:Ki K C
theorem cam(a:W.plainGet K C Str.empty=true)(b:W.hasDictIn K C=true)(c:W.plainOver K C=true)(d:W.findIn K (.ref C) "__setattr__"=some (some (.builtin "object.__setattr__")))(e:W.makesIn K C=true)(f:Ki K C):CA K C:=⟨⟨a,b,c,d⟩,e,f⟩
end
theorem cn1{a:Type}{us:List a}{n:Nat}(h:us.length=n+1):∃x t,us=x::t/\t.length=n:=by cases us with | nil=>cases h | cons x t=>exact⟨x,t,rfl,Nat.succ.inj h⟩
theorem bd1{K:aD}{x a:Str}{st:Stmt}{f:AI}{fd:AL}(F:Fun K x a st f fd)(a0:Str)(h:∀(kV c g:AJ) (e:Option AI) (b ct d:AJ),bindArgs (W.fnOf x a (iQ st) (fJ st) (aC st) .none kV c g e b ct) ⟨[d],[]⟩=pure (([a0]:AH).zip [d]):=by intros;rfl):Binds K fd [a0] []:=F.binds λkV c g e b ct us hl=>by obtain⟨d,_,rfl,l1⟩:=cn1 (n:=0) hl;cases List.eq_nil_of_length_eq_zero l1;exact h kV c g e b ct d
theorem bd2{K:aD}{x a:Str}{st:Stmt}{f:AI}{fd:AL}(F:Fun K x a st f fd)(a0 a1:Str)(h:∀(kV c i:AJ) (g:Option AI) (b ct d e:AJ),bindArgs (W.fnOf x a (iQ st) (fJ st) (aC st) .none kV c i g b ct) ⟨[d,e],[]⟩=pure (([a0,a1]:AH).zip [d,e]):=by intros;rfl):Binds K fd [a0,a1] []:=F.binds λkV c i g b ct us hl=>by obtain⟨d,_,rfl,l1⟩:=cn1 (n:=1) hl;obtain⟨e,_,rfl,l2⟩:=cn1 (n:=0) l1;cases List.eq_nil_of_length_eq_zero l2;exact h kV c i g b ct d e
theorem bd3{K:aD}{x a:Str}{st:Stmt}{f:AI}{fd:AL}(F:Fun K x a st f fd)(a0 a1 a2:Str)(h:∀(kV c j:AJ) (i:Option AI) (b ct e g d:AJ),bindArgs (W.fnOf x a (iQ st) (fJ st) (aC st) .none kV c j i b ct) ⟨[e,g,d],[]⟩=pure (([a0,a1,a2]:AH).zip [e,g,d]):=by intros;rfl):Binds K fd [a0,a1,a2] []:=F.binds λkV c j i b ct us hl=>by obtain⟨e,_,rfl,l1⟩:=cn1 (n:=2) hl;obtain⟨g,_,rfl,l2⟩:=cn1 (n:=1) l1;obtain⟨d,_,rfl,l3⟩:=cn1 (n:=0) l2;cases List.eq_nil_of_length_eq_zero l3;exact h kV c j i b ct e g d
theorem bd4{K:aD}{x a:Str}{st:Stmt}{f:AI}{fd:AL}(F:Fun K x a st f fd)(a0 a1 a2 l:Str)(h:∀(kV c k:AJ) (j:Option AI) (b ct e g d i:AJ),bindArgs (W.fnOf x a (iQ st) (fJ st) (aC st) .none kV c k j b ct) ⟨[e,g,d,i],[]⟩=pure (([a0,a1,a2,l]:AH).zip [e,g,d,i]):=by intros;rfl):Binds K fd [a0,a1,a2,l] []:=F.binds λkV c k j b ct us hl=>by obtain⟨e,_,rfl,l1⟩:=cn1 (n:=3) hl;obtain⟨g,_,rfl,l2⟩:=cn1 (n:=2) l1;obtain⟨d,_,rfl,l3⟩:=cn1 (n:=1) l2;obtain⟨i,_,rfl,l4⟩:=cn1 (n:=0) l3;cases List.eq_nil_of_length_eq_zero l4;exact h kV c k j b ct e g d i
theorem bd5{K:aD}{x a:Str}{st:Stmt}{f:AI}{fd:AL}(F:Fun K x a st f fd)(a0 a1 a2 n m:Str)(h:∀(kV c l:AJ) (k:Option AI) (b ct g i d j e:AJ),bindArgs (W.fnOf x a (iQ st) (fJ st) (aC st) .none kV c l k b ct) ⟨[g,i,d,j,e],[]⟩=pure (([a0,a1,a2,n,m]:AH).zip [g,i,d,j,e]):=by intros;rfl):Binds K fd [a0,a1,a2,n,m] []:=F.binds λkV c l k b ct us hl=>by obtain⟨g,_,rfl,l1⟩:=cn1 (n:=4) hl;obtain⟨i,_,rfl,l2⟩:=cn1 (n:=3) l1;obtain⟨d,_,rfl,l3⟩:=cn1 (n:=2) l2;obtain⟨j,_,rfl,l4⟩:=cn1 (n:=1) l3;obtain⟨e,_,rfl,l5⟩:=cn1 (n:=0) l4;cases List.eq_nil_of_length_eq_zero l5;exact h kV c l k b ct g i d j e
structure Hh(P:AM)(w:AO)(K:aD)(mg:As)(base:Heap)(n:Nat)(f:AI)(fd:AL)(ps:AH)(sp:Sp):Prop where
 g:qj P w K mg base (G.Cp P w) n f fd ps sp
 b:Binds K fd ps []
 k:W.keepIn K (.ref f)=true
abbrev Fn5(P:AM)(w:AO)(K:aD)(mg:As)(base:Heap)(n:Nat)(f:AI)(fd:AL)(ps:AH)(sp:Sp):Prop:=qj P w K mg base (G.Cp P w) n f fd ps sp
section
variable {X:Cx}{n k:Nat}{f:AI}{fd:AL}{ps:AH}{sp:Sp}{x:Str}{e:AN}{es:AG}{t:TA}{p pos:Pos}{s:Stmt}
theorem gj(h:Hh X.prog X.w X.K X.mg X.base n f fd ps sp)(hr:Room k X.A)(mo:∀{s:Str}{v:AJ},W.nsIn X.K mainGlobals s=some (some v)->X.mg s=some v)(hm:FA X.K x s f)(j:PA X (e::es) t)(hn:n<=k:=by decide)(l:X.env.kindOf x=some .globalImplicit:=by rfl)(c:(x == ("__debug__":Str))=false:=by decide)(i:starEach (e::es) X.env=(false,eval e X.env)::starEach es X.env:=by rfl)(d:(backTo pos (starEach es X.env)).any (·.1)=false:=by rfl):PE X (.Call (.Name x p) (e::es) [] pos) (aX sp [] E0 t):=mU h.g (hr.mono hn) l (mo hm.a) h.k h.b .nil G.cZ j c i d
end
theorem cI{N P:AH}{sc:Scope}(a:sc.kind=.function:=by rfl)(b:sc.isCoroutine=false:=by rfl)(c:sc.isGenerator=false:=by rfl)(d:N.Nodup:=by decide +kernel)(e:N.take P.length=P:=by rfl)(f:∀x∈P,sc.names.lookup x=some .local\/sc.names.lookup x=some .cell:=by decide +kernel)(g:∀y∈sc.names,y.2≠.free:=by decide +kernel):aO N P sc:=⟨a,b,c,d,e,f,g⟩
abbrev wg:AH:=["self","birth","many","bulk","tone"]
abbrev tL:AH:=["self","field"]
abbrev vZ:AH:=["self","room"]
abbrev yd:AH:=["self","many","bulk","tone"]
abbrev N6:AH:=["self","cell"]
abbrev JC:AH:=["self","place"]
abbrev Vf:AH:=["heap","place"]
abbrev N5:AH:=["heap","place"]
abbrev pO:AH:=["self","hands"]
abbrev oO:AH:=["self","looked","hands"]
abbrev tH:AH:=["self","hands"]
abbrev tK:AH:=["self","looked","hands"]
abbrev tG:AH:=["self","looked","hands"]
abbrev vY:AH:=["self","looking","tells"]
abbrev v9:AH:=["self","name","many"]
abbrev tD:AH:=["self","room","kind","hands"]
abbrev JB:AH:=["heap","places"]
abbrev Jx:AH:=["world","hand"]
abbrev Jy:AH:=["world","cell"]
abbrev Zjp:AH:=["world","place"]
abbrev NT:AH:=["world","places"]
abbrev Zjq:AH:=["world","place","birth"]
abbrev U5:AH:=["world","place","birth"]
abbrev NQ:AH:=["world","hand"]
abbrev Ve:AH:=["world","hand","slot"]
abbrev Jz:AH:=["world","hand","slot","field"]
abbrev Ab:AH:=["world","place"]
abbrev Ac:AH:=["world","hand","place"]
abbrev Va:AH:=["world","deed"]
abbrev ZM:AH:=["world","deed"]
abbrev ZL:AH:=["world","deed"]
abbrev Vd:AH:=["world","deed"]
abbrev Vc:AH:=["world","deed"]
abbrev Vb:AH:=["world","deed"]
abbrev NZ:AH:=["world","deed"]
abbrev U8:AH:=["world","deed"]
abbrev U9:AH:=["world","deed"]
abbrev U7:AH:=["world","deed"]
abbrev Ae:AH:=["world","word"]
abbrev Zt8:AH:=["world","deed"]
abbrev tE:AH:=["self","room","kind","hands","rows"]
abbrev U6:AH:=["heap","rows"]
abbrev ZK:AH:=["heap","places","way"]
abbrev Ed:AH:=["world","hands"]
abbrev Zer:AH:=["world","row"]
abbrev Zes:AH:=["world","many"]
abbrev Ec:AH:=["events"]
abbrev Eb:AH:=["world","deed"]
abbrev Zet:AH:=["scene","most"]
abbrev yc:AH:=["_law_script","_law_k"]
abbrev Ef:AH:=["_law_found"]
abbrev xZ:AH:=["_law_cell"]
abbrev Eh:AH:=["_law_words"]
abbrev vX:AH:=["_law_way","_law_cell"]
abbrev xX:AH:=["_law_cell","_law_j"]
abbrev Af:AH:=["_law_cell","_law_k","_law_hands","_law_base"]
abbrev Eg:AH:=["_law_cell","_law_k"]
abbrev sZ:AH:=["_law_cell","_law_hand","_law_a","_law_b","_law_c"]
abbrev Ag:AH:=["_law_cell","_law_hand","_law_a","_law_b"]
abbrev Ei:AH:=["_law_cell","_law_hand","_law_a","_law_b","_law_word"]
abbrev Ej:AH:=["_law_cell","_law_hand","_law_taker","_law_a","_law_b"]
abbrev xY:AH:=["_law_cell","_law_k","_law_hands","_law_base"]
abbrev Ek:AH:=["_law_found"]
abbrev oM:AH:=["_law_weave","_law_woven","_law_still"]
section
variable {X:Cx}
theorem eU{a b:AN}{d tb:TE}{c:Pos}{r:R2}(hr:IxR X r)(e:PE X a d)(hb:PE X b tb)(hs:YS b:=by exact λ_ _=>rfl):PE X (.Subscript a b c) (aV r d tb):=Zpd hr e hb hs
theorem pdg{o i:AN}{b ty:TE}{a:Pos}{k:Nat}(hr:Room k X.A)(c:PE X o b)(hi:PE X i ty)(hs:Zoz i:=by exact λ_ _=>rfl):PE X (.Subscript o i a) (Za b ty):=Znd (J1 hr) c hi hs
theorem jP{a b:AN}{e tb:TE}{c:Pos}{d:CmpOp}{r:R2}(f:wQ X (compareOp d) r)(g:PE X a e)(hb:PE X b tb)(hm:behindInMarks d b=false:=by exact ym _):PT X (.Compare a [d] [b] c) (bT (aV r e tb)):=Zn6 f g hb hm
theorem dZ(i:Nat){x:Str}{e:AN}{c:TE}{a b:Pos}(d:X.N.Nodup)(g:PE X e c)(hi:X.N[i]? =some x:=by rfl)(hx:Loc X.env.scope x:=by exact Or.inl rfl)(hs:swapsWith e (some (.Name x a)) b.line X.env=pure false:=by rfl)(f:X.fn x=true\/X.env.scope.names.lookup x=some .local:=by first | exact .inl rfl | exact .inr rfl | assumption):PS X (.Assign [.Name x a] e b) (bz c (aN i)):=Zc7 d hi hx g hs f
end
structure PAw(X:Cx)(es:AG)(t:TA):Prop where
 h:PA X es t
structure PSw(X:Cx)(st:List Stmt)(t:TS):Prop where
 h:Ri X st t
structure PPw(X:Cx)(pos:Pos)(keys:List (Option AN))(values:AG)(trs:List (TE×TE)):Prop where
 h:PPs X pos keys values trs
structure PEw(X:Cx)(e:AN)(t:TE):Prop where
 h:PE X e t
section
variable {X:Cx}
theorem pew{e:AN}{t:TE}(h:PE X e t):PEw X e t:=⟨h⟩
theorem mV:PAw X [] aG:=⟨az⟩
theorem bW{e es te t}(a:PE X e te)(hr:PAw X es t)(hs:starEach (e::es) X.env=(false,eval e X.env)::starEach es X.env:=by rfl):PAw X (e::es) (aj te t):=⟨aa a hr.h hs⟩
theorem Zne{b es fs tb t u p q}(h:PAw X es t)(hb:PE X b tb)(hp:YS b)(hr:PAw X fs u)(hs:starEach (.Subscript (.List es p) b q::fs) X.env=(false,eval (.Subscript (.List es p) b q) X.env)::starEach fs X.env:=by rfl):PAw X (.Subscript (.List es p) b q::fs) (aj (aV (dM X.K) (dX t) tb) u):=⟨aa (Zpd bF (cH h.h) hb hp) hr.h hs⟩
theorem Zn7:PSw X [] cC:=⟨aZ⟩
theorem cX{st rest t u}(h1:PS X st t)(h2:PSw X rest u):PSw X (st::rest) (aP t u):=⟨aq h1 h2.h⟩
theorem Zen{st t}(h1:PS X st t):PSw X [st] t:=⟨aB h1⟩
theorem Zqi{c a b tc t u rest v pos}(hc:PT X c tc)(d:PSw X a t)(hb:PSw X b u)(h2:PSw X rest v):PSw X (.If c a b pos::rest) (aP (dF tc t u) v):=⟨aq (cM hc d.h hb.h) h2.h⟩
theorem Zjf{es t x1 p pos}(h:PAw X es t):PSw X [.Return (some (.Tuple es x1 p)) pos] (bB (cY t)):=⟨aB (aL (bD h.h))⟩
theorem Lx{es t p}(h:PAw X es t):PEw X (.List es p) (dX t):=⟨cH h.h⟩
theorem Xd{a b:AN}{d tb:TE}{e:Operator}{r:R2}{c:Pos}(f:wQ X (binaryOp e) r)(g:PEw X a d)(hb:PEw X b tb):PEw X (.BinOp a e b c) (aV r d tb):=⟨aK f g.h hb.h⟩
theorem Ls{e t pos}(h:PEw X e t):PSw X [.Return (some e) pos] (bB t):=⟨aB (aL h.h)⟩
theorem Lw{i:Nat}{x:Str}{es t p pos' pos rest u}(a:X.N.Nodup)(hi:X.N[i]? =some x)(hx:Loc X.env.scope x)(h:PAw X es t)(h2:PSw X rest u)(b:X.fn x=true\/X.env.scope.names.lookup x=some .local:=by first | exact .inl rfl | exact .inr rfl | assumption):PSw X (.Assign [.Name x pos'] (.List es p) pos::rest) (aP (bz (dX t) (aN i)) u):=⟨aq (Zc7 a hi hx (cH h.h) rfl b) h2.h⟩
end
open PySem.Spec PyProof.Rows in
theorem Zwp{P:AM}{w:AO}{K:aD}{mg:As}{base:Heap}{x a:Str}{st:Stmt}{f:AI}{fd:AL}{N ps:AH}{sp:Sp}{k:Nat}(F:Fun K x a st f fd)(S:aO N ps (aC st))(len:∀vs H Q E,sp vs H Q E->vs.length=ps.length)
  (c:∀(b:AJ) (A:Around) (outer:List Env) (s:AK) (H:Hp) (vs:List V) (Q:VK) (E:XK),Room k (A.deeper (envOfC a (aC st) s.heap.objs.size f b))->sp vs H Q E->
   ∃t,PSw (yF (Cp P w) P w K mg base N a (aC st) f b A outer s H E).nox (fJ st) t/\t { nx:=λ_ H'=>Q .non H',rt:=Q } (start N vs) H):qj P w K mg base (Cp P w) (k+1) f fd ps sp:=
 G.fok F S len λb A outer s H vs Q E hr h=>let ⟨t,p,q⟩:=c b A outer s H vs Q E hr h;⟨t,p.h,q⟩
set_option genInjectivity false in
structure Ad where
 (aW aY bK cU cu wN Gu ux wL jf Qv Kc Ka Gr Wf Qu Zao fM iM ir Gs uv Kd uw J9 ur Gp wK Gq Wc wM p8 uo Zlu J8 J3 J4 Gf Zff Zlt Qs Zlv Zfd V8 Qp We J7 Be Bf lD nH nG lG lF lE jG lB lC lA Bg Zuk uq Qo Zfe Wb Zan Ge fV fQ Zlr Bh Zpn Gg Qt FZ fU Gb Zpm eG Zls Zfb Zfc Ga FW V9 Qq Wd yE Gh yD Gj wJ yz Bj Gi um Bk Gk Gm yC Gn oX:AI)
structure Bd where
 u:Unit
 (uZ Yv:AL)
 (Zau:AC)
structure Tx1(K:aD)(XQ:Cs)(AD:Ad):Prop where
 Zsu:Ns K "Cell" XQ.C
 Zsr:Ns K "Heap" XQ.H
 Zox:Ns K "First" XQ.F
 Zst:Ns K "Each" XQ.E
 Zsp:Ns K "Last" XQ.L
 Zsq:Ns K "Kind" XQ.K
 Zss:Ns K "Hand" XQ.D
 Zi1:Ns K "Sweeper" XQ.S
 Zow:Ns K "World" XQ.W
 Zfs:Ns K "Scene" AD.aW
 Kf:Ns K "EmptySlot" AD.aY
 Wn:Ns K "NoField" AD.bK
 Zmc:Ns K "Full" AD.cU
 Zb5:Ns K "NoName" AD.cu
 t8:MT K XQ.C "__init__" "Cell.__init__" vN AD.wN
 mX:MT K XQ.C "units" "Cell.units" Dt AD.Gu
 rA:MT K XQ.C "has_field" "Cell.has_field" sO AD.ux
 tY:MT K XQ.H "__init__" "Heap.__init__" vL AD.wL
 JK:MT K XQ.H "lay" "Heap.lay" Nb AD.Qv
 Fb:MT K XQ.H "back" "Heap.back" Jm AD.Kc
 EY:MT K XQ.H "free" "Heap.free" Jl AD.Ka
 Ar:MT K XQ.H "there" "Heap.there" Dr AD.Gr
 mF:FA K "cell_at" UT AD.Wf
 jj:FA K "birth_at" M9 AD.Qu
 Pa:FA K "all_of" Zm AD.Zao
 gB:MT K XQ.E "at_begin" "Looking.at_begin" pM AD.fM
 jD:MT K XQ.F "next_look" "Looking.next_look" oF AD.iM
 iU:MT K XQ.E "stays" "Looking.stays" vJ AD.ir
 Av:MT K XQ.F "word" "First.word" Ds AD.Gs
 q8:MT K XQ.F "at_begin" "First.at_begin" sI AD.uv
 Fe:MT K XQ.E "word" "Each.word" Jo AD.Kd
 rz:MT K XQ.E "next_look" "Each.next_look" sJ AD.uw
 Ey:MT K XQ.L "word" "Last.word" Jk AD.J9
 qZ:MT K XQ.L "next_look" "Last.next_look" sH AD.ur
 rK:MT K XQ.L "stays" "Last.stays" Dn AD.Gp
 tX:MT K XQ.K "__init__" "Kind.__init__" vK AD.wK
 Aq:MT K XQ.K "words" "Kind.words" Dp AD.Gq
 Vr:FA K "kind_of" Ut AD.Wc
 tZ:MT K XQ.D "__init__" "Hand.__init__" vM AD.wM
 oU:MT K XQ.S "__init__" "Sweeper.__init__" pL AD.p8
 qY:MT K XQ.W "__init__" "World.__init__" sE AD.uo
 Zkq:FA K "held" Zix AD.Zlu
 JM:FA K "births_at" Jj AD.J8
 JL:FA K "looked_at" Jg AD.J3
 jE:FA K "has_sense" Jh AD.J4
 Fj:FA K "is_walking" Df AD.Gf
 Zf0:FA K "begin" Zef AD.Zff
 Zkp:FA K "note" Ziw AD.Zlt
 mD:FA K "note_all" M5 AD.Qs
 Zco:FA K "gone" Ziy AD.Zlv
 Zey:FA K "roots" Zed AD.Zfd
 Vp:FA K "root_of" Uq AD.V8
 gW:FA K "slots_of" MN AD.Qp
 jM:FA K "cell_in" UL AD.We
 nD:FA K "fields_in" Ji AD.J7
 Aw:FA K "told_as_old" zJ AD.Be
 rO:FA K "told_as_new" zK AD.Bf
 Vv:FA K "do_make" Uy AD.lD
 Za2:FA K "do_get" Zk AD.nH
 Za1:FA K "do_put" Zj AD.nG
 Vy:FA K "do_copy" UJ AD.lG
 Vx:FA K "do_drop" UG AD.lF
 Vw:FA K "do_give" Uz AD.lE
 O9:FA K "do_write" M8 AD.jG
 Vt:FA K "do_read" Uw AD.lB
 Vu:FA K "do_name" Ux AD.lC
 Vs:FA K "do_seek" Uv AD.lA
 rP:FA K "place_named" zL AD.Bg
 Zr1:FA K "do" Zt3 AD.Zuk
 lN:MT K AD.aW "__init__" "Scene.__init__" sG AD.uq
 O6:FA K "world_of" MK AD.Qo
 Zez:FA K "quiet" Zee AD.Zfe
 Vq:FA K "reached" Us AD.Wb
 O7:FA K "onward" Zi AD.Zan
 uV:FA K "note_hands" De AD.Ge
 yt:FA K "step_at_rest" xx AD.fV
 yq:FA K "step_in_walk" xr AD.fQ
 Zkm:FA K "walk" Ziu AD.Zlr
 Az:FA K "look_or_cut" zM AD.Bh
 Zph:FA K "cut" Zp7 AD.Zpn
 Fl:FA K "first_loss" Dg AD.Gg
 O8:FA K "given_up" M7 AD.Qt
 uT:FA K "told_again" CZ AD.FZ
 yr:FA K "step_in_give" xu AD.fU
 Fg:FA K "pass_place" Dd AD.Gb
 Zpg:FA K "end" s_end AD.Zpm
 uc:FA K "step_when_lost" rZ AD.eG
 Zkn:FA K "step" Ziv AD.Zls
 Zew:FA K "tried" Zeb AD.Zfb
 Zex:FA K "swept" Zec AD.Zfc
 uU:FA K "tells_loss" Dc AD.Ga
 Ff:FA K "tried_deed" CW AD.FW
 ud:FA K "refused" Ur AD.V9
 zj:FA K "is_lost" Uu AD.Wd
 jF:FA K "_law_cell_at" xJ AD.yE
 Fp:FA K "_law_whole" Dh AD.Gh
 yw:FA K "_law_kind_by" xH AD.yD
 Fq:FA K "_law_sound" Dj AD.Gj
 wF:FA K "_law_hands_by" vI AD.wJ
 lO:FA K "_law_word_by" xF AD.yz
 Ba:FA K "_law_row_by" zN AD.Bj
 gF:FA K "_law_steps" Di AD.Gi
 ue:FA K "_law_taken_out" su AD.um
 Bb:FA K "_law_put_in" zO AD.Bk
 Ft:FA K "_law_named" Dk AD.Gk
 Fv:FA K "_law_given" Dl AD.Gm
 yu:FA K "_law_part_by" xG AD.yC
 uW:FA K "_law_event" Dm AD.Gn
 oW:FA K "_law_same_answers" oE AD.oX
 zm:CA K XQ.C
 eY:Fo K XQ.C "birth"
 qX:Fo K XQ.C "bulk"
 nA:Fo K XQ.C "tone"
 lz:Fo K XQ.C "load"
 gK:Fo K XQ.C "fields"
 u9:CA K XQ.H
 qW:Fo K XQ.H "room"
 cB:Fo K XQ.H "cells"
 iZ:Fo K XQ.H "used"
 nu:Fo K XQ.H "born"
 qg:CA K XQ.F
 Zk5:W.findIn K (.ref XQ.F) "__init__"=some (some (.builtin "object.__init__"))
 vd:CA K XQ.E
 Znq:W.findIn K (.ref XQ.E) "__init__"=some (some (.builtin "object.__init__"))
 u6:CA K XQ.L
 Znp:W.findIn K (.ref XQ.L) "__init__"=some (some (.builtin "object.__init__"))
 Yz:CA K XQ.K
 O4:Fo K XQ.K "looking"
 Xw:Fo K XQ.K "tells"
 Zfn:CA K XQ.D
 Z6:Fo K XQ.D "name"
 Xx:Fo K XQ.D "slots"
 QD:CA K XQ.S
 K7:Fo K XQ.S "sense"
 K8:Fo K XQ.S "phase"
 O3:Fo K XQ.S "grey"
 Hv:Fo K XQ.S "looked"
 OJ:Fo K XQ.S "turn"
 Xq:Fo K XQ.S "at"
 O1:Fo K XQ.S "stop"
 K6:Fo K XQ.S "walks"
 K9:Fo K XQ.S "looks"
 Hu:Fo K XQ.S "passes"
 O2:Fo K XQ.S "loss"
 Zb1:CA K XQ.W
 Xp:Fo K XQ.W "heap"
 Xo:Fo K XQ.W "kind"
 R4:Fo K XQ.W "hands"
 R3:Fo K XQ.W "names"
 K5:Fo K XQ.W "sweeper"
 QF:CA K AD.aW
 Xu:Fo K AD.aW "room"
 Xv:Fo K AD.aW "kind"
 R5:Fo K AD.aW "hands"
 Xr:Fo K AD.aW "rows"
 Y8:W.excIn K AD.aY [.type "ValueError",.type "Exception",.type "BaseException",.type "object"] "ValueError.__new__"=true
 Zpx:W.excIn K AD.cU [.type "ValueError",.type "Exception",.type "BaseException",.type "object"] "ValueError.__new__"=true
 Zg3:W.excIn K AD.bK [.type "ValueError",.type "Exception",.type "BaseException",.type "object"] "ValueError.__new__"=true
 Zi5:W.excIn K AD.cu [.type "ValueError",.type "Exception",.type "BaseException",.type "object"] "ValueError.__new__"=true
 wW:W.exmOne K (.ref AD.aY) (.ref AD.aY)=some true
 Zas:W.exmOne K (.ref AD.cU) (.ref AD.cU)=some true
 Gv:W.exmOne K (.ref AD.bK) (.ref AD.bK)=some true
 Le:W.exmOne K (.ref AD.cu) (.ref AD.cu)=some true
 Ew:W.exmOne K (.ref AD.cU) (.ref AD.aY)=some false
 K4:W.exmOne K (.ref AD.cU) (.ref AD.bK)=some false
 yp:W.exmOne K (.ref AD.bK) (.ref AD.aY)=some false
 zy:W.exmOne K (.ref AD.cu) (.ref AD.aY)=some false
 OD:W.exmOne K (.ref AD.cu) (.ref AD.cU)=some false
 Eu:W.exmOne K (.ref AD.cu) (.ref AD.bK)=some false
structure Txt(w:AO)(K:aD)(mg:As)(XQ:Cs)(AD:Ad)(BD:Bd):Prop extends Tx1 K XQ AD where
 mo {s:Str}{v:AJ}:W.nsIn K mainGlobals s=some (some v)->mg s=some v
 Um:G.Tab K w mg "DEEDS" [("make",AD.lD),("get",AD.nH),("put",AD.nG),("copy",AD.lG),("drop",AD.lF),("give",AD.lE),("write",AD.jG),("read",AD.lB),("name",AD.lC),("seek",AD.lA)]
 Ul:G.Tab K w mg "STEPS" [("rest",AD.fV),("walk",AD.fQ),("give",AD.fU),("lost",AD.eG)]
 LQ:G.EqD K XQ.C
 t7:Meth K XQ.E "at_begin" AD.fM
 rM:Meth K XQ.E "stays" AD.ir
 pW:Meth K XQ.F "next_look" AD.iM
 pU:Meth K XQ.F "stays" AD.ir
 tW:Meth K XQ.L "at_begin" AD.fM
 Ez:Meth K XQ.H "make" AD.jf
 Zko:mg "run"=↑AD.Qq
 Wx:mg "bool"=none
 iW:mg "enumerate"=none
 Ze2:mg "int"=none
 dR:mg "isinstance"=none
 fZ:mg "len"=none
 j8:mg "list"=none
 oY:mg "range"=none
 Y7:mg "str"=none
 Lp:mg "tuple"=none
 Zlm:G.GC mg "NEW" (.int 2)
 Zll:G.GC mg "OLD" (.int 1)
 Yr:G.GC mg "SWEEP" (.str "sweep")
 Ku:G.Zmi K "make" "Heap.make" jA AD.jf BD.uZ
 yH:Binds K BD.uZ yd []
 JT:Ki K AD.jf
 Zpw:G.Zmi K "run" "run" MP AD.Qq BD.Yv
 Zpt:Binds K BD.Yv Zet []
 Zf4:Ki K AD.Qq
 QG:Binds K BD.Yv Zet BD.Zau
 Qj:Vals [.non] BD.Zau
theorem mkT{K:aD}{C f:AI}{q:Str}{s:Stmt}(c:CA K C)(m:MT K C "__init__" q s f):Mk K C f:=⟨c.mk',m.m.at_,m.m.fn,c.k⟩
section
variable {P:AM}{w:AO}{K:aD}{mg:As}{base:Heap}{x qual:Str}{st:Stmt}{f:AI}{n:Nat}{ps:AH}{sp:Sp}{g:FnG K x qual st f}
theorem Zs9(b:Binds K (gm g) ps [])(h:Fun K x qual st f (gm g)->Fn5 P w K mg base n f (gm g) ps sp):ι n f (gm g) ps sp:=⟨h (BK g),b,(BK g).kp⟩
theorem Zui(b:Binds K (gm g) ps [])(h:Fun K x qual st f (gm g)->G.FnH P w K mg base (G.Cp P w) n f (gm g) ps sp):G.HhH P w K mg base n f (gm g) ps sp:=⟨h (BK g),b,(BK g).kp⟩
end
local macro_rules | `(tactic| walk_at "okb")=>`(tactic| first | exact bd1 (BK _) _ | exact bd2 (BK _) _ _ | exact bd3 (BK _) _ _ _ | exact bd4 (BK _) _ _ _ _ | exact bd5 (BK _) _ _ _ _ _)
local macro_rules | `(tactic| walk_at"k")=>`(tactic| (first | (obtain ⟨_,rfl,_⟩:=h;rfl) | (obtain ⟨_,_,rfl,_⟩:=h;rfl) | (obtain ⟨_,_,_,rfl,_⟩:=h;rfl) | (obtain ⟨_,_,_,_,rfl,_⟩:=h;rfl) | (obtain ⟨_,_,_,_,_,rfl,_⟩:=h;rfl) | (obtain ⟨_,_,_,_,_,_,rfl,_⟩:=h;rfl) | (obtain ⟨_,_,_,_,_,_,_,rfl,_⟩:=h;rfl)))
local macro_rules | `(tactic| walk_at "ok")=>`(tactic| (refine Zs9 ?b λF=>?_;(case b=>walk_at "okb");refine G.fok F sc (λvs H Q E h=>?_) (λcdv A outer s H vs Q E hr h=>?_);· (walk_at"k")))
local macro_rules | `(tactic| walk_at "okw")=>`(tactic| (refine Zs9 ?b λF=>?_;(case b=>walk_at "okb");refine Zwp F sc (λvs H Q E h=>?_) (λcdv A outer s H vs Q E hr h=>?_);· (walk_at"k")))
local macro_rules | `(tactic| walk_at "okD")=>`(tactic| (refine G.Zws F sc (λvs H Q E h=>?_) (λcdv A outer s H vs Q E hr h=>?_);· (walk_at"k")))
local macro_rules | `(tactic| walk_at "okDX")=>`(tactic| (refine G.Zuj F sc (λvs H Q E h=>?_) (λcdv A outer s H vs Q E hr h=>?_);· (walk_at"k")))
local macro_rules | `(tactic| walk_at "okH")=>`(tactic| (refine Zui ?b λF=>?_;(case b=>walk_at "okb");refine G.Zwr F sc (λvs H Q E h=>?_) (λcdv ea A outer s H vs Q E hr h=>?_);· (walk_at"k")))
local macro_rules | `(tactic| walk_at "okL")=>`(tactic| (refine G.fok F sc (λvs H Q E h=>?_) (λcdv A outer s H vs Q E hr h=>?_);· (walk_at"k")))
local macro_rules | `(tactic| walk_at "okX")=>`(tactic| (refine Zs9 ?b λF=>?_;(case b=>walk_at "okb");refine G.Zwq F sc (λvs H Q E h=>?_) (λcdv A outer s H vs Q E hr h=>?_);· (walk_at"k")))
section
variable {P:AM}{w:AO}{K:aD}{mg:As}{base:Heap}{XQ:Cs}{AD:Ad}{BD:Bd}(T:Txt w K mg XQ AD BD)
include T
theorem jQ:TxS K XQ AD.aW:=⟨⟨⟨T.zm.c,T.eY,T.qX,T.nA,T.lz,T.gK,T.u9.c,T.qW,T.cB,T.iZ,T.nu,T.LQ⟩,T.Zb1.c,T.Xp,T.Xo,T.R4,T.R3,T.K5,T.Zfn.c,T.Z6,T.Xx,T.Yz.c,T.O4,T.Xw,T.QD.c,T.K7,T.K8,T.O3,T.Hv,T.OJ,T.Xq,T.O1,T.K6,T.K9,T.Hu,T.O2⟩,T.QF.c,T.Xu,T.Xv,T.R5,T.Xr⟩
theorem tR:ι 1 AD.wN (gm T.t8.g) wg (Ks XQ.C):=by
 have sc:aO ["self","birth","many","bulk","tone"] wg (aC vN):=cI;walk_at "ok"
 ·refine⟨_,(aq (bR Θ ψ rfl)
   (aq (bR Θ (pv 3) rfl)
   (aq (bR Θ (pv 4) rfl)
   (aq (bR Θ (au) rfl)
   (aB (bR Θ (aK Zjx (cH (aa (fu) az)) ad) rfl)))))),?_⟩
  obtain⟨z0,z1,z2,z3,z4,rfl,q⟩:=h;exact Jb (jQ T).w.c q
theorem jr:ι 1 AD.Gu (gm T.mX.g) ["self"] (vD XQ.C):=by
 have sc:aO ["self"] ["self"] (aC Dt):=cI;walk_at "ok"
 ·refine⟨_,(aB (aL (aK di (aK di (au) av) ο))),?_⟩;obtain⟨z0,rfl,q⟩:=h;exact TQ (jQ T).w.c q
theorem qT:ι 1 AD.ux (gm T.rA.g) tL (Kh XQ):=by
 have sc:aO ["self","field"] tL (aC sO):=cI;walk_at "ok"
 ·refine⟨_,(aB (aL (Zjn Zta ye (au) ψ av))),?_⟩;obtain⟨z0,z1,rfl,q⟩:=h;exact GX (jQ T).w q
theorem tO:ι 1 AD.wL (gm T.tY.g) vZ (Kp XQ.H):=by
 have sc:aO ["self","room"] vZ (aC vL):=cI;walk_at "ok"
 ·refine⟨_,(aq (bR Θ ψ rfl)
   (aq (bR Θ (cH az) rfl)
   (aq (bR Θ (au) rfl)
   (aB (bR Θ (au) rfl))))),?_⟩
  obtain⟨z0,z1,rfl,q⟩:=h;exact IV (jQ T).w.c q
theorem JF:ι 1 AD.Qv (gm T.JK.g) N6 (Rb K XQ.H):=by
 have sc:aO ["self","cell","place"] N6 (aC Nb):=cI;walk_at "ok"
 ·refine⟨_,(aq (cM (jP (G.Zgs (J1 hr)) (fu) ο (by with_unfolding_all rfl)) (aq (mL (xW PySem.F.plainAttrs_list PySem.F.slot_list_append PySem.F.type_list_append mC ο (aa ψ az)))
   (aB (aL (aK pP av (au))))) aZ)
   (aq (dZ 2 sc.nd (xW PySem.F.plainAttrs_list PySem.F.slot_list_index PySem.F.type_list_index (G.Zgy (J1 hr)) ο (aa (fu) az)))
   (aq (uI ψ (uJ ο ad set_list))
   (aB (aL ad))))),?_⟩
  obtain⟨z0,z1,rfl,q⟩:=h;exact Zbc (jQ T).w.c q
theorem Eo:ι 1 AD.Ka (gm T.EY.g) ["self"] (Kq XQ.H):=by
 have sc:aO ["self"] ["self"] (aC Jl):=cI;walk_at "ok"
 ·refine⟨_,(aB (aL (aK pP ο ο))),?_⟩;obtain⟨z0,rfl,q⟩:=h;exact YX (jQ T).w.c q
theorem An:ι 1 AD.Gr (gm T.Ar.g) ["self"] (vC XQ.H):=by
 have sc:aO ["self"] ["self"] (aC Dr):=cI;walk_at "ok"
 ·refine⟨rJ K,(aB (aL (G.Zeq (cns:=["self"]) [0] (pB rfl T.oY (aa av az)) (λ_ _ _ _ _=>(G.NK (jP G.El (eU bF (aJ ψ rfl) Θ) (fu)))) (λ_ _ _ _ _=>Θ) rfl rfl af (by repeat (first | exact trivial | refine⟨rfl,?_⟩)) rfl γ rfl γ γ rfl γ))),?_⟩;obtain⟨z0,rfl,q⟩:=h;exact TF (jQ T).w.c q
theorem mz:ι 1 AD.Wf (gm T.mF.g) Vf (jt XQ.H):=by
 have sc:aO ["heap","place"] Vf (aC UT):=cI;walk_at "ok"
 ·refine⟨_,(aq (cM (PW.pt (kO (jP G.o7 ψ (fu)) (kO (jP ye ψ (au)) (lZ (jP Ztb ψ av))))) (aB (aL (fu))) aZ)
   (aB (aL (eU bF ο ψ)))),?_⟩
  obtain⟨z0,z1,rfl,q⟩:=h;exact Zdo (jQ T).w q
theorem Vl:ι 1 AD.Zao (gm T.Pa.g) ["hands"] (Ra):=by
 have sc:aO ["hands"] ["hands"] (aC Zm):=cI;walk_at "ok"
 ·refine⟨_,(aB (aL (aK pP (aK Zjw (au) Θ) (au)))),?_⟩;obtain⟨z0,rfl,q⟩:=h;exact Zi0 q
theorem iJ:ι 1 AD.fM (gm T.gB.g) pO (vB 1):=by
 have sc:aO ["self","hands"] pO (aC pM):=cI;walk_at "ok"
 ·refine⟨_,(aB (aL (au))),?_⟩;obtain⟨z0,z1,rfl,q⟩:=h;exact zE q
theorem m9:ι 1 AD.iM (gm T.jD.g) oO (lJ 0):=by
 have sc:aO ["self","looked","hands"] oO (aC oF):=cI;walk_at "ok"
 ·refine⟨_,(aB (aL (au))),?_⟩;obtain⟨z0,z1,z2,rfl,q⟩:=h;exact yX q
theorem eE:ι 1 AD.ir (gm T.iU.g) ["self"] (kJ (.bl true)):=by
 have sc:aO ["self"] ["self"] (aC vJ):=cI;walk_at "ok"
 ·refine⟨_,(aB (aL (oJ))),?_⟩;obtain⟨z0,rfl,q⟩:=h;exact Iz q
theorem Ao:ι 1 AD.Gs (gm T.Av.g) ["self"] (kJ (.str "first")):=by
 have sc:aO ["self"] ["self"] (aC Ds):=cI;walk_at "ok"
 ·refine⟨_,(aB (aL (aU))),?_⟩;obtain⟨z0,rfl,q⟩:=h;exact TJ (jQ T).w q
theorem Er:ι 1 AD.Kd (gm T.Fe.g) ["self"] (kJ (.str "each")):=by
 have sc:aO ["self"] ["self"] (aC Jo):=cI;walk_at "ok"
 ·refine⟨_,(aB (aL (aU))),?_⟩;obtain⟨z0,rfl,q⟩:=h;exact Y4 (jQ T).w q
theorem qR:ι 1 AD.uw (gm T.rz.g) tK (lJ 1):=by
 have sc:aO ["self","looked","hands","hand"] tK (aC sJ):=cI;walk_at "ok"
 ·refine⟨_,(aq (mj PassesOwn.never rfl (pB rfl T.oY (aa ad az)) (fH (i:=3) sc.nd rfl (Or.inl rfl))
   (aB (cM (jP ie (aK Bw (aK Zcb ψ (pv 3)) (au)) (au)) (aB (aL (aK Zjw (au) (pv 3)))) aZ)))
   (aB (aL (au)))),?_⟩
  obtain⟨z0,z1,z2,rfl,q⟩:=h;exact GR q
theorem En:ι 1 AD.J9 (gm T.Ey.g) ["self"] (kJ (.str "last")):=by
 have sc:aO ["self"] ["self"] (aC Jk):=cI;walk_at "ok"
 ·refine⟨_,(aB (aL (aU))),?_⟩;obtain⟨z0,rfl,q⟩:=h;exact YT (jQ T).w q
theorem mW:ι 1 AD.Gp (gm T.rK.g) ["self"] (kJ (.bl false)):=by
 have sc:aO ["self"] ["self"] (aC Dn):=cI;walk_at "ok"
 ·refine⟨_,(aB (aL (oJ))),?_⟩;obtain⟨z0,rfl,q⟩:=h;exact Tu q
theorem tM:ι 1 AD.wK (gm T.tX.g) vY (Km XQ.K):=by
 have sc:aO ["self","looking","tells"] vY (aC vK):=cI;walk_at "ok"
 ·refine⟨_,(aq (bR Θ ψ rfl)
   (aB (bR Θ ad rfl))),?_⟩
  obtain⟨z0,z1,z2,rfl,q⟩:=h;exact IK (jQ T).w q
theorem tQ:ι 1 AD.wM (gm T.tZ.g) v9 (Kr XQ.D):=by
 have sc:aO ["self","name","many"] v9 (aC vM):=cI;walk_at "ok"
 ·refine⟨_,(aq (bR Θ ψ rfl)
   (aB (bR Θ (aK Zjx (cH (aa (fu) az)) ad) rfl))),?_⟩
  obtain⟨z0,z1,z2,rfl,q⟩:=h;exact IW (jQ T).w q
theorem oR:ι 1 AD.p8 (gm T.oU.g) ["self"] (yV XQ.S):=by
 have sc:aO ["self"] ["self"] (aC pL):=cI;walk_at "ok"
 ·refine⟨_,(aq (bR Θ (au) rfl)
   (aq (bR Θ (aU) rfl)
   (aq (bR Θ (cH az) rfl)
   (aq (bR Θ (au) rfl)
   (aq (bR Θ (au) rfl)
   (aq (bR Θ (au) rfl)
   (aq (bR Θ (au) rfl)
   (aq (bR Θ (au) rfl)
   (aq (bR Θ (au) rfl)
   (aq (bR Θ (au) rfl)
   (aB (bR Θ (fu) rfl)))))))))))),?_⟩
  obtain⟨z0,rfl,q⟩:=h;exact zA (jQ T).w q
theorem Zno:ι 1 AD.Zlu (gm T.Zkq.g) ["world"] (Zmg XQ):=by
 have sc:aO ["world"] ["world"] (aC Zix):=cI;walk_at "ok"
 ·refine⟨Xa K,(aB (aL (G.Zeq (cns:=[]) [] (mO ο) (λ_ _ _ _ _=>G.Xc) (λ_ _ _ _ _=>(kZ G.mG η T.j8 G.boot_list (aa ο az))) rfl rfl af (by repeat (first | exact trivial | refine⟨rfl,?_⟩)) rfl γ rfl γ γ rfl γ))),?_⟩;obtain⟨z0,rfl,q⟩:=h;exact Zoe (jQ T).w q
theorem Xh:ι 1 AD.J3 (gm T.JL.g) Jx (Kg XQ):=by
 have sc:aO ["world","hand"] Jx (aC Jg):=cI;walk_at "ok"
 ·refine⟨_,(aB (aL (oZ ie (aK Bw (aK Zcb (aJ ο rfl) ψ) (au)) (au) (ym _)))),?_⟩;obtain⟨z0,z1,rfl,q⟩:=h;exact Xz (jQ T).w q
theorem jL:ι 1 AD.J4 (gm T.jE.g) Jy (jg XQ):=by
 have sc:aO ["world","cell"] Jy (aC Jh):=cI;walk_at "ok"
 ·refine⟨_,(aB (aL (oZ ie (aJ ψ rfl) (aJ ο rfl) (ym _)))),?_⟩;obtain⟨z0,z1,rfl,q⟩:=h;exact Yq (jQ T).w q
theorem RT:ι 1 AD.Gf (gm T.Fj.g) ["world"] (GF XQ):=by
 have sc:aO ["world"] ["world"] (aC Df):=cI;walk_at "ok"
 ·refine⟨_,(aB (aL (oZ Vh (aJ ο rfl) (bD (aa (aU) (aa (aU) az))) (by with_unfolding_all rfl)))),?_⟩;obtain⟨z0,rfl,q⟩:=h;exact Sq (jQ T).w q
theorem gH:ι 1 AD.Qp (gm T.gW.g) NQ (iG XQ):=by
 have sc:aO ["world","hand"] NQ (aC MN):=cI;walk_at "ok"
 ·refine⟨_,(aB (aL (aJ (eU bF ο ψ) rfl))),?_⟩;obtain⟨z0,z1,rfl,q⟩:=h;exact Zh (jQ T).w q
theorem N8:ι 1 AD.Be (gm T.Aw.g) Ab (Q5 XQ):=by
 have sc:aO ["world","place"] Ab (aC zJ):=cI;walk_at "ok"
 ·refine⟨_,(aq (cM (jP ie (aK Bw (aJ ο rfl) (T.Zll.pe rfl)) (au)) (aB (aL (cH az))) aZ)
   (aB (aL (cH (aa ψ az))))),?_⟩
  obtain⟨z0,z1,rfl,q⟩:=h;exact Mm (jQ T).w q
theorem ju:ι 1 AD.uq (gm T.lN.g) tE (iB AD.aW):=by
 have sc:aO ["self","room","kind","hands","rows"] tE (aC sG):=cI;walk_at "ok"
 ·refine⟨_,(aq (bR Θ ψ rfl)
   (aq (bR Θ ad rfl)
   (aq (bR Θ (kZ G.mG η T.j8 G.boot_list ar) rfl)
   (aB (bR Θ (kZ G.mG η T.j8 G.boot_list (aa (pv 4) az)) rfl))))),?_⟩
  obtain⟨z0,z1,z2,z3,z4,rfl,q⟩:=h;exact GD (jQ T) q
theorem Ah:ι 1 AD.FZ (gm T.uT.g) ["event"] (vA K):=by
 have sc:aO ["event"] ["event"] (aC CZ):=cI;walk_at "ok"
 ·refine⟨_,(aB (aL (bD (aa (eU bH Θ (au)) (aa (eU bH Θ (au)) (aa (kZ G.mG η T.j8 G.boot_list (aa (eU bH Θ (au)) az)) az)))))),?_⟩;obtain⟨z0,rfl,q⟩:=h;exact Rq q
theorem Zqo:ι 1 AD.Zpm (gm T.Zpg.g) ["world"] (cV XQ pEnd):=by
 have sc:aO ["world","sweeper"] ["world"] (aC s_end):=cI;walk_at "ok"
 ·refine⟨_,(aq (dZ 1 sc.nd ο)
   (aq (bR ψ (aU) rfl)
   (aB (aL (bD (aa (aU) (aa (aJ ψ rfl) (aa (cH (aa (aJ ψ rfl) (aa (aJ ψ rfl) (aa (aJ ψ rfl) az)))) az)))))))),?_⟩
  obtain⟨z0,rfl,q⟩:=h;exact Zse (jQ T).w q
theorem Ai:ι 1 AD.Ga (gm T.uU.g) Ec (Mf):=by
 have sc:aO ["events"] Ec (aC Dc):=cI;walk_at "ok"
 ·refine⟨_,(aB (aL ((Xe (oZ ZP (bM G.bV η T.fZ G.boot_len (aa Θ az)) (au) (ym _)) (NP (oZ ie (eU bH (eU bF Θ (Zpb Zi8 (au))) (au)) (aU) (ym _))))))),?_⟩;obtain⟨z0,rfl,q⟩:=h;exact Rr q
theorem uL:G.HhH P w K mg base 1 AD.V9 (gm T.ud.g) ["word"] (Iu):=by
 have sc:aO ["word"] ["word"] (aC Ur):=cI;walk_at "okH"
 ·refine⟨_,(aB (aL (bD (aa (aU) (aa Θ (aa (cH az) az)))))),?_⟩;obtain⟨z0,rfl,q⟩:=h;exact Zc3 q
theorem j7:ι 1 AD.yE (gm T.jF.g) yc (Zdz K):=by
 have sc:aO ["_law_script","_law_k"] yc (aC xJ):=cI;walk_at "ok"
 ·refine⟨_,(aq (cM (jP ye ψ (bM G.bV η T.fZ G.boot_len (aa Θ az))) (aB (aL (eU bF Θ ψ))) aZ)
   (aB (aL (au)))),?_⟩
  obtain⟨z0,z1,rfl,q⟩:=h;exact Li q
theorem RW:ι 1 AD.Gh (gm T.Fp.g) Ef (Q4):=by
 have sc:aO ["_law_found"] Ef (aC Dh):=cI;walk_at "ok"
 ·refine⟨rG,(aB (aL ((Xe (bM G.lQ η T.dR G.boot_isinstance (aa Θ (aa (o5 rfl T.Ze2 G.boot_int rfl) az))) (NP (Zjj (bM G.lQ η T.dR G.boot_isinstance (aa Θ (aa (o5 rfl T.Wx G.boot_bool rfl) az))))))))),?_⟩;obtain⟨z0,rfl,q⟩:=h;exact Tj q
theorem K3:ι 1 AD.yD (gm T.yw.g) xZ (Q8):=by
 have sc:aO ["_law_cell","_law_words"] xZ (aC xH):=cI;walk_at "ok"
 ·refine⟨_,(aq (dZ 1 sc.nd (eU bF (cH (aa (aU) (aa (aU) (aa (aU) az)))) (aK cg Θ (au))))
   (aq (cM (jP ie (aK cg (aK cT Θ (au)) (au)) (au)) (aB (dZ 1 sc.nd (aK mq ψ (aU)))) aZ)
   (aq (cM (jP ie (aK cg (aK cT Θ (au)) (au)) (au)) (aB (dZ 1 sc.nd (aK mq ψ (aU)))) aZ)
   (aB (aL ψ))))),?_⟩
  obtain⟨z0,rfl,q⟩:=h;exact Lh q
theorem RX:ι 1 AD.Gj (gm T.Fq.g) Eh (nJ):=by
 have sc:aO ["_law_words","_law_some"] Eh (aC Dj):=cI;walk_at "ok"
 ·refine⟨_,(aq (dZ 1 sc.nd (cH (aa (aU) (aa (aU) (aa (aU) (aa (aU) (aa (aU) az)))))))
   (aB (aL (oZ Vh Θ ψ (by with_unfolding_all rfl))))),?_⟩
  obtain⟨z0,rfl,q⟩:=h;exact Tp q
theorem Hr:ι 1 AD.wJ (gm T.wF.g) vX (Iw):=by
 have sc:aO ["_law_way","_law_cell","_law_letters","_law_size","_law_hands","_law_h","_law_name","_law_k","_law_far"] vX (aC vI):=cI;walk_at "okw"
 ·refine⟨_,(cX (dZ 2 sc.nd (aU))
   (cX (dZ 3 sc.nd (aK di (au) (aK cg (aK cT ψ (au)) (au))))
   (cX (dZ 4 sc.nd (cH az))
   (cX (mj PassesOwn.never rfl (pB rfl T.oY (aa (eU bF (cH (aa (au) (aa (au) (aa (au) (aa (au) (aa (au) az)))))) (aK cg Θ (au))) az)) (fH (i:=5) sc.nd rfl (Or.inl rfl))
   (aq (dZ 6 sc.nd (aU))
   (aq (mj PassesOwn.never rfl (pB rfl T.oY ar) (fH (i:=7) sc.nd rfl (Or.inl rfl))
   (aq (dZ 8 sc.nd (aK jB (aK jB (pv 7) (pv 7)) (au)))
   (aq (cM (jP ie (pv 7) (aK cg (aK cT Θ (au)) (pv 3))) (aB (dZ 8 sc.nd (aK di (pv 8) (pv 5)))) aZ)
   (aB (dZ 6 sc.nd (aK mq (pv 6) (eU Zl2 ad (aK cg (aK di ψ (pv 8)) (au)))))))))
   (aB (mL (xW PySem.F.plainAttrs_list PySem.F.slot_list_append PySem.F.type_list_append mC (pv 4) (aa (bD (aa (pv 6) (aa (aK di (au) (aK cg (aK di (aK cT ψ (au)) (aK jB (aK jB (pv 5) (pv 5)) (au))) (au))) az))) az)))))))
   (Zen (aL (pv 4))))))),?_⟩
  obtain⟨z0,z1,rfl,q⟩:=h;exact Ig q
theorem nW:ι 1 AD.yz (gm T.lO.g) xX (Q3):=by
 have sc:aO ["_law_cell","_law_j","_law_letters","_law_text","_law_k","_law_far"] xX (aC xF):=cI;walk_at "ok"
 ·refine⟨_,(aq (dZ 2 sc.nd (aU))
   (aq (dZ 3 sc.nd (aU))
   (aq (mj PassesOwn.never rfl (pB rfl T.oY (aa (aK di (au) (aK cg (aK cT Θ (au)) (au))) az)) (fH (i:=4) sc.nd rfl (Or.inl rfl))
   (aq (dZ 5 sc.nd (aK jB (pv 4) (pv 4)))
   (aq (cM (jP ie (pv 4) (aK cg (aK cT Θ (au)) (aK di (au) (aK cg (aK cT Θ (au)) (au))))) (aB (dZ 5 sc.nd (aK di (pv 5) ψ))) aZ)
   (aB (dZ 3 sc.nd (aK mq (pv 3) (eU Zl2 ad (aK cg (aK di Θ (pv 5)) (au)))))))))
   (aB (aL (pv 3)))))),?_⟩
  obtain⟨z0,z1,rfl,q⟩:=h;exact Lf q
theorem gJ:ι 1 AD.Gi (gm T.gF.g) Eg (pC):=by
 have sc:aO ["_law_cell","_law_k"] Eg (aC Di):=cI;walk_at "ok"
 ·refine⟨_,(aB (aL (bD (aa (aU) (aa (aK di (au) (aK cg (aK cg (aK jB (aK di (aK di Θ (aK jB (au) ψ)) (au)) (au)) (au)) (eU bF (cH (aa (au) (aa (au) (aa (au) (aa (au) az))))) (aK cg (aK di (aK cT Θ (au)) ψ) (au))))) az))))),?_⟩;obtain⟨z0,z1,rfl,q⟩:=h;exact Tn q
theorem Ep:ι 2 AD.Kc (gm T.Fb.g) JC (yW XQ.C XQ.H):=by
 have sc:aO ["self","place","cell"] JC (aC Jm):=cI;walk_at "ok"
 ·refine⟨_,(aq (dZ 2 sc.nd (eU bF ο ψ))
   (aq (bR Θ (aK pP ο (gU ad T.zm.c T.mX.m (jr T).g ae (jr (P:=P) (base:=base) T).b .nil G.cZ)) rfl)
   (aq (uI (fu) (uJ ο ψ set_list))
   (aB (aL (aJ ad rfl)))))),?_⟩
  obtain⟨z0,z1,rfl,q⟩:=h;exact YZ (jQ T).w.c q
theorem iY:ι 2 AD.Qu (gm T.jj.g) N5 (jl XQ):=by
 have sc:aO ["heap","place","cell"] N5 (aC M9):=cI;walk_at "ok"
 ·refine⟨_,(aq (dZ 2 sc.nd (gj (mz T) hr T.mo T.mF (aa Θ (aa ψ az))))
   (aq (cM (jP G.o7 ad (fu)) (aB (aL (fu))) aZ)
   (aB (aL (aJ ad rfl))))),?_⟩
  obtain⟨z0,z1,rfl,q⟩:=h;exact Zb2 (jQ T).w q
theorem qQ:ι 2 AD.uv (gm T.q8.g) tH (vB 0):=by
 have sc:aO ["self","hands"] tH (aC sI):=cI;walk_at "ok"
 ·refine⟨_,(aB (aL (gj (Vl T) hr T.mo T.Pa (aa ψ az)))),?_⟩;obtain⟨z0,z1,rfl,q⟩:=h;exact GQ q
theorem qP:ι 2 AD.ur (gm T.qZ.g) tG (lJ 2):=by
 have sc:aO ["self","looked","hands"] tG (aC sH):=cI;walk_at "ok"
 ·refine⟨_,(aB (aL (gj (Vl T) hr T.mo T.Pa (aa ad az)))),?_⟩;obtain⟨z0,z1,z2,rfl,q⟩:=h;exact GP q
theorem Am:ι 2 AD.Gq (gm T.Aq.g) ["self"] (Zft XQ):=by
 have sc:aO ["self","text"] ["self"] (aC Dp):=cI;walk_at "ok"
 ·refine⟨_,(aq (dZ 1 sc.nd (G.mR (gU ο T.qg.c T.Av.m (Ao T).g ae (Ao (P:=P) (base:=base) T).b .nil G.cZ) (G.mR (gU ο T.vd.c T.Fe.m (Er T).g ae (Er (P:=P) (base:=base) T).b .nil G.cZ) (gU ο T.u6.c T.Ey.m (En T).g ae (En (P:=P) (base:=base) T).b .nil G.cZ))))
   (aq (cM (jP wj (aK Bw ο (T.Zll.pe rfl)) (au)) (aB (dZ 1 sc.nd (aK mq ψ (aU)))) aZ)
   (aq (cM (jP wj (aK Bw ο (T.Zlm.pe rfl)) (au)) (aB (dZ 1 sc.nd (aK mq ψ (aU)))) aZ)
   (aB (aL ψ))))),?_⟩
  obtain⟨z0,rfl,q⟩:=h;exact Tv (jQ T).w q
theorem Znn:ι 2 AD.Zlt (gm T.Zkp.g) Zjp (Zmf XQ):=by
 have sc:aO ["world","place","sweeper","cell"] Zjp (aC Ziw):=cI;walk_at "ok"
 ·refine⟨_,(aq (dZ 2 sc.nd ο)
   (aq (dZ 3 sc.nd (gj (mz T) hr T.mo T.mF (aa ο (aa ψ az))))
   (aq (cM (PW.pt (kO (jP wj (aJ ad rfl) (aU)) (kO (jP G.o7 (pv 3) (fu)) (lZ (gA (gj (jL T) hr T.mo T.jE (aa Θ ar))))))) (aB (aL (fu))) aZ)
   (aq (bR (pv 3) (aJ ad rfl) rfl)
   (aq (mL (xW PySem.F.plainAttrs_list PySem.F.slot_list_append PySem.F.type_list_append mC (aJ ad rfl) (aa ψ az)))
   (aB (aL (aJ (pv 3) rfl)))))))),?_⟩
  obtain⟨z0,z1,rfl,q⟩:=h;exact Zns (jQ T).w q
theorem Zev:ι 2 AD.Zlv (gm T.Zco.g) Zjq (Zdy XQ):=by
 have sc:aO ["world","place","birth","cell"] Zjq (aC Ziy):=cI;walk_at "ok"
 ·refine⟨_,(aq (dZ 3 sc.nd (gj (mz T) hr T.mo T.mF (aa ο (aa ψ az))))
   (aq (cM (PW.pt (kO (jP G.o7 (pv 3) (fu)) (lZ (jP wj (aJ (pv 3) rfl) ad)))) (aB (aL (oJ))) aZ)
   (aB (aL ((Xe (oZ ie (aJ ο rfl) (aU) (ym _)) (NP (Zjj (gj (jL T) hr T.mo T.jE (aa Θ ar)))))))))),?_⟩
  obtain⟨z0,z1,z2,rfl,q⟩:=h;exact Zoh (jQ T).w q
theorem jC:ι 2 AD.We (gm T.jM.g) Ve (uy XQ AD.aY):=by
 have sc:aO ["world","hand","slot","cell"] Ve (aC UL):=cI;walk_at "okX"
 ·refine⟨_,(aq (dZ 3 sc.nd (gj (mz T) hr T.mo T.mF (aa ο (aa (eU bF (gj (gH T) hr T.mo T.gW (aa Θ (aa ψ az))) ad) az))))
   (aq (cM (jP G.o7 (pv 3) (fu)) (aB (G.DW rfl rfl (T.mo T.Kf) T.Y8 (aa (aU) az) (λ_ _ _ _ _ _ _ I hx hE=>G.Xb I hx hE))) aZ)
   (aB (aL (pv 3))))),?_⟩
  obtain⟨z0,z1,z2,rfl,q⟩:=h;exact Zdn (jQ T).w q
theorem yf:ι 2 AD.Bf (gm T.rO.g) Ac (Cj XQ):=by
 have sc:aO ["world","hand","place"] Ac (aC zK):=cI;walk_at "ok"
 ·refine⟨_,(aq (cM (PW.pt (kO (jP ie (aK Bw (aJ ο rfl) (T.Zlm.pe rfl)) (au)) (lZ (gA (gj (Xh T) hr T.mo T.JL (aa Θ (aa ψ az))))))) (aB (aL (cH az))) aZ)
   (aB (aL (cH (aa ad az))))),?_⟩
  obtain⟨z0,z1,z2,rfl,q⟩:=h;exact Mp (jQ T).w q
theorem Vi:ι 2 AD.Zan (gm T.O7.g) ZK (Q7 K XQ.C XQ.H):=by
 have sc:aO ["heap","places","way"] ZK (aC Zi):=cI;walk_at "ok"
 ·refine⟨zb K (jt XQ.H),(aB (aL (G.Zc8 (cns:=["heap","way"]) [0,2] (G.DX rfl T.iW (aa ψ az)) (λ_ _ _ _ _=>(G.NK (jP G.El (gj (mz T) hr T.mo T.mF (aa ad (aa ψ az))) (fu)))) (λ_ _ _ _ _=>(bD (aa ψ (aa (aK Zni (pv 3) (bD (aa Θ az))) az)))) rfl rfl af (by repeat (first | exact trivial | refine⟨rfl,?_⟩)) rfl γ rfl γ γ rfl rfl γ))),?_⟩;obtain⟨z0,z1,z2,z3,z4,z5,rfl,q⟩:=h;exact Zgt q
theorem ZS:ι 2 AD.Qt (gm T.O8.g) ["world"] (Q9 XQ):=by
 have sc:aO ["world","heap"] ["world"] (aC M7):=cI;walk_at "ok"
 ·refine⟨xR K XQ.H (vC XQ.H) (jg XQ),(aq (Zc7 (i:=1) sc.nd rfl (Or.inr rfl) ο)
   (aB (aL (G.Zeq (cns:=["world","heap"]) [0,1] (mO (gU ψ T.u9.c T.Ar.m (An T).g ae (An (P:=P) (base:=base) T).b .nil G.cZ)) (λ_ _ _ _ _=>(G.NK (kj (gA (gj (jL T) hr T.mo T.jE (aa ψ (aa (eU bF (aJ ad rfl) Θ) az))))))) (λ_ _ _ _ _=>Θ) rfl rfl af (by repeat (first | exact trivial | refine⟨rfl,?_⟩)) rfl γ rfl γ γ rfl γ)))),?_⟩
  obtain⟨z0,rfl,q⟩:=h;exact Zal (jQ T).w q
theorem qN:ι 2 AD.eG (gm T.uc.g) ["world"] (cV XQ (Vg "lost")):=by
 have sc:aO ["world"] ["world"] (aC rZ):=cI;walk_at "ok"
 ·refine⟨_,(aB (aL (gj (Ah T) hr T.mo T.uT (aa (aJ ο rfl) az)))),?_⟩;obtain⟨z0,rfl,q⟩:=h;exact Cy (jQ T).w q
theorem Bx:ι 2 AD.Wd (gm T.zj.g) ["log"] (lU):=by
 have sc:aO ["log"] ["log"] (aC Uu):=cI;walk_at "ok"
 ·refine⟨_,(aB (aL ((Xe (oZ ZP (bM G.bV η T.fZ G.boot_len (aa Θ az)) (au) (ym _)) (NP (gj (Ai T) hr T.mo T.uU (aa (eU bF Θ (Zpb Zi8 (au))) az))))))),?_⟩;obtain⟨z0,rfl,q⟩:=h;exact Zcy q
theorem Oj:ι 2 AD.Bj (gm T.Ba.g) Af (Zfx):=by
 have sc:aO ["_law_cell","_law_k","_law_hands","_law_base","_law_way","_law_other","_law_h","_law_g","_law_s","_law_t","_law_kind","_law_bulk","_law_load"] Af (aC zN):=cI;walk_at "okw"
 ·refine⟨_,(cX (dZ 4 sc.nd (aK cg (aK jB (aK di (aK di Θ (aK jB (aK jB (au) ψ) ψ)) (au)) (au)) (au)))
   (cX (dZ 5 sc.nd (aK cg (aK jB (aK di (aK di Θ (aK jB (au) ψ)) (au)) (au)) (au)))
   (cX (dZ 6 sc.nd (aK cg (aK cT (pv 4) (au)) (bM G.bV η T.fZ G.boot_len (aa ad az))))
   (cX (dZ 7 sc.nd (aK cg (pv 5) (bM G.bV η T.fZ G.boot_len (aa ad az))))
   (cX (dZ 8 sc.nd (aK cg (aK cT (pv 5) (au)) (eU bF (cH (aa (au) (aa (au) (aa (au) (aa (eU bH (eU bF ad (pv 6)) (au)) az))))) (aK cg (aK cT (pv 5) (au)) (au)))))
   (cX (dZ 9 sc.nd (aK cg (aK cT (pv 4) (au)) (eU bF (cH (aa (au) (aa (au) (aa (au) (aa (eU bH (eU bF ad (pv 6)) (au)) az))))) (aK cg (aK cT (pv 5) (au)) (au)))))
   (cX (dZ 10 sc.nd (aK cg (pv 4) (au)))
   (Zqi (jP ye (pv 10) (au)) (cX (dZ 11 sc.nd (aK cg (aK cT (pv 5) (au)) (au)))
   (cX (cM (jP ie (aK cg (pv 3) (au)) (au)) (aB (dZ 11 sc.nd (aK cg Θ (aK di (aK Bv (au) (au)) (au))))) aZ)
   (Zjf (bW (aU) (bW (pv 6) (bW (pv 8) (Zne (bW (au) (bW (au) (bW (au) (bW (au) (bW (au) (bW (au) (bW (au) mV))))))) (aK cg (aK cT (pv 5) (au)) (au)) (λ_ _=>rfl) (bW (pv 11) mV)))))))) Zn7
   (cX (cM (jP ye (pv 10) (au)) (aB (aL (bD (aa (aU) (aa (pv 6) (aa (pv 8) (aa (pv 9) (aa (aK cg (aK cT (pv 5) (au)) (au)) az)))))))) aZ)
   (cX (cM (jP ye (pv 10) (au)) (aB (aL (bD (aa (aU) (aa (pv 6) (aa (pv 9) (aa (aK cg (aK cT (pv 5) (au)) (au)) (aa (pv 8) az)))))))) aZ)
   (cX (cM (jP ie (pv 10) (au)) (aB (aL (bD (aa (aU) (aa (pv 6) (aa (pv 8) (aa (pv 9) az))))))) aZ)
   (cX (cM (jP ie (pv 10) (au)) (aB (aL (bD (aa (aU) (aa (pv 6) (aa (pv 8) az)))))) aZ)
   (cX (cM (jP ie (pv 10) (au)) (aB (aL (bD (aa (aU) (aa (pv 6) (aa (pv 8) (aa (pv 7) (aa (aK cg (aK cT (pv 4) (au)) (eU bH (eU bF ad (pv 7)) (au))) az)))))))) aZ)
   (cX (cM (jP ie (pv 10) (au)) (aq (dZ 12 sc.nd (aK pP (aK cg Θ (aK Bv (au) (au))) (aK jB (aK Bv (au) (au)) (aK cg (pv 5) (au)))))
   (aB (aL (eU bF (cH (aa (bD (aa (aU) (aa (pv 6) (aa (pv 9) (aa (aK di (pv 12) (aK cg (pv 5) (au))) az))))) (aa (bD (aa (aU) (aa (pv 6) (aa (pv 9) az)))) az))) (aK cg (aK cT (pv 5) (au)) (au)))))) aZ)
   (cX (cM (jP ie (pv 10) (au)) (aB (aL (bD (aa (aU) (aa (pv 6) (aa (pv 9) (aa (gj (nW T) hr T.mo T.lO (aa (pv 3) (aa (aK cg (aK cT (pv 5) (au)) (au)) az))) az))))))) aZ)
   (cX (cM (jP ie (pv 10) (au)) (aB (aL (bD (aa (aU) (aa (pv 6) (aa (pv 8) (aa (gj (nW T) hr T.mo T.lO (aa (pv 3) (aa (aK cg (aK cT (pv 5) (au)) (au)) az))) az))))))) aZ)
   (Zen (aL (bD (aa (aU) (aa (aK di (au) (aK cg (aK cT (pv 5) (au)) (eU bF (cH (aa (au) (aa (au) az))) (aK pP (pv 10) (au))))) az))))))))))))))))))))),?_⟩
  obtain⟨z0,z1,z2,z3,rfl,q⟩:=h;exact QK q
theorem Em:ι 2 AD.um (gm T.ue.g) sZ (Q6):=by
 have sc:aO ["_law_cell","_law_hand","_law_a","_law_b","_law_c","_law_rows"] sZ (aC su):=cI;walk_at "okw"
 ·refine⟨_,(Lw (i:=5) sc.nd rfl (Or.inl rfl) (bW (bD (aa (aU) (aa ψ (aa ad (aa (au) (aa (au) az)))))) (bW (bD (aa (aU) (aa ψ (aa (pv 3) (aa (au) (aa (au) az)))))) (bW (bD (aa (aU) (aa ψ (aa ad (aa (au) ar))))) (bW (bD (aa (aU) (aa ψ ar))) mV))))
   (cX (dZ 5 sc.nd (aK pQ (pv 5) (cH (aa a3 (aa (bD (aa (aU) (aa ψ (aa (pv 3) (aa ad (aa (au) az)))))) (aa (bD (aa (aU) (aa ψ (aa (pv 4) az)))) (aa (bD (aa (aU) (aa ψ (aa ad (aa (au) (aa (pv 4) az)))))) az)))))))
   (Ls (Xd pQ (pew (pv 5)) (Lx (bW a3 (bW (bD (aa (aU) (aa ψ ar))) mV))))))),?_⟩
  obtain⟨z0,z1,z2,z3,z4,rfl,q⟩:=h;exact Gy q
theorem Ol:ι 2 AD.Bk (gm T.Bb.g) Ag (Zfz):=by
 have sc:aO ["_law_cell","_law_hand","_law_a","_law_b","_law_rows"] Ag (aC zO):=cI;walk_at "okw"
 ·refine⟨_,(Lw (i:=4) sc.nd rfl (Or.inl rfl) (bW (bD (aa (aU) (aa ψ (aa (pv 3) (aa (au) (aa (au) az)))))) (bW a3 (bW (bD (aa (aU) (aa ψ (aa ad (aa (au) (aa (au) az)))))) (bW (bD (aa (aU) (aa ψ (aa ad (aa (au) ar))))) mV))))
   (cX (dZ 4 sc.nd (aK pQ (pv 4) (cH (aa (bD (aa (aU) (aa ψ ar))) (aa a3 (aa (bD (aa (aU) (aa ψ (aa (pv 3) (aa ad (aa (au) az)))))) az))))))
   (Ls (Xd pQ (pew (pv 4)) (Lx (bW (bD (aa (aU) (aa ψ (aa (pv 3) (aa (aK cg Θ (aK Bv (au) (au))) az))))) (bW (bD (aa (aU) (aa ψ ar))) mV))))))),?_⟩
  obtain⟨z0,z1,z2,z3,rfl,q⟩:=h;exact QL q
theorem RZ:ι 2 AD.Gk (gm T.Ft.g) Ei (Zb7):=by
 have sc:aO ["_law_cell","_law_hand","_law_a","_law_b","_law_word","_law_rows"] Ei (aC Dk):=cI;walk_at "okw"
 ·refine⟨_,(Lw (i:=5) sc.nd rfl (Or.inl rfl) (bW (bD (aa (aU) (aa ψ (aa ad (aa (au) (aa (au) az)))))) (bW (bD (aa (aU) (aa ψ (aa (pv 3) (aa (au) (aa (au) az)))))) (bW (bD (aa (aU) (aa ψ (aa ad (aa (au) ar))))) (bW (bD (aa (aU) (aa ψ (aa ad (aa (pv 4) az))))) mV))))
   (cX (dZ 5 sc.nd (aK pQ (pv 5) (cH (aa (bD (aa (aU) (aa ψ (aa ad az)))) (aa (bD (aa (aU) (aa ψ ar))) (aa a3 (aa (bD (aa (aU) (aa ψ (aa (pv 3) (aa (pv 4) az))))) az)))))))
   (Ls (Xd pQ (pew (pv 5)) (Lx (bW a3 (bW (bD (aa (aU) (aa ψ (aa ad (aa (pv 3) (aa (au) az)))))) (bW (bD (aa (aU) (aa ψ (aa ad az)))) mV)))))))),?_⟩
  obtain⟨z0,z1,z2,z3,z4,rfl,q⟩:=h;exact Tq q
theorem R0:ι 2 AD.Gm (gm T.Fv.g) Ej (Zb8):=by
 have sc:aO ["_law_cell","_law_hand","_law_taker","_law_a","_law_b","_law_rows"] Ej (aC Dl):=cI;walk_at "okw"
 ·refine⟨_,(Lw (i:=5) sc.nd rfl (Or.inl rfl) (bW (bD (aa (aU) (aa ψ (aa (pv 3) (aa (au) (aa (au) az)))))) (bW (bD (aa (aU) (aa ψ (aa (pv 4) (aa (au) (aa (au) az)))))) (bW (bD (aa (aU) (aa ψ (aa (pv 3) (aa (au) (aa (pv 4) az)))))) (bW (bD (aa (aU) (aa ψ (aa (pv 4) az)))) mV))))
   (cX (dZ 5 sc.nd (aK pQ (pv 5) (cH (aa a3 (aa (bD (aa (aU) (aa ψ (aa (pv 3) (aa ad (aa (pv 4) az)))))) (aa (bD (aa (aU) (aa ψ ar))) (aa a3 az)))))))
   (Ls (Xd pQ (pew (pv 5)) (Lx (bW (bD (aa (aU) (aa ad (aa (pv 3) (aa (pv 4) (aa (au) az)))))) (bW (bD (aa (aU) (aa ad ar))) mV))))))),?_⟩
  obtain⟨z0,z1,z2,z3,z4,rfl,q⟩:=h;exact Tr q
theorem Ak:ι 2 AD.Gn (gm T.uW.g) Ek (Zb9):=by
 have sc:aO ["_law_found"] Ek (aC Dm):=cI;walk_at "ok"
 ·refine⟨rH K (Q4),(aq (cM (PW.pt (kO (kj (gA (bM G.lQ η T.dR G.boot_isinstance (aa Θ (aa (o5 rfl T.j8 G.boot_list rfl) az))))) (kO (jP wj (bM G.bV η T.fZ G.boot_len (aa Θ az)) (au)) (lZ (kj (gA (bM G.lQ η T.dR G.boot_isinstance (aa (eU bF Θ (au)) (aa (o5 rfl T.Lp G.boot_tuple rfl) az))))))))) (aB (aL (oJ))) aZ)
   (aq (cM (PW.pt (kO (jP wj (bM G.bV η T.fZ G.boot_len (aa (eU bF Θ (au)) az)) (au)) (kO (kj (gA (bM G.lQ η T.dR G.boot_isinstance (aa (eU bH (eU bF Θ (au)) (au)) (aa (o5 rfl T.Y7 G.boot_str rfl) az))))) (lZ (kj (gA (bM G.lQ η T.dR G.boot_isinstance (aa (eU bH (eU bF Θ (au)) (au)) (aa (o5 rfl T.j8 G.boot_list rfl) az))))))))) (aB (aL (oJ))) aZ)
   (aB (aL ((Zpc (oZ G.o7 (eU bH (eU bF Θ (au)) (au)) (fu) (ym _)) (Zpc (bM G.lQ η T.dR G.boot_isinstance (aa (eU bH (eU bF Θ (au)) (au)) (aa (o5 rfl T.Y7 G.boot_str rfl) az))) (NP (gj (RW T) hr T.mo T.Fp (aa (eU bH (eU bF Θ (au)) (au)) az)))))))))),?_⟩
  obtain⟨z0,rfl,q⟩:=h;exact Tt q
theorem Xj:ι 3 AD.jf BD.uZ yd (Ko K XQ.C XQ.H AD.cU):=by
 have sc:aO ["self","many","bulk","tone","cell"] yd (aC jA):=cI;refine⟨?_,T.yH,T.JT⟩;have F:=T.Ku;walk_at "okDX"
 ·refine⟨_,(aq (dZ 4 sc.nd (uK (mkT T.zm T.t8) (tR T).g ae rfl (T.mo T.Zsu) (tR (P:=P) (base:=base) T).b .nil G.cZ (aa (aK di ο (au)) (aa ψ (aa ad ar)))))
   (aq (cM (jP ZP (gU (pv 4) T.zm.c T.mX.m (jr T).g ae (jr (P:=P) (base:=base) T).b .nil G.cZ) (gU Θ T.u9.c T.EY.m (Eo T).g ae (Eo (P:=P) (base:=base) T).b .nil G.cZ)) (aB (G.DW rfl rfl (T.mo T.Zmc) T.Zpx (aa (aU) az) (λ_ _ _ _ _ _ _ I hx hE=>G.Xb I hx hE))) aZ)
   (aq (bR Θ (aJ (pv 4) rfl) rfl)
   (aq (bR Θ (aK di ο (gU (pv 4) T.zm.c T.mX.m (jr T).g ae (jr (P:=P) (base:=base) T).b .nil G.cZ)) rfl)
   (aB (aL (mQ Θ T.u9.c T.JK.m (JF T).g ae (JF (P:=P) (base:=base) T).b .nil G.cZ (aa (pv 4) az)))))))),?_⟩
  obtain⟨z0,z1,z2,z3,rfl,q⟩:=h;exact YW (jQ T).w.c q
theorem Zcf:ι 3 AD.Wc (gm T.Vr.g) ["text"] (pD XQ):=by
 have sc:aO ["text","looking","tells","kind"] ["text"] (aC Ut):=cI;walk_at "ok"
 ·refine⟨_,(aq (mj PassesOwn.never rfl (mO (cH (aa (G.Hq ⟨T.qg.mk',T.Zk5,T.qg.k⟩ rfl (T.mo T.Zox)) (aa (G.Hq ⟨T.vd.mk',T.Znq,T.vd.k⟩ rfl (T.mo T.Zst)) (aa (G.Hq ⟨T.u6.mk',T.Znp,T.u6.k⟩ rfl (T.mo T.Zsp)) az))))) (fH (i:=1) sc.nd rfl (Or.inl rfl))
   (aB (mj PassesOwn.never rfl (pB rfl T.oY (aa (au) az)) (fH (i:=2) sc.nd rfl (Or.inl rfl))
   (aq (dZ 3 sc.nd (uK (mkT T.Yz T.tX) (tM T).g ae rfl (T.mo T.Zsq) (tM (P:=P) (base:=base) T).b .nil G.cZ (aa ψ (aa ad az))))
   (aB (cM (jP ie (gU (pv 3) T.Yz.c T.Aq.m (Am T).g ae (Am (P:=P) (base:=base) T).b .nil G.cZ) Θ) (aB (aL (pv 3))) aZ))))))
   (aB (aL (fu)))),?_⟩
  obtain⟨z0,rfl,q⟩:=h;exact Zcw (jQ T).w q
theorem qO:ι 3 AD.uo (gm T.qY.g) tD (GK XQ):=by
 have sc:aO ["self","room","kind","hands"] tD (aC sE):=cI;walk_at "ok"
 ·refine⟨_,(aq (bR Θ (uK (mkT T.u9 T.tY) (tO T).g ae rfl (T.mo T.Zsr) (tO (P:=P) (base:=base) T).b .nil G.cZ (aa ψ az)) rfl)
   (aq (bR Θ ad rfl)
   (aq (bR Θ (G.Zc8 (cns:=[]) [] (mO (pv 3)) (λ_ _ _ _ _=>G.Xc) (λ_ _ _ _ _=>(uK (mkT T.Zfn T.tZ) (tQ T).g ae rfl (T.mo T.Zss) (tQ (P:=P) (base:=base) T).b .nil G.cZ (aa Θ (aa ψ az)))) rfl rfl af (by repeat (first | exact trivial | refine⟨rfl,?_⟩)) rfl γ rfl γ γ rfl rfl γ) rfl)
   (aq (bR Θ (ZG) rfl)
   (aB (bR Θ (Zjk (mkT T.QD T.oU) (oR T).g ae rfl (T.mo T.Zi1) (oR (P:=P) (base:=base) T).b .nil G.cZ) rfl)))))),?_⟩
  obtain⟨z0,z1,z2,z3,rfl,q⟩:=h;exact Gz (jQ T).w q
theorem Xi:ι 3 AD.J8 (gm T.JM.g) JB (Kl XQ):=by
 have sc:aO ["heap","places"] JB (aC Jj):=cI;walk_at "ok"
 ·refine⟨_,(aB (aL (G.Zeq (cns:=["heap"]) [0] (mO ψ) (λ_ _ _ _ _=>G.Xc) (λ_ _ _ _ _=>(gj (iY T) hr T.mo T.jj (aa ψ (aa Θ az)))) rfl rfl af (by repeat (first | exact trivial | refine⟨rfl,?_⟩)) rfl γ rfl γ γ rfl γ))),?_⟩;obtain⟨z0,z1,rfl,q⟩:=h;exact YC (jQ T).w q
theorem Zk4:ι 3 AD.Zff (gm T.Zf0.g) ["world"] (Zg1 XQ):=by
 have sc:aO ["world","sweeper"] ["world"] (aC Zef):=cI;walk_at "ok"
 ·refine⟨_,(aq (dZ 1 sc.nd ο)
   (aq (bR ψ (aK pP (au) (aJ ψ rfl)) rfl)
   (aq (bR ψ (aK di (aJ ψ rfl) (au)) rfl)
   (aq (bR ψ (aU) rfl)
   (aq (bR ψ (cH az) rfl)
   (aq (bR ψ (G.mR (mQ (aJ ο rfl) T.qg.c T.q8.m (qQ T).g ae (qQ (P:=P) (base:=base) T).b .nil G.cZ (aa av az)) (G.mR (mQ (aJ ο rfl) T.vd.c T.t7 (iJ T).g ae (iJ (P:=P) (base:=base) T).b .nil G.cZ (aa av az)) (mQ (aJ ο rfl) T.u6.c T.tW (iJ T).g ae (iJ (P:=P) (base:=base) T).b .nil G.cZ (aa av az)))) rfl)
   (aq (bR ψ (au) rfl)
   (aq (bR ψ (au) rfl)
   (aB (bR ψ (au) rfl)))))))))),?_⟩
  obtain⟨z0,rfl,q⟩:=h;exact Zma (jQ T).w q
theorem m8:ι 3 AD.Qs (gm T.mD.g) NT (mH XQ):=by
 have sc:aO ["world","places","births","place","birth"] NT (aC M5):=cI;walk_at "ok"
 ·refine⟨_,(aq (dZ 2 sc.nd (cH az))
   (aq (mj PassesOwn.never rfl (mO ψ) (fH (i:=3) sc.nd rfl (Or.inl rfl))
   (aq (dZ 4 sc.nd (gj (Znn T) hr T.mo T.Zkp (aa Θ ar)))
   (aB (cM (jP G.El (pv 4) (fu)) (aB (mL (xW PySem.F.plainAttrs_list PySem.F.slot_list_append PySem.F.type_list_append mC ad (aa (pv 4) az)))) aZ))))
   (aB (aL ad)))),?_⟩
  obtain⟨z0,z1,rfl,q⟩:=h;exact ZW (jQ T).w q
theorem Zcd:ι 3 AD.V8 (gm T.Vp.g) U5 (Wr XQ):=by
 have sc:aO ["world","place","birth"] U5 (aC Uq):=cI;walk_at "ok"
 ·refine⟨_,(aq (cM (gA (gj (Zev T) hr T.mo T.Zco (aa Θ (aa ψ (aa ad az))))) (aB (aL (fu))) aZ)
   (aq (cM (PW.pt (Bt (gA (gj (RT T) hr T.mo T.Fj (aa Θ az))) (uH (kj (gA (gj (jL T) hr T.mo T.jE (aa Θ (aa (eU bF (aJ ο rfl) ψ) az)))))))) (aB (aL (fu))) aZ)
   (aB (aL ψ)))),?_⟩
  obtain⟨z0,z1,z2,rfl,q⟩:=h;exact Zc2 (jQ T).w q
theorem o8:ι 3 AD.J7 (gm T.nD.g) Jz (yU XQ AD.aY AD.bK):=by
 have sc:aO ["world","hand","slot","field","cell"] Jz (aC Ji):=cI;walk_at "okX"
 ·refine⟨_,(aq (dZ 4 sc.nd (mU (jC T).g ae rfl (T.mo T.jM.a) (BK T.jM.g).kp (jC (P:=P) (base:=base) T).b .nil G.Ea (aa Θ (aa ψ (aa ad az)))))
   (aq (cM (kj (gA (mQ (pv 4) T.zm.c T.rA.m (qT T).g ae (qT (P:=P) (base:=base) T).b .nil G.cZ ar))) (aB (G.DW rfl rfl (T.mo T.Wn) T.Zg3 (aa (aU) az) (λ_ _ _ _ _ _ _ I hx hE=>G.Xb I hx hE))) aZ)
   (aB (aL (aJ (pv 4) rfl))))),?_⟩
  obtain⟨z0,z1,z2,z3,rfl,q⟩:=h;exact Yu (jQ T).w q
theorem Oi:ι 3 AD.lG (gm T.Vy.g) Vd (cP XQ Γ Qc):=by
 have sc:aO ["world","deed","slots","place"] Vd (aC UJ):=cI;walk_at "ok"
 ·refine⟨_,(aq (dZ 2 sc.nd (gj (gH T) hr T.mo T.gW (aa Θ (aa Ω az))))
   (aq (dZ 3 sc.nd (eU bF ad Ω))
   (aq (uI (pv 3) (uJ ad Ω set_list))
   (aB (aL (bD (aa (aU) (aa (gj (iY T) hr T.mo T.jj (aa ο ar)) (aa (cH az) az))))))))),?_⟩
  obtain⟨z0,z1,rfl,q⟩:=h;exact Zdj (jQ T).w q
theorem Oh:ι 3 AD.lF (gm T.Vx.g) Vc (cP XQ Γ Qa):=by
 have sc:aO ["world","deed","slots","place"] Vc (aC UG):=cI;walk_at "ok"
 ·refine⟨_,(aq (dZ 2 sc.nd (gj (gH T) hr T.mo T.gW (aa Θ (aa Ω az))))
   (aq (dZ 3 sc.nd (eU bF ad Ω))
   (aq (uI (fu) (uJ ad Ω set_list))
   (aB (aL (bD (aa (aU) (aa (gj (iY T) hr T.mo T.jj (aa ο ar)) (aa (cH az) az))))))))),?_⟩
  obtain⟨z0,z1,rfl,q⟩:=h;exact Zdi (jQ T).w q
theorem JD:ι 3 AD.jG (gm T.O9.g) NZ (cP XQ Γ Fz):=by
 have sc:aO ["world","deed","cell","before"] NZ (aC M8):=cI;walk_at "okX"
 ·refine⟨_,(aq (dZ 2 sc.nd (mU (jC T).g ae rfl (T.mo T.jM.a) (BK T.jM.g).kp (jC (P:=P) (base:=base) T).b .nil G.Ea (aa Θ (aa Ω (aa Ω az)))))
   (aq (dZ 3 sc.nd (aJ ad rfl))
   (aq (bR ad Ω rfl)
   (aB (aL (bD (aa (aU) (aa (pv 3) (aa (cH az) az))))))))),?_⟩
  obtain⟨z0,z1,rfl,q⟩:=h;exact Zav (jQ T).w rfl q
theorem Oc:ι 3 AD.lB (gm T.Vt.g) U8 (cP XQ Γ Px):=by
 have sc:aO ["world","deed","cell"] U8 (aC Uw):=cI;walk_at "okX"
 ·refine⟨_,(aq (dZ 2 sc.nd (mU (jC T).g ae rfl (T.mo T.jM.a) (BK T.jM.g).kp (jC (P:=P) (base:=base) T).b .nil G.Ea (aa Θ (aa Ω (aa Ω az)))))
   (aB (aL (bD (aa (aU) (aa (aJ ad rfl) (aa (cH az) az))))))),?_⟩
  obtain⟨z0,z1,rfl,q⟩:=h;exact Zde (jQ T).w rfl q
theorem Od:ι 3 AD.lC (gm T.Vu.g) U9 (cP XQ Γ isName):=by
 have sc:aO ["world","deed","hand","slot","birth"] U9 (aC Ux):=cI;walk_at "okX"
 ·refine⟨_,(aq (dZ 2 sc.nd Ω)
   (aq (dZ 3 sc.nd Ω)
   (aq (dZ 4 sc.nd (aJ (mU (jC T).g ae rfl (T.mo T.jM.a) (BK T.jM.g).kp (jC (P:=P) (base:=base) T).b .nil G.Ea (aa Θ (aa ad ar))) rfl))
   (aq (Zeo (J1 hr) ο Ω (bD (aa (eU bF (gj (gH T) hr T.mo T.gW (aa Θ (aa ad az))) (pv 3)) (aa (pv 4) az))) rfl)
   (aB (aL (bD (aa (aU) (aa (pv 4) (aa (cH az) az)))))))))),?_⟩
  obtain⟨z0,z1,rfl,q⟩:=h;exact Zdf (jQ T).w rfl q
theorem yg:ι 3 AD.Bg (gm T.rP.g) Ae (Bm XQ AD.cu):=by
 have sc:aO ["world","word","place","birth"] Ae (aC zL):=cI;walk_at "okX"
 ·refine⟨_,(aq (cM (Zje (Zgq (J1 hr) ψ ο)) (aB (G.DW rfl rfl (T.mo T.Zb5) T.Zi5 (aa (aU) az) (λ_ _ _ _ _ _ _ I hx hE=>G.Xb I hx hE))) aZ)
   (aq (dZ 2 sc.nd (eU bH (pdg hr ο ψ) (au)))
   (aq (dZ 3 sc.nd (eU bH (pdg hr ο ψ) (au)))
   (aq (cM (gA (gj (Zev T) hr T.mo T.Zco (aa Θ (aa ad ar)))) (aB (aL (fu))) aZ)
   (aB (aL ad)))))),?_⟩
  obtain⟨z0,z1,rfl,q⟩:=h;exact NB (jQ T).w q
theorem Zk3:ι 3 AD.Zfe (gm T.Zez.g) ["scene"] (zp AD.aW):=by
 have sc:aO ["scene","rows"] ["scene"] (aC Zee):=cI;walk_at "ok"
 ·refine⟨Nj K AD.aW (iB AD.aW),(aq (G.ZC (iz:=1) (cns:=[]) [] (mO ο) (λ_ _ _ _ _=>(G.NK (jP wj (eU bH Θ (au)) (T.Yr.pe rfl)))) (λ_ _ _ _ _=>Θ) rfl rfl af (by repeat (first | exact trivial | refine⟨rfl,?_⟩)) rfl γ rfl γ γ rfl γ sc.nd rfl (Or.inl rfl) (Or.inr rfl) rfl)
   (aB (aL (uK (mkT T.QF T.lN) (ju T).g ae rfl (T.mo T.Zfs) (ju (P:=P) (base:=base) T).b .nil G.cZ (aa ο (aa ο (aa ο (aa ψ az)))))))),?_⟩
  obtain⟨z0,rfl,q⟩:=h;exact Zj9 (jQ T) q
theorem Zce:ι 3 AD.Wb (gm T.Vq.g) U6 (Ws K XQ.C XQ.H):=by
 have sc:aO ["heap","rows","queue","number","row","listed","taken","place","way"] U6 (aC Us):=cI;walk_at "ok"
 ·refine⟨_,(aq (dZ 2 sc.nd (cH az))
   (aq (mj PassesOwn.never rfl (G.DX rfl T.iW (aa ψ az)) (Ho rfl (jo (fH (i:=3) sc.nd rfl (Or.inl rfl)) (jo (fH (i:=4) sc.nd rfl (Or.inl rfl)) zf)))
   (aB (mL (xW PySem.F.plainAttrs_list PySem.F.slot_list_extend PySem.F.type_list_extend Hw ad (aa (gj (Vi T) hr T.mo T.O7 (aa Θ (aa (pv 4) (aa (bD ar) az)))) az)))))
   (aq (dZ 5 sc.nd (ZG))
   (aq (dZ 6 sc.nd (au))
   (aq (Zz PassesOwn.never (jP ye (pv 6) (bM G.bV η T.fZ G.boot_len (aa ad az))) (aq (dZ 7 sc.nd (eU bH (eU bF ad (pv 6)) (au)))
   (aq (dZ 8 sc.nd (eU bH (eU bF ad (pv 6)) (au)))
   (aq (dZ 6 sc.nd (aK di (pv 6) (au)))
   (aB (cM (Zje (G.Zc9 (J1 hr) (pv 7) (pv 5))) (aq (Zeo (J1 hr) (pv 5) (pv 7) (pv 8) rfl)
   (aB (mL (xW PySem.F.plainAttrs_list PySem.F.slot_list_extend PySem.F.type_list_extend Hw ad (aa (gj (Vi T) hr T.mo T.O7 (aa Θ (aa (aJ (eU bF ο (pv 7)) rfl) (aa (pv 8) az)))) az))))) aZ))))))
   (aB (aL (kZ (G.Zdp rfl) η T.j8 G.boot_list (aa (G.Zjm (pv 5)) az))))))))),?_⟩
  obtain⟨z0,z1,z2,z3,z4,rfl,q⟩:=h;exact Zc4 (jQ T).w q
theorem RQ:ι 3 AD.Gb (gm T.Fg.g) ["world"] (cV XQ Zjt):=by
 have sc:aO ["world","sweeper","place","cell"] ["world"] (aC Dd):=cI;walk_at "ok"
 ·refine⟨_,(aq (dZ 1 sc.nd ο)
   (aq (dZ 2 sc.nd (aJ ψ rfl))
   (aq (bR ψ (aK di ad (au)) rfl)
   (aq (bR ψ (aK di (aJ ψ rfl) (au)) rfl)
   (aq (dZ 3 sc.nd (gj (mz T) hr T.mo T.mF (aa ο (aa ad az))))
   (aq (cM (PW.pt (kO (jP G.o7 (pv 3) (fu)) (lZ (gA (gj (jL T) hr T.mo T.jE (aa Θ ar)))))) (aB (aL (bD (aa (aU) (aa ad (aa (cH az) az)))))) aZ)
   (aB (aL (bD (aa (aU) (aa (mQ ο T.u9.c T.Fb.m (Ep T).g ae (Ep (P:=P) (base:=base) T).b .nil G.cZ (aa ad az)) (aa (cH (aa ad az)) az)))))))))))),?_⟩
  obtain⟨z0,rfl,q⟩:=h;exact RN (jQ T).w q
theorem K1:ι 3 AD.yC (gm T.yu.g) xY (yS):=by
 have sc:aO ["_law_cell","_law_k","_law_hands","_law_base","_law_way","_law_hand","_law_taker","_law_a","_law_b","_law_sort"] xY (aC xG):=cI;walk_at "ok"
 ·refine⟨_,(aq (dZ 4 sc.nd (aK cg (aK jB (aK di (aK di Θ (aK jB (aK jB (au) ψ) ψ)) (au)) (au)) (au)))
   (aq (cM (jP wj (aK cg (pv 4) (au)) (au)) (aB (aL (cH (aa (gj (Oj T) hr T.mo T.Ba (aa Θ (aa ψ (aa ad ar)))) az)))) aZ)
   (aq (dZ 5 sc.nd (aK cg (aK cT (pv 4) (au)) (bM G.bV η T.fZ G.boot_len (aa ad az))))
   (aq (dZ 6 sc.nd (aK cg (aK cT (pv 4) (au)) (bM G.bV η T.fZ G.boot_len (aa ad az))))
   (aq (dZ 7 sc.nd (aK cg (aK cT (pv 4) (au)) (au)))
   (aq (dZ 8 sc.nd (aK cg (aK di (aK di (pv 7) (au)) (aK cg (aK cT (pv 4) (au)) (au))) (au)))
   (aq (dZ 9 sc.nd (aK cg (aK cT (pv 4) (au)) (au)))
   (aq (cM (jP ye (pv 9) (au)) (aB (aL (gj (Em T) hr T.mo T.ue (aa Θ (aa (pv 5) (aa (pv 7) (aa (pv 8) (aa (aK pP (aK pP (au) (pv 7)) (pv 8)) az)))))))) aZ)
   (aq (cM (jP ie (pv 9) (au)) (aB (aL (gj (Ol T) hr T.mo T.Bb (aa Θ (aa (pv 5) (aa (pv 7) (aa (pv 8) az))))))) aZ)
   (aq (cM (jP ie (pv 9) (au)) (aB (aL (gj (RZ T) hr T.mo T.Ft (aa Θ (aa (pv 5) (aa (pv 7) (aa (pv 8) (aa (gj (nW T) hr T.mo T.lO (aa (pv 3) (aa (aK cg (aK cT (pv 4) (au)) (au)) az))) az)))))))) aZ)
   (aB (aL (gj (R0 T) hr T.mo T.Fv (aa Θ (aa (pv 5) (aa (pv 6) (aa (pv 7) (aa (pv 8) az)))))))))))))))))),?_⟩
  obtain⟨z0,z1,z2,z3,rfl,q⟩:=h;exact Lg q
theorem yh:ι 3 AD.oX (gm T.oW.g) oM (jN):=by
 have sc:aO ["_law_weave","_law_woven","_law_still","_law_k","_law_j","_law_row","_law_one","_law_other"] oM (aC oE):=cI;walk_at "ok"
 ·refine⟨_,(aq (dZ 3 sc.nd (au))
   (aq (mj PassesOwn.never rfl (G.DX rfl T.iW (aa Θ az)) (Ho rfl (jo (fH (i:=4) sc.nd rfl (Or.inl rfl)) (jo (fH (i:=5) sc.nd rfl (Or.inl rfl)) zf)))
   (aq (cM (jP ie (pv 4) (bM G.bV η T.fZ G.boot_len (aa ψ az))) (aB (aL (oJ))) aZ)
   (aq (cM (jP ie (eU bH (pv 5) (au)) (aU)) (aB (ZD)) aZ)
   (aq (dZ 6 sc.nd (eU bF ψ (pv 4)))
   (aq (dZ 7 sc.nd (eU bF ad (pv 3)))
   (aq (Zqj (i:=3) sc.nd rfl (Or.inl rfl) (au) Zre)
   (aq (cM (PW.pt (kO (kj (gA (gj (Ak T) hr T.mo T.uW (aa (pv 6) az)))) (kO (kj (gA (gj (Ak T) hr T.mo T.uW (aa (pv 7) az)))) (lZ (jP (G.Zql (J1 hr)) (eU bH (eU bF (pv 7) (au)) (au)) (cH az)))))) (aB (aL (oJ))) aZ)
   (aq (cM (PW.pt (Bt (jP ie (eU bH (eU bF (pv 7) (au)) (au)) (aU)) (uH (jP G.o7 (eU bH (eU bF (pv 7) (au)) (au)) (fu))))) (aB (aL (oJ))) aZ)
   (aq (cM (PW.pt (Bt (jP ie (eU bH (eU bF (pv 7) (au)) (au)) (aU)) (uH (jP ie (eU bH (eU bF (pv 7) (au)) (au)) (aU))))) (aB (aL (oJ))) aZ)
   (aq (cM (PW.pt (Bt (jP ie (eU bH (eU bF (pv 6) (au)) (au)) (aU)) (uH (jP G.o7 (eU bH (eU bF (pv 6) (au)) (au)) (fu))))) (aB (aL (oJ))) aZ)
   (aB (cM (PW.pt (kO (jP wj (eU bH (eU bF (pv 6) (au)) (au)) (eU bH (eU bF (pv 7) (au)) (au))) (lZ (jP wj (eU bH (eU bF (pv 6) (au)) (au)) (eU bH (eU bF (pv 7) (au)) (au)))))) (aB (aL (oJ))) aZ))))))))))))
   (aB (aL (oJ))))),?_⟩
  obtain⟨z0,z1,z2,rfl,q⟩:=h;exact yI q
theorem Zk2:ι 4 AD.Zfd (gm T.Zey.g) ["world"] (Zfy XQ):=by
 have sc:aO ["world"] ["world"] (aC Zed):=cI;walk_at "ok"
 ·refine⟨_,(aB (aL (aK pQ (gj (Zno T) hr T.mo T.Zkq (aa Θ az)) (cH (aa (G.Znb (G.Zc8 (cns:=["world"]) [0] (G.Zna (G.Zgp ο)) (λ_ _ _ _ _=>G.Xc) (λ_ _ _ _ _=>(gj (Zcd T) hr T.mo T.Vp (aa ad (aa Θ (aa ψ az))))) rfl rfl af (by repeat (first | exact trivial | refine⟨rfl,?_⟩)) rfl γ rfl γ γ rfl rfl γ)) az))))),?_⟩;obtain⟨z0,rfl,q⟩:=h;exact Zj0 (jQ T).w q
theorem Oe:ι 4 AD.lD (gm T.Vv.g) Va (cP XQ Γ Py):=by
 have sc:aO ["world","deed","slots","many","bulk","place"] Va (aC Uy):=cI;walk_at "okX"
 ·refine⟨_,(aq (dZ 2 sc.nd (gj (gH T) hr T.mo T.gW (aa Θ (aa Ω az))))
   (aq (dZ 3 sc.nd Ω)
   (aq (dZ 4 sc.nd Ω)
   (aq (dZ 5 sc.nd (mQ ο T.u9.c T.Ez (Xj T).g ae T.yH .nil G.Ea (aa (pv 3) (aa (pv 4) (aa (aJ ο rfl) az)))))
   (aq (uI (pv 5) (uJ ad Ω set_list))
   (aB (aL (bD (aa (aU) (aa (gj (iY T) hr T.mo T.jj (aa ο (aa (pv 5) az))) (aa (cH az) az))))))))))),?_⟩
  obtain⟨z0,z1,rfl,q⟩:=h;exact Zdg (jQ T).w rfl q
theorem Vk:ι 4 AD.nH (gm T.Za2.g) ZM (cP XQ Γ Zaj):=by
 have sc:aO ["world","deed","hand","source","field","place"] ZM (aC Zk):=cI;walk_at "okX"
 ·refine⟨_,(aq (dZ 2 sc.nd Ω)
   (aq (dZ 3 sc.nd Ω)
   (aq (dZ 4 sc.nd Ω)
   (aq (dZ 5 sc.nd (eU bF (mU (o8 T).g ae rfl (T.mo T.nD.a) (BK T.nD.g).kp (o8 (P:=P) (base:=base) T).b .nil G.Ea (aa Θ (aa ad (aa (pv 3) (aa (pv 4) az))))) (pv 4)))
   (aq (uI (pv 5) (uJ (gj (gH T) hr T.mo T.gW (aa Θ (aa ad az))) Ω set_list))
   (aB (aL (bD (aa (aU) (aa (gj (iY T) hr T.mo T.jj (aa ο (aa (pv 5) az))) (aa (cH az) az))))))))))),?_⟩
  obtain⟨z0,z1,rfl,q⟩:=h;exact Zhs (jQ T).w rfl rfl q
theorem Vj:ι 4 AD.nG (gm T.Za1.g) ZL (cP XQ Γ Zah):=by
 have sc:aO ["world","deed","hand","field","fields","old","new","noted"] ZL (aC Zj):=cI;walk_at "okX"
 ·refine⟨_,(aq (dZ 2 sc.nd Ω)
   (aq (dZ 3 sc.nd Ω)
   (aq (dZ 4 sc.nd (mU (o8 T).g ae rfl (T.mo T.nD.a) (BK T.nD.g).kp (o8 (P:=P) (base:=base) T).b .nil G.Ea (aa Θ (aa ad (aa Ω ar)))))
   (aq (dZ 5 sc.nd (eU bF (pv 4) (pv 3)))
   (aq (dZ 6 sc.nd (eU bF (gj (gH T) hr T.mo T.gW (aa Θ (aa ad az))) Ω))
   (aq (uI (pv 6) (uJ (pv 4) (pv 3) set_list))
   (aq (dZ 7 sc.nd (gj (m8 T) hr T.mo T.mD (aa Θ (aa (aK pQ (gj (N8 T) hr T.mo T.Aw (aa Θ (aa (pv 5) az))) (gj (yf T) hr T.mo T.rO (aa Θ (aa ad (aa (pv 6) az))))) az))))
   (aB (aL (bD (aa (aU) (aa (gj (iY T) hr T.mo T.jj (aa ο (aa (pv 5) az))) (aa (pv 7) az))))))))))))),?_⟩
  obtain⟨z0,z1,rfl,q⟩:=h;exact Zhr (jQ T).w rfl rfl q
theorem Og:ι 4 AD.lE (gm T.Vw.g) Vb (cP XQ Γ PX):=by
 have sc:aO ["world","deed","giver","taker","place","noted"] Vb (aC Uz):=cI;walk_at "ok"
 ·refine⟨_,(aq (dZ 2 sc.nd Ω)
   (aq (dZ 3 sc.nd Ω)
   (aq (dZ 4 sc.nd (eU bF (gj (gH T) hr T.mo T.gW (aa Θ (aa ad az))) Ω))
   (aq (uI (pv 4) (uJ (gj (gH T) hr T.mo T.gW (aa Θ ar)) Ω set_list))
   (aq (dZ 5 sc.nd (gj (m8 T) hr T.mo T.mD (aa Θ (aa (gj (yf T) hr T.mo T.rO (aa Θ (aa ad (aa (pv 4) az)))) az))))
   (aB (aL (bD (aa (aU) (aa (gj (iY T) hr T.mo T.jj (aa ο (aa (pv 4) az))) (aa (pv 5) az))))))))))),?_⟩
  obtain⟨z0,z1,rfl,q⟩:=h;exact Zdh (jQ T).w q
theorem Ob:ι 4 AD.lA (gm T.Vs.g) U7 (cP XQ Γ Pu):=by
 have sc:aO ["world","deed","place","noted"] U7 (aC Uv):=cI;walk_at "okX"
 ·refine⟨_,(aq (dZ 2 sc.nd (mU (yg T).g ae rfl (T.mo T.rP.a) (BK T.rP.g).kp (yg (P:=P) (base:=base) T).b .nil G.Ea (aa Θ (aa Ω az))))
   (aq (uI ad (uJ (gj (gH T) hr T.mo T.gW (aa Θ (aa Ω az))) Ω set_list))
   (aq (dZ 3 sc.nd (gj (m8 T) hr T.mo T.mD (aa Θ (aa (cH (aa ad az)) az))))
   (aB (aL (bD (aa (aU) (aa (gj (iY T) hr T.mo T.jj (aa ο (aa ad az))) ar)))))))),?_⟩
  obtain⟨z0,z1,rfl,q⟩:=h;exact Zdd (jQ T).w rfl q
theorem Aj:ι 4 AD.Ge (gm T.uV.g) Ed (pq XQ):=by
 have sc:aO ["world","hands","noted","number","hand"] Ed (aC De):=cI;walk_at "ok"
 ·refine⟨_,(aq (dZ 2 sc.nd (cH az))
   (aq (mj PassesOwn.never rfl (G.DX rfl T.iW (aa ο az)) (Ho rfl (jo (fH (i:=3) sc.nd rfl (Or.inl rfl)) (jo (fH (i:=4) sc.nd rfl (Or.inl rfl)) zf)))
   (aB (cM (jP ie (aK Bw (aK Zcb ψ (pv 3)) (au)) (au)) (aB (mL (xW PySem.F.plainAttrs_list PySem.F.slot_list_extend PySem.F.type_list_extend Hw ad (aa (gj (m8 T) hr T.mo T.mD (aa Θ (aa (aJ (pv 4) rfl) az))) az)))) aZ)))
   (aB (aL ad)))),?_⟩
  obtain⟨z0,z1,rfl,q⟩:=h;exact R1 (jQ T).w q
theorem Znl:ι 4 AD.Zlr (gm T.Zkm.g) ["world"] (cV XQ Zjr):=by
 have sc:aO ["world","sweeper","cell"] ["world"] (aC Ziu):=cI;walk_at "ok"
 ·refine⟨_,(aq (dZ 1 sc.nd ο)
   (aq (dZ 2 sc.nd (eU bF (aJ ο rfl) (xW PySem.F.plainAttrs_list PySem.F.slot_list_pop PySem.F.type_list_pop Zkh (aJ ψ rfl) (aa (au) az))))
   (aq (bR ψ (aK di (aJ ψ rfl) (au)) rfl)
   (aB (aL (bD (aa (aU) (aa (aJ ad rfl) (aa (gj (m8 T) hr T.mo T.mD (aa Θ (aa (aJ ad rfl) az))) az))))))))),?_⟩
  obtain⟨z0,rfl,q⟩:=h;exact Zmq (jQ T).w q
theorem wB:ι 4 AD.fU (gm T.yr.g) ["world"] (cV XQ (Vg "give")):=by
 have sc:aO ["world"] ["world"] (aC xu):=cI;walk_at "ok"
 ·refine⟨_,(aq (cM (jP ye (aJ ο rfl) (aJ ο rfl)) (aB (aL (gj (RQ T) hr T.mo T.Fg (aa Θ az)))) aZ)
   (aB (aL (gj (Zqo T) hr T.mo T.Zpg (aa Θ az))))),?_⟩
  obtain⟨z0,rfl,q⟩:=h;exact KJ (jQ T).w q
theorem Zpe:ι 5 AD.Zuk (gm T.Zr1.g) Zt8 (cP XQ Γ (λ_=>True)):=by
 have sc:aO ["world","deed","act"] Zt8 (aC Zt3):=cI;walk_at "okX"
 ·refine⟨Zj5 K AD.lG AD.lF AD.nH AD.lE AD.lD AD.lC AD.nG AD.lB AD.lA AD.jG (cP XQ Γ Qc) (cP XQ Γ Qa) (cP XQ Γ Zaj) (cP XQ Γ PX) (cP XQ Γ Py) (cP XQ Γ isName) (cP XQ Γ Zah) (cP XQ Γ Px) (cP XQ Γ Pu) (cP XQ Γ Fz) E,(aq (dZ 2 sc.nd (G.Zji T.Um rfl Ω (λ_ _=>rfl)))
   (aB (aL (G.ZJ (k:=4) (G.Ro.cons ε (Oe T).g (Oe (P:=P) (base:=base) T).b (BK T.Vv.g).kp (G.Ro.cons ε (Vk T).g (Vk (P:=P) (base:=base) T).b (BK T.Za2.g).kp (G.Ro.cons ε (Vj T).g (Vj (P:=P) (base:=base) T).b (BK T.Za1.g).kp (G.Ro.cons ε (Oi T).g (Oi (P:=P) (base:=base) T).b (BK T.Vy.g).kp (G.Ro.cons ε (Oh T).g (Oh (P:=P) (base:=base) T).b (BK T.Vx.g).kp (G.Ro.cons ε (Og T).g (Og (P:=P) (base:=base) T).b (BK T.Vw.g).kp (G.Ro.cons ε (JD T).g (JD (P:=P) (base:=base) T).b (BK T.O9.g).kp (G.Ro.cons ε (Oc T).g (Oc (P:=P) (base:=base) T).b (BK T.Vt.g).kp (G.Ro.cons ε (Od T).g (Od (P:=P) (base:=base) T).b (BK T.Vu.g).kp (G.Ro.cons ε (Ob T).g (Ob (P:=P) (base:=base) T).b (BK T.Vs.g).kp G.Ro.nil)))))))))) ae rfl (Or.inl rfl) G.Ea (aa Θ (aa ψ az)))))),?_⟩
  obtain⟨z0,z1,rfl,q⟩:=h;exact Zuo (jQ T).w q
theorem ZR:ι 5 AD.Qo (gm T.O6.g) ["scene"] (Wo AD.aW XQ):=by
 have sc:aO ["scene"] ["scene"] (aC MK):=cI;walk_at "ok"
 ·refine⟨_,(aB (aL (uK (mkT T.Zb1 T.qY) (qO T).g ae rfl (T.mo T.Zow) (qO (P:=P) (base:=base) T).b .nil G.cZ (aa ο (aa ο (aa ο az)))))),?_⟩;obtain⟨z0,rfl,q⟩:=h;exact Y9 (jQ T) q
theorem wC:ι 5 AD.fV (gm T.yt.g) ["world"] (cV XQ (Vg "rest")):=by
 have sc:aO ["world","noted"] ["world"] (aC xx):=cI;walk_at "ok"
 ·refine⟨_,(aq (mL (gj (Zk4 T) hr T.mo T.Zf0 (aa Θ az)))
   (aq (dZ 1 sc.nd (gj (Aj T) hr T.mo T.uV (aa Θ (aa (aJ ο rfl) az))))
   (aB (aL (bD (aa (aU) (aa (aJ ο rfl) (aa ψ az)))))))),?_⟩
  obtain⟨z0,rfl,q⟩:=h;exact KN (jQ T).w q
theorem RV:ι 5 AD.Gg (gm T.Fl.g) ["world"] (GJ XQ):=by
 have sc:aO ["world","place","way","cell"] ["world"] (aC Dg):=cI;walk_at "ok"
 ·refine⟨_,(aq (mj PassesOwn.never rfl (mO (gj (Zce T) hr T.mo T.Vq (aa ο (aa (gj (Zk2 T) hr T.mo T.Zey (aa Θ az)) az)))) (Ho rfl (jo (fH (i:=1) sc.nd rfl (Or.inl rfl)) (jo (fH (i:=2) sc.nd rfl (Or.inl rfl)) zf)))
   (aq (dZ 3 sc.nd (eU bF (aJ ο rfl) ψ))
   (aB (cM (kj (gA (gj (jL T) hr T.mo T.jE (aa Θ ar)))) (aB (aL (bD (aa (aU) (aa (aJ (pv 3) rfl) (aa (kZ Gx η T.j8 G.boot_list (aa ad az)) az)))))) aZ))))
   (aB (aL (fu)))),?_⟩
  obtain⟨z0,rfl,q⟩:=h;exact Tf (jQ T).w q
theorem Zqr:ι 6 AD.Zpn (gm T.Zph.g) ["world"] (cV XQ Zjv):=by
 have sc:aO ["world","sweeper","loss","births"] ["world"] (aC Zp7):=cI;walk_at "ok"
 ·refine⟨_,(aq (dZ 1 sc.nd ο)
   (aq (bR ψ (bM G.bV η T.fZ G.boot_len (aa (aJ ο rfl) az)) rfl)
   (aq (bR ψ (au) rfl)
   (aq (dZ 2 sc.nd (gj (RV T) hr T.mo T.Fl (aa Θ az)))
   (aq (cM (jP G.El ad (fu)) (aq (bR ψ (aU) rfl)
   (aq (bR ψ ad rfl)
   (aB (aL (gj (Ah T) hr T.mo T.uT (aa ad az)))))) aZ)
   (aq (bR ψ (aU) rfl)
   (aq (dZ 3 sc.nd (gj (Xi T) hr T.mo T.JM (aa ο (aa (gj (ZS T) hr T.mo T.O8 (aa Θ az)) az))))
   (aB (aL (bD (aa (aU) (aa (bM G.bV η T.fZ G.boot_len ar) ar)))))))))))),?_⟩
  obtain⟨z0,rfl,q⟩:=h;exact Zsi (jQ T).w q
theorem RP:ι 6 AD.FW (gm T.Ff.g) Eb (Zfv XQ):=by
 have sc:aO ["world","deed"] Eb (aC CW):=cI;walk_at "ok"
 ·refine⟨rF AD.aY AD.cU AD.bK AD.cu (cP XQ Γ (λ_=>True)) (Iu),(aB (G.Zn8 ⟨rfl,rfl⟩ rfl (T.mo T.Kf) rfl (T.mo T.Wn) rfl (T.mo T.Zmc) rfl (T.mo T.Zb5) (λcls h=>by rcases h with rfl<;>first | exact T.wW) (λcls h=>by rcases h with rfl<;>first | exact⟨T.yp,T.Gv⟩) (λcls h=>by rcases h with rfl<;>first | exact⟨T.Ew,T.K4,T.Zas⟩) (λcls h=>by rcases h with rfl<;>first | exact⟨T.zy,T.Eu,T.OD,T.Le⟩) (λEx pn xe hx=>(aB (aL (G.Zjo (Zpe T).g ae rfl (T.mo T.Zr1.a) (BK T.Zr1.g).kp (Zpe (P:=P) (base:=base) T).b .nil hx (aa Θ (aa ψ az)))))) (λea pn=>(aB (aL (G.DY (uL T) hr (T.mo T.ud.a) (aa (aU) az))))) (λea pn=>(aB (aL (G.DY (uL T) hr (T.mo T.ud.a) (aa (aU) az))))) (λea pn=>(aB (aL (G.DY (uL T) hr (T.mo T.ud.a) (aa (aU) az))))) (λea pn=>(aB (aL (G.DY (uL T) hr (T.mo T.ud.a) (aa (aU) az))))))),?_⟩;obtain⟨z0,z1,rfl,q⟩:=h;exact Rp rfl rfl rfl rfl q
theorem Oa:ι 7 AD.Bh (gm T.Az.g) ["world"] (cV XQ Zju):=by
 have sc:aO ["world","sweeper","looking","hands","noted"] ["world"] (aC zM):=cI;walk_at "ok"
 ·refine⟨_,(aq (dZ 1 sc.nd ο)
   (aq (dZ 2 sc.nd (aJ ο rfl))
   (aq (dZ 3 sc.nd (G.mR (mQ ad T.qg.c T.pW (m9 T).g ae (m9 (P:=P) (base:=base) T).b .nil G.cZ (aa (aJ ψ rfl) (aa av az))) (G.mR (mQ ad T.vd.c T.rz.m (qR T).g ae (qR (P:=P) (base:=base) T).b .nil G.cZ (aa (aJ ψ rfl) (aa av az))) (mQ ad T.u6.c T.qZ.m (qP T).g ae (qP (P:=P) (base:=base) T).b .nil G.cZ (aa (aJ ψ rfl) (aa av az))))))
   (aq (dZ 4 sc.nd (gj (Aj T) hr T.mo T.uV (aa Θ ar)))
   (aq (cM (PW.pt (kO (jP ie (pv 3) (au)) (lZ (kj (PW.pt (kO (gA (G.mR (gU ad T.qg.c T.pU (eE T).g ae (eE (P:=P) (base:=base) T).b .nil G.cZ) (G.mR (gU ad T.vd.c T.rM (eE T).g ae (eE (P:=P) (base:=base) T).b .nil G.cZ) (gU ad T.u6.c T.rK.m (mW T).g ae (mW (P:=P) (base:=base) T).b .nil G.cZ)))) (lZ (Zy (pv 4) (λ_=>rfl))))))))) (aB (aL (gj (Zqr T) hr T.mo T.Zph (aa Θ az)))) aZ)
   (aq (bR ψ (aK di (aJ ψ rfl) (au)) rfl)
   (aq (cM (gA (G.mR (gU ad T.qg.c T.pU (eE T).g ae (eE (P:=P) (base:=base) T).b .nil G.cZ) (G.mR (gU ad T.vd.c T.rM (eE T).g ae (eE (P:=P) (base:=base) T).b .nil G.cZ) (gU ad T.u6.c T.rK.m (mW T).g ae (mW (P:=P) (base:=base) T).b .nil G.cZ)))) (aB (bR ψ (aK Zt9 (aJ ψ rfl) (pv 3)) rfl)) aZ)
   (aB (aL (bD (aa (aU) (aa (pv 3) (aa (pv 4) az))))))))))))),?_⟩
  obtain⟨z0,rfl,q⟩:=h;exact Pj (jQ T).w q
theorem wA:ι 8 AD.fQ (gm T.yq.g) ["world"] (cV XQ (Vg "walk")):=by
 have sc:aO ["world"] ["world"] (aC xr):=cI;walk_at "ok"
 ·refine⟨_,(aq (cM (Zy (aJ ο rfl) (λ_=>rfl)) (aB (aL (gj (Znl T) hr T.mo T.Zkm (aa Θ az)))) aZ)
   (aB (aL (gj (Oa T) hr T.mo T.Az (aa Θ az))))),?_⟩
  obtain⟨z0,rfl,q⟩:=h;exact KH (jQ T).w q
theorem Znm:ι 9 AD.Zls (gm T.Zkn.g) ["world"] (cV XQ Znf):=by
 have sc:aO ["world","act"] ["world"] (aC Ziv):=cI;walk_at "ok"
 ·refine⟨W9 K AD.fV AD.fU AD.fQ AD.eG (cV XQ (Vg "rest")) (cV XQ (Vg "give")) (cV XQ (Vg "walk")) (cV XQ (Vg "lost")),(aq (dZ 1 sc.nd (G.Zji T.Ul rfl (aJ ο rfl) (λ_ _=>rfl)))
   (aB (aL (G.ZJ (k:=8) (G.Ro.cons ε (wC T).g (wC (P:=P) (base:=base) T).b (BK T.yt.g).kp (G.Ro.cons ε (wA T).g (wA (P:=P) (base:=base) T).b (BK T.yq.g).kp (G.Ro.cons ε (wB T).g (wB (P:=P) (base:=base) T).b (BK T.yr.g).kp (G.Ro.cons ε (qN T).g (qN (P:=P) (base:=base) T).b (BK T.uc.g).kp G.Ro.nil)))) ae rfl (Or.inl rfl) G.cZ (aa Θ az))))),?_⟩
  obtain⟨z0,rfl,q⟩:=h;exact Zmu (jQ T).w q
theorem Zk0:ι 10 AD.Zfc (gm T.Zex.g) Zes (Zfw XQ):=by
 have sc:aO ["world","many","events"] Zes (aC Zec):=cI;walk_at "ok"
 ·refine⟨_,(aq (dZ 2 sc.nd (cH az))
   (aq (Zz PassesOwn.never (PW.pt (Bt (jP ye (bM G.bV η T.fZ G.boot_len (aa ad az)) ψ) (uH (kj (gA (gj (Ai T) hr T.mo T.uU (aa ad az))))))) (aB (mL (xW PySem.F.plainAttrs_list PySem.F.slot_list_append PySem.F.type_list_append mC ad (aa (gj (Znm T) hr T.mo T.Zkn (aa Θ az)) az)))))
   (aB (aL ad)))),?_⟩
  obtain⟨z0,z1,rfl,q⟩:=h;exact Zii q
theorem Zjz:ι 11 AD.Zfb (gm T.Zew.g) Zer (Zfu XQ):=by
 have sc:aO ["world","row"] Zer (aC Zeb):=cI;walk_at "ok"
 ·refine⟨_,(aq (cM (jP ie Ω (T.Yr.pe rfl)) (aB (aL (gj (Zk0 T) hr T.mo T.Zex (aa Θ (aa Ω az))))) aZ)
   (aB (aL (cH (aa (gj (RP T) hr T.mo T.Ff (aa Θ (aa ψ az))) az))))),?_⟩
  obtain⟨z0,z1,rfl,q⟩:=h;exact Zi9 q
theorem Zk1:ι 12 AD.Qq BD.Yv Zet (Wq AD.aW XQ):=by
 have sc:aO ["scene","most","world","log","row"] Zet (aC MP):=cI;refine⟨?_,T.Zpt,T.Zf4⟩;have F:=T.Zpw;walk_at "okD"
 ·refine⟨_,(aq (dZ 2 sc.nd (gj (ZR T) hr T.mo T.O6 (aa Θ az)))
   (aq (dZ 3 sc.nd (cH az))
   (aq (mj PassesOwn.never rfl (mO (ZF Ze9 ο Zn9 (G.Zqk ψ))) (fH (i:=4) sc.nd rfl (Or.inl rfl))
   (aq (mL (xW PySem.F.plainAttrs_list PySem.F.slot_list_append PySem.F.type_list_append mC (pv 3) (aa (gj (Zjz T) hr T.mo T.Zew (aa ad (aa (pv 4) az))) az)))
   (aB (cM (gA (gj (Bx T) hr T.mo T.zj ar)) (aB (Zjg)) aZ))))
   (aB (aL (pv 3)))))),?_⟩
  obtain⟨z0,z1,rfl,q⟩:=h;exact Zqb (jQ T) q
theorem Zqn{fl:AI}{fd:AL}(F:Fun K "law" "law" M6 fl fd):Fn5 P w K mg base 13 fl fd ["_law_script"] (Zg0 K):=by
 have sc:aO ["_law_script","_law_way","_law_base","_law_hands","_law_words","_law_room","_law_weave","_law_k","_law_cell","_law_deeds","_law_scene","_law_woven","_law_still"] ["_law_script"] (aC M6):=cI;walk_at "okL"
 ·refine⟨Zc5 K AD.aW (iB AD.aW) (Zdz K) (Iw) (Q8) (yS) (jN) (nJ) (lU) (pD XQ) (zp AD.aW) (Wq AD.aW XQ),(aq (dZ 1 sc.nd (aK cg (aK jB (aK di (gj (j7 T) hr T.mo T.jF (aa Θ (aa (au) az))) (au)) (au)) (au)))
   (aq (dZ 2 sc.nd (aK cg (gj (j7 T) hr T.mo T.jF (aa Θ (aa (au) az))) (aK Bv (au) (au))))
   (aq (dZ 3 sc.nd (gj (Hr T) hr T.mo T.wF (aa ψ (aa ad az))))
   (aq (dZ 4 sc.nd (gj (K3 T) hr T.mo T.yw (aa (gj (j7 T) hr T.mo T.jF (aa Θ (aa (au) az))) az)))
   (aq (dZ 5 sc.nd (aK di (au) (aK cg (aK cT (gj (j7 T) hr T.mo T.jF (aa Θ (aa (au) az))) (au)) (aK pP (aK Bv (au) (au)) (au)))))
   (aq (cM (jP ZP (aK cg (aK cT ψ (au)) (au)) (au)) (aB (dZ 5 sc.nd (eU bF (cH (aa (au) (aa (au) (aa (aK Bv (au) (au)) az)))) (aK pP (aK cg (aK cT ψ (au)) (au)) (au))))) aZ)
   (aq (dZ 6 sc.nd (cH az))
   (aq (mj PassesOwn.never rfl (G.DX rfl T.iW (aa (ZF Ze9 Θ (Zep (au)) (Zep (au))) az)) (Ho rfl (jo (fH (i:=7) sc.nd rfl (Or.inl rfl)) (jo (fH (i:=8) sc.nd rfl (Or.inl rfl)) zf)))
   (aB (dZ 6 sc.nd (aK pQ (pv 6) (gj (K1 T) hr T.mo T.yu (aa (pv 8) (aa (pv 7) (aa (pv 3) (aa ad az)))))))))
   (aq (G.ZC (iz:=9) (cns:=[]) [] (mO (pv 6)) (λ_ _ _ _ _=>(G.NK (jP wj (eU bH Θ (au)) (aU)))) (λ_ _ _ _ _=>Θ) rfl rfl af (by repeat (first | exact trivial | refine⟨rfl,?_⟩)) rfl γ rfl γ γ rfl γ sc.nd rfl (Or.inl rfl) (Or.inr rfl) rfl)
   (aq (dZ 10 sc.nd (uK (mkT T.QF T.lN) (ju T).g ae rfl (T.mo T.Zfs) (ju (P:=P) (base:=base) T).b .nil G.cZ (aa (pv 5) (aa (gj (Zcf T) hr T.mo T.Vr (aa (pv 4) az)) (aa (kZ G.mG η T.j8 G.boot_list ar) (aa (kZ G.mG η T.j8 G.boot_list (aa (pv 6) az)) az))))))
   (aq (dZ 11 sc.nd (mU (Zk1 T).g ae rfl T.Zko T.Zf4 T.QG T.Qj G.cZ (aa (pv 10) az)))
   (aq (dZ 12 sc.nd (mU (Zk1 T).g ae rfl T.Zko T.Zf4 T.QG T.Qj G.cZ (aa (gj (Zk3 T) hr T.mo T.Zez (aa (pv 10) az)) az)))
   (aq (cM (PW.pt (kO (kj (gA (bM G.lQ η T.dR G.boot_isinstance (aa (pv 11) (aa (o5 rfl T.j8 G.boot_list rfl) az))))) (kO (kj (gA (bM G.lQ η T.dR G.boot_isinstance (aa (pv 12) (aa (o5 rfl T.j8 G.boot_list rfl) az))))) (lZ (jP wj (bM G.bV η T.fZ G.boot_len (aa (pv 12) az)) (bM G.bV η T.fZ G.boot_len (aa (pv 9) az))))))) (aB (aL (oJ))) aZ)
   (aq (cM (PW.pt (kO (jP ZP (bM G.bV η T.fZ G.boot_len (aa (pv 11) az)) (bM G.bV η T.fZ G.boot_len (aa (pv 6) az))) (kO (jP (G.Zjy hr.units) (aJ (pv 10) rfl) (pv 6)) (lZ (jP (G.Zjy hr.units) (aJ (pv 10) rfl) (pv 3)))))) (aB (aL (oJ))) aZ)
   (aq (cM (PW.pt (Bt (jP ye (bM G.bV η T.fZ G.boot_len (aa (pv 11) az)) (bM G.bV η T.fZ G.boot_len (aa (pv 6) az))) (uH (kj (gA (gj (Bx T) hr T.mo T.zj (aa (pv 11) az))))))) (aB (aL (oJ))) aZ)
   (aq (cM (PW.pt (Bt (gA (gj (RX T) hr T.mo T.Fq (aa (pv 4) az))) (uH (gA (gj (Bx T) hr T.mo T.zj (aa (pv 11) az)))))) (aB (aL (oJ))) aZ)
   (aB (aL (gj (yh T) hr T.mo T.oW (aa (pv 6) (aa (pv 11) (aa (pv 12) az)))))))))))))))))))))),?_⟩
  obtain⟨z0,rfl,q⟩:=h;exact Zr5 (jQ T) q
end
theorem all_mk{l:W.OpenLaw}{w:AO}{K:aD}{h:Heap}{mg:As}{fa fl:AI}{XQ:Cs}{AD:Ad}(a:K.In h)(b:h.Ns mainGlobals mg)(hfa:mg "law"=↑fa)(t1:Tx1 K XQ AD)
  {od5 A to5 Zvf Q Zv6 Zve U:Option AI}
  {sl5 ts5 Zvc Zv5 Zvb:Array AB}
  {oc5 u q D c R tc5 M o Zvh I B p f t Zv8 V Zvg z O S g x n y P:AJ}
  {d j Qx Qw:AI}
  {tn5 Zv7 r J:Nat}
  {V7 V6 V5 V4 V3 V2 V1 V0 VR VP VN VM VL VJ:Int}
  {Uk Uj Ui Uh Ug Ue Ud Uc Ub Ua T9 T7 TY TX:Tok}
  (a5:Fi K XQ.H "make" AD.jf)
  (i5:W.isFn K (.ref AD.jf)=true)
  (l5:Lk K AD.jf "make" "Heap.make" jA (.ref d) oc5 od5 u q D A c R sl5)
  (t5:K.lookup d=some ⟨tc5,to5,.seq #[M,o] tn5,ts5⟩)
  (Zyy:RelV (.int 0) M)
  (Zyx:RelV (.int 0) o)
  (c5:Ci K c "Heap.make")
  (k5:Ki K AD.jf)
  (a81:Ns K "run" AD.Qq)
  (i:Lk K AD.Qq "run" "run" MP (.ref j) Zvh Zvf I B p Q f t Zvc)
  (k:K.lookup j=some ⟨Zv8,Zv6,.seq #[V] Zv7,Zv5⟩)
  (Zsg:RelV .non V)
  (c81:Ci K f "run")
  (N:Ki K AD.Qq)
  (a98:Ns K "law" fl)
  (l98:Lk K fl "law" "law" M6 .none Zvg Zve z O S U g x Zvb)
  (c98:Ci K g "law")
  (k98:Ki K fl)
  (Zkg:Ns K "DEEDS" Qx)
  (Zkv:K.lookup Qx=some ⟨.type "dict",none,.dict #[⟨V7,.str "make" Uk,.ref AD.lD⟩,⟨V6,.str "get" Uj,.ref AD.nH⟩,⟨V5,.str "put" Ui,.ref AD.nG⟩,⟨V4,.str "copy" Uh,.ref AD.lG⟩,⟨V3,.str "drop" Ug,.ref AD.lF⟩,⟨V2,.str "give" Ue,.ref AD.lE⟩,⟨V1,.str "write" Ud,.ref AD.jG⟩,⟨V0,.str "read" Uc,.ref AD.lB⟩,⟨VR,.str "name" Ub,.ref AD.lC⟩,⟨VP,.str "seek" Ua,.ref AD.lA⟩] r,#[]⟩)
  (Zhk:V7=hashStr w "make")
  (Zhj:V6=hashStr w "get")
  (Zhi:V5=hashStr w "put")
  (Zhh:V4=hashStr w "copy")
  (Zhg:V3=hashStr w "drop")
  (Zhf:V2=hashStr w "give")
  (Zhe:V1=hashStr w "write")
  (Zhd:V0=hashStr w "read")
  (Y:VR=hashStr w "name")
  (Zhb:VP=hashStr w "seek")
  (Zkf:Ns K "STEPS" Qw)
  (Zku:K.lookup Qw=some ⟨.type "dict",none,.dict #[⟨VN,.str "rest" T9,.ref AD.fV⟩,⟨VM,.str "walk" T7,.ref AD.fQ⟩,⟨VL,.str "give" TY,.ref AD.fU⟩,⟨VJ,.str "lost" TX,.ref AD.eG⟩] J,#[]⟩)
  (Zha:VN=hashStr w "rest")
  (Zh9:VM=hashStr w "walk")
  (X:VL=hashStr w "give")
  (Zh7:VJ=hashStr w "lost")
  (Zlz:W.findIn K (.ref XQ.C) "__eq__"=some (some (.builtin "object.__eq__")))
  (Zly:W.mroIn K XQ.C (.type "object")=some true)
  (HX:Fi K XQ.E "at_begin" AD.fM)
  (S7:Fi K XQ.E "stays" AD.ir)
  (BJ:Fi K XQ.F "next_look" AD.iM)
  (Qe:Fi K XQ.F "stays" AD.ir)
  (HW:Fi K XQ.L "at_begin" AD.fM)
  (Wx:W.nsIn K mainGlobals "bool"=some none)
  (iW:W.nsIn K mainGlobals "enumerate"=some none)
  (Ze2:W.nsIn K mainGlobals "int"=some none)
  (dR:W.nsIn K mainGlobals "isinstance"=some none)
  (fZ:W.nsIn K mainGlobals "len"=some none)
  (j8:W.nsIn K mainGlobals "list"=some none)
  (oY:W.nsIn K mainGlobals "range"=some none)
  (Y7:W.nsIn K mainGlobals "str"=some none)
  (Lp:W.nsIn K mainGlobals "tuple"=some none)
  (Zs8:W.nsIn K mainGlobals "NEW"=some (some n))
  (Zs6:RelV (.int 2) n)
  (Z:W.nsIn K mainGlobals "OLD"=some (some y))
  (Zs5:RelV (.int 1) y)
  (Zlj:W.nsIn K mainGlobals "SWEEP"=some (some P))
  (Zlg:RelV (.str "sweep") P)
  :∃fd:AL,(∀(s:AK) (v:AJ),BindsTo s fd ⟨[v],[]⟩ [("_law_script",v)])/\∀base:Heap,K.In base->base.Ns mainGlobals mg->qj l.prog w K mg base (G.Cp l.prog w) 13 fa fd ["_law_script"] (Zg0 K):=by
 have e:=hfa.symm.trans (W.mg_of a b a98);cases e;have mo:∀{s:Str}{v:AJ},W.nsIn K mainGlobals s=some (some v)->mg s=some v:=λh=>W.mg_of a b h;have F5:=G.Zf8 (st:=jA) l5 c5 k5;have b5:=G.Zdr (ps:=["self","many","bulk","tone"]) (ds:=[]) l5 t5 λus hl=>by obtain⟨_,_,rfl,l1⟩:=cn1 (n:=3) hl;obtain⟨_,_,rfl,l2⟩:=cn1 (n:=2) l1;obtain⟨_,_,rfl,l3⟩:=cn1 (n:=1) l2;obtain⟨_,_,rfl,l4⟩:=cn1 (n:=0) l3;cases List.eq_nil_of_length_eq_zero l4;exact ⟨_,rfl,rfl⟩
 have F81:=G.Zf8 (st:=MP) i c81 N;have b81:=G.Zdr (ps:=["scene","most"]) (ds:=[]) i k λus hl=>by obtain⟨_,_,rfl,l1⟩:=cn1 (n:=1) hl;obtain⟨_,_,rfl,l2⟩:=cn1 (n:=0) l1;cases List.eq_nil_of_length_eq_zero l2;exact ⟨_,rfl,rfl⟩
 have Zso:=G.Zdr (ps:=["scene","most"]) (ds:=[V]) i k λus hl=>by obtain⟨_,_,rfl,l1⟩:=cn1 (n:=0) (Nat.add_right_cancel (m:=1) hl);cases List.eq_nil_of_length_eq_zero l1;exact ⟨_,rfl,rfl⟩
 let Q2:Bd:=⟨(),W.fnOf "make" "Heap.make" (iQ jA) (fJ jA) (aC jA) (.ref d) u q D A c R,W.fnOf "run" "run" (iQ MP) (fJ MP) (aC MP) (.ref j) I B p Q f t,[V]⟩
 have T:Txt w K mg XQ AD Q2:={ t1 with
  mo:=mo
  Um:=⟨Qx,_,_,r,W.mg_of a b Zkg,Zkv,⟨rfl,rfl,rfl⟩,rfl,Zhk,⟨Uk,rfl⟩,rfl,Zhj,⟨Uj,rfl⟩,rfl,Zhi,⟨Ui,rfl⟩,rfl,Zhh,⟨Uh,rfl⟩,rfl,Zhg,⟨Ug,rfl⟩,rfl,Zhf,⟨Ue,rfl⟩,rfl,Zhe,⟨Ud,rfl⟩,rfl,Zhd,⟨Uc,rfl⟩,rfl,Y,⟨Ub,rfl⟩,rfl,Zhb,⟨Ua,rfl⟩,rfl,trivial⟩
  Ul:=⟨Qw,_,_,J,W.mg_of a b Zkf,Zku,⟨rfl,rfl,rfl⟩,rfl,Zha,⟨T9,rfl⟩,rfl,Zh9,⟨T7,rfl⟩,rfl,X,⟨TY,rfl⟩,rfl,Zh7,⟨TX,rfl⟩,rfl,trivial⟩
  LQ:=⟨Zlz,Zly⟩
  t7:=⟨HX,t1.gB.m.fn,t1.gB.m.kp⟩
  rM:=⟨S7,t1.iU.m.fn,t1.iU.m.kp⟩
  pW:=⟨BJ,t1.jD.m.fn,t1.jD.m.kp⟩
  pU:=⟨Qe,t1.iU.m.fn,t1.iU.m.kp⟩
  tW:=⟨HW,t1.gB.m.fn,t1.gB.m.kp⟩
  Ez:=⟨a5,i5,k5⟩
  Zko:=mo a81
  Wx:=W.mg_none_of a b Wx
  iW:=W.mg_none_of a b iW
  Ze2:=W.mg_none_of a b Ze2
  dR:=W.mg_none_of a b dR
  fZ:=W.mg_none_of a b fZ
  j8:=W.mg_none_of a b j8
  oY:=W.mg_none_of a b oY
  Y7:=W.mg_none_of a b Y7
  Lp:=W.mg_none_of a b Lp
  Zlm:=⟨_,W.mg_of a b Zs8,Zs6⟩
  Zll:=⟨_,W.mg_of a b Z,Zs5⟩
  Yr:=⟨_,W.mg_of a b Zlj,Zlg⟩
  Ku:=F5
  yH:=b5
  JT:=k5
  Zpw:=F81
  Zpt:=b81
  Zf4:=N
  QG:=Zso
  Qj:=(.cons Zsg .nil)
 }
 exact⟨W.fnOf "law" "law" (iQ M6) (fJ M6) (aC M6) .none z O S U g x,λs v=>.of_eq rfl,λbase _ _=>Zqn T (Zln (st:=M6) l98 c98 k98)⟩
theorem walk{l:W.OpenLaw}{q:AM}{b:AH}{i:(As)->Heap->Prop}{e:AO->Heap->Prop}{d:DefRec}{K:Params->aD}(hn:l.most=some 63)(c:d.params.defaults=[])
  (g:∀(w:AO) (h:Heap),e w h->(K w.params).In h)
  (F:∀(w:AO) (mg:As) (fa:AI) (h:Heap),(K w.params).In h->h.Ns mainGlobals mg->mg d.name=↑fa->
   ∃fd:AL,(∀(s:AK) (u:AJ),BindsTo s fd ⟨[u],[]⟩ [("_law_script",u)])/\∀base:Heap,(K w.params).In base->base.Ns mainGlobals mg->qj l.prog w (K w.params) mg base (G.Cp l.prog w) 13 fa fd ["_law_script"] (Zg0 (K w.params))):
  W.WalkO q b i e l.row.toRowW d [] (λf vs=>PySem.call f vs):=
 L2.Zmr (n:=63) (k:=13) (x:="_law_script") (CX:=λw=>G.Cp l.prog w) (sp:=λw=>Zg0 (K w.params)) hn ε c ⟨rfl,ε,ε⟩ g F (λ_ _ a ns hl _ j=>⟨a,rfl,ns,j,hl,λ_=>rfl⟩) λ_ _ _ _ _ z=>by
  obtain⟨_,_,_,_,_,_,_,_,_,_,_,_,z⟩:=z;exact z
end Tz
structure PySem.W.Fast:Prop where(tw5386909538706649344 tw615109749243545088 tw3531213809032522656 tw15256544537204407681 tw12399997649073854786 tw4857725686225496451 tw15007486841372449445 tw5777891052323158312 tw8055214579311859304 tw15085423940817119401 tw11678619600016157577 tw8049012877754843786 tw7046796835504726699 tw3848047280137782510 tw7486930924641795375 tw13932621551792849264 tw13668222214173476337 tw5427040784726743826 tw11977452908806708787 tw16265356070885210675 tw2195808607476185493 tw16613042862519324758 tw5794786650301688438 tw10219241200711362201 tw8208203059067300762 tw2023631335052672318 tw5490564268003377982 tw3217262184782276574 tw12424737328596032463 tw3482970521795717212 tw13860391457427870429 tw5873125836880343071 tw11672409849029642825 tw16749668288269321134 tw16598046975200864781 tw1762100911276629546 tw15770169818404601941 tw1215045169491967293 tw1692633499749876506 tw10148573223050096028 tw2952132610102050816 tw10049260559604357515 tw10327875452266023709 tw16800819069163521767 tw1458499612047675560 tw4230949110491196401 tw15563936005642732232 tw10589385453676458520 tw11543303550076062238 tw14464414662985427105 tw4902316711271367443 tw9942946992341104618 tw8978420666376475364 tw9226699611768933143 tw3797931439794157558 tw5160302101752975753 tw1148945114767395281 tw17077565224102156463 tw17636381991782242177 tw6900454688858263668 tw17156292800092618170 tw4532922655068083065 tw13291982584920561811 tw18107227048942102902 tw13653794745805546630 tw2932723271675836715 tw5093844513341761587 tw2109526594312579334 tw4523385698819013654 tw5774607815814328734 tw15350465134811614990 tw9460383616942234869 tw10103818320009401119 tw17309287748838445889 tw16140712101744951938 tw8088179237434652588 tw5337175835933983490 tw13000731514755629001 tw2694373234004866861 tw2091921199745045417 tw13090687947860684374 tw854460844469125912 tw17249328499749887552 tw13281855742573358192 tw2830227154929562314 tw3164133160263866228 tw2404785971388386445 tw2448762362337362069 tw3514557754474980153 tw11308524865745133658 tw18098524041966902318 tw15755800623873275325 tw7665851503124594217 tw9700386680201891034 tw553946579391651332 tw14553679028694184113 tw12702429672224712978 tw8189313149059747492 tw12383708270649752869 tw901156362309618034 tw1556468520755875361 tw9062711616020592585 tw1608034907569470632 tw9898775728146294531 tw5599174202222588684 tw8485481228959779689 tw12638952177756570124 tw7175747823926062138 tw12405678085665726252 tw224822037183950289 tw1570332120566763625 tw4901515120862448749 tw13096515601876350059 tw2615741065787060637 tw17077856403421935780 tw3743570542014437032 tw17119696460126872881 tw6148019158717319869 tw9432954701755153019 tw10566828248476804056 tw7028688499163200241 tw12115858941965776108 tw9043345214321411340 tw275511199862625771 tw11006923412136960720 tw10684946673483270195 tw10156461983842774424 tw17283746804374069831 tw2681555774543653206 tw13621788782574006874 tw6545970103237811730 tw17074634337611562381 tw13647411123431135501 tw1547988098469386328 tw17934906801448818752 tw486346535645757196 tw14497886939695685956 tw11387477331349844064 tw15237256190058737289 tw18013887297501497836 tw929115780163714561 tw9183400352253577229 tw15357765864124029072 tw16881739053540532545 tw6768095635837054701 tw9322126485455498325 tw13446440304314028920 tw4088681052097124124 tw3372188643213449950 tw12796637435887128501 tw2359370432615535949 tw15534729124741502636 tw603390887059750185 tw14930432713551750529 tw11738670380290285824 tw15300914603424065682 tw5587353163436539586 tw17773520862179395869 tw2601010114048832169 tw7012471113277731099 tw11725357469922709278 tw9577461707841145722 tw4608285047994788808 tw9572646561992973809 tw1439329588185393155 tw9940660164499679735 tw7995279396593932593 tw13407798373824463305 tw10909063450939377685 tw12169959791604741844 tw1462949001605718547 tw12400629055768767263 tw1104770047018888693 tw1194259665138640304 tw2218265475096618190 tw4421461416924643913 tw5037305161166619988 tw15926880253275355096 tw6598320553190813281 tw2455854820843502509 tw2244265009988287338 tw4139968077536966726 tw13069055074791620626 tw14498324743757562444 tw5292471934109353171 tw14839044922875372194 tw10140827935480538798 tw10293187517280721010 tw14981219184510633785 tw2316571176404330936 tw1739918279940017577 tw16511646005784131364 tw9664473513392896491 tw7652269136107729351 tw8288615848920643786 tw16022568920382709969 tw8336180652026502370 tw11945010661226671551 tw9733024260439942060 tw2754777991775267718 tw6718687087465263256 tw5732374299175193130 tw1080515509654112610 tw13961708435061903499 tw8988947163909254947 tw6643774176162863452 tw3202957855009251385 tw17321396313188970023 tw7589892433100337534 tw9811805597063858565 tw13416812433170000785 tw9639959634402104893 tw8706837233564154586 tw13018328932765011736 tw6220128436954270183 tw1137878413971176216 tw7525700621014046136 tw10889709199511449628 tw8022546623038889583 tw11424417504300513186 tw4598509080622607733 tw12247095757943928834 tw1835871730753614173 tw990123835257536954 tw14068918193706272980 tw11894220608304659923 tw13139264184394676743 tw10212526941013251116 tw12490604267180726828 tw14435492870884514375 tw17604417041620572268 tw262469070934284647 tw7705655502554847664 tw10139887697054441673 tw909182786055415501 tw5983245910739575872 tw10105493045043761363 tw18379654338485139844 tw8995427840697261471 tw13224401698518917482 tw10623045644326011114 tw10342858760295342685 tw17918467116865514727 tw18190148957995857871 tw1995808313016206120 tw15840331381859394994 tw3387228392267468716 tw18348682591712183062 tw15456888703130996275 tw14946709886606771945 tw14117625928780751310 tw14307461188193281328 tw4835031578935256122 tw17558318780391318679 tw11487716037508042516 tw5012979488330271401 tw8234598421260136764 tw13180933614327005866 tw14279199423209673047 tw8408735523348945387 tw6830260987394428817 tw11552279096583121080 tw740446223812445490 tw6352782119429388127 tw4475890959159565144 tw4717168638036195363 tw6430562158949081285 tw17075706445026370542 tw10726371909040498303 tw263070753169842322 tw9393385387395803199 tw2247201762639966127 tw10034776954502267654 tw1793242623746803251 tw665127070866734390 tw15807921359208822015 tw7349370686539269465 tw14631701150825307657 tw6303361420658151154 tw8371545698988768990 tw7377807609862619064 tw473228250229112842 tw16819206560573308631 tw13271353260872505339 tw11877344219987225602 tw17614850556406198362 tw6786711410107196339 tw17445066473368586021 tw7256778911741353599 tw717241287528832437 tw7301621448806732366 tw12413141684292316969 tw12109900975244506479 tw14652685618949614111 tw5088667511920711896 tw13801893136671812094 tw13130623265063326116 tw17140968149310901694 tw14069871939884435161 tw7795773180507469120 tw10093714738357323390 tw12735451906805843051 tw14198073510463086667 tw12736176448476275583 tw16246398887122359789 tw13571097023088936574 tw9523137443957364164 tw16595601323640560843 tw16011921326177785600 tw12189917520123478663 tw12350595680873875398 tw1966362068232774851 tw17628464556162487790 tw11337941325014062950 tw5483338104290285826 tw11468386293417093418 tw10162327485985522441 tw13076707071496886835 tw3221511682770665365 tw16660768349009488243 tw14295183783360290532 tw6710371151898184875 tw11885238972621375913 tw2525658624654920671 tw13305072376086245383 tw14776171836504023240 tw6523936208124706625 tw9327759139503178110 tw17680914753455122175 tw17990566106722006206 tw90582572307605552 tw14551524937746979279 tw17283161518508538312 tw4355719502970233906 tw11063549881229972743 tw17790626083095575150 tw17847960254525421775 tw17287941327250980033 tw5210922648700385927 tw17265862574125835991 tw8903048613585824049 tw1966383164130732319 tw735533602998143879 tw9602411315113159792 tw1598022647971161047 tw4299722881990346669 tw16944256703693359506 tw4947799262360144883 tw11616852814147976390 tw12987710691663097341 tw17651178363967357789 tw16212358965812714819 tw18264995127325967818 tw929027695286999702 tw16242385799932624281 tw15451579610304631440 tw1589525002116293487 tw10160259562970710261 tw17421797436849854637 tw8644942311575325849 tw14941065221411979563 tw8033997345819019099 tw17115984059974061469 tw1486224362371796752 tw6712571951057470472 tw4307277129999509086 tw16148122450966335071 tw6706462298373401175 tw5815068163010591480 tw5906406278783936501 tw17957438898151934479 tw15141263784881516124 tw5773556911841051633 tw4005194446945381444 tw15562142247367384838 tw6025746157455191501 tw4538190770704665975 tw16899397833344584214 tw691830361051103413 tw16429044072539026328 tw7230835795361134421 tw18308026625790806099 tw12777303543524720016 tw6920373560269389067 tw1830045195443435495 tw3531683798601533556 tw3053731162285598021 tw7676271846235332243 tw4278787365617267502 tw12766653565156742560 tw14591370033076454633 tw1741802865244721201 tw2664609349235544991 tw2594363066371728415 tw10071417390099643434 tw13995875882789982015 tw16245016251958087011 tw16325109038318527414 tw10625152318321092762 tw6192179449585166798 tw5374971423996790530 tw14532744501754195957 tw16287810740621777901 tw17549470148325622184 tw10530254108112262719 tw7869469247710046365 tw15065738673673738036 tw4843761892547816127 tw1344789938889365076 tw7980709643312870462 tw2043121626985667110 tw6893174297049847864 tw11835715158105740266 tw14858673902880731090 tw17445830194969636432 tw1940588780343193258 tw17739623211264325450 tw1826018664396543671 tw11575106358144208061 tw8165794145367174149 tw8070759163962754048 tw9687894404475999649 tw16958146544823059130 tw9177311655831473463 tw1133070952932509129 tw8565077929959946946 tw16065683016246504984 tw387591966384952524 tw1213289132375397092 tw14341267709253460418 tw11884907196777465262 tw4465137556561311558 tw18068757063800664850 tw5104083147910803103 tw5155379683946022550 tw1521301975982599703 tw6576359835246134073 tw16977831607781293987 tw11492689277514773849 tw18073755652584506624 tw16616249152745864426 tw16438678907853393817 tw18061496736957462452 tw8400225565792808026 tw7641693182942351537 tw253373093046783531 tw14406322015521184752 tw1267687615891812152 tw4658100802581943302 tw12419643269923468432 tw9232795630219085552 tw10819061671292262926 tw2863130791492225005 tw5550481893308304824 tw11366937986591056522 tw2483140090396518084 tw8424557954708103541 tw5013298063275801032 tw7666794932024385409 tw5568067618063717688 tw5595399411691486983 tw13468963009027213547 tw13584112918413096338 tw3271368225468345355 tw12184337624439066866 tw10237082953383144758 tw1525063168393066180 tw12380481260515126478 tw8859224293570360161 tw14988992283697376837 tw17331244404462900395 tw7788069224679544771 tw2694806038635015312 tw11437444761369635498 tw8398729247433831955 tw6237153596378645271 tw1487111937679213439 tw3617240836281544806 tw1929039608807120928 tw15221088211342853166 tw5716091284754490715 tw153180715775806055 tw14991915376778117838 tw5602261110828776715 tw1116593824011823679 tw16828050790645220526 tw8506045301522656092 tw10890915049038772443 tw1479978139458303010 tw2844971508923792447 tw7591546663632285976 tw4587487521097282946 tw15493006234347131484 tw9880054347667541188 tw6756464692411487072 tw4193390660824253837 tw4089874040329503637 tw7015077029765722602:True)
open PySem PySem.W PyProof.Rows
def Tz.all_mk2{l w K h mg fa fl x0 x1 x2 x3 x4 x5 x6 x7 x8 x9 xa xb xc xd xe xf xg xh xi xj xk xl xm xn xo xp xq xr xs xt xu xv xw xx xy xz y0 y1 y2 y3 y4 y5 y6 y7 y8 y9 ya yb yc yd ye yf yg yh yi yj yk yl ym yn yo yp yq yr ys yt yu yv yw yx yy yz z0 z1 z2 z3 z4 z5 z6 z7 z8 z9 za zb zc zd ze zf zg zh zi zj zk zl zm zn zo zp zq zr zs zt zu zv zw zx zy zz u0 u1 u2}:=@Tz.all_mk l w K h mg fa fl ⟨x0,x1,x2,x3,x4,x5,x6,x7,x8⟩ ⟨x9,xa,xb,xc,xd,xe,xf,xg,xh,xi,xj,xk,xl,xm,xn,xo,xp,xq,xr,xs,xt,xu,xv,xw,xx,xy,xz,y0,y1,y2,y3,y4,y5,y6,y7,y8,y9,ya,yb,yc,yd,ye,yf,yg,yh,yi,yj,yk,yl,ym,yn,yo,yp,yq,yr,ys,yt,yu,yv,yw,yx,yy,yz,z0,z1,z2,z3,z4,z5,z6,z7,z8,z9,za,zb,zc,zd,ze,zf,zg,zh,zi,zj,zk,zl,zm,zn,zo,zp,zq,zr,zs,zt,zu,zv,zw,zx,zy,zz,u0,u1,u2⟩
set_option maxRecDepth 100000 in
set_option maxHeartbeats 0 in
theorem PySem.Challenge.cw_greywalk_k48_whole_sweeps_unseen_holds : PySem.Challenge.rw_greywalk_k48_whole_sweeps_unseen.Holds := by
 w_on;o_law;k_head;(case hw=>w_witness2)
 k_fill
 refine Tz.walk (l:=PySem.Challenge.rw_greywalk_k48_whole_sweeps_unseen) rfl rfl (fun w h Y=>PySem.W.kIn_of Y) ?F
 case F=>
  intro w mg fa h KX G hmg
  refine' Tz.all_mk2 KX G hmg ⟨?d0,?d1,?d2,?d3,?d4,?d5,?d6,?d7,?d8,?d9,?d10,?d11,?d12,?d13,?d14,?d15,?d16,?d17,?d18,?d19,?d20,?d21,?d22,?d23,?d24,?d25,?d26,?d27,?d28,?d29,?d30,?d31,?d32,?d33,?d34,?d35,?d36,?d37,?d38,?d39,?d40,?d41,?d42,?d43,?d44,?d45,?d46,?d47,?d48,?d49,?d50,?d51,?d52,?d53,?d54,?d55,?d56,?d57,?d58,?d59,?d60,?d61,?d62,?d63,?d64,?d65,?d66,?d67,?d68,?d69,?d70,?d71,?d72,?d73,?d74,?d75,?d76,?d77,?d78,?d79,?d80,?d81,?d82,?d83,?d84,?d85,?d86,?d87,?d88,?d89,?d90,?d91,?d92,?d93,?d94,?d95,?d96,?d97,?d98,?d99,?Zyp,?Zyo,?Zyn,?Zym,?Zyl,?Zyk,?Zyj,?Zyi,?Zyh,?Zyg,?Zyf,?Zye,?Zyd,?Zyc,?Zyb,?Zya,?Zy9,?Zy8,?Zy7,?Zy6,?Zy5,?Zy4,?Zy3,?Zy2,?Zy1,?Zy0,?Zxz,?Zxy,?Zxx,?Zxw,?Zxv,?Zxu,?Zxt,?Zxs,?Zxr,?Zxq,?Zxp,?Zxo,?Zxn,?Zxm,?Zxl,?Zxk,?Zxj,?Zxi,?Zxh,?Zxg,?Zxf,?Zxe,?Zxd,?Zxc,?Zxb,?Zxa,?Zx9,?Zx8,?Zx7,?Zx6,?Zx5,?Zx4,?Zx3,?Zx2,?Zx1,?Zx0,?Zwz,?Zwy,?Zwx,?Zww,?Zwv,?Zwu,?Zwt⟩ ?h0 ?h1 ?h2 ?h3 ?h4 ?h5 ?h6 ?h7 ?h8 ?h9 ?h10 ?h11 ?h12 ?h13 ?h14 ?h15 ?h16 ?h17 ?h18 ?h19 ?h20 ?h21 ?h22 ?h23 ?h24 ?h25 ?h26 ?h27 ?h28 ?h29 ?h30 ?h31 ?h32 ?h33 ?h34 ?h35 ?h36 ?h37 ?h38 ?h39 ?h40 ?h41 ?h42 ?h43 ?h44 ?h45 ?h46 ?h47 ?h48 ?h49 ?h50 ?h51 ?h52 ?h53 ?h54 ?h55 ?h56 ?h57
  case d0 | d1 | d2 | d3 | d4 | d5 | d6 | d7 | d8 | d9 | d10 | d11 | d12 | d13=>(show _=_;(try dsimp only)<;>k_is)
  case d14 | d15 | d16 | d17 | d18 | d19 | d20 | d21=>(refine' Tz.mtm ?a ?i ?l ?c ?k;case a | i | l | c | k=>(show _=_;(try dsimp only)<;>k_is))
  case d22 | d23 | d24=>(refine' Tz.fam ?a ?l ?c ?k;case a | l | c | k=>(show _=_;(try dsimp only)<;>k_is))
  case d25 | d26 | d27 | d28 | d29 | d30 | d31 | d32 | d33 | d34 | d35 | d36=>(refine' Tz.mtm ?a ?i ?l ?c ?k;case a | i | l | c | k=>(show _=_;(try dsimp only)<;>k_is))
  case d37=>(refine' Tz.fam ?a ?l ?c ?k;case a | l | c | k=>(show _=_;(try dsimp only)<;>k_is))
  case d38 | d39 | d40=>(refine' Tz.mtm ?a ?i ?l ?c ?k;case a | i | l | c | k=>(show _=_;(try dsimp only)<;>k_is))
  case d41 | d42 | d43 | d44 | d45 | d46 | d47 | d48 | d49 | d50 | d51 | d52 | d53 | d54 | d55 | d56 | d57 | d58 | d59 | d60 | d61 | d62 | d63 | d64 | d65 | d66 | d67 | d68=>(refine' Tz.fam ?a ?l ?c ?k;case a | l | c | k=>(show _=_;(try dsimp only)<;>k_is))
  case d69=>(refine' Tz.mtm ?a ?i ?l ?c ?k;case a | i | l | c | k=>(show _=_;(try dsimp only)<;>k_is))
  case d70 | d71 | d72 | d73 | d74 | d75 | d76 | d77 | d78 | d79 | d80 | d81 | d82 | d83 | d84 | d85 | d86 | d87 | d88 | d89 | d90 | d91 | d92 | d93 | d94 | d95 | d96 | d97 | d98 | d99 | Zyp | Zyo | Zyn | Zym | Zyl | Zyk | Zyj | Zyi | Zyh=>(refine' Tz.fam ?a ?l ?c ?k;case a | l | c | k=>(show _=_;(try dsimp only)<;>k_is))
  case Zyg=>(refine' Tz.cam ?a ?b ?c ?d ?e ?f;case a | b | c | d | e | f=>(show _=_;(try dsimp only)<;>k_is))
  case Zyf | Zye | Zyd | Zyc | Zyb=>(show _=_;(try dsimp only)<;>k_is)
  case Zya=>(refine' Tz.cam ?a ?b ?c ?d ?e ?f;case a | b | c | d | e | f=>(show _=_;(try dsimp only)<;>k_is))
  case Zy9 | Zy8 | Zy7 | Zy6=>(show _=_;(try dsimp only)<;>k_is)
  case Zy5=>(refine' Tz.cam ?a ?b ?c ?d ?e ?f;case a | b | c | d | e | f=>(show _=_;(try dsimp only)<;>k_is))
  case Zy4=>(show _=_;(try dsimp only)<;>k_is)
  case Zy3=>(refine' Tz.cam ?a ?b ?c ?d ?e ?f;case a | b | c | d | e | f=>(show _=_;(try dsimp only)<;>k_is))
  case Zy2=>(show _=_;(try dsimp only)<;>k_is)
  case Zy1=>(refine' Tz.cam ?a ?b ?c ?d ?e ?f;case a | b | c | d | e | f=>(show _=_;(try dsimp only)<;>k_is))
  case Zy0=>(show _=_;(try dsimp only)<;>k_is)
  case Zxz=>(refine' Tz.cam ?a ?b ?c ?d ?e ?f;case a | b | c | d | e | f=>(show _=_;(try dsimp only)<;>k_is))
  case Zxy | Zxx=>(show _=_;(try dsimp only)<;>k_is)
  case Zxw=>(refine' Tz.cam ?a ?b ?c ?d ?e ?f;case a | b | c | d | e | f=>(show _=_;(try dsimp only)<;>k_is))
  case Zxv | Zxu=>(show _=_;(try dsimp only)<;>k_is)
  case Zxt=>(refine' Tz.cam ?a ?b ?c ?d ?e ?f;case a | b | c | d | e | f=>(show _=_;(try dsimp only)<;>k_is))
  case Zxs | Zxr | Zxq | Zxp | Zxo | Zxn | Zxm | Zxl | Zxk | Zxj | Zxi=>(show _=_;(try dsimp only)<;>k_is)
  case Zxh=>(refine' Tz.cam ?a ?b ?c ?d ?e ?f;case a | b | c | d | e | f=>(show _=_;(try dsimp only)<;>k_is))
  case Zxg | Zxf | Zxe | Zxd | Zxc=>(show _=_;(try dsimp only)<;>k_is)
  case Zxb=>(refine' Tz.cam ?a ?b ?c ?d ?e ?f;case a | b | c | d | e | f=>(show _=_;(try dsimp only)<;>k_is))
  case Zxa | Zx9 | Zx8 | Zx7=>(show _=_;(try dsimp only)<;>k_is)
  case Zx6 | Zx5 | Zx4 | Zx3=>((try dsimp only)<;>k_exc)
  case Zx2 | Zx1 | Zx0 | Zwz | Zwy | Zwx | Zww | Zwv | Zwu | Zwt=>((try dsimp only)<;>kts_exm)
  case h0 | h1 | h2 | h3=>(show _=_;(try dsimp only)<;>k_is)
  case h4 | h5=>first | exact rfl | exact ⟨_,rfl⟩
  case h6 | h7 | h8 | h9 | h10=>(show _=_;(try dsimp only)<;>k_is)
  case h11=>first | exact rfl | exact ⟨_,rfl⟩
  case h12 | h13 | h14 | h15 | h16 | h17 | h18 | h19=>(show _=_;(try dsimp only)<;>k_is)
  case h20 | h21 | h22 | h23 | h24 | h25 | h26 | h27 | h28 | h29=>exact rfl
  case h30 | h31=>(show _=_;(try dsimp only)<;>k_is)
  case h32 | h33 | h34 | h35=>exact rfl
  case h36 | h37 | h38 | h39 | h40 | h41 | h42 | h43 | h44 | h45 | h46 | h47 | h48 | h49 | h50 | h51 | h52=>(show _=_;(try dsimp only)<;>k_is)
  case h53=>first | exact rfl | exact ⟨_,rfl⟩
  case h54=>(show _=_;(try dsimp only)<;>k_is)
  case h55=>first | exact rfl | exact ⟨_,rfl⟩
  case h56=>(show _=_;(try dsimp only)<;>k_is)
  case h57=>first | exact rfl | exact ⟨_,rfl⟩
#print axioms PySem.Challenge.cw_greywalk_k48_whole_sweeps_unseen_holds
