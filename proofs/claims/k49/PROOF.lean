import PyProof.Rows.All
import Lean
import KE.KTryMore
import KE.KItemsList
import KE.KItem
import KE.RegKTryMore
import KE.KDictList
import KE.KEqDict
import KE.KIntText
import KE.IntBitsLaws
import PyProof.Rows.StrSplitAre
import PyProof.Rows.StrWeight2
import PyProof.StrLawsTight
import PyProof.Rows.StrItems
import PyProof.Rows.ReprOcc
import PyProof.ZipIter
import PyProof.Rows.FactsT2
import PyProof.Rows.FStrParts
import PySem.Challenge.RW_greywalk_k49_scenes_kept
set_option Elab.async false
set_option linter.all false
set_option compiler.extract_closed false
set_option maxRecDepth 100000
abbrev aV:=PySem.W.Frag
theorem eV{α:Type}{l:List α}{i:Nat}(h:i<l.length):l[i]? =some l[i]:=List.getElem?_eq_getElem h
theorem gG{α:Type}{l:List α}{i:Nat}{a:α}(h:l[i]? =some a):∃h:i<l.length,l[i]=a:=List.getElem?_eq_some_iff.mp h
theorem fV{α β:Type}{f:α->β}{l:List α}{i:Nat}:(l.map f)[i]? =l[i]?.map f:=List.getElem?_map
theorem dM{α β:Type}{l:List α}(f:α->β):(l.map f).length=l.length:=List.length_map f
namespace L2
open PySem PySem.Spec PyProof.Rows
abbrev Key:=Sum Int Str
def Vu:Key->Value->Bool
 | .inl k,v=>Value.isInt k v
 | .inr x,v=>Value.isStrOf x v
def Zxg(w:World):Key->Int
 | .inl k=>hashInt k
 | .inr x=>hashStr w x
theorem mj:∀{k:Key}{v:Value},Vu k v=true->(∃i t,k=Sum.inl i/\v=Value.int i t)\/(∃x t,k=Sum.inr x/\v=Value.str x t)
 | .inl i,v,h=>by
  obtain⟨t,e⟩:=Value.isInt_shape (k:=i) (v:=v) h;exact .inl ⟨i,t,rfl,e⟩
 | .inr x,v,h=>by
  obtain⟨t,e⟩:=Value.isStrOf_shape (x:=x) (v:=v) h;exact .inr ⟨x,t,rfl,e⟩
theorem Zhw(i:Int)(t:Tok):Vu (.inl i) (.int i t)=true:=by simp[Vu,Value.isInt]
theorem Zhv(x:Str)(t:Tok):Vu (.inr x) (.str x t)=true:=by simp[Vu,Value.isStrOf]
theorem Zsy(a b:Int):decide ((Sum.inl a:Key)=Sum.inl b)=(a == b):=by
 by_cases e:a=b
 ·subst e;simp
 ·have h:¬ (Sum.inl a:Key)=Sum.inl b:=λq=>e (Sum.inl.inj q);rw[decide_eq_false h];exact(beq_eq_false_iff_ne.mpr e).symm
theorem Zsv(a b:Str):decide ((Sum.inr a:Key)=Sum.inr b)=decide (a=b):=by
 by_cases e:a=b
 ·subst e;simp
 ·have h:¬ (Sum.inr a:Key)=Sum.inr b:=λq=>e (Sum.inr.inj q);rw[decide_eq_false h,decide_eq_false e]
theorem Zsx(a:Int)(b:Str):decide ((Sum.inl a:Key)=Sum.inr b)=false:=decide_eq_false (λq=>nomatch q)
theorem Zsw(a:Str)(b:Int):decide ((Sum.inr a:Key)=Sum.inl b)=false:=decide_eq_false (λq=>nomatch q)
def pI(prog:Program)(w:World):PySem.KeyKind prog w Key where
  is:=Vu
  hash:=Zxg w
  inj:=λv a b ha hb=>by
    rcases mj ha with ⟨i,t,rfl,rfl⟩ | ⟨x,t,rfl,rfl⟩
    · rcases mj hb with ⟨j,u,rfl,e⟩ | ⟨y,u,rfl,e⟩
      · injection e with e1 _;rw[e1]
      · exact nomatch e
    · rcases mj hb with ⟨j,u,rfl,e⟩ | ⟨y,u,rfl,e⟩
      · exact nomatch e
      · injection e with e1 _;rw[e1]
  byValue:=λk v h=>by
    rcases mj h with ⟨i,t,rfl,rfl⟩ | ⟨x,t,rfl,rfl⟩<;>rfl
  pyHash:=λhv h=>by
    rcases mj hv with ⟨i,t,rfl,rfl⟩ | ⟨x,t,rfl,rfl⟩
    · exact wpAny_pyHash_int h
    · exact wpAny_pyHash_str h
  eqBool:=λhu hv h=>by
    rcases mj hu with ⟨i,t,rfl,rfl⟩ | ⟨x,t,rfl,rfl⟩
    · rcases mj hv with ⟨j,u,rfl,rfl⟩ | ⟨y,u,rfl,rfl⟩
      · rw[Zsy]at h;exact wpAny_eqBool_int h
      · rw[Zsx]at h;exact SeqAt.EqAt.int_str i t y u _ _ _ _ h
    · rcases mj hv with ⟨j,u,rfl,rfl⟩ | ⟨y,u,rfl,rfl⟩
      · rw[Zsw]at h;exact SeqAt.EqAt.str_int x t j u _ _ _ _ h
      · rw[Zsv]at h;exact wpAny_eqBool_str h
  «strs»:=λk x t v h=>by
    rcases mj h with ⟨i,u,rfl,e⟩ | ⟨y,u,rfl,e⟩
    · exact nomatch e
    · injection e with e1 _
      subst e1;cases v<;>rfl
theorem Zah(prog:Program)(w:World)(i:Int)(t:Tok):(pI prog w).is (.inl i) (.int i t)=true:=Zhw i t
theorem Zag(prog:Program)(w:World)(x:Str)(t:Tok):(pI prog w).is (.inr x) (.str x t)=true:=Zhv x t
end L2
namespace L2
open PySem PySem.Spec PyProof.Rows
inductive V where
 | non | bl (b:Bool) | int (i:Int) | str (x:Str) | byt (b:Array UInt8) | flt (b:UInt64) | ref (a:Addr) | ty (n:String)
 deriving DecidableEq
def RelV:V->Value->Prop
 | .non,u=>u=Value.none
 | .bl b,u=>u=Value.bool b
 | .int i,u=>∃t,u=Value.int i t
 | .str x,u=>∃t,u=Value.str x t
 | .byt b,u=>∃t,u=Value.bytes b t
 | .flt b,u=>∃t,u=Value.float b t
 | .ref a,u=>u=Value.ref a
 | .ty n,u=>u=Value.type n
abbrev Vals:List V->List Value->Prop:=Paired RelV
theorem Vals.length{xs:List V}{us:List Value}(r:Vals xs us):xs.length=us.length:=Paired.length r
theorem Vals.get:∀{xs:List V}{us:List Value}{i:Nat}{x:V},Vals xs us->xs[i]? =some x->∃u,us[i]? =some u/\RelV x u
 | _,_,_,_,.nil,e=>by simp at e
 | _,_,0,_,.cons r _,e=>by simp at e;subst e;exact⟨_,rfl,r⟩
 | _,_,i+1,x,.cons _ t,e=>by
  obtain⟨u,h1,h2⟩:=Vals.get (i:=i) (x:=x) t (by simpa using e);exact⟨u,by simpa using h1,h2⟩
theorem Vals.set{x:V}{u:Value}(r:RelV x u):∀{xs:List V}{us:List Value} (i:Nat),Vals xs us->Vals (xs.set i x) (us.set i u)
 | _,_,_,.nil=>.nil
 | _,_,0,.cons _ t=>.cons r t
 | _,_,i+1,.cons q t=>.cons q (Vals.set r i t)
theorem Vals.append:∀{xs ys:List V}{us ws:List Value},Vals xs us->Vals ys ws->Vals (xs++ys) (us++ws)
 | _,_,_,_,.nil,s=>s
 | _,_,_,_,.cons r t,s=>.cons r (Vals.append t s)
theorem Vals.take:∀{xs:List V}{us:List Value} (n:Nat),Vals xs us->Vals (xs.take n) (us.take n)
 | _,_,0,_=>.nil
 | _,_,_+1,.nil=>.nil
 | _,_,n+1,.cons r t=>.cons r (Vals.take n t)
theorem Vals.drop:∀{xs:List V}{us:List Value} (n:Nat),Vals xs us->Vals (xs.drop n) (us.drop n)
 | _,_,0,r=>r
 | _,_,_+1,.nil=>.nil
 | _,_,n+1,.cons _ t=>Vals.drop n t
def Dp:Option V->Option Value->Prop
 | some v,some u=>RelV v u
 | none,none=>True
 | _,_=>False
def KV{κ:Type}:List (κ×V)->List (κ×Value)->Prop:=Paired λ(p:κ×V) (q:κ×Value)=>p.1=q.1/\RelV p.2 q.2
def kV:Key->V
 | .inl i=>.int i
 | .inr x=>.str x
inductive HO where
  | lst (xs:List V)
  | tup (xs:List V)
  | dK (kvs:List (Key×V)) | dT (kvs:List (List Key×V))
  | set (S:Int->Bool) (n:Nat)
  | ins (C dx:Addr) (fs:List (Str×V))
  | own (x:Addr)
  | xd (fs:List (Str×V))
  | met (f x:Addr)
  | rng (lo hi:Int)
  | Wc (o:Obj) (u:HO)
  | xj (ps:Array Value)
  | ext (φ:Heap->Prop)
abbrev Hp:=Addr->Option HO
def upd(H:Hp)(a:Addr)(o:HO):Hp:=λb=>if b=a then some o else H b
theorem aq{H:Hp}{a:Addr}{o:HO}:upd H a o a=some o:=by unfold upd;rw[if_pos rfl]
theorem aU{H:Hp}{a b:Addr}{o:HO}(h:b≠a):upd H a o b=H b:=by unfold upd;rw[if_neg h]
theorem lO{H:Hp}{a:Addr}{o u:HO}:upd (upd H a o) a u=upd H a u:=by
 funext b;unfold upd;split<;>rfl
theorem QV{H:Hp}{a b:Addr}{o u:HO}(h:H a=some o)(h':H b=some u)(d:o≠u):a≠b:=by
 intro e;subst e;rw[h]at h';exact d (Option.some.inj h')
theorem aM{H:Hp}{a b:Addr}{o:HO}(h:H a=some o)(h':H b=none):a≠b:=by
 intro e;subst e;rw[h]at h';cases h'
section
variable (P:Program)(w:World)
def lV(H:Hp)(h:Heap)(a:Addr):HO->Prop
 | .lst xs=>xs.length<=sizeLine/\∃(its:List Value) (n:Nat),Vals xs its/\h.get? a=some { cls:=.type "list",data:=.seq its.toArray n }
 | .tup xs=>xs.length<=sizeLine/\∃its:List Value,Vals xs its/\IsTup h a its.toArray
 | .dK kvs=>kvs.length<=sizeLine/\(a == sysModules)=false/\∃vs,KV kvs vs/\h.DictOf (pI P w) a vs
 | .dT kvs=>kvs.length<=sizeLine/\(a == sysModules)=false/\∃xs:List (List Key×Addr×Value),
   Paired (λ(p:List Key×V) (q:List Key×Addr×Value)=>p.1=q.1/\H q.2.1=some (.tup (p.1.map kV))/\RelV p.2 q.2.2) kvs xs/\
   ∃o es ep,h.get? a=some o/\o.ExactDict/\o.data=.dict es ep/\es.toList=xs.map (entryOfKey (tupleKind (pI P w)))/\(xs.map (·.1)).Nodup
 | .set S n=>h.SetOf (intKind P w) a S n
 | .ins C dx fs=>H dx=some (.own a)/\fs.length<=1000/\dx≠a/\h.get? a=some (W.instObj C dx)/\
   ∃mA,h.Ns1 dx mA/\(∀f,Dp (fs.lookup f) (mA f))/\PySem.Within mA (fs.map (·.1))
 | .own _=>∃o,h.get? a=some o
 | .xd fs=>∃mA,h.Ns1 a mA/\∀f,Dp (fs.lookup f) (mA f)
 | .rng lo hi=>∃t u v,h.get? a=some { cls:=.type "range",data:=.fields #[.int lo t,.int hi u,.int 1 v] }
 | .Wc o u=>h.get? a=some o/\lV H h a u
 | .xj ps=>h.get? a=some { cls:=.none,data:=.fields ps }
 | .met f x=>h.get? a=some (W.methodObj (.ref f) (.ref x))
 | .ext φ=>φ h/\(∃o,h.get? a=some o)/\∀h1 h2:Heap,φ h1->(∀o,h1.get? a=some o->h2.get? a=some o)->φ h2
def uE(H:Hp)(h:Heap):Prop:=∀a o,H a=some o->lV P w H h a o
end
section
variable {P:Program}{w:World}{H H':Hp}{h h':Heap}{a:Addr}{o:HO}
theorem lV.lt(x:lV P w H h a o):a<h.objs.size:=by
 cases o with
 | lst xs=>obtain⟨_,_,_,_,e⟩:=x;exact Heap.lt_size e
 | tup xs=>obtain⟨_,_,_,p⟩:=x;exact p.lt
 | dK kvs=>obtain⟨_,_,_,_,o,_,_,e,_⟩:=x;exact Heap.lt_size e
 | dT kvs=>obtain⟨_,_,_,_,o,_,_,e,_⟩:=x;exact Heap.lt_size e
 | set S n=>obtain⟨o,_,_,_,e,_⟩:=x;exact Heap.lt_size e
 | ins C dx fs=>obtain⟨_,_,_,e,_⟩:=x;exact Heap.lt_size e
 | own y=>obtain⟨_,e⟩:=x;exact Heap.lt_size e
 | xd fs=>obtain⟨_,⟨_,_,_,e,_⟩,_⟩:=x;exact Heap.lt_size e
 | rng lo hi=>obtain⟨_,_,_,e⟩:=x;exact Heap.lt_size e
 | Wc ob u=>obtain⟨e,_⟩:=x;exact Heap.lt_size e
 | xj ps=>exact Heap.lt_size (show h.get? a=some _ from x)
 | met f y=>exact Heap.lt_size (show h.get? a=some _ from x)
 | ext φ=>obtain⟨_,⟨_,e⟩,_⟩:=x;exact Heap.lt_size e
theorem Paired.Zsn{α β:Type}{F G:α->β->Prop}:∀{l₁:List α}{l₂:List β},Paired F l₁ l₂->(∀a b,F a b->G a b)->Paired G l₁ l₂
 | _,_,.nil,_=>.nil
 | _,_,.cons r t,f=>.cons (f _ _ r) (Paired.Zsn t f)
theorem lV.stay(x:lV P w H h a o)(k:∀b u,(b=a\/H b=some (.own a))->h.get? b=some u->h'.get? b=some u)
  (ho:∀b,H b=some (.own a)->H' b=some (.own a)) (ht:∀b xs,H b=some (.tup xs)->H' b=some (.tup xs)):lV P w H' h' a o:=by
 induction o with
 | lst xs=>obtain⟨z,its,n,r,e⟩:=x;exact⟨z,its,n,r,k _ _ (.inl rfl) e⟩
 | tup xs=>obtain⟨z,its,r,ob,e,c⟩:=x;exact⟨z,its,r,ob,k _ _ (.inl rfl) e,c⟩
 | dK kvs=>obtain⟨z,y,vs,r,ob,es,ep,e,c⟩:=x;exact⟨z,y,vs,r,ob,es,ep,k _ _ (.inl rfl) e,c⟩
 | dT kvs=>
  obtain⟨z,y,xs,r,ob,es,ep,e,c⟩:=x;exact⟨z,y,xs,Paired.Zsn r λp q z=>⟨z.1,ht _ _ z.2.1,z.2.2⟩,ob,es,ep,k _ _ (.inl rfl) e,c⟩
 | set S n=>obtain⟨ob,es,ep,t,e,c⟩:=x;exact⟨ob,es,ep,t,k _ _ (.inl rfl) e,c⟩
 | ins C dx fs=>
  obtain⟨d,z,ne,e,mA,⟨od,es,ep,e2,c⟩,r⟩:=x;exact⟨ho _ d,z,ne,k _ _ (.inl rfl) e,mA,⟨od,es,ep,k _ _ (.inr d) e2,c⟩,r⟩
 | own y=>obtain⟨ob,e⟩:=x;exact⟨ob,k _ _ (.inl rfl) e⟩
 | xd fs=>obtain⟨mA,⟨od,es,ep,e,c⟩,r⟩:=x;exact⟨mA,⟨od,es,ep,k _ _ (.inl rfl) e,c⟩,r⟩
 | rng lo hi=>obtain⟨t,u,v,e⟩:=x;exact⟨t,u,v,k _ _ (.inl rfl) e⟩
 | Wc ob u ih=>obtain⟨e,q⟩:=x;exact⟨k _ _ (.inl rfl) e,ih q⟩
 | xj ps=>
  have e:h.get? a=some { cls:=.none,data:=.fields ps }:=x;show h'.get? a=some { cls:=.none,data:=.fields ps };exact k a _ (.inl rfl) e
 | met f y=>
  have e:h.get? a=some (W.methodObj (.ref f) (.ref y)):=x;show h'.get? a=some (W.methodObj (.ref f) (.ref y));exact k a _ (.inl rfl) e
 | ext φ=>obtain⟨p,⟨o,e⟩,st⟩:=x;exact⟨st _ _ p λo q=>k _ _ (.inl rfl) q,⟨o,k _ _ (.inl rfl) e⟩,st⟩
theorem uE.lt(x:uE P w H h)(e:H a=some o):a<h.objs.size:=(x a o e).lt
theorem uE.fresh(x:uE P w H h)(e:h.objs.size<=a):H a=none:=by
 cases q:H a with
 | none=>rfl
 | some u=>exact absurd (Nat.lt_of_lt_of_le (x.lt q) e) (Nat.lt_irrefl _)
theorem uE.kept(x:uE P w H h)(k:∀b u,h.get? b=some u->h'.get? b=some u):uE P w H h':=λa o e=>
 (x a o e).stay (λb u _ q=>k b u q) (λ_ q=>q) λ_ _ q=>q
theorem uE.laid(x:uE P w H h)(k:∀b u,h.get? b=some u->h'.get? b=some u)(hp:h.objs.size<=a)(new:lV P w (upd H a o) h' a o):uE P w (upd H a o) h':=λb u e=>by
 have hn:=x.fresh hp
 by_cases hb:b=a
 ·subst hb;rw[aq]at e;cases e;exact new
 ·rw[aU hb]at e;exact(x b u e).stay (λc v _ q=>k c v q) (λc q=>by rw[aU (aM q hn)];exact q) λc xs q=>by rw[aU (aM q hn)];exact q
end
def Rd(H:Hp)(a:Addr)(u:HO):Prop:=H a=some u\/∃o,H a=some (.Wc o u)
theorem Rd.ok{P:Program}{w:World}{H:Hp}{h:Heap}{a:Addr}{u:HO}(r:Rd H a u)(x:uE P w H h):lV P w H h a u:=by
 rcases r with r | ⟨o,r⟩
 ·exact x a u r
 ·obtain⟨_,q⟩:=x a _ r;exact q
def Mut:Option HO->Prop
 | some (.lst _)=>True
 | some (.dK _)=>True
 | some (.dT _)=>True
 | some (.set _ _)=>True
 | some (.ins _ _ _)=>True
 | some (.ext _)=>True
 | _=>False
section
variable {P:Program}{w:World}{H:Hp}{h h':Heap}{x e:Addr}{o':HO}
theorem uE.write(ok:uE P w H h)(mu:Mut (H x))(he:e=x\/H e=some (.own x))(k:∀b u,b≠e->h.get? b=some u->h'.get? b=some u)(heo:∃u,h'.get? e=some u)
  (new:lV P w (upd H x o') h' x o'):uE P w (upd H x o') h':=λb u q=>by
 have Zv4:∀c y,H c=some (.own y)->c≠x:=λc y r z=>by subst z;rw[r]at mu;exact mu
 have Zxb:∀c xs,H c=some (.tup xs)->c≠x:=λc xs r z=>by subst z;rw[r]at mu;exact mu
 by_cases hb:b=x
 ·subst hb;rw[aq]at q;cases q;exact new
 ·rw[aU hb]at q
  by_cases hbe:b=e
  ·have q':H b=some (.own x):=by
    rcases he with z | z
    ·exact absurd (hbe.trans z) hb
    ·rw[hbe];exact z
   rw[q]at q';cases q';obtain⟨v,hv⟩:=heo;exact⟨v,by rw[hbe];exact hv⟩
  ·refine(ok b u q).stay (λc v hc r=>k c v ?_ r) (λc r=>by rw[aU (Zv4 c b r)];exact r) λc xs r=>by rw[aU (Zxb c xs r)];exact r
   rcases hc with rfl | hc
   ·exact hbe
   ·rintro rfl;rcases he with z | z
    ·exact Zv4 c b hc z
    ·rw[hc]at z;cases z;exact hb rfl
end
structure Un(fs ex:List Addr)(H H':Hp)(h h':Heap):Prop where
 keep:∀b o,h.get? b=some o->H b=none->b∉fs->b∉ex->h'.get? b=some o
 slot:∀b o,h.get? b=some o->H b=none->b∈fs->b∉ex->∃sl,h'.get? b=some { o with slots:=sl }
 free:∀b o,h.get? b=some o->H b=none->b∉ex->H' b=none
 there:∀b o,h.get? b=some o->b∉ex->∃o',h'.get? b=some o'
 tups:∀b xs,H b=some (.tup xs)->H' b=some (.tup xs)
 N5:∀b o u,H b=some (.Wc o u)->H' b=some (.Wc o u)
 P0:∀b ps,H b=some (.xj ps)->∃more,H' b=some (.xj (ps++more))
section
variable {fs fs' ex ex':List Addr}{H H1 H2:Hp}{h h1 h2 h':Heap}{a x e:Addr}{o:HO}
theorem Un.any(u:Un fs ex H H1 h h1){b:Addr}{ob:Obj}(q:h.get? b=some ob)(n:H b=none)(hx:b∉ex):∃sl,h1.get? b=some { ob with slots:=sl }:=by
 by_cases hb:b∈fs
 ·exact u.slot b ob q n hb hx
 ·exact⟨ob.slots,u.keep b ob q n hb hx⟩
theorem Un.kept(k:∀b u,h.get? b=some u->h'.get? b=some u):Un fs ex H H h h':=
 ⟨λb ob q _ _ _=>k b ob q,λb ob q _ _ _=>⟨ob.slots,k b ob q⟩,λ_ _ _ n _=>n,λb ob q _=>⟨ob,k b ob q⟩,λ_ _ q=>q,λ_ _ _ q=>q,λ_ ps q=>⟨#[],by rw[q];simp⟩⟩
theorem Un.refl:Un fs ex H H h h:=Un.kept λ_ _ q=>q
theorem Un.laid(k:∀b u,h.get? b=some u->h'.get? b=some u)(hp:h.objs.size<=a)(hn:H a=none):Un fs ex H (upd H a o) h h' where
 keep:=λb u q _ _ _=>k b u q
 slot:=λb u q _ _ _=>⟨u.slots,k b u q⟩
 free:=λb u q n _=>by rw[aU (Nat.ne_of_lt (Nat.lt_of_lt_of_le (Heap.lt_size q) hp))];exact n
 there:=λb u q _=>⟨u,k b u q⟩
 tups:=λb xs q=>by rw[aU (aM q hn)];exact q
 N5:=λb u xs q=>by rw[aU (aM q hn)];exact q
 P0:=λb ps q=>⟨#[],by rw[aU (aM q hn),q];simp⟩
theorem Un.write(mu:Mut (H x))(he:e=x\/H e=some (.own x))(k:∀b u,b≠e->h.get? b=some u->h'.get? b=some u)(heo:∃u,h'.get? e=some u):Un fs ex H (upd H x o) h h':=by
 have hx:∀b,H b=none->b≠x:=λb n z=>by subst z;rw[n]at mu;exact mu
 have hb:∀b,H b=none->b≠e:=λb n z=>by
  subst z;rcases he with r | r
  ·exact hx b n r
  ·rw[n]at r;cases r
 have hm:∀b u,H b=some u->¬ Mut (some u)->b≠x:=λb u q nm z=>by subst z;rw[q]at mu;exact nm mu
 refine⟨λb u q n _ _=>k b u (hb b n) q,λb u q n _ _=>⟨u.slots,k b u (hb b n) q⟩,λb u q n _=>by rw[aU (hx b n)];exact n,λb u q _=>?_,
  λb xs q=>by rw[aU (hm b _ q λz=>z)];exact q,λb u xs q=>by rw[aU (hm b _ q λz=>z)];exact q,λb ps q=>⟨#[],by rw[aU (hm b _ q λz=>z),q];simp⟩⟩
 by_cases hbe:b=e
 ·subst hbe;exact heo
 ·exact⟨u,k b u hbe q⟩
end
def trk(h:Heap)(H:Hp):List Addr:=(List.range h.objs.size).filter λa=>(H a).isSome
def YC(h:Heap)(H:Hp):Heap:=W.hideAll h (trk h H)
theorem Zil(h:Heap)(H:Hp):(YC h H).objs.size=h.objs.size:=W.hideAll_size _ _
theorem Zmo{h:Heap}{H:Hp}{b:Addr}{o:Obj}(e:h.get? b=some o)(n:H b=none):(YC h H).get? b=some o:=
 W.hideAll_get _ e λhm=>by
  have q:(H b).isSome=true:=(List.mem_filter.mp hm).2;rw[n]at q;simp at q
theorem Zpg{h:Heap}{H:Hp}{b:Addr}{o:Obj}(e:(YC h H).get? b=some o):h.get? b=some o/\H b=none:=by
 have e':h.get? b=some o:=W.of_hideAll (trk h H) e;refine⟨e',?_⟩;cases q:H b with
 | none=>rfl
 | some x=>
  have hm:b∈trk h H:=List.mem_filter.mpr ⟨List.mem_range.mpr (Heap.lt_size e'),by simp[q]⟩;have z:(YC h H).get? b=none:=W.hideAll_none (trk h H) hm;rw[z]at e;cases e
def Zqz(g h:Heap)(L:Addr):List (Addr×Obj):=(List.range h.objs.size).filterMap λa=>if a=L\/(g.get? a).isSome=true then none else(h.get? a).map λo=>(a,o)
def rest(g h:Heap)(L d:Addr):List (Addr×Obj):=(Zqz g h L).filter λp=>decide (p.1≠d)
end L2
namespace L2
open PySem PySem.Spec PyProof.Rows
structure Mod(K:aV)(mg:Str->Option Value)(base:Heap):Prop where
 kin:K.In base
 glob:base.Ns mainGlobals mg
 blt:∃mb,base.Ns builtinsNs mb/\∀x:Str,x≠"__name__"->mb x=bootBuiltins x
 nolimit:base.NoLimit
structure Cx where
 prog:Program
 w:World
 K:aV
 mg:Str->Option Value
 base:Heap
 A:Around
 N:List Str
 s₀:Shared
 H₀:Hp
 env:Env
 outer:List Env
 stack:List Env
 ex:List Addr
 fn:Str->Bool
 calm:Bool
 pn:List (Addr×Obj)
 xe:Value->Shared->Prop
def frs(l:List Env):List Addr:=l.filterMap (·.frame)
abbrev Cx.fs(X:Cx):List Addr:=frs X.outer
def Vis(sc:Scope)(x:Str):Prop:=sc.names.lookup x=some .local\/sc.names.lookup x=some .cell\/sc.names.lookup x=some .free
def Loc(sc:Scope)(x:Str):Prop:=sc.names.lookup x=some .local\/sc.names.lookup x=some .cell
def Look(env:Env)(h:Heap)(m:Str->Option Value)(x:Str)(u:Value):Prop:=
 (env.kindOf x=some .local/\m x=some u)\/((env.kindOf x=some .cell\/env.kindOf x=some .free)/\∃c,env.cells.lookup x=some c/\h.IsCell c (some u))
structure Cx.Ok(X:Cx):Prop where
 mod:Mod X.K X.mg X.base
 kind:X.env.scope.kind=.function
 glob:X.env.globals=mainGlobals
 blt:X.env.builtins=builtinsNs
 above:X.s₀.heap.objs.size<=X.env.locals
 inj:∀x y c,X.env.cells.lookup x=some c->X.env.cells.lookup y=some c->x=y
 has:∀x,(X.env.kindOf x=some .cell\/X.env.kindOf x=some .free)->∃c,X.env.cells.lookup x=some c
 cab:∀x c,X.fn x=true->X.env.cells.lookup x=some c->X.s₀.heap.objs.size<=c
 hd:X.calm=true->X.A.handled=none
 frames:X.A.frames=some X.stack
 stk:X.stack=X.outer\/(X.stack=X.env::X.outer/\X.env.frame=some X.env.locals)
 exf:∀b∈X.ex,b≠X.env.locals/\∀x c,X.env.cells.lookup x=some c->c≠b
 bs:∀b o,X.base.get? b=some o->X.s₀.heap.get? b=some o/\X.H₀ b=none
 bsz:X.base.objs.size<=X.s₀.heap.objs.size
 Zab:∀b o,X.base.get? b=some o->b∉X.ex
 Zeu:∀b∈X.ex,b∉X.fs
 yw:X.s₀.heap.FunFrames X.base X.outer
 frf:∀b∈X.fs,X.H₀ b=none
structure Inv(X:Cx)(pins:List (Addr×Obj))(σ:List (Option V))(H:Hp)(s:Shared):Prop where
 ok:X.Ok
 os:s.os=X.s₀.os
 bare:AllBare s.gens
 base:Un X.fs X.ex X.H₀ H X.s₀.heap s.heap
 loc:∃m,s.heap.Ns X.env.locals m/\∀(i:Nat) (x:Str) (v:V),X.N[i]? =some x->σ[i]? =some (some v)->Vis X.env.scope x->∃u,RelV v u/\Look X.env s.heap m x u
 cell:∀x c,X.env.cells.lookup x=some c->∃v,s.heap.IsCell c v
 free:H X.env.locals=none
 vO:∀x c,X.env.cells.lookup x=some c->H c=none
 pin:∀p∈X.pn++pins,s.heap.get? p.1=some p.2/\H p.1=none/\p.1≠X.env.locals/\p.1∉X.fs/\∀v,p.2.data≠.cell v
 hok:uE X.prog X.w H s.heap
 len:σ.length=X.N.length
section
variable {X:Cx}{pins:List (Addr×Obj)}{σ:List (Option V)}{H H':Hp}{s:Shared}{h':Heap}
theorem Cx.Ok.Zxd(ok:X.Ok){b:Addr}{o:Obj}(e:X.base.get? b=some o):b∉X.fs:=λhb=>by
 have:=(ok.yw.mem hb).1;rw[e]at this;cases this
theorem Inv.bs(I:Inv X pins σ H s):∀b o,X.base.get? b=some o->s.heap.get? b=some o/\H b=none:=λb o e=>
 ⟨I.base.keep b o (I.ok.bs b o e).1 (I.ok.bs b o e).2 (I.ok.Zxd e) (I.ok.Zab b o e),I.base.free b o (I.ok.bs b o e).1 (I.ok.bs b o e).2 (I.ok.Zab b o e)⟩
theorem Inv.bk(I:Inv X pins σ H s):∀b o,X.base.get? b=some o->s.heap.get? b=some o:=λb o e=>(I.bs b o e).1
theorem Inv.mod(I:Inv X pins σ H s):Mod X.K X.mg X.base:=I.ok.mod
theorem Inv.uY(I:Inv X pins σ H s):X.K.In s.heap:=I.ok.mod.kin.keeps I.bk
theorem Inv.lt(I:Inv X pins σ H s):X.env.locals<s.heap.objs.size:=let ⟨_,hn,_⟩:=I.loc;hn.lt
theorem Inv.sz(I:Inv X pins σ H s):X.s₀.heap.objs.size<=s.heap.objs.size:=Nat.le_trans I.ok.above (Nat.le_of_lt I.lt)
theorem Inv.Zxc(I:Inv X pins σ H s){a:Addr}(h:s.heap.objs.size<=a):a∉X.fs:=λhb=>by
 obtain⟨_,o,ho,_⟩:=I.ok.yw.mem hb;exact absurd (Nat.lt_of_lt_of_le (Heap.lt_size ho) (Nat.le_trans I.sz h)) (Nat.lt_irrefl _)
theorem Inv.cne(I:Inv X pins σ H s):∀x c,X.env.cells.lookup x=some c->c≠X.env.locals:=λx c e z=>by
 obtain⟨v,o,ho,hd⟩:=I.cell x c e;obtain⟨m,⟨o',es,ep,ho',hd',_⟩,_⟩:=I.loc;rw[z,ho']at ho;cases ho;rw[hd']at hd;cases hd
theorem Inv.yw(I:Inv X pins σ H s):s.heap.FunFrames X.base X.outer:=by
 have all:∀(l:List Env),(∀b∈frs l,b∈X.fs)->X.s₀.heap.FunFrames X.base l->s.heap.FunFrames X.base l:=by
  intro l
  induction l with
  | nil=>intro _ _;trivial
  | cons env r ih=>
   intro hs hl;obtain⟨hk,⟨L,o,hf,hn,ho,hd⟩,hr⟩:=hl;have hL:L∈X.fs:=hs L (by unfold frs;rw[List.filterMap_cons,hf];exact List.mem_cons_self);obtain⟨sl,e⟩:=I.base.slot L o ho (I.ok.frf L hL) hL λz=>I.ok.Zeu L z hL;exact⟨hk,⟨L,_,hf,hn,e,hd⟩,ih (λb hb=>hs b (by unfold frs;rw[List.filterMap_cons,hf];exact List.mem_cons_of_mem _ hb)) hr⟩
 exact all X.outer (λ_ hb=>hb) I.ok.yw
theorem Inv.stack(I:Inv X pins σ H s):s.heap.FunFrames X.base X.stack:=by
 rcases I.ok.stk with e | ⟨e,hf⟩
 ·rw[e];exact I.yw
 ·rw[e];obtain⟨m,hn,_⟩:=I.loc;refine .cons (by rw[I.ok.kind];decide) hf hn ?_ I.yw;exact Heap.get?_none_of_le (Nat.le_trans I.ok.bsz I.ok.above)
theorem Inv.Jf(I:Inv X pins σ H s):∀b∈frs X.stack,b∈X.env.locals::X.fs:=λb hb=>by
 rcases I.ok.stk with e | ⟨e,hf⟩
 ·rw[e]at hb;exact List.mem_cons_of_mem _ hb
 ·rw[e]at hb;unfold frs at hb;rw[List.filterMap_cons,hf]at hb;exact hb
theorem Inv.Ww(I:Inv X pins σ H s):∀b∈frs X.stack,H b=none:=λb hb=>by
 rcases List.mem_cons.mp (I.Jf b hb)with e | hb
 ·rw[e];exact I.free
 ·obtain⟨_,o,ho,_⟩:=I.ok.yw.mem hb;exact I.base.free b o ho (I.ok.frf b hb) λz=>I.ok.Zeu b z hb
theorem Inv.step{g':Array GenState}{t':Nat}{d':Drawn}{ch:List Addr}(I:Inv X pins σ H s)
  (hch:∀b∈ch,(b∈X.ex\/X.s₀.heap.objs.size<=b)/\b≠X.env.locals/\(∀x c,X.env.cells.lookup x=some c->c≠b)/\∀p∈X.pn++pins,p.1≠b)
  (keep:∀b o,b≠X.env.locals->b∉X.fs->b∉ch->s.heap.get? b=some o->H b=none->h'.get? b=some o)
  (slot:∀b o,b≠X.env.locals->b∈X.fs->b∉ch->s.heap.get? b=some o->H b=none->∃sl,h'.get? b=some { o with slots:=sl }) (free:∀b o,b∉ch->s.heap.get? b=some o->H b=none->H' b=none)
  (there:∀b o,b∉ch->s.heap.get? b=some o->∃o',h'.get? b=some o')
  (tups:∀b xs,H b=some (.tup xs)->H' b=some (.tup xs)) (N5:∀b o u,H b=some (.Wc o u)->H' b=some (.Wc o u)) (P0:∀b ps,H b=some (.xj ps)->∃more,H' b=some (.xj (ps++more)))
  (ns:∀m,s.heap.Ns X.env.locals m->h'.Ns X.env.locals m) (hok:uE X.prog X.w H' h') (hg:AllBare g'):
  Inv X pins σ H' { s with heap:=h',gens:=g',drawn:=d',toks:=t' }:=by
 have neL:∀b o,X.s₀.heap.get? b=some o->b≠X.env.locals:=λb o e=>Nat.ne_of_lt (Nat.lt_of_lt_of_le (Heap.lt_size e) I.ok.above);have neC:∀b o,X.s₀.heap.get? b=some o->b∉X.ex->b∉ch:=λb o e hx hb=>by
  rcases(hch b hb).1 with z | z
  ·exact hx z
  ·exact absurd (Nat.lt_of_lt_of_le (Heap.lt_size e) z) (Nat.lt_irrefl _)
 have cellK:∀x c,X.env.cells.lookup x=some c->∀v,s.heap.IsCell c v->h'.IsCell c v:=λx c e v ⟨o,ho,hd⟩=>by
  have nch:c∉ch:=λz=>(hch c z).2.2.1 x c e rfl
  by_cases hc:c∈X.fs
  ·obtain⟨sl,q⟩:=slot c o (I.cne x c e) hc nch ho (I.vO x c e);exact⟨_,q,hd⟩
  ·exact⟨o,keep c o (I.cne x c e) hc nch ho (I.vO x c e),hd⟩
 refine⟨I.ok,I.os,hg,⟨λb o e n hb hx=>?_,λb o e n hb hx=>?_,λb o e n hx=>?_,λb o e hx=>?_,λb xs e=>tups b xs (I.base.tups b xs e),λb o xs e=>N5 b o xs (I.base.N5 b o xs e),λb ps e=>?_⟩,?_,λx c e=>?_,?_,λx c e=>?_,λp hp=>?_,hok,I.len⟩
 ·exact keep b o (neL b o e) hb (neC b o e hx) (I.base.keep b o e n hb hx) (I.base.free b o e n hx)
 ·obtain⟨sl,e1⟩:=I.base.slot b o e n hb hx;obtain⟨sl',e2⟩:=slot b _ (neL b o e) hb (neC b o e hx) e1 (I.base.free b o e n hx);exact⟨sl',e2⟩
 ·obtain⟨o',e1⟩:=I.base.there b o e hx;exact free b o' (neC b o e hx) e1 (I.base.free b o e n hx)
 ·obtain⟨o',e1⟩:=I.base.there b o e hx;exact there b o' (neC b o e hx) e1
 ·obtain⟨m1,e1⟩:=I.base.P0 b ps e;obtain⟨m2,e2⟩:=P0 b _ e1;exact⟨m1++m2,by rw[e2,Array.append_assoc]⟩
 ·obtain⟨m,hn,hl⟩:=I.loc;refine⟨m,ns m hn,λi x v e1 e2 e3=>?_⟩;obtain⟨u,r,l⟩:=hl i x v e1 e2 e3;refine⟨u,r,?_⟩;rcases l with l | ⟨k,c,e,z⟩
  ·exact .inl l
  ·exact .inr ⟨k,c,e,cellK x c e _ z⟩
 ·obtain⟨v,z⟩:=I.cell x c e;exact⟨v,cellK x c e v z⟩
 ·obtain⟨m,⟨o,_,_,ho,_⟩,_⟩:=I.loc;exact free _ o (λz=>(hch _ z).2.1 rfl) ho I.free
 ·obtain⟨v,o,ho,hd⟩:=I.cell x c e;exact free c o (λz=>(hch c z).2.2.1 x c e rfl) ho (I.vO x c e)
 ·obtain⟨e,n,ne,nf,d⟩:=I.pin p hp;have nch:p.1∉ch:=λz=>(hch p.1 z).2.2.2 p hp rfl;exact⟨keep p.1 p.2 ne nf nch e n,free p.1 p.2 nch e n,ne,nf,d⟩
theorem Inv.un{t':Nat}(I:Inv X pins σ H s)(u:Un X.fs [] H H' s.heap h')(hok:uE X.prog X.w H' h'):Inv X pins σ H' { s with heap:=h',toks:=t' }:=by
 obtain⟨m,⟨o,es,ep,ho,r⟩,_⟩:=id I.loc;obtain⟨sl,hL⟩:=u.any ho I.free (by simp);exact I.step (g':=s.gens) (d':=s.drawn) (ch:=[]) (λ_ z=>nomatch z) (λb o _ hb _ e n=>u.keep b o e n hb (by simp)) (λb o _ hb _ e n=>u.slot b o e n hb (by simp)) (λb o _ e n=>u.free b o e n (by simp)) (λb o _ e=>u.there b o e (by simp)) u.tups u.N5 u.P0 (λm' hm=>by
  obtain⟨o',es',ep',ho',r'⟩:=hm;rw[ho]at ho';cases ho';exact⟨_,es',ep',hL,r'⟩) hok I.bare
theorem Inv.call{g':Array GenState}{t':Nat}{d':Drawn}{ch:List Addr}(I:Inv X pins σ H s)(u:Un (frs X.stack) ch H H' s.heap h')(hok:uE X.prog X.w H' h')(hg:AllBare g')
  (hch:∀b∈ch,(b∈X.ex\/X.s₀.heap.objs.size<=b)/\b≠X.env.locals/\(∀x c,X.env.cells.lookup x=some c->c≠b)/\∀p∈X.pn++pins,p.1≠b):
  Inv X pins σ H' { s with heap:=h',gens:=g',drawn:=d',toks:=t' }:=by
 obtain⟨m,⟨o,es,ep,ho,r⟩,_⟩:=id I.loc;obtain⟨sl,hL⟩:=u.any ho I.free λz=>(hch _ z).2.1 rfl;exact I.step (ch:=ch) hch (λb o hL hb hc e n=>u.keep b o e n (λz=>(List.mem_cons.mp (I.Jf b z)).elim hL hb) hc) (λb o _ _ hc e n=>u.any e n hc) (λb o hc e n=>u.free b o e n hc) (λb o hc e=>u.there b o e hc) u.tups u.N5 u.P0 (λm' hm=>by
  obtain⟨o',es',ep',ho',r'⟩:=hm;rw[ho]at ho';cases ho';exact⟨_,es',ep',hL,r'⟩) hok hg
theorem Inv.turned{t':Nat}{it:Addr}(I:Inv X pins σ H s)(k:∀b o,b≠it->s.heap.get? b=some o->h'.get? b=some o)(hn:H it=none)(hL:it≠X.env.locals)
  (h1:it∈X.ex\/X.s₀.heap.objs.size<=it) (h2:∀x c,X.env.cells.lookup x=some c->c≠it) (h3:∀p∈X.pn++pins,p.1≠it):Inv X pins σ H { s with heap:=h',toks:=t' }:=by
 have nit:∀b u,H b=some u->b≠it:=λb u e z=>by rw[z,hn]at e;cases e
 refine I.step (g':=s.gens) (d':=s.drawn) (ch:=[it]) (λb hb=>?_) (λb o _ _ hc e _=>k b o (λz=>hc (by simp[z])) e) (λb o _ _ hc e _=>⟨o.slots,k b o (λz=>hc (by simp[z])) e⟩) (λ_ _ _ _ n=>n)
  (λb o hc e=>⟨o,k b o (λz=>hc (by simp[z])) e⟩) (λ_ _ e=>e) (λ_ _ _ e=>e) (λb ps e=>⟨#[],by rw[e];simp⟩) (λm hm=>?_) (λb u e=>?_) I.bare
 ·have e:b=it:=by simpa using hb
  subst e;exact⟨h1,hL,h2,h3⟩
 ·obtain⟨o,es,ep,ho,r⟩:=hm;exact⟨o,es,ep,k _ o (Ne.symm hL) ho,r⟩
 ·refine(I.hok b u e).stay (λc v hc q=>k c v ?_ q) (λ_ q=>q) λ_ _ q=>q;rcases hc with z | z
  ·rw[z];exact nit b u e
  ·exact nit c _ z
theorem Inv.tok(I:Inv X pins σ H s)(t:Nat):Inv X pins σ H { s with toks:=t }:=I.un (h':=s.heap) (t':=t) Un.refl I.hok
theorem Inv.kept{t':Nat}(I:Inv X pins σ H s)(k:∀b u,s.heap.get? b=some u->h'.get? b=some u):Inv X pins σ H { s with heap:=h',toks:=t' }:=I.un (Un.kept k) (I.hok.kept k)
theorem Inv.laid{a:Addr}{o:HO}{t':Nat}(I:Inv X pins σ H s)(k:∀b u,s.heap.get? b=some u->h'.get? b=some u)(hp:s.heap.objs.size<=a)(new:lV X.prog X.w (upd H a o) h' a o):
  Inv X pins σ (upd H a o) { s with heap:=h',toks:=t' }:=I.un (Un.laid k hp (I.hok.fresh hp)) (I.hok.laid k hp new)
theorem Inv.write{x e:Addr}{o:HO}{t':Nat}(I:Inv X pins σ H s)(mu:Mut (H x))(he:e=x\/H e=some (.own x))(k:∀b u,b≠e->s.heap.get? b=some u->h'.get? b=some u)(heo:∃u,h'.get? e=some u)
  (new:lV X.prog X.w (upd H x o) h' x o):Inv X pins σ (upd H x o) { s with heap:=h',toks:=t' }:=I.un (Un.write mu he k heo) (I.hok.write mu he k heo new)
theorem Inv.zz{Zrc:List (Addr×Obj)}(I:Inv X pins σ H s)(h:∀p∈Zrc,s.heap.get? p.1=some p.2/\H p.1=none/\p.1≠X.env.locals/\p.1∉X.fs/\∀v,p.2.data≠.cell v):Inv X Zrc σ H s:=
 ⟨I.ok,I.os,I.bare,I.base,I.loc,I.cell,I.free,I.vO,λp hp=>(List.mem_append.mp hp).elim (λz=>I.pin p (List.mem_append_left _ z)) (h p),I.hok,I.len⟩
theorem Zad{N:List Str}(hN:N.Nodup){i j:Nat}{x:Str}(a:N[i]? =some x)(b:N[j]? =some x):i=j:=by
 obtain⟨h1,e1⟩:=gG a;obtain⟨h2,e2⟩:=gG b;exact(List.getElem_inj hN).mp (e1.trans e2.symm)
theorem Zh1{M:Model}{A:Around}{E:Value->Shared->Prop}{i:Nat}{x:Str}{v:V}{u:Value}{Q:Unit->Shared->Prop}(I:Inv X pins σ H s)(hN:X.N.Nodup)(hi:X.N[i]? =some x)(hx:Loc X.env.scope x)(r:RelV v u)
  (h:∀s',Inv X pins (σ.set i (some v)) H s'->(∃a,Heap.SameBut a s.heap s'.heap/\(a=X.env.locals\/X.env.cells.lookup x=some a))->Q () s') (hf:X.fn x=true\/X.env.scope.names.lookup x=some .local:=by first | exact .inl rfl | exact .inr rfl | assumption):wpAny M A (storeName X.env x u) Q E s:=by
 obtain⟨m,hn,hl⟩:=id I.loc;have hcls:(X.env.scope.kind == .class || (X.env.scope.kind == .module && X.env.locals != X.env.globals))=false:=by rw[I.ok.kind];rfl
 have hiσ:i < σ.length:=by rw[I.len];exact(gG hi).1
 have cne:=I.cne;have tracked:∀{a:Addr}{h':Heap},(∃o,s.heap.get? a=some o/\H a=none)->Heap.SameBut a s.heap h'->uE X.prog X.w H h':=λ{a h'} ha hs b ob e=>by
  obtain⟨_,_,hfree⟩:=ha;refine(I.hok b ob e).stay (λc w' hc q=>(hs.2 c ?_).trans q) (λ_ q=>q) λ_ _ q=>q;rintro rfl;rcases hc with rfl | hc
  ·rw[hfree]at e;cases e
  ·rw[hfree]at hc;cases hc
 rcases hx with hk | hk
 ·refine wpAny_storeName_local hk hn (λh' hn' hs=>?_) hcls;obtain⟨oL,_,_,hoL,_⟩:=id hn;refine h _ ⟨I.ok,I.os,I.bare,⟨λb o e n hb hx=>?_,λb o e n hb hx=>?_,I.base.free,λb o e hx=>?_,I.base.tups,I.base.N5,I.base.P0⟩,⟨_,hn',λj y v' e1 e2 e3=>?_⟩,λy c e=>?_,I.free,I.vO,λp hp=>?_,tracked ⟨oL,hoL,I.free⟩ hs,by simpa using I.len⟩ ⟨_,hs,.inl rfl⟩
  ·exact(hs.2 b (Nat.ne_of_lt (Nat.lt_of_lt_of_le (Heap.lt_size e) I.ok.above))).trans (I.base.keep b o e n hb hx)
  ·obtain⟨sl,e1⟩:=I.base.slot b o e n hb hx;exact⟨sl,(hs.2 b (Nat.ne_of_lt (Nat.lt_of_lt_of_le (Heap.lt_size e) I.ok.above))).trans e1⟩
  ·obtain⟨o',e1⟩:=I.base.there b o e hx;exact⟨o',(hs.2 b (Nat.ne_of_lt (Nat.lt_of_lt_of_le (Heap.lt_size e) I.ok.above))).trans e1⟩
  ·by_cases hj:j=i
   ·subst hj;rw[hi]at e1;cases e1;rw[List.getElem?_set_self hiσ]at e2;cases e2;exact⟨u,r,.inl ⟨hk,by simp⟩⟩
   ·rw[List.getElem?_set_ne (Ne.symm hj)]at e2;obtain⟨u',r',q⟩:=hl j y v' e1 e2 e3;refine⟨u',r',?_⟩;rcases q with ⟨k,e⟩ | ⟨k,c,e,z⟩
    ·refine .inl ⟨k,?_⟩;have:y≠x:=λe=>hj (Zad hN e1 (e ▸ hi));simp[this,e]
    ·exact .inr ⟨k,c,e,z.sameBut hs (cne y c e)⟩
  ·obtain⟨w',z⟩:=I.cell y c e;exact⟨w',z.sameBut hs (cne y c e)⟩
  ·obtain⟨e,n,ne,nf,d⟩:=I.pin p hp;exact⟨(hs.2 p.1 ne).trans e,n,ne,nf,d⟩
 ·have hfn:X.fn x=true:=by
   rcases hf with z | z
   ·exact z
   ·rw[z]at hk;cases hk
  obtain⟨c,hc⟩:=I.ok.has x (.inl hk);obtain⟨w',z⟩:=I.cell x c hc;refine wpAny_storeName_cell I.ok.kind hk hc z (λh' hc' hs=>?_);obtain⟨oc,hoc,Zyj⟩:=id z;refine h { s with heap:=h' } ⟨I.ok,I.os,I.bare,⟨λb o e n hb hx=>?_,λb o e n hb hx=>?_,I.base.free,λb o e hx=>?_,I.base.tups,I.base.N5,I.base.P0⟩,⟨m,hn.sameBut hs (Ne.symm (cne x c hc)),λj y v' e1 e2 e3=>?_⟩,λy c' e=>?_,I.free,I.vO,λp hp=>?_,tracked ⟨oc,hoc,I.vO x c hc⟩ hs,by simpa using I.len⟩ ⟨c,hs,.inr hc⟩
  ·exact(hs.2 b (Nat.ne_of_lt (Nat.lt_of_lt_of_le (Heap.lt_size e) (I.ok.cab x c hfn hc)))).trans (I.base.keep b o e n hb hx)
  ·obtain⟨sl,e1⟩:=I.base.slot b o e n hb hx;exact⟨sl,(hs.2 b (Nat.ne_of_lt (Nat.lt_of_lt_of_le (Heap.lt_size e) (I.ok.cab x c hfn hc)))).trans e1⟩
  ·obtain⟨o',e1⟩:=I.base.there b o e hx;exact⟨o',(hs.2 b (Nat.ne_of_lt (Nat.lt_of_lt_of_le (Heap.lt_size e) (I.ok.cab x c hfn hc)))).trans e1⟩
  ·by_cases hj:j=i
   ·subst hj;rw[hi]at e1;cases e1;rw[List.getElem?_set_self hiσ]at e2;cases e2;exact⟨u,r,.inr ⟨.inl hk,c,hc,hc'⟩⟩
   ·rw[List.getElem?_set_ne (Ne.symm hj)]at e2;obtain⟨u',r',q⟩:=hl j y v' e1 e2 e3;refine⟨u',r',?_⟩;rcases q with q | ⟨k,c',e,z'⟩
    ·exact .inl q
    ·refine .inr ⟨k,c',e,z'.sameBut hs ?_⟩;rintro rfl;exact hj (Zad hN e1 (I.ok.inj _ _ _ e hc ▸ hi))
  ·by_cases hcc:c'=c
   ·subst hcc;exact⟨_,hc'⟩
   ·obtain⟨w2,z2⟩:=I.cell y c' e;exact⟨w2,z2.sameBut hs hcc⟩
  ·obtain⟨e,n,ne,nf,d⟩:=I.pin p hp;refine⟨(hs.2 p.1 ?_).trans e,n,ne,nf,d⟩;intro q;rw[q,hoc]at e;have q':oc=p.2:=Option.some.inj e;exact d w' (by rw[<- q'];exact Zyj)
theorem Ga{M:Model}{A:Around}{E:Value->Shared->Prop}{i:Nat}{x:Str}{v:V}{u:Value}{Q:Unit->Shared->Prop}(I:Inv X pins σ H s)(hN:X.N.Nodup)(hi:X.N[i]? =some x)(hx:Loc X.env.scope x)(r:RelV v u)
  (h:∀s',Inv X pins (σ.set i (some v)) H s'->Q () s') (hf:X.fn x=true\/X.env.scope.names.lookup x=some .local:=by first | exact .inl rfl | exact .inr rfl | assumption):wpAny M A (storeName X.env x u) Q E s:=
 Zh1 I hN hi hx r (λs' I' _=>h s' I') hf
theorem Inv.call'{s':Shared}{ch:List Addr}(I:Inv X pins σ H s)(ho:s'.os=s.os)(u:Un (frs X.stack) ch H H' s.heap s'.heap)(hok:uE X.prog X.w H' s'.heap)(hg:AllBare s'.gens)
  (hch:∀b∈ch,(b∈X.ex\/X.s₀.heap.objs.size<=b)/\b≠X.env.locals/\(∀x c,X.env.cells.lookup x=some c->c≠b)/\∀p∈X.pn++pins,p.1≠b):Inv X pins σ H' s':=by
 obtain⟨h',g',d',t',o'⟩:=s';have e:o'=s.os:=ho;subst e;exact I.call (g':=g') (t':=t') (d':=d') u hok hg hch
end
abbrev XK:=Value->Option Addr->Hp->Prop
abbrev St:=List (Option V)
abbrev VK:=V->Hp->Prop
abbrev TE:=St->Hp->VK->Prop
abbrev TT:=St->Hp->(Bool->Hp->Prop)->Prop
abbrev TA:=St->Hp->(List V->Hp->Prop)->Prop
structure Ends where
 nx:St->Hp->Prop
 rt:VK
 bk:St->Hp->Prop:=λ_ _=>False
 ct:St->Hp->Prop:=λ_ _=>False
abbrev TS:=Ends->St->Hp->Prop
def EP(X:Cx)(pins:List (Addr×Obj))(σ:St)(Q:VK)(u:Value)(s':Shared):Prop:=∃v H',Inv X pins σ H' s'/\RelV v u/\Q v H'
def TP(X:Cx)(pins:List (Addr×Obj))(σ:St)(Q:Bool->Hp->Prop)(b:Bool)(s':Shared):Prop:=∃H',Inv X pins σ H' s'/\Q b H'
def AP(X:Cx)(pins:List (Addr×Obj))(σ:St)(Q:List V->Hp->Prop)(us:List Value)(s':Shared):Prop:=∃vs H',Inv X pins σ H' s'/\Vals vs us/\Q vs H'
def SP(X:Cx)(pins:List (Addr×Obj))(D:Ends)(f:Flow)(s':Shared):Prop:=
 match f with
 | .next=>∃ σ' H',Inv X pins σ' H' s'/\D.nx σ' H'
 | .brk=>∃ σ' H',Inv X pins σ' H' s'/\D.bk σ' H'
 | .cont=>∃ σ' H',Inv X pins σ' H' s'/\D.ct σ' H'
 | .ret u=>∃v σ' H',Inv X pins σ' H' s'/\RelV v u/\D.rt v H'
def PE(X:Cx)(e:Expr)(t:TE):Prop:=
 ∀(pins:List (Addr×Obj)) (s:Shared) (σ:St) (H:Hp) (Q:VK),Inv X pins σ H s->t σ H Q->wpAny (model X.prog X.w) X.A (eval e X.env) (EP X pins σ Q) X.xe s
def PT(X:Cx)(e:Expr)(t:TT):Prop:=
 ∀(pins:List (Addr×Obj)) (s:Shared) (σ:St) (H:Hp) (Q:Bool->Hp->Prop),Inv X pins σ H s->t σ H Q->wpAny (model X.prog X.w) X.A (isTrue e X.env (eval e X.env)) (TP X pins σ Q) X.xe s
def PW(X:Cx)(e:Expr)(t:TT):Prop:=
 ∀(whole:Sem Value) (pins:List (Addr×Obj)) (s:Shared) (σ:St) (H:Hp) (Q:Bool->Hp->Prop),Inv X pins σ H s->t σ H Q->wpAny (model X.prog X.w) X.A (isTrue e X.env whole) (TP X pins σ Q) X.xe s
theorem PW.pt{X:Cx}{e:Expr}{t:TT}(h:PW X e t):PT X e t:=h _
def PA(X:Cx)(es:List Expr)(t:TA):Prop:=
 ∀(pos:Pos) (pins:List (Addr×Obj)) (s:Shared) (σ:St) (H:Hp) (Q:List V->Hp->Prop),Inv X pins σ H s->t σ H Q->wpAny (model X.prog X.w) X.A (spliced (backTo pos (starEach es X.env))) (AP X pins σ Q) X.xe s
def PS(X:Cx)(st:Stmt)(t:TS):Prop:=
 ∀(pins:List (Addr×Obj)) (s:Shared) (σ:St) (H:Hp) (D:Ends),Inv X pins σ H s->t D σ H->wpAny (model X.prog X.w) X.A (exec st X.env) (SP X pins D) X.xe s
def R1(X:Cx)(st:List Stmt)(t:TS):Prop:=
 ∀(pins:List (Addr×Obj)) (s:Shared) (σ:St) (H:Hp) (D:Ends),Inv X pins σ H s->t D σ H->wpAny (model X.prog X.w) X.A (execs st X.env) (SP X pins D) X.xe s
theorem lU{α:Type}{t:Sem α}{Q Q':α->Shared->Prop}{M:Model}{A:Around}{E:Value->Shared->Prop}{s:Shared}(h:wpAny M A t Q E s)(hQ:∀a s,Q a s->Q' a s):wpAny M A t Q' E s:=wpAny_mono h hQ λ_ _ x=>x
end L2
namespace L2
open PySem PySem.Spec PyProof.Rows
section
variable {X:Cx}
def ak(i:Nat):TE:=λσ H Q=>∃v,σ[i]? =some (some v)/\Q v H
def tC(v:V):TE:=λ_ H Q=>Q v H
theorem Zks{i:Nat}{x:Str}{pos:Pos}(hN:X.N[i]? =some x)(hv:Vis X.env.scope x)(hd:(x == ("__debug__":Str))=false:=by decide)(hcd:(x == ("__classdict__":Str))=false:=by decide):PE X (.Name x pos) (ak i):=by
 intro pins s σ H Q I h;obtain⟨v,e,h⟩:=h;obtain⟨m,hn,hl⟩:=I.loc;obtain⟨u,r,l⟩:=hl i x v hN e hv;have fin:EP X pins σ Q u s:=⟨v,H,I,r,h⟩;rcases l with ⟨hk,hm⟩ | ⟨hk,c,hc,hcell⟩
 ·exact wpAny_Name (wpAny_loadName_local I.ok.kind hk hn hm fin) hd
 ·rcases hk with hk | hk
  ·exact wpAny_Name (wpAny_loadName_cell I.ok.kind hk hc hcell fin) hd
  ·exact wpAny_Name (wpAny_loadName_free I.ok.kind hk hc hcell fin hcd) hd
theorem aN{i j pos}:PE X (.Constant (.int i) j pos) (tC (.int i)):=λ_ _ _ H _ I h=>wpAny_Constant_int ⟨.int i,H,I.tok _,⟨_,rfl⟩,h⟩
theorem m8{b j pos}:PE X (.Constant (.bool b) j pos) (tC (.bl b)):=λ_ _ _ H _ I h=>Constant_bool ⟨.bl b,H,I,rfl,h⟩
theorem nY{j pos}:PE X (.Constant .none j pos) (tC .non):=λ_ _ _ H _ I h=>Constant_none ⟨.non,H,I,rfl,h⟩
theorem dI{x j pos}:PE X (.Constant (.str x) j pos) (tC (.str x)):=λ_ _ _ H _ I h=>Calls.Constant_str ⟨.str x,H,I.tok _,⟨_,rfl⟩,h⟩
def Gl(X:Cx)(x:Str):Prop:=X.env.kindOf x=some .globalImplicit
theorem jT{E:Value->Shared->Prop}{pins:List (Addr×Obj)}{s:Shared}{σ:St}{H:Hp}{x:Str}{u:Value}{pos:Pos}{Q:Value->Shared->Prop}(I:Inv X pins σ H s)(hg:Gl X x)(hm:X.mg x=some u)(h:Q u s)
  (hd:(x == ("__debug__":Str))=false:=by decide):wpAny (model X.prog X.w) X.A (eval (.Name x pos) X.env) Q E s:=
 Calls.Name_function_global I.ok.kind hg (Calls.loadGlobal_global (by rw[I.ok.glob];exact I.mod.glob.keeps I.bk) hm h) hd
theorem BZ{E:Value->Shared->Prop}{pins:List (Addr×Obj)}{s:Shared}{σ:St}{H:Hp}{x:Str}{u:Value}{pos:Pos}{Q:Value->Shared->Prop}(I:Inv X pins σ H s)(hg:Gl X x)(hm:X.mg x=none)(hv:bootBuiltins x=some u)(h:Q u s)
  (hn:x≠"__name__":=by decide) (hd:(x == ("__debug__":Str))=false:=by decide):wpAny (model X.prog X.w) X.A (eval (.Name x pos) X.env) Q E s:=by
 obtain⟨mb,h1,h2⟩:=I.mod.blt;exact Calls.Name_function_global I.ok.kind hg (Calls.loadGlobal_builtin (by rw[I.ok.glob];exact I.mod.glob.keeps I.bk) hm (by rw[I.ok.blt];exact h1.keeps I.bk) ((h2 x hn).trans hv) h) hd
theorem Zp3{x:Str}{v:V}{u:Value}{pos:Pos}(hg:Gl X x)(hm:X.mg x=some u)(r:RelV v u)(hd:(x == ("__debug__":Str))=false:=by decide):PE X (.Name x pos) (tC v):=
 λ_ _ _ H _ I h=>jT I hg hm ⟨v,H,I,r,h⟩ hd
theorem zB{x:Str}{v:V}{u:Value}{pos:Pos}(hg:Gl X x)(hm:X.mg x=none)(hv:bootBuiltins x=some u)(r:RelV v u)(hn:x≠"__name__":=by decide)(hd:(x == ("__debug__":Str))=false:=by decide):PE X (.Name x pos) (tC v):=
 λ_ _ _ H _ I h=>BZ I hg hm hv ⟨v,H,I,r,h⟩ hn hd
variable {a b:Expr}{ta tb:TE}{pos:Pos}
def PC(X:Cx)(op:CmpOp)(a b:Expr)(t:TE):Prop:=
 ∀(pins:List (Addr×Obj)) (s:Shared) (σ:St) (H:Hp) (Q:VK),Inv X pins σ H s->t σ H Q->
  wpAny (model X.prog X.w) X.A (eval a X.env) (λv s₁=>wpAny (model X.prog X.w) X.A (eval b X.env) (λu s₂=>wpAny (model X.prog X.w) X.A (compareOp op v u) (EP X pins σ Q) X.xe s₂) X.xe s₁) X.xe s
theorem Zld(b:Expr){op:CmpOp}(h:op≠.In)(h2:op≠.NotIn):behindInMarks op b=false:=by
 have e1:(op == CmpOp.In)=false:=by cases op<;>first | rfl | exact absurd rfl h
 have e2:(op == CmpOp.NotIn)=false:=by cases op<;>first | rfl | exact absurd rfl h2
 cases b<;>simp[behindInMarks,e1,e2]
def tB(t:TE):TT:=λσ H Q=>t σ H λx H1=>∃c,x=.bl c/\Q c H1
theorem Zs0{op:CmpOp}{t:TE}(h:PC X op a b t)(h1:behindInMarks op b=false:=by first | exact Zld _ (by decide) (by decide) | rfl):PT X (.Compare a [op] [b] pos) (tB t):=by
 intro pins s σ H Q I hw;refine wpAny_isTrue_Compare1 (lU (h pins s σ H _ I hw) λv s1 h1=>lU h1 λu s2 h2=>lU h2 λc s3 ⟨x,H1,I1,r1,q1⟩=>?_) h1;obtain⟨d,rfl,q⟩:=q1;cases r1;exact wpAny_truthy_bool ⟨H1,I1,q⟩
theorem lF{e:Expr}{t:TE}(h:PE X e t)(he:∀whole,isTrue e X.env whole=(do let v <- whole;standAt e.pos;holding [v] (truthy v)):=by intro _;rfl):PT X e (tB t):=by
 intro pins s σ H Q I hw;refine isTrue_plain (lU (h pins s σ H _ I hw) λv s1 ⟨x,H1,I1,r1,q1⟩=>?_) (he _);obtain⟨d,rfl,q⟩:=q1;cases r1;exact wpAny_truthy_bool ⟨H1,I1,q⟩
variable {tA tB':TT}{rest:List Expr}
def Zc7(t u:TT):TT:=λσ H Q=>t σ H λc H1=>if c=true then u σ H1 Q else Q false H1
def RZ(t u:TT):TT:=λσ H Q=>t σ H λc H1=>if c=true then Q true H1 else u σ H1 Q
def yh(t:TT):TT:=λσ H Q=>t σ H λc H1=>Q (!c) H1
theorem Gn(ha:PT X a tA):PW X (.BoolOp .And [a] pos) tA:=by
 intro wh pins s σ H Q I h;refine isTrue_and (lU (ha pins s σ H Q I h) λc s1 e=>?_);cases c with
 | true=>exact isTrue_and_nil e
 | false=>exact e
theorem rY(ha:PT X a tA):PW X (.BoolOp .Or [a] pos) tA:=by
 intro wh pins s σ H Q I h;refine isTrue_or (lU (ha pins s σ H Q I h) λc s1 e=>?_);cases c with
 | false=>exact isTrue_or_nil e
 | true=>exact e
theorem Qy(ha:PT X a tA)(hb:PW X (.BoolOp .And (b::rest) pos) tB'):PW X (.BoolOp .And (a::b::rest) pos) (Zc7 tA tB'):=by
 intro wh pins s σ H Q I h;refine isTrue_and (lU (ha pins s σ H _ I h) λc s1 ⟨H1,I1,q1⟩=>?_);cases c with
 | true=>exact hb wh pins s1 σ H1 Q I1 q1
 | false=>exact⟨H1,I1,q1⟩
theorem qF(ha:PT X a tA)(hb:PW X (.BoolOp .Or (b::rest) pos) tB'):PW X (.BoolOp .Or (a::b::rest) pos) (RZ tA tB'):=by
 intro wh pins s σ H Q I h;refine isTrue_or (lU (ha pins s σ H _ I h) λc s1 ⟨H1,I1,q1⟩=>?_);cases c with
 | true=>exact⟨H1,I1,q1⟩
 | false=>exact hb wh pins s1 σ H1 Q I1 q1
theorem nW(ha:PT X a tA):PT X (.UnaryOp .Not a pos) (yh tA):=by
 intro pins s σ H Q I h;exact isTrue_not (ha pins s σ H (λc H1=>Q (!c) H1) I h)
def Lw(ta tb:TE):TE:=λσ H Q=>ta σ H λx H1=>∃c,x=.bl c/\if c=true then tb σ H1 Q else Q (.bl false) H1
def Zfj(ta:TE):TE:=λσ H Q=>ta σ H λx H1=>∃c,x=.bl c/\Q (.bl (!c)) H1
theorem JP{op}{t:TE}(h:PE X a t):PE X (.BoolOp op [a] pos) t:=λpins s σ H Q I hw=>BoolOp_one (h pins s σ H Q I hw)
theorem JS(ha:PE X a ta)(hb:PE X (.BoolOp .And (b::rest) pos) tb):PE X (.BoolOp .And (a::b::rest) pos) (Lw ta tb):=by
 intro pins s σ H Q I h;refine BoolOp_and (lU (ha pins s σ H _ I h) λv s1 ⟨x,H1,I1,r1,q1⟩=>?_);obtain⟨c,rfl,q1⟩:=q1;cases r1;refine wpAny_truthy_bool ?_;cases c with
 | true=>exact hb pins s1 σ H1 Q I1 q1
 | false=>exact⟨.bl false,H1,I1,rfl,q1⟩
theorem Zkt(ha:PE X a ta):PE X (.UnaryOp .Not a pos) (Zfj ta):=by
 intro pins s σ H Q I h;refine UnaryOp_ (lU (ha pins s σ H _ I h) λv s1 ⟨x,H1,I1,r1,q1⟩=>?_);obtain⟨c,rfl,q1⟩:=q1;cases r1;exact not_of (wpAny_truthy_bool ⟨.bl (!c),H1,I1,rfl,q1⟩)
def tIf(t:TT)(ta tb:TE):TE:=λσ H Q=>t σ H λc H1=>if c=true then ta σ H1 Q else tb σ H1 Q
theorem Zkx{c:Expr}(hc:PT X c tA)(ha:PE X a ta)(hb:PE X b tb):PE X (.IfExp c a b pos) (tIf tA ta tb):=by
 intro pins s σ H Q I h;refine wpAny_IfExp (lU (hc pins s σ H _ I h) λd s1 ⟨H1,I1,q1⟩=>?_);cases d with
 | true=>exact ha pins s1 σ H1 Q I1 q1
 | false=>exact hb pins s1 σ H1 Q I1 q1
end
end L2
namespace L2
open PySem PySem.Spec PyProof.Rows
def fj(K:aV)(H:Hp)(a:Addr)(xs:List V):Prop:=
 Rd H a (.lst xs)\/
  ∃(o:Obj) (its:Array Value) (n:Nat),K.lookup a=some o/\o.cls=.type "list"/\o.dict=none/\o.data=.seq its n/\its.size<=sizeLine/\Vals xs its.toList
def jE(K:aV)(H:Hp)(a:Addr)(xs:List V):Prop:=
 Rd H a (.tup xs)\/
  ∃(o:Obj) (its:Array Value) (n:Nat),K.lookup a=some o/\o.cls=.type "tuple"/\o.data=.seq its n/\its.size<=sizeLine/\Vals xs its.toList
def ZFw:Value->Option V
 | .none=>some .non
 | .bool b=>some (.bl b)
 | .int i _=>some (.int i)
 | .str x _=>some (.str x)
 | .bytes b _=>some (.byt b)
 | .float b _=>some (.flt b)
 | .ref a=>some (.ref a)
 | .type n=>some (.ty n)
 | _=>none
theorem RelV.abs{x:V}{u:Value}(r:RelV x u):ZFw u=some x:=by
 cases x with
 | non=>cases r;rfl
 | bl _=>cases r;rfl
 | int _=>obtain⟨t,rfl⟩:=r;rfl
 | str _=>obtain⟨t,rfl⟩:=r;rfl
 | byt _=>obtain⟨t,rfl⟩:=r;rfl
 | flt _=>obtain⟨t,rfl⟩:=r;rfl
 | ref _=>cases r;rfl
 | ty _=>cases r;rfl
theorem RelV.inj{x y:V}{u:Value}(r:RelV x u)(q:RelV y u):x=y:=Option.some.inj (r.abs.symm.trans q.abs)
theorem Vals.inj:∀{xs ys:List V}{us:List Value},Vals xs us->Vals ys us->xs=ys
 | _,_,_,.nil,.nil=>rfl
 | _,_,_,.cons r t,.cons r' t'=>by rw[r.inj r',Vals.inj t t']
section
variable {X:Cx}{pins:List (Addr×Obj)}{σ:St}{H:Hp}{s:Shared}{a:Addr}{xs ys:List V}
theorem fj.of{K:aV}(h:H a=some (.lst xs)):fj K H a xs:=.inl (.inl h)
theorem jE.of{K:aV}(h:H a=some (.tup xs)):jE K H a xs:=.inl (.inl h)
theorem Inv.list(I:Inv X pins σ H s)(h:fj X.K H a xs):∃its:List Value,Vals xs its/\PlainL s.heap a its.toArray/\xs.length<=sizeLine:=by
 rcases h with h | ⟨o,its,n,hk,hc,hd,hs,hz,r⟩
 ·obtain⟨z,its,n,r,e⟩:=h.ok I.hok;exact⟨its,r,⟨_,n,e,rfl,rfl,rfl⟩,z⟩
 ·refine⟨its.toList,r,⟨o,n,I.uY a o hk,hc,hd,by simpa using hs⟩,?_⟩;have e:=r.length;simp only[Array.length_toList]at e;omega
theorem Inv.tuple(I:Inv X pins σ H s)(h:jE X.K H a xs):∃its:List Value,Vals xs its/\IsTup s.heap a its.toArray/\xs.length<=sizeLine:=by
 rcases h with h | ⟨o,its,n,hk,hc,hs,hz,r⟩
 ·obtain⟨z,its,r,p⟩:=h.ok I.hok;exact⟨its,r,p,z⟩
 ·refine⟨its.toList,r,⟨o,I.uY a o hk,hc,n,by simpa using hs⟩,?_⟩;have e:=r.length;simp only[Array.length_toList]at e;omega
theorem Inv.BX(I:Inv X pins σ H s)(h:fj X.K H a xs)(h':fj X.K H a ys):xs=ys:=by
 obtain⟨its,r,⟨o,n,e,_,_,d⟩,_⟩:=I.list h;obtain⟨its',r',⟨o',n',e',_,_,d'⟩,_⟩:=I.list h';rw[e]at e';cases e';rw[d]at d'
 injection d' with d1 _
 have:its=its':=by simpa using congrArg Array.toList d1
 subst this;exact r.inj r'
theorem Inv.Zgz(I:Inv X pins σ H s)(h:jE X.K H a xs)(h':jE X.K H a ys):xs=ys:=by
 obtain⟨its,r,⟨o,e,_,n,d⟩,_⟩:=I.tuple h;obtain⟨its',r',⟨o',e',_,n',d'⟩,_⟩:=I.tuple h';rw[e]at e';cases e';rw[d]at d'
 injection d' with d1 _
 have:its=its':=by simpa using congrArg Array.toList d1
 subst this;exact r.inj r'
end
abbrev Cx.wish(X:Cx)(E:Value->Shared->Prop):Cx:={ X with xe:=E }
abbrev Cx.nox(X:Cx):Cx:=X.wish λ_ _=>False
theorem Cx.Ok.wish{X:Cx}(ok:X.Ok)(E:Value->Shared->Prop):(X.wish E).Ok:=
 ⟨ok.mod,ok.kind,ok.glob,ok.blt,ok.above,ok.inj,ok.has,ok.cab,ok.hd,ok.frames,ok.stk,ok.exf,ok.bs,ok.bsz,ok.Zab,ok.Zeu,ok.yw,ok.frf⟩
theorem Cx.Ok.Ao{X:Cx}{E:Value->Shared->Prop}(ok:(X.wish E).Ok):X.Ok:=
 ⟨ok.mod,ok.kind,ok.glob,ok.blt,ok.above,ok.inj,ok.has,ok.cab,ok.hd,ok.frames,ok.stk,ok.exf,ok.bs,ok.bsz,ok.Zab,ok.Zeu,ok.yw,ok.frf⟩
section
variable {X:Cx}{pins:List (Addr×Obj)}{σ:St}{H:Hp}{s:Shared}{E:Value->Shared->Prop}
theorem Inv.wish(I:Inv X pins σ H s)(E:Value->Shared->Prop):Inv (X.wish E) pins σ H s:=⟨I.ok.wish E,I.os,I.bare,I.base,I.loc,I.cell,I.free,I.vO,I.pin,I.hok,I.len⟩
theorem Inv.Ao(I:Inv (X.wish E) pins σ H s):Inv X pins σ H s:=⟨I.ok.Ao,I.os,I.bare,I.base,I.loc,I.cell,I.free,I.vO,I.pin,I.hok,I.len⟩
theorem SP.Ao{D:Ends}{f:Flow}{s':Shared}(h:SP (X.wish E) pins D f s'):SP X pins D f s':=by
 cases f with
 | next=>obtain⟨σ',H',I,q⟩:=h;exact⟨σ',H',I.Ao,q⟩
 | brk=>obtain⟨σ',H',I,q⟩:=h;exact⟨σ',H',I.Ao,q⟩
 | cont=>obtain⟨σ',H',I,q⟩:=h;exact⟨σ',H',I.Ao,q⟩
 | ret u=>obtain⟨v,σ',H',I,r,q⟩:=h;exact⟨v,σ',H',I.Ao,r,q⟩
theorem R1.nox{st:List Stmt}{t:TS}(h:R1 X.nox st t):R1 X st t:=λpins s σ H D I hw=>
 wpAny_mono (h pins s σ H D (I.wish _) hw) (λ_ _ q=>q.Ao) λ_ _ z=>False.elim z
end
section
variable {X:Cx}{st:Stmt}{rest:List Stmt}{t u:TS}{e:Expr}{te:TE}{pos:Pos}
def fK:TS:=λD σ H=>D.nx σ H
def di(t u:TS):TS:=λD σ H=>t { D with nx:=u D } σ H
theorem dZ:R1 X [] fK:=λ_ _ σ H _ I h=>wpAny_execs_nil ⟨σ,H,I,h⟩
theorem au(h1:PS X st t)(h2:R1 X rest u):R1 X (st::rest) (di t u):=by
 intro pins s σ H D I h;refine wpAny_execs_cons (lU (h1 pins s σ H { D with nx:=u D } I h) λf s1 q=>?_);cases f with
 | next=>
  obtain⟨σ',H',I',q⟩:=q;exact h2 pins s1 σ' H' D I' q
 | ret v=>exact q
 | brk=>exact q
 | cont=>exact q
theorem bu(h1:PS X st t):R1 X [st] t:=by
 intro pins s σ H D I h;refine wpAny_execs_cons (lU (h1 pins s σ H D I h) λf s1 q=>?_);cases f with
 | next=>exact wpAny_execs_nil q
 | ret v=>exact q
 | brk=>exact q
 | cont=>exact q
def Zjo:TS:=λD σ H=>D.bk σ H
theorem Zki:PS X (.Break pos) Zjo:=λ_ _ σ H _ I h=>wpAny_Break ⟨σ,H,I,h⟩
theorem Inv.quiet{pins:List (Addr×Obj)}{σ:St}{H:Hp}{s:Shared}(I:Inv X pins σ H s):interactive X.env=false:=by simp[interactive,I.ok.kind]
def tL(te:TE):TS:=λD σ H=>te σ H λ_ H1=>D.nx σ H1
theorem oG(he:PE X e te)(hs:swapsWith e none pos.line X.env=pure false:=by rfl):PS X (.Expr e pos) (tL te):=by
 intro pins s σ H D I h;exact wpAny_Expr_any (lU (he pins s σ H _ I h) λv s1 ⟨x,H1,I1,r1,q1⟩=>⟨σ,H1,I1,q1⟩) I.quiet hs
def eG(te:TE):TS:=λD σ H=>te σ H D.rt
theorem dg(he:PE X e te):PS X (.Return (some e) pos) (eG te):=by
 intro pins s σ H D I h;exact wpAny_Return_some (lU (he pins s σ H _ I h) λv s1 ⟨x,H1,I1,r1,q1⟩=>⟨x,σ,H1,I1,r1,q1⟩)
def iW(c:TT)(t u:TS):TS:=λD σ H=>c σ H λb H1=>if b=true then t D σ H1 else u D σ H1
theorem fY{c:Expr}{a b:List Stmt}{tc:TT}(hc:PT X c tc)(ha:R1 X a t)(hb:R1 X b u):PS X (.If c a b pos) (iW tc t u):=by
 intro pins s σ H D I h;refine wpAny_If (lU (hc pins s σ H _ I h) λd s1 ⟨H1,I1,q1⟩=>?_);cases d with
 | true=>exact ha pins s1 σ H1 D I1 q1
 | false=>exact hb pins s1 σ H1 D I1 q1
def Zjn:TS:=λ_ _ _=>False
theorem Zkh:PS X st Zjn:=λ_ _ _ _ _ _ h=>h.elim
end
abbrev TG:=V->St->Hp->(St->Hp->Prop)->Prop
abbrev TGs:=List V->St->Hp->(St->Hp->Prop)->Prop
def PG(X:Cx)(target:Expr)(t:TG):Prop:=
 ∀(pins:List (Addr×Obj)) (s:Shared) (σ:St) (H:Hp) (v:V) (u:Value) (Q:St->Hp->Prop),Inv X pins σ H s->RelV v u->t v σ H Q->
  wpAny (model X.prog X.w) X.A (assign target X.env u) (λ_ s'=>∃ σ' H',Inv X pins σ' H' s'/\Q σ' H') X.xe s
def PGs(X:Cx)(ts:List Expr)(t:TGs):Prop:=
 ∀(pins:List (Addr×Obj)) (s:Shared) (σ:St) (H:Hp) (vs:List V) (us:List Value) (Q:St->Hp->Prop),Inv X pins σ H s->Vals vs us->t vs σ H Q->
  wpAny (model X.prog X.w) X.A (assignInOrder ((assignEach ts X.env).map (·.2)) us) (λ_ s'=>∃ σ' H',Inv X pins σ' H' s'/\Q σ' H') X.xe s
abbrev Zr3:=V->V->V->Hp->(Hp->Prop)->Prop
def Zwt(X:Cx)(t:Zr3):Prop:=
 ∀(pins:List (Addr×Obj)) (s:Shared) (σ:St) (H:Hp) (o i v:V) (ov iv u:Value) (Q:Hp->Prop),Inv X pins σ H s->RelV o ov->RelV i iv->RelV v u->t o i v H Q->
  wpAny (model X.prog X.w) X.A (setItem ov iv u) (λ_ s'=>∃H',Inv X pins σ H' s'/\Q H') X.xe s
section
variable {X:Cx}{pos:Pos}
def cX(i:Nat):TG:=λv σ H Q=>Q (σ.set i (some v)) H
theorem lQ{i:Nat}{x:Str}(hN:X.N.Nodup)(hi:X.N[i]? =some x)(hx:Loc X.env.scope x)(hf:X.fn x=true\/X.env.scope.names.lookup x=some .local:=by first | exact .inl rfl | exact .inr rfl | assumption):PG X (.Name x pos) (cX i):=by
 intro pins s σ H v u Q I r h;exact wpAny_assign_Name (Ga I hN hi hx r (λs' I'=>⟨_,H,I',h⟩) hf)
def Zn2:TGs:=λvs σ H Q=>vs=[]/\Q σ H
def HX(t:TG)(u:TGs):TGs:=λvs σ H Q=>∃v r,vs=v::r/\t v σ H λσ' H'=>u r σ' H' Q
theorem Om:PGs X [] Zn2:=by
 intro pins s σ H vs us Q I r h;obtain⟨e,h⟩:=h;subst e;cases r;exact assignInOrder_nil ⟨σ,H,I,h⟩
theorem tQ{e:Expr}{es:List Expr}{t:TG}{u:TGs}(h1:PG X e t)(h2:PGs X es u)
  (hs:(assignEach (e::es) X.env).map (·.2)=assign e X.env::(assignEach es X.env).map (·.2):=by rfl):PGs X (e::es) (HX t u):=by
 intro pins s σ H vs us Q I r h;obtain⟨v,vr,e1,h⟩:=h;subst e1;cases r with
 | cons r rr=>
  rw[hs];refine assignInOrder_cons (lU (h1 pins s σ H _ _ _ I r h) λ_ s1 ⟨σ1,H1,I1,q1⟩=>?_);exact h2 pins s1 σ1 H1 _ _ Q I1 rr q1
def Zn1(K:aV)(n:Nat)(t:TGs):TG:=λv σ H Q=>∃a xs,v=.ref a/\jE K H a xs/\xs.length=n/\t xs σ H Q
theorem Xk{es:List Expr}{k:Nat}{t:TGs}{n:Nat}(hc:X.calm=true)(h:PGs X es t)
  (hn:(assignEach es X.env).length=n:=by rfl) (hst:(assignEach es X.env).findIdx? (·.1)=none:=by rfl):PG X (.Tuple es k pos) (Zn1 X.K n t):=by
 intro pins s σ H v u Q I r hw;obtain⟨a,xs,e1,hq,hl,hw⟩:=hw;subst e1;cases r;obtain⟨its,rv,ht,hz⟩:=I.tuple hq;refine assign_Tuple_tuple (I.ok.hd hc) ht (by simp[hn,<- hl,rv.length]) hst λh' hx=>?_;have I1:Inv X pins σ H { s with heap:=h' }:=I.kept (t':=s.toks) λb o e=>hx b o (Nat.ne_of_lt (Heap.lt_size e)) e;exact h pins _ σ H xs _ Q I1 (by simpa using rv) hw
def Rn(to ti:TE)(t:Zr3):TG:=λv σ H Q=>to σ H λo H1=>ti σ H1 λi H2=>t o i v H2 λH3=>Q σ H3
theorem zA{o i:Expr}{to ti:TE}{t:Zr3}(ho:PE X o to)(hi:PE X i ti)(hs:Zwt X t)
  (ha:∀v,assign (.Subscript o i pos) X.env v=(do
   let ov <- holding [v] (eval o X.env)
   let iv <- holding [v,ov] (eval i X.env)
   standAt pos
   holding [v,ov,iv] (setItem ov iv v)
   release [v,ov,iv] []):=by intro _;rfl):PG X (.Subscript o i pos) (Rn to ti t):=by
 intro pins s σ H v u Q I r h;rw[ha];refine wpAny_bind (wpAny_holding (lU (ho pins s σ H _ I h) λov s1 ⟨x,H1,I1,r1,q1⟩=>?_));refine wpAny_bind (wpAny_holding (lU (hi pins s1 σ H1 _ I1 q1) λiv s2 ⟨y,H2,I2,r2,q2⟩=>?_));refine wpAny_bind (wpAny_standAt (wpAny_bind (wpAny_holding (lU (hs pins s2 σ H2 x y v ov iv u _ I2 r1 r2 r q2) λ_ s3 ⟨H3,I3,q3⟩=>?_))));exact wpAny_release ⟨σ,H3,I3,q3⟩
def eE(te:TE)(g:TG):TS:=λD σ H=>te σ H λx H1=>g x σ H1 D.nx
theorem zy{tg e:Expr}{te:TE}{g:TG}(he:PE X e te)(hg:PG X tg g)(hs:swapsWithSole [tg] e pos.line X.env=pure false:=by rfl)(hw:swappedStores [tg] e X.env=pure none:=by rfl)
  (h1:(assignEach [tg] X.env).map (·.2)=[assign tg X.env]:=by rfl):PS X (.Assign [tg] e pos) (eE te g):=by
 intro pins s σ H D I h;refine wpAny_Assign_stores (lU (he pins s σ H _ I h) λv s1 ⟨x,H1,I1,r1,q1⟩=>?_) hs hw;rw[h1];exact lU (hg pins s1 σ H1 x v _ I1 r1 q1) λ_ s2 q=>q
theorem Zd5{i:Nat}{x:Str}{e:Expr}{te:TE}{pos':Pos}(hN:X.N.Nodup)(hi:X.N[i]? =some x)(hx:Loc X.env.scope x)(he:PE X e te)(hs:swapsWith e (some (.Name x pos')) pos.line X.env=pure false:=by rfl)(hf:X.fn x=true\/X.env.scope.names.lookup x=some .local:=by first | exact .inl rfl | exact .inr rfl | assumption):
  PS X (.Assign [.Name x pos'] e pos) (eE te (cX i)):=by
 intro pins s σ H D I h;refine wpAny_Assign_Name (lU (he pins s σ H _ I h) λv s1 ⟨y,H1,I1,r1,q1⟩=>?_) hs;exact Ga I1 hN hi hx r1 (λs2 I2=>⟨_,H1,I2,q1⟩) hf
end
section
variable {X:Cx}{pos:Pos}
end
structure It where
 go:Nat->Hp->Prop
 Zq:Nat->Hp->V->Hp->Prop
 stop:Nat->Hp->Prop
def uF(X:Cx)(pins:List (Addr×Obj))(H:Hp)(b:Addr):Prop:=
 H b=none/\b≠X.env.locals/\b∉X.fs/\(b∈X.ex\/X.s₀.heap.objs.size<=b)/\(∀x c,X.env.cells.lookup x=some c->c≠b)/\∀p∈X.pn++pins,p.1≠b
theorem Inv.Zei{X:Cx}{pins:List (Addr×Obj)}{σ:St}{H H':Hp}{s:Shared}{b:Addr}(I:Inv X pins σ H s)(hb:s.heap.objs.size<=b)(hn:H' b=none):uF X pins H' b:=by
 refine⟨hn,Nat.ne_of_gt (Nat.lt_of_lt_of_le I.lt hb),I.Zxc hb,.inr (Nat.le_trans I.sz hb),λx c e z=>?_,λp hp z=>?_⟩
 ·obtain⟨v,q⟩:=I.cell x c e;exact absurd (Nat.lt_of_lt_of_le q.lt (by rw[z];exact hb)) (Nat.lt_irrefl _)
 ·exact absurd (Nat.lt_of_lt_of_le (Heap.lt_size (I.pin p hp).1) (by rw[z];exact hb)) (Nat.lt_irrefl _)
structure Turn(P:Program)(w:World)(K:aV)(tg:Expr)(J:It)(fp:List Addr)(it:Addr)(tn:Nat->Heap->Prop):Prop where
  mem:it∈fp
  obj:∀i h,tn i h->∀b∈fp,∃o,h.get? b=some o/\∀v,o.data≠.cell v
  keep:∀i h h',tn i h->(∀b∈fp,∀o,h.get? b=some o->h'.get? b=some o)->tn i h'
  item:∀(X:Cx),X.prog=P->X.w=w->X.K=K->X.calm=true->∀(i:Nat) (pins:List (Addr×Obj)) (s:Shared) (σ:St) (H:Hp) (E:Value->Shared->Prop),Inv X pins σ H s->(∀b∈fp,uF X pins H b)->tn i s.heap->J.go i H->
    wpAny (model P w) X.A (pyNext (.ref it)) (λr s1=>∃u,r=some u/\
      wpAny (model P w) X.A (letOwnedTupleGo tg (.ref it) u) (λ_ s2=>∃x H',Inv X pins σ H' s2/\RelV x u/\J.Zq i H x H'/\tn (i+1) s2.heap/\∀b∈fp,H' b=none) E s1) E s
  done:∀(X:Cx),X.prog=P->X.w=w->X.K=K->X.calm=true->∀(i:Nat) (pins:List (Addr×Obj)) (s:Shared) (σ:St) (H:Hp) (E:Value->Shared->Prop),Inv X pins σ H s->(∀b∈fp,uF X pins H b)->tn i s.heap->J.stop i H->
    wpAny (model P w) X.A (pyNext (.ref it)) (λr s1=>r=none/\Inv X pins σ H s1) E s
  self:∀(A:Around) (i:Nat) (s:Shared) (Q:Value->Shared->Prop) (E:Value->Shared->Prop),tn i s.heap->Q (.ref it) s->wpAny (model P w) A (pyIter (.ref it)) Q E s
abbrev TI:=St->Hp->(It->Hp->Prop)->Prop
def PIE(X:Cx)(pins:List (Addr×Obj))(σ:St)(tg:Expr)(R:It->Hp->Prop)(itv:Value)(s2:Shared):Prop:=
 ∃(it:Addr) (fp:List Addr) (tn:Nat->Heap->Prop) (J:It) (H':Hp),itv=.ref it/\Inv X pins σ H' s2/\Turn X.prog X.w X.K tg J fp it tn/\tn 0 s2.heap/\(∀b∈fp,uF X pins H' b)/\R J H'
def PI(X:Cx)(tg iter:Expr)(wi:TI):Prop:=
 ∀(pins:List (Addr×Obj)) (s:Shared) (σ:St) (H:Hp) (R:It->Hp->Prop),Inv X pins σ H s->wi σ H R->
  wpAny (model X.prog X.w) X.A (eval iter X.env) (λv s1=>wpAny (model X.prog X.w) X.A (pyIter v) (PIE X pins σ tg R) X.xe s1) X.xe s
theorem Zrf{M:Model}{A:Around}{E:Value->Shared->Prop}{s:Shared}{tg:Expr}{it:Addr}{u:Value}{o:Obj}{n:String}{vs:Array Value}{Q:Unit->Shared->Prop}(ho:s.heap.get? it=some o)(hc:o.cls=.type n)(hd:o.data=.fields vs)
    (hn:["enumerate","zip","dict_itemiterator","dict_reverseitemiterator","odict_iterator","itertools.zip_longest","itertools.pairwise"].contains n=false) (hQ:Q () s):wpAny M A (letOwnedTupleGo tg (.ref it) u) Q E s:=by
  unfold letOwnedTupleGo;cases tg<;>first
    | exact wpAny_pure hQ
    | (cases u<;>first
        | exact wpAny_pure hQ
        | (refine wpAny_bind (wpAny_load ho ?_)
           rw[hc,hd];show wpAny M A (if (["enumerate","zip","dict_itemiterator","dict_reverseitemiterator","odict_iterator","itertools.zip_longest","itertools.pairwise"].contains n && vs[0]? == some (rawInt _))=true then _ else _) Q E s;rw[if_neg (by intro h;rw[hn,Bool.false_and]at h;cases h)];exact wpAny_pure hQ))
def Itl(K:aV)(a:Addr):It:=
 ⟨λi H=>∃xs x,fj K H a xs/\xs[i]? =some x,λi H x H'=>H'=H/\∀xs,fj K H a xs->xs[i]? =some x,λi H=>∃xs,fj K H a xs/\xs.length<=i⟩
def Itr(lo:Int)(n:Nat):It:=⟨λi _=>i<n,λi H x H'=>H'=H/\x=.int (lo+i),λi _=>n<=i⟩
theorem Zgx{P:Program}{w:World}{K:aV}{tg:Expr}(a it:Addr):Turn P w K tg (Itl K a) [it] it (λi h=>h.IsListIter it a i) where
  mem:=by simp
  obj:=λi h st b hb=>by
    have e:b=it:=by simpa using hb
    subst e;obtain⟨o,e,c,d⟩:=st;exact⟨o,e,λv z=>by rw[d]at z;cases z⟩
  keep:=λi h h' st k=>st.at λo e=>k it (by simp) o e
  item:=by
    intro X hP hw hK hc i pins s σ H E I hf st hg;subst hP hw hK;obtain⟨xs,x,hq,hx⟩:=hg;obtain⟨its,rv,p,hz⟩:=I.list hq;obtain⟨u,hu,ru⟩:=rv.get hx;obtain⟨f0,f1,f2,f3,f4,f5⟩:=hf it (by simp);refine wpAny_pyNext_list_item st p.isList (x:=u) (by simpa using hu) λh' st' sb=>?_;have I1:Inv X pins σ H { s with heap:=h' }:=I.turned (t':=s.toks) (λb o hb e=>(sb.2 b hb).trans e) f0 f1 f3 f4 f5;obtain⟨o,e,c,d⟩:=id st';exact⟨u,rfl,Zrf (s:={ s with heap:=h' }) e c d (by decide) ⟨x,H,I1,ru,⟨rfl,λys hy=>by rw[I.BX hy hq];exact hx⟩,st',λb hb=>(hf b hb).1⟩⟩
  done:=by
    intro X hP hw hK hc i pins s σ H E I hf st hg;subst hP hw hK;obtain⟨xs,hq,hx⟩:=hg;obtain⟨its,rv,p,hz⟩:=I.list hq;obtain⟨f0,f1,f2,f3,f4,f5⟩:=hf it (by simp);have hl:=rv.length;exact wpAny_pyNext_list_end (I.ok.hd hc) st p.isList (by simp;omega) λh' eb=>⟨rfl,I.turned (t':=s.toks) (λb o hb e=>eb b o hb e) f0 f1 f3 f4 f5⟩
  self:=λ_ _ _ _ _ st h=>wpAny_pyIter_listiter st h
theorem Zbz{P:Program}{w:World}{K:aV}{tg:Expr}(it:Addr)(lo:Int)(n:Nat):Turn P w K tg (Itr lo n) [it] it (λi h=>IsRangeIter h it (lo+(i:Nat) * 1) ((n:Int) - (i:Nat)) 1) where
  mem:=by simp
  obj:=λi h st b hb=>by
    have e:b=it:=by simpa using hb
    subst e;exact⟨_,st,λv z=>by
      have z':Data.fields _=Data.cell v:=z;cases z'⟩
  keep:=λi h h' st k=>k it (by simp) _ st
  item:=by
    intro X hP hw hK hc i pins s σ H E I hf st hg;subst hP hw hK;obtain⟨f0,f1,f2,f3,f4,f5⟩:=hf it (by simp);have W:=Walks.range (prog:=X.prog) (w:=X.w) (I.ok.hd hc) it lo 1 n;refine W.item i s _ _ hg st λv h' tk hv st' kk=>?_;obtain⟨t,rfl⟩:=hv;have I1:Inv X pins σ H { s with heap:=h',toks:=tk }:=I.turned (λb o hb e=>kk b o (by simpa using hb) e) f0 f1 f3 f4 f5;refine⟨_,rfl,Zrf (s:={ s with heap:=h',toks:=tk }) (n:="range_iterator") st' rfl rfl (by decide) ⟨.int (lo+i),H,I1,⟨t,?_⟩,⟨rfl,rfl⟩,st',λb hb=>(hf b hb).1⟩⟩;rw[Int.mul_one]
  done:=by
    intro X hP hw hK hc i pins s σ H E I hf st hg;subst hP hw hK;obtain⟨f0,f1,f2,f3,f4,f5⟩:=hf it (by simp);exact wpAny_pyNext_range_end (I.ok.hd hc) st (by have:n<=i:=hg;omega) λh' eb=>⟨rfl,I.turned (t':=s.toks) (λb o hb e=>eb b o hb e) f0 f1 f3 f4 f5⟩
  self:=λ_ _ _ _ _ st h=>wpAny_pyIter_rangeiter st h
end L2
namespace L2
open PySem PySem.Spec PyProof.Rows
section
variable {X:Cx}{tg:Expr}
def uK(K:aV)(tl:TE):TI:=λσ H R=>tl σ H λx H1=>∃a,x=.ref a/\(∃xs,fj K H1 a xs)/\R (Itl K a) H1
theorem oH{l:Expr}{tl:TE}(hl:PE X l tl):PI X tg l (uK X.K tl):=by
 intro pins s σ H R I h;refine lU (hl pins s σ H _ I h) λv s1 ⟨x,H1,I1,r1,q1⟩=>?_;obtain⟨a,e,⟨xs,hq⟩,q⟩:=q1;subst e;cases r1;obtain⟨its,rv,p,hz⟩:=I1.list hq;refine wpAny_pyIter_list p.isList ?_;refine⟨s1.heap.objs.size,[s1.heap.objs.size],_,_,H1,rfl,I1.kept (t':=s1.toks) λb o e=>Heap.get?_push_of_some _ e,Zgx a _,⟨_,Heap.get?_push_size _ rfl,rfl,rfl⟩,λb hb=>?_,q⟩;have e:b=s1.heap.objs.size:=by simpa using hb
 subst e;exact I1.Zei (Nat.le_refl _) (I1.hok.fresh (Nat.le_refl _))
theorem Z2{pins:List (Addr×Obj)}{σ:St}{H:Hp}{s:Shared}{R:It->Hp->Prop}{E:Value->Shared->Prop}{lo hi:Int}{t u v:Tok}{tk:Nat}(I:Inv X pins σ H s)(h1:-(2 ^ 62)<=lo)(h2:lo<2 ^ 62)(h3:-(2 ^ 62)<=hi)(h4:hi<2 ^ 62)
  (q:R (Itr lo (hi - lo).toNat) H):wpAny (model X.prog X.w) X.A (pyIter (.ref s.heap.objs.size)) (PIE X pins σ tg R) E { s with heap:=s.heap.push { cls:=.type "range",data:=.fields #[.int lo t,.int hi u,.int 1 v] },toks:=tk }:=by
 refine wpAny_pyIter_range (IsRange.new ..) (small_one h1 h2 h3 h4) ?_;have I1:Inv X pins σ H { s with heap:=s.heap.push { cls:=.type "range",data:=.fields #[.int lo t,.int hi u,.int 1 v] },toks:=tk }:=I.kept λb o e=>Heap.get?_push_of_some _ e;refine⟨(s.heap.push { cls:=.type "range",data:=.fields #[.int lo t,.int hi u,.int 1 v] }).objs.size,[(s.heap.push { cls:=.type "range",data:=.fields #[.int lo t,.int hi u,.int 1 v] }).objs.size],_,_,H,rfl,
  I1.kept (t':=tk) λb o e=>Heap.get?_push_of_some _ e,Zbz _ lo (hi - lo).toNat,?_,λb hb=>?_,q⟩
 ·have e1:lo+((0:Nat):Int) * 1=lo:=by simp
  have e2:(((hi - lo).toNat:Nat):Int) - ((0:Nat):Int)=Builtin.Range.rangeSize lo hi 1:=by rw[rangeSize_one];split<;>omega
  show IsRangeIter _ _ (lo+((0:Nat):Int) * 1) ((((hi - lo).toNat:Nat):Int) - ((0:Nat):Int)) 1;rw[e1,e2];exact Heap.get?_push_size _ rfl
 ·have e:b=(s.heap.push { cls:=.type "range",data:=.fields #[.int lo t,.int hi u,.int 1 v] }).objs.size:=by simpa using hb
  subst e;exact I1.Zei (Nat.le_refl _) (I1.hok.fresh (Nat.le_refl _))
def Ri(ta:TA):TI:=λσ H R=>ta σ H λvs H1=>∃j:Int,vs=[.int j]/\-(2 ^ 62)<=j/\j<2 ^ 62/\R (Itr 0 j.toNat) H1
def Zml(ta:TA):TI:=λσ H R=>ta σ H λvs H1=>∃i j:Int,vs=[.int i,.int j]/\(-(2 ^ 62)<=i/\i<2 ^ 62/\-(2 ^ 62)<=j/\j<2 ^ 62)/\R (Itr i (j - i).toNat) H1
theorem ym{a:Expr}{ta:TA}{p pos:Pos}(hg:Gl X "range")(hm:X.mg "range"=none)(ha:PA X [a] ta)(hs:starEach [a] X.env=[(false,eval a X.env)]:=by rfl):PI X tg (.Call (.Name "range" p) [a] [] pos) (Ri ta):=by
 intro pins s σ H R I h;refine Call_ (BZ I hg hm boot_range (PyProof.Rows.callWith_type1 (lU (ha pos pins s σ H _ I h) λus s1 ⟨vs,H1,I1,r1,q1⟩=>?_) hs rfl));obtain⟨j,e,q1,q2,q⟩:=q1;subst e;cases r1 with
 | cons r rr=>
  cases rr;obtain⟨t,rfl⟩:=r;exact call_range_1 (Z2 I1 (by omega) (by omega) q1 q2 (by simpa using q))
theorem Zhe{a b:Expr}{ta:TA}{p pos:Pos}(hg:Gl X "range")(hm:X.mg "range"=none)(ha:PA X [a,b] ta)(hs:starEach [a,b] X.env=[(false,eval a X.env),(false,eval b X.env)]:=by rfl)(hs2:starEach [b] X.env=[(false,eval b X.env)]:=by rfl):
  PI X tg (.Call (.Name "range" p) [a,b] [] pos) (Zml ta):=by
 intro pins s σ H R I h;refine Call_ (BZ I hg hm boot_range (PyProof.Rows.callWith_type1 (lU (ha pos pins s σ H _ I h) λus s1 ⟨vs,H1,I1,r1,q1⟩=>?_) (by rw[hs,hs2]) (by rw[hs2];rfl)));obtain⟨i,j,e,⟨q1,q2,q3,q4⟩,q⟩:=q1;subst e;cases r1 with
 | cons r rr=>
  cases rr with
  | cons r' rr=>
   cases rr;obtain⟨t,rfl⟩:=r;obtain⟨t',rfl⟩:=r';exact call_range_2 (Z2 I1 q1 q2 q3 q4 q)
def Ni(wi:TI)(g:TG)(tb:TS):TS:=λD σ H=>wi σ H λJ H1=>∃W:Nat->Nat->St->Hp->Prop,(∃m,W 0 m σ H1)/\∀i m σ H,W i m σ H->
 (J.stop i H/\D.nx σ H)\/(J.go i H/\∃N:St->Hp->Prop,(∀ σ' H',N σ' H'->∃m',m'<m/\W (i+1) m' σ' H')/\∀x H',J.Zq i H x H'->g x σ H' λσ2 H2=>tb { D with nx:=N,ct:=N,bk:=D.nx } σ2 H2)
def Fd(fp:List Addr)(h:Heap):List (Addr×Obj):=fp.filterMap λb=>(h.get? b).map λo=>(b,o)
theorem vL{fp:List Addr}{h:Heap}{b:Addr}{o:Obj}(hb:b∈fp)(e:h.get? b=some o):(b,o)∈Fd fp h:=List.mem_filterMap.mpr ⟨b,hb,by rw[e];rfl⟩
theorem Vo{fp:List Addr}{h:Heap}{p:Addr×Obj}(hp:p∈Fd fp h):p.1∈fp/\h.get? p.1=some p.2:=by
 obtain⟨b,hb,e⟩:=List.mem_filterMap.mp hp;cases q:h.get? b with
 | none=>rw[q]at e;cases e
 | some o=>
  rw[q]at e;have e':(b,o)=p:=Option.some.inj e;subst e';exact⟨hb,q⟩
theorem Inv.pinned{pins:List (Addr×Obj)}{σ:St}{H:Hp}{s:Shared}{fp:List Addr}(I:Inv X pins σ H s)(hf:∀b∈fp,uF X pins H b)(ho:∀b∈fp,∃o,s.heap.get? b=some o/\∀v,o.data≠.cell v):Inv X (pins++Fd fp s.heap) σ H s:=
 I.zz λp hp=>(List.mem_append.mp hp).elim (λz=>I.pin p (List.mem_append_right _ z)) λz=>by
  obtain⟨hb,e⟩:=Vo z;obtain⟨f0,f1,f2,_⟩:=hf p.1 hb;obtain⟨o,e',d⟩:=ho p.1 hb;rw[e]at e';cases e';exact⟨e,f0,f1,f2,d⟩
theorem Inv.Aq{pins pl:List (Addr×Obj)}{σ:St}{H:Hp}{s:Shared}(I:Inv X (pins++pl) σ H s):Inv X pins σ H s:=I.zz λp hp=>I.pin p (List.mem_append_right _ (List.mem_append_left _ hp))
theorem xO{iter:Expr}{body:List Stmt}{wi:TI}{g:TG}{tb:TS}{pos:Pos}(hp:PassesOwn (model X.prog X.w) X.A X.env X.xe)(hc:X.calm=true)(hi:PI X tg iter wi)(hg:PG X tg g)(hb:R1 X body tb)
  (hs:∀x,foldedSetIterable iter X.env x=pure x:=by intro _;rfl):PS X (.For tg iter body [] pos) (Ni wi g tb):=by
 intro pins s σ H D I h;refine wpAny_For (lU (hi pins s σ H _ I h) λv s1 h1=>lU h1 λitv s2 h2=>?_) hs;obtain⟨it,fp,tn,J,H2,e,I2,T,st2,f2,W,⟨m0,w0⟩,turn⟩:=h2;subst e;have stat:∀{H':Hp},(∀b∈fp,H' b=none)->∀b∈fp,uF X pins H' b:=λhn b hb=>⟨hn b hb,(f2 b hb).2⟩;refine codeAny_forLoop_any (λn s'=>∃i σ' H',Inv X pins σ' H' s'/\tn i s'.heap/\(∀b∈fp,H' b=none)/\W i n σ' H') ?_ m0 ⟨0,σ,H2,I2,st2,λb hb=>(f2 b hb).1,w0⟩;rintro n s3 ⟨i,σ3,H3,I3,st3,fr3,w3⟩;rcases turn i n σ3 H3 w3 with ⟨stop,qn⟩ | ⟨go,N,hN,step⟩
 ·refine wpAny_passesOwn hp (lU (T.done X rfl rfl rfl hc i pins s3 σ3 H3 X.xe I3 (stat fr3) st3 stop) λr s4 ⟨hr,I4⟩=>?_);subst hr;exact wpAny_execs_nil ⟨σ3,H3,I4,qn⟩
 ·refine wpAny_passesOwn hp (lU (T.item X rfl rfl rfl hc i pins s3 σ3 H3 X.xe I3 (stat fr3) st3 go) λr s4 ⟨u,hr,h4⟩=>?_);subst hr;refine wpAny_passesOwn hp (lU h4 λ_ s5 ⟨x,H5,I5,r5,y5,st5,fr5⟩=>?_);have I5':=I5.pinned (stat fr5) (T.obj _ _ st5);refine wpAny_passesOwn hp (lU (hg _ s5 σ3 H5 x u _ I5' r5 (step x H5 y5)) λ_ s6 ⟨σ6,H6,I6,q6⟩=>?_);refine wpAny_passesOwn hp (lU (hb _ s6 σ6 H6 _ I6 q6) λf s7 q7=>?_);have again:∀{σ7:St}{H7:Hp},Inv X (pins++Fd fp s5.heap) σ7 H7 s7->N σ7 H7->∃m,m<n/\∃i σ' H',Inv X pins σ' H' s7/\tn i s7.heap/\(∀b∈fp,H' b=none)/\W i m σ' H':=λ{σ7 H7} I7 n7=>by
   obtain⟨m',hm,w7⟩:=hN σ7 H7 n7;refine⟨m',hm,i+1,σ7,H7,I7.Aq,T.keep _ _ _ st5 λb hb o e=>(I7.pin (b,o) (List.mem_append_right _ (List.mem_append_right _ (vL hb e)))).1,λb hb=>?_,w7⟩;obtain⟨o,e,d⟩:=T.obj _ _ st5 b hb;exact(I7.pin (b,o) (List.mem_append_right _ (List.mem_append_right _ (vL hb e)))).2.1
  cases f with
  | next=>obtain⟨σ7,H7,I7,n7⟩:=q7;exact again I7 n7
  | cont=>obtain⟨σ7,H7,I7,n7⟩:=q7;exact again I7 n7
  | brk=>obtain⟨σ7,H7,I7,q7⟩:=q7;exact⟨σ7,H7,I7.Aq,q7⟩
  | ret v=>obtain⟨x7,σ7,H7,I7,r7,q7⟩:=q7;exact⟨x7,σ7,H7,I7.Aq,r7,q7⟩
end
theorem Zn4{K:aV}{a:Addr}{xs:List V}{g:TG}{tb:TS}{D:Ends}{σ:St}{H:Hp}(Pv:Nat->St->Hp->Prop)(h0:Pv 0 σ H)(hl:∀i σ H,i<=xs.length->Pv i σ H->fj K H a xs)
  (hs:∀i x σ H,xs[i]? =some x->Pv i σ H->g x σ H λσ2 H2=>tb { D with nx:=Pv (i+1),ct:=Pv (i+1),bk:=D.nx } σ2 H2) (hd:∀ σ H,Pv xs.length σ H->D.nx σ H):
  ∃W:Nat->Nat->St->Hp->Prop,(∃m,W 0 m σ H)/\∀i m σ H,W i m σ H->
   ((Itl K a).stop i H/\D.nx σ H)\/((Itl K a).go i H/\∃N:St->Hp->Prop,(∀ σ' H',N σ' H'->∃m',m'<m/\W (i+1) m' σ' H')/\∀x H',(Itl K a).Zq i H x H'->g x σ H' λσ2 H2=>tb { D with nx:=N,ct:=N,bk:=D.nx } σ2 H2):=by
 refine⟨λi m σ H=>m=xs.length - i/\i<=xs.length/\Pv i σ H,⟨xs.length,by simp,Nat.zero_le _,h0⟩,?_⟩;rintro i m σ H ⟨rfl,hi,p⟩;have q:=hl i σ H hi p
 by_cases hlt:i<xs.length
 ·refine .inr ⟨⟨xs,xs[i],q,by simp[hlt]⟩,Pv (i+1),λσ' H' p'=>⟨xs.length - (i+1),by omega,rfl,hlt,p'⟩,λx H' y=>?_⟩;obtain⟨e,y⟩:=y;subst e;exact hs i x σ _ (y xs q) p
 ·have e:i=xs.length:=by omega
  subst e;exact .inl ⟨⟨xs,q,Nat.le_refl _⟩,hd σ H p⟩
theorem Zin{lo:Int}{n:Nat}{g:TG}{tb:TS}{D:Ends}{σ:St}{H:Hp}(Pv:Nat->St->Hp->Prop)(h0:Pv 0 σ H)
  (hs:∀i σ H,i<n->Pv i σ H->g (.int (lo+i)) σ H λσ2 H2=>tb { D with nx:=Pv (i+1),ct:=Pv (i+1),bk:=D.nx } σ2 H2) (hd:∀ σ H,Pv n σ H->D.nx σ H):
  ∃W:Nat->Nat->St->Hp->Prop,(∃m,W 0 m σ H)/\∀i m σ H,W i m σ H->
   ((Itr lo n).stop i H/\D.nx σ H)\/((Itr lo n).go i H/\∃N:St->Hp->Prop,(∀ σ' H',N σ' H'->∃m',m'<m/\W (i+1) m' σ' H')/\∀x H',(Itr lo n).Zq i H x H'->g x σ H' λσ2 H2=>tb { D with nx:=N,ct:=N,bk:=D.nx } σ2 H2):=by
 refine⟨λi m σ H=>m=n - i/\i<=n/\Pv i σ H,⟨n,by simp,Nat.zero_le _,h0⟩,?_⟩;rintro i m σ H ⟨rfl,hi,p⟩
 by_cases hlt:i<n
 ·refine .inr ⟨hlt,Pv (i+1),λσ' H' p'=>⟨n - (i+1),by omega,rfl,hlt,p'⟩,λx H' y=>?_⟩;obtain⟨e,y⟩:=y;subst e y;exact hs i σ _ hlt p
 ·have e:i=n:=by omega
  subst e;exact .inl ⟨Nat.le_refl _,hd σ H p⟩
end L2
namespace L2
open PySem PySem.Spec PyProof.Rows
abbrev R2:=V->V->Hp->VK->Prop
def Ad(X:Cx)(f:Value->Value->Sem Value)(r:R2):Prop:=
 ∀(pins:List (Addr×Obj)) (s:Shared) (σ:St) (H:Hp) (x y:V) (v u:Value) (Q:VK),Inv X pins σ H s->RelV x v->RelV y u->r x y H Q->
  wpAny (model X.prog X.w) X.A (f v u) (EP X pins σ Q) X.xe s
def UnR(X:Cx)(f:Value->Sem Value)(r:V->Hp->VK->Prop):Prop:=
 ∀(pins:List (Addr×Obj)) (s:Shared) (σ:St) (H:Hp) (x:V) (v:Value) (Q:VK),Inv X pins σ H s->RelV x v->r x H Q->
  wpAny (model X.prog X.w) X.A (f v) (EP X pins σ Q) X.xe s
def DX(X:Cx)(f:Value)(r:List V->Hp->VK->Prop):Prop:=
 ∀(pins:List (Addr×Obj)) (s:Shared) (σ:St) (H:Hp) (xs:List V) (us:List Value) (Q:VK),Inv X pins σ H s->Vals xs us->r xs H Q->
  wpAny (model X.prog X.w) X.A (call f us) (EP X pins σ Q) X.xe s
def dG(r:R2)(ta tb:TE):TE:=λσ H Q=>ta σ H λx H1=>tb σ H1 λy H2=>r x y H2 Q
def tUn(r:V->Hp->VK->Prop)(ta:TE):TE:=λσ H Q=>ta σ H λx H1=>r x H1 Q
def rI(C:Int->Int->Prop)(g:Int->Int->V):R2:=λx y H Q=>∃i j,x=.int i/\y=.int j/\C i j/\Q (g i j) H
def qt(g:Int->Int->V):R2:=λx y H Q=>∃i j,x=.int i/\y=.int j/\Q (g i j) H
def rU(g:Int->V):V->Hp->VK->Prop:=λx H Q=>∃i,x=.int i/\Q (g i) H
section
variable {X:Cx}{a b c:Expr}{ta tb tc:TE}{pos:Pos}
theorem Zuc(ha:PE X a ta)(hb:PE X b tb){pins:List (Addr×Obj)}{s:Shared}{σ:St}{H:Hp}{R:V->V->Hp->Prop}(I:Inv X pins σ H s)
  (h:ta σ H λx H1=>tb σ H1 λy H2=>R x y H2) {Q:Value->Shared->Prop}{f:Value->Value->Sem Value}
  (hf:∀v u s2 x y H2,Inv X pins σ H2 s2->RelV x v->RelV y u->R x y H2->wpAny (model X.prog X.w) X.A (f v u) Q X.xe s2):
  wpAny (model X.prog X.w) X.A (eval a X.env) (λv s₁=>wpAny (model X.prog X.w) X.A (eval b X.env) (λu s₂=>wpAny (model X.prog X.w) X.A (f v u) Q X.xe s₂) X.xe s₁) X.xe s:=by
 refine lU (ha pins s σ H _ I h) λv s1 ⟨x,H1,I1,r1,q1⟩=>?_;refine lU (hb pins s1 σ H1 _ I1 q1) λu s2 ⟨y,H2,I2,r2,q2⟩=>?_;exact hf v u s2 x y H2 I2 r1 r2 q2
theorem dj{op:Operator}{r:R2}(ho:Ad X (binaryOp op) r)(ha:PE X a ta)(hb:PE X b tb):PE X (.BinOp a op b pos) (dG r ta tb):=by
 intro pins s σ H Q I h;exact wpAny_BinOp (Zuc ha hb I h λv u s2 x y H2 I2 rx ry q=>ho pins s2 σ H2 x y v u Q I2 rx ry q)
theorem Zfq{op:UnaryOp}{r:V->Hp->VK->Prop}(ho:UnR X (unaryOp op) r)(ha:PE X a ta):PE X (.UnaryOp op a pos) (tUn r ta):=by
 intro pins s σ H Q I h;exact UnaryOp_ (lU (ha pins s σ H _ I h) λv s1 ⟨x,H1,I1,r1,q1⟩=>ho pins s1 σ H1 x v Q I1 r1 q1)
theorem opI{f:Value->Value->Sem Value}{C:Int->Int->Prop}{g:Int->Int->Int}
  (rule:∀(i j:Int) (t u:Tok) (s:Shared) (Q:Value->Shared->Prop) (E:Value->Shared->Prop),C i j->Q (.int (g i j) s.toks) { s with toks:=s.toks+1 }->wpAny (model X.prog X.w) X.A (f (.int i t) (.int j u)) Q E s):
  Ad X f (rI C λi j=>.int (g i j)):=by
 intro pins s σ H x y v u Q I rx ry h;obtain⟨i,j,rfl,rfl,hc,q⟩:=h;obtain⟨t,rfl⟩:=rx;obtain⟨t',rfl⟩:=ry;exact rule i j t t' s _ _ hc ⟨.int (g i j),H,I.tok _,⟨_,rfl⟩,q⟩
theorem Zs7{f:Value->Value->Sem Value}{g:Int->Int->Int}
  (rule:∀(i j:Int) (t u:Tok) (s:Shared) (Q:Value->Shared->Prop) (E:Value->Shared->Prop),Q (.int (g i j) s.toks) { s with toks:=s.toks+1 }->wpAny (model X.prog X.w) X.A (f (.int i t) (.int j u)) Q E s):
  Ad X f (qt λi j=>.int (g i j)):=by
 intro pins s σ H x y v u Q I rx ry h;obtain⟨i,j,rfl,rfl,q⟩:=h;obtain⟨t,rfl⟩:=rx;obtain⟨t',rfl⟩:=ry;exact rule i j t t' s _ _ ⟨.int (g i j),H,I.tok _,⟨_,rfl⟩,q⟩
theorem Zpa{f:Value->Value->Sem Value}{g:Int->Int->Bool}
  (rule:∀(i j:Int) (t u:Tok) (s:Shared) (Q:Value->Shared->Prop) (E:Value->Shared->Prop),Q (.bool (g i j)) s->wpAny (model X.prog X.w) X.A (f (.int i t) (.int j u)) Q E s):
  Ad X f (qt λi j=>.bl (g i j)):=by
 intro pins s σ H x y v u Q I rx ry h;obtain⟨i,j,rfl,rfl,q⟩:=h;obtain⟨t,rfl⟩:=rx;obtain⟨t',rfl⟩:=ry;exact rule i j t t' s _ _ ⟨.bl (g i j),H,I,rfl,q⟩
def tX(i j:Int):Prop:=0<j/\j<1073741824
def Zj9(i j:Int):Prop:=0<=j/\j<=1000000/\i.natAbs<2 ^ 64
def Znt(i j:Int):Prop:=(-(2 ^ 64)<i/\i<2 ^ 64)\/(-(2 ^ 64)<j/\j<2 ^ 64)
theorem Znt.ok{i j:Int}(h:Znt i j):IntMulOk i j:=by
 rcases h with ⟨h1,h2⟩ | ⟨h1,h2⟩
 ·exact .of_left (intBits_le_64 h1 h2)
 ·exact .of_right (intBits_le_64 h1 h2)
theorem Zby(k:Nat):(0:Int)<=2 ^ k:=by
 rw[two_pow_cast];exact Int.natCast_nonneg _
theorem ju:Ad X (binaryOp .Add) (qt λi j=>.int (i+j)):=Zs7 λ_ _ _ _ _ _ _ q=>add_int q
theorem QF:Ad X (binaryOp .Sub) (qt λi j=>.int (i - j)):=Zs7 λ_ _ _ _ _ _ _ q=>sub_int q
theorem kW:Ad X (binaryOp .FloorDiv) (rI tX λi j=>.int (i / j)):=opI λi j _ _ _ _ _ hc q=>by
 have h1:(0:Int)<j:=hc.1;have h2:j<1073741824:=hc.2;exact floordiv_int (by omega) (by rw[Int.fdiv_eq_ediv_of_nonneg i (by omega)];exact q) (.inl (PyProof.noPylong_small (by omega)))
theorem gJ:Ad X (binaryOp .Mod) (rI (λ_ j=>0<j) λi j=>.int (i % j)):=opI λi j _ _ _ _ _ hc q=>by
 have h1:(0:Int)<j:=hc;exact mod_int' (by omega) (by rw[Int.fmod_eq_emod_of_nonneg i (by omega)];exact q)
theorem Zdc:Ad X (binaryOp .Pow) (rI Zj9 λi j=>.int (i ^ j.toNat)):=opI λ_ _ _ _ _ _ _ hc q=>pow_int_small hc.1 hc.2.1 hc.2.2 q
theorem Zs4:Ad X (binaryOp .RShift) (rI (λ_ j=>0<=j) λi j=>.int (i / 2 ^ j.toNat)):=opI λi j _ _ _ _ _ hc q=>
 rshift_int hc (by rw[Int.fdiv_eq_ediv_of_nonneg i (Zby _)];exact q)
theorem QG:Ad X (binaryOp .BitAnd) (qt λi j=>.int (Builtin.bitAnd i j)):=Zs7 λ_ _ _ _ _ _ _ q=>and_int q
theorem unI{f:Value->Sem Value}{g:Int->Int}
  (rule:∀(i:Int) (t:Tok) (s:Shared) (Q:Value->Shared->Prop) (E:Value->Shared->Prop),Q (.int (g i) s.toks) { s with toks:=s.toks+1 }->wpAny (model X.prog X.w) X.A (f (.int i t)) Q E s):
  UnR X f (rU λi=>.int (g i)):=by
 intro pins s σ H x v Q I rx h;obtain⟨i,rfl,q⟩:=h;obtain⟨t,rfl⟩:=rx;exact rule i t s _ _ ⟨.int (g i),H,I.tok _,⟨_,rfl⟩,q⟩
theorem Ws:UnR X (unaryOp .USub) (rU λi=>.int (-i)):=unI λ_ _ _ _ _ q=>neg_int q
end
def Zut:V->V->Bool
 | .non,.non=>true | .non,.int _=>true | .int _,.non=>true | .non,.bl _=>true | .bl _,.non=>true | .non,.str _=>true | .str _,.non=>true
 | .int _,.int _=>true | .bl _,.bl _=>true | .str _,.str _=>true | .byt _,.byt _=>true
 | .int _,.str _=>true | .str _,.int _=>true | .bl _,.str _=>true | .str _,.bl _=>true
 | _,_=>false
def Iz:R2:=λx y H Q=>Zut x y=true/\Q (.bl (decide (x=y))) H
def Ly:R2:=λx y H Q=>Zut x y=true/\Q (.bl (!decide (x=y))) H
theorem Zgd{i j:Int}:decide (V.int i=V.int j)=(i == j):=by
 rw[Bool.eq_iff_iff];simp
theorem Znk{i j:Bool}:decide (V.bl i=V.bl j)=(i == j):=by
 rw[Bool.eq_iff_iff];simp
theorem Zgc{i j:Str}:decide (V.str i=V.str j)=(i == j):=by
 rw[Bool.eq_iff_iff];simp
theorem Zge{i j:Array UInt8}:decide (V.byt i=V.byt j)=(i.toList == j.toList):=by
 rw[Bool.eq_iff_iff];cases i;cases j;simp
section
variable {X:Cx}{a b c:Expr}{ta tb tc:TE}{pos:Pos}
theorem ie{pins:List (Addr×Obj)}{σ:St}{H:Hp}{s:Shared}{Q:VK}{k k':Bool}(I:Inv X pins σ H s)(q:Q (.bl k) H)(e:k=k'):EP X pins σ Q (.bool k') s:=by
 subst e;exact⟨.bl k,H,I,rfl,q⟩
theorem oK:Ad X (compareOp .Eq) Iz:=by
 intro pins s σ H x y v u Q I rx ry h;obtain⟨hs,q⟩:=h;cases x with
 | non=>
  cases rx;cases y with
  | non=>cases ry;exact PySem.EqNone.eq_none_none (ie I q (by simp))
  | bl j=>cases ry;exact PySem.EqNone.eq_none_bool (ie I q (by simp))
  | int j=>obtain⟨t',rfl⟩:=ry;exact PySem.EqNone.eq_none_int (ie I q (by simp))
  | str j=>obtain⟨t',rfl⟩:=ry;exact PySem.EqNone.eq_none_str (ie I q (by simp))
  | _=>exact absurd (show false=true from hs) Bool.false_ne_true
 | bl i=>
  cases rx;cases y with
  | non=>cases ry;exact PySem.EqNone.eq_bool_none (ie I q (by simp))
  | bl j=>cases ry;exact eq_bool (ie I q Znk)
  | str j=>obtain⟨t',rfl⟩:=ry;exact PySem.EqMixed.eq_bool_str (ie I q (by simp))
  | _=>exact absurd (show false=true from hs) Bool.false_ne_true
 | int i=>
  obtain⟨t,rfl⟩:=rx;cases y with
  | non=>cases ry;exact PySem.EqNone.eq_int_none (ie I q (by simp))
  | int j=>obtain⟨t',rfl⟩:=ry;exact eq_int (ie I q Zgd)
  | str j=>obtain⟨t',rfl⟩:=ry;exact PySem.EqMixed.eq_int_str (ie I q (by simp))
  | _=>exact absurd (show false=true from hs) Bool.false_ne_true
 | str i=>
  obtain⟨t,rfl⟩:=rx;cases y with
  | non=>cases ry;exact PySem.EqNone.eq_str_none (ie I q (by simp))
  | bl j=>cases ry;exact PySem.EqMixed.eq_str_bool (ie I q (by simp))
  | int j=>obtain⟨t',rfl⟩:=ry;exact PySem.EqMixed.eq_str_int (ie I q (by simp))
  | str j=>obtain⟨t',rfl⟩:=ry;exact eq_str (ie I q Zgc)
  | _=>exact absurd (show false=true from hs) Bool.false_ne_true
 | byt i=>
  obtain⟨t,rfl⟩:=rx;cases y with
  | byt j=>obtain⟨t',rfl⟩:=ry;exact W.eq_bytes (ie I q Zge)
  | _=>exact absurd (show false=true from hs) Bool.false_ne_true
 | _=>cases y<;>exact absurd (show false=true from hs) Bool.false_ne_true
theorem qG:Ad X (compareOp .NotEq) Ly:=by
 intro pins s σ H x y v u Q I rx ry h;obtain⟨hs,q⟩:=h;cases x with
 | non=>
  cases rx;cases y with
  | non=>cases ry;exact PySem.EqNone.ne_none_none (ie I q (by simp))
  | bl j=>cases ry;exact PySem.EqNone.ne_none_bool (ie I q (by simp))
  | int j=>obtain⟨t',rfl⟩:=ry;exact PySem.EqNone.ne_none_int (ie I q (by simp))
  | str j=>obtain⟨t',rfl⟩:=ry;exact PySem.EqNone.ne_none_str (ie I q (by simp))
  | _=>exact absurd (show false=true from hs) Bool.false_ne_true
 | bl i=>
  cases rx;cases y with
  | non=>cases ry;exact PySem.EqNone.ne_bool_none (ie I q (by simp))
  | bl j=>cases ry;exact ne_bool (ie I q (congrArg not Znk))
  | str j=>obtain⟨t',rfl⟩:=ry;exact PySem.EqMixed.ne_bool_str (ie I q (by simp))
  | _=>exact absurd (show false=true from hs) Bool.false_ne_true
 | int i=>
  obtain⟨t,rfl⟩:=rx;cases y with
  | non=>cases ry;exact PySem.EqNone.ne_int_none (ie I q (by simp))
  | int j=>obtain⟨t',rfl⟩:=ry;exact ne_int (ie I q (congrArg not Zgd))
  | str j=>obtain⟨t',rfl⟩:=ry;exact PySem.EqMixed.ne_int_str (ie I q (by simp))
  | _=>exact absurd (show false=true from hs) Bool.false_ne_true
 | str i=>
  obtain⟨t,rfl⟩:=rx;cases y with
  | non=>cases ry;exact PySem.EqNone.ne_str_none (ie I q (by simp))
  | bl j=>cases ry;exact PySem.EqMixed.ne_str_bool (ie I q (by simp))
  | int j=>obtain⟨t',rfl⟩:=ry;exact PySem.EqMixed.ne_str_int (ie I q (by simp))
  | str j=>obtain⟨t',rfl⟩:=ry;exact ne_str (ie I q (congrArg not Zgc))
  | _=>exact absurd (show false=true from hs) Bool.false_ne_true
 | byt i=>
  obtain⟨t,rfl⟩:=rx;cases y with
  | byt j=>obtain⟨t',rfl⟩:=ry;exact W.ne_bytes (ie I q (congrArg not Zge))
  | _=>exact absurd (show false=true from hs) Bool.false_ne_true
 | _=>cases y<;>exact absurd (show false=true from hs) Bool.false_ne_true
theorem Zfs:Ad X (compareOp .Lt) (qt λi j=>.bl (decide (i<j))):=Zpa λ_ _ _ _ _ _ _ q=>lt_int q
theorem Zv0:Ad X (compareOp .LtE) (qt λi j=>.bl (decide (i<=j))):=Zpa λ_ _ _ _ _ _ _ q=>le_int q
theorem Zl5:Ad X (compareOp .Gt) (qt λi j=>.bl (decide (j<i))):=Zpa λ_ _ _ _ _ _ _ q=>gt_int q
theorem Zv1:Ad X (compareOp .GtE) (qt λi j=>.bl (decide (j<=i))):=Zpa λ_ _ _ _ _ _ _ q=>ge_int q
theorem Zs5:Ad X (compareOp .Is) (λx y H Q=>y=.non/\Q (.bl (decide (x=.non))) H):=by
 intro pins s σ H x y v u Q I rx ry h;obtain⟨rfl,q⟩:=h;cases ry;refine is_none_gen (ie I q ?_);cases x<;>first
  | (cases rx;rfl)
  | (obtain⟨t,rfl⟩:=rx;rfl)
theorem Zp7:Ad X (compareOp .IsNot) (λx y H Q=>y=.non/\Q (.bl (!decide (x=.non))) H):=by
 intro pins s σ H x y v u Q I rx ry h;obtain⟨rfl,q⟩:=h;cases ry;refine isnot_none_gen (ie I q ?_);cases x<;>first
  | (cases rx;rfl)
  | (obtain⟨t,rfl⟩:=rx;rfl)
def isObj:HO->Bool
 | .lst _=>true
 | .ins _ _ _=>true
 | _=>false
theorem Kg{pins:List (Addr×Obj)}{s:Shared}{σ:St}{H:Hp}{a:Addr}{o:HO}(I:Inv X pins σ H s)(h:H a=some o)(p:isObj o=true):∃ob,s.heap.get? a=some ob/\ob.cls≠.type "tuple":=by
 cases o with
 | lst xs=>
  obtain⟨_,its,n,_,e⟩:xs.length<=sizeLine/\∃(its:List Value) (n:Nat),Vals xs its/\s.heap.get? a=some { cls:=.type "list",data:=.seq its.toArray n }:=I.hok a _ h;exact⟨_,e,(by show Value.type "list"≠.type "tuple";decide +kernel)⟩
 | ins C dx fs=>
  have x:=I.hok a _ h;obtain⟨_,_,_,e,_⟩:=x;exact⟨_,e,(by show Value.ref C≠.type "tuple";exact λz=>by cases z)⟩
 | _=>exact absurd (show false=true from p) Bool.false_ne_true
theorem xU(b:Expr){op:CmpOp}(h:op≠.In:=by decide)(h2:op≠.NotIn:=by decide):behindInMarks op b=false:=by
 have e1:(op == CmpOp.In)=false:=by cases op<;>first | rfl | exact absurd rfl h
 have e2:(op == CmpOp.NotIn)=false:=by cases op<;>first | rfl | exact absurd rfl h2
 cases b<;>simp[behindInMarks,e1,e2]
theorem uM{op:CmpOp}{r:R2}(ho:Ad X (compareOp op) r)(ha:PE X a ta)(hb:PE X b tb)(hm:behindInMarks op b=false):PE X (.Compare a [op] [b] pos) (dG r ta tb):=by
 intro pins s σ H Q I h;exact wpAny_Compare1 (Zuc ha hb I h λv u s2 x y H2 I2 rx ry q=>ho pins s2 σ H2 x y v u Q I2 rx ry q) hm
def fD(t:TE):TT:=λσ H Q=>t σ H λx H'=>∃k,x=.bl k/\Q k H'
theorem Zol{op:CmpOp}{r:R2}(ho:Ad X (compareOp op) r)(ha:PE X a ta)(hb:PE X b tb)(hm:behindInMarks op b=false):PT X (.Compare a [op] [b] pos) (fD (dG r ta tb)):=by
 intro pins s σ H Q I h;refine wpAny_isTrue_Compare1 (lU (ha pins s σ H _ I h) λv s1 ⟨x,H1,I1,r1,q1⟩=>lU (hb pins s1 σ H1 _ I1 q1) λu s2 ⟨y,H2,I2,r2,q2⟩=>
  lU (ho pins s2 σ H2 x y v u _ I2 r1 r2 q2) λc s3 ⟨z,H3,I3,r3,k,e,q3⟩=>?_) hm
 subst e;cases r3;exact wpAny_truthy_bool ⟨H3,I3,q3⟩
def Zc4(r r':R2)(ta tb tc:TE):TE:=λσ H Q=>ta σ H λx H1=>tb σ H1 λy H2=>r x y H2 λz H3=>∃k,z=.bl k/\
 (if k=true then tc σ H3 λw' H4=>r' y w' H4 Q else Q (.bl false) H3)
theorem Zkz{op op':CmpOp}{r r':R2}(ho:Ad X (compareOp op) r)(ho':Ad X (compareOp op') r')(ha:PE X a ta)(hb:PE X b tb)(hc:PE X c tc)
  (hm:lastMarks [op,op'] [b,c]=false:=by with_unfolding_all rfl):PE X (.Compare a [op,op'] [b,c] pos) (Zc4 r r' ta tb tc):=by
 intro pins s σ H Q I h;refine Compare_chain (lU (ha pins s σ H _ I h) λv s1 ⟨x,H1,I1,r1,q1⟩=>chain_link (lU (hb pins s1 σ H1 _ I1 q1) λu s2 ⟨y,H2,I2,r2,q2⟩=>
  lU (ho pins s2 σ H2 x y v u _ I2 r1 r2 q2) λd s3 ⟨z,H3,I3,r3,k,e,q3⟩=>?_)) hm
 subst e;cases r3;refine wpAny_truthy_bool ?_;cases k with
 | false=>exact ite_ff ⟨.bl false,H3,I3,rfl,q3⟩
 | true=>exact ite_tt (chain_last (lU (hc pins s3 σ H3 _ I3 q3) λw' s4 ⟨z',H4,I4,r4,q4⟩=>ho' pins s4 σ H4 y z' u w' Q I4 r2 r4 q4))
theorem Q4:(sizeLine:Nat)<2 ^ 63:=by rw[sizeLine_eq];decide
theorem jB:Ad X (binaryOp .Add) (λx y H Q=>∃i j,x=.str i/\y=.str j/\i.length+j.length<=sizeLine/\Q (.str (i++j)) H):=by
 intro pins s σ H x y v u Q I rx ry h;obtain⟨i,j,rfl,rfl,hz,q⟩:=h;obtain⟨t,rfl⟩:=rx;obtain⟨t',rfl⟩:=ry;exact add_str (λt' tk=>⟨.str (i++j),H,I.tok _,⟨_,rfl⟩,q⟩) hz
theorem vals1{x:V}{us:List Value}(r:Vals [x] us):∃u,us=[u]/\RelV x u:=by
 cases r with
 | cons r1 r2=>cases r2;exact⟨_,rfl,r1⟩
theorem vals2{x y:V}{us:List Value}(r:Vals [x,y] us):∃u w',us=[u,w']/\RelV x u/\RelV y w':=by
 cases r with
 | cons r1 r2=>
  cases r2 with
  | cons r3 r4=>cases r4;exact⟨_,_,rfl,r1,r3⟩
theorem YX:DX X (.type "str") (λxs H Q=>∃i,xs=[.int i]/\i.natAbs.log2<1920/\Q (.str (toString i)) H):=by
 intro pins s σ H xs us Q I r h;obtain⟨i,rfl,hz,q⟩:=h;obtain⟨u,rfl,t,rfl⟩:=vals1 r;exact PySem.P.str_of_int hz ⟨.str _,H,I.tok _,⟨_,rfl⟩,q⟩
end
end L2
namespace L2
open PySem PySem.Spec PyProof.Rows
structure Zfb(h:Heap)(x dx C:Addr)(mA:Str->Option Value):Prop where
 obj:h.get? x=some (W.instObj C dx)
 ns:h.Ns1 dx mA
 ne:dx≠x
theorem Zhu{h:Heap}{dx:Addr}{mA:Str->Option Value}(n:h.Ns1 dx mA):∃od,h.get? dx=some od/\∀name,W.lookIn name od=some (mA name):=by
 obtain⟨o,es,ep,ho,hd,hk,_,hm⟩:=n;refine⟨o,ho,λname=>?_⟩;have e:=hm name;unfold nsFind findBy at e;rw[<- Array.find?_toList]at e;unfold W.lookIn;rw[hd];dsimp only;split
 ·rename_i y q
  rw[q]at e;exact congrArg some e
 ·rename_i q
  rw[q]at e;have a:es.toList.any (·.refKey)=false:=by
   rw[List.any_eq_false];intro y hy;obtain⟨z,t,hkey⟩:=hk y (Array.mem_toList_iff.mp hy);simp[DictEntry.refKey,hkey]
  have a':¬ es.toList.any (·.refKey)=true:=by rw[a];exact Bool.false_ne_true
  rw[if_neg a'];exact congrArg some e
theorem Zfb.look{h:Heap}{x dx C:Addr}{mA:Str->Option Value}(I:Zfb h x dx C mA):∃od,W.InstAt h x (W.instObj C dx) C (some od)/\∀name,W.lookIn name od=some (mA name):=
 let ⟨od,ho,hl⟩:=Zhu I.ns
 ⟨od,⟨I.obj,rfl,rfl,ho⟩,hl⟩
section
variable {prog:Program}{w:World}{A:Around}{E:Value->Shared->Prop}{s:Shared}{K:aV}{x dx C f:Addr}{mA:Str->Option Value}{name:Str}{v:Value}
theorem get_map{expr:Bool}{Q:Value->Shared->Prop}(X:K.In s.heap)(I:Zfb s.heap x dx C mA)(hg:W.plainGet K C name=true)(hh:W.hasDictIn K C=true)
  (ha:W.findIn K (.ref C) name=some none) (hv:mA name=some v) (hv':W.handedIn v=true) (h:Q v { s with toks:=s.toks+1 }):
  wpAny (model prog w) A (getAttr (.ref x) name expr) Q E s:=by
 obtain⟨od,J,hl⟩:=I.look;exact W.get_value X J (W.plainGet_of hg).1 (W.findObj_own hh ha rfl (by rw[hl,hv])) hv' h
theorem Zmy{pl:Sem Bool}{Q:Value×List Value->Shared->Prop}(X:K.In s.heap)(I:Zfb s.heap x dx C mA)(hg:W.plainGet K C name=true)
  (hf:W.findIn K (.ref C) name=some (some (.ref f))) (ht:W.isFn K (.ref f)=true) (hv:mA name=none) (h:Q (.ref f,[.ref x]) s):
  wpAny (model prog w) A (getMethod (.ref x) name pl) Q E s:=by
 obtain⟨od,J,hl⟩:=I.look;exact W.method_fn X J (W.plainGet_of hg).1 (W.plainGet_of hg).2 hf (beq_iff_eq.mp ht) (by show(W.lookIn name od).map (·.isSome)=some false;rw[hl,hv];rfl) h
theorem Zo2{ns:List Str}{Q:Unit->Shared->Prop}(X:K.In s.heap)(I:Zfb s.heap x dx C mA)
  (hs:W.findIn K (.ref C) "__setattr__"=some (some (.builtin "object.__setattr__"))) (hp:W.plainOver K C=true) (ht:W.takerIn K C name=some none) (hh:W.hasDictIn K C=true)
  (hw:PySem.Within mA ns) (hsz:ns.length<=sizeLine)
  (h:∀h',Zfb h' x dx C (λy=>if y=name then some v else mA y)->Heap.SameBut dx s.heap h'->Q () { s with heap:=h',toks:=s.toks+2 }):
  wpAny (model prog w) A (setAttr (.ref x) name v) Q E s:=by
 obtain⟨od,J,hl⟩:=I.look;refine W.set_plain X J hs (W.osa_open (s:={ s with toks:=s.toks+1 }) (r:=none) X J hp ht λb=>?_);obtain⟨cd,hc,hd'⟩:=W.any_some hh;have hx:s.heap.get? x=some ⟨.ref C,some dx,.plain,#[]⟩:=I.obj;refine wpAny_bind (wpAny_pure (wpAny_bind (wpAny_bind (wpAny_loadPart hx (wpAny_bind (W.Looks.here (s:={ s with toks:=s.toks+1 }) (W.looks_clsIn X hc) ?_))))));rw[hd'];refine wpAny_pure (a:=some dx) (wpAny_bind (wpAny_pure (wpAny_bind ?_)));refine wpAny_nsSet1 (s:={ s with toks:=s.toks+1 }) I.ns λh' hn2 hs2=>?_;obtain⟨oD,esD,epD,hoD,hdD,hcD⟩:=hn2.count (PySem.Within.cons name v hw);refine wpAny_bind (wpAny_lookBehind hoD (by rw[hdD];exact pastItsLine_dict (Nat.le_trans hcD (by rw[List.length_cons];omega))) ?_);exact wpAny_pure (h _ ⟨(hs2.2 _ (Ne.symm I.ne)).trans I.obj,hn2,I.ne⟩ hs2)
theorem Zll{R:Result->Shared->Prop}{vs:List Value}{kw:List (Str×Value)}(X:K.In s.heap)(hm:W.makesIn K C=true)
  (hi:W.findIn K (.ref C) "__init__"=some (some (.ref f))) (hf:W.typeIn K (.ref f)=some (.type "function"))
  (h:codeAny (model prog w) (A.under (.builtin "type.__call__" ⟨.ref C::vs,kw⟩)) (.call (.ref f) ⟨.ref (s.heap.objs.size+1)::vs,kw⟩) (W.InitBack (s.heap.objs.size+1) R)
   { s with heap:=(s.heap.push W.emptyDict).push (W.instObj C s.heap.objs.size) }):
  codeAny (model prog w) A (.call (.ref C) ⟨vs,kw⟩) R s:=by
 obtain⟨hh,g,d,t,os⟩:=s;exact W.make_core (W.makes_of X hm) (W.looks_findIn X hi) (λself=>W.bind_fn X self hf) (.inl rfl) h
theorem Zhl{R:Result->Shared->Prop}(X:K.In s.heap)(hm:W.makesIn K C=true)
  (hi:W.findIn K (.ref C) "__init__"=some (some (.builtin "object.__init__")))
  (hb:∀self,W.Looks (model prog w) s.heap (bindSpecial (.builtin "object.__init__") self) (.builtin "object.__init__",[self]))
  (h:codeAny (model prog w) (A.under (.builtin "type.__call__" ⟨[.ref C],[]⟩)) (.call (.builtin "object.__init__") ⟨[.ref (s.heap.objs.size+1)],[]⟩) (W.InitBack (s.heap.objs.size+1) R)
   { s with heap:=(s.heap.push W.emptyDict).push (W.instObj C s.heap.objs.size) }):
  codeAny (model prog w) A (.call (.ref C) ⟨[],[]⟩) R s:=by
 obtain⟨hh,g,d,t,os⟩:=s;exact W.make_core (W.makes_of X hm) (W.looks_findIn X hi) hb (.inr ⟨rfl,rfl⟩) h
end
def fu(f:Str)(v:V):List (Str×V)->List (Str×V)
 | []=>[(f,v)]
 | (g,x)::r=>if g=f then(g,v)::r else(g,x)::fu f v r
theorem LR(f g:Str)(v:V):∀fs:List (Str×V),(fu f v fs).lookup g=if g=f then some v else fs.lookup g
 | []=>by
  show List.lookup g [(f,v)]=_
  by_cases h:g=f
  ·have hb:(g == f)=true:=beq_iff_eq.mpr h;simp only[List.lookup,hb,if_pos h]
  ·have hb:(g == f)=false:=beq_eq_false_iff_ne.mpr h;simp only[List.lookup,hb,if_neg h]
 | (k,x)::r=>by
  have ih:=LR f g v r;rw[show fu f v ((k,x)::r)=(if k=f then(k,v)::r else(k,x)::fu f v r)from rfl]
  by_cases hk:k=f
  ·rw[if_pos hk]
   by_cases h:g=k
   ·have hb:(g == k)=true:=beq_iff_eq.mpr h;simp only[List.lookup,hb,if_pos (h.trans hk)]
   ·have hb:(g == k)=false:=beq_eq_false_iff_ne.mpr h;simp only[List.lookup,hb,if_neg (λe:g=f=>h (e.trans hk.symm))]
  ·rw[if_neg hk]
   by_cases h:g=k
   ·have hb:(g == k)=true:=beq_iff_eq.mpr h;simp only[List.lookup,hb,if_neg (λe:g=f=>hk (h.symm.trans e))]
   ·have hb:(g == k)=false:=beq_eq_false_iff_ne.mpr h;simp only[List.lookup,hb];exact ih
theorem Kw(f:Str)(v:V):∀fs:List (Str×V),f∈(fu f v fs).map (·.1)/\∀g,g∈fs.map (·.1)->g∈(fu f v fs).map (·.1)
 | []=>⟨by simp[fu],λg h=>by simp at h⟩
 | (k,x)::r=>by
  obtain⟨i1,i2⟩:=Kw f v r;rw[show fu f v ((k,x)::r)=(if k=f then(k,v)::r else(k,x)::fu f v r)from rfl]
  by_cases hk:k=f
  ·rw[if_pos hk];subst hk;exact⟨by simp,λg h=>by simpa using h⟩
  ·rw[if_neg hk];refine⟨?_,λg h=>?_⟩
   ·rw[List.map_cons];exact List.mem_cons_of_mem _ i1
   ·rw[List.map_cons]at h ⊢;rcases List.mem_cons.mp h with e | e
    ·exact List.mem_cons.mpr (.inl e)
    ·exact List.mem_cons_of_mem _ (i2 g e)
theorem Mf(f:Str)(v:V):∀fs:List (Str×V),(fu f v fs).length<=fs.length+1
 | []=>by simp[fu]
 | (k,x)::r=>by
  have ih:=Mf f v r;rw[show fu f v ((k,x)::r)=(if k=f then(k,v)::r else(k,x)::fu f v r)from rfl]
  by_cases hk:k=f
  ·rw[if_pos hk,List.length_cons,List.length_cons];omega
  ·rw[if_neg hk,List.length_cons,List.length_cons];omega
theorem Dp.some_of{v:V}{o:Option Value}(r:Dp (some v) o):∃u,o=some u/\RelV v u:=by
 cases o with
 | none=>exact(show False from r).elim
 | some u=>exact⟨u,rfl,r⟩
theorem Dp.none_of{o:Option Value}(r:Dp none o):o=none:=by
 cases o with
 | none=>rfl
 | some u=>exact(show False from r).elim
theorem Zim{v:V}{u:Value}(r:RelV v u):W.handedIn u=true:=by
 cases v with
 | non=>cases (show u=Value.none from r);rfl
 | bl b=>cases (show u=Value.bool b from r);rfl
 | int i=>obtain⟨t,e⟩:=(show ∃t,u=Value.int i t from r);cases e;rfl
 | str x=>obtain⟨t,e⟩:=(show ∃t,u=Value.str x t from r);cases e;rfl
 | byt b=>obtain⟨t,e⟩:=(show ∃t,u=Value.bytes b t from r);cases e;rfl
 | flt b=>obtain⟨t,e⟩:=(show ∃t,u=Value.float b t from r);cases e;rfl
 | ref a=>cases (show u=Value.ref a from r);rfl
 | ty n=>cases (show u=Value.type n from r);rfl
section
variable {P:Program}{w:World}{H H':Hp}{h h':Heap}{a C dx:Addr}{fs fs':List (Str×V)}
theorem OD(hok:uE P w H h)(e:H a=some (.ins C dx fs)):∃mA,Zfb h a dx C mA/\(∀f,Dp (fs.lookup f) (mA f))/\PySem.Within mA (fs.map (·.1))/\fs.length<=1000/\H dx=some (.own a):=by
 obtain⟨d,z,ne,ob,mA,n,r,q⟩:=(show lV P w H h a (.ins C dx fs)from hok a _ e);exact⟨mA,⟨ob,n,ne⟩,r,q,z,d⟩
end
structure Ds(K:aV)(C:Addr):Prop where
 pg:W.plainGet K C Str.empty=true
 hd:W.hasDictIn K C=true
 po:W.plainOver K C=true
 sa:W.findIn K (.ref C) "__setattr__"=some (some (.builtin "object.__setattr__"))
theorem Ds.get{K:aV}{C:Addr}(c:Ds K C)(f:Str):W.plainGet K C f=true:=c.pg
def dN(K:aV)(C:Addr)(f:Str):Prop:=W.findIn K (.ref C) f=some none
theorem dN.taker{K:aV}{C:Addr}{f:Str}(n:dN K C f):W.takerIn K C f=some none:=by
 unfold W.takerIn;rw[show W.findIn K (.ref C) f=some none from n];rfl
structure Con(K:aV)(C:Addr)(f:Str)(v:V)(u:Value):Prop where
 at_:W.findIn K (.ref C) f=some (some u)
 rel:RelV v u
 get:W.specialIn K u "__get__"=some none
 cp:W.copiedNames.contains f=false
structure Meth(K:aV)(C:Addr)(m:Str)(f:Addr):Prop where
 at_:W.findIn K (.ref C) m=some (some (.ref f))
 fn:W.isFn K (.ref f)=true
 kp:W.keepIn K (.ref f)=true
section
variable {X:Cx}{pins:List (Addr×Obj)}{σ:St}{H:Hp}{s:Shared}{a C dx:Addr}{fs:List (Str×V)}{f:Str}{v:V}{A:Around}{E:Value->Shared->Prop}
theorem Zeh{b:Bool}{Q:Value->Shared->Prop}(I:Inv X pins σ H s)(e:H a=some (.ins C dx fs))(c:Ds X.K C)(n:dN X.K C f)(l:fs.lookup f=some v)
  (h:∀u s',Inv X pins σ H s'->RelV v u->Q u s'):wpAny (model X.prog X.w) A (getAttr (.ref a) f b) Q E s:=by
 obtain⟨mA,O,r,_,_,_⟩:=OD I.hok e;obtain⟨u,hu,ru⟩:=Dp.some_of (v:=v) (o:=mA f) (by rw[<- l];exact r f);exact get_map I.uY O (c.get f) c.hd n hu (Zim ru) (h u _ (I.tok _) ru)
theorem Rm{m:Str}{g:Addr}{pl:Sem Bool}{Q:Value×List Value->Shared->Prop}(I:Inv X pins σ H s)(e:H a=some (.ins C dx fs))(c:Ds X.K C)(k:Meth X.K C m g)(l:fs.lookup m=none)
  (h:Q (.ref g,[.ref a]) s):wpAny (model X.prog X.w) A (getMethod (.ref a) m pl) Q E s:=by
 obtain⟨mA,O,r,_,_,_⟩:=OD I.hok e;have hn:mA m=none:=Dp.none_of (by rw[<- l];exact r m);exact Zmy I.uY O (c.get m) k.at_ k.fn hn h
theorem Zcj{y:V}{u:Value}{Q:Unit->Shared->Prop}(I:Inv X pins σ H s)(e:H a=some (.ins C dx fs))(c:Ds X.K C)(n:dN X.K C f)(hl:fs.length<1000)(ry:RelV y u)
  (h:∀s',Inv X pins σ (upd H a (.ins C dx (fu f y fs))) s'->Q () s'):wpAny (model X.prog X.w) A (setAttr (.ref a) f u) Q E s:=by
 obtain⟨mA,O,r,wi,_,ho⟩:=OD I.hok e;have hz:(fs.map (·.1)).length<=sizeLine:=by rw[dM,sizeLine_eq];omega
 refine Zo2 I.uY O c.sa c.po n.taker c.hd wi hz λh' O' sb=>h _ ?_;have hd:∃o,h'.get? dx=some o:=let ⟨o,_,_,e',_⟩:=O'.ns;⟨o,e'⟩
 refine I.write (x:=a) (e:=dx) (by rw[e];exact True.intro) (.inr ho) (λb q hb z=>(sb.2 b hb).trans z) hd ?_;refine⟨by rw[aU O.ne];exact ho,?_,O.ne,O'.obj,_,O'.ns,λg=>?_,λg hg=>?_⟩
 ·have:=Mf f y fs;omega
 ·show Dp ((fu f y fs).lookup g) (if g=f then some u else mA g);rw[LR]
  by_cases q:g=f
  ·rw[if_pos q,if_pos q];exact ry
  ·rw[if_neg q,if_neg q];exact r g
 ·by_cases q:g=f
  ·rw[q];exact(Kw f y fs).1
  ·refine(Kw f y fs).2 g (wi g λz=>hg ?_);show(if g=f then some u else mA g)=none;rw[if_neg q];exact z
theorem Inv.made(I:Inv X pins σ H s):Inv X pins σ (upd (upd H s.heap.objs.size (.own (s.heap.objs.size+1))) (s.heap.objs.size+1) (.ins C s.heap.objs.size []))
  { s with heap:=(s.heap.push W.emptyDict).push (W.instObj C s.heap.objs.size) }:=by
 have e1:(s.heap.push W.emptyDict).get? s.heap.objs.size=some W.emptyDict:=Heap.get?_push_size s.heap rfl;have e2:((s.heap.push W.emptyDict).push (W.instObj C s.heap.objs.size)).get? (s.heap.objs.size+1)=some (W.instObj C s.heap.objs.size):=by
  have:=Heap.get?_push_size (s.heap.push W.emptyDict) (o:=W.instObj C s.heap.objs.size) rfl
  rwa [Heap.size_push]at this
 have e3:(s.heap.push W.emptyDict).Ns s.heap.objs.size (λ_=>none):=⟨W.emptyDict,#[],_,e1,rfl,(λe he=>absurd he (by simp)),λ_=>rfl⟩;have I1:=I.laid (a:=s.heap.objs.size) (o:=.own (s.heap.objs.size+1)) (h':=s.heap.push W.emptyDict) (t':=s.toks) (λb u q=>Heap.get?_push_of_some _ q) (Nat.le_refl _) ⟨_,e1⟩;refine I1.laid (a:=s.heap.objs.size+1) (o:=.ins C s.heap.objs.size []) (t':=s.toks) (λb u q=>Heap.get?_push_of_some _ q) (Nat.le_of_eq (Heap.size_push _ _)) ?_;have ne:s.heap.objs.size≠s.heap.objs.size+1:=Nat.ne_of_lt (Nat.lt_succ_self _);refine⟨by rw[aU ne,aq],Nat.zero_le _,ne,e2,λ_=>none,(Heap.Ns1.of_empty e3).at λo q=>Heap.get?_push_of_some _ q,λ_=>True.intro,λy hy=>absurd rfl hy⟩
theorem Zqy{prog:Program}{w:World}{env:Env}{e:Expr}{f:Str}{pos:Pos}{s:Shared}{Q:Value->Shared->Prop}(hb:attributeBase e f env (eval e env)=eval e env)
  (h:wpAny (model prog w) A (eval e env) (λo s₁=>wpAny (model prog w) A (getAttr o f true) Q E s₁) E s):wpAny (model prog w) A (eval (.Attribute e f pos) env) Q E s:=
 Attribute_any_ h (by rw[arm_eval_Attribute,hb])
end
def eU(K:aV)(ta:TE)(f:Str):TE:=λσ H Q=>ta σ H λx H1=>∃a C dx fs v,x=.ref a/\H1 a=some (.ins C dx fs)/\Ds K C/\dN K C f/\fs.lookup f=some v/\Q v H1
def nj(K:aV)(ta tv:TE)(f:Str):TS:=λD σ H=>tv σ H λy H1=>ta σ H1 λx H2=>∃a C dx fs,x=.ref a/\H2 a=some (.ins C dx fs)/\Ds K C/\dN K C f/\fs.length<1000/\
 D.nx σ (upd H2 a (.ins C dx (fu f y fs)))
section
variable {X:Cx}{o e value:Expr}{f:Str}{pos pos' tpos:Pos}{ta tv:TE}
theorem cZ(he:PE X e ta)(hb:attributeBase e f X.env (eval e X.env)=eval e X.env):PE X (.Attribute e f pos) (eU X.K ta f):=by
 intro pins s σ H Q I h;refine Zqy hb (lU (he pins s σ H _ I h) λu s1 ⟨x,H1,I1,rx,a,C,dx,fs,v,ex,ea,c,n,l,q⟩=>?_);subst ex;obtain rfl:u=Value.ref a:=rx;exact Zeh I1 ea c n l λu' s2 I2 ru=>⟨v,H1,I2,ru,q⟩
theorem gq(ha:PE X o ta)(hv:PE X value tv)(hs:swapsWith value (some (.Attribute o f pos')) pos.line X.env=pure false):PS X (.Assign [.Attribute o f pos'] value pos) (nj X.K ta tv f):=by
 intro pins s σ H D I h;refine plainObj_wpAny_Assign_Attribute (lU (hv pins s σ H _ I h) λu s1 ⟨y,H1,I1,ry,q⟩=>lU (ha pins s1 σ H1 _ I1 q) λov s2 ⟨x,H2,I2,rx,a,C,dx,fs,ex,ea,c,n,l,q2⟩=>?_) hs;subst ex;obtain rfl:ov=Value.ref a:=rx;exact Zcj I2 ea c n l ry λs3 I3=>⟨σ,_,I3,q2⟩
end
section
variable {X:Cx}{pins:List (Addr×Obj)}{σ:St}{H:Hp}{s:Shared}{A:Around}{E:Value->Shared->Prop}{Q:Value->Shared->Prop}{c:Value}{b:Bool}
inductive Lb(K:aV)(H:Hp):V->Value->Prop where
 | non:Lb K H .non (.type "NoneType")
 | bl (x:Bool):Lb K H (.bl x) (.type "bool")
 | int (i:Int):Lb K H (.int i) (.type "int")
 | str (x:Str):Lb K H (.str x) (.type "str")
 | flt (x:UInt64):Lb K H (.flt x) (.type "float")
 | lst {a:Addr}{xs:List V} (e:H a=some (.lst xs)):Lb K H (.ref a) (.type "list")
 | Wc {a:Addr}{o:Obj}{xs:List V} (e:H a=some (.Wc o (.lst xs))):Lb K H (.ref a) (.type "list")
 | tup {a:Addr}{xs:List V} (e:H a=some (.tup xs)):Lb K H (.ref a) (.type "tuple")
 | dK {a:Addr}{kvs:List (Key×V)} (e:H a=some (.dK kvs)):Lb K H (.ref a) (.type "dict")
 | dT {a:Addr}{kvs:List (List Key×V)} (e:H a=some (.dT kvs)):Lb K H (.ref a) (.type "dict")
 | ins {a C dx:Addr}{fs:List (Str×V)} (e:H a=some (.ins C dx fs)) (cl:Ds K C) (ha:W.findIn K (.ref C) "__class__"=some (some (.builtin "object.__class__")))
   (hn:W.specialIn K (.builtin "object.__class__") "__get__"=some (some (.builtin "getset_descriptor.__get__"))) (htk:W.takesIn K (.builtin "object.__class__")=some true)
   (hm:W.mroIn K C (.type "object")=some true):Lb K H (.ref a) (.ref C)
theorem Zhx{x:V}{u t:Value}(I:Inv X pins σ H s)(rx:RelV x u)(ty:Lb X.K H x t)(e:W.kitOne X.K t c=some b)(h:∀tk,Q (.bool b) { s with toks:=tk }):
  wpAny (model X.prog X.w) A (call (.builtin "isinstance") [u,c]) Q E s:=by
 cases ty with
 | non=>cases (show u=Value.none from rx);exact W.kia_one W.kitx_none I.uY True.intro e (λz=>nomatch z) h
 | bl y=>cases (show u=Value.bool y from rx);exact W.kia_one W.kitx_bool I.uY True.intro e (λz=>nomatch z) h
 | int i=>obtain⟨t,q⟩:=(show ∃t,u=Value.int i t from rx);cases q;exact W.kia_one W.kitx_int I.uY True.intro e (λz=>nomatch z) h
 | str y=>obtain⟨t,q⟩:=(show ∃t,u=Value.str y t from rx);cases q;exact W.kia_one W.kitx_str I.uY True.intro e (λz=>nomatch z) h
 | flt y=>obtain⟨t,q⟩:=(show ∃t,u=Value.float y t from rx);cases q;exact W.kia_one W.kitx_float I.uY True.intro e (λz=>nomatch z) h
 | @lst a xs ea=>
  cases (show u=Value.ref a from rx);obtain⟨_,_,n,_,h1⟩:=(show lV X.prog X.w H s.heap a (.lst xs)from I.hok a _ ea);exact W.kia_one W.kitx_list I.uY ⟨_,h1,rfl⟩ e (λz=>nomatch z) h
 | @Wc a ob xs ea=>
  cases (show u=Value.ref a from rx);obtain⟨_,_,_,n,_,h1⟩:=(show lV X.prog X.w H s.heap a (.Wc ob (.lst xs))from I.hok a _ ea);exact W.kia_one W.kitx_list I.uY ⟨_,h1,rfl⟩ e (λz=>nomatch z) h
 | @tup a xs ea=>
  cases (show u=Value.ref a from rx);obtain⟨_,_,_,p⟩:=(show lV X.prog X.w H s.heap a (.tup xs)from I.hok a _ ea);obtain⟨o,h1,h2,_⟩:=p;exact W.kia_one W.kitx_tuple I.uY ⟨o,h1,h2⟩ e (λz=>nomatch z) h
 | @dK a kvs ea=>
  cases (show u=Value.ref a from rx);obtain⟨_,_,vs,_,p⟩:=(show lV X.prog X.w H s.heap a (.dK kvs)from I.hok a _ ea);obtain⟨o,es,ep,h1,h2,_⟩:=p;exact W.kia_one W.kitx_dict I.uY ⟨o,h1,h2.1⟩ e (λz=>nomatch z) h
 | @dT a kvs ea=>
  cases (show u=Value.ref a from rx);obtain⟨_,_,xs,_,o,es,ep,h1,h2,_⟩:=(show lV X.prog X.w H s.heap a (.dT kvs)from I.hok a _ ea);exact W.kia_one W.kitx_dict I.uY ⟨o,h1,h2.1⟩ e (λz=>nomatch z) h
 | @ins a C dx fs ea cl ha hn htk hm=>
  cases (show u=Value.ref a from rx);obtain⟨mA,O,_⟩:=OD I.hok ea;obtain⟨od,J,_⟩:=O.look;exact W.kia_one (W.kitx_own (cl.get _) cl.hd ha hn htk hm) I.uY J e (λz=>nomatch z) h
end
end L2
namespace L2
open PySem PySem.Spec PyProof.Rows
structure Room(k:Nat)(A:Around):Prop where
 hd:A.handled=none
 dp:A.depth+3 * k+5<recursionLimit
 un:A.units+16 * k+200<cLine
theorem Room.mono{j k:Nat}{A:Around}(r:Room k A)(h:j<=k):Room j A:=⟨r.hd,by have:=r.dp;omega,by have:=r.un;omega⟩
theorem Room.deeper{k:Nat}{A:Around}(r:Room (k+1) A)(env:Env):Room k (A.deeper env):=
 ⟨r.hd,by have:=r.dp;show A.depth+1+3 * k+5<_;omega,by have:=r.un;show A.units+3+16 * k+200<_;omega⟩
theorem Zdy{A:Around}{C:Addr}{us:List Value}{kw:List (Str×Value)}:(A.under (.builtin "type.__call__" ⟨.ref C::us,kw⟩)).depth=A.depth+1:=by
 first | rfl | simp[Around.under,Code.weight,Code.isCreation,Code.isGuard,Code.isCaller,Code.frames,Code.isFrame,guardIds]
theorem Zdx{A:Around}{C:Addr}{us:List Value}{kw:List (Str×Value)}:(A.under (.builtin "type.__call__" ⟨.ref C::us,kw⟩)).units=A.units+1:=by
 first | rfl | simp[Around.under,Code.cUnits,Code.frames,Code.isFrame]
theorem Room.make{k:Nat}{A:Around}(r:Room (k+1) A)(C:Addr)(us:List Value)(kw:List (Str×Value)):Room k (A.under (.builtin "type.__call__" ⟨.ref C::us,kw⟩)):=
 ⟨r.hd,by have:=r.dp;rw[Zdy];omega,by have:=r.un;rw[Zdx];omega⟩
theorem Room.depth{k:Nat}{A:Around}(r:Room k A):A.depth<recursionLimit:=by have:=r.dp;omega
theorem Room.units{k:Nat}{A:Around}(r:Room k A):A.units+64<cLine:=by have:=r.un;omega
def bW:TA:=λ_ H Q=>Q [] H
def aj(ta:TE)(tr:TA):TA:=λσ H Q=>ta σ H λx H1=>tr σ H1 λxs H2=>Q (x::xs) H2
section
variable {X:Cx}{e:Expr}{es:List Expr}{te:TE}{t:TA}{pos:Pos}
theorem aB:PA X [] bW:=λ_ _ _ _ H Q I h=>Calls.spliced_nil ⟨[],H,I,.nil,h⟩
theorem aa(ha:PE X e te)(hr:PA X es t)(hs:starEach (e::es) X.env=(false,eval e X.env)::starEach es X.env:=by rfl):PA X (e::es) (aj te t):=by
 intro pos pins s σ H Q I h;rw[hs];show wpAny _ _ (spliced ((false,eval e X.env)::backTo pos (starEach es X.env))) _ _ s;refine Calls.spliced_cons (lU (ha pins s σ H _ I h) λu s1 ⟨x,H1,I1,r1,q1⟩=>?_);exact lU (hr pos pins s1 σ H1 _ I1 q1) λus s2 ⟨xs,H2,I2,r2,q2⟩=>⟨x::xs,H2,I2,.cons r1 r2,q2⟩
def iK(t:TA):TE:=λσ H Q=>t σ H λxs H1=>xs.length<=sizeLine/\∀p,H1 p=none->Q (.ref p) (upd H1 p (.tup xs))
def mD(t:TA):TE:=λσ H Q=>t σ H λxs H1=>xs.length<=sizeLine/\∀p,H1 p=none->Q (.ref p) (upd H1 p (.lst xs))
theorem gF{x1}(h:PA X es t):PE X (.Tuple es x1 pos) (iK t):=by
 intro pins s σ H Q I hq;refine wpAny_Tuple_spliced (lU (h pos pins s σ H _ I hq) λus s1 ⟨xs,H1,I1,r,z,q⟩=>⟨by rw[<- r.length];exact z,?_⟩);have hf:H1 s1.heap.objs.size=none:=I1.hok.fresh (Nat.le_refl _);refine⟨.ref s1.heap.objs.size,upd H1 s1.heap.objs.size (.tup xs),I1.laid (t':=s1.toks) (λb u e=>Heap.get?_push_of_some _ e) (Nat.le_refl _) ?_,rfl,q _ hf⟩;exact⟨z,us,r,⟨_,Heap.get?_push_size _ rfl,rfl,_,rfl⟩⟩
theorem gj(h:PA X es t):PE X (.List es pos) (mD t):=by
 intro pins s σ H Q I hq;refine wpAny_List_spliced (lU (h pos pins s σ H _ I hq) λus s1 ⟨xs,H1,I1,r,z,q⟩=>⟨by rw[<- r.length];exact z,?_⟩);have hf:H1 s1.heap.objs.size=none:=I1.hok.fresh (Nat.le_refl _);refine⟨.ref s1.heap.objs.size,upd H1 s1.heap.objs.size (.lst xs),I1.laid (t':=s1.toks) (λb u e=>Heap.get?_push_of_some _ e) (Nat.le_refl _) ?_,rfl,q _ hf⟩;exact⟨z,us,0,r,Heap.get?_push_size _ rfl⟩
end
abbrev Sp:=List V->Hp->VK->XK->Prop
abbrev Zm:=List Env->Hp->Shared->XK->Value->Shared->Prop
structure Zj(P:Program)(w:World)(K:aV)(mg:Str->Option Value)(base:Heap)(A:Around)(outer:List Env)(s:Shared)(H:Hp):Prop where
 frames:A.frames=some outer
 mod:Mod K mg base
 bs:∀b o,base.get? b=some o->s.heap.get? b=some o/\H b=none
 bsz:base.objs.size<=s.heap.objs.size
 yw:s.heap.FunFrames base outer
 frf:∀b∈frs outer,H b=none
 hok:uE P w H s.heap
 bare:AllBare s.gens
def CE(outer:List Env)(P:Program)(w:World)(H:Hp)(s:Shared)(Q:VK)(u:Value)(s':Shared):Prop:=
 ∃v H',s'.os=s.os/\AllBare s'.gens/\Un (frs outer) [] H H' s.heap s'.heap/\uE P w H' s'.heap/\RelV v u/\Q v H'
def CR(CX:Zm)(outer:List Env)(P:Program)(w:World)(H:Hp)(s:Shared)(Q:VK)(E:XK)(r:Result)(s':Shared):Prop:=
 match r with
 | .ok (.ret u)=>CE outer P w H s Q u s'
 | .ok _=>False
 | .error e=>CX outer H s E e s'
structure uV(P:Program)(w:World)(K:aV)(mg:Str->Option Value)(base:Heap)(CX:Zm)(k:Nat)(f:Addr)(fd:FuncData)(ps:List Str)(sp:Sp):Prop where
 len:∀vs H Q E,sp vs H Q E->vs.length=ps.length
 run:∀(A:Around) (outer:List Env) (s:Shared) (H:Hp) (args:Args) (us:List Value) (vs:List V) (Q:VK) (E:XK),Room k A->Zj P w K mg base A outer s H->BindsTo s fd args (ps.zip us)->Vals vs us->sp vs H Q E->
  codeAny (model P w) A (.call (.ref f) args) (CR CX outer P w H s Q E) s
theorem Zj.make{P:Program}{w:World}{K:aV}{mg:Str->Option Value}{base:Heap}{A:Around}{outer:List Env}{s:Shared}{H:Hp}(e:Zj P w K mg base A outer s H)(C:Addr)(us:List Value)(kw:List (Str×Value)):
  Zj P w K mg base (A.under (.builtin "type.__call__" ⟨.ref C::us,kw⟩)) outer s H:=⟨by first | exact e.frames | (simpa[Around.under,Code.envs,Code.isFrame,pushEnvs]using e.frames),e.mod,e.bs,e.bsz,e.yw,e.frf,e.hok,e.bare⟩
section
variable {X:Cx}{pins:List (Addr×Obj)}{σ:St}{H:Hp}{s s':Shared}
theorem Inv.env0(I:Inv X pins σ H s):Zj X.prog X.w X.K X.mg X.base X.A X.stack s H:=
 ⟨I.ok.frames,I.ok.mod,I.bs,Nat.le_trans I.ok.bsz I.sz,I.stack,I.Ww,I.hok,I.bare⟩
theorem Inv.after{Q:VK}{u:Value}(I:Inv X pins σ H s)(h:CE X.stack X.prog X.w H s Q u s'):EP X pins σ Q u s':=by
 obtain⟨v,H',os,bare,un,hok,r,q⟩:=h;obtain⟨hh,g,d,t,os'⟩:=s';obtain rfl:os'=s.os:=os;exact⟨v,H',I.call (h':=hh) (g':=g) (d':=d) (t':=t) (ch:=[]) un hok bare (λb z=>absurd z (by simp)),r,q⟩
end
def dH(sp:Sp)(wg:List V)(E:XK)(t:TA):TE:=λσ H Q=>t σ H λvs H1=>sp (vs++wg) H1 Q E
def uH(C:Addr)(m:Str)(sp:Sp)(wg:List V)(E:XK)(ta:TE)(t:TA):TE:=λσ H Q=>ta σ H λx H1=>∃a dx fs,x=.ref a/\H1 a=some (.ins C dx fs)/\fs.lookup m=none/\
 t σ H1 λvs H2=>sp (x::(vs++wg)) H2 Q E
def zV(C:Addr)(sp:Sp)(wg:List V)(E:XK)(t:TA):TE:=λσ H Q=>t σ H λvs H1=>∀x dx,H1 x=none->H1 dx=none->dx≠x->
 sp (.ref x::(vs++wg)) (upd (upd H1 dx (.own x)) x (.ins C dx [])) (λv H2=>v=.non/\Q (.ref x) H2) E
def Binds(K:aV)(fd:FuncData)(ps:List Str)(ds:List Value):Prop:=
 ∀(s:Shared) (us:List Value),K.In s.heap->(us++ds).length=ps.length->BindsTo s fd ⟨us,[]⟩ (ps.zip (us++ds))
theorem Binds.all{K:aV}{fd:FuncData}{ps:List Str}(h:∀us:List Value,us.length=ps.length->bindArgs fd ⟨us,[]⟩=pure (ps.zip us)):Binds K fd ps []:=λs us _ hl=>by
 rw[List.append_nil]at hl ⊢;exact .of_eq (h us hl)
def Passes(CX:Zm)(X:Cx)(E:XK):Prop:=∀(pins:List (Addr×Obj)) (σ:St) (H:Hp) (s:Shared) (e:Value) (s':Shared),Inv X pins σ H s->CX X.stack H s E e s'->X.xe e s'
section
variable {X:Cx}{CX:Zm}{k:Nat}{f C:Addr}{fd:FuncData}{ps:List Str}{sp:Sp}{wg:List V}{ds:List Value}{E:XK}{x m:Str}{p pos apos:Pos}{e o:Expr}{es:List Expr}{ta:TE}{t:TA}
theorem Xa{pins:List (Addr×Obj)}{σ:St}{H:Hp}{s:Shared}{Q:VK}{us:List Value}{vs:List V}(F:uV X.prog X.w X.K X.mg X.base CX k f fd ps sp)(hr:Room k X.A)(hb:Binds X.K fd ps ds)(hd:Vals wg ds)(hx:Passes CX X E)
  (I:Inv X pins σ H s) (r:Vals vs us) (h:sp (vs++wg) H Q E):wpAny (model X.prog X.w) X.A (call (.ref f) us) (EP X pins σ Q) X.xe s:=by
 have r2:Vals (vs++wg) (us++ds):=r.append hd;have hl:(us++ds).length=ps.length:=by rw[<- r2.length];exact F.len _ _ _ _ h
 refine wpAny_call (codeAny_mono (F.run X.A X.stack s H ⟨us,[]⟩ (us++ds) (vs++wg) Q E hr I.env0 (hb s us I.uY hl) r2 h) λr s' hq=>?_);cases r with
 | error e=>exact hx pins σ H s e s' I hq
 | ok fl=>
  cases fl with
  | ret u=>exact I.after hq
  | next=>exact False.elim hq
  | brk=>exact False.elim hq
  | cont=>exact False.elim hq
theorem sZ(F:uV X.prog X.w X.K X.mg X.base CX k f fd ps sp)(hr:Room k X.A)(hg:Gl X x)(hm:X.mg x=some (.ref f))(hk:W.keepIn X.K (.ref f)=true)(hb:Binds X.K fd ps ds)(hd:Vals wg ds)(hx:Passes CX X E)
  (ha:PA X (e::es) t) (hdb:(x == ("__debug__":Str))=false:=by decide) (he:starEach (e::es) X.env=(false,eval e X.env)::starEach es X.env:=by rfl) (hpl:(backTo pos (starEach es X.env)).any (·.1)=false:=by rfl):
  PE X (.Call (.Name x p) (e::es) [] pos) (dH sp wg E t):=by
 intro pins s σ H Q I h;refine wpAny_Call_Name_kw (jT I hg hm ?_ hdb);refine W.callWith_K (h₀:=X.base) I.ok.mod.kin hk (lU (ha pos pins s σ H _ I h) λus s1 ⟨vs,H1,I1,r,q⟩=>⟨I1.uY,?_⟩) he hpl;exact Xa F hr hb hd hx I1 r q
theorem Xl{pl:Sem Bool}(he:PE X o ta)(c:Ds X.K C)(hm:Meth X.K C m f)(F:uV X.prog X.w X.K X.mg X.base CX k f fd ps sp)(hr:Room k X.A)(hb:Binds X.K fd ps ds)(hd:Vals wg ds)(hx:Passes CX X E)(ha:PA X (e::es) t)
  (hst:starEach (e::es) X.env=(false,eval e X.env)::starEach es X.env:=by rfl) (hpl:(backTo pos (starEach es X.env)).any (·.1)=false:=by rfl)
  (ht:eval (.Call (.Attribute o m apos) (e::es) [] pos) X.env=(do
   let ov <- eval o X.env
   standAt apos.atName
   let (f,first) <- holding [ov] (getMethod ov m pl)
   callWith pos f first (backTo pos (starEach (e::es) X.env)) (backToKw pos (keywordEach [] X.env))):=by rfl):
  PE X (.Call (.Attribute o m apos) (e::es) [] pos) (uH C m sp wg E ta t):=by
 intro pins s σ H Q I h;refine W.methodCall_KW (pl:=pl) (lU (he pins s σ H _ I h) λu s1 ⟨x,H1,I1,rx,a,dx,fs,ex,ea,l,q⟩=>?_) ht;subst ex;obtain rfl:u=Value.ref a:=rx;refine Rm I1 ea c hm l ?_;refine W.callWith_K (first:=[.ref a]) (h₀:=X.base) I.ok.mod.kin hm.kp (lU (ha pos pins s1 σ H1 _ I1 q) λus s2 ⟨vs,H2,I2,r,q2⟩=>⟨I2.uY,?_⟩) hst hpl;exact Xa (us:=.ref a::us) (vs:=.ref a::vs) F hr hb hd hx I2 (.cons rfl r) q2
theorem pU{pl:Sem Bool}(he:PE X o ta)(c:Ds X.K C)(hm:Meth X.K C m f)(F:uV X.prog X.w X.K X.mg X.base CX k f fd ps sp)(hr:Room k X.A)(hb:Binds X.K fd ps ds)(hd:Vals wg ds)(hx:Passes CX X E)
  (ht:eval (.Call (.Attribute o m apos) [] [] pos) X.env=(do
   let ov <- eval o X.env
   standAt apos.atName
   let (f,first) <- holding [ov] (getMethod ov m pl)
   callWith pos f first (backTo pos (starEach [] X.env)) (backToKw pos (keywordEach [] X.env))):=by rfl):
  PE X (.Call (.Attribute o m apos) [] [] pos) (uH C m sp wg E ta bW):=by
 intro pins s σ H Q I h;refine W.methodCall_KW (pl:=pl) (lU (he pins s σ H _ I h) λu s1 ⟨x,H1,I1,rx,a,dx,fs,ex,ea,l,q⟩=>?_) ht;subst ex;obtain rfl:u=Value.ref a:=rx;refine Rm I1 ea c hm l ?_;exact W.callWith_K0 (first:=[.ref a]) I1.uY hm.kp (Xa (us:=[.ref a]) (vs:=[.ref a]) F hr hb hd hx I1 (.cons rfl .nil) q)
structure Mk(K:aV)(C f:Addr):Prop where
 makes:W.makesIn K C=true
 init:W.findIn K (.ref C) "__init__"=some (some (.ref f))
 fn:W.isFn K (.ref f)=true
 kp:W.keepIn K (.ref C)=true
theorem ZV{pins:List (Addr×Obj)}{σ:St}{H:Hp}{s:Shared}{Q:VK}{us:List Value}{vs:List V}(M:Mk X.K C f)(F:uV X.prog X.w X.K X.mg X.base CX k f fd ps sp)(hr:Room (k+1) X.A)(hb:Binds X.K fd ps ds)(hd:Vals wg ds)
  (hx:Passes CX X E) (I:Inv X pins σ H s) (r:Vals vs us)
  (h:∀x dx,H x=none->H dx=none->dx≠x->sp (.ref x::(vs++wg)) (upd (upd H dx (.own x)) x (.ins C dx [])) (λv H2=>v=.non/\Q (.ref x) H2) E):
  wpAny (model X.prog X.w) X.A (call (.ref C) us) (EP X pins σ Q) X.xe s:=by
 have hq:=h (s.heap.objs.size+1) s.heap.objs.size (I.hok.fresh (Nat.le_succ _)) (I.hok.fresh (Nat.le_refl _)) (Nat.ne_of_lt (Nat.lt_succ_self _));have I2:=Inv.made (C:=C) I;have r2:Vals (V.ref (s.heap.objs.size+1)::(vs++wg)) (Value.ref (s.heap.objs.size+1)::(us++ds)):=.cons rfl (r.append hd);have hl:(Value.ref (s.heap.objs.size+1)::us++ds).length=ps.length:=by
  have e:=r2.length;rw[F.len _ _ _ _ hq]at e;exact e.symm
 refine wpAny_call (Zll (f:=f) I.uY M.makes M.init (beq_iff_eq.mp M.fn) (codeAny_mono (F.run _ X.stack _ _ ⟨Value.ref (s.heap.objs.size+1)::us,[]⟩ (Value.ref (s.heap.objs.size+1)::(us++ds)) _ _ E (hr.make C us [])
  (I2.env0.make C us []) (hb _ (Value.ref (s.heap.objs.size+1)::us) I2.uY hl) r2 hq) λr s' hq'=>?_))
 cases r with
 | error e=>exact hx pins σ _ _ e s' I2 hq'
 | ok fl=>
  cases fl with
  | ret u=>
   obtain⟨v,H',I3,rv,ev,q3⟩:=I2.after hq';subst ev;exact⟨rv,⟨V.ref (s.heap.objs.size+1),H',I3,rfl,q3⟩⟩
  | next=>exact False.elim hq'
  | brk=>exact False.elim hq'
  | cont=>exact False.elim hq'
theorem wG(M:Mk X.K C f)(F:uV X.prog X.w X.K X.mg X.base CX k f fd ps sp)(hr:Room (k+1) X.A)(hg:Gl X x)(hm:X.mg x=some (.ref C))(hb:Binds X.K fd ps ds)(hd:Vals wg ds)(hx:Passes CX X E)
  (ha:PA X (e::es) t) (hdb:(x == ("__debug__":Str))=false:=by decide) (he:starEach (e::es) X.env=(false,eval e X.env)::starEach es X.env:=by rfl) (hpl:(backTo pos (starEach es X.env)).any (·.1)=false:=by rfl):
  PE X (.Call (.Name x p) (e::es) [] pos) (zV C sp wg E t):=by
 intro pins s σ H Q I h;refine wpAny_Call_Name_kw (jT I hg hm ?_ hdb);refine W.callWith_K (h₀:=X.base) I.ok.mod.kin M.kp (lU (ha pos pins s σ H _ I h) λus s1 ⟨vs,H1,I1,r,q⟩=>⟨I1.uY,?_⟩) he hpl;exact ZV M F hr hb hd hx I1 r q
theorem Zku(M:Mk X.K C f)(F:uV X.prog X.w X.K X.mg X.base CX k f fd ps sp)(hr:Room (k+1) X.A)(hg:Gl X x)(hm:X.mg x=some (.ref C))(hb:Binds X.K fd ps ds)(hd:Vals wg ds)(hx:Passes CX X E)
  (hdb:(x == ("__debug__":Str))=false:=by decide):PE X (.Call (.Name x p) [] [] pos) (zV C sp wg E bW):=by
 intro pins s σ H Q I h;refine wpAny_Call_Name_kw (jT I hg hm ?_ hdb);exact W.callWith_K0 I.uY M.kp (ZV (us:=[]) M F hr hb hd hx I .nil h)
end
section
variable {X:Cx}{CX:Zm}{k:Nat}{f C:Addr}{fd:FuncData}{ps ks:List Str}{sp:Sp}{E:XK}{x m:Str}{p pos apos kpos:Pos}{e o:Expr}{es:List Expr}{kws:List Keyword}{te ta:TE}{t tk:TA}{nm:Option Str}
structure ZFx(K:aV)(fd:FuncData)(ps ks:List Str)(g:List Value->List Value->List Value)(gV:List V->List V->List V):Prop where
 to:∀(s:Shared) (us ws:List Value),K.In s.heap->(g us ws).length=ps.length->BindsTo s fd ⟨us,ks.zip ws⟩ (ps.zip (g us ws))
 rel:∀{vs:List V}{us:List Value}{zs:List V}{ws:List Value},Vals vs us->Vals zs ws->Vals (gV vs zs) (g us ws)
variable {g:List Value->List Value->List Value}{gV:List V->List V->List V}
end
structure dz(N P:List Str)(sc:Scope):Prop where
 kind:sc.kind=.function
 co:sc.isCoroutine=false
 gen:sc.isGenerator=false
 nd:N.Nodup
 pre:N.take P.length=P
 par:∀x∈P,sc.names.lookup x=some .local\/sc.names.lookup x=some .cell
 Zse:∀y∈sc.names,y.2≠.free
theorem Wh{kindOf:Str->Option NameKind}{x:Str}:∀{binds:List (Str×Value)}{m:Str->Option Value},(∀v,(x,v)∉binds)->bindL kindOf binds m x=m x
 | [],_,_=>rfl
 | (n,v)::r,m,h=>by
  unfold bindL;rw[Wh λw hw=>h w (List.mem_cons_of_mem _ hw)];split
  ·have:x≠n:=by rintro rfl;exact h v List.mem_cons_self
   simp[this]
  ·rfl
theorem Wj{kindOf:Str->Option NameKind}{x:Str}:∀{binds:List (Str×Value)}{m:Str->Option Value},(∀v,(x,v)∉binds)->bindC kindOf binds m x=m x
 | [],_,_=>rfl
 | (n,v)::r,m,h=>by
  unfold bindC;rw[Wj λw hw=>h w (List.mem_cons_of_mem _ hw)];split
  ·rfl
  ·have:x≠n:=by rintro rfl;exact h v List.mem_cons_self
   simp[this]
theorem Wi{kindOf:Str->Option NameKind}{x:Str}{v:Value}:∀{P:List Str}{vs:List Value}{i:Nat}{m:Str->Option Value},P.Nodup->P[i]? =some x->vs[i]? =some v->kindOf x=some .local->
  bindL kindOf (P.zip vs) m x=some v
 | [],_,_,_,_,h,_,_=>by simp at h
 | _::_,[],_,_,_,_,h,_=>by simp at h
 | p::P,w::vs,0,m,nd,h1,h2,hk=>by
  simp at h1 h2;subst h1;subst h2;show bindL kindOf ((p,w)::P.zip vs) m p=_;unfold bindL;rw[Wh λv hv=>(List.nodup_cons.mp nd).1 (List.of_mem_zip hv).1,if_pos hk];simp
 | p::P,w::vs,i+1,m,nd,h1,h2,hk=>by
  show bindL kindOf ((p,w)::P.zip vs) m x=_;unfold bindL;exact Wi (i:=i) (List.nodup_cons.mp nd).2 (by simpa using h1) (by simpa using h2) hk
theorem Wk{kindOf:Str->Option NameKind}{x:Str}{v:Value}:∀{P:List Str}{vs:List Value}{i:Nat}{m:Str->Option Value},P.Nodup->P[i]? =some x->vs[i]? =some v->kindOf x≠some .local->
  bindC kindOf (P.zip vs) m x=some v
 | [],_,_,_,_,h,_,_=>by simp at h
 | _::_,[],_,_,_,_,h,_=>by simp at h
 | p::P,w::vs,0,m,nd,h1,h2,hk=>by
  simp at h1 h2;subst h1;subst h2;show bindC kindOf ((p,w)::P.zip vs) m p=_;unfold bindC;rw[Wj λv hv=>(List.nodup_cons.mp nd).1 (List.of_mem_zip hv).1,if_neg hk];simp
 | p::P,w::vs,i+1,m,nd,h1,h2,hk=>by
  show bindC kindOf ((p,w)::P.zip vs) m x=_;unfold bindC;exact Wk (i:=i) (List.nodup_cons.mp nd).2 (by simpa using h1) (by simpa using h2) hk
def start(N:List Str)(vs:List V):St:=vs.map some++List.replicate (N.length - vs.length) none
def Cm(CX:Zm)(P:Program)(w:World)(K:aV)(mg:Str->Option Value)(base:Heap)(N:List Str)(qual:Str)(scope:Scope)(f:Addr)(cd:Value)(A:Around)(outer:List Env)(s:Shared)(H:Hp)(E:XK):Cx where
 prog:=P
 w:=w
 K:=K
 mg:=mg
 base:=base
 A:=A.deeper (envOfC qual scope s.heap.objs.size f cd)
 N:=N
 s₀:=s
 H₀:=H
 env:=envOfC qual scope s.heap.objs.size f cd
 outer:=outer
 stack:=envOfC qual scope s.heap.objs.size f cd::outer
 ex:=[]
 calm:=true
 fn:=λ_=>true
 pn:=[]
 xe:=λe s'=>wpAny (model P w) (A.deeper (envOfC qual scope s.heap.objs.size f cd)) (leaving (envOfC qual scope s.heap.objs.size f cd) e) (λ_ s''=>CX outer H s E e s'') (λe' s''=>CX outer H s E e' s'') s'
theorem Zbl{sc:Scope}{n:Nat}{x:Str}(h:sc.names.lookup x=some .cell):∃c,(cellsFrom n sc.names []).lookup x=some c:=by
 have q:=W.cellsFrom_some sc.names n [] (.inl h);exact Option.isSome_iff_exists.mp q
theorem Vz{CX:Zm}{P:Program}{w:World}{K:aV}{mg:Str->Option Value}{base:Heap}{N ps:List Str}{qual:Str}{scope:Scope}{f:Addr}{cd:Value}{A:Around}{outer:List Env}{s s1:Shared}{H:Hp}{E:XK}{us:List Value}{vs:List V}
  (S:dz N ps scope) (hd:A.handled=none) (e0:Zj P w K mg base A outer s H) (hl:vs.length=ps.length) (r:Vals vs us)
  (x:InCallC s s.heap.objs.size (bindL (envOfC qual scope s.heap.objs.size f cd).kindOf (ps.zip us) λ_=>none) (cellsFrom (s.heap.objs.size+1) scope.names []) (bindC (envOfC qual scope s.heap.objs.size f cd).kindOf (ps.zip us) λ_=>none) s1):
  Inv (Cm CX P w K mg base N qual scope f cd A outer s H E) [] (start N vs) H s1:=by
 have hpl:ps.length<=N.length:=by have:=congrArg List.length S.pre;rw[List.length_take]at this;omega
 obtain⟨h1,tk,rfl,hk⟩:=x.done;have noA:∀b:Addr,b∉(Cm CX P w K mg base N qual scope f cd A outer s H E).ex:=λb z=>absurd (show b∈([]:List Addr)from z) (by simp);refine⟨⟨e0.mod,S.kind,rfl,rfl,Nat.le_refl _,λy z c h1 h2=>?_,λy hy=>?_,λy c _ h=>?_,λ_=>hd,Around.frames_deeper e0.frames,.inr ⟨rfl,rfl⟩,λb z=>absurd z (noA b),e0.bs,e0.bsz,λb _ _=>noA b,λb z=>absurd z (noA b),e0.yw,e0.frf⟩,
  rfl,e0.bare,Un.kept hk,⟨_,x.toInCall.ns,λi y v h1 h2 h3=>?_⟩,λy c h=>⟨_,x.cell y c h⟩,e0.hok.fresh (Nat.le_refl _),λy c h=>?_,λp hp=>absurd (show p∈([]:List (Addr×Obj))from hp) (by simp),e0.hok.kept hk,?_⟩
 ·exact name_of_addr x.apart (PySem.mem_of_lookup h1) (PySem.mem_of_lookup h2)
 ·have hy:scope.names.lookup y=some .cell\/scope.names.lookup y=some .free:=hy;rcases hy with hy | hy
  ·exact Zbl hy
  ·exact absurd rfl (S.Zse _ (PySem.mem_of_lookup hy))
 ·exact Nat.le_of_lt (x.above y c (PySem.mem_of_lookup h))
 ·have hi:i<vs.length:=by
   unfold start at h2
   by_cases hi:i<vs.length
   ·exact hi
   ·rw[List.getElem?_append_right (by simpa using hi)]at h2;rw[List.getElem?_replicate]at h2;split at h2<;>cases h2
  have ha:vs[i]? =some v:=by
   unfold start at h2;rw[List.getElem?_append_left (by simpa using hi),fV]at h2;cases e:vs[i]? with
   | none=>rw[e]at h2;cases h2
   | some a=>rw[e]at h2;cases h2;rfl
  obtain⟨u,hu,rv⟩:=r.get ha;have hp:ps[i]? =some y:=by
   rw[<- S.pre,List.getElem?_take_of_lt (by omega)];exact h1
  have ndP:ps.Nodup:=by rw[<- S.pre];exact S.nd.sublist (List.take_sublist _ _)
  refine⟨u,rv,?_⟩;rcases S.par y (List.mem_of_getElem? hp)with k | k
  ·exact .inl ⟨k,Wi ndP hp hu k⟩
  ·obtain⟨c,e⟩:=Zbl (n:=s.heap.objs.size+1) k;refine .inr ⟨.inl k,c,e,?_⟩;have q:=x.cell y c e;rw[Wk ndP hp hu (by show scope.names.lookup y≠_;rw[k];decide)]at q;exact q
 ·exact e0.hok.fresh (Nat.le_of_lt (x.above y c (PySem.mem_of_lookup h)))
 ·unfold start;show _=N.length;rw[List.length_append,dM,List.length_replicate];omega
theorem Zg7{CX:Zm}{P:Program}{w:World}{K:aV}{mg:Str->Option Value}{base:Heap}{k:Nat}{f:Addr}{name qual:Str}{params:Arguments}{body:List Stmt}{scope:Scope}{dV kV doc pm cdv ct oc:Value}{an od:Option Addr}
  {osl:Array (Option Value)}{N ps:List Str}{sp:Sp} (lk:K.lookup f=some ⟨oc,od,.func (W.fnOf name qual params body scope dV kV doc pm an cdv ct),osl⟩) (hcd:W.codeIn K cdv qual=true) (S:dz N ps scope)
  (len:∀vs H Q E,sp vs H Q E->vs.length=ps.length)
  (hbody:∀(A:Around) (outer:List Env) (s:Shared) (H:Hp) (vs:List V) (Q:VK) (E:XK),Room k (A.deeper (envOfC qual scope s.heap.objs.size f cdv))->sp vs H Q E->
   ∃t,R1 (Cm CX P w K mg base N qual scope f cdv A outer s H E) body t/\t { nx:=λ_ H'=>Q .non H',rt:=Q } (start N vs) H):
  uV P w K mg base CX (k+1) f (W.fnOf name qual params body scope dV kV doc pm an cdv ct) ps sp:=by
 refine⟨len,λA outer s H args us vs Q E hr e0 hb r hsp=>?_⟩;have hl:=len _ _ _ _ hsp;have KX:K.In s.heap:=e0.mod.kin.keeps λb o e=>(e0.bs b o e).1;have lim:s.heap.NoLimit:=e0.mod.nolimit.keeps λb o e=>(e0.bs b o e).1;have hkind:∀y∈ps.zip us,scope.names.lookup y.1=some .local\/(scope.names.lookup y.1=some .cell/\((cellsFrom (s.heap.objs.size+1) scope.names []).lookup y.1).isSome=true):=λ⟨n,v⟩ hy=>by
  rcases S.par n (List.of_mem_zip hy).1 with q | q
  ·exact .inl q
  ·exact .inr ⟨q,W.cellsFrom_some _ _ _ (.inl q)⟩
 refine codeAny_call_function hr.depth (KX _ _ lk) rfl S.co S.gen rfl (W.codeRec_of KX hcd) (hb _ _ _ _ ?_);refine wpAny_newFunctionEnv_cells S.kind hkind λenv he s1 x=>?_;subst he;refine⟨lim.keeps x.toInCall.keep,codeAny_func ?_⟩;obtain⟨t,ht,hq⟩:=hbody A outer s H vs Q E (hr.deeper _) hsp;have I:Inv (Cm CX P w K mg base N qual scope f cdv A outer s H E) [] (start N vs) H s1:=Vz S hr.hd e0 hl r x;refine wpAny_mono (ht [] s1 (start N vs) H _ I hq) (λfl s' hs=>?_) λe s' hs=>hs;have fin:∀{σ':St}{H':Hp}{v:V}{u:Value},Inv (Cm CX P w K mg base N qual scope f cdv A outer s H E) [] σ' H' s'->RelV v u->Q v H'->CE outer P w H s Q u s':=
  λ{σ' H' v u} J rv q=>⟨v,H',J.os,J.bare,J.base,J.hok,rv,q⟩
 cases fl with
 | ret u=>
  obtain⟨v,σ',H',J,rv,q⟩:=hs;exact fin J rv q
 | next=>
  obtain⟨σ',H',J,q⟩:=hs;exact fin (v:=V.non) (u:=Value.none) J rfl q
 | brk=>
  obtain⟨_,_,_,q⟩:=hs;exact False.elim q
 | cont=>
  obtain⟨_,_,_,q⟩:=hs;exact False.elim q
end L2
namespace L2
open PySem PySem.Spec PyProof.Rows
section
variable {X:Cx}{x:Str}{p pos:Pos}{e:Expr}{es:List Expr}{t:TA}{id T:String}{r:List V->Hp->VK->Prop}
def Ai(r:List V->Hp->VK->Prop)(t:TA):TE:=λσ H Q=>t σ H λvs H1=>r vs H1 Q
theorem gB(hc:DX X (.builtin id) r)(hg:Gl X x)(hm:X.mg x=none)(hv:bootBuiltins x=some (.builtin id))(ha:PA X (e::es) t)(hn:x≠"__name__":=by decide)(hdb:(x == ("__debug__":Str))=false:=by decide)
  (he:starEach (e::es) X.env=(false,eval e X.env)::starEach es X.env:=by rfl) (hpl:(backTo pos (starEach es X.env)).any (·.1)=false:=by rfl):PE X (.Call (.Name x p) (e::es) [] pos) (Ai r t):=by
 intro pins s σ H Q I h;refine wpAny_Call_Name_kw (BZ I hg hm hv ?_ hn hdb);exact PyProof.Rows.callWith_builtin1 (lU (ha pos pins s σ H _ I h) λus s1 ⟨vs,H1,I1,r1,q1⟩=>hc pins s1 σ H1 vs us Q I1 r1 q1) he hpl
theorem nO(hc:DX X (.type T) r)(hg:Gl X x)(hm:X.mg x=none)(hv:bootBuiltins x=some (.type T))(ha:PA X (e::es) t)(hn:x≠"__name__":=by decide)(hdb:(x == ("__debug__":Str))=false:=by decide)
  (he:starEach (e::es) X.env=(false,eval e X.env)::starEach es X.env:=by rfl) (hpl:(backTo pos (starEach es X.env)).any (·.1)=false:=by rfl):PE X (.Call (.Name x p) (e::es) [] pos) (Ai r t):=by
 intro pins s σ H Q I h;refine wpAny_Call_Name_kw (BZ I hg hm hv ?_ hn hdb);exact PyProof.Rows.callWith_type1 (lU (ha pos pins s σ H _ I h) λus s1 ⟨vs,H1,I1,r1,q1⟩=>hc pins s1 σ H1 vs us Q I1 r1 q1) he hpl
end
end L2
namespace HT
open PySem PyProof.Rows
section
open PySem.SeqAt
open PySem.AutoSeq1 (wpAny_loadPart')
open PySem.MeetsSeq PySem.MeetsSeq2 PySem.MeetsSeq3
end
section
variable {prog:Program}{w:World}{A:Around}{E:Value->Shared->Prop}{s:Shared}
def oE(n d:Nat):Option Int->Nat
 | none=>d
 | some v=>if v<0 then(v+(n:Int)).toNat else min v.toNat n
theorem Zjz(n d:Nat):oE n d none=d:=rfl
theorem Zru(n d:Nat)(hd:d<=n)(o:Option Int):oE n d o<=n:=by
 cases o with
 | none=>exact hd
 | some v=>
  show(if v<0 then(v+(n:Int)).toNat else min v.toNat n)<=n
  by_cases hv:v<0
  ·rw[if_pos hv];omega
  ·rw[if_neg hv];exact Nat.min_le_right _ _
theorem Zgg(v:Int)(n d:Nat):(if v<0 then max (v+(n:Int)) 0 else min v (n:Int))=((oE n d (some v):Nat):Int):=by
 show(if v<0 then max (v+(n:Int)) 0 else min v (n:Int))=(((if v<0 then(v+(n:Int)).toNat else min v.toNat n):Nat):Int)
 by_cases hv:v<0
 ·simp only[if_pos hv];omega
 ·simp only[if_neg hv];omega
theorem Zfa(lo hi:Option Int)(n:Nat):Builtin.Slice.sliceAdjust lo hi 1 (n:Int)=(((oE n 0 lo:Nat):Int),((oE n n hi:Nat):Int)):=by
 have h1:¬ ((1:Int)<0):=by omega
 unfold Builtin.Slice.sliceAdjust;simp only[h1,if_false];refine Prod.ext ?_ ?_
 ·cases lo with
  | none=>rfl
  | some v=>exact Zgg v n 0
 ·cases hi with
  | none=>rfl
  | some v=>exact Zgg v n n
theorem Zd7(i j:Nat):Builtin.Slice.slicePlaces (i:Int) (j:Int) 1=j - i:=by
 unfold Builtin.Slice.slicePlaces;have h1:(1:Int) > 0:=by omega
 simp only[h1,if_true,Int.ediv_one];split<;>omega
theorem Qk{v:Value}{o:Option Int}{Q:Option Int->Shared->Prop}(p:IsPart v o)(h:Q o s):wpAny (model prog w) A (Builtin.Slice.slicePartIndex v) Q E s:=by
 cases p with
 | none=>exact slicePart_none h
 | int i t=>exact slicePart_int h
theorem Jm{sl:Addr}{vl vu:Value}{lo hi:Option Int}{n:Nat}{Q:Int×Int×Nat->Shared->Prop}(hs:s.heap.IsSliceOf sl vl vu .none)(pl:IsPart vl lo)(pu:IsPart vu hi)
  (h:Q (((oE n 0 lo:Nat):Int),1,oE n n hi - oE n 0 lo) s):wpAny (model prog w) A (Builtin.Slice.sliceApplied (.ref sl) (pure (n:Int))) Q E s:=by
 obtain⟨os,hos,hcs,hds⟩:=id hs;unfold Builtin.Slice.sliceApplied Builtin.Slice.sliceFields;refine wpAny_bind (wpAny_bind (wpAny_field hos hds (x:=vl) rfl (wpAny_bind (wpAny_field hos hds (x:=vu) rfl (wpAny_bind (wpAny_field hos hds (x:=.none) rfl (wpAny_pure ?_)))))));refine wpAny_bind (slicePart_none ?_);show wpAny _ _ (if ((1:Int) == 0)=true then _ else _) _ _ s;rw[if_neg (by decide)];refine wpAny_bind (Qk pl (wpAny_bind (Qk pu (wpAny_bind (wpAny_pure ?_)))));show wpAny _ _ (match Builtin.Slice.sliceAdjust lo hi 1 (n:Int)with | (lo,hi)=>pure (lo,(1:Int),Builtin.Slice.slicePlaces lo hi 1)) _ _ s;rw[Zfa lo hi n];show wpAny _ _ (pure (((oE n 0 lo:Nat):Int),(1:Int),Builtin.Slice.slicePlaces ((oE n 0 lo:Nat):Int) ((oE n n hi:Nat):Int) 1)) _ _ s;rw[Zd7];exact wpAny_pure h
theorem Zkn(xs:Array Value)(i k:Nat):((List.range k).filterMap λ(m:Nat)=>xs[((i:Int)+(m:Int) * 1).toNat]?).toArray=((xs.toList.drop i).take k).toArray:=by
 have e:(λ(m:Nat)=>xs[((i:Int)+(m:Int) * 1).toNat]?)=λm=>xs[i+m]? :=by
  funext m
  have:((i:Int)+(m:Int) * 1).toNat=i+m:=by omega
  rw[this]
 rw[e];have:=pick_run xs i k;rw[List.filterMap_map]at this;have e2:((λx=>xs[x]?) ∘ λx=>i+x)=λm=>xs[i+m]? :=rfl;rw[e2]at this;rw[this]
theorem HW{t sl:Addr}{items:Array Value}{vl vu:Value}{lo hi:Option Int}{Q:Value->Shared->Prop}(ht:IsTup s.heap t items)(hs:s.heap.IsSliceOf sl vl vu .none)(pl:IsPart vl lo)(pu:IsPart vu hi)
  (hw:¬ (oE items.size 0 lo=0/\oE items.size items.size hi=items.size))
  (h:Q (.ref s.heap.objs.size) { s with heap:=s.heap.push { cls:=.type "tuple",data:=.seq ((items.toList.drop (oE items.size 0 lo)).take (oE items.size items.size hi - oE items.size 0 lo)).toArray } })
  (hsz:items.size<=sizeLine):wpAny (model prog w) A (getItem (.ref t) (.ref sl)) Q E s:=by
 have Zg4:sizeOk (.seq ((items.toList.drop (oE items.size 0 lo)).take (oE items.size items.size hi - oE items.size 0 lo)).toArray):=by
  show((items.toList.drop (oE items.size 0 lo)).take (oE items.size items.size hi - oE items.size 0 lo)).toArray.size<=sizeLine;rw[List.size_toArray,List.length_take,List.length_drop,Array.length_toList];omega
 have hj:oE items.size items.size hi<=items.size:=Zru _ _ (Nat.le_refl _) hi;obtain⟨os,hos,hcs,hds⟩:=id hs;have hTs:s.TypeIs (.ref sl) "slice":=⟨os,hos,hcs⟩;unfold getItem
 try with_reducible refine wpAny_holding ?_
 first | refine wpAny_bind (wpAny_pure ?_) | skip
 refine wpAny_bind (wpAny_sequenceKey ht.typeIs (by decide) ?_);refine wpAny_bind (wpAny_callSpecial?_slot (name:=Str.ofString "__getitem__") ht.typeIs PyProof.Rows.slot_tuple_getitem
  (wpAny_call_entry PyProof.Rows.slot_tuple_getitem ht.typeIs entry_tuple_getitem ?_ (args_tuple_getitem _ _)))
 show wpAny _ _ (Builtin.Tuple.tupleItemsOf (.ref t) >>= _) _ _ s;refine wpAny_bind (tupleItemsOf_ ht ?_);refine wpAny_bind (wpAny_typeOf hTs ?_);rw[if_pos (by decide)];refine wpAny_bind (Jm hs pl pu ?_);have hno:¬ ((((oE items.size 0 lo:Nat):Int) == 0 && (1:Int) == 1 && (oE items.size items.size hi - oE items.size 0 lo) == items.size)=true):=by
  intro q;rw[Bool.and_eq_true,Bool.and_eq_true]at q;have q1:((oE items.size 0 lo:Nat):Int)=0:=eq_of_beq q.1.1;have q2:oE items.size items.size hi - oE items.size 0 lo=items.size:=eq_of_beq q.2;exact hw ⟨by omega,by omega⟩
 show wpAny _ _ (if (((oE items.size 0 lo:Nat):Int) == 0 && (1:Int) == 1 && (oE items.size items.size hi - oE items.size 0 lo) == items.size)=true then _ else _) _ _ s;rw[if_neg hno,Zkn]
 first
  | exact wpAny_bind (m:=Builtin.Tuple.tupleExact _) (wpAny_newObj_type (wpAny_pure ⟨_,rfl,wpAny_pure h⟩) Zg4)
  | exact wpAny_bind (m:=Builtin.Tuple.tupleExact _) (wpAny_newObj_type (wpAny_bind (wpAny_pure (wpAny_pure ⟨_,rfl,wpAny_pure h⟩))) Zg4)
  | exact wpAny_bind (wpAny_bind (m:=Builtin.Tuple.tupleExact _) (wpAny_newObj_type (wpAny_pure (wpAny_pure ⟨_,rfl,wpAny_pure h⟩)) Zg4))
  | exact wpAny_bind (wpAny_bind (m:=Builtin.Tuple.tupleExact _) (wpAny_newObj_type (wpAny_pure ⟨_,rfl,wpAny_pure h⟩) Zg4))
end
end HT
namespace L2
open PySem PySem.Spec PyProof.Rows
abbrev TO:=St->Hp->(Option Int->Hp->Prop)->Prop
def PO(X:Cx)(e:Option Expr)(t:TO):Prop:=
 ∀(pins:List (Addr×Obj)) (s:Shared) (σ:St) (H:Hp) (Q:Option Int->Hp->Prop),Inv X pins σ H s->t σ H Q->
  wpAny (model X.prog X.w) X.A (evalPart e X.env) (λu s'=>∃o H',Inv X pins σ H' s'/\IsPart u o/\Q o H') X.xe s
def yG:TO:=λ_ H Q=>Q none H
def Ls(t:TE):TO:=λσ H Q=>t σ H λx H1=>∃i,x=.int i/\Q (some i) H1
section
variable {X:Cx}{e:Expr}{te:TE}{lo hi:Option Expr}{tl th:TO}{pos p2:Pos}
theorem Gq:PO X none yG:=by
 intro pins s σ H Q I h;rw[evalPart_none];exact wpAny_pure ⟨none,H,I,.none,h⟩
theorem CP(h:PE X e te):PO X (some e) (Ls te):=by
 intro pins s σ H Q I hw;rw[evalPart_some];refine lU (h pins s σ H _ I hw) λu s1 ⟨x,H1,I1,r1,q1⟩=>?_;obtain⟨i,rfl,q⟩:=q1;obtain⟨t,rfl⟩:=r1;exact⟨some i,H1,I1,.int i t,q⟩
def SlR(X:Cx)(r:V->Option Int->Option Int->Hp->VK->Prop):Prop:=
 ∀(pins:List (Addr×Obj)) (s:Shared) (σ:St) (H:Hp) (x:V) (v vl vu:Value) (lo hi:Option Int) (sl:Addr) (Q:VK),Inv X pins σ H s->RelV x v->s.heap.IsSliceOf sl vl vu .none->IsPart vl lo->IsPart vu hi->r x lo hi H Q->
  ∃T id,typeLookup (.type T) "__getitem__"=pure (some (.builtin id))/\s.TypeIs v T/\wpAny (model X.prog X.w) X.A (getItem v (.ref sl)) (EP X pins σ Q) X.xe s
def tSl(r:V->Option Int->Option Int->Hp->VK->Prop)(te:TE)(tl th:TO):TE:=λσ H Q=>te σ H λx H1=>tl σ H1 λl H2=>th σ H2 λu H3=>r x l u H3 Q
theorem yo{r:V->Option Int->Option Int->Hp->VK->Prop}(hr:SlR X r)(he:PE X e te)(hl:PO X lo tl)(hu:PO X hi th):PE X (.Subscript e (.Slice lo hi none p2) pos) (tSl r te tl th):=by
 intro pins s σ H Q I h;refine Subscript_ (lU (he pins s σ H _ I h) λv s1 ⟨x,H1,I1,r1,q1⟩=>?_);refine wpAny_Slice (lU (hl pins s1 σ H1 _ I1 q1) λvl s2 ⟨l,H2,I2,pl,q2⟩=>lU (hu pins s2 σ H2 _ I2 q2) λvu s3 ⟨u,H3,I3,pu,q3⟩=>?_);rw[evalPart_none];refine wpAny_pure ?_;have I4:Inv X pins σ H3 { s3 with heap:=s3.heap.push { cls:=.type "slice",data:=.fields #[vl,vu,.none] } }:=I3.kept (t':=s3.toks) λb ob q=>Heap.get?_push_of_some _ q;obtain⟨T,id,hT,ht,hg⟩:=hr pins { s3 with heap:=s3.heap.push { cls:=.type "slice",data:=.fields #[vl,vu,.none] } } σ H3 x v vl vu l u s3.heap.objs.size Q I4 r1 (Heap.IsSliceOf.new ..) pl pu q3;show wpAny (model X.prog X.w) X.A (subscriptTail e (.Slice lo hi none p2) v (.ref s3.heap.objs.size)) (EP X pins σ Q) X.xe { s3 with heap:=s3.heap.push { cls:=.type "slice",data:=.fields #[vl,vu,.none] } };exact tail_any (ops:=[.ref s3.heap.objs.size,v]) ht hT hg (by with_unfolding_all rfl)
def yx(xs:List V)(lo hi:Option Int):List V:=(xs.drop (HT.oE xs.length 0 lo)).take (HT.oE xs.length xs.length hi - HT.oE xs.length 0 lo)
theorem Mj(xs:List V)(lo hi:Option Int):(yx xs lo hi).length<=xs.length:=by
 unfold yx;rw[List.length_take,List.length_drop];omega
def Zuw(K:aV):V->Option Int->Option Int->Hp->VK->Prop:=λx lo hi H Q=>∃a xs,x=.ref a/\jE K H a xs/\
 ¬ (HT.oE xs.length 0 lo=0/\HT.oE xs.length xs.length hi=xs.length)/\∀p,H p=none->Q (.ref p) (upd H p (.tup (yx xs lo hi)))
theorem Zrq:SlR X (Zuw X.K):=by
 intro pins s σ H x v vl vu lo hi sl Q I rx hs pl pu h;obtain⟨a,xs,rfl,hx,hw,q⟩:=h;cases rx;obtain⟨its,r,ht,hz⟩:=I.tuple hx;have hlen:its.toArray.size=xs.length:=by rw[List.size_toArray];exact r.length.symm
 refine⟨"tuple",_,PyProof.Rows.slot_tuple_getitem.lookup,ht.typeIs,?_⟩;refine HT.HW ht hs pl pu (by rw[hlen];exact hw) ?_ (by rw[hlen];exact hz);rw[hlen];refine⟨.ref s.heap.objs.size,_,I.laid (t':=s.toks) (o:=.tup (yx xs lo hi)) (λb ob q=>Heap.get?_push_of_some _ q) (Nat.le_refl _) ?_,rfl,q _ (I.hok.fresh (Nat.le_refl _))⟩;exact⟨Nat.le_trans (Mj xs lo hi) hz,_,(r.drop (HT.oE xs.length 0 lo)).take (HT.oE xs.length xs.length hi - HT.oE xs.length 0 lo),IsTup.new _ _⟩
end
end L2
namespace L2
open PySem PySem.Spec PyProof.Rows
def ixN(n:Nat)(i:Int):Option Nat:=if 0<=i then(if i<n then some i.toNat else none)else if -(n:Int)<=i then some (i+n).toNat else none
def Ur{α:Type}(xs:List α)(i:Int):Option α:=(ixN xs.length i).bind λj=>xs[j]?
theorem Zfz{n:Nat}{i:Int}{j:Nat}(h:ixN n i=some j):seqIndex? i n=some j/\j<n/\-(n:Int)<=i/\i<n:=by
 unfold ixN at h
 by_cases h0:0<=i
 ·rw[if_pos h0]at h
  by_cases h1:i<n
  ·rw[if_pos h1]at h;have e:i.toNat=j:=Option.some.inj h;exact⟨by rw[seqIndex_of h0 h1,e],by omega,by omega,h1⟩
  ·rw[if_neg h1]at h;cases h
 ·rw[if_neg h0]at h
  by_cases h1:-(n:Int)<=i
  ·rw[if_pos h1]at h;have e:(i+n).toNat=j:=Option.some.inj h;exact⟨by rw[seqIndex_neg (by omega) h1,e],by omega,h1,by omega⟩
  ·rw[if_neg h1]at h;cases h
theorem Y5{α:Type}{xs:List α}{i:Int}{v:α}(h:Ur xs i=some v):∃j,seqIndex? i xs.length=some j/\xs[j]? =some v/\j<xs.length/\-(xs.length:Int)<=i/\i<xs.length:=by
 unfold Ur at h;cases e:ixN xs.length i with
 | none=>rw[e]at h;cases h
 | some j=>
  rw[e]at h;obtain⟨h1,h2,h3,h4⟩:=Zfz e;exact⟨j,h1,h,h2,h3,h4⟩
theorem nD{α:Type}{xs:List α}{j:Nat}{v:α}(h:xs[j]? =some v):Ur xs (j:Int)=some v:=by
 have hj:j<xs.length:=(gG h).1;have e:ixN xs.length (j:Int)=some j:=by
  unfold ixN;rw[if_pos (by omega),if_pos (by omega)];simp
 unfold Ur;rw[e];exact h
theorem Zbp{α:Type}(xs:List α)(v:α):Ur (xs++[v]) (-1)=some v:=by
 have hl:(xs++[v]).length=xs.length+1:=by simp
 have e:ixN (xs++[v]).length (-1)=some xs.length:=by
  unfold ixN;rw[hl,if_neg (by decide),if_pos (by omega)];congr 1;omega
 unfold Ur;rw[e];show(xs++[v])[xs.length]? =some v;simp
def Zgr(b:Expr):Prop:=∀o i,subscripted b false o i=operate [o,i] (getItem o i)
def IxR(X:Cx)(r:R2):Prop:=
 ∀(value slice:Expr) (pins:List (Addr×Obj)) (s:Shared) (σ:St) (H:Hp) (x y:V) (v u:Value) (Q:VK),Inv X pins σ H s->RelV x v->RelV y u->r x y H Q->
  subscripted slice false v u=operate [v,u] (getItem v u)->wpAny (model X.prog X.w) X.A (subscriptTail value slice v u) (EP X pins σ Q) X.xe s
def MtR(X:Cx)(id:String)(r:V->List V->Hp->VK->Prop):Prop:=
 ∀(pins:List (Addr×Obj)) (s:Shared) (σ:St) (H:Hp) (x:V) (xs:List V) (v:Value) (us:List Value) (Q:VK),Inv X pins σ H s->RelV x v->Vals xs us->r x xs H Q->
  wpAny (model X.prog X.w) X.A (call (.builtin id) (v::us)) (EP X pins σ Q) X.xe s
section
variable {X:Cx}{a b:Expr}{ta tb:TE}{pos:Pos}
theorem Zuz{r:R2}(hr:IxR X r)(ha:PE X a ta)(hb:PE X b tb)(hs:Zgr b):PE X (.Subscript a b pos) (dG r ta tb):=by
 intro pins s σ H Q I h;exact Subscript_ (Zuc ha hb I h λv u s2 x y H2 I2 rx ry q=>hr a b pins s2 σ H2 x y v u Q I2 rx ry q (hs _ _))
def pQ(K:aV):R2:=λx y H Q=>∃p xs i v,x=.ref p/\y=.int i/\fj K H p xs/\Ur xs i=some v/\Q v H
def iQ(K:aV):R2:=λx y H Q=>∃p xs i v,x=.ref p/\y=.int i/\jE K H p xs/\Ur xs i=some v/\Q v H
def Zkb:R2:=λx y H Q=>∃z i c,x=.str z/\y=.int i/\z.length<=sizeLine/\Ur z.cps.toList i=some c/\Q (.str ⟨#[c]⟩) H
theorem gP:IxR X (pQ X.K):=by
 intro value slice pins s σ H x y v u Q I rx ry h hs;obtain⟨p,xs,i,z,rfl,rfl,hq,he,q⟩:=h;cases rx;obtain⟨t,rfl⟩:=ry;obtain⟨its,r,pl,hz⟩:=I.list hq;obtain⟨j,h1,h2,h3,h4,h5⟩:=Y5 he;obtain⟨w,ew,rw'⟩:=r.get h2;have hl:=r.length;have hn:=Q4;have fin:EP X pins σ Q w s:=⟨z,H,I,rw',q⟩
 by_cases h0:0<=i
 ·have hj:i.toNat=j:=by
   rw[seqIndex_of h0 h5]at h1;exact Option.some.inj h1
  exact item_listR pl.isList h0 (by omega) (by rw[hj];simpa using ew) fin hs
 ·have hj:(i+(its.toArray.size:Int)).toNat=j:=by
   rw[seqIndex_neg (by omega) h4]at h1;rw[List.size_toArray,<- hl];exact Option.some.inj h1
  exact subscriptTail_builtinR (x:=w) pl.isList.typeIs slot_list_getitem.lookup
   (wpAny_getItem_list_neg (Q:=λr s'=>r=w/\EP X pins σ Q r s') pl.isList (by omega) (by rw[List.size_toArray]<;>omega) (by omega) (by rw[hj];simpa using ew) ⟨rfl,fin⟩) hs
theorem eN:IxR X (iQ X.K):=by
 intro value slice pins s σ H x y v u Q I rx ry h hs;obtain⟨p,xs,i,z,rfl,rfl,hq,he,q⟩:=h;cases rx;obtain⟨t,rfl⟩:=ry;obtain⟨its,r,pl,hz⟩:=I.tuple hq;obtain⟨j,h1,h2,h3,h4,h5⟩:=Y5 he;obtain⟨w,ew,rw'⟩:=r.get h2;have hl:=r.length;have hn:=Q4;have fin:EP X pins σ Q w s:=⟨z,H,I,rw',q⟩;exact subscriptTail_builtinR (x:=w) pl.typeIs slot_tuple_getitem.lookup
  (getItem_tuple (j:=j) (Q:=λr s'=>r=w/\EP X pins σ Q r s') pl (by omega) (by omega) (by rw[List.size_toArray,<- hl];exact h1) (by simpa using ew) ⟨rfl,fin⟩) hs
theorem Ze9:IxR X Zkb:=by
 intro value slice pins s σ H x y v u Q I rx ry h hs;obtain⟨z,i,c,rfl,rfl,hz,he,q⟩:=h;obtain⟨t,rfl⟩:=rx;obtain⟨t',rfl⟩:=ry;obtain⟨j,h1,h2,h3,h4,h5⟩:=Y5 he;have hl:z.cps.toList.length=z.length:=by simp[Str.length]
 rw[hl]at h1 h4 h5;have hn:=Q4;exact tail_any (typeIs_str s z t) slot_str_getitem.lookup (getItem_str (c:=c) (by
  have e1:decide (i < -(2 ^ 63:Int))=false:=decide_eq_false (by omega);have e2:decide (i≥2 ^ 63)=false:=decide_eq_false (by omega);rw[e1,e2,Bool.or_false]) (by rw[h1];simpa using h2) ⟨.str ⟨#[c]⟩,H,I.tok _,⟨_,rfl⟩,q⟩) hs
theorem Zdw(its:List Value)(n j:Nat)(u:Value):Obj.mapSeq (·.setIfInBounds j u) { cls:=.type "list",data:=.seq its.toArray n }={ cls:=.type "list",data:=.seq (its.set j u).toArray n }:=by
 simp[Obj.mapSeq]
theorem Inv.lst{pins:List (Addr×Obj)}{σ:St}{H:Hp}{s:Shared}{p:Addr}{xs:List V}(I:Inv X pins σ H s)(h:H p=some (.lst xs)):
  ∃(its:List Value) (n:Nat),Vals xs its/\s.heap.get? p=some { cls:=.type "list",data:=.seq its.toArray n }/\xs.length<=sizeLine:=by
 obtain⟨z,its,n,r,e⟩:=I.hok p _ h;exact⟨its,n,r,e,z⟩
theorem Inv.Zsp{pins:List (Addr×Obj)}{σ:St}{H:Hp}{s:Shared}{p:Addr}{xs ys:List V}{its its':List Value}{n n':Nat}{f:Obj->Obj}(I:Inv X pins σ H s)(h:H p=some (.lst xs))
  (ho:s.heap.get? p=some { cls:=.type "list",data:=.seq its.toArray n }) (hf:f { cls:=.type "list",data:=.seq its.toArray n }={ cls:=.type "list",data:=.seq its'.toArray n' }) (r:Vals ys its') (hz:ys.length<=sizeLine) (t:Nat):
  Inv X pins σ (upd H p (.lst ys)) { s with heap:=s.heap.update p f,toks:=t }:=by
 have e:(s.heap.update p f).get? p=some { cls:=.type "list",data:=.seq its'.toArray n' }:=by
  rw[Heap.get?_update_self f ho (by rw[hf]<;>rfl),hf]
 refine I.write (x:=p) (e:=p) (by rw[h];trivial) (.inl rfl) (λb u hb q=>(Heap.get?_update_other _ _ (Ne.symm hb)).trans q) ⟨_,e⟩ ?_;exact⟨hz,its',n',r,e⟩
def Dv:V->V->V->Hp->(Hp->Prop)->Prop:=λo i v H Q=>∃p xs k j,o=.ref p/\i=.int k/\H p=some (.lst xs)/\ixN xs.length k=some j/\Q (upd H p (.lst (xs.set j v)))
theorem set_list:Zwt X Dv:=by
 intro pins s σ H o i v ov iv u Q I ro ri rv h;obtain⟨p,xs,k,j,rfl,rfl,hp,hj,q⟩:=h;cases ro;obtain⟨t,rfl⟩:=ri;obtain⟨its,n,r,ho,hz⟩:=I.lst hp;obtain⟨h1,h2,h3,h4⟩:=Zfz hj;have hl:=r.length;have hn:=Q4;have I':Inv X pins σ (upd H p (.lst (xs.set j v))) { s with heap:=s.heap.update p (Obj.mapSeq (·.setIfInBounds j u)) }:=
  I.Zsp hp ho (Zdw its n j u) (r.set rv j) (by rw[List.length_set];exact hz) s.toks
 by_cases h0:0<=k
 ·have hk:k.toNat=j:=by
   rw[seqIndex_of h0 h4]at h1;exact Option.some.inj h1
  exact W.ki_setAt ho h0 (by omega) (by rw[List.size_toArray,<- hl];exact h4) (by rw[hk];exact⟨_,I',q⟩)
 ·have hk:(k+(its.toArray.size:Int)).toNat=j:=by
   rw[seqIndex_neg (by omega) h3]at h1;rw[List.size_toArray,<- hl];exact Option.some.inj h1
  exact W.ki_setBack ho (by omega) (by rw[List.size_toArray,<- hl];exact h3) (by omega) (by rw[hk];exact⟨_,I',q⟩)
theorem WW(lo hi:Option Int)(n:Nat):(sliceBounds lo hi none n).1=((HT.oE n 0 lo:Nat):Int)/\(sliceBounds lo hi none n).2.1=((HT.oE n n hi:Nat):Int)/\(sliceBounds lo hi none n).2.2=1:=by
 refine⟨?_,?_,rfl⟩
 ·cases lo with
  | none=>simp[sliceBounds,HT.oE]
  | some i=>
   simp only[sliceBounds,HT.oE,Option.getD_none,show(1:Int) > 0 by decide,if_true]
   by_cases h:i<0
   ·simp only[h,if_true]<;>omega
   ·simp only[h,if_false]<;>omega
 ·cases hi with
  | none=>simp[sliceBounds,HT.oE]
  | some i=>
   simp only[sliceBounds,HT.oE,Option.getD_none,show(1:Int) > 0 by decide,if_true]
   by_cases h:i<0
   ·simp only[h,if_true]<;>omega
   ·simp only[h,if_false]<;>omega
theorem Sv(its:List Value)(lo hi:Option Int):slicePick its.toArray lo hi none=((its.drop (HT.oE its.length 0 lo)).take (HT.oE its.length its.length hi - HT.oE its.length 0 lo)).toArray:=by
 obtain⟨h1,h2,h3⟩:=WW lo hi its.toArray.size;unfold slicePick;rw[h1,h2,h3];simp only[sliceRange_one,pick_run,List.size_toArray]<;>rfl
def Zh9(K:aV):V->Option Int->Option Int->Hp->VK->Prop:=λx lo hi H Q=>∃a xs,x=.ref a/\fj K H a xs/\∀p,H p=none->Q (.ref p) (upd H p (.lst (yx xs lo hi)))
theorem Ge:SlR X (Zh9 X.K):=by
 intro pins s σ H x v vl vu lo hi sl Q I rx hs pl pu h;obtain⟨a,xs,rfl,hx,q⟩:=h;cases rx;obtain⟨its,r,ht,hz⟩:=I.list hx;have hlen:=r.length;refine⟨"list",_,slot_list_getitem.lookup,ht.isList.typeIs,?_⟩;refine wpAny_getItem_list_slice ht.isList hs pl pu .none (by simp) ?_ (by rw[List.size_toArray]<;>omega);rw[Sv,<- hlen];refine⟨.ref s.heap.objs.size,_,I.laid (t':=s.toks) (o:=.lst (yx xs lo hi)) (λb ob q=>Heap.get?_push_of_some _ q) (Nat.le_refl _) ?_,rfl,q _ (I.hok.fresh (Nat.le_refl _))⟩;exact⟨Nat.le_trans (Mj xs lo hi) hz,_,0,(r.drop (HT.oE xs.length 0 lo)).take (HT.oE xs.length xs.length hi - HT.oE xs.length 0 lo),Heap.get?_push_size _ rfl⟩
def nM:V->Bool
 | .non=>true
 | .bl _=>true
 | .int _=>true
 | .str _=>true
 | _=>false
def eqV:V->V->Bool
 | .non,.non=>true
 | .bl a,.bl b=>a == b
 | .bl a,.int b=>(if a then 1 else 0) == b
 | .int a,.bl b=>a == (if b then 1 else 0)
 | .int a,.int b=>a == b
 | .str a,.str b=>a == b
 | _,_=>false
theorem YW{A:Around}{s:Shared}{y x:V}{u v:Value}(ry:RelV y u)(rx:RelV x v)(fy:nM y=true)(fx:nM x=true):SeqAt.EqAt A s u v (eqV y x):=by
 cases y with
 | non=>
  cases ry;cases x with
  | non=>cases rx;exact SeqAt.EqAt.same _
  | bl b=>cases rx;exact SeqAt.EqAt.none_bool b
  | int b=>obtain⟨t,rfl⟩:=rx;exact SeqAt.EqAt.none_int b t
  | str b=>obtain⟨t,rfl⟩:=rx;exact SeqAt.EqAt.none_str b t
  | _=>exact absurd (show false=true from fx) Bool.false_ne_true
 | bl a=>
  cases ry;cases x with
  | non=>cases rx;exact SeqAt.EqAt.bool_none a
  | bl b=>cases rx;exact SeqAt.EqAt.bool_bool a b
  | int b=>obtain⟨t,rfl⟩:=rx;exact SeqAt.EqAt.bool_int a b t
  | str b=>obtain⟨t,rfl⟩:=rx;exact SeqAt.EqAt.bool_str a b t
  | _=>exact absurd (show false=true from fx) Bool.false_ne_true
 | int a=>
  obtain⟨t',rfl⟩:=ry;cases x with
  | non=>cases rx;exact SeqAt.EqAt.int_none a t'
  | bl b=>cases rx;exact SeqAt.EqAt.int_bool a t' b
  | int b=>obtain⟨t,rfl⟩:=rx;exact SeqAt.EqAt.int_int a t' b t
  | str b=>obtain⟨t,rfl⟩:=rx;exact SeqAt.EqAt.int_str a t' b t
  | _=>exact absurd (show false=true from fx) Bool.false_ne_true
 | str a=>
  obtain⟨t',rfl⟩:=ry;cases x with
  | non=>cases rx;exact SeqAt.EqAt.str_none a t'
  | bl b=>cases rx;exact SeqAt.EqAt.str_bool a t' b
  | int b=>obtain⟨t,rfl⟩:=rx;exact SeqAt.EqAt.str_int a t' b t
  | str b=>obtain⟨t,rfl⟩:=rx;exact SeqAt.EqAt.str_str a t' b t
  | _=>exact absurd (show false=true from fx) Bool.false_ne_true
 | _=>exact absurd (show false=true from fy) Bool.false_ne_true
def eqU(x:V)(u:Value):Bool:=match u with
 | .none=>eqV .non x
 | .bool b=>eqV (.bl b) x
 | .int i _=>eqV (.int i) x
 | .str z _=>eqV (.str z) x
 | _=>false
theorem Zn9{x y:V}{u:Value}(r:RelV y u)(f:nM y=true):eqU x u=eqV y x:=by
 cases y with
 | non=>cases r;rfl
 | bl b=>cases r;rfl
 | int i=>obtain⟨t,rfl⟩:=r;rfl
 | str z=>obtain⟨t,rfl⟩:=r;rfl
 | _=>exact absurd (show false=true from f) Bool.false_ne_true
theorem Y6{x:V}:∀{xs:List V}{us:List Value},Vals xs us->xs.all nM=true->us.any (eqU x)=xs.any λy=>eqV y x
 | _,_,.nil,_=>rfl
 | y::xs,u::us,.cons r t,f=>by
  rw[List.all_cons,Bool.and_eq_true]at f;rw[List.any_cons,List.any_cons,Zn9 r f.1,Y6 t f.2]
theorem QW{A:Around}{s:Shared}{x:V}{v:Value}(rx:RelV x v)(fx:nM x=true):∀{xs:List V}{us:List Value},Vals xs us->xs.all nM=true->∀u∈us,SeqAt.EqAt A s u v (eqU x u)
 | _,_,.nil,_=>λu hu=>by cases hu
 | y::xs,u::us,.cons r t,f=>λu' hu=>by
  rw[List.all_cons,Bool.and_eq_true]at f;rcases List.mem_cons.mp hu with rfl | hu
  ·rw[Zn9 r f.1];exact YW r rx f.1 fx
  ·exact QW rx fx t f.2 u' hu
def inV(x:V)(xs:List V):Bool:=xs.any λy=>eqV y x
def rIn(K:aV)(neg:Bool):R2:=λx y H Q=>∃p xs,y=.ref p/\(fj K H p xs\/jE K H p xs)/\nM x=true/\xs.all nM=true/\Q (.bl (if neg then !inV x xs else inV x xs)) H
theorem Xo:Ad X (compareOp .NotIn) (rIn X.K true):=by
 intro pins s σ H x y v u Q I rx ry h;obtain⟨p,xs,rfl,hq,fx,fs,q⟩:=h;cases ry;rcases hq with hq | hq
 ·obtain⟨its,r,pl,hz⟩:=I.list hq;refine SeqAt.notIn_listAt (eqU x) pl.isList (λw hw=>QW rx fx r fs w (by simpa using hw)) ⟨.bl _,H,I,rfl,?_⟩;rw[show its.toArray.any (eqU x)=its.any (eqU x) by simp,Y6 r fs];exact q
 ·obtain⟨its,r,pl,hz⟩:=I.tuple hq;refine SeqAt.notIn_tupleAt (eqU x) pl (λw hw=>QW rx fx r fs w (by simpa using hw)) ⟨.bl _,H,I,rfl,?_⟩;rw[show its.toArray.any (eqU x)=its.any (eqU x) by simp,Y6 r fs];exact q
theorem Y0:DX X (.builtin "len") (λxs H Q=>∃p ys,xs=[.ref p]/\(fj X.K H p ys\/jE X.K H p ys)/\Q (.int ys.length) H):=by
 intro pins s σ H xs us Q I r h;obtain⟨p,ys,rfl,hq,q⟩:=h;obtain⟨u,rfl,rx⟩:=vals1 r;cases rx;have hn:=Q4;rcases hq with hq | hq
 ·obtain⟨its,r',pl,hz⟩:=I.list hq;have hlen:=r'.length;exact Calls.call_len_list pl.isList (by simp only[List.size_toArray]<;>omega) ⟨.int ys.length,H,I.tok _,⟨s.toks+1,by rw[List.size_toArray,hlen]⟩,q⟩
 ·obtain⟨its,r',pl,hz⟩:=I.tuple hq;have hlen:=r'.length;exact len_tuple pl (by simp only[List.size_toArray]<;>omega) ⟨.int ys.length,H,I.tok _,⟨s.toks+1,by rw[List.size_toArray,hlen]⟩,q⟩
theorem YZ:DX X (.type "list") (λxs H Q=>∃p ys,xs=[.ref p]/\(fj X.K H p ys\/jE X.K H p ys)/\∀l,H l=none->Q (.ref l) (upd H l (.lst ys))):=by
 intro pins s σ H xs us Q I r h;obtain⟨p,ys,rfl,hq,q⟩:=h;obtain⟨u,rfl,rx⟩:=vals1 r;cases rx;have fin:∀(its:List Value),Vals ys its->ys.length<=sizeLine->∀(h':Heap) (c':Nat),(∀b o',s.heap.get? b=some o'->h'.get? b=some o')->
   h'.get? s.heap.objs.size=some { cls:=.type "list",dict:=none,data:=.seq its.toArray c',slots:=#[] }->EP X pins σ Q (.ref s.heap.objs.size) { s with heap:=h' }:=λits r' hz h' c' kp e=>
  ⟨.ref s.heap.objs.size,_,I.laid (t':=s.toks) kp (Nat.le_refl _) (show lV X.prog X.w _ h' _ (.lst ys)from⟨hz,its,c',r',e⟩),rfl,q _ (I.hok.fresh (Nat.le_refl _))⟩
 rcases hq with hq | hq
 ·obtain⟨its,r',pl,hz⟩:=I.list hq;have hlen:=r'.length;obtain⟨o,ho,hc,n,hd⟩:=pl.isList;exact call_list_seq p (.inl rfl) ho hc hd (λh' c' kp e=>fin its r' hz h' c' kp e) (by simp only[List.size_toArray]<;>omega)
 ·obtain⟨its,r',pl,hz⟩:=I.tuple hq;have hlen:=r'.length;obtain⟨o,ho,hc,n,hd⟩:=pl;exact call_list_seq p (.inr rfl) ho hc hd (λh' c' kp e=>fin its r' hz h' c' kp e) (by simp only[List.size_toArray]<;>omega)
def tyV(K:aV)(T:String)(x:V)(H:Hp):Prop:=match x with
 | .str _=>T="str"
 | .int _=>T="int"
 | .ref p=>(T="list"/\∃xs,fj K H p xs)\/(T="tuple"/\∃o,K.lookup p=some o/\o.cls=.type "tuple"/\o.dict=none)\/
   (T="dict"/\((∃kvs,H p=some (.dK kvs))\/∃kvs,H p=some (.dT kvs)))\/(T="set"/\∃S n,H p=some (.set S n))
 | _=>False
theorem Zrj{pins:List (Addr×Obj)}{σ:St}{H:Hp}{s:Shared}{T:String}{x:V}{v:Value}(I:Inv X pins σ H s)(r:RelV x v)(ty:tyV X.K T x H):
  s.TypeIs v T/\∀a,v=.ref a->∃ob,s.heap.get? a=some ob/\ob.dict=none:=by
 cases x with
 | str z=>
  obtain⟨t,rfl⟩:=r;cases (show T="str" from ty);exact⟨typeIs_str s z t,λ_ e=>nomatch e⟩
 | int i=>
  obtain⟨t,rfl⟩:=r;cases (show T="int" from ty);exact⟨typeIs_int s i t,λ_ e=>nomatch e⟩
 | ref p=>
  cases r;rcases ty with ⟨rfl,xs,hq⟩ | ⟨rfl,o,hk,hc,hd⟩ | ⟨rfl,hk⟩ | ⟨rfl,S,n,hk⟩
  ·obtain⟨its,_,pl,_⟩:=I.list hq;refine⟨pl.isList.typeIs,λa e=>?_⟩;cases e;obtain⟨o,n,e,c,hd,_⟩:=pl;exact⟨o,e,hd⟩
  ·refine⟨⟨o,I.uY p o hk,hc⟩,λa e=>?_⟩;cases e;exact⟨o,I.uY _ o hk,hd⟩
  ·have z:∃o,s.heap.get? p=some o/\o.ExactDict:=by
    rcases hk with ⟨kvs,hk⟩ | ⟨kvs,hk⟩
    ·obtain⟨_,_,_,_,o,_,_,e,ex,_⟩:=I.hok p _ hk;exact⟨o,e,ex⟩
    ·obtain⟨_,_,_,_,o,_,_,e,ex,_⟩:=I.hok p _ hk;exact⟨o,e,ex⟩
   obtain⟨o,e,ex⟩:=z;refine⟨⟨o,e,ex.1⟩,λa e2=>?_⟩;cases e2;exact⟨o,e,ex.2.1⟩
  ·obtain⟨o,_,_,_,e,ex,_⟩:=I.hok p _ hk;refine⟨⟨o,e,ex.1⟩,λa e2=>?_⟩;cases e2;exact⟨o,e,ex.2.1⟩
 | _=>exact False.elim ty
def Sh(K:aV)(T:String)(r:V->List V->Hp->VK->Prop)(to:TE)(t:TA):TE:=λσ H Q=>to σ H λx H1=>tyV K T x H1/\t σ H1 λxs H2=>r x xs H2 Q
variable {o e:Expr}{es:List Expr}{to:TE}{t:TA}{name:Str}{apos cpos:Pos}{T id:String}{r:V->List V->Hp->VK->Prop}
theorem rE(pa:PlainAttrs T)(slot:Slot T name id)(hty:typeOf (.builtin id)=pure (.type "method_descriptor"))(hm:MtR X id r)(ho:PE X o to)(ha:PA X (e::es) t)
  (hbase:attributeBase o name X.env (eval o X.env)=eval o X.env:=by rfl)
  (hfew:((backTo cpos (starEach (e::es) X.env)).all (λx=>!x.1) && (backToKw cpos (keywordEach [] X.env)).all (λx=>x.1.isSome)
   && decide ((e::es).length+([]:List Keyword).length+(if ([]:List Keyword).isEmpty then 0 else 1)<30))=true:=by rfl)
  (hline:(apos.endLine == cpos.line)=true:=by rfl) (hs:starEach (e::es) X.env=(false,eval e X.env)::starEach es X.env:=by rfl) (hplain:(backTo cpos (starEach es X.env)).any (·.1)=false:=by rfl):
  PE X (.Call (.Attribute o name apos) (e::es) [] cpos) (Sh X.K T r to t):=by
 intro pins s σ H Q I h;refine wpAny_Call_method_late hbase hfew hline rfl (lU (ho pins s σ H _ I h) λv s1 ⟨x,H1,I1,r1,ty,q1⟩=>?_);obtain⟨h1,h2⟩:=Zrj I1 r1 ty;refine⟨T,id,pa,slot,hty,h1,h2,?_⟩;have hA:=ha cpos pins s1 σ H1 _ I1 q1;rw[hs]at hA ⊢;refine Calls.callWith_builtin (by show(false || (backTo cpos (starEach es X.env)).any (·.1))=false;rw[hplain]<;>rfl) (Calls.evalArgs_plain ?_);exact lU hA λus s2 ⟨vs,H2,I2,r2,q2⟩=>hm pins s2 σ H2 x vs v us Q I2 r1 r2 q2
end
end L2
namespace L2
open PySem PySem.Spec PyProof.Rows
def MtM(X:Cx)(id:String)(r:V->List V->Hp->VK->Prop):Prop:=
 ∀(pins:List (Addr×Obj)) (s:Shared) (σ:St) (H:Hp) (x:V) (xs:List V) (v:Value) (us:List Value) (Q:VK),Inv X pins σ H s->RelV x v->Vals xs us->r x xs H Q->
  wpAny (model X.prog X.w) X.A (call (.builtin id) (v::us)) (EP X pins σ Q) X.xe s
theorem Vals.one:∀{x:V}{us:List Value},Vals [x] us->∃u,us=[u]/\RelV x u
 | _,_,.cons r .nil=>⟨_,rfl,r⟩
theorem Vals.rep{xs:List V}{us:List Value}(h:Vals xs us):∀k:Nat,Vals (List.replicate k xs).flatten (List.replicate k us).flatten
 | 0=>.nil
 | k+1=>by
  rw[List.replicate_succ,List.replicate_succ,List.flatten_cons,List.flatten_cons];exact Vals.append h (Vals.rep h k)
theorem foldl_rep(its:List Value):∀(k:Nat) (acc:List Value),
  List.foldl (λx1 x2=>x1++x2) acc.toArray (List.replicate k its.toArray)=(acc++(List.replicate k its).flatten).toArray
 | 0,acc=>by simp
 | k+1,acc=>by
  have e:acc.toArray++its.toArray=(acc++its).toArray:=by simp
  have e2:(acc++its)++(List.replicate k its).flatten=acc++(List.replicate (k+1) its).flatten:=by
   rw[List.replicate_succ,List.flatten_cons,List.append_assoc]
  rw[<- e2,<- foldl_rep its k (acc++its),<- e,List.replicate_succ,List.foldl_cons]
section
variable {X:Cx}{pins:List (Addr×Obj)}{σ:St}{H:Hp}{s:Shared}{l b:Addr}{xs ys zs:List V}
theorem Inv.Zv6{its its':List Value}{n:Nat}{f:Array Value->Array Value}{t':Nat}(I:Inv X pins σ H s)(hH:H l=some (.lst xs))
  (e:s.heap.get? l=some { cls:=.type "list",data:=.seq its.toArray n }) (hf:f its.toArray=its'.toArray) (hv:Vals ys its') (hz:ys.length<=sizeLine):
  Inv X pins σ (upd H l (.lst ys)) { s with heap:=s.heap.update l (Obj.mapSeq f),toks:=t' }:=by
 have q:=PySem.IsL.update e f;rw[hf]at q;refine I.write (x:=l) (e:=l) (by rw[hH];exact trivial) (.inl rfl) (λb' u hb hu=>(Heap.get?_update_other s.heap (Obj.mapSeq f) (Ne.symm hb)).trans hu) ⟨_,q⟩ ?_;exact⟨hz,its',_,hv,q⟩
theorem Inv.Zv7{its:List Value}{t':Nat}(I:Inv X pins σ H s)(hv:Vals ys its)(hz:ys.length<=sizeLine):
  Inv X pins σ (upd H s.heap.objs.size (.lst ys)) { s with heap:=s.heap.push { cls:=.type "list",data:=.seq its.toArray },toks:=t' }:=
 I.laid (λ_ _ q=>Heap.get?_push_of_some _ q) (Nat.le_refl _) ⟨hz,its,0,hv,Heap.get?_push_size _ rfl⟩
theorem Inv.fresh(I:Inv X pins σ H s):H s.heap.objs.size=none:=I.hok.fresh (Nat.le_refl _)
theorem Inv.Zht(I:Inv X pins σ H s)(hH:H l=some (.lst xs)):xs.length<=sizeLine/\∃(its:List Value) (n:Nat),Vals xs its/\xs.length=its.length/\s.heap.get? l=some { cls:=.type "list",data:=.seq its.toArray n }:=by
 obtain⟨z,its,n,r,e⟩:=I.hok l _ hH;exact⟨z,its,n,r,r.length,e⟩
theorem Za6{n:Nat}(h:n<=sizeLine):Builtin.List.listTooLong n=false:=by
 unfold Builtin.List.listTooLong;exact decide_eq_false (by omega)
end
section
variable {X:Cx}
def oF:V->List V->Hp->VK->Prop:=λx vs H Q=>∃l xs y,x=.ref l/\vs=[y]/\H l=some (.lst xs)/\xs.length<sizeLine/\Q .non (upd H l (.lst (xs++[y])))
theorem lz:MtM X "list.append" oF:=by
 intro pins s σ H x vs v us Q I rx rv h;obtain⟨l,xs,y,rfl,rfl,hH,hz,q⟩:=h;cases rx;obtain⟨u,rfl,ru⟩:=rv.one;obtain⟨z,its,n,r,hl,e⟩:=I.Zht hH;refine call_meets F.slot_list_append ⟨_,e,rfl⟩ F.entry_list_append (F.args_list_append_2 _ _) (PySem.list_append l its.toArray n u (by rw[List.size_toArray];omega)) ⟨e,?_⟩;refine⟨.non,_,I.Zv6 (its':=its++[u]) hH e (by simp) (r.append (.cons ru .nil)) ?_,rfl,q⟩;rw[List.length_append,List.length_singleton];omega
def Xh:V->List V->Hp->VK->Prop:=λx vs H Q=>∃l b xs zs,x=.ref l/\vs=[.ref b]/\H l=some (.lst xs)/\H b=some (.lst zs)/\xs.length+zs.length<=sizeLine/\Q .non (upd H l (.lst (xs++zs)))
theorem Vp:MtM X "list.extend" Xh:=by
 intro pins s σ H x vs v us Q I rx rv h;obtain⟨l,b,xs,zs,rfl,rfl,hH,hB,hz,q⟩:=h;cases rx;obtain⟨u,rfl,ru⟩:=rv.one;cases ru;obtain⟨z,its,n,r,hl,e⟩:=I.Zht hH;obtain⟨z2,its2,n2,r2,hl2,e2⟩:=I.Zht hB;have hsz:its.toArray.size+its2.toArray.size<=sizeLine:=by rw[List.size_toArray,List.size_toArray];omega
 have Zmn:¬ (!its.toArray.isEmpty && Builtin.List.listTooLong (its.toArray.size+its2.toArray.size))=true:=by
  rw[Za6 hsz,Bool.and_false];exact Bool.false_ne_true
 refine call_meets F.slot_list_extend ⟨_,e,rfl⟩ F.entry_list_extend (F.args_list_extend_2 _ _)
  (AutoSeq1.list_extend_list_list_0 l its.toArray n b its2.toArray n2 Zmn (by rw[List.size_toArray];omega) (by omega)) ⟨e,e2,?_⟩
 refine⟨.non,_,I.Zv6 (its':=its++its2) hH e (by simp) (r.append r2) ?_,rfl,q⟩;rw[List.length_append];omega
def Gm:R2:=λx y H Q=>∃l b xs zs,x=.ref l/\y=.ref b/\H l=some (.lst xs)/\H b=some (.lst zs)/\xs.length+zs.length<=sizeLine/\∀p,H p=none->Q (.ref p) (upd H p (.lst (xs++zs)))
theorem vK:Ad X (binaryOp .Add) Gm:=by
 intro pins s σ H x y v u Q I rx ry h;obtain⟨l,b,xs,zs,rfl,rfl,hH,hB,hz,q⟩:=h;cases rx;cases ry;obtain⟨z,its,n,r,hl,e⟩:=I.Zht hH;obtain⟨z2,its2,n2,r2,hl2,e2⟩:=I.Zht hB;refine PySem.P.add_list e e2 ?_ (by rw[List.size_toArray,List.size_toArray];omega);have ea:its.toArray++its2.toArray=(its++its2).toArray:=by simp
 rw[ea];exact⟨.ref _,_,I.Zv7 (t':=s.toks) (r.append r2) (by rw[List.length_append];omega),rfl,q _ I.fresh⟩
def Zoi:R2:=λx y H Q=>∃l k xs,x=.ref l/\y=.int k/\H l=some (.lst xs)/\-(2 ^ 63)<=k/\k<2 ^ 63/\xs.length * k.toNat<=sizeLine/\
 ∀p,H p=none->Q (.ref p) (upd H p (.lst (List.replicate k.toNat xs).flatten))
theorem len_rep{α:Type}(xs:List α)(k:Nat):(List.replicate k xs).flatten.length=k * xs.length:=by
 induction k with
 | zero=>simp
 | succ k ih=>rw[List.replicate_succ,List.flatten_cons,List.length_append,ih,Nat.succ_mul,Nat.add_comm]
theorem Zdb:Ad X (binaryOp .Mult) Zoi:=by
 intro pins s σ H x y v u Q I rx ry h;obtain⟨l,k,xs,rfl,rfl,hH,h1,h2,hz,q⟩:=h;cases rx;obtain⟨t,rfl⟩:=ry;obtain⟨z,its,n,r,hl,e⟩:=I.Zht hH;have hlen:its.toArray.size * k.toNat<=sizeLine:=by rw[List.size_toArray,<- hl];exact hz
 have hcap:¬ its.toArray.size * k.toNat > (2 ^ 63 - 1) / 8:=by
  have:(sizeLine:Nat)<=(2 ^ 63 - 1) / 8:=by decide
  omega
 have hfit:¬ (!Builtin.List.listFitsIndex k)=true:=by
  rw[fitsIndex_both h1 h2];exact Bool.false_ne_true
 have Zmn:¬ Builtin.List.listTooLong (its.toArray.size * k.toNat)=true:=by
  rw[Za6 hlen];exact Bool.false_ne_true
 have hnew:List.foldl (λx1 x2=>x1++x2) #[] (List.replicate (if its.toArray.isEmpty=true then 0 else k.toNat) its.toArray)=(List.replicate k.toNat its).flatten.toArray:=by
  have f0:∀m:Nat,List.foldl (λx1 x2=>x1++x2) #[] (List.replicate m its.toArray)=(List.replicate m its).flatten.toArray:=λm=>by
   have:=foldl_rep its m [];rw[List.nil_append]at this;exact this
  rw[f0];cases its with
  | nil=>simp
  | cons a r'=>rw[if_neg (by simp)]
 refine wpAny_binaryOp_repeat_ref (T:="list") (U:="int") (by decide) ⟨_,e,rfl⟩ (λs'=>typeIs_int s' k t) noFill_list_mul F.fills_int_mul F.slot_int_rmul repeat_list F.slot_int_index.lookup
  (call_meets F.slot_int_rmul (typeIs_int s k t) F.entry_int_rmul (F.args_int_rmul_2 _ _) (int___rmul___int_list k t l its.toArray n)
   ⟨e,rfl,⟨_,e,rfl⟩,call_meets F.slot_list_mul ⟨_,e,rfl⟩ F.entry_list_mul (F.args_list_mul_2 _ _) (AutoListH.list___mul___list_int_3 l its.toArray n k t hfit hcap Zmn) ⟨e,?_⟩⟩)
 rw[hnew];exact⟨.ref _,_,I.Zv7 (t':=s.toks) (r.rep k.toNat) (by rw[len_rep,Nat.mul_comm];exact hz),rfl,q _ I.fresh⟩
end
section
variable {prog:Program}{w:World}{A:Around}{E:Value->Shared->Prop}{s:Shared}
end
section
variable {X:Cx}
end
end L2
namespace Att
open PySem PySem.W PySem.Calls PyProof.Rows
theorem NZ{P:Params}{h:Heap}:∀(ns:List Int) (vs:List Value),WellAll P h vs (ns.map WData.int)->IntsAre vs ns:=by
 intro ns
 induction ns with
 | nil=>
  intro vs w;rw[List.map_nil]at w;cases w;exact .nil
 | cons n ns ih=>
  intro vs w;rw[List.map_cons]at w;cases w with
  | cons a b=>
   cases a;exact .cons _ _ (ih _ b)
theorem Zh5{l:OpenLaw}{n:Nat}(hn:l.most=some n){P:Params}{h:Heap}{args:List WData}{vals:List Value}
  (hpre:l.row.toRowW.claim.pre args=true) (hwl:WellAll P h vals args):
  ∃a vs ns,vals=[Value.ref a]/\args=[WData.list (ns.map WData.int)]/\h.get? a=some { cls:=.type "list",data:=.seq vs.toArray }/\IntsAre vs ns/\ns.length<=n:=by
 have hsh:WShape.hasAll [] args [.list .int]=true:=(pre_splitW hpre).1;have hc:l.pre.holds [] { args:=args }=true:=(pre_splitW hpre).2;obtain⟨d,r,rfl,h1,h2⟩:=hasAllW_cons hsh;obtain rfl:=hasAllW_nil h2;obtain⟨xs,rfl,h3⟩:=hasW_list h1;obtain⟨ns,rfl⟩:=items_int h3;have hlen:ns.length<=n:=by
  unfold OpenLaw.pre at hc;have h4:(WTm.not (.lt (.lit (.int (n:Int))) (.len (.arg 0)))).holds [] { args:=[.list (ns.map .int)] }=true:=by
   have h4:=(holds_andW hc).1;rw[hn]at h4;exact h4
  have h5:=condW_of h4 (w_not (w_lt w_lit (w_len_list (w_arg rfl))));rw[dM]at h5;refine Nat.le_of_not_lt λq=>?_;have q':(n:Int)<((ns.length:Nat):Int):=by omega
  first
   | (rw[decide_eq_true q']at h5;exact absurd h5 (by decide))
   | (simp at h5;omega)
 cases hwl with
 | cons w1 w2=>
  cases w2;cases w1 with
  | list ho hall=>exact⟨_,_,ns,rfl,rfl,ho,NZ ns _ hall,hlen⟩
theorem Zhd(l:OpenLaw)(args:List WData):l.row.toRowW.claim.post args (.bool true) args=true:=
 postW_of (r:=l.row.toRowW) (X:=(true == true))
  (show WShape.has [] (.bool true) .bool=true by first | rfl | decide | simp[WShape.has,WShape.arms,WShape.armsAll])
  (show(WTm.eq .res (.lit (.bool true))).value [] { args:=args,res:=some (.bool true),after:=args }=some (.bool (true == true))from w_eq_bool (w_res rfl) w_lit) rfl
section
variable {prog:Program}{w:World}{A:Around}{E:Value->Shared->Prop}{s:Shared}{K:Frag}
end
end Att
namespace L2
open PySem PySem.Spec PyProof.Rows
theorem UL:∀{vs:List Value}{ns:List Int},IntsAre vs ns->Vals (ns.map V.int) vs
 | _,_,.nil=>.nil
 | _,_,.cons n t h=>.cons ⟨t,rfl⟩ (UL h)
def Only(H:Hp):Prop:=∀b,H b=none\/∃o xs,H b=some (.Wc o (.lst xs))
theorem Zm6{P:Program}{w:World}{K:aV}{mg mb:Str->Option Value}{CX:Zm}{k:Nat}{fa a:Addr}{fd:FuncData}{x:Str}{sp:Sp}{s₁:Shared}{vs:List Value}{ns:List Int}
  (KX:K.In s₁.heap) (hns:s₁.heap.Ns mainGlobals mg) (hb:s₁.heap.Ns builtinsNs mb) (hbb:∀x:Str,x≠"__name__"->mb x=bootBuiltins x) (hlim:s₁.heap.NoLimit) (hg:s₁.gens=#[])
  (ha:s₁.heap.get? a=some { cls:=.type "list",data:=.seq vs.toArray }) (hi:IntsAre vs ns) (hl:ns.length<=sizeLine) (hr:Room k callerA)
  (F:∀base:Heap,K.In base->base.Ns mainGlobals mg->uV P w K mg base CX k fa fd [x] sp) (hbind:∀(s:Shared) (u:Value),BindsTo s fd ⟨[u],[]⟩ [(x,u)])
  (hsp:∀H:Hp,Only H->fj K H a (ns.map V.int)->sp [.ref a] H (λv _=>v=.bl true) λ_ _ _=>False)
  (hCX:∀H e s',CX [] H s₁ (λ_ _ _=>False) e s'->False):
  codeAny (model P w) callerA (.call (.ref fa) ⟨[.ref a],[]⟩) (λr s'=>r=.ok (.ret (.bool true))/\OldK s₁.heap s'.heap/\s'.os=s₁.os/\AllBare s'.gens) s₁:=by
 have rv:=UL hi;have lenV:=hi.length;have core:∀H:Hp,Only H->fj K H a (ns.map V.int)->uE P w H s₁.heap->(∀b,H b≠none->b=a)->(H a≠none->K.lookup a=none)->
   codeAny (model P w) callerA (.call (.ref fa) ⟨[.ref a],[]⟩) (λr s'=>r=.ok (.ret (.bool true))/\OldK s₁.heap s'.heap/\s'.os=s₁.os/\AllBare s'.gens) s₁:=by
  intro H hO hS hok hA hK;have Zgl:∀{b:Addr}{o:Obj},s₁.heap.get? b=some o->H b=none->(YC s₁.heap H).get? b=some o:=λe n=>Zmo e n;have noA:∀{b:Addr}{o:Obj}{es:Array DictEntry}{ep:Nat},s₁.heap.get? b=some o->o.data=.dict es ep->H b=none:=λ{b o es ep} e d=>by
   cases q:H b with
   | none=>rfl
   | some u=>
    have e':b=a:=hA b (by rw[q];simp);subst e';rw[ha]at e;cases e;have d':Data.seq vs.toArray _=Data.dict es ep:=d;cases d'
  have nsK:∀{b:Addr}{m:Str->Option Value},s₁.heap.Ns b m->(YC s₁.heap H).Ns b m:=λ{b m} ⟨o,es,ep,e,d,r⟩=>⟨o,es,ep,Zgl e (noA e d),d,r⟩;have hKb:K.In (YC s₁.heap H):=λb o e=>Zgl (KX b o e) (by
   cases q:H b with
   | none=>rfl
   | some u=>
    have e':b=a:=hA b (by rw[q];simp);subst e';rw[hK (by rw[q];simp)]at e;cases e)
  have hM:Mod K mg (YC s₁.heap H):=⟨hKb,nsK hns,⟨mb,nsK hb,hbb⟩,let ⟨mc,h1,h2⟩:=hlim;⟨mc,nsK h1,h2⟩⟩;have e0:Zj P w K mg (YC s₁.heap H) callerA [] s₁ H:=⟨rfl,hM,λb o e=>Zpg e,Nat.le_of_eq (Zil _ _),trivial,λb hb=>absurd (show b∈([]:List Addr)from hb) (by simp),hok,.of_eq hg⟩;refine codeAny_mono ((F _ hKb (nsK hns)).run callerA [] s₁ H ⟨[.ref a],[]⟩ [.ref a] [.ref a] _ _ hr e0 (hbind s₁ (.ref a)) (.cons rfl .nil) (hsp H hO hS)) λr s' h=>?_;cases r with
  | error e=>exact(hCX H e s' h).elim
  | ok fl=>
   cases fl with
   | next=>exact False.elim h
   | brk=>exact False.elim h
   | cont=>exact False.elim h
   | ret u=>
    obtain⟨v,H',os,bare,un,hok',r',q⟩:=h;have q':v=.bl true:=q;subst q';obtain rfl:u=Value.bool true:=r';refine⟨rfl,OldK.of_keep λb o e=>?_,os,bare⟩;cases q:H b with
    | none=>exact un.keep b o e q (by intro z;exact absurd (show b∈([]:List Addr)from z) (by simp)) (by simp)
    | some u=>
     rcases hO b with z | ⟨ob,xs,z⟩
     ·rw[q]at z;cases z
     ·have z2:=un.N5 b ob _ z;obtain⟨e1,_⟩:=hok b _ z;obtain⟨e2,_⟩:=hok' b _ z2;rw[e]at e1;cases e1;exact e2
 cases hk:K.lookup a with
 | some o=>
  have e:=KX a o hk;rw[ha]at e;cases e;refine core (λ_=>none) (λ_=>.inl rfl) (.inr ⟨_,vs.toArray,_,hk,rfl,rfl,rfl,by rw[List.size_toArray,lenV];exact hl,by simpa using rv⟩) (λb u z=>by have z':(none:Option HO)=some u:=z;cases z') (λb z=>absurd rfl z) λz=>absurd rfl z
 | none=>
  refine core (λb=>if b=a then some (.Wc { cls:=.type "list",data:=.seq vs.toArray } (.lst (ns.map V.int)))else none) (λb=>?_) (.inl (.inr ⟨{ cls:=.type "list",data:=.seq vs.toArray },if_pos rfl⟩)) (λb u z=>?_) (λb z=>?_) λ_=>hk
  ·by_cases hb:b=a
   ·exact .inr ⟨_,_,if_pos hb⟩
   ·exact .inl (if_neg hb)
  ·by_cases hb:b=a
   ·have z':=(if_pos hb).symm.trans z;cases z';subst hb;exact⟨ha,by rw[dM];exact hl,vs,_,rv,ha⟩
   ·have z':=(if_neg hb).symm.trans z;cases z'
  ·by_cases hb:b=a
   ·exact hb
   ·exact absurd (if_neg hb) z
end L2
namespace L2
open PySem PySem.Spec PyProof.Rows
end L2
namespace L2
open PySem PySem.Spec PyProof.Rows
def inClass(s:Stmt)(j:Nat):Stmt:=match s with
 | .ClassDef _ _ _ body _ _ _ _ _ _ _=>body.getD j (.Pass ⟨0,0,0,0⟩)
 | _=>.Pass ⟨0,0,0,0⟩
def oR(s:Stmt):Arguments:=match s with
 | .FunctionDef _ a _ _ _ _ _ _ _ _=>a
 | _=>{ posonlyargs:=[],args:=[],vararg:=none,kwonlyargs:=[],kw_defaults:=[],kwarg:=none,defaults:=[] }
def jU(s:Stmt):List Stmt:=match s with
 | .FunctionDef _ _ b _ _ _ _ _ _ _=>b
 | _=>[]
def bI(s:Stmt):Scope:=match s with
 | .FunctionDef _ _ _ _ _ _ sc _ _ _=>sc
 | _=>{ kind:=.function,names:=[],isGenerator:=false,isCoroutine:=false }
abbrev E0:XK:=λ_ _ _=>False
structure m6(K:aV)(x qual:Str)(st:Stmt)(f:Addr)(fd:FuncData):Prop where
 ex:∃(oc:Value) (od:Option Addr) (kV doc pm:Value) (an:Option Addr) (cdv ct:Value) (osl:Array (Option Value)),
  fd=W.fnOf x qual (oR st) (jU st) (bI st) .none kV doc pm an cdv ct/\K.lookup f=some ⟨oc,od,.func fd,osl⟩/\W.codeIn K cdv qual=true
 kp:W.keepIn K (.ref f)=true
section
variable {P:Program}{w:World}{K:aV}{mg:Str->Option Value}{base:Heap}
theorem m6.binds{x qual:Str}{st:Stmt}{f:Addr}{fd:FuncData}{ps:List Str}(F:m6 K x qual st f fd)
  (h:∀(kV doc pm:Value) (an:Option Addr) (cdv ct:Value) (us:List Value),us.length=ps.length->bindArgs (W.fnOf x qual (oR st) (jU st) (bI st) .none kV doc pm an cdv ct) ⟨us,[]⟩=pure (ps.zip us)):Binds K fd ps []:=by
 obtain⟨oc,od,kV,doc,pm,an,cdv,ct,osl,rfl,lk,hcd⟩:=F.ex;exact .all (h kV doc pm an cdv ct)
theorem Zn3{x qual:Str}{st:Stmt}{f:Addr}{oc:Value}{od an:Option Addr}{osl:Array (Option Value)}{kV doc pm cdv ct:Value}(l:K.lookup f=some ⟨oc,od,.func (W.fnOf x qual (oR st) (jU st) (bI st) .none kV doc pm an cdv ct),osl⟩)
  (c:W.codeIn K cdv qual=true) (k:W.keepIn K (.ref f)=true):m6 K x qual st f (W.fnOf x qual (oR st) (jU st) (bI st) .none kV doc pm an cdv ct):=⟨⟨oc,od,kV,doc,pm,an,cdv,ct,osl,rfl,l,c⟩,k⟩
end
theorem HH{A:Around}{k:Nat}(hr:Room k A):A.units+1<cLine:=Nat.lt_of_le_of_lt (Nat.add_le_add_left (by decide:1<=64) _) hr.units
section
variable {X:Cx}
theorem pv(i:Nat){x:Str}{pos:Pos}(hN:X.N[i]? =some x:=by rfl)(hv:Vis X.env.scope x:=by first | exact Or.inl rfl | exact Or.inr (Or.inl rfl) | exact Or.inr (Or.inr rfl))(hd:(x == ("__debug__":Str))=false:=by decide)
  (hcd:(x == ("__classdict__":Str))=false:=by decide):PE X (.Name x pos) (ak i):=Zks hN hv hd hcd
end
theorem Zsz{A B:Prop}(h:B):if false=true then A else B:=by
 rw[if_neg Bool.false_ne_true];exact h
theorem Zav{A B:Prop}(h:A):if true=true then A else B:=by
 rw[if_pos rfl];exact h
theorem Zvd{c A B:Prop} [Decidable c](h1:c->A)(h2:¬ c->B):if c then A else B:=by
 by_cases h:c
 ·rw[if_pos h];exact h1 h
 ·rw[if_neg h];exact h2 h
def dF(H H':Hp):Prop:=∀b o,H b=some o->H' b=some o
theorem dF.refl(H:Hp):dF H H:=λ_ _ h=>h
theorem dF.trans{H H1 H2:Hp}(a:dF H H1)(b:dF H1 H2):dF H H2:=λc o h=>b c o (a c o h)
theorem dF.free{H H':Hp}(e:dF H H'){l:Addr}(h:H' l=Option.none):H l=Option.none:=by
 cases q:H l with
 | none=>rfl
 | some o=>
  rw[e l o q]at h;cases h
theorem dF.seq{K:aV}{H H':Hp}{a:Addr}{xs:List V}(e:dF H H')(h:fj K H a xs):fj K H' a xs:=by
 rcases h with (h | ⟨o,h⟩) | h
 ·exact .inl (.inl (e _ _ h))
 ·exact .inl (.inr ⟨o,e _ _ h⟩)
 ·exact .inr h
end L2
namespace L2
open PySem PySem.Spec PyProof.Rows
end L2
namespace L2
open PySem PySem.Spec PyProof.Rows
end L2
namespace L2
open PySem PySem.Spec PyProof.Rows
section
variable {X:Cx}{pins:List (Addr×Obj)}{σ:List (Option V)}{H H':Hp}{s:Shared}{h':Heap}
end
end L2
namespace L2
open PySem PySem.Spec PyProof.Rows
section
variable {X:Cx}
variable {a b:Expr}{ta tb:TE}{pos:Pos}
variable {tA tB':TT}{rest:List Expr}
end
end L2
namespace L2
open PySem PySem.Spec PyProof.Rows
end L2
namespace L2
open PySem PySem.Spec PyProof.Rows
end L2
namespace L2
open PySem PySem.Spec PyProof.Rows
section
variable {X:Cx}{a b c:Expr}{ta tb tc:TE}{pos:Pos}
end
end L2
namespace L2
open PySem PySem.Spec PyProof.Rows
section
variable {prog:Program}{w:World}{A:Around}{E:Value->Shared->Prop}{s:Shared}{K:aV}{x dx C f:Addr}{mA:Str->Option Value}{name:Str}{v:Value}
end
section
variable {X:Cx}{pins:List (Addr×Obj)}{σ:St}{H:Hp}{s:Shared}{a C dx:Addr}{fs:List (Str×V)}{f:Str}{v:V}{A:Around}{E:Value->Shared->Prop}
end
end L2
namespace L2
open PySem PySem.Spec PyProof.Rows
section
variable {X:Cx}{CX:Zm}{k:Nat}{f C:Addr}{fd:FuncData}{ps:List Str}{sp:Sp}{wg:List V}{ds:List Value}{E:XK}{x m:Str}{p pos apos:Pos}{e o:Expr}{es:List Expr}{ta:TE}{t:TA}
end
end L2
namespace L2
open PySem PySem.Spec PyProof.Rows
section
variable {X:Cx}{x:Str}{p pos:Pos}{e:Expr}{es:List Expr}{t:TA}{id T:String}{r:List V->Hp->VK->Prop}
end
end L2
namespace L2
open PySem PySem.Spec PyProof.Rows
section
variable {κ:Type} [DecidableEq κ]
def Dg(kvs:List (κ×V))(k:κ):Option V:=(kvs.find? λkv=>decide (kv.1=k)).map (·.2)
def putK(kvs:List (κ×V))(k:κ)(v:V):List (κ×V):=
 if (kvs.any λkv=>decide (kv.1=k))=true then kvs.map (λkv=>if kv.1=k then(kv.1,v)else kv)else kvs++[(k,v)]
theorem Pk{p:κ×V}{r:List (κ×V)}{k:κ}(e:p.1=k):Dg (p::r) k=some p.2:=by simp[Dg,List.find?_cons,e]
theorem Pn{p:κ×V}{r:List (κ×V)}{k:κ}(e:¬ p.1=k):Dg (p::r) k=Dg r k:=by simp[Dg,List.find?_cons,e]
theorem Zv(k:κ):∀kvs:List (κ×V),(kvs.any λkv=>decide (kv.1=k))=(Dg kvs k).isSome
 | []=>rfl
 | p::r=>by
  rw[List.any_cons]
  by_cases e:p.1=k
  ·simp only[Pk e,decide_eq_true e,Bool.true_or,Option.isSome_some]
  ·rw[Pn e,decide_eq_false e,Bool.false_or];exact Zv k r
theorem Ma(kvs:List (κ×V))(k:κ)(v:V):(putK kvs k v).length<=kvs.length+1:=by
 unfold putK;split
 ·rw[dM];omega
 ·rw[List.length_append,List.length_cons,List.length_nil];omega
theorem Dp.Ky{o:Option V}{u:Option Value}(r:Dp o u):o.isSome=u.isSome:=by
 cases o with
 | none=>cases u with
  | none=>rfl
  | some _=>exact(show False from r).elim
 | some _=>cases u with
  | none=>exact(show False from r).elim
  | some _=>rfl
theorem KV.val{kvs:List (κ×V)}{vs:List (κ×Value)}(r:KV kvs vs)(k:κ):Dp (Dg kvs k) (valueAt vs k):=by
 unfold KV at r
 induction r with
 | nil=>exact True.intro
 | @cons p q ps qs h t ih=>
  obtain⟨h1,h2⟩:=h
  by_cases e:p.1=k
  ·have e':q.1=k:=h1.symm.trans e;have b:valueAt (q::qs) k=some q.2:=by simp[valueAt,List.find?_cons,e']
   rw[Pk e,b];exact h2
  ·have e':¬ q.1=k:=λz=>e (h1.trans z);have b:valueAt (q::qs) k=valueAt qs k:=by simp[valueAt,List.find?_cons,e']
   rw[Pn e,b];exact ih
theorem KV.any{kvs:List (κ×V)}{vs:List (κ×Value)}(r:KV kvs vs)(k:κ):(kvs.any λkv=>decide (kv.1=k))=vs.any λkv=>decide (kv.1=k):=by
 unfold KV at r
 induction r with
 | nil=>rfl
 | cons h t ih=>rw[List.any_cons,List.any_cons,ih,h.1]
theorem KV.repl{kvs:List (κ×V)}{vs:List (κ×Value)}(r:KV kvs vs)(k:κ){y:V}{u:Value}(ry:RelV y u):
  KV (kvs.map λkv=>if kv.1=k then(kv.1,y)else kv) (vs.map λkv=>if kv.1=k then(kv.1,u)else kv):=by
 unfold KV at r ⊢
 induction r with
 | nil=>exact .nil
 | @cons p q ps qs h t ih=>
  rw[List.map_cons,List.map_cons];refine .cons ?_ ih;obtain⟨h1,h2⟩:=h
  by_cases e:p.1=k
  ·rw[if_pos e,if_pos (h1.symm.trans e)];exact⟨h1,ry⟩
  ·rw[if_neg e,if_neg (λz=>e (h1.trans z))];exact⟨h1,h2⟩
theorem KV.put{kvs:List (κ×V)}{vs:List (κ×Value)}(r:KV kvs vs)(k:κ){y:V}{u:Value}(ry:RelV y u):KV (putK kvs k y) (stored vs k u):=by
 unfold putK stored;rw[r.any k]
 by_cases e:(vs.any λkv=>decide (kv.1=k))=true
 ·rw[if_pos e,if_pos e];exact r.repl k ry
 ·rw[if_neg e,if_neg e];exact Paired.snoc r ⟨rfl,ry⟩
theorem KV.length{kvs:List (κ×V)}{vs:List (κ×Value)}(r:KV kvs vs):kvs.length=vs.length:=Paired.length r
end
theorem Zfy{P:Program}{w:World}{k:Key}{u:Value}(r:RelV (kV k) u):(pI P w).is k u=true:=by
 cases k with
 | inl i=>obtain⟨t,e⟩:=(show ∃t,u=Value.int i t from r);subst e;exact Zah P w i t
 | inr x=>obtain⟨t,e⟩:=(show ∃t,u=Value.str x t from r);subst e;exact Zag P w x t
theorem Vv{P:Program}{w:World}:∀{ks:List Key}{us:List Value},Vals (ks.map kV) us->ItemsAre (pI P w) ks us
 | [],_,r=>by rw[List.map_nil]at r;cases r;exact .nil
 | k::ks,_,r=>by
  rw[List.map_cons]at r;cases r with
  | cons h t=>exact .cons (Zfy h) (Vv t)
abbrev KT(H:Hp):List (List Key×V)->List (List Key×Addr×Value)->Prop:=Paired λp q=>p.1=q.1/\H q.2.1=some (.tup (p.1.map kV))/\RelV p.2 q.2.2
theorem KT.val{H:Hp}{kvs:List (List Key×V)}{xs:List (List Key×Addr×Value)}(r:KT H kvs xs)(k:List Key):Dp (Dg kvs k) ((atKey xs k).map (·.2)):=by
 induction r with
 | nil=>exact True.intro
 | @cons p q ps qs h t ih=>
  obtain⟨h1,_,h2⟩:=h
  by_cases e:p.1=k
  ·have e':q.1=k:=h1.symm.trans e;have b:atKey (q::qs) k=some q.2:=by simp[atKey,List.find?_cons,e']
   rw[Pk e,b];exact h2
  ·have e':¬ q.1=k:=λz=>e (h1.trans z);have b:atKey (q::qs) k=atKey qs k:=by simp[atKey,List.find?_cons,e']
   rw[Pn e,b];exact ih
theorem KT.repl{H:Hp}{kvs:List (List Key×V)}{xs:List (List Key×Addr×Value)}(r:KT H kvs xs)(k:List Key){y:V}{u:Value}(ry:RelV y u):
  KT H (kvs.map λkv=>if kv.1=k then(kv.1,y)else kv) (xs.map (putAt k u)):=by
 induction r with
 | nil=>exact .nil
 | @cons p q ps qs h t ih=>
  rw[List.map_cons,List.map_cons];refine .cons ?_ ih;obtain⟨h1,h2,h3⟩:=h;unfold putAt
  by_cases e:p.1=k
  ·rw[if_pos e,if_pos (h1.symm.trans e)];exact⟨h1,h2,ry⟩
  ·rw[if_neg e,if_neg (λz=>e (h1.trans z))];exact⟨h1,h2,h3⟩
theorem KT.put{H:Hp}{kvs:List (List Key×V)}{xs:List (List Key×Addr×Value)}(r:KT H kvs xs)(k:List Key){b:Addr}{y:V}{u:Value}(hb:H b=some (.tup (k.map kV)))(ry:RelV y u):
  KT H (putK kvs k y) (storedH xs k b u):=by
 have e:(kvs.any λkv=>decide (kv.1=k))=(atKey xs k).isSome:=by
  rw[Zv,(r.val k).Ky,Option.isSome_map]
 unfold putK storedH;rw[e]
 by_cases q:(atKey xs k).isSome=true
 ·rw[if_pos q,if_pos q];exact r.repl k ry
 ·rw[if_neg q,if_neg q];exact Paired.snoc r ⟨rfl,hb,ry⟩
theorem KT.keeps{H H':Hp}{kvs:List (List Key×V)}{xs:List (List Key×Addr×Value)}(r:KT H kvs xs)(ht:∀b ys,H b=some (.tup ys)->H' b=some (.tup ys)):KT H' kvs xs:=
 Paired.Zsn r λ_ _ z=>⟨z.1,ht _ _ z.2.1,z.2.2⟩
section
variable {P:Program}{w:World}{H:Hp}{h:Heap}{a:Addr}
theorem Zrb{u:HO}(ok:uE P w H h)(e:Rd H a u):lV P w H h a u:=e.ok ok
theorem Wf{kvs:List (Key×V)}(ok:uE P w H h)(e:Rd H a (.dK kvs)):kvs.length<=sizeLine/\(a == sysModules)=false/\∃vs,KV kvs vs/\h.DictOf (pI P w) a vs:=
 show lV P w H h a (.dK kvs)from Zrb ok e
theorem Zwj{kvs:List (Key×V)}(ok:uE P w H h)(e:H a=some (.dK kvs)):kvs.length<=sizeLine/\(a == sysModules)=false/\∃vs,KV kvs vs/\h.DictOf (pI P w) a vs:=Wf ok (.inl e)
theorem Ym{ks:List Key}(ok:uE P w H h)(e:H a=some (.tup (ks.map kV))):(tupleKind (pI P w)).is h ks a:=by
 obtain⟨_,its,r,o,h1,h2,n,h3⟩:=(show lV P w H h a (.tup (ks.map kV))from ok a _ e);exact⟨o,its.toArray,n,h1,h2,h3,by simpa using Vv r⟩
theorem Zgb{kvs:List (List Key×V)}(ok:uE P w H h)(e:Rd H a (.dT kvs)):kvs.length<=sizeLine/\(a == sysModules)=false/\
  ∃xs,KT H kvs xs/\h.DictOfH (tupleKind (pI P w)) a xs:=by
 obtain⟨z,y,xs,r,o,es,ep,h1,h2,h3,h4,h5⟩:=(show lV P w H h a (.dT kvs)from Zrb ok e);refine⟨z,y,xs,r,o,es,ep,h1,h2,h3,h4,λx hx=>?_,h5⟩;have all:∀{l:List (List Key×V)}{m:List (List Key×Addr×Value)},KT H l m->∀x∈m,(tupleKind (pI P w)).is h x.1 x.2.1:=by
  intro l m q
  induction q with
  | nil=>intro x hx;exact nomatch hx
  | @cons p q ps qs hq t ih=>
   intro x hx;rcases List.mem_cons.mp hx with e | hx
   ·subst e;exact Ym ok (by rw[<- hq.1];exact hq.2.1)
   ·exact ih x hx
 exact all r x hx
theorem Zwf{kvs:List (List Key×V)}(ok:uE P w H h)(e:H a=some (.dT kvs)):kvs.length<=sizeLine/\(a == sysModules)=false/\
  ∃xs,KT H kvs xs/\h.DictOfH (tupleKind (pI P w)) a xs:=Zgb ok (.inl e)
end
def RX(H:Hp)(a:Addr)(y:V)(r:Option V):Prop:=
 (∃kvs k,Rd H a (.dK kvs)/\y=kV k/\r=Dg kvs k)\/∃kvs k b,Rd H a (.dT kvs)/\y=.ref b/\H b=some (.tup (k.map kV))/\r=Dg kvs k
def Zfg(H:Hp)(a:Addr)(y v:V)(H':Hp):Prop:=
 (∃kvs k,H a=some (.dK kvs)/\y=kV k/\kvs.length<sizeLine/\H'=upd H a (.dK (putK kvs k v)))\/
 ∃kvs k b,H a=some (.dT kvs)/\y=.ref b/\H b=some (.tup (k.map kV))/\kvs.length<sizeLine/\H'=upd H a (.dT (putK kvs k v))
theorem RX.k{H:Hp}{a:Addr}{kvs:List (Key×V)}{k:Key}(e:H a=some (.dK kvs)):RX H a (kV k) (Dg kvs k):=.inl ⟨kvs,k,.inl e,rfl,rfl⟩
theorem Zfg.k{H:Hp}{a:Addr}{kvs:List (Key×V)}{k:Key}{v:V}(e:H a=some (.dK kvs))(hl:kvs.length<sizeLine):Zfg H a (kV k) v (upd H a (.dK (putK kvs k v))):=.inl ⟨kvs,k,e,rfl,hl,rfl⟩
section
variable {X:Cx}{pins:List (Addr×Obj)}{σ:St}{H:Hp}{s:Shared}{a:Addr}{y v:V}{u r:Value}{o:Option V}{A:Around}{E:Value->Shared->Prop}
theorem Inv.big(I:Inv X pins σ H s):sysModules<s.heap.objs.size:=by
 have h:mainGlobals<s.heap.objs.size:=(I.mod.glob.keeps I.bk).lt;exact Nat.lt_trans (by decide) h
theorem Zj1{Q:Value->Shared->Prop}(hu:A.units+1<cLine)(I:Inv X pins σ H s)(g:RX H a y (some v))(ry:RelV y u)(h:∀w' s',Inv X pins σ H s'->RelV v w'->Q w' s'):
  wpAny (model X.prog X.w) A (getItem (.ref a) u) Q E s:=by
 rcases g with ⟨kvs,k,e,ey,l⟩ | ⟨kvs,k,b,e,ey,eb,l⟩
 ·subst ey;obtain⟨z,hd,vs,rel,dd⟩:=Wf I.hok e;obtain⟨w',hw,rw'⟩:=Dp.some_of (v:=v) (o:=valueAt vs k) (by rw[l];exact rel.val k);exact wpAny_getItem_of (Zfy ry) dd.mapOf hw (h w' _ (I.tok _) rw')
 ·subst ey;cases (show u=Value.ref b from ry);obtain⟨z,hd,xs,rel,dd⟩:=Zgb I.hok e;obtain⟨w',hw,rw'⟩:=Dp.some_of (v:=v) (o:=(atKey xs k).map (·.2)) (by rw[l];exact rel.val k);obtain⟨p,hp,hp2⟩:=Option.map_eq_some_iff.mp hw;refine wpAny_getItem_heap (tupleKind_room_in1 hu) (Ym I.hok eb) dd hp ?_;rw[hp2];exact h w' _ (I.tok _) rw'
theorem Zqx{Q:Value->Shared->Prop}(hu:A.units+1<cLine)(I:Inv X pins σ H s)(g:RX H a y o)(ry:RelV y u)(h:∀s',Inv X pins σ H s'->Q (.bool (!o.isSome)) s'):
  wpAny (model X.prog X.w) A (compareOp .NotIn u (.ref a)) Q E s:=by
 rcases g with ⟨kvs,k,e,ey,l⟩ | ⟨kvs,k,b,e,ey,eb,l⟩
 ·subst ey;obtain⟨z,hd,vs,rel,dd⟩:=Wf I.hok e;refine wpAny_notIn_of (Zfy ry) hd dd.mapOf ?_;rw[<- (rel.val k).Ky,<- l];exact h _ (I.tok _)
 ·subst ey;cases (show u=Value.ref b from ry);obtain⟨z,hd,xs,rel,dd⟩:=Zgb I.hok e;refine wpAny_notIn_heap (tupleKind_room_in1 hu) (Ym I.hok eb) hd dd ?_;have q:=(rel.val k).Ky;rw[Option.isSome_map]at q;rw[<- q,<- l];exact h _ (I.tok _)
theorem Zgf{h':Heap}{t':Nat}{ob:HO}(I:Inv X pins σ H s)(mu:Mut (H a))(hs:Heap.SameBut a s.heap h')(he:∃q,h'.get? a=some q)(new:lV X.prog X.w (upd H a ob) h' a ob):
  Inv X pins σ (upd H a ob) { s with heap:=h',toks:=t' }:=
 I.write (x:=a) (e:=a) mu (.inl rfl) (λb q hb z=>(hs.2 b hb).trans z) he new
theorem Zu9{P:Program}{w:World}{H':Hp}{h':Heap}{kvs:List (Key×V)}{vs:List (Key×Value)}(z:kvs.length<=sizeLine)(hd:(a == sysModules)=false)(rel:KV kvs vs)(dd:h'.DictOf (pI P w) a vs):
  lV P w H' h' a (.dK kvs):=⟨z,hd,vs,rel,dd⟩
theorem Zj0{H':Hp}{Q:Unit->Shared->Prop}(hu:A.units+1<cLine)(I:Inv X pins σ H s)(g:Zfg H a y v H')(ry:RelV y u)(rv:RelV v r)(h:∀s',Inv X pins σ H' s'->Q () s'):
  wpAny (model X.prog X.w) A (setItem (.ref a) u r) Q E s:=by
 rcases g with ⟨kvs,k,e,ey,l,eH⟩ | ⟨kvs,k,b,e,ey,eb,l,eH⟩
 ·subst ey eH;obtain⟨z,hd,vs,rel,dd⟩:=Zwj I.hok e;have hz:vs.length<=sizeLine:=by rw[<- rel.length];exact z
  have hl:(putK kvs k v).length<=sizeLine:=by have:=Ma kvs k v;omega
  refine wpAny_setItem_pairs (hsz:=hz) (Zfy ry) dd λh' dd' hs=>h _ ?_;have he:∃q,h'.get? a=some q:=let ⟨q,_,_,hq,_⟩:=dd';⟨q,hq⟩
  exact Zgf I (by rw[e];exact True.intro) hs he (Zu9 hl hd (rel.put k rv) dd')
 ·subst ey eH;cases (show u=Value.ref b from ry);obtain⟨z,hd,xs,rel,dd⟩:=Zwf I.hok e;have hz:xs.length<=sizeLine:=by rw[<- Paired.length rel];exact z
  have hl:(putK kvs k v).length<=sizeLine:=by have:=Ma kvs k v;omega
  refine wpAny_setItem_heap (hsz:=hz) (tupleKind_room_in1 hu) (Ym I.hok eb) dd λh' dd' hs=>h _ ?_;obtain⟨q,es,ep,hq,h2,h3,h4,_,h5⟩:=dd';refine Zgf I (by rw[e];exact True.intro) hs ⟨q,hq⟩ ⟨hl,hd,_,(rel.put k eb rv).keeps λc ys ec=>?_,q,es,ep,hq,h2,h3,h4,h5⟩;rw[aU (QV ec e (λz=>nomatch z))];exact ec
end
section
variable {X:Cx}{pins:List (Addr×Obj)}{σ:St}{H:Hp}{s:Shared}{a:Addr}{kvs:List (Key×V)}{k:Key}{u:Value}{A:Around}{E:Value->Shared->Prop}
end
def Zr4(i:Expr):Prop:=∀ov iv,subscripted i false ov iv=operate [ov,iv] (getItem ov iv)
theorem Zfk{prog:Program}{w:World}{A:Around}{E:Value->Shared->Prop}{s:Shared}{env:Env}{value slice:Expr}{pos:Pos}{T id:String}{Q:Value->Shared->Prop}
  (hl:typeLookup (.type T) "__getitem__"=pure (some (.builtin id))) (hs:Zr4 slice)
  (h:wpAny (model prog w) A (eval value env) (λo s₁=>wpAny (model prog w) A (eval slice env) (λi s₂=>s₂.TypeIs o T/\wpAny (model prog w) A (getItem o i) Q E s₂) E s₁) E s):
  wpAny (model prog w) A (eval (.Subscript value slice pos) env) Q E s:=by
 refine Subscript_ (wpAny_mono h (λo s₁ h₁=>wpAny_mono h₁ (λi s₂ h₂=>?_) λ_ _ x=>x) λ_ _ x=>x);obtain⟨hT,h₂⟩:=h₂;unfold subscriptTail;refine wpAny_bind ?_;rw[getitemInPython_of_ne hT.not_modules];refine wpAny_bind (wpAny_specialOf hT hl ?_);have fin:wpAny (model prog w) A (subscripted slice false o i) (λr s₃=>wpAny (model prog w) A (letTemporaryGo value o r >>= λ_=>pure r) Q E s₃) E s₂:=by
  rw[hs o i];exact wpAny_operating (wpAny_mono h₂ (λr s₃ h₃=>wpAny_bind (wpAny_letTemporaryGo (wpAny_pure h₃))) λ_ _ x=>x)
 first
  | exact wpAny_pure (wpAny_bind fin)
  | exact wpAny_bind (wpAny_pure (wpAny_bind fin))
  | exact wpAny_bind fin
theorem Zbh{X:Cx}{pins:List (Addr×Obj)}{σ:St}{H:Hp}{s:Shared}{a:Addr}{y:V}{o:Option V}(I:Inv X pins σ H s)(g:RX H a y o):s.TypeIs (.ref a) "dict":=by
 rcases g with ⟨kvs,k,e,_,_⟩ | ⟨kvs,k,b,e,_,_,_⟩
 ·obtain⟨_,_,vs,_,dd⟩:=Wf I.hok e;exact dd.typeIs
 ·obtain⟨_,_,xs,_,dd⟩:=Zgb I.hok e;exact dd.typeIs
def Zx(td ty:TE):TE:=λσ H Q=>td σ H λx H1=>ty σ H1 λy H2=>∃a v,x=.ref a/\RX H2 a y (some v)/\Q v H2
def Wv(ty td:TE):TE:=λσ H Q=>ty σ H λy H1=>td σ H1 λx H2=>∃a o,x=.ref a/\RX H2 a y o/\Q (.bl (!o.isSome)) H2
def Zk0(td ty tv:TE):TS:=λD σ H=>tv σ H λv H1=>td σ H1 λx H2=>ty σ H2 λy H3=>∃a H4,x=.ref a/\Zfg H3 a y v H4/\D.nx σ H4
section
variable {X:Cx}{o i e value:Expr}{pos pos' tpos:Pos}{td ty tv:TE}
theorem Zp4(hu:X.A.units+1<cLine)(ho:PE X o td)(hi:PE X i ty)(hs:Zr4 i):PE X (.Subscript o i pos) (Zx td ty):=by
 intro pins s σ H Q I h;refine Zfk PySem.F.slot_dict_getitem.lookup hs (lU (ho pins s σ H _ I h) λu s1 ⟨x,H1,I1,rx,q1⟩=>lU (hi pins s1 σ H1 _ I1 q1) λiv s2 ⟨y,H2,I2,ry,a,v,ex,g,q2⟩=>?_);subst ex;obtain rfl:u=Value.ref a:=rx;exact⟨Zbh I2 g,Zj1 hu I2 g ry λw' s3 I3 rw'=>⟨v,H2,I3,rw',q2⟩⟩
theorem Zhf(hu:X.A.units+1<cLine)(hi:PE X i ty)(ho:PE X o td):PC X .NotIn i o (Wv ty td):=by
 intro pins s σ H Q I h;refine lU (hi pins s σ H _ I h) λiv s1 ⟨y,H1,I1,ry,q1⟩=>lU (ho pins s1 σ H1 _ I1 q1) λu s2 ⟨x,H2,I2,rx,a,ov,ex,g,q2⟩=>?_;subst ex;obtain rfl:u=Value.ref a:=rx;exact Zqx hu I2 g ry λs3 I3=>⟨.bl (!ov.isSome),H2,I3,rfl,q2⟩
theorem Zoo(hu:X.A.units+1<cLine)(ho:PE X o td)(hi:PE X i ty)(hv:PE X value tv)(hs:swapsWith value (some (.Subscript o i pos')) pos.line X.env=pure false):
  PS X (.Assign [.Subscript o i pos'] value pos) (Zk0 td ty tv):=by
 intro pins s σ H D I h;refine wpAny_Assign_Subscript (lU (hv pins s σ H _ I h) λr s1 ⟨v,H1,I1,rv,q1⟩=>lU (ho pins s1 σ H1 _ I1 q1) λu s2 ⟨x,H2,I2,rx,q2⟩=>lU (hi pins s2 σ H2 _ I2 q2) λiv s3 ⟨y,H3,I3,ry,a,H4,ex,g,q3⟩=>?_) hs;subst ex;obtain rfl:u=Value.ref a:=rx;exact Zj0 hu I3 g ry rv λs4 I4=>⟨σ,H4,I4,q3⟩
end
theorem Zni{P:Program}{w:World}{H:Hp}(h:Heap)(hb:sysModules<h.objs.size):lV P w H (h.push { cls:=.type "dict",data:=.dict #[] }) h.objs.size (.dK []):=
 ⟨Nat.zero_le _,beq_eq_false_iff_ne.mpr (Ne.symm (Nat.ne_of_lt hb)),[],.nil,Heap.DictOf.new h⟩
def Zc3:TE:=λ_ H Q=>∀p,H p=none->Q (.ref p) (upd H p (.dK []))
section
variable {X:Cx}{pos:Pos}
theorem Z3:PE X (.Dict [] [] pos) Zc3:=λpins s σ H Q I h=>
 wpAny_Dict_empty ⟨.ref s.heap.objs.size,_,I.laid (a:=s.heap.objs.size) (o:=.dK []) (t':=s.toks) (λ_ _ q=>Heap.get?_push_of_some _ q) (Nat.le_refl _) (Zni s.heap I.big),rfl,h _ (I.hok.fresh (Nat.le_refl _))⟩
end
def Zjl:List (TE×TE)->St->Hp->(List (V×V)->Hp->Prop)->Prop
 | [],_,H,Q=>Q [] H
 | (tk,tv)::r,σ,H,Q=>tk σ H λx H1=>tv σ H1 λy H2=>Zjl r σ H2 λps H3=>Q ((x,y)::ps) H3
abbrev VV:List (V×V)->List (Value×Value)->Prop:=Paired λp q=>RelV p.1 q.1/\RelV p.2 q.2
def PPs(X:Cx)(pos:Pos)(keys:List (Option Expr))(values:List Expr)(trs:List (TE×TE)):Prop:=
 ∀(pins:List (Addr×Obj)) (s:Shared) (σ:St) (H:Hp) (Q:List (V×V)->Hp->Prop),Inv X pins σ H s->Zjl trs σ H Q->
  wpAny (model X.prog X.w) X.A (evalPairs (pairTrees keys values X.env pos)) (λvs s'=>∃ps H',Inv X pins σ H' s'/\VV ps vs/\Q ps H') X.xe s
structure M1(X:Cx)(o:Expr)(m:Str)(apos:Pos)(e:Expr)(cpos:Pos):Prop where
 base:attributeBase o m X.env (eval o X.env)=eval o X.env
 few:((backTo cpos (starEach [e] X.env)).all (λx=>!x.1) && (backToKw cpos (keywordEach [] X.env)).all (λx=>x.1.isSome)
  && decide (([e]:List Expr).length+([]:List Keyword).length+(if ([]:List Keyword).isEmpty then 0 else 1)<30))=true
 line:(apos.endLine == cpos.line)=true
 trees:backTo cpos (starEach [e] X.env)=[(false,eval e X.env)]
structure M2(X:Cx)(o:Expr)(m:Str)(apos:Pos)(e f:Expr)(cpos:Pos):Prop where
 base:attributeBase o m X.env (eval o X.env)=eval o X.env
 few:((backTo cpos (starEach [e,f] X.env)).all (λx=>!x.1) && (backToKw cpos (keywordEach [] X.env)).all (λx=>x.1.isSome)
  && decide (([e,f]:List Expr).length+([]:List Keyword).length+(if ([]:List Keyword).isEmpty then 0 else 1)<30))=true
 line:(apos.endLine == cpos.line)=true
 trees:backTo cpos (starEach [e,f] X.env)=[(false,eval e X.env),(false,eval f X.env)]
section
variable {X:Cx}{pins:List (Addr×Obj)}{σ:St}{H:Hp}{s:Shared}{a:Addr}{y d:V}{u r:Value}{o:Option V}{A:Around}{E:Value->Shared->Prop}
end
section
variable {X:Cx}{o e f:Expr}{apos cpos:Pos}{td ty tx:TE}
end
section
variable {X:Cx}{pins:List (Addr×Obj)}{σ:St}{H:Hp}{s:Shared}{a:Addr}{kvs:List (Key×V)}{A:Around}{E:Value->Shared->Prop}
end
section
variable {X:Cx}{pins:List (Addr×Obj)}{σ:St}{H:Hp}{s:Shared}{a:Addr}{y:V}{u:Value}{A:Around}{E:Value->Shared->Prop}
end
end L2
namespace Att
open PySem PySem.W PySem.Calls PyProof.Rows
section
variable {prog:Program}{w:World}{A:Around}{E:Value->Shared->Prop}{s:Shared}{K:Frag}
end
end Att
namespace L2
open PySem PySem.Spec PyProof.Rows
end L2
namespace L2
open PySem PySem.Spec PyProof.Rows
end L2
namespace L2
open PySem PySem.Spec PyProof.Rows
section
variable {X:Cx}
end
section
variable {κ:Type} [DecidableEq κ]
theorem XJ:∀{l:List κ}{k:κ},l.Nodup->¬ k∈l->(l++[k]).Nodup
 | [],k,_,_=>by simp
 | a::r,k,h,hk=>by
  obtain⟨h1,h2⟩:=List.nodup_cons.mp h;show(a::(r++[k])).Nodup;refine List.nodup_cons.mpr ⟨λm=>?_,XJ h2 λm=>hk (List.mem_cons.mpr (Or.inr m))⟩;rcases List.mem_append.mp m with q | q
  ·exact h1 q
  ·exact hk (List.mem_cons.mpr (Or.inl (List.mem_singleton.mp q).symm))
end
end L2
set_option maxHeartbeats 40000000
namespace G
open PySem L2
section
variable {D:Ends}{σ:St}{H H1:Hp}{Q:VK}{t u:TS}{ta tb tc te:TE}{n:St->Hp->Prop}{r:VK}{b c:St->Hp->Prop}
theorem Zmf(h:t ⟨u ⟨n,r,b,c⟩,r,b,c⟩ σ H):di t u ⟨n,r,b,c⟩ σ H:=h
theorem Zt8(h:n σ H):fK ⟨n,r,b,c⟩ σ H:=h
theorem Ztj(h:te σ H λ_ H1=>n σ H1):tL te ⟨n,r,b,c⟩ σ H:=h
theorem Zvl(h:te σ H r):eG te ⟨n,r,b,c⟩ σ H:=h
theorem Zxy{c':TT}(h:c' σ H λk H1=>if k=true then t ⟨n,r,b,c⟩ σ H1 else u ⟨n,r,b,c⟩ σ H1):iW c' t u ⟨n,r,b,c⟩ σ H:=h
theorem Zw2{g:TG}(h:te σ H λx H1=>g x σ H1 n):eE te g ⟨n,r,b,c⟩ σ H:=h
theorem i_C{v:V}(h:Q v H):tC v σ H Q:=h
theorem Zxw{f:R2}(h:ta σ H λx H1=>tb σ H1 λy H2=>f x y H2 Q):dG f ta tb σ H Q:=h
theorem Zxs{f:V->Hp->VK->Prop}(h:ta σ H λx H1=>f x H1 Q):tUn f ta σ H Q:=h
def kB(q:Bool->Hp->Prop):VK:=λx H'=>∃k,x=.bl k/\q k H'
theorem i_B{k:Bool}{q:Bool->Hp->Prop}(h:q k H):kB q (.bl k) H:=⟨k,rfl,h⟩
theorem Zt2{q:Bool->Hp->Prop}(h:te σ H (kB q)):fD te σ H q:=h
theorem Zxt{q:Bool->Hp->Prop}(h:te σ H (kB q)):tB te σ H q:=h
theorem Zw3{t u:TT}{q:Bool->Hp->Prop}(h:t σ H λk H1=>if k=true then u σ H1 q else q false H1):Zc7 t u σ H q:=h
theorem Zxv{t u:TT}{q:Bool->Hp->Prop}(h:t σ H λk H1=>if k=true then q true H1 else u σ H1 q):RZ t u σ H q:=h
theorem Zvm{t:TT}{q:Bool->Hp->Prop}(h:t σ H λk H1=>q (!k) H1):yh t σ H q:=h
theorem Zto(h:ta σ H (kB λk H1=>if k=true then tb σ H1 Q else Q (.bl false) H1)):Lw ta tb σ H Q:=h
theorem Zt7(h:ta σ H (kB λk H1=>Q (.bl (!k)) H1)):Zfj ta σ H Q:=h
theorem Zvr{t:TT}(h:t σ H λk H1=>if k=true then ta σ H1 Q else tb σ H1 Q):tIf t ta tb σ H Q:=h
theorem Zye{g:Int->Int->V}{i j:Int}(h:Q (g i j) H):qt g (.int i) (.int j) H Q:=⟨i,j,rfl,rfl,h⟩
theorem i_I{C:Int->Int->Prop}{g:Int->Int->V}{i j:Int}(hc:C i j)(h:Q (g i j) H):rI C g (.int i) (.int j) H Q:=⟨i,j,rfl,rfl,hc,h⟩
theorem i_U{g:Int->V}{i:Int}(h:Q (g i) H):rU g (.int i) H Q:=⟨i,rfl,h⟩
theorem Zw1{i j:Int}(h:Q (.bl (decide (i=j))) H):Iz (.int i) (.int j) H Q:=⟨rfl,by rw[show decide (V.int i=V.int j)=decide (i=j)from decide_eq_decide.mpr ⟨λe=>V.int.inj e,λe=>by rw[e]⟩];exact h⟩
theorem Zw0{i j:Str}(h:Q (.bl (decide (i=j))) H):Iz (.str i) (.str j) H Q:=⟨rfl,by rw[show decide (V.str i=V.str j)=decide (i=j)from decide_eq_decide.mpr ⟨λe=>V.str.inj e,λe=>by rw[e]⟩];exact h⟩
theorem Zvp{i j:Int}(h:Q (.bl (!decide (i=j))) H):Ly (.int i) (.int j) H Q:=⟨rfl,by rw[show decide (V.int i=V.int j)=decide (i=j)from decide_eq_decide.mpr ⟨λe=>V.int.inj e,λe=>by rw[e]⟩];exact h⟩
theorem Zvo{i j:Str}(h:Q (.bl (!decide (i=j))) H):Ly (.str i) (.str j) H Q:=⟨rfl,by rw[show decide (V.str i=V.str j)=decide (i=j)from decide_eq_decide.mpr ⟨λe=>V.str.inj e,λe=>by rw[e]⟩];exact h⟩
def Xg:R2:=λx y H Q=>y=.non/\Q (.bl (decide (x=.non))) H
def Zfm:R2:=λx y H Q=>y=.non/\Q (.bl (!decide (x=.non))) H
theorem Ztg(h:Q (.bl true) H):Xg .non .non H Q:=⟨rfl,h⟩
theorem Ztf{i:Int}(h:Q (.bl false) H):Xg (.int i) .non H Q:=⟨rfl,h⟩
theorem Zte{i:Addr}(h:Q (.bl false) H):Xg (.ref i) .non H Q:=⟨rfl,h⟩
theorem Zpz(h:Q (.bl false) H):Zfm .non .non H Q:=⟨rfl,h⟩
theorem Zpy{i:Int}(h:Q (.bl true) H):Zfm (.int i) .non H Q:=⟨rfl,h⟩
theorem Ztc{A B:Prop}(h:A):if true=true then A else B:=Zav h
theorem Ztd{A B:Prop}(h:B):if false=true then A else B:=Zsz h
theorem Zq1{A B:Prop}(h:B):if (!true)=true then A else B:=Zsz h
theorem Zq2{A B:Prop}(h:A):if (!false)=true then A else B:=Zav h
theorem DP{p A B:Prop} [Decidable p](h1:p->A)(h2:¬ p->B):if decide p=true then A else B:=Zvd (λe=>h1 (of_decide_eq_true e)) (λe=>h2 (λq=>e (decide_eq_true q)))
theorem sO{p A B:Prop} [Decidable p](h1:¬ p->A)(h2:p->B):if (!decide p)=true then A else B:=Zvd (λe=>h1 (by simpa using e)) (λe=>h2 (by simpa using e))
theorem Zvn{q:List V->Hp->Prop}(h:q [] H):bW σ H q:=h
theorem Ztm{q:List V->Hp->Prop}{t:TA}(h:ta σ H λx H1=>t σ H1 λxs H2=>q (x::xs) H2):aj ta t σ H q:=h
theorem Zvq{t:TA}(h:t σ H λxs H1=>xs.length<=sizeLine/\∀p,H1 p=none->Q (.ref p) (upd H1 p (.lst xs))):mD t σ H Q:=h
theorem Zvj{t:TA}(h:t σ H λxs H1=>xs.length<=sizeLine/\∀p,H1 p=none->Q (.ref p) (upd H1 p (.tup xs))):iK t σ H Q:=h
theorem Ztn{t:TA}{sp:Sp}{wg:List V}{E:XK}(h:t σ H λvs H1=>sp (vs++wg) H1 Q E):dH sp wg E t σ H Q:=h
theorem Zyf{t:TA}{f:List V->Hp->VK->Prop}(h:t σ H λvs H1=>f vs H1 Q):Ai f t σ H Q:=h
theorem Zta{t:TA}{sp:Sp}{wg:List V}{E:XK}{C:Addr}(h:t σ H λvs H1=>∀x dx,H1 x=none->H1 dx=none->dx≠x->sp (.ref x::(vs++wg)) (upd (upd H1 dx (.own x)) x (.ins C dx [])) (λv H2=>v=.non/\Q (.ref x) H2) E):zV C sp wg E t σ H Q:=h
def Zvb(K:aV)(f:Str)(Q:VK):VK:=λx H1=>∃a C dx fs v,x=.ref a/\H1 a=some (.ins C dx fs)/\Ds K C/\dN K C f/\fs.lookup f=some v/\Q v H1
theorem Zvz{K:aV}{f:Str}(h:ta σ H (Zvb K f Q)):eU K ta f σ H Q:=h
theorem cV{K:aV}{f:Str}{a C dx:Addr}{fs:List (Str×V)}{v:V}(h:H a=some (.ins C dx fs))(hc:Ds K C)(hn:dN K C f)(hl:fs.lookup f=some v)(q:Q v H):Zvb K f Q (.ref a) H:=⟨a,C,dx,fs,v,rfl,h,hc,hn,hl,q⟩
theorem Zt4{K:aV}{f:Str}{tv:TE}(h:tv σ H λy H1=>ta σ H1 λx H2=>∃a C dx fs,x=.ref a/\H2 a=some (.ins C dx fs)/\Ds K C/\dN K C f/\fs.length<1000/\n σ (upd H2 a (.ins C dx (fu f y fs)))):nj K ta tv f ⟨n,r,b,c⟩ σ H:=h
theorem Zt9{C:Addr}{m:Str}{sp:Sp}{wg:List V}{E:XK}{t:TA}(h:ta σ H λx H1=>∃a dx fs,x=.ref a/\H1 a=some (.ins C dx fs)/\fs.lookup m=none/\t σ H1 λvs H2=>sp (x::(vs++wg)) H2 Q E):uH C m sp wg E ta t σ H Q:=h
theorem Zmi{q:Option Int->Hp->Prop}(h:q none H):yG σ H q:=h
def kI(q:Int->Hp->Prop):VK:=λx H1=>∃i,x=.int i/\q i H1
theorem Zt6{q:Option Int->Hp->Prop}(h:te σ H (kI λi=>q (some i))):Ls te σ H q:=h
theorem Zxx{i:Int}{q:Int->Hp->Prop}(h:q i H):kI q (.int i) H:=⟨i,rfl,h⟩
theorem Zxu{f:V->Option Int->Option Int->Hp->VK->Prop}{tl th:TO}(h:te σ H λx H1=>tl σ H1 λl H2=>th σ H2 λu H3=>f x l u H3 Q):tSl f te tl th σ H Q:=h
theorem Zyd{K:aV}{T:String}{f:V->List V->Hp->VK->Prop}{to:TE}{t:TA}(h:to σ H λx H1=>tyV K T x H1/\t σ H1 λxs H2=>f x xs H2 Q):Sh K T f to t σ H Q:=h
theorem Zvx{wi:TI}{g:TG}{tb:TS}(h:wi σ H λJ H1=>∃W:Nat->Nat->St->Hp->Prop,(∃m,W 0 m σ H1)/\∀i m σ H,W i m σ H->
 (J.stop i H/\n σ H)\/(J.go i H/\∃N:St->Hp->Prop,(∀ σ' H',N σ' H'->∃m',m'<m/\W (i+1) m' σ' H')/\∀x H',J.Zq i H x H'->g x σ H' λσ2 H2=>tb ⟨N,r,n,N⟩ σ2 H2)):Ni wi g tb ⟨n,r,b,c⟩ σ H:=h
theorem Zy1{K:aV}{R:It->Hp->Prop}(h:te σ H λx H1=>∃a,x=.ref a/\(∃xs,fj K H1 a xs)/\R (Itl K a) H1):uK K te σ H R:=h
theorem Zy0{ta:TA}{R:It->Hp->Prop}(h:ta σ H λvs H1=>∃j:Int,vs=[.int j]/\-(2 ^ 62)<=j/\j<2 ^ 62/\R (Itr 0 j.toNat) H1):Ri ta σ H R:=h
end
theorem Zxr{v:V}{l:St}{H:Hp}{Q:VK}(h:Q v H):ak 0 (some v::l) H Q:=⟨v,rfl,h⟩
theorem Zxq{x0:Option V}{v:V}{l:St}{H:Hp}{Q:VK}(h:Q v H):ak 1 (x0::some v::l) H Q:=⟨v,rfl,h⟩
theorem Zyb{x0:Option V}{y:Option V}{v:V}{l:St}{H:Hp}{Q:St->Hp->Prop}(h:Q (x0::some v::l) H):cX 1 v (x0::y::l) H Q:=h
theorem Zxp{x0 x1:Option V}{v:V}{l:St}{H:Hp}{Q:VK}(h:Q v H):ak 2 (x0::x1::some v::l) H Q:=⟨v,rfl,h⟩
theorem Zya{x0 x1:Option V}{y:Option V}{v:V}{l:St}{H:Hp}{Q:St->Hp->Prop}(h:Q (x0::x1::some v::l) H):cX 2 v (x0::x1::y::l) H Q:=h
theorem Zxo{x0 x1 x2:Option V}{v:V}{l:St}{H:Hp}{Q:VK}(h:Q v H):ak 3 (x0::x1::x2::some v::l) H Q:=⟨v,rfl,h⟩
theorem Zy9{x0 x1 x2:Option V}{y:Option V}{v:V}{l:St}{H:Hp}{Q:St->Hp->Prop}(h:Q (x0::x1::x2::some v::l) H):cX 3 v (x0::x1::x2::y::l) H Q:=h
theorem Zxn{x0 x1 x2 x3:Option V}{v:V}{l:St}{H:Hp}{Q:VK}(h:Q v H):ak 4 (x0::x1::x2::x3::some v::l) H Q:=⟨v,rfl,h⟩
theorem Zy8{x0 x1 x2 x3:Option V}{y:Option V}{v:V}{l:St}{H:Hp}{Q:St->Hp->Prop}(h:Q (x0::x1::x2::x3::some v::l) H):cX 4 v (x0::x1::x2::x3::y::l) H Q:=h
theorem Zxm{x0 x1 x2 x3 x4:Option V}{v:V}{l:St}{H:Hp}{Q:VK}(h:Q v H):ak 5 (x0::x1::x2::x3::x4::some v::l) H Q:=⟨v,rfl,h⟩
theorem Zy7{x0 x1 x2 x3 x4:Option V}{y:Option V}{v:V}{l:St}{H:Hp}{Q:St->Hp->Prop}(h:Q (x0::x1::x2::x3::x4::some v::l) H):cX 5 v (x0::x1::x2::x3::x4::y::l) H Q:=h
theorem Zxl{x0 x1 x2 x3 x4 x5:Option V}{v:V}{l:St}{H:Hp}{Q:VK}(h:Q v H):ak 6 (x0::x1::x2::x3::x4::x5::some v::l) H Q:=⟨v,rfl,h⟩
theorem Zy6{x0 x1 x2 x3 x4 x5:Option V}{y:Option V}{v:V}{l:St}{H:Hp}{Q:St->Hp->Prop}(h:Q (x0::x1::x2::x3::x4::x5::some v::l) H):cX 6 v (x0::x1::x2::x3::x4::x5::y::l) H Q:=h
theorem Zxk{x0 x1 x2 x3 x4 x5 x6:Option V}{v:V}{l:St}{H:Hp}{Q:VK}(h:Q v H):ak 7 (x0::x1::x2::x3::x4::x5::x6::some v::l) H Q:=⟨v,rfl,h⟩
theorem Zy5{x0 x1 x2 x3 x4 x5 x6:Option V}{y:Option V}{v:V}{l:St}{H:Hp}{Q:St->Hp->Prop}(h:Q (x0::x1::x2::x3::x4::x5::x6::some v::l) H):cX 7 v (x0::x1::x2::x3::x4::x5::x6::y::l) H Q:=h
theorem Zxj{x0 x1 x2 x3 x4 x5 x6 x7:Option V}{v:V}{l:St}{H:Hp}{Q:VK}(h:Q v H):ak 8 (x0::x1::x2::x3::x4::x5::x6::x7::some v::l) H Q:=⟨v,rfl,h⟩
theorem Zy4{x0 x1 x2 x3 x4 x5 x6 x7:Option V}{y:Option V}{v:V}{l:St}{H:Hp}{Q:St->Hp->Prop}(h:Q (x0::x1::x2::x3::x4::x5::x6::x7::some v::l) H):cX 8 v (x0::x1::x2::x3::x4::x5::x6::x7::y::l) H Q:=h
theorem Zxi{x0 x1 x2 x3 x4 x5 x6 x7 x8:Option V}{v:V}{l:St}{H:Hp}{Q:VK}(h:Q v H):ak 9 (x0::x1::x2::x3::x4::x5::x6::x7::x8::some v::l) H Q:=⟨v,rfl,h⟩
theorem Zy3{x0 x1 x2 x3 x4 x5 x6 x7 x8:Option V}{y:Option V}{v:V}{l:St}{H:Hp}{Q:St->Hp->Prop}(h:Q (x0::x1::x2::x3::x4::x5::x6::x7::x8::some v::l) H):cX 9 v (x0::x1::x2::x3::x4::x5::x6::x7::x8::y::l) H Q:=h
theorem Zvh{x0 x1 x2 x3 x4 x5 x6 x7 x8 x9:Option V}{v:V}{l:St}{H:Hp}{Q:VK}(h:Q v H):ak 10 (x0::x1::x2::x3::x4::x5::x6::x7::x8::x9::some v::l) H Q:=⟨v,rfl,h⟩
theorem Zvw{x0 x1 x2 x3 x4 x5 x6 x7 x8 x9:Option V}{y:Option V}{v:V}{l:St}{H:Hp}{Q:St->Hp->Prop}(h:Q (x0::x1::x2::x3::x4::x5::x6::x7::x8::x9::some v::l) H):cX 10 v (x0::x1::x2::x3::x4::x5::x6::x7::x8::x9::y::l) H Q:=h
theorem Zvg{x0 x1 x2 x3 x4 x5 x6 x7 x8 x9 x10:Option V}{v:V}{l:St}{H:Hp}{Q:VK}(h:Q v H):ak 11 (x0::x1::x2::x3::x4::x5::x6::x7::x8::x9::x10::some v::l) H Q:=⟨v,rfl,h⟩
theorem Zvv{x0 x1 x2 x3 x4 x5 x6 x7 x8 x9 x10:Option V}{y:Option V}{v:V}{l:St}{H:Hp}{Q:St->Hp->Prop}(h:Q (x0::x1::x2::x3::x4::x5::x6::x7::x8::x9::x10::some v::l) H):cX 11 v (x0::x1::x2::x3::x4::x5::x6::x7::x8::x9::x10::y::l) H Q:=h
theorem Zvf{x0 x1 x2 x3 x4 x5 x6 x7 x8 x9 x10 x11:Option V}{v:V}{l:St}{H:Hp}{Q:VK}(h:Q v H):ak 12 (x0::x1::x2::x3::x4::x5::x6::x7::x8::x9::x10::x11::some v::l) H Q:=⟨v,rfl,h⟩
theorem Zvu{x0 x1 x2 x3 x4 x5 x6 x7 x8 x9 x10 x11:Option V}{y:Option V}{v:V}{l:St}{H:Hp}{Q:St->Hp->Prop}(h:Q (x0::x1::x2::x3::x4::x5::x6::x7::x8::x9::x10::x11::some v::l) H):cX 12 v (x0::x1::x2::x3::x4::x5::x6::x7::x8::x9::x10::x11::y::l) H Q:=h
theorem Zve{x0 x1 x2 x3 x4 x5 x6 x7 x8 x9 x10 x11 x12:Option V}{v:V}{l:St}{H:Hp}{Q:VK}(h:Q v H):ak 13 (x0::x1::x2::x3::x4::x5::x6::x7::x8::x9::x10::x11::x12::some v::l) H Q:=⟨v,rfl,h⟩
theorem Zvt{x0 x1 x2 x3 x4 x5 x6 x7 x8 x9 x10 x11 x12:Option V}{y:Option V}{v:V}{l:St}{H:Hp}{Q:St->Hp->Prop}(h:Q (x0::x1::x2::x3::x4::x5::x6::x7::x8::x9::x10::x11::x12::some v::l) H):cX 13 v (x0::x1::x2::x3::x4::x5::x6::x7::x8::x9::x10::x11::x12::y::l) H Q:=h
end G
namespace G
open PySem L2
theorem bY{H:Hp}{p:Addr}(h:H p=none)(o:HO):dF H (upd H p o):=λb u q=>by rw[aU (aM q h)];exact q
theorem nwO{H H1:Hp}{a:Addr}{o:HO}(n:H a=none)(h:upd H a o=H1):dF H H1/\H1 a=some o:=by
 subst h;exact⟨bY n o,aq⟩
def tyN(H:Hp):V->Option String
 | .non=>some "NoneType"
 | .bl _=>some "bool"
 | .int _=>some "int"
 | .str _=>some "str"
 | .ref a=>match H a with
  | some (.lst _)=>some "list"
  | some (.Wc _ (.lst _))=>some "list"
  | some (.tup _)=>some "tuple"
  | some (.dK _)=>some "dict"
  | some (.dT _)=>some "dict"
  | _=>none
 | _=>none
def vZ(t n:String):Option Bool:=if ["int","bool","str","list","tuple","dict"].contains n then some (t == n || (t == "bool" && n == "int"))else none
def Ih:List V->Hp->VK->Prop:=λxs H Q=>∃x n t k,xs=[x,.ty n]/\tyN H x=some t/\vZ t n=some k/\Q (.bl k) H
theorem Mi:vZ "int" "int"=some true:=by decide +kernel
theorem Ht:vZ "int" "bool"=some false:=by decide +kernel
theorem Mh:vZ "int" "str"=some false:=by decide +kernel
theorem Yt:vZ "int" "list"=some false:=by decide +kernel
theorem T7:vZ "int" "tuple"=some false:=by decide +kernel
theorem Yu:vZ "int" "dict"=some false:=by decide +kernel
theorem Yy:vZ "bool" "int"=some true:=by decide +kernel
theorem Ue:vZ "bool" "bool"=some true:=by decide +kernel
theorem Yx:vZ "bool" "str"=some false:=by decide +kernel
theorem Uc:vZ "bool" "list"=some false:=by decide +kernel
theorem Rg:vZ "bool" "tuple"=some false:=by decide +kernel
theorem Ud:vZ "bool" "dict"=some false:=by decide +kernel
theorem Zaw:vZ "str" "int"=some false:=by decide +kernel
theorem Yq:vZ "str" "bool"=some false:=by decide +kernel
theorem Mg:vZ "str" "str"=some true:=by decide +kernel
theorem Yo:vZ "str" "list"=some false:=by decide +kernel
theorem TV:vZ "str" "tuple"=some false:=by decide +kernel
theorem Yp:vZ "str" "dict"=some false:=by decide +kernel
theorem KJ:vZ "NoneType" "int"=some false:=by decide +kernel
theorem Hw:vZ "NoneType" "bool"=some false:=by decide +kernel
theorem KH:vZ "NoneType" "str"=some false:=by decide +kernel
theorem Hu:vZ "NoneType" "list"=some false:=by decide +kernel
theorem Fq:vZ "NoneType" "tuple"=some false:=by decide +kernel
theorem Hv:vZ "NoneType" "dict"=some false:=by decide +kernel
theorem Ys:vZ "list" "int"=some false:=by decide +kernel
theorem TY:vZ "list" "bool"=some false:=by decide +kernel
theorem Yr:vZ "list" "str"=some false:=by decide +kernel
theorem DN:vZ "list" "list"=some true:=by decide +kernel
theorem Rb:vZ "list" "tuple"=some false:=by decide +kernel
theorem TX:vZ "list" "dict"=some false:=by decide +kernel
theorem TQ:vZ "tuple" "int"=some false:=by decide +kernel
theorem Ra:vZ "tuple" "bool"=some false:=by decide +kernel
theorem TJ:vZ "tuple" "str"=some false:=by decide +kernel
theorem Q8:vZ "tuple" "list"=some false:=by decide +kernel
theorem zY:vZ "tuple" "tuple"=some true:=by decide +kernel
theorem Q9:vZ "tuple" "dict"=some false:=by decide +kernel
theorem Yw:vZ "dict" "int"=some false:=by decide +kernel
theorem Ub:vZ "dict" "bool"=some false:=by decide +kernel
theorem Yv:vZ "dict" "str"=some false:=by decide +kernel
theorem T9:vZ "dict" "list"=some false:=by decide +kernel
theorem Rc:vZ "dict" "tuple"=some false:=by decide +kernel
theorem Ua:vZ "dict" "dict"=some true:=by decide +kernel
theorem Zee{i:Int}{H:Hp}{Q:VK}(h:Q (.bl true) H):Ih [.int i,.ty "int"] H Q:=⟨_,_,_,_,rfl,rfl,Mi,h⟩
theorem Zay{i:Int}{H:Hp}{Q:VK}(h:Q (.bl false) H):Ih [.int i,.ty "bool"] H Q:=⟨_,_,_,_,rfl,rfl,Ht,h⟩
theorem Zed{i:Int}{H:Hp}{Q:VK}(h:Q (.bl false) H):Ih [.int i,.ty "str"] H Q:=⟨_,_,_,_,rfl,rfl,Mh,h⟩
theorem Zec{i:Str}{H:Hp}{Q:VK}(h:Q (.bl true) H):Ih [.str i,.ty "str"] H Q:=⟨_,_,_,_,rfl,rfl,Mg,h⟩
theorem Zax{a:Addr}{H:Hp}{Q:VK}{xs:List V}(hp:H a=some (.lst xs))(h:Q (.bl true) H):Ih [.ref a,.ty "list"] H Q:=⟨_,_,_,_,rfl,(by show(match H a with | some (.lst _)=>some "list" | some (.Wc _ (.lst _))=>some "list" | some (.tup _)=>some "tuple" | some (.dK _)=>some "dict" | some (.dT _)=>some "dict" | _=>none)=some "list";rw[hp]),DN,h⟩
theorem YB{a:Addr}{H:Hp}{Q:VK}{xs:List V}(hp:H a=some (.tup xs))(h:Q (.bl true) H):Ih [.ref a,.ty "tuple"] H Q:=⟨_,_,_,_,rfl,(by show(match H a with | some (.lst _)=>some "list" | some (.Wc _ (.lst _))=>some "list" | some (.tup _)=>some "tuple" | some (.dK _)=>some "dict" | some (.dT _)=>some "dict" | _=>none)=some "tuple";rw[hp]),zY,h⟩
def rB(K:aV):List V->Hp->VK->Prop:=λxs H Q=>∃p ys,xs=[.ref p]/\(fj K H p ys\/jE K H p ys)/\Q (.int ys.length) H
theorem qZ{K:aV}{a:Addr}{H:Hp}{Q:VK}{xs:List V}(hp:fj K H a xs)(h:Q (.int xs.length) H):rB K [.ref a] H Q:=⟨a,xs,rfl,.inl hp,h⟩
theorem jA{K:aV}{a:Addr}{H:Hp}{Q:VK}{xs:List V}{i:Int}{v:V}(hp:fj K H a xs)(hi:Ur xs i=some v)(h:Q v H):pQ K (.ref a) (.int i) H Q:=⟨a,xs,i,v,rfl,rfl,hp,hi,h⟩
section
variable {K:aV}{a:Addr}{xs:List V}{g:TG}{tb:TS}{σ:St}{H:Hp}{n:St->Hp->Prop}{r:VK}
theorem forL(xs:List V)(Pv:Nat->St->Hp->Prop)(h0:Pv 0 σ H)(hl:∀i σ H,i<=xs.length->Pv i σ H->fj K H a xs)
  (hs:∀i x σ H,xs[i]? =some x->Pv i σ H->g x σ H λσ2 H2=>tb ⟨Pv (i+1),r,n,Pv (i+1)⟩ σ2 H2) (hd:∀ σ H,Pv xs.length σ H->n σ H):
  ∃W:Nat->Nat->St->Hp->Prop,(∃m,W 0 m σ H)/\∀i m σ H,W i m σ H->
   ((Itl K a).stop i H/\n σ H)\/((Itl K a).go i H/\∃N:St->Hp->Prop,(∀ σ' H',N σ' H'->∃m',m'<m/\W (i+1) m' σ' H')/\∀x H',(Itl K a).Zq i H x H'->g x σ H' λσ2 H2=>tb ⟨N,r,n,N⟩ σ2 H2):=
 Zn4 (D:=⟨n,r,λ_ _=>False,λ_ _=>False⟩) Pv h0 hl hs hd
theorem forR{lo:Int}{k:Nat}(Pv:Nat->St->Hp->Prop)(h0:Pv 0 σ H)
  (hs:∀i σ H,i<k->Pv i σ H->g (.int (lo+i)) σ H λσ2 H2=>tb ⟨Pv (i+1),r,n,Pv (i+1)⟩ σ2 H2) (hd:∀ σ H,Pv k σ H->n σ H):
  ∃W:Nat->Nat->St->Hp->Prop,(∃m,W 0 m σ H)/\∀i m σ H,W i m σ H->
   ((Itr lo k).stop i H/\n σ H)\/((Itr lo k).go i H/\∃N:St->Hp->Prop,(∀ σ' H',N σ' H'->∃m',m'<m/\W (i+1) m' σ' H')/\∀x H',(Itr lo k).Zq i H x H'->g x σ H' λσ2 H2=>tb ⟨N,r,n,N⟩ σ2 H2):=
 Zin (D:=⟨n,r,λ_ _=>False,λ_ _=>False⟩) Pv h0 hs hd
end
theorem dR{n:Nat}(h:n<=1000000):n<=sizeLine:=Nat.le_trans h (by decide)
end G
namespace G
open PySem L2
def uI:R2:=λx y H Q=>∃i j,x=.str i/\y=.str j/\i.length+j.length<=sizeLine/\Q (.str (i++j)) H
theorem mJ{i j:Str}{H:Hp}{Q:VK}(hz:i.length+j.length<=sizeLine)(h:Q (.str (i++j)) H):uI (.str i) (.str j) H Q:=⟨i,j,rfl,rfl,hz,h⟩
theorem len_app(i j:Str):(i++j).length=i.length+j.length:=by
 show(i.cps++j.cps).size=i.cps.size+j.cps.size;exact Array.size_append
theorem Zg2{z:Str}{i:Int}{c:Nat}{H:Hp}{Q:VK}(hz:z.length<=sizeLine)(hi:Ur z.cps.toList i=some c)(h:Q (.str ⟨#[c]⟩) H):Zkb (.str z) (.int i) H Q:=⟨z,i,c,rfl,rfl,hz,hi,h⟩
theorem Zvi{K:aV}{z:Str}{H:Hp}{A:Prop}(h:A):tyV K "str" (.str z) H/\A:=⟨rfl,h⟩
theorem str_len(z:Str):z.cps.toList.length=z.length:=Array.length_toList
def pick(σ:St)(j:Nat):Option V:=match σ[j]? with
 | some v=>v
 | none=>none
def tLC(wi:TI)(caps:List Nat)(tc:TT)(te:TE):TE:=λσ H Q=>wi σ H λJ H1=>∃W:Nat->Nat->List V->Hp->Prop,(∃m,W 0 m [] H1)/\∀i m ys H,W i m ys H->
 (J.stop i H/\∀p,H p=none->Q (.ref p) (upd H p (.lst ys)))\/
 (J.go i H/\ys.length<sizeLine/\∀x H',J.Zq i H x H'->tc (some x::caps.map (pick σ)) H' λk H2=>if k=true then te (some x::caps.map (pick σ)) H2 (λy H3=>∃m',m'<m/\W (i+1) m' (ys++[y]) H3)else ∃m',m'<m/\W (i+1) m' ys H2)
def pM:TT:=λ_ H Q=>Q true H
theorem KZ{σ:St}{H:Hp}{Q:Bool->Hp->Prop}(h:Q true H):pM σ H Q:=h
theorem Zq3{r r':R2}{ta tb tc:TE}{σ:St}{H:Hp}{Q:VK}(h:ta σ H λx H1=>tb σ H1 λy H2=>r x y H2 (kB λk H3=>if k=true then tc σ H3 (λw H4=>r' y w H4 Q)else Q (.bl false) H3)):Zc4 r r' ta tb tc σ H Q:=h
end G
namespace G
open PySem L2
def rF(i j:Int):Prop:=Znt i j\/(i.natAbs<2 ^ 256/\j.natAbs<2 ^ 256)
def Zbm:List V->Hp->VK->Prop:=λxs H Q=>∃i:Int,xs=[.int i]/\i.natAbs.log2<1920/\Q (.str (Str.ofString (toString i))) H
def Z1(z:Str)(n:Int):Str:=⟨(List.replicate n.toNat z.cps.toList).flatten.toArray⟩
def Zka:R2:=λx y H Q=>∃z k,x=.str z/\y=.int k/\0<=k/\k<=1000/\z.length<=1000/\∀t:Str,t.length<=1000000->t=Z1 z k->Q (.str t) H
theorem Zt5{z:Str}{k:Int}{H:Hp}{Q:VK}(h0:0<=k)(h1:k<=1000)(h2:z.length<=1000)(h:∀t:Str,t.length<=1000000->t=Z1 z k->Q (.str t) H):Zka (.str z) (.int k) H Q:=⟨z,k,rfl,rfl,h0,h1,h2,h⟩
theorem Zpm{i:Int}(h0:0<=i)(h1:i<10 ^ 61):i.natAbs.log2<1920:=by
 have e:i.natAbs<10 ^ 61:=by
  have:(i.natAbs:Int)<10 ^ 61:=by omega
  exact_mod_cast this
 by_cases h:i.natAbs=0
 ·rw[h];decide
 ·have e1:(10:Nat) ^ 61<=2 ^ 256:=by decide
  have e2:(2:Nat) ^ 256<=2 ^ 1920:=Nat.pow_le_pow_right (by decide) (by decide);exact(Nat.log2_lt h).mpr (Nat.lt_of_lt_of_le e (Nat.le_trans e1 e2))
end G
namespace G
open PySem L2
structure EqD(K:aV)(C:Addr):Prop where
 eq:W.findIn K (.ref C) "__eq__"=some (some (.builtin "object.__eq__"))
 ob:W.mroIn K C (.type "object")=some true
end G
namespace G
open PySem L2
def Jc(C:Addr)(E:XK)(ta:TA):TS:=λ_ σ H=>ta σ H λvs H1=>vs.length<=100/\E (.ref C) none H1
def Zc5(sp:Sp)(wg:List V)(E:St->XK)(t:TA):TE:=λσ H Q=>t σ H λvs H1=>sp (vs++wg) H1 Q (E σ)
section
variable {σ:St}{H:Hp}{Q:VK}{n:St->Hp->Prop}{r:VK}{b c:St->Hp->Prop}{te:TE}{t:TA}
theorem Zpw{C:Addr}{E:XK}(h:t σ H λvs H1=>vs.length<=100/\E (.ref C) none H1):Jc C E t ⟨n,r,b,c⟩ σ H:=h
theorem Zq4{sp:Sp}{wg:List V}{E:St->XK}(h:t σ H λvs H1=>sp (vs++wg) H1 Q (E σ)):Zc5 sp wg E t σ H Q:=h
end
theorem Zth{to ti:TE}{ts:Zr3}{x:V}{σ:St}{H:Hp}{Q:St->Hp->Prop}(h:to σ H λo H1=>ti σ H1 λi H2=>ts o i x H2 λH3=>Q σ H3):Rn to ti ts x σ H Q:=h
def Cr(K:aV):List V->Hp->VK->Prop:=λxs H Q=>∃(p:Addr) (ys:List V),xs=[.ref p]/\fj K H p ys/\∀l,H l=none->Q (.ref l) (upd H l (.lst ys))
theorem Yz{K:aV}{H:Hp}{Q:VK}{p:Addr}{ys:List V}(h1:fj K H p ys)(h:∀l,H l=none->Q (.ref l) (upd H l (.lst ys))):Cr K [.ref p] H Q:=⟨p,ys,rfl,h1,h⟩
def OkN(K:aV)(H:Hp)(xs:List V):Prop:=∀y∈xs,y=.non\/∃a C dx fs,y=.ref a/\H a=some (.ins C dx fs)/\Ds K C/\EqD K C
def Zry(K:aV)(neg:Bool):R2:=λx y H Q=>∃p xs,x=.non/\y=.ref p/\fj K H p xs/\OkN K H xs/\Q (.bl (if neg then !decide (V.non∈xs)else decide (V.non∈xs))) H
theorem Zmh{K:aV}{H:Hp}{Q:VK}{p:Addr}{xs:List V}(h1:fj K H p xs)(h2:OkN K H xs)(h:Q (.bl (!decide (V.non∈xs))) H):Zry K true .non (.ref p) H Q:=⟨p,xs,rfl,rfl,h1,h2,h⟩
def Zfn(K:aV):V->List V->Hp->VK->Prop:=λx vs H Q=>∃p xs,x=.ref p/\vs=[.non]/\fj K H p xs/\OkN K H xs/\V.non∈xs/\Q (.int (xs.idxOf V.non)) H
def eqL(xs ys:List V):Bool:=xs.length == ys.length && (xs.zip ys).all λp=>eqV p.1 p.2
def Zkc(K:aV)(neg:Bool):R2:=λx y H Q=>∃p q xs ys,x=.ref p/\y=.ref q/\fj K H p xs/\fj K H q ys/\(xs.length=ys.length->xs.all nM=true/\ys.all nM=true)/\Q (.bl (if neg then !eqL xs ys else eqL xs ys)) H
theorem Zna{xs:List V}(h:xs.all nM=true):eqL xs xs=true:=by
 unfold eqL;rw[beq_self_eq_true,Bool.true_and,List.all_eq_true];intro p hp;have e:p.1=p.2:=by
  obtain⟨j,hj,e⟩:=List.getElem_of_mem hp;rw[List.getElem_zip]at e;rw[<- e]
 have hm:p.1∈xs:=(List.of_mem_zip hp).1;have hf:=List.all_eq_true.mp h _ hm;rw[<- e];cases hv:p.1 with
 | non=>rfl
 | bl b=>cases b<;>rfl
 | int i=>show(i == i)=true;simp
 | str z=>show(z == z)=true;simp
 | _=>rw[hv]at hf;exact absurd (show false=true from hf) Bool.false_ne_true
def Fm(S:List Addr)(H H':Hp):Prop:=∀b o,H b=some o->b∉S->H' b=some o
theorem Fm.same{H H':Hp}(a:Fm [] H H'):dF H H':=λc o h=>a c o h (λz=>nomatch z)
def fz(S:List Addr)(H:Hp):Hp:=λb=>if b∈S then none else H b
def LCg(J:It)(caps:List Nat)(tc:TT)(te:TE)(σ:St)(H:Hp)(Q:VK):Prop:=∃W:Nat->Nat->List V->Hp->Prop,(∃m,W 0 m [] H)/\∀i m ys H,W i m ys H->
 (J.stop i H/\∀p,H p=none->Q (.ref p) (upd H p (.lst ys)))\/
 (J.go i H/\ys.length<sizeLine/\∀x H',J.Zq i H x H'->tc (some x::caps.map (pick σ)) H' λk H2=>if k=true then te (some x::caps.map (pick σ)) H2 (λy H3=>∃m',m'<m/\W (i+1) m' (ys++[y]) H3)else ∃m',m'<m/\W (i+1) m' ys H2)
theorem VB{wi:TI}{caps:List Nat}{tc:TT}{te:TE}{σ:St}{H:Hp}{Q:VK}(h:wi σ H λJ H1=>LCg J caps tc te σ H1 Q):tLC wi caps tc te σ H Q:=h
theorem Zsr{J:It}{caps:List Nat}{tc:TT}{te:TE}{σ:St}{H:Hp}{Q:VK}(k:Nat)(hz:k<=1000000)(g:Nat->Option V)
  (hstop:J.stop k H) (hgo:∀i,i<k->J.go i H) (hy:∀i x H',i<k->J.Zq i H x H'->H'=H/\(∀q:Bool->Hp->Prop,q (g i).isSome H->tc (some x::caps.map (pick σ)) H q)/\∀(y:V) (q:VK),g i=some y->q y H->te (some x::caps.map (pick σ)) H q)
  (q:∀p,H p=none->Q (.ref p) (upd H p (.lst ((List.range k).filterMap g)))):
  LCg J caps tc te σ H Q:=by
 refine⟨λi m ys H'=>H'=H/\i<=k/\m=k - i/\ys=(List.range i).filterMap g,⟨k,rfl,Nat.zero_le _,rfl,rfl⟩,?_⟩;rintro i m ys _ ⟨rfl,hi,rfl,rfl⟩
 by_cases hk:i=k
 ·subst hk;exact .inl ⟨hstop,q⟩
 ·have hlt:i<k:=by omega
  refine .inr ⟨hgo i hlt,?_,λx H' y=>?_⟩
  ·refine Nat.lt_of_le_of_lt (Nat.le_trans (List.length_filterMap_le _ _) ?_) (show 1000000<sizeLine by decide);rw[List.length_range];omega
  ·obtain⟨rfl,h1,h2⟩:=hy i x H' hlt y;refine h1 _ ?_;have er:List.filterMap g (List.range (i+1))=List.filterMap g (List.range i)++(match g i with | some y=>[y] | none=>[]):=by
    rw[List.range_succ,List.filterMap_append];cases e:g i with
    | none=>rw[List.filterMap_cons_none e];rfl
    | some y=>rw[List.filterMap_cons_some e];rfl
   cases e:g i with
   | none=>
    rw[e]at er;dsimp only[Option.isSome];refine Zsz ⟨k - (i+1),by omega,rfl,by omega,rfl,?_⟩;rw[er,List.append_nil]
   | some y=>
    rw[e]at er;dsimp only[Option.isSome];refine Zav (h2 y _ e ⟨k - (i+1),by omega,rfl,by omega,rfl,?_⟩);rw[er]
theorem Oz{K:aV}{a:Addr}{xs:List V}{caps:List Nat}{tc:TT}{te:TE}{σ:St}{H:Hp}{Q:VK}(hs:fj K H a xs)(g:Nat->Option V)(hz:xs.length<=1000000)
  (hy:∀i x,xs[i]? =some x->(∀q:Bool->Hp->Prop,q (g i).isSome H->tc (some x::caps.map (pick σ)) H q)/\∀(y:V) (q:VK),g i=some y->q y H->te (some x::caps.map (pick σ)) H q)
  (q:∀p,H p=none->Q (.ref p) (upd H p (.lst ((List.range xs.length).filterMap g)))):
  LCg (Itl K a) caps tc te σ H Q:=by
 refine Zsr xs.length hz g ⟨xs,hs,Nat.le_refl _⟩ (λi hi=>⟨xs,xs[i],hs,eV hi⟩) (λi x H' hi y=>?_) q;obtain⟨e1,e2⟩:=y;exact⟨e1,hy i x (e2 xs hs)⟩
theorem uP{n i:Nat}(h:i<n):ixN n (i:Int)=some i:=by
 unfold ixN;rw[if_pos (by omega),if_pos (by omega)];simp
theorem iJ{α:Type}{xs:List α}{i:Int}{v:α}(h0:0<=i)(h:xs[i.toNat]? =some v):Ur xs i=some v:=by
 have e:i=((i.toNat:Nat):Int):=by omega
 have:=nD h;rw[<- e]at this;exact this
end G
namespace G
open PySem L2
inductive Al{α β:Type}(P:α->β->Prop):List α->List β->Prop
 | nil:Al P [] []
 | cons {x:α}{y:β}{xs:List α}{ys:List β}:P x y->Al P xs ys->Al P (x::xs) (y::ys)
section
variable {α β:Type}{P P':α->β->Prop}{xs:List α}{ys:List β}
theorem Al.length(h:Al P xs ys):xs.length=ys.length:=by
 induction h with
 | nil=>rfl
 | cons _ _ ih=>rw[List.length_cons,List.length_cons,ih]
theorem Al.mono(h:Al P xs ys)(f:∀x y,P x y->P' x y):Al P' xs ys:=by
 induction h with
 | nil=>exact .nil
 | cons p _ ih=>exact .cons (f _ _ p) ih
theorem Al.get(h:Al P xs ys):∀{i:Nat}{y:β},ys[i]? =some y->∃x,xs[i]? =some x/\P x y:=by
 induction h with
 | nil=>intro i y e;simp at e
 | cons p _ ih=>
  intro i y e;cases i with
  | zero=>simp at e;subst e;exact⟨_,rfl,p⟩
  | succ i=>
   obtain⟨x,e1,e2⟩:=ih (i:=i) (y:=y) (by simpa using e);exact⟨x,by simpa using e1,e2⟩
end
end G
namespace G
open PySem L2
abbrev Tg:=Addr->Nat×Nat
def WT(H:Hp)(T:Tg):Prop:=∀b,H b=none->T b=(0,0)
structure pC(s:Nat)(H H':Hp)(T T':Tg):Prop where
 kp:∀b o,H b=some o->(T b).1≠s->H' b=some o
 al:∀b o,H b=some o->∃o',H' b=some o'
 tg:∀b o,H b=some o->T' b=T b
 wt:WT H' T'
def mV(T:Tg)(a:Addr)(v:Nat×Nat):Tg:=λx=>if x=a then v else T x
theorem lX{T:Tg}{a:Addr}{v:Nat×Nat}:mV T a v a=v:=by unfold mV;rw[if_pos rfl]
theorem m9{T:Tg}{a b:Addr}{v:Nat×Nat}(h:b≠a):mV T a v b=T b:=by unfold mV;rw[if_neg h]
theorem WT.same{H H':Hp}{T:Tg}(w:WT H T)(s:dF H H'):WT H' T:=λb h=>w b (s.free h)
theorem pC.refl{s:Nat}{H:Hp}{T:Tg}(w:WT H T):pC s H H T T:=⟨λ_ _ h _=>h,λ_ o h=>⟨o,h⟩,λ_ _ _=>rfl,w⟩
theorem pC.same{s:Nat}{H H':Hp}{T:Tg}(w:WT H T)(e:dF H H'):pC s H H' T T:=⟨λb o h _=>e b o h,λb o h=>⟨o,e b o h⟩,λ_ _ _=>rfl,w.same e⟩
theorem pC.trans{s:Nat}{H H1 H2:Hp}{T T1 T2:Tg}(a:pC s H H1 T T1)(b:pC s H1 H2 T1 T2):pC s H H2 T T2 where
 kp:=λx o h n=>b.kp x o (a.kp x o h n) (by rw[a.tg x o h];exact n)
 al:=λx o h=>by
  obtain⟨o1,h1⟩:=a.al x o h;exact b.al x o1 h1
 tg:=λx o h=>by
  obtain⟨o1,h1⟩:=a.al x o h;rw[b.tg x o1 h1,a.tg x o h]
 wt:=b.wt
theorem pC.upd{s:Nat}{H:Hp}{T:Tg}{a:Addr}{o o':HO}(w:WT H T)(ha:H a=some o)(ht:(T a).1=s):pC s H (L2.upd H a o') T T where
 kp:=λx u h n=>by
  have:x≠a:=λe=>n (by rw[e];exact ht);rw[aU this];exact h
 al:=λx u h=>by
  by_cases e:x=a
  ·exact⟨o',by rw[e,aq]⟩
  ·exact⟨u,by rw[aU e];exact h⟩
 tg:=λ_ _ _=>rfl
 wt:=λb h=>w b (by
  by_cases e:b=a
  ·rw[e,aq]at h;cases h
  ·rw[aU e]at h;exact h)
theorem Zdv{T:Tg}{a b:Addr}{x y:Nat×Nat}(ha:T a=x)(hb:T b=y)(h:x≠y):a≠b:=λe=>h (by rw[<- ha,<- hb,e])
end G
namespace G
open PySem L2
theorem Zm3{J:It}{caps:List Nat}{tc:TT}{te:TE}{σ:St}{H:Hp}{Q:VK}(k:Nat)(hz:k<=1000000)(R:Nat->V->Hp->Prop)(mono:∀i y H1 H2,R i y H1->dF H1 H2->R i y H2)
  (hstop:∀H',dF H H'->J.stop k H') (hgo:∀i H',i<k->dF H H'->J.go i H')
  (hy:∀i x H1 H',i<k->dF H H1->J.Zq i H1 x H'->H'=H1/\(∀q:Bool->Hp->Prop,q true H1->tc (some x::caps.map (pick σ)) H1 q)/\∀q:VK,(∀y H2,dF H1 H2->R i y H2->q y H2)->te (some x::caps.map (pick σ)) H1 q)
  (q:∀ys H',dF H H'->ys.length=k->(∀(i:Nat) y,ys[i]? =some y->R i y H')->∀p,H' p=none->Q (.ref p) (upd H' p (.lst ys))):
  LCg J caps tc te σ H Q:=by
 refine⟨λi m ys H'=>dF H H'/\i<=k/\m=k - i/\ys.length=i/\∀(j:Nat) y,ys[j]? =some y->R j y H',⟨k,dF.refl _,Nat.zero_le _,rfl,rfl,λj y e=>by simp at e⟩,?_⟩;rintro i m ys H1 ⟨s1,hi,rfl,hl,hr⟩
 by_cases hk:i=k
 ·subst hk;exact .inl ⟨hstop H1 s1,q ys H1 s1 hl hr⟩
 ·have hlt:i<k:=by omega
  refine .inr ⟨hgo i H1 hlt s1,Nat.lt_of_le_of_lt (show ys.length<=1000000 by omega) (show 1000000<sizeLine by decide),λx H' y=>?_⟩;obtain⟨rfl,h1,h2⟩:=hy i x H1 H' hlt s1 y;refine h1 _ (Zav (h2 _ λy H2 s2 r=>⟨k - (i+1),by omega,s1.trans s2,by omega,rfl,by rw[List.length_append,hl];rfl,λj z e=>?_⟩))
  by_cases hj:j<ys.length
  ·rw[List.getElem?_append_left hj]at e;exact mono j z _ _ (hr j z e) s2
  ·have hj':=(gG e).1;rw[List.length_append,List.length_singleton]at hj';have ej:j=ys.length:=by omega
   subst ej;rw[List.getElem?_append_right (Nat.le_refl _),Nat.sub_self]at e;cases e;rw[hl];exact r
theorem Zpo{caps:List Nat}{tc:TT}{te:TE}{σ:St}{H:Hp}{Q:VK}{n:Nat}{z:Int}(ez:z.toNat=n)(hz:n<=1000000)(R:Nat->V->Hp->Prop)(mono:∀i y H1 H2,R i y H1->dF H1 H2->R i y H2)
  (htc:∀i H1,∀q:Bool->Hp->Prop,q true H1->tc (some (.int i)::caps.map (pick σ)) H1 q)
  (hte:∀(i:Nat) H1,i<n->dF H H1->∀q:VK,(∀y H2,dF H1 H2->R i y H2->q y H2)->te (some (.int i)::caps.map (pick σ)) H1 q)
  (q:∀ys H',dF H H'->ys.length=n->(∀(i:Nat) y,ys[i]? =some y->R i y H')->∀p,H' p=none->Q (.ref p) (upd H' p (.lst ys))):LCg (Itr 0 z.toNat) caps tc te σ H Q:=by
 subst ez;refine Zm3 z.toNat hz R mono (λ_ _=>Nat.le_refl _) (λi _ hi _=>hi) (λi x H1 H' hi s1 y=>?_) q;obtain⟨e1,e2⟩:=y;have ex:x=.int i:=by rw[e2];simp
 subst ex;exact⟨e1,htc i H1,λq hq=>hte i H1 hi s1 q hq⟩
theorem Zfw{K:aV}{a:Addr}{xs:List V}{caps:List Nat}{tc:TT}{te:TE}{σ:St}{H:Hp}{Q:VK}(hs:fj K H a xs)(hz:xs.length<=1000000)(R:Nat->V->Hp->Prop)(mono:∀i y H1 H2,R i y H1->dF H1 H2->R i y H2)
  (htc:∀x H1,∀q:Bool->Hp->Prop,q true H1->tc (some x::caps.map (pick σ)) H1 q)
  (hte:∀(i:Nat) x H1,xs[i]? =some x->dF H H1->∀q:VK,(∀y H2,dF H1 H2->R i y H2->q y H2)->te (some x::caps.map (pick σ)) H1 q)
  (q:∀ys H',dF H H'->ys.length=xs.length->(∀(i:Nat) y,ys[i]? =some y->R i y H')->∀p,H' p=none->Q (.ref p) (upd H' p (.lst ys))):LCg (Itl K a) caps tc te σ H Q:=by
 refine Zm3 xs.length hz R mono (λH' s=>⟨xs,s.seq hs,Nat.le_refl _⟩) (λi H' hi s=>⟨xs,xs[i],s.seq hs,eV hi⟩) (λi x H1 H' hi s1 y=>?_) q;obtain⟨e1,e2⟩:=y;exact⟨e1,htc x H1,λq hq=>hte i x H1 (e2 xs (s1.seq hs)) s1 q hq⟩
theorem Zpp{J:It}{caps:List Nat}{tc:TT}{te:TE}{σ:St}{H:Hp}{Q:VK}(k:Nat)(hz:k<=1000000)(R:Nat->Addr->Hp->Prop)(mono:∀i y H1 H2,R i y H1->dF H1 H2->R i y H2)(al:∀i y H1,R i y H1->∃o,H1 y=some o)
  (hstop:∀H',dF H H'->J.stop k H') (hgo:∀i H',i<k->dF H H'->J.go i H')
  (hy:∀i x H1 H',i<k->dF H H1->J.Zq i H1 x H'->H'=H1/\(∀q:Bool->Hp->Prop,q true H1->tc (some x::caps.map (pick σ)) H1 q)/\∀q:VK,(∀r H2,dF H1 H2->H1 r=none->R i r H2->q (.ref r) H2)->te (some x::caps.map (pick σ)) H1 q)
  (q:∀(rs:List Addr) H',dF H H'->rs.length=k->rs.Nodup->(∀r∈rs,H r=none)->(∀(i:Nat) r,rs[i]? =some r->R i r H')->∀p,H' p=none->Q (.ref p) (upd H' p (.lst (rs.map V.ref)))):
  LCg J caps tc te σ H Q:=by
 refine⟨λi m ys H'=>∃rs:List Addr,ys=rs.map V.ref/\dF H H'/\i<=k/\m=k - i/\rs.length=i/\rs.Nodup/\(∀r∈rs,H r=none)/\∀(j:Nat) r,rs[j]? =some r->R j r H',⟨k,[],rfl,dF.refl _,Nat.zero_le _,rfl,rfl,List.nodup_nil,λr hr=>(nomatch hr),λj y e=>by simp at e⟩,?_⟩;rintro i m _ H1 ⟨rs,rfl,s1,hi,rfl,hl,nd,nn,hr⟩
 by_cases hk:i=k
 ·subst hk;exact .inl ⟨hstop H1 s1,q rs H1 s1 hl nd nn hr⟩
 ·have hlt:i<k:=by omega
  refine .inr ⟨hgo i H1 hlt s1,Nat.lt_of_le_of_lt (show(rs.map V.ref).length<=1000000 by rw[dM];omega) (show 1000000<sizeLine by decide),λx H' y=>?_⟩;obtain⟨rfl,h1,h2⟩:=hy i x H1 H' hlt s1 y;refine h1 _ (Zav (h2 _ λr H2 s2 nr rr=>⟨k - (i+1),by omega,rs++[r],by rw[List.map_append];rfl,s1.trans s2,by omega,rfl,by rw[List.length_append,hl];rfl,?_,λz hz=>?_,λj z e=>?_⟩))
  ·rw[List.nodup_append];refine⟨nd,by simp,λa ha b hb e=>?_⟩;rw[List.mem_singleton.mp hb]at e;subst e;obtain⟨j,hj,ej⟩:=List.getElem_of_mem ha;obtain⟨o,ho⟩:=al j a _ (hr j a (by rw[eV hj,ej]));rw[nr]at ho;cases ho
  ·rcases List.mem_append.mp hz with hz | hz
   ·exact nn z hz
   ·rw[List.mem_singleton.mp hz];exact s1.free nr
  ·by_cases hj:j<rs.length
   ·rw[List.getElem?_append_left hj]at e;exact mono j z _ _ (hr j z e) s2
   ·have hj':=(gG e).1;rw[List.length_append,List.length_singleton]at hj';have ej:j=rs.length:=by omega
    subst ej;rw[List.getElem?_append_right (Nat.le_refl _),Nat.sub_self]at e;cases e;rw[hl];exact rr
theorem Zm2{K:aV}{a:Addr}{xs:List V}{caps:List Nat}{tc:TT}{te:TE}{σ:St}{H:Hp}{Q:VK}(hs:fj K H a xs)(hz:xs.length<=1000000)(R:Nat->Addr->Hp->Prop)(mono:∀i y H1 H2,R i y H1->dF H1 H2->R i y H2)(al:∀i y H1,R i y H1->∃o,H1 y=some o)
  (htc:∀x H1,∀q:Bool->Hp->Prop,q true H1->tc (some x::caps.map (pick σ)) H1 q)
  (hte:∀(i:Nat) x H1,xs[i]? =some x->dF H H1->∀q:VK,(∀r H2,dF H1 H2->H1 r=none->R i r H2->q (.ref r) H2)->te (some x::caps.map (pick σ)) H1 q)
  (q:∀(rs:List Addr) H',dF H H'->rs.length=xs.length->rs.Nodup->(∀r∈rs,H r=none)->(∀(i:Nat) r,rs[i]? =some r->R i r H')->∀p,H' p=none->Q (.ref p) (upd H' p (.lst (rs.map V.ref)))):LCg (Itl K a) caps tc te σ H Q:=by
 refine Zpp xs.length hz R mono al (λH' s=>⟨xs,s.seq hs,Nat.le_refl _⟩) (λi H' hi s=>⟨xs,xs[i],s.seq hs,eV hi⟩) (λi x H1 H' hi s1 y=>?_) q;obtain⟨e1,e2⟩:=y;exact⟨e1,htc x H1,λq hq=>hte i x H1 (e2 xs (s1.seq hs)) s1 q hq⟩
end G
namespace G
open PySem L2 PySem.Spec PyProof.Rows
theorem boot_isinstance:bootBuiltins "isinstance"=some (.builtin "isinstance"):=by decide +kernel
theorem boot_len:bootBuiltins "len"=some (.builtin "len"):=by decide +kernel
theorem boot_int:bootBuiltins "int"=some (.type "int"):=by decide +kernel
theorem boot_str:bootBuiltins "str"=some (.type "str"):=by decide +kernel
theorem boot_bool:bootBuiltins "bool"=some (.type "bool"):=by decide +kernel
theorem boot_list:bootBuiltins "list"=some (.type "list"):=by decide +kernel
theorem boot_tuple:bootBuiltins "tuple"=some (.type "tuple"):=by decide +kernel
structure Znq(K:aV)(x qual:Str)(st:Stmt)(f:Addr)(fd:FuncData):Prop where
 ex:∃(oc:Value) (od:Option Addr) (dV kV doc pm:Value) (an:Option Addr) (cdv ct:Value) (osl:Array (Option Value)),
  fd=W.fnOf x qual (oR st) (jU st) (bI st) dV kV doc pm an cdv ct/\K.lookup f=some ⟨oc,od,.func fd,osl⟩/\W.codeIn K cdv qual=true
 kp:W.keepIn K (.ref f)=true
section
variable {P:Program}{w:World}{K:aV}{mg:Str->Option Value}{base:Heap}
theorem Zg5{x qual:Str}{st:Stmt}{f:Addr}{oc dV:Value}{od an:Option Addr}{osl:Array (Option Value)}{kV doc pm cdv ct:Value}(l:K.lookup f=some ⟨oc,od,.func (W.fnOf x qual (oR st) (jU st) (bI st) dV kV doc pm an cdv ct),osl⟩)
  (c:W.codeIn K cdv qual=true) (k:W.keepIn K (.ref f)=true):Znq K x qual st f (W.fnOf x qual (oR st) (jU st) (bI st) dV kV doc pm an cdv ct):=⟨⟨oc,od,dV,kV,doc,pm,an,cdv,ct,osl,rfl,l,c⟩,k⟩
theorem RD{f td:Addr}{oc tc:Value}{od to_:Option Addr}{osl ts:Array (Option Value)}{fd:FuncData}{items:Array Value}{tn:Nat}{ps:List Str}{ds:List Value}(_:K.lookup f=some ⟨oc,od,.func fd,osl⟩)(t:K.lookup td=some ⟨tc,to_,.seq items tn,ts⟩)
  (h:∀us:List Value,us.length+ds.length=ps.length->∃k,bindArgs fd ⟨us,[]⟩=seqItems? (.ref td) >>= k/\k (some items)=pure (ps.zip (us++ds))) (hd:fd.defaults=.ref td:=by rfl):Binds K fd ps ds:=by
 intro s us KX hl;obtain⟨k,h1,h2⟩:=h us (by rw[List.length_append]at hl;exact hl);exact BindsTo.of_defaults hd (KX _ _ t) rfl (by rw[h1,hd]) h2
end
section
variable {X:Cx}
theorem Gu:Ad X (compareOp .Is) Xg:=Zs5
theorem Zl4:Ad X (compareOp .IsNot) Zfm:=Zp7
theorem iH:DX X (.builtin "len") (rB X.K):=Y0
def kk(t n:String):Option Bool:=if (Value.type t == Value.type n)=true then some true else if W.kitMeta n=true then(fastBuiltinMro t).map (·.contains (.type n))else none
theorem Zsu(K:aV)(t n:String):W.kitOne K (.type t) (.type n)=kk t n:=rfl
theorem Ze5:kk "int" "int"=some true:=by decide +kernel
theorem Zap:kk "int" "bool"=some false:=by decide +kernel
theorem Ze4:kk "int" "str"=some false:=by decide +kernel
theorem Zan:kk "int" "list"=some false:=by decide +kernel
theorem Ye:kk "int" "tuple"=some false:=by decide +kernel
theorem Zao:kk "int" "dict"=some false:=by decide +kernel
theorem Zat:kk "bool" "int"=some true:=by decide +kernel
theorem Yl:kk "bool" "bool"=some true:=by decide +kernel
theorem Zas:kk "bool" "str"=some false:=by decide +kernel
theorem Yj:kk "bool" "list"=some false:=by decide +kernel
theorem TF:kk "bool" "tuple"=some false:=by decide +kernel
theorem Yk:kk "bool" "dict"=some false:=by decide +kernel
theorem Ze3:kk "str" "int"=some false:=by decide +kernel
theorem Zak:kk "str" "bool"=some false:=by decide +kernel
theorem Ze2:kk "str" "str"=some true:=by decide +kernel
theorem Zai:kk "str" "list"=some false:=by decide +kernel
theorem X8:kk "str" "tuple"=some false:=by decide +kernel
theorem Zaj:kk "str" "dict"=some false:=by decide +kernel
theorem NT:kk "NoneType" "int"=some false:=by decide +kernel
theorem Kv:kk "NoneType" "bool"=some false:=by decide +kernel
theorem NQ:kk "NoneType" "str"=some false:=by decide +kernel
theorem Ks:kk "NoneType" "list"=some false:=by decide +kernel
theorem Hr:kk "NoneType" "tuple"=some false:=by decide +kernel
theorem Ku:kk "NoneType" "dict"=some false:=by decide +kernel
theorem Zam:kk "list" "int"=some false:=by decide +kernel
theorem Yd:kk "list" "bool"=some false:=by decide +kernel
theorem Zal:kk "list" "str"=some false:=by decide +kernel
theorem Yb:kk "list" "list"=some true:=by decide +kernel
theorem Tw:kk "list" "tuple"=some false:=by decide +kernel
theorem Yc:kk "list" "dict"=some false:=by decide +kernel
theorem X7:kk "tuple" "int"=some false:=by decide +kernel
theorem Tv:kk "tuple" "bool"=some false:=by decide +kernel
theorem X6:kk "tuple" "str"=some false:=by decide +kernel
theorem Tt:kk "tuple" "list"=some false:=by decide +kernel
theorem Q6:kk "tuple" "tuple"=some true:=by decide +kernel
theorem Tu:kk "tuple" "dict"=some false:=by decide +kernel
theorem Zar:kk "dict" "int"=some false:=by decide +kernel
theorem Yi:kk "dict" "bool"=some false:=by decide +kernel
theorem Zaq:kk "dict" "str"=some false:=by decide +kernel
theorem Yg:kk "dict" "list"=some false:=by decide +kernel
theorem Tz:kk "dict" "tuple"=some false:=by decide +kernel
theorem Yh:kk "dict" "dict"=some true:=by decide +kernel
theorem Zrk{H:Hp}{x:V}{t:String}(e:tyN H x=some t):t="int"\/t="bool"\/t="str"\/t="NoneType"\/t="list"\/t="tuple"\/t="dict":=by
 unfold tyN at e;split at e<;>(first | (cases e;simp) | (split at e<;>(first | (cases e;simp) | cases e)) | cases e)
theorem Zt0{t n:String}{k:Bool}(e:vZ t n=some k):n="int"\/n="bool"\/n="str"\/n="list"\/n="tuple"\/n="dict":=by
 unfold vZ at e
 by_cases h:(["int","bool","str","list","tuple","dict"].contains n)=true
 ·simpa using h
 ·rw[if_neg h]at e;cases e
theorem Zv9{H:Hp}{x:V}{t n:String}{k:Bool}(ht:tyN H x=some t)(e:vZ t n=some k):kk t n=some k:=by
 rcases Zrk ht with rfl | rfl | rfl | rfl | rfl | rfl | rfl<;>rcases Zt0 e with rfl | rfl | rfl | rfl | rfl | rfl
 ·rw[Mi]at e;rw[Ze5];exact e
 ·rw[Ht]at e;rw[Zap];exact e
 ·rw[Mh]at e;rw[Ze4];exact e
 ·rw[Yt]at e;rw[Zan];exact e
 ·rw[T7]at e;rw[Ye];exact e
 ·rw[Yu]at e;rw[Zao];exact e
 ·rw[Yy]at e;rw[Zat];exact e
 ·rw[Ue]at e;rw[Yl];exact e
 ·rw[Yx]at e;rw[Zas];exact e
 ·rw[Uc]at e;rw[Yj];exact e
 ·rw[Rg]at e;rw[TF];exact e
 ·rw[Ud]at e;rw[Yk];exact e
 ·rw[Zaw]at e;rw[Ze3];exact e
 ·rw[Yq]at e;rw[Zak];exact e
 ·rw[Mg]at e;rw[Ze2];exact e
 ·rw[Yo]at e;rw[Zai];exact e
 ·rw[TV]at e;rw[X8];exact e
 ·rw[Yp]at e;rw[Zaj];exact e
 ·rw[KJ]at e;rw[NT];exact e
 ·rw[Hw]at e;rw[Kv];exact e
 ·rw[KH]at e;rw[NQ];exact e
 ·rw[Hu]at e;rw[Ks];exact e
 ·rw[Fq]at e;rw[Hr];exact e
 ·rw[Hv]at e;rw[Ku];exact e
 ·rw[Ys]at e;rw[Zam];exact e
 ·rw[TY]at e;rw[Yd];exact e
 ·rw[Yr]at e;rw[Zal];exact e
 ·rw[DN]at e;rw[Yb];exact e
 ·rw[Rb]at e;rw[Tw];exact e
 ·rw[TX]at e;rw[Yc];exact e
 ·rw[TQ]at e;rw[X7];exact e
 ·rw[Ra]at e;rw[Tv];exact e
 ·rw[TJ]at e;rw[X6];exact e
 ·rw[Q8]at e;rw[Tt];exact e
 ·rw[zY]at e;rw[Q6];exact e
 ·rw[Q9]at e;rw[Tu];exact e
 ·rw[Yw]at e;rw[Zar];exact e
 ·rw[Ub]at e;rw[Yi];exact e
 ·rw[Yv]at e;rw[Zaq];exact e
 ·rw[T9]at e;rw[Yg];exact e
 ·rw[Rc]at e;rw[Tz];exact e
 ·rw[Ua]at e;rw[Yh];exact e
theorem tyOf{K:aV}{H:Hp}{x:V}{t:String}(e:tyN H x=some t):Lb K H x (.type t):=by
 cases x with
 | non=>cases e;exact .non
 | bl y=>cases e;exact .bl y
 | int y=>cases e;exact .int y
 | str y=>cases e;exact .str y
 | byt y=>cases e
 | flt y=>cases e
 | ty y=>cases e
 | ref a=>
  have e':(match H a with | some (.lst _)=>some "list" | some (.Wc _ (.lst _))=>some "list" | some (.tup _)=>some "tuple" | some (.dK _)=>some "dict" | some (.dT _)=>some "dict" | _=>none)=some t:=e;split at e'
  ·rename_i h;cases e';exact .lst h
  ·rename_i h;cases e';exact .Wc h
  ·rename_i h;cases e';exact .tup h
  ·rename_i h;cases e';exact .dK h
  ·rename_i h;cases e';exact .dT h
  ·cases e'
theorem vV:DX X (.builtin "isinstance") Ih:=by
 intro pins s σ H xs us Q I r h;obtain⟨x,n,t,k,rfl,ht,hk,q⟩:=h;obtain⟨u,w',rfl,rx,rn⟩:=vals2 r;have rn':w'=Value.type n:=rn;subst rn';exact Zhx (t:=.type t) (b:=k) I rx (tyOf ht) ((Zsu _ _ _).trans (Zv9 ht hk)) λtk=>⟨.bl k,H,I.tok _,rfl,q⟩
end
end G
namespace G
open PySem L2 PySem.Spec PyProof.Rows
section
variable {X:Cx}
def GC(mg:Str->Option Value)(x:Str)(v:V):Prop:=∃u,mg x=some u/\RelV v u
theorem GC.pe{x:Str}{v:V}{pos:Pos}(h:GC X.mg x v)(hg:Gl X x)(hd:(x == ("__debug__":Str))=false:=by decide):PE X (.Name x pos) (tC v):=by
 obtain⟨u,hm,r⟩:=h;exact Zp3 hg hm r hd
end
end G
namespace G
open PySem L2 PySem.Spec PyProof.Rows
theorem XF{i:Int}(h0:0<=i)(h1:i<10 ^ 61):1<=(Str.ofString (toString i)).length/\(Str.ofString (toString i)).length<=61:=by
 refine⟨?_,toString_length_le h0 (by decide) h1⟩;obtain⟨m,rfl⟩:=Int.eq_ofNat_of_zero_le h0;have e:=W.KIN.signs_num m;have e2:((Str.ofString (toString ((m:Nat):Int))).cps.toList).length=(Nat.toDigits 10 m).length:=by rw[e,dM]
 rw[str_len]at e2;rw[e2];cases hd:Nat.toDigits 10 m with
 | nil=>exact absurd hd Nat.toDigits_ne_nil
 | cons a l=>rw[List.length_cons];omega
section
variable {X:Cx}
theorem K8:DX X (.type "str") Zbm:=YX
theorem rF.ok{i j:Int}(h:rF i j):IntMulOk i j:=by
 rcases h with h | ⟨h1,h2⟩
 ·exact h.ok
 ·have bits:∀k:Int,k.natAbs<2 ^ 256->Builtin.Int.intBits k<=2 ^ 20:=λk hk=>by
   unfold Builtin.Int.intBits;split
   ·exact Nat.zero_le _
   ·rename_i hn
    have hk0:k.natAbs≠0:=λe=>hn (by simpa using e);have:=(Nat.log2_lt hk0).mpr hk;omega
  exact IntMulOk.of_bits (bits i h1) (bits j h2)
theorem pH:Ad X (binaryOp .Mult) (rI rF λi j=>.int (i * j)):=opI λ_ _ _ _ _ _ _ hc q=>mul_int q hc.ok
theorem Zpj(z:Str)(k:Int):Txt.mul z k=Z1 z k:=by
 unfold Txt.mul Z1;have fl:∀(n:Nat) (acc:List Nat),List.foldl (λx1 x2=>x1++x2) acc.toArray (List.replicate n z.cps)=(acc++(List.replicate n z.cps.toList).flatten).toArray:=by
  intro n
  induction n with
  | zero=>intro acc;simp
  | succ n ih=>
   intro acc;rw[List.replicate_succ,List.replicate_succ,List.foldl_cons,List.flatten_cons];have e:acc.toArray++z.cps=(acc++z.cps.toList).toArray:=by simp
   rw[e,ih,List.append_assoc]
 split
 ·rename_i h
  have e:k.toNat=0:=by omega
  rw[e];rfl
 ·rename_i h
  split
  ·rename_i h2
   rw[Bool.or_eq_true]at h2;rcases h2 with h2 | h2
   ·have e:k.toNat=1:=by have:=beq_iff_eq.mp h2;omega
    rw[e];simp
   ·have e:z.cps=#[]:=Array.eq_empty_of_size_eq_zero (beq_iff_eq.mp h2);obtain⟨zc⟩:=z;dsimp only at e;subst e;have:∀n:Nat,(List.replicate n ([]:List Nat)).flatten=[]:=λn=>by
     induction n with
     | zero=>rfl
     | succ n ih=>rw[List.replicate_succ,List.flatten_cons,ih];rfl
    simp[this]
  ·have:=fl k.toNat [];simp only[List.nil_append]at this;show(⟨List.foldl (λx1 x2=>x1++x2) #[] (List.replicate k.toNat z.cps)⟩:Str)=_;rw[this]
theorem Zk7(z:Str)(k:Int):(Z1 z k).length=k.toNat * z.length:=by
 show(List.toArray _).size=_;rw[List.size_toArray];have:∀n:Nat,(List.replicate n z.cps.toList).flatten.length=n * z.length:=λn=>by
  induction n with
  | zero=>simp
  | succ n ih=>rw[List.replicate_succ,List.flatten_cons,List.length_append,ih,str_len,Nat.succ_mul,Nat.add_comm]
 exact this _
theorem Zp6:Ad X (binaryOp .Mult) Zka:=by
 intro pins s σ H x y v u Q I rx ry h;obtain⟨z,k,rfl,rfl,h0,h1,h2,q⟩:=h;obtain⟨t,rfl⟩:=rx;obtain⟨t',rfl⟩:=ry;have hb:k.toNat * z.length<=1000000:=Nat.le_trans (Nat.mul_le_mul (show k.toNat<=1000 by omega) h2) (by decide);refine SB.mul ⟨?_,λh3 _=>?_,λh3 _=>?_⟩ λt'' kk=>?_
 ·simp;omega
 ·intro z1;have:(z.length:Int)<=1000:=by omega
  have e:(1000:Int)<(2 ^ 63 - 1) / k:=by
   have hk:0<k:=by omega
   rw[Int.lt_iff_add_one_le,Int.le_ediv_iff_mul_le hk];omega
  omega
 ·unfold Builtin.Str.tooLong;have:z.length * k.toNat<=1000000:=by rw[Nat.mul_comm];exact hb
  simp;exact Nat.le_trans this (by decide)
 ·rw[Zpj];exact⟨.str (Z1 z k),H,I.tok _,⟨_,rfl⟩,q _ (by rw[Zk7];exact hb) rfl⟩
end
end G
namespace G
open PySem L2
theorem Zme{i:Int}{H:Hp}{Q:VK}(h0:0<=i)(h1:i<10 ^ 61)(h:∀t:Str,t=Str.ofString (toString i)->1<=t.length->t.length<=61->Q (.str t) H):Zbm [.int i] H Q:=
 ⟨i,rfl,Zpm h0 h1,h _ rfl (XF h0 h1).1 (XF h0 h1).2⟩
end G
namespace G
open PySem L2 PySem.Spec PyProof.Rows
section
variable {X:Cx}{pins:List (Addr×Obj)}{σ:L2.St}{H:Hp}{s:Shared}{acc:Addr}{ys:List V}{its:List Value}{n:Nat}
theorem adopt(I:Inv X pins σ H s)(hf:uF X pins H acc)(ho:s.heap.get? acc=some { cls:=.type "list",data:=.seq its.toArray n })(hv:Vals ys its)(hz:ys.length<=sizeLine):Inv X pins σ (upd H acc (.lst ys)) s:=by
 obtain⟨f0,f1,f2,f3,f4,f5⟩:=hf;have ne:∀b u,H b=some u->b≠acc:=λb u e=>aM e f0;refine I.step (h':=s.heap) (g':=s.gens) (t':=s.toks) (d':=s.drawn) (ch:=[acc]) (λb hb=>?_) (λ_ _ _ _ _ e _=>e) (λb o _ _ _ e _=>⟨o.slots,e⟩) (λb o hb e h0=>?_) (λb o _ e=>⟨o,e⟩)
  (λb xs e=>by rw[aU (ne b _ e)];exact e) (λb o u e=>by rw[aU (ne b _ e)];exact e) (λb ps e=>⟨#[],by rw[aU (ne b _ e),e];simp⟩) (λm hm=>hm) (λb u e=>?_) I.bare
 ·have e:b=acc:=by simpa using hb
  subst e;exact⟨f3,f1,f4,f5⟩
 ·have e:b≠acc:=by simpa using hb
  rw[aU e];exact h0
 ·by_cases hb:b=acc
  ·subst hb;rw[aq]at e;cases e;exact⟨hz,its,n,hv,ho⟩
  ·rw[aU hb]at e;exact(I.hok b u e).stay (λ_ _ _ q=>q) (λc q=>by rw[aU (ne c _ q)];exact q) λc xs q=>by rw[aU (ne c _ q)];exact q
theorem disown(I:Inv X pins σ (upd H acc (.lst ys)) s)(hf:uF X pins H acc):Inv X pins σ H s:=by
 obtain⟨f0,f1,f2,f3,f4,f5⟩:=hf;have back:∀b u,upd H acc (.lst ys) b=some u->u≠.lst ys->H b=some u:=λb u e hne=>by
  by_cases hb:b=acc
  ·subst hb;rw[aq]at e;cases e;exact absurd rfl hne
  ·rw[aU hb]at e;exact e
 refine I.step (h':=s.heap) (g':=s.gens) (t':=s.toks) (d':=s.drawn) (ch:=[acc]) (λb hb=>?_) (λ_ _ _ _ _ e _=>e) (λb o _ _ _ e _=>⟨o.slots,e⟩) (λb o hb e h0=>?_) (λb o _ e=>⟨o,e⟩)
  (λb xs e=>back b _ e (λz=>nomatch z)) (λb o u e=>back b _ e (λz=>nomatch z)) (λb ps e=>⟨#[],by rw[back b _ e (λz=>nomatch z)];simp⟩) (λm hm=>hm) (λb u e=>?_) I.bare
 ·have e:b=acc:=by simpa using hb
  subst e;exact⟨f3,f1,f4,f5⟩
 ·have e:b≠acc:=by simpa using hb
  rw[aU e]at h0;exact h0
 ·have hb:b≠acc:=aM e f0;have e':upd H acc (.lst ys) b=some u:=by rw[aU hb];exact e
  exact(I.hok b u e').stay (λ_ _ _ q=>q) (λc q=>back c _ q (λz=>nomatch z)) λc xs q=>back c _ q (λz=>nomatch z)
end
def PF(X:Cx)(ifs:List Expr)(t:TT):Prop:=
 ∀(pins:List (Addr×Obj)) (s:Shared) (σ:L2.St) (H:Hp) (Q:Bool->Hp->Prop),Inv X pins σ H s->t σ H Q->
  wpAny (model X.prog X.w) X.A (forIn ifs true λc r=>if r=true then do let ok <- isTrue c X.env (eval c X.env);pure (ForInStep.yield ok)else pure (ForInStep.yield r)) (TP X pins σ Q) X.xe s
theorem uv{X:Cx}:PF X [] pM:=λ_ _ _ H _ I h=>wpAny_tests_nil ⟨H,I,h⟩
theorem Zkr{X:Cx}{c:Expr}{t:TT}(h:PT X c t):PF X [c] t:=λpins s σ H Q I q=>wpAny_tests_one (h pins s σ H Q I q)
def Fw(X:Cx)(scope:Scope)(cl:List (Str×Addr))(N:List Str)(C:Addr)(s:Shared)(H:Hp)(ex:List Addr)(pn:List (Addr×Obj)):Cx:=
 { X with N:=N,s₀:=s,H₀:=H,env:=compEnvC scope cl C X.env,outer:=X.stack,ex:=ex,fn:=λ_=>false,pn:=pn,xe:=λ_ _=>False }
def AllIn(cells:List (Str×Addr)):List (Str×Addr)->Prop
 | []=>True
 | p::r=>cells.lookup p.1=some p.2/\AllIn cells r
theorem AllIn.get{cells:List (Str×Addr)}:∀{cl:List (Str×Addr)},AllIn cells cl->∀{x:Str}{c:Addr},cl.lookup x=some c->cells.lookup x=some c
 | [],_,x,c,h=>by cases h
 | (y,d)::r,a,x,c,h=>by
  cases e:(x == y)with
  | true=>
   rw[List.lookup_cons,e]at h;have e':x=y:=beq_iff_eq.mp e;subst e';cases h;exact a.1
  | false=>
   rw[List.lookup_cons,e]at h;exact AllIn.get a.2 h
def yF(X:Cx):List Str->List Nat->Prop
 | [],[]=>True
 | y::r,j::js=>X.N[j]? =some y/\X.env.kindOf y=some .cell/\yF X r js
 | _,_=>False
theorem yF.len{X:Cx}:∀{ns:List Str}{js:List Nat},yF X ns js->ns.length=js.length
 | [],[],_=>rfl
 | [],_::_,h=>h.elim
 | _::_,[],h=>h.elim
 | _::r,_::js,h=>by rw[List.length_cons,List.length_cons,yF.len h.2.2]
theorem yF.get{X:Cx}{σ:L2.St}:∀{ns:List Str}{js:List Nat},yF X ns js->∀{i:Nat}{x:Str}{v:V},ns[i]? =some x->(js.map (pick σ))[i]? =some (some v)->∃j:Nat,X.N[j]? =some x/\X.env.kindOf x=some .cell/\σ[j]? =some (some v)
 | [],_,_,i,x,v,h,_=>by simp at h
 | _::_,[],h,_,_,_,_,_=>h.elim
 | y::r,j::js,h,0,x,v,h1,h2=>by
  simp at h1 h2;subst h1;refine⟨j,h.1,h.2.1,?_⟩;unfold pick at h2;split at h2
  ·rename_i e;rw[e,h2]
  ·cases h2
 | y::r,j::js,h,i+1,x,v,h1,h2=>yF.get (i:=i) h.2.2 (by simpa using h1) (by simpa using h2)
theorem Zlx{x n:Str}{k:NameKind}{r:List (Str×NameKind)}(h:(x == n)=false):List.lookup x ((n,k)::r)=List.lookup x r:=by rw[List.lookup_cons,h]
theorem Zly{x n:Str}{k:NameKind}{r:List (Str×NameKind)}(h:(x == n)=true):List.lookup x ((n,k)::r)=some k:=by rw[List.lookup_cons,h]
def Qv(env:Env)(x:Str)(k:NameKind):NameKind:=if (k == NameKind.free && env.scope.kind == .function && env.kindOf x == some .cell)=true then .cell else k
theorem vN{env:Env}{x:Str}:∀{names:List (Str×NameKind)},
  (names.map λ(n,k)=>if (k == NameKind.free && env.scope.kind == .function && env.kindOf n == some .cell)then(n,NameKind.cell)else(n,k)).lookup x=(names.lookup x).map (Qv env x)
 | []=>rfl
 | (n,k')::r=>by
  have ih:=@vN env x r;show List.lookup x ((if (k' == NameKind.free && env.scope.kind == .function && env.kindOf n == some .cell)=true then(n,NameKind.cell)else(n,k'))::r.map λ(n,k)=>if (k == NameKind.free && env.scope.kind == .function && env.kindOf n == some .cell)then(n,NameKind.cell)else(n,k))=_;cases hx:x == n with
  | true=>
   have e:=beq_iff_eq.mp hx;subst e;rw[Zly (k:=k') hx]
   by_cases hc:(k' == NameKind.free && env.scope.kind == .function && env.kindOf x == some .cell)=true
   ·rw[if_pos hc,Zly hx];show some NameKind.cell=some (Qv env x k');unfold Qv;rw[if_pos hc]
   ·rw[if_neg hc,Zly hx];show some k'=some (Qv env x k');unfold Qv;rw[if_neg hc]
  | false=>
   rw[Zlx (k:=k') (r:=r) hx]
   by_cases hc:(k' == NameKind.free && env.scope.kind == .function && env.kindOf n == some .cell)=true
   ·rw[if_pos hc,Zlx hx];exact ih
   ·rw[if_neg hc,Zlx hx];exact ih
theorem lookup_all{names:List (Str×NameKind)}{p:Str×NameKind->Bool}:∀{x:Str}{k:NameKind},names.all p=true->names.lookup x=some k->p (x,k)=true:=by
 induction names with
 | nil=>intro x k _ h;simp at h
 | cons y r ih=>
  intro x k ha h;obtain⟨n,k'⟩:=y;rw[List.all_cons,Bool.and_eq_true]at ha;cases hx:x == n with
  | true=>
   rw[List.lookup_cons,hx]at h;have e1:x=n:=beq_iff_eq.mp hx;have e2:k'=k:=Option.some.inj h;rw[e1,<- e2];exact ha.1
  | false=>
   rw[List.lookup_cons,hx]at h;exact ih ha.2 h
theorem Zbj{prog:Program}{w:World}{A:Around}{R:Result->Shared->Prop}{s:Shared}{elt target iter:Expr}{ifs:List Expr}{scope:Scope}{pos:Pos}{it acc:Value}{env:Env}(I:Nat->Shared->Prop)
  (turn:∀n s,I n s->wpAny (model prog w) A (pyNext it) (λr s₁=>match r with
   | none=>R (.ok .next) s₁
   | some v=>wpAny (model prog w) A (letOwnedTupleGo target it v) (λ_ s₁'=>wpAny (model prog w) A (assign target env v) (λ_ s₂=>
     wpAny (model prog w) A (forIn ifs true λc r=>if r=true then do let ok <- isTrue c env (eval c env);pure (ForInStep.yield ok)else pure (ForInStep.yield r)) (λok s₃=>
      if ok=true then wpAny (model prog w) A (eval elt env) (λx s₄=>
       wpAny (model prog w) A (call (.builtin "list.append") [acc,x]) (λ_ s₅=>∃m,m<n/\I m s₅) (λ_ _=>False) s₄) (λ_ _=>False) s₃
      else ∃m,m<n/\I m s₃) (λ_ _=>False) s₂) (λ_ _=>False) s₁') (λ_ _=>False) s₁) (λ_ _=>False) s)
  (n:Nat) (h:I n s):
  codeAny (model prog w) A (.compLoop (.ListComp elt [⟨target,iter,ifs,0⟩] scope pos) 0 it acc env) R s:=by
 refine codeAny_loop rfl I (λn s hI=>?_) n h;show wpAny _ A ((compTurn (.ListComp elt [⟨target,iter,ifs,0⟩] scope pos) 0 it acc env).onRaise (λx=>do noteFrame x env;theTreesLotGoes x)) _ _ s;refine wpAny_noted ?_;rw[compTurn_list];refine wpAny_bind (wpAny_standAt (wpAny_bind (wpAny_mono (turn n s hI) (λr s₁ h₁=>?_) λ_ _ h'=>h'.elim)));cases r with
 | none=>exact wpAny_pure h₁
 | some v=>
  refine wpAny_bind (wpAny_mono h₁ (λ_ s₁' h₁'=>?_) λ_ _ h'=>h'.elim);refine wpAny_bind (wpAny_mono h₁' (λ_ s₂ h₂=>wpAny_bind (wpAny_mono h₂ (λok s₃ h₃=>?_) λ_ _ h'=>h'.elim)) λ_ _ h'=>h'.elim);cases ok with
  | false=>exact wpAny_pure ⟨rfl,h₃⟩
  | true=>
   exact wpAny_bind (wpAny_bind (wpAny_mono h₃ (λx s₄ h₄=>wpAny_bind (wpAny_mono h₄ (λ_ s₅ h₅=>wpAny_pure (wpAny_pure ⟨rfl,h₅⟩)) λ_ _ h'=>h'.elim)) λ_ _ h'=>h'.elim))
theorem X5{X:Cx}{elt iter tg:Expr}{pos:Pos}{ifs:List Expr}{scope:Scope}{cl:List (Str×Addr)}{wi:TI}{tc:TT}{te:TE}{cns:List Str}{ns:List Str}{gt:TG}{R:It->L2.St->Hp->VK->Prop}{use:Option (Value->Sem Unit)}{Q0:Value->Shared->Prop}{pins:List (Addr×Obj)}{s:Shared}{σ:L2.St}{H:Hp}{Q:VK}(caps:List Nat)
  (hR:∀J σ H Q,R J σ H Q->∃W:Nat->Nat->List V->Hp->Prop,(∃m,W 0 m [] H)/\∀i m ys H,W i m ys H->
   (J.stop i H/\∀p,H p=none->Q (.ref p) (upd H p (.lst ys)))\/
   (J.go i H/\ys.length<sizeLine/\∀x H',J.Zq i H x H'->∀vs:L2.St,vs.length=ns.length->∃us:L2.St,us.length=ns.length/\gt x (vs++caps.map (pick σ)) H' (λσ2 H2=>σ2=us++caps.map (pick σ)/\H2=H')/\tc (us++caps.map (pick σ)) H' λk H2=>if k=true then te (us++caps.map (pick σ)) H2 (λy H3=>∃m',m'<m/\W (i+1) m' (ys++[y]) H3)else ∃m',m'<m/\W (i+1) m' ys H2))
  (hi:PI X tg iter wi) (hg:∀C s H ex pn,PG (Fw X scope cl (ns++cns) C s H ex pn) tg gt)
  (hf:∀C s H ex pn,PF (Fw X scope cl (ns++cns) C s H ex pn) ifs tc) (he:∀C s H ex pn,PE (Fw X scope cl (ns++cns) C s H ex pn) elt te) (hc:X.calm=true)
  (hclos:closureFor scope X.env=pure cl) (hcl:AllIn X.env.cells cl) (hcap:yF X cns caps)
  (hkind:scope.kind=.function) (hcell:(scope.names.all λp=>p.2 != .cell)=true) (hfree:(scope.names.all λp=>p.2 != .free || (cl.lookup p.1).isSome)=true)
  (hcf:(cns.all λy=>scope.names.lookup y == some .free)=true) (hnames:∀y∈scope.names,y.2=.local->scope.names.lookup y.1=some .local)
  (hs:∀v,foldedSetIterable iter X.env v=pure v)
  (I:Inv X pins σ H s) (h:wi σ H λJ H1=>R J σ H1 Q)
  (hend:∀(acc C:Addr) (s6:Shared) (m:Str->Option Value) r0,s6.heap.Ns C m->(∀{Hf:Hp},Hf C=none->uF X pins Hf C)->(∀h',Heap.SameBut C s6.heap h'->EP X pins σ (λv Hf=>Q v Hf/\Hf C=none) (.ref acc) { s6 with heap:=h' })->compPost (model X.prog X.w) X.A X.xe use Q0 (.ref acc) C (.ok r0) s6):
  wpAny (model X.prog X.w) X.A (comprehension (.ListComp elt [⟨tg,iter,ifs,0⟩] scope pos) scope X.env (firstIterPos [⟨tg,iter,ifs,0⟩] pos) (newList []) (firstAsync [⟨tg,iter,ifs,0⟩]) (firstIter [⟨tg,iter,ifs,0⟩] X.env) use) Q0 X.xe s:=by
 refine wpAny_comprehension_free rfl hs hclos hkind hnames (lU (hi pins s σ H _ I h) λxv s1 h1=>lU h1 λitv s2 h2=>?_);obtain⟨it,fp,tn,J,H2,rfl,I2,T,st2,f2,hr⟩:=h2;obtain⟨W,⟨m0,w0⟩,turn⟩:=hR _ _ _ _ hr;have hne:∀y∈scope.names,y.2≠.cell:=λy hy e=>by
  have:=List.all_eq_true.mp hcell y hy;rw[e]at this;simp at this
 refine wpAny_newObj_type (wpAny_newFunctionEnv hne (by intro y hy;simp at hy) (λh₁ hns₁ hsb₁=>?_) hkind);dsimp only at hns₁ hsb₁ ⊢;generalize hacc:s2.heap.objs.size=acc;generalize hH3:s2.heap.push { cls:=.type "list",dict:=none,data:=.seq ([]:List Value).toArray }=h3 at hns₁ hsb₁ ⊢;have hC:h3.objs.size=acc+1:=by rw[<- hH3,Heap.size_push,hacc]
 have Zn:∀b o,s2.heap.get? b=some o->h3.get? b=some o:=λb o e=>hH3 ▸ Heap.get?_push_of_some _ e;have k34:∀b o,h3.get? b=some o->h₁.get? b=some o:=λb o e=>hsb₁.extBut b o (Nat.ne_of_lt (Heap.lt_size e)) (Heap.get?_push_of_some _ e);have Zxa:h3.get? acc=some { cls:=.type "list",dict:=none,data:=.seq ([]:List Value).toArray }:=by
  rw[<- hH3,<- hacc];exact Heap.get?_push_size _ rfl
 have I3:Inv X pins σ H2 { s2 with heap:=h3 }:=I2.kept (t':=s2.toks) Zn;have Zty:uF X pins H2 acc:=I2.Zei (Nat.le_of_eq hacc) (I2.hok.fresh (Nat.le_of_eq hacc));have fpl:∀b∈fp,b<acc:=λb hb=>by
  obtain⟨o,e,_⟩:=T.obj _ _ st2 b hb;rw[<- hacc];exact Heap.lt_size e
 have Zir:∀b∈acc::fp,uF X pins H2 b:=λb hb=>(List.mem_cons.mp hb).elim (λe=>e ▸ Zty) (f2 b);have exC:∀b∈acc::fp,b≠h3.objs.size:=λb hb=>by
  rcases List.mem_cons.mp hb with e | hb
  ·rw[hC,e];exact Nat.ne_of_lt (Nat.lt_succ_self _)
  ·rw[hC];exact Nat.ne_of_lt (Nat.lt_succ_of_lt (fpl b hb))
 have Zc9:∀b∈acc::fp,b∉frs X.stack:=λb hb hm=>by
  obtain⟨_,g1,g2,_⟩:=Zir b hb;exact(List.mem_cons.mp (I2.Jf b hm)).elim g1 g2
 let Y:Cx:=Fw X scope cl (ns++cns) h3.objs.size { s2 with heap:=h3 } H2 (acc::fp) (X.pn++pins)
 have cellsOf:∀y c,cl.lookup y=some c->X.env.cells.lookup y=some c:=λy c e=>hcl.get e;have Zfx:∀y k,Y.env.kindOf y=some k->(k=.cell\/k=.free)->∃c,cl.lookup y=some c:=λy k e hk=>by
  have e0:(scope.names.lookup y).map (Qv X.env y)=some k:=vN.symm.trans e;obtain⟨k0,e1,e2⟩:=Option.map_eq_some_iff.mp e0;have e3:=lookup_all hfree e1;have e4:=lookup_all hcell e1
  by_cases hf:k0=.free
  ·subst hf;rw[Bool.or_eq_true]at e3;rcases e3 with e3 | e3
   ·exact absurd rfl (bne_iff_ne.mp e3)
   ·exact Option.isSome_iff_exists.mp e3
  ·exfalso
   have e5:Qv X.env y k0=k0:=by
    unfold Qv;rw[if_neg];intro z;rw[Bool.and_eq_true,Bool.and_eq_true]at z;exact hf (beq_iff_eq.mp z.1.1)
   rw[e5]at e2;subst e2;rcases hk with rfl | rfl
   ·simp at e4
   ·exact hf rfl
 have okY:Y.Ok:={
  mod:=I2.ok.mod
  kind:=hkind
  glob:=I2.ok.glob
  blt:=I2.ok.blt
  above:=Nat.le_refl _
  inj:=λa b c e1 e2=>I2.ok.inj a b c (cellsOf _ _ e1) (cellsOf _ _ e2)
  has:=λy hy=>hy.elim (λe=>Zfx y _ e (.inl rfl)) (λe=>Zfx y _ e (.inr rfl))
  cab:=λy c e=>nomatch e
  hd:=I2.ok.hd
  frames:=I2.ok.frames
  stk:=.inl rfl
  exf:=λb hb=>⟨exC b hb,λy c e=>(Zir b hb).2.2.2.2.1 y c (cellsOf _ _ e)⟩
  bs:=λb o e=>⟨Zn b o (I2.bs b o e).1,(I2.bs b o e).2⟩
  bsz:=by
   show X.base.objs.size<=h3.objs.size;rw[hC,<- hacc];exact Nat.le_succ_of_le (Nat.le_trans I2.ok.bsz I2.sz)
  Zab:=λb o e hb=>by
   rcases(Zir b hb).2.2.2.1 with z | z
   ·exact I2.ok.Zab b o e z
   ·exact absurd (Nat.lt_of_lt_of_le (Heap.lt_size e) (Nat.le_trans I2.ok.bsz z)) (Nat.lt_irrefl _)
  Zeu:=Zc9
  yw:=I3.stack
  frf:=I3.Ww }
 have Zxf:(List.replicate ns.length none++caps.map (pick σ):L2.St).length=(ns++cns).length:=by rw[List.length_append,List.length_append,List.length_replicate,dM,hcap.len]
 have I4:Inv Y [] (List.replicate ns.length none++caps.map (pick σ)) H2 { s2 with heap:=h₁,toks:=s2.toks+([]:List (Str×Value)).length }:={
  ok:=okY
  os:=rfl
  bare:=I2.bare
  base:=Un.kept k34
  loc:=by
   refine⟨_,hns₁,λi y v e1 e2 e3=>?_⟩
   by_cases hlt:i<ns.length
   ·have e2:(List.replicate ns.length none++caps.map (pick σ):L2.St)[i]? =some (some v):=e2;rw[List.getElem?_append_left (by rw[List.length_replicate];exact hlt),List.getElem?_replicate,if_pos hlt]at e2;cases e2
   ·have e1':cns[i - ns.length]? =some y:=by
     have e1':(ns++cns)[i]? =some y:=e1;rw[List.getElem?_append_right (by omega)]at e1';exact e1'
    have e2':(caps.map (pick σ):L2.St)[i - ns.length]? =some (some v):=by
     have e2:(List.replicate ns.length none++caps.map (pick σ):L2.St)[i]? =some (some v):=e2;rw[List.getElem?_append_right (by rw[List.length_replicate];omega),List.length_replicate]at e2;exact e2
    obtain⟨j,j1,j2,j3⟩:=hcap.get (σ:=σ) (i:=i - ns.length) (x:=y) (v:=v) e1' e2';obtain⟨m,hn,hl⟩:=I2.loc;obtain⟨u,r,l⟩:=hl j y v j1 j3 (.inr (.inl j2));rcases l with ⟨l,_⟩ | ⟨_,c,l1,l2⟩
    ·rw[j2]at l;cases l
    ·refine⟨u,r,.inr ?_⟩;rcases e3 with e3 | e3 | e3
     ·exfalso
      have hm:y∈cns:=List.mem_of_getElem? e1';have hl:scope.names.lookup y=some .free:=beq_iff_eq.mp (List.all_eq_true.mp hcf y hm);have e0:(scope.names.lookup y).map (Qv X.env y)=some .local:=vN.symm.trans e3;rw[hl]at e0;have e5:Qv X.env y .free=.local:=Option.some.inj e0;unfold Qv at e5;split at e5<;>cases e5
     ·obtain⟨c',hc'⟩:=Zfx y _ e3 (.inl rfl);have:=cellsOf _ _ hc';rw[l1]at this;cases this;exact⟨.inl e3,c,hc',l2.keeps λb o e=>k34 _ _ (Zn _ _ e)⟩
     ·obtain⟨c',hc'⟩:=Zfx y _ e3 (.inr rfl);have:=cellsOf _ _ hc';rw[l1]at this;cases this;exact⟨.inr e3,c,hc',l2.keeps λb o e=>k34 _ _ (Zn _ _ e)⟩
  cell:=λy c e=>by
   obtain⟨v,z⟩:=I2.cell y c (cellsOf _ _ e);exact⟨v,z.keeps λb o e=>k34 _ _ (Zn _ _ e)⟩
  free:=I2.hok.fresh (by rw[hacc];show acc<=h3.objs.size;rw[hC];exact Nat.le_succ _)
  vO:=λy c e=>I2.vO y c (cellsOf _ _ e)
  pin:=λp hp=>by
   have hp2:p∈(X.pn++pins)++[]:=hp;have hp':p∈X.pn++pins:=by rw[List.append_nil]at hp2;exact hp2
   obtain⟨p1,p2,p3,p4,p5⟩:=I2.pin p hp';refine⟨k34 _ _ (Zn _ _ p1),p2,?_,λhm=>(List.mem_cons.mp (I2.Jf _ hm)).elim p3 p4,p5⟩;exact Nat.ne_of_lt (by show p.1<h3.objs.size;exact Heap.lt_size (Zn _ _ p1))
  hok:=I2.hok.kept λb u e=>k34 _ _ (Zn _ _ e)
  len:=Zxf }
 have fpY:∀{H':Hp}{pl:List (Addr×Obj)}{b:Addr},b∈acc::fp->H' b=none->(∀p∈pl,p.1≠b)->uF Y pl H' b:=λ{H' pl b} hb hn hp=>
  ⟨hn,exC b hb,Zc9 b hb,.inl hb,λy c e=>(Zir b hb).2.2.2.2.1 y c (cellsOf _ _ e),λp hm=>(List.mem_append.mp hm).elim (λz=>(Zir b hb).2.2.2.2.2 p z) (hp p)⟩
 have fin:∀{σ':L2.St}{H':Hp}{s':Shared}{ys:List V}{its:List Value}{kk:Nat}{pl:List (Addr×Obj)},Inv Y pl σ' H' s'->H' acc=none->Vals ys its->ys.length<=sizeLine->
   s'.heap.get? acc=some { cls:=.type "list",data:=.seq its.toArray kk }->(∀p,H' p=none->Q (.ref p) (upd H' p (.lst ys)))->
   ∀h',Heap.SameBut h3.objs.size s'.heap h'->EP X pins σ (λv Hf=>Q v Hf/\Hf h3.objs.size=none) (.ref acc) { s' with heap:=h' }:=λ{σ' H' s' ys its kk pl} J ha hv hz ho hq h' hs'=>by
  have Zw9:acc≠h3.objs.size:=exC acc (List.mem_cons_self);have Zau:∀b o,b≠h3.objs.size->s'.heap.get? b=some o->h'.get? b=some o:=λb o hb e=>hs'.extBut b o hb e;have ltC:∀b o,s2.heap.get? b=some o->b≠h3.objs.size:=λb o e=>Nat.ne_of_lt (Heap.lt_size (Zn b o e));have Zeg:H' h3.objs.size=none:=J.free;have un:Un (frs X.stack) (acc::fp) H2 H' s2.heap h':={
   keep:=λb o e n hb hx=>Zau b o (ltC b o e) (J.base.keep b o (Zn b o e) n hb hx)
   slot:=λb o e n hb hx=>by
    obtain⟨sl,q⟩:=J.base.slot b o (Zn b o e) n hb hx;exact⟨sl,Zau b _ (ltC b o e) q⟩
   free:=λb o e n hx=>J.base.free b o (Zn b o e) n hx
   there:=λb o e hx=>by
    obtain⟨o',q⟩:=J.base.there b o (Zn b o e) hx;exact⟨o',Zau b o' (ltC b o e) q⟩
   tups:=J.base.tups
   N5:=J.base.N5
   P0:=J.base.P0 }
  have hok:uE X.prog X.w H' h':=λb u e=>by
   refine(J.hok b u e).stay (λc v hc q=>Zau c v ?_ q) (λ_ q=>q) λ_ _ q=>q;rintro rfl;rcases hc with rfl | hc
   ·rw[Zeg]at e;cases e
   ·rw[Zeg]at hc;cases hc
  have I5:Inv X pins σ H' { s' with heap:=h' }:=I2.call' (ch:=acc::fp) J.os un hok J.bare λb hb=>by
   obtain⟨g0,g1,g2,g3,g4,g5⟩:=Zir b hb;exact⟨g3,g1,g4,g5⟩
  refine⟨.ref acc,_,adopt (acc:=acc) I5 ?_ (Zau _ _ Zw9 ho) hv hz,rfl,hq acc ha,by rw[aU Zw9.symm];exact Zeg⟩;obtain⟨g0,g1,g2,g3,g4,g5⟩:=Zty;exact⟨ha,g1,g2,g3,g4,g5⟩
 have loop:codeAny (model X.prog X.w) X.A (.compLoop (.ListComp elt [⟨tg,iter,ifs,0⟩] scope pos) 0 (.ref it) (.ref acc) Y.env) (compPost (model X.prog X.w) X.A X.xe use Q0 (.ref acc) h3.objs.size)
   { s2 with heap:=h₁,toks:=s2.toks+([]:List (Str×Value)).length }:=by
  refine Zbj (λn s'=>∃(i:Nat) (v:L2.St) (ys:List V) (its:List Value) (kk:Nat) (H':Hp),v.length=ns.length/\Inv Y [] (v++caps.map (pick σ)) H' s'/\tn i s'.heap/\(∀b∈fp,H' b=none)/\H' acc=none/\Vals ys its/\ys.length<=sizeLine/\
   s'.heap.get? acc=some { cls:=.type "list",data:=.seq its.toArray kk }/\W i n ys H') ?_ m0 ⟨0,List.replicate ns.length none,[],[],0,H2,List.length_replicate,I4,T.keep _ _ _ st2 (λb _ o e=>k34 _ _ (Zn _ _ e)),λb hb=>(f2 b hb).1,Zty.1,.nil,Nat.zero_le _,k34 _ _ Zxa,w0⟩
  rintro n s5 ⟨i,v,ys,its,kk,H5,lv,I5,st5,fr5,ha5,hv5,hz5,ho5,w5⟩;have Zuy:Inv Y [(acc,{ cls:=.type "list",data:=.seq its.toArray kk })] (v++caps.map (pick σ)) H5 s5:=I5.zz λp hp=>by
   have e:p=(acc,{ cls:=.type "list",data:=.seq its.toArray kk }):=by simpa using hp
   subst e;exact⟨ho5,ha5,exC acc List.mem_cons_self,Zc9 acc List.mem_cons_self,λv=>by intro z;cases z⟩
  have fpA:∀{H':Hp},(∀b∈fp,H' b=none)->∀b∈fp,uF Y [(acc,{ cls:=.type "list",data:=.seq its.toArray kk })] H' b:=λhn b hb=>fpY (List.mem_cons_of_mem _ hb) (hn b hb) λp hp=>by
   have e:p=(acc,{ cls:=.type "list",data:=.seq its.toArray kk }):=by simpa using hp
   subst e;exact(Nat.ne_of_lt (fpl b hb)).symm
  rcases turn i n ys H5 w5 with ⟨stop,qn⟩ | ⟨go,hlt,step⟩
  ·refine lU (T.done Y rfl rfl rfl hc i _ s5 _ H5 (λ_ _=>False) Zuy (fpA fr5) st5 stop) λr s6 ⟨hr,I6⟩=>?_;subst hr;obtain⟨m,hm,_⟩:=I6.loc;have ho6:=(I6.pin (acc,{ cls:=.type "list",data:=.seq its.toArray kk }) (List.mem_append_right _ List.mem_cons_self)).1;exact hend acc h3.objs.size s6 m _ hm (λhf=>I2.Zei (by rw[hC,hacc];exact Nat.le_succ _) hf) (fin I6 ha5 hv5 hz5 ho6 qn)
  ·refine lU (T.item Y rfl rfl rfl hc i _ s5 _ H5 (λ_ _=>False) Zuy (fpA fr5) st5 go) λr s6 ⟨u,hr,h6⟩=>?_;subst hr;refine lU h6 λ_ s7 ⟨z,H7,I7,r7,y7,st7,fr7⟩=>?_;have I7':=I7.pinned (fpA fr7) (T.obj _ _ st7);obtain⟨us,lu,hgt,step⟩:=step z H7 y7 v lv;have pg:PG Y tg gt:=hg _ _ _ _ _;refine lU (pg _ s7 _ H7 z u (λσ2 H2'=>σ2=us++caps.map (pick σ)/\H2'=H7) I7' r7 hgt) λ_ s8 ⟨σ8,H8,I8,e8,e8'⟩=>?_;subst e8 e8';refine lU (hf _ _ _ _ _ _ s8 _ H8 _ I8 step) λok s9 ⟨H9,I9,q9⟩=>?_;have stat:∀{H':Hp}{s':Shared}{σ':L2.St},Inv Y ([(acc,{ cls:=.type "list",data:=.seq its.toArray kk })]++Fd fp s7.heap) σ' H' s'->tn (i+1) s'.heap/\(∀b∈fp,H' b=none)/\H' acc=none/\s'.heap.get? acc=some { cls:=.type "list",data:=.seq its.toArray kk }:=λ{H' s' σ'} J=>by
    have pa:=J.pin (acc,{ cls:=.type "list",data:=.seq its.toArray kk }) (List.mem_append_right _ (List.mem_append_left _ List.mem_cons_self));refine⟨T.keep _ _ _ st7 λb hb o e=>(J.pin (b,o) (List.mem_append_right _ (List.mem_append_right _ (vL hb e)))).1,λb hb=>?_,pa.2.1,pa.1⟩;obtain⟨o,e,d⟩:=T.obj _ _ st7 b hb;exact(J.pin (b,o) (List.mem_append_right _ (List.mem_append_right _ (vL hb e)))).2.1
   have Zrd:∀{H':Hp}{s':Shared}{σ':L2.St}{pl:List (Addr×Obj)},Inv Y pl σ' H' s'->Inv Y [] σ' H' s':=λJ=>J.zz λp hp=>nomatch hp;cases ok with
   | false=>
    obtain⟨m',hm,w9⟩:=q9;obtain⟨t1,t2,t3,t4⟩:=stat I9;exact⟨m',hm,i+1,us,ys,its,kk,H9,lu,Zrd I9,t1,t2,t3,hv5,hz5,t4,w9⟩
   | true=>
    show wpAny _ _ (eval elt Y.env) _ _ s9;refine lU (he _ _ _ _ _ _ s9 _ H9 _ I9 q9) λy s10 ⟨yv,H10,I10,r10,m',hm,w10⟩=>?_;obtain⟨t1,t2,t3,t4⟩:=stat I10;have ZFy:Inv Y (Fd fp s7.heap) (us++caps.map (pick σ)) H10 s10:=I10.zz λp hp=>I10.pin p (List.mem_append_right _ (List.mem_append_right _ hp));have fA:uF Y (Fd fp s7.heap) H10 acc:=fpY List.mem_cons_self t3 λp hp=>Nat.ne_of_lt (fpl _ (Vo hp).1);have Ja:=adopt ZFy fA t4 hv5 hz5;refine lU (lz (X:=Y) _ s10 _ _ (.ref acc) [yv] (.ref acc) [y] (λ_ H'=>H'=upd (upd H10 acc (.lst ys)) acc (.lst (ys++[yv]))) Ja rfl (.cons r10 .nil) ⟨acc,ys,yv,rfl,rfl,aq,hlt,rfl⟩) λ_ s11 ⟨_,H11,I11,_,e11⟩=>?_;rw[lO]at e11;subst e11;obtain⟨Zyg,its',kk',Zyi,Zyk⟩:=I11.hok acc _ aq;have Jd:=disown I11 fA;have Zx2:tn (i+1) s11.heap:=T.keep _ _ _ st7 λb hb o e=>(Jd.pin (b,o) (List.mem_append_right _ (vL hb e))).1;exact⟨m',hm,i+1,us,ys++[yv],its',kk',H10,lu,Zrd Jd,Zx2,t2,t3,Zyi,Zyg,Zyk,w10⟩
 exact codeAny_compStart_list loop (T.self X.A 0 _ _ _ (T.keep _ _ _ st2 (λb _ o e=>k34 _ _ (Zn _ _ e))) loop)
theorem Zkv{X:Cx}{elt iter tg:Expr}{pos:Pos}{ifs:List Expr}{scope:Scope}{cl:List (Str×Addr)}{wi:TI}{tc:TT}{te:TE}{cns:List Str}{ns:List Str}{gt:TG}{R:It->L2.St->Hp->VK->Prop}(caps:List Nat)
  (hR:∀J σ H Q,R J σ H Q->∃W:Nat->Nat->List V->Hp->Prop,(∃m,W 0 m [] H)/\∀i m ys H,W i m ys H->
   (J.stop i H/\∀p,H p=none->Q (.ref p) (upd H p (.lst ys)))\/
   (J.go i H/\ys.length<sizeLine/\∀x H',J.Zq i H x H'->∀vs:L2.St,vs.length=ns.length->∃us:L2.St,us.length=ns.length/\gt x (vs++caps.map (pick σ)) H' (λσ2 H2=>σ2=us++caps.map (pick σ)/\H2=H')/\tc (us++caps.map (pick σ)) H' λk H2=>if k=true then te (us++caps.map (pick σ)) H2 (λy H3=>∃m',m'<m/\W (i+1) m' (ys++[y]) H3)else ∃m',m'<m/\W (i+1) m' ys H2))
  (hi:PI X tg iter wi) (hg:∀C s H ex pn,PG (Fw X scope cl (ns++cns) C s H ex pn) tg gt)
  (hf:∀C s H ex pn,PF (Fw X scope cl (ns++cns) C s H ex pn) ifs tc) (he:∀C s H ex pn,PE (Fw X scope cl (ns++cns) C s H ex pn) elt te) (hc:X.calm=true)
  (hclos:closureFor scope X.env=pure cl) (hcl:AllIn X.env.cells cl) (hcap:yF X cns caps)
  (hkind:scope.kind=.function) (hcell:(scope.names.all λp=>p.2 != .cell)=true) (hfree:(scope.names.all λp=>p.2 != .free || (cl.lookup p.1).isSome)=true)
  (hcf:(cns.all λy=>scope.names.lookup y == some .free)=true) (hnames:∀y∈scope.names,y.2=.local->scope.names.lookup y.1=some .local)
  (hs:∀v,foldedSetIterable iter X.env v=pure v):
  PE X (.ListComp elt [⟨tg,iter,ifs,0⟩] scope pos) (λσ H Q=>wi σ H λJ H1=>R J σ H1 Q):=by
 intro pins s σ H Q I h;rw[eval_ListComp];refine X5 caps hR hi hg hf he hc hclos hcl hcap hkind hcell hfree hcf hnames hs I h λacc C s6 m r0 hm fC fin=>⟨m,hm,λh' hs'=>?_⟩;obtain⟨v,Hf,If,rf,qf,_⟩:=fin h' hs';exact⟨v,Hf,If,rf,qf⟩
theorem Zkw{X:Cx}{elt iter:Expr}{x:Str}{px pos:Pos}{ifs:List Expr}{scope:Scope}{cl:List (Str×Addr)}{wi:TI}{tc:TT}{te:TE}{cns:List Str}(caps:List Nat)
  (hi:PI X (.Name x px) iter wi)
  (hf:∀C s H ex pn,PF (Fw X scope cl (x::cns) C s H ex pn) ifs tc) (he:∀C s H ex pn,PE (Fw X scope cl (x::cns) C s H ex pn) elt te) (hc:X.calm=true)
  (hclos:closureFor scope X.env=pure cl) (hcl:AllIn X.env.cells cl) (hcap:yF X cns caps)
  (hkind:scope.kind=.function) (hcell:(scope.names.all λp=>p.2 != .cell)=true) (hfree:(scope.names.all λp=>p.2 != .free || (cl.lookup p.1).isSome)=true)
  (hcf:(cns.all λy=>scope.names.lookup y == some .free)=true) (hnames:∀y∈scope.names,y.2=.local->scope.names.lookup y.1=some .local) (hx:scope.names.lookup x=some .local) (hnd:(x::cns).Nodup)
  (hs:∀v,foldedSetIterable iter X.env v=pure v:=by intro _;rfl):
  PE X (.ListComp elt [⟨.Name x px,iter,ifs,0⟩] scope pos) (tLC wi caps tc te):=by
 refine Zkv (ns:=[x]) (gt:=cX 0) caps (λJ σ H Q h=>?_) hi (λC s H ex pn=>lQ hnd rfl (.inl (lookup_relabel_local hx)) (.inr (lookup_relabel_local hx))) hf he hc hclos hcl hcap hkind hcell hfree hcf hnames hs;obtain⟨W,w0,turn⟩:=h;refine⟨W,w0,λi m ys H hw=>(turn i m ys H hw).imp id λ⟨g,l,st⟩=>⟨g,l,λz H' y vs hv=>?_⟩⟩
 match vs,hv with
 | [v],_=>exact⟨[some z],rfl,⟨rfl,rfl⟩,st z H' y⟩
end G
namespace G
open PySem L2 PySem.Spec PyProof.Rows
theorem Kg{P:Program}{w:World}{H:Hp}{h:Heap}{a:Addr}{o:HO}(x:lV P w H h a o):∃ob,h.get? a=some ob:=by
 induction o with
 | lst xs=>obtain⟨_,_,_,_,e⟩:=x;exact⟨_,e⟩
 | tup xs=>obtain⟨_,_,_,ob,e,_⟩:=x;exact⟨ob,e⟩
 | dK kvs=>obtain⟨_,_,_,_,ob,_,_,e,_⟩:=x;exact⟨ob,e⟩
 | dT kvs=>obtain⟨_,_,_,_,ob,_,_,e,_⟩:=x;exact⟨ob,e⟩
 | set S n=>obtain⟨ob,_,_,_,e,_⟩:=x;exact⟨ob,e⟩
 | ins C dx fs=>obtain⟨_,_,_,e,_⟩:=x;exact⟨_,e⟩
 | own y=>exact x
 | xd fs=>obtain⟨_,⟨ob,_,_,e,_⟩,_⟩:=x;exact⟨ob,e⟩
 | rng lo hi=>obtain⟨_,_,_,e⟩:=x;exact⟨_,e⟩
 | Wc ob u ih=>exact⟨_,x.1⟩
 | xj ps=>exact⟨_,x⟩
 | met f y=>exact⟨_,x⟩
 | ext φ=>obtain⟨_,e,_⟩:=x;exact e
theorem Wr{P:Program}{w:World}{fs:List Addr}{H0 H1:Hp}{h0 h1 h2:Heap}(u:Un fs [] H0 H1 h0 h1)(ok:uE P w H1 h1)(fr:∀b∈fs,H1 b=none)
  (kp:∀b o,h1.get? b=some o->((∃v,h0.get? b=some v)\/∃v,H1 b=some v)->b∉fs->h2.get? b=some o) (sl:∀b o,h1.get? b=some o->b∈fs->∃z,h2.get? b=some { o with slots:=z }):
  Un fs [] H0 H1 h0 h2/\uE P w H1 h2:=by
 refine⟨⟨λb o e n hb hx=>kp b o (u.keep b o e n hb hx) (.inl ⟨o,e⟩) hb,λb o e n hb hx=>?_,u.free,λb o e hx=>?_,u.tups,u.N5,u.P0⟩,λa o e=>?_⟩
 ·obtain⟨z,e1⟩:=u.slot b o e n hb hx;obtain⟨z2,e2⟩:=sl b _ e1 hb;exact⟨z2,e2⟩
 ·obtain⟨o',e1⟩:=u.there b o e hx
  by_cases hb:b∈fs
  ·obtain⟨z,e2⟩:=sl b _ e1 hb;exact⟨_,e2⟩
  ·exact⟨o',kp b o' e1 (.inl ⟨o,e⟩) hb⟩
 ·refine(ok a o e).stay (λb v hb q=>?_) (λ_ q=>q) λ_ _ q=>q;have hs:∃v,H1 b=some v:=by
   rcases hb with z | z
   ·exact⟨o,by rw[z];exact e⟩
   ·exact⟨_,z⟩
  refine kp b v q (.inr hs) λz=>?_;obtain⟨v',e'⟩:=hs;rw[fr b z]at e';cases e'
def DY(P:Program)(w:World):Zm:=λouter H s E e s'=>
 ∃(ea:Addr) (cls a0:Value) (B:Heap) (H':Hp),e=.ref ea/\s'.os=s.os/\AllBare s'.gens/\Un (frs outer) [] H H' s.heap s'.heap/\uE P w H' s'.heap/\Heap.FlyingW B outer ea cls a0 s'.heap/\
  (∀b o,s'.heap.get? b=some o->((∃v,s.heap.get? b=some v)\/∃v,H' b=some v)->b∉frs outer->B.get? b=some o)/\E cls none H'
theorem jZ{P:Program}{w:World}{X:Cx}:Passes (DY P w) X E0:=λ_ _ _ _ _ _ _ h=>by
 obtain⟨_,_,_,_,_,_,_,_,_,_,_,_,z⟩:=h;exact z.elim
section
variable {P:Program}{w:World}{K:aV}{mg:Str->Option Value}{base:Heap}{N:List Str}{qual:Str}{scope:Scope}{f:Addr}{cd:Value}{A:Around}{outer:List Env}{s:Shared}{H:Hp}{E:XK}
theorem Gs:Passes (DY P w) (Cm (DY P w) P w K mg base N qual scope f cd A outer s H E) E:=by
 intro pins σ H1 s1 e s2 I h;obtain⟨ea,cls,a0,B,H2,rfl,os,bare,un,ok,fl,hB,hE⟩:=h;have J:Inv (Cm (DY P w) P w K mg base N qual scope f cd A outer s H E) pins σ H2 s2:=I.call' os un ok bare (λb z=>nomatch z);have L0:∀b o,s.heap.get? b=some o->b≠(envOfC qual scope s.heap.objs.size f cd).locals:=λb o e=>Nat.ne_of_lt (Nat.lt_of_lt_of_le (Heap.lt_size e) I.ok.above);have nin:∀b,((∃v,s.heap.get? b=some v)\/∃v,H2 b=some v)->b∉frs outer->b∉frs (envOfC qual scope s.heap.objs.size f cd::outer):=λb hb hn hm=>by
  rcases List.mem_cons.mp (J.Jf b hm)with z | z
  ·rcases hb with ⟨v,e⟩ | ⟨v,e⟩
   ·exact L0 b v e z
   ·rw[z]at e;have:=J.free;rw[e]at this;cases this
  ·exact hn z
 have was:∀b,((∃v,s.heap.get? b=some v)\/∃v,H2 b=some v)->(∃v,s1.heap.get? b=some v)\/∃v,H2 b=some v:=λb hb=>by
  rcases hb with ⟨v,e⟩ | hb
  ·exact .inl (I.base.there b v e (λz=>nomatch z))
  ·exact .inr hb
 refine wpAny_leaves_onW I.ok.frames rfl fl λh' fl' sm=>?_;have dat:∀b o,s2.heap.get? b=some o->b∈frs outer->∀vs,o.data≠.fields vs:=λb o e hb=>by
  obtain⟨_,o',ho',hd⟩:=J.yw.mem hb;rw[e]at ho';cases ho';exact hd
 have inB:∀b o,s2.heap.get? b=some o->((∃v,s.heap.get? b=some v)\/∃v,H2 b=some v)->b∉frs outer->B.get? b=some o:=λb o e hb hn=>hB b o e (was b hb) (nin b hb hn);have U:=Wr (P:=P) (w:=w) (h2:=h') J.base J.hok (λb hb=>by
   obtain⟨_,o,ho,_⟩:=J.ok.yw.mem hb;exact J.base.free b o ho (J.ok.frf b hb) (λz=>nomatch z)) (λb o e hb hn=>fl'.1 _ _ (inB b o e hb hn)) λb o e hb=>sm b o e (dat b o e hb)
 refine⟨ea,cls,a0,B,H2,rfl,J.os,J.bare,U.1,U.2,fl',λb o e hb hn=>?_,hE⟩;have there:∃v,s2.heap.get? b=some v:=by
  rcases hb with ⟨v,z⟩ | ⟨v,z⟩
  ·exact J.base.there b v z (λz=>nomatch z)
  ·exact Kg (J.hok b v z)
 obtain⟨v,z⟩:=there;have q:=inB b v z hb hn;have:=fl'.1 _ _ q;rw[e]at this;cases this;exact q
theorem Xe{pins:List (Addr×Obj)}{σ:L2.St}{H1:Hp}{s1:Shared}{C e:Addr}{vs:List Value}{h1:Heap}(I:Inv (Cm (DY P w) P w K mg base N qual scope f cd A outer s H E) pins σ H1 s1)
  (hx:Heap.MadeExcOf s1.heap h1 e (.ref C) vs) (hE:E (.ref C) none H1):(Cm (DY P w) P w K mg base N qual scope f cd A outer s H E).xe (.ref e) { s1 with heap:=h1 }:=by
 have L0:∀b o,s.heap.get? b=some o->b≠(envOfC qual scope s.heap.objs.size f cd).locals:=λb o e=>Nat.ne_of_lt (Nat.lt_of_lt_of_le (Heap.lt_size e) I.ok.above);have nin:∀b,((∃v,s.heap.get? b=some v)\/∃v,H1 b=some v)->b∉frs outer->b∉frs (envOfC qual scope s.heap.objs.size f cd::outer):=λb hb hn hm=>by
  rcases List.mem_cons.mp (I.Jf b hm)with z | z
  ·rcases hb with ⟨v,e⟩ | ⟨v,e⟩
   ·exact L0 b v e z
   ·rw[z]at e;have:=I.free;rw[e]at this;cases this
  ·exact hn z
 have fh:s1.heap.FunFrames (W.hideAll s1.heap (frs (envOfC qual scope s.heap.objs.size f cd::outer))) (envOfC qual scope s.heap.objs.size f cd::outer):=
  W.funFrames_hide I.stack λenv he b hb=>List.mem_filterMap.mpr ⟨env,he,hb⟩
 refine wpAny_leaves_madeW (s:={ s1 with heap:=h1 }) I.ok.frames rfl (λb o q=>W.of_hideAll _ q) fh hx λh' t fl _ _ sm=>?_;have inB:∀b o,s1.heap.get? b=some o->((∃v,s.heap.get? b=some v)\/∃v,H1 b=some v)->b∉frs outer->(W.hideAll s1.heap (frs (envOfC qual scope s.heap.objs.size f cd::outer))).get? b=some o:=
  λb o e hb hn=>W.hideAll_get _ e (nin b hb hn)
 have dat:∀b o,s1.heap.get? b=some o->b∈frs outer->∀vs,o.data≠.fields vs:=λb o e hb=>by
  obtain⟨_,o',ho',hd⟩:=I.yw.mem hb;rw[e]at ho';cases ho';exact hd
 have U:=Wr (P:=P) (w:=w) (h2:=h') I.base I.hok (λb hb=>by
   obtain⟨_,o,ho,_⟩:=I.ok.yw.mem hb;exact I.base.free b o ho (I.ok.frf b hb) (λz=>nomatch z)) (λb o e hb hn=>fl.1 _ _ (inB b o e hb hn)) λb o e hb=>sm b o (hx.keeps b o e) (dat b o e hb)
 refine⟨e,.ref C,.ref t,_,H1,rfl,I.os,I.bare,U.1,U.2,fl,λb o q hb hn=>?_,hE⟩;have there:∃v,s1.heap.get? b=some v:=by
  rcases hb with ⟨v,z⟩ | ⟨v,z⟩
  ·exact I.base.there b v z (λz=>nomatch z)
  ·exact Kg (I.hok b v z)
 obtain⟨v,z⟩:=there;have q2:=inB b v z hb hn;have:=fl.1 _ _ q2;rw[q]at this;cases this;exact q2
end
abbrev Znr(K:aV)(C:Addr):Prop:=W.excIn K C [.type "ValueError",.type "Exception",.type "BaseException",.type "object"] "ValueError.__new__"=true
theorem Zqs{K:aV}{h:Heap}{C:Addr}{ms:List Value}{ni:String}(X:K.In h)(q:W.excIn K C ms ni=true):
  ∃tl N nm ql bs hd sn sub ab col dd j0 j1 j2 j3 j5 mN,h.get? C=some (excClassObj nm ql C N bs tl hd sn sub ab col dd j0 j1 j2 j3 j5 ni)/\h.Ns N mN/\mN "__init__"=none/\OwnTail h ms tl:=by
 unfold W.excIn at q;split at q
 ·rename_i dd ZFs slots hob
  split at q
  ·rename_i C2 tl j0 j1 j2 j3 n2 j5 em es
   simp only[Bool.and_eq_true,beq_iff_eq,Bool.not_eq_true']at q;obtain⟨⟨⟨⟨⟨e1,e2⟩,e3⟩,e4⟩,e5⟩,e6⟩:=q;subst e1 e2;obtain⟨c1,c2,c3,c4,c5,c6,c7,c8,c9,c10,c11⟩:=ZFs;dsimp only at em e3 e5 e6;subst em e3;have Zu6:slots=#[j0,j1,j2,j3,some (.builtin n2),j5]:=by
    obtain⟨ls⟩:=slots;simp only at es;rw[es]
   subst Zu6;refine⟨tl,c4,c1,c5,c2,c6,c7,c8,c9,c10,dd,j0,j1,j2,j3,j5,h.nsMap c4,X _ _ hob,?_,W.nsMap_none_of_in X e5 e6,W.tail_of_in X e4⟩;exact .of_isNs (W.isNs_of_in X e5)
  ·cases q
 ·cases q
section
variable {X:Cx}{x:Str}{C:Addr}{np cpos pos:Pos}{e:Expr}{es:List Expr}{ta:TA}{E:XK}
theorem Gp(hc:X.calm=true)(hg:Gl X x)(hm:X.mg x=some (.ref C))(hx:Znr X.K C)(ha:PA X (e::es) ta)
  (hE:∀(pins:List (Addr×Obj)) (σ:L2.St) (H:Hp) (s:Shared) (ea:Addr) (vs:List Value) (h1:Heap),Inv X pins σ H s->Heap.MadeExcOf s.heap h1 ea (.ref C) vs->E (.ref C) none H->X.xe (.ref ea) { s with heap:=h1 })
  (hs:starEach (e::es) X.env=(false,eval e X.env)::starEach es X.env:=by rfl) (hpl:(backTo cpos (starEach es X.env)).any (·.1)=false:=by rfl) (hd:(x == ("__debug__":Str))=false:=by decide):
  PS X (.Raise (some (.Call (.Name x np) (e::es) [] cpos)) none pos) (Jc C E ta):=by
 intro pins s σ H D I h;obtain⟨tl,N,nm,ql,bs,hdd,sn,sub,ab,col,dd,j0,j1,j2,j3,j5,mN,hC,hN,hni,T⟩:=Zqs I.ok.mod.kin hx;refine wpAny_Raise_call_subT (C:=C) (nm:=nm) (q:=ql) (N:=N) (bs:=bs) (bm:=tl) (hdct:=hdd) (sn:=sn) (sub:=sub) (ab:=ab) (col:=col) (dd:=dd) (k0:=j0) (k1:=j1) (k2:=j2) (k3:=j3) (k5:=j5) PySem.F.excBase_ValueError (mN:=mN)
  (T.hasType PySem.F.excBase_ValueError.hasBase) (I.ok.hd hc) ?_ hni (jT I hg hm ⟨rfl,?_⟩ hd)
 ·rw[hs];show(false || (backTo cpos (starEach es X.env)).any (·.1))=false;rw[hpl];rfl
 ·have q:=ha cpos pins s σ H _ I h;rw[hs]at q ⊢;refine Calls.evalArgs_plain (lU q λus s1 ⟨vs,H1,I1,r,l1,hE1⟩=>⟨rfl,?_,I1.bk _ _ hC,hN.keeps I1.bk,T.keeps I1.bk,λh1 ea hmade=>hE pins σ H1 s1 ea _ h1 I1 hmade hE1⟩);rw[<- r.length];exact Nat.le_trans l1 (by decide)
end
end G
namespace G
open PySem L2 PySem.Spec PyProof.Rows
def Zgs(CX:Zm)(X:Cx)(E:L2.St->XK):Prop:=∀(pins:List (Addr×Obj)) (σ:L2.St) (H:Hp) (s:Shared) (e:Value) (s':Shared),Inv X pins σ H s->CX X.stack H s (E σ) e s'->X.xe e s'
section
variable {X:Cx}{CX:Zm}{k:Nat}{f C:Addr}{fd:FuncData}{ps:List Str}{sp:Sp}{wg:List V}{ds:List Value}{E:L2.St->XK}{x m:Str}{p pos apos:Pos}{e o:Expr}{es:List Expr}{ta:TE}{t:TA}
theorem Zod{pins:List (Addr×Obj)}{σ:L2.St}{H:Hp}{s:Shared}{Q:VK}{us:List Value}{vs:List V}(F:uV X.prog X.w X.K X.mg X.base CX k f fd ps sp)(hr:Room k X.A)(hb:Binds X.K fd ps ds)(hd:Vals wg ds)(hx:Zgs CX X E)
  (I:Inv X pins σ H s) (r:Vals vs us) (h:sp (vs++wg) H Q (E σ)):wpAny (model X.prog X.w) X.A (call (.ref f) us) (EP X pins σ Q) X.xe s:=by
 have r2:Vals (vs++wg) (us++ds):=r.append hd;have hl:(us++ds).length=ps.length:=by rw[<- r2.length];exact F.len _ _ _ _ h
 refine wpAny_call (codeAny_mono (F.run X.A X.stack s H ⟨us,[]⟩ (us++ds) (vs++wg) Q (E σ) hr I.env0 (hb s us I.uY hl) r2 h) λr s' hq=>?_);cases r with
 | error e=>exact hx pins σ H s e s' I hq
 | ok fl=>
  cases fl with
  | ret u=>exact I.after hq
  | next=>exact False.elim hq
  | brk=>exact False.elim hq
  | cont=>exact False.elim hq
theorem Zl0(F:uV X.prog X.w X.K X.mg X.base CX k f fd ps sp)(hr:Room k X.A)(hg:Gl X x)(hm:X.mg x=some (.ref f))(hk:W.keepIn X.K (.ref f)=true)(hb:Binds X.K fd ps ds)(hd:Vals wg ds)(hx:Zgs CX X E)
  (ha:PA X (e::es) t) (hdb:(x == ("__debug__":Str))=false:=by decide) (he:starEach (e::es) X.env=(false,eval e X.env)::starEach es X.env:=by rfl) (hpl:(backTo pos (starEach es X.env)).any (·.1)=false:=by rfl):
  PE X (.Call (.Name x p) (e::es) [] pos) (Zc5 sp wg E t):=by
 intro pins s σ H Q I h;refine wpAny_Call_Name_kw (jT I hg hm ?_ hdb);refine W.callWith_K (h₀:=X.base) I.ok.mod.kin hk (lU (ha pos pins s σ H _ I h) λus s1 ⟨vs,H1,I1,r,q⟩=>⟨I1.uY,?_⟩) he hpl;exact Zod F hr hb hd hx I1 r q
end
abbrev cxB(X:Cx)(pn:List (Addr×Obj))(xe:Value->Shared->Prop):Cx:={ X with pn:=pn,xe:=xe }
abbrev O1(X:Cx)(ea:Value)(pn:List (Addr×Obj)):Cx:={ X with A:=X.A.mark (some ea),calm:=false,pn:=pn,xe:=λ_ _=>False }
section
variable {X:Cx}{pins:List (Addr×Obj)}{σ:L2.St}{H:Hp}{s:Shared}
theorem Zsb(ok:X.Ok)(pn:List (Addr×Obj))(xe:Value->Shared->Prop):(cxB X pn xe).Ok:=
 ⟨ok.mod,ok.kind,ok.glob,ok.blt,ok.above,ok.inj,ok.has,ok.cab,ok.hd,ok.frames,ok.stk,ok.exf,ok.bs,ok.bsz,ok.Zab,ok.Zeu,ok.yw,ok.frf⟩
theorem Zsa(ok:X.Ok)(ea:Value)(pn:List (Addr×Obj)):(O1 X ea pn).Ok:=
 ⟨ok.mod,ok.kind,ok.glob,ok.blt,ok.above,ok.inj,ok.has,ok.cab,λz=>(nomatch z),ok.frames,ok.stk,ok.exf,ok.bs,ok.bsz,ok.Zab,ok.Zeu,ok.yw,ok.frf⟩
theorem Zrm(I:Inv X pins σ H s)(xe:Value->Shared->Prop):Inv (cxB X (X.pn++pins) xe) [] σ H s:=
 ⟨Zsb I.ok _ _,I.os,I.bare,I.base,I.loc,I.cell,I.free,I.vO,λp hp=>I.pin p (by simpa using hp),I.hok,I.len⟩
theorem QS{xe:Value->Shared->Prop}{pl:List (Addr×Obj)}(ok:X.Ok)(I:Inv (cxB X (X.pn++pins) xe) pl σ H s):Inv X pins σ H s:=
 ⟨ok,I.os,I.bare,I.base,I.loc,I.cell,I.free,I.vO,λp hp=>I.pin p (List.mem_append_left _ hp),I.hok,I.len⟩
theorem qe(I:Inv X pins σ H s)(ea:Value):Inv (O1 X ea (X.pn++pins)) [] σ H s:=
 ⟨Zsa I.ok _ _,I.os,I.bare,I.base,I.loc,I.cell,I.free,I.vO,λp hp=>I.pin p (by simpa using hp),I.hok,I.len⟩
theorem XC{ea:Value}{pl:List (Addr×Obj)}(ok:X.Ok)(I:Inv (O1 X ea (X.pn++pins)) pl σ H s):Inv X pins σ H s:=
 ⟨ok,I.os,I.bare,I.base,I.loc,I.cell,I.free,I.vO,λp hp=>I.pin p (List.mem_append_left _ hp),I.hok,I.len⟩
theorem Zrp{xe:Value->Shared->Prop}{D:Ends}{f:Flow}(ok:X.Ok)(h:SP (cxB X (X.pn++pins) xe) [] D f s):SP X pins D f s:=by
 cases f with
 | next=>obtain⟨σ',H',I,q⟩:=h;exact⟨σ',H',QS ok I,q⟩
 | brk=>obtain⟨σ',H',I,q⟩:=h;exact⟨σ',H',QS ok I,q⟩
 | cont=>obtain⟨σ',H',I,q⟩:=h;exact⟨σ',H',QS ok I,q⟩
 | ret u=>obtain⟨v,σ',H',I,r,q⟩:=h;exact⟨v,σ',H',QS ok I,r,q⟩
theorem Wz{ea:Value}{D:Ends}{f:Flow}(ok:X.Ok)(h:SP (O1 X ea (X.pn++pins)) [] D f s):SP X pins D f s:=by
 cases f with
 | next=>obtain⟨σ',H',I,q⟩:=h;exact⟨σ',H',XC ok I,q⟩
 | brk=>obtain⟨σ',H',I,q⟩:=h;exact⟨σ',H',XC ok I,q⟩
 | cont=>obtain⟨σ',H',I,q⟩:=h;exact⟨σ',H',XC ok I,q⟩
 | ret u=>obtain⟨v,σ',H',I,r,q⟩:=h;exact⟨v,σ',H',XC ok I,r,q⟩
theorem flown{ea:Addr}{cls a0:Value}{B:Heap}{H2:Hp}{s2:Shared}{h3:Heap}(I:Inv X pins σ H s)(os:s2.os=s.os)(bare:AllBare s2.gens)(un:Un (frs X.stack) [] H H2 s.heap s2.heap)(ok:uE X.prog X.w H2 s2.heap)
  (fl:Heap.FlyingW B X.stack ea cls a0 s2.heap) (hB:∀b o,s2.heap.get? b=some o->((∃v,s.heap.get? b=some v)\/∃v,H2 b=some v)->b∉frs X.stack->B.get? b=some o)
  (st:B.StaysIn h3) (sm:s2.heap.UpToSlots h3):Inv X pins σ H2 { s2 with heap:=h3 }:=by
 have fr:∀b∈frs X.stack,H2 b=none:=λb hb=>by
  obtain⟨_,o,ho,_⟩:=I.stack.mem hb;exact un.free b o ho (I.Ww b hb) (λz=>nomatch z)
 have U:=Wr (P:=X.prog) (w:=X.w) (h2:=h3) un ok fr (λb o e hb hn=>st _ _ (hB b o e hb hn)) λb o e hb=>by
  obtain⟨_,o',ho',hd⟩:=fl.2.2.1.mem hb;rw[e]at ho';cases ho';exact sm b o e hd
 exact I.call' (s':={ s2 with heap:=h3 }) (ch:=[]) os U.1 U.2 bare (λb z=>nomatch z)
end
section
variable {X:Cx}{x:Str}{C:Addr}{np pos hpos:Pos}{body suite:List Stmt}{b₀:Stmt}{Mt:Value->Prop}{tb:(L2.St->XK)->TS}{th:TS}
end
end G
namespace G
open PySem L2 PySem.Spec PyProof.Rows
section
variable {P:Program}{w:World}{K:aV}{mg:Str->Option Value}{base:Heap}{x qual:Str}{st:Stmt}{f:Addr}{fd:FuncData}{N ps:List Str}{k:Nat}{sp:Sp}
theorem fok(F:m6 K x qual st f fd)(S:dz N ps (bI st))(len:∀vs H Q E,sp vs H Q E->vs.length=ps.length)
  (hbody:∀(cdv:Value) (A:Around) (outer:List Env) (s:Shared) (H:Hp) (vs:List V) (Q:VK) (E:XK),Room k (A.deeper (envOfC qual (bI st) s.heap.objs.size f cdv))->sp vs H Q E->
   ∃t,R1 (Cm (DY P w) P w K mg base N qual (bI st) f cdv A outer s H E).nox (jU st) t/\t { nx:=λ_ H'=>Q .non H',rt:=Q } (start N vs) H):uV P w K mg base (DY P w) (k+1) f fd ps sp:=by
 obtain⟨oc,od,kV,doc,pm,an,cdv,ct,osl,rfl,lk,hcd⟩:=F.ex;refine Zg7 lk hcd S len λA outer s H vs Q E hr hsp=>?_;obtain⟨t,h,q⟩:=hbody cdv A outer s H vs Q E hr hsp;exact⟨t,h.nox,q⟩
theorem ZFl(F:m6 K x qual st f fd)(S:dz N ps (bI st))(len:∀vs H Q E,sp vs H Q E->vs.length=ps.length)
  (hbody:∀(cdv:Value) (A:Around) (outer:List Env) (s:Shared) (H:Hp) (vs:List V) (Q:VK) (E:XK),Room k (A.deeper (envOfC qual (bI st) s.heap.objs.size f cdv))->sp vs H Q E->
   ∃t,R1 (Cm (DY P w) P w K mg base N qual (bI st) f cdv A outer s H E) (jU st) t/\t { nx:=λ_ H'=>Q .non H',rt:=Q } (start N vs) H):uV P w K mg base (DY P w) (k+1) f fd ps sp:=by
 obtain⟨oc,od,kV,doc,pm,an,cdv,ct,osl,rfl,lk,hcd⟩:=F.ex;exact Zg7 lk hcd S len λA outer s H vs Q E hr hsp=>hbody cdv A outer s H vs Q E hr hsp
theorem ZFn(F:Znq K x qual st f fd)(S:dz N ps (bI st))(len:∀vs H Q E,sp vs H Q E->vs.length=ps.length)
  (hbody:∀(cdv:Value) (A:Around) (outer:List Env) (s:Shared) (H:Hp) (vs:List V) (Q:VK) (E:XK),Room k (A.deeper (envOfC qual (bI st) s.heap.objs.size f cdv))->sp vs H Q E->
   ∃t,R1 (Cm (DY P w) P w K mg base N qual (bI st) f cdv A outer s H E).nox (jU st) t/\t { nx:=λ_ H'=>Q .non H',rt:=Q } (start N vs) H):uV P w K mg base (DY P w) (k+1) f fd ps sp:=by
 obtain⟨oc,od,dV,kV,doc,pm,an,cdv,ct,osl,rfl,lk,hcd⟩:=F.ex;refine Zg7 lk hcd S len λA outer s H vs Q E hr hsp=>?_;obtain⟨t,h,q⟩:=hbody cdv A outer s H vs Q E hr hsp;exact⟨t,h.nox,q⟩
theorem Zwc(F:Znq K x qual st f fd)(S:dz N ps (bI st))(len:∀vs H Q E,sp vs H Q E->vs.length=ps.length)
  (hbody:∀(cdv:Value) (A:Around) (outer:List Env) (s:Shared) (H:Hp) (vs:List V) (Q:VK) (E:XK),Room k (A.deeper (envOfC qual (bI st) s.heap.objs.size f cdv))->sp vs H Q E->
   ∃t,R1 (Cm (DY P w) P w K mg base N qual (bI st) f cdv A outer s H E) (jU st) t/\t { nx:=λ_ H'=>Q .non H',rt:=Q } (start N vs) H):uV P w K mg base (DY P w) (k+1) f fd ps sp:=by
 obtain⟨oc,od,dV,kV,doc,pm,an,cdv,ct,osl,rfl,lk,hcd⟩:=F.ex;exact Zg7 lk hcd S len λA outer s H vs Q E hr hsp=>hbody cdv A outer s H vs Q E hr hsp
end
end G
namespace G
open PySem L2 PySem.Spec PyProof.Rows
structure ZG7(K:aV)(C:Addr):Prop where
 ga:W.findIn K (.ref C) "__getattribute__"=some (some (.builtin "BaseException.__getattribute__"))
 no:W.findIn K (.ref C) "__getattr__"=some none
 cl:W.findIn K (.ref C) "__class__"=some (some (.builtin "object.__class__"))
 so:W.mroIn K C (.type "object")=some true
 sb:W.mroIn K C (.type "BaseException")=some true
 is:W.hasDictIn K C=true
section
variable {prog:Program}{w:World}{A:Around}{E:Value->Shared->Prop}{h:Heap}{g:Array GenState}{d:Drawn}{t:Nat}{os:OsState}{a:Addr}{o:Obj}{C:Addr}{K:aV}
end
section
variable {X:Cx}
theorem sU:DX X (.type "list") (Cr X.K):=by
 intro pins s σ H xs us Q I r h;obtain⟨p,ys,rfl,hs,q⟩:=h;exact YZ pins s σ H [.ref p] us Q I r ⟨p,ys,rfl,.inl hs,q⟩
theorem Zis{xs ys:List V}{us ws:List Value}(rx:Vals xs us)(ry:Vals ys ws)(fx:xs.all nM=true)(fy:ys.all nM=true)(hl:xs.length=ys.length):
  (∀(A:Around) (s:Shared) (j:Nat) (h1:j<us.toArray.size) (h2:j<ws.toArray.size),SeqAt.EqAt A s us.toArray[j] ws.toArray[j] (match xs[j]?,ys[j]? with | some a,some b=>eqV a b | _,_=>false))/\
  (List.range us.toArray.size).all (λj=>match xs[j]?,ys[j]? with | some a,some b=>eqV a b | _,_=>false)=eqL xs ys:=by
 refine⟨λA s j h1 h2=>?_,?_⟩
 ·rw[List.size_toArray]at h1 h2;have l1:=rx.length;have l2:=ry.length;have a1:xs[j]? =some xs[j]:=eV (by omega);have a2:ys[j]? =some ys[j]:=eV (by omega);obtain⟨u,e1,r1⟩:=rx.get a1;obtain⟨w',e2,r2⟩:=ry.get a2;rw[eV h1]at e1;rw[eV h2]at e2;cases e1;cases e2;rw[a1,a2];exact YW r1 r2 (List.all_eq_true.mp fx _ (List.getElem_mem (by omega))) (List.all_eq_true.mp fy _ (List.getElem_mem (by omega)))
 ·rw[List.size_toArray,<- rx.length];unfold eqL;rw[beq_iff_eq.mpr hl,Bool.true_and,Bool.eq_iff_iff,List.all_eq_true,List.all_eq_true];constructor
  ·intro h p hp;obtain⟨j,hj,e⟩:=List.getElem_of_mem hp;rw[List.length_zip]at hj;have:=h j (List.mem_range.mpr (by omega));rw[eV (show j<xs.length by omega),eV (show j<ys.length by omega)]at this;rw[List.getElem_zip]at e;rw[<- e];exact this
  ·intro h j hj;have hj:=List.mem_range.mp hj;rw[eV (show j<xs.length by omega),eV (show j<ys.length by omega)];have hz:j<(xs.zip ys).length:=by rw[List.length_zip];omega
   have:=h _ (List.getElem_mem hz);rw[List.getElem_zip]at this;exact this
theorem Zqv{xs ys:List V}(h:xs.length≠ys.length):eqL xs ys=false:=by
 unfold eqL;rw[show(xs.length == ys.length)=false by simpa using h,Bool.false_and]
end
end G
namespace G
open PySem L2 PySem.Spec PyProof.Rows
theorem Zlb:fastBuiltinMro "NoneType"=some [.type "NoneType",.type "object"]:=by decide +kernel
section
variable {K:aV}{A:Around}{a C:Addr}{o:Obj}
theorem Zu7{M:Model}{E:Value->Shared->Prop}{s:Shared}{Q:Unit->Shared->Prop}(LI:W.Looks M s.heap (isInstance (.ref a) (.type "object")) true)(hq:Q () s):wpAny M A (checkBuiltinCall "object.__eq__" ⟨[.ref a,.none],[]⟩) Q E s:=by
 have ha:=PySem.F.cmpArgs_eq (.ref a) .none;simp only[checkBuiltinCall,PySem.F.cmpKind_eq,PySem.F.cmpSplit_eq];refine wpAny_bind (LI.here ?_);simp only[Bool.not_true,Bool.false_eq_true,if_false];cases hsig:Manifest.signature? "object.__eq__" with
 | none=>exact wpAny_pure hq
 | some sig=>
  simp only[argsOk,hsig]at ha;have h2:Bind.checkArgs "object.__eq__" sig ⟨[.ref a,.none],[]⟩=pure ():=ha;show wpAny M A (Bind.checkArgs "object.__eq__" sig ⟨[.ref a,.none],[]⟩) Q E _;rw[h2];exact wpAny_pure hq
theorem Zqu{prog:Program}{w:World}{E:Value->Shared->Prop}{s:Shared}{Q:Value->Shared->Prop}(LI:W.Looks (model prog w) s.heap (isInstance (.ref a) (.type "object")) true)(hq:Q .notImplemented s):
  wpAny (model prog w) A (call (.builtin "object.__eq__") [.ref a,.none]) Q E s:=by
 refine wpAny_call (codeAny_call_builtin PySem.F.cmp_object.eq.plain PySem.F.cmpEntry_eq (Zu7 LI ?_));obtain⟨h,g,d,t,os⟩:=s;unfold Builtin.«object.__eq__»
 repeat (first | with_reducible refine wpAny_bind (m:=isSame (.ref a) .none) (wpAny_pure ?_) | wp_step)
 exact hq
theorem Zrl{prog:Program}{w:World}{E:Value->Shared->Prop}{s:Shared}{Q:Option Value->Shared->Prop}(X:K.In s.heap)(hx:s.heap.get? a=some o)(hc:o.cls=.ref C)(hE:EqD K C)(hq:Q none s):
  wpAny (model prog w) A (tryCompare (.ref a) "__eq__" .none) Q E s:=by
 have LT:W.Looks (model prog w) s.heap (typeOf (.ref a)) (.ref C):=hc ▸ (W.Looks.ld hx).andThen .now;have LI:W.Looks (model prog w) s.heap (isInstance (.ref a) (.type "object")) true:=LT.andThen (W.looks_mroIn X hE.ob);have LS:W.Looks (model prog w) s.heap (specialOf (.ref a) "__eq__") (some (.builtin "object.__eq__")):=LT.andThen (W.looks_findIn X hE.eq);simp only[tryCompare];refine wpAny_bind ?_;simp only[callSpecialIfBound?,bindSpecialIfBound?];refine wpAny_holding (wpAny_bind (wpAny_bind (LS.here ?_)));simp only[PySem.F.cmp_object.eq.bind];have fin:wpAny (model prog w) A (call (.builtin "object.__eq__") ([.ref a]++[.none]) >>= λv=>pure (some v)) (λr s'=>wpAny (model prog w) A (match r with | some .notImplemented | none=>pure none | some v=>pure (some v)) Q E s') E s:=
  wpAny_bind (Zqu LI (wpAny_pure (wpAny_pure hq)))
 refine wpAny_bind (wpAny_askSetting (wpAny_ite ?_));split
 ·exact wpAny_bind (wpAny_pure (wpAny_pure fin))
 ·exact wpAny_tryCatch (wpAny_bind (wpAny_pure (wpAny_pure fin)))
theorem Zoh{s:Shared}(X:K.In s.heap)(hx:s.heap.get? a=some o)(hc:o.cls=.ref C)(hE:EqD K C)(hu:A.units<cLine):SeqAt.RcAt A s (.ref a) .none false:=λprog w E Q h=>by
 have LT:W.Looks (model prog w) s.heap (typeOf (.ref a)) (.ref C):=hc ▸ (W.Looks.ld hx).andThen .now;have hi:cmpInfo CmpOp.Eq=("==",("__eq__":Str),("__eq__":Str)):=rfl;have ho:oneThing? .Eq (.ref a) .none=none:=rfl;simp only[richCompare,hi,ho]
 try with_reducible refine wpAny_holding ?_
 refine wpAny_bind (wpAny_cRoomFor_or (.inr hu) ?_);refine wpAny_bind (LT.here (wpAny_bind (m:=typeOf .none) (wpAny_pure ?_)));have hne:(Value.ref C != Value.type "NoneType")=true:=by simp
 simp only[hne,if_true];have hs:isSubtype (.type "NoneType") (.ref C)=pure false:=by
  rw[isSubtype_type,Zlb];rfl
 refine wpAny_bind (wpAny_of_eq hs ?_);simp only[Bool.false_eq_true,if_false,Bool.not_false,if_true];refine wpAny_bind (m:=tryCompare (.ref a) _ .none) (Zrl X hx hc hE ?_);refine wpAny_bind (m:=tryCompare .none _ (.ref a)) (wpAny_tryCompare_declines (T:="NoneType") rfl PySem.F.slot_NoneType_eq_refl (call_gives PySem.F.slot_NoneType_eq_refl rfl PySem.F.entry_NoneType_eq (PySem.F.args_NoneType_eq_2 _ _) (SeqAt.NoneType___eq___none_ref_0 a) ⟨rfl,?_⟩));exact wpAny_bind (wpAny_rule (wpAny_bind (wpAny_of_eq (rfl:isSame (.ref a) .none=pure false) (wpAny_pure h))))
theorem Zqt{s:Shared}(X:K.In s.heap)(hx:s.heap.get? a=some o)(hc:o.cls=.ref C)(hE:EqD K C)(hu:A.units<cLine):SeqAt.EqAt A s (.ref a) .none false:=λprog w E Q h=>by
 unfold eqBool;refine wpAny_holding ?_;refine wpAny_ite_split (λhab=>absurd (eq_of_beq hab) nofun) (λ_=>?_);exact wpAny_bind (Zoh X hx hc hE hu prog w E _ (wpAny_truthy_bool h))
end
section
variable {X:Cx}
def Bw(u:Value):Bool:=match u with
 | .none=>true
 | _=>false
theorem Zaa{H:Hp}{y:V}{u:Value}(r:RelV y u)(h:y=.non\/∃a C dx fs,y=.ref a/\H a=some (.ins C dx fs)/\Ds X.K C/\EqD X.K C):Bw u=decide (y=.non):=by
 rcases h with rfl | ⟨a,_,_,_,rfl,_⟩
 ·obtain rfl:u=Value.none:=r;rfl
 ·obtain rfl:u=Value.ref a:=r;rfl
theorem Zlc{pins:List (Addr×Obj)}{σ:L2.St}{H:Hp}{s:Shared}{A:Around}{y:V}{u:Value}(I:Inv X pins σ H s)(hu:A.units<cLine)(r:RelV y u)(h:y=.non\/∃a C dx fs,y=.ref a/\H a=some (.ins C dx fs)/\Ds X.K C/\EqD X.K C):SeqAt.EqAt A s u .none (Bw u):=by
 rcases h with rfl | ⟨a,C,dx,fs,rfl,ha,hc,he⟩
 ·obtain rfl:u=Value.none:=r;exact SeqAt.EqAt.same .none
 ·obtain rfl:u=Value.ref a:=r;obtain⟨_,_,_,e,_⟩:=(show lV X.prog X.w H s.heap a (.ins C dx fs)from I.hok a _ ha);exact Zqt I.uY e rfl he hu
theorem Za9{H:Hp}:∀{xs:List V}{us:List Value},Vals xs us->OkN X.K H xs->us.any Bw=decide (V.non∈xs)
 | _,_,.nil,_=>rfl
 | y::xs,u::us,.cons r t,h=>by
  rw[List.any_cons,Za9 t λz hz=>h z (List.mem_cons_of_mem _ hz),Zaa r (h y List.mem_cons_self),Bool.eq_iff_iff];simp only[Bool.or_eq_true,decide_eq_true_eq,List.mem_cons];constructor
  ·rintro(z | z)
   ·exact .inl z.symm
   ·exact .inr z
  ·rintro(z | z)
   ·exact .inl z.symm
   ·exact .inr z
theorem Za7{H:Hp}{pins:List (Addr×Obj)}{σ:L2.St}{s:Shared}{A:Around}{xs:List V}{us:List Value}(I:Inv X pins σ H s)(hu:A.units<cLine)(r:Vals xs us)(h:OkN X.K H xs):∀u∈us,SeqAt.EqAt A s u .none (Bw u):=by
 intro u hm;obtain⟨i,hi,rfl⟩:=List.getElem_of_mem hm;have hl:=r.length;have hx:xs[i]? =some xs[i]:=eV (by omega);obtain⟨u',e,ru⟩:=r.get hx;rw[eV hi]at e;cases e;exact Zlc I hu ru (h _ (List.getElem_mem (by omega)))
theorem Zhg(hu:X.A.units+1<cLine):Ad X (compareOp .NotIn) (Zry X.K true):=by
 intro pins s σ H x y v u Q I rx ry h;obtain⟨p,xs,rfl,rfl,hs,hk,q⟩:=h;obtain rfl:v=Value.none:=rx;cases ry;obtain⟨us,r,pl,_⟩:=I.list hs;refine SeqAt.notIn_listAt Bw pl.isList (λw hw=>Za7 I (by show X.A.units+1<cLine;exact hu) r hk w (by simpa using hw)) ⟨.bl _,H,I,rfl,?_⟩;rw[show us.toArray.any Bw=us.any Bw by simp,Za9 r hk];exact q
theorem Za8{H:Hp}{xs:List V}{us:List Value}(r:Vals xs us)(h:OkN X.K H xs)(j:Nat)(hj:j<us.length)(hj':j<xs.length):Bw us[j]=decide (xs[j]=V.non):=by
 obtain⟨u',e,ru⟩:=r.get (eV hj');rw[eV hj]at e;cases e;exact Zaa ru (h _ (List.getElem_mem hj'))
theorem Zhk(hu:X.A.units+1<cLine):MtR X "list.index" (Zfn X.K):=by
 intro pins s σ H x xs v us Q I rx rs h;obtain⟨p,ys,rfl,rfl,hs,hk,hn,q⟩:=h;obtain rfl:v=Value.ref p:=rx;obtain⟨u,rfl,ru⟩:=Vals.one rs;obtain rfl:u=Value.none:=ru;obtain⟨ws,r,pl,hz⟩:=I.list hs;obtain⟨⟨cls,dd,data,sl⟩,ho,hc,n,hd⟩:=pl.isList;simp only at hc hd;subst hc hd;have hl:=r.length;have hj:ys.idxOf V.non<ys.length:=List.idxOf_lt_length_iff.mpr hn;have hz2:ys.length<2 ^ 62:=Nat.lt_of_le_of_lt hz (by decide);refine call_meets PySem.F.slot_list_index ⟨_,ho,rfl⟩ PySem.F.entry_list_index (PySem.F.args_list_index_2 _ _)
  (SeqAt.list_indexAt p ws.toArray n dd sl .none Bw (ys.idxOf V.non) (by simpa[hl]using hj) (by omega) ?_ ?_) ⟨ho,λy hy=>Za7 I (by show X.A.units+1<cLine;exact hu) r hk y (by simpa using hy),⟨.int _,H,I.tok _,⟨_,rfl⟩,q⟩⟩
 ·show Bw ws[ys.idxOf V.non]=true;rw[Za8 r hk _ (by omega) hj,decide_eq_true_eq];exact List.getElem_idxOf hj
 ·intro j hjs hlt;show Bw ws[j]=false;rw[Za8 r hk j (by simpa using hjs) (by omega),decide_eq_false_iff_not];intro e;have:=List.not_of_lt_findIdx (p:=(· == V.non)) (xs:=ys) hlt;simp[e]at this
theorem Zde(hu:X.A.units+1<cLine):Ad X (compareOp .NotEq) (Zkc X.K true):=by
 intro pins s σ H x y v u Q I rx ry h;obtain⟨p,q',xs,ys,rfl,rfl,hx,hy,ff,q⟩:=h;cases rx;cases ry;obtain⟨us,r1,pl1,_⟩:=I.list hx;obtain⟨ws,r2,Xj,_⟩:=I.list hy;have hu':X.A.units<cLine:=by omega
 by_cases hl:xs.length=ys.length
 ·obtain⟨e1,e2⟩:=Zis r1 r2 (ff hl).1 (ff hl).2 hl;refine SeqAt.RcNeAt.lists pl1.isList Xj.isList (by rw[List.size_toArray,List.size_toArray,<- r1.length,<- r2.length];exact hl) hu' (λj h1 h2=>e1 _ _ j h1 h2) X.prog X.w X.xe _ ?_;rw[e2];exact⟨.bl _,H,I,rfl,q⟩
 ·refine SeqAt.RcNeAt.lists_lengths pl1.isList Xj.isList ?_ hu' X.prog X.w X.xe _ ?_
  ·rw[List.size_toArray,List.size_toArray,<- r1.length,<- r2.length];simpa using hl
  ·refine⟨.bl _,H,I,rfl,?_⟩;have:=q;rw[Zqv hl]at this;exact this
end
end G
namespace G
open PySem L2
def Qc(C:Addr):TE:=λ_ H Q=>∀x dx,H x=none->H dx=none->dx≠x->Q (.ref x) (upd (upd H dx (.own x)) x (.ins C dx []))
theorem Zq0{C:Addr}{σ:St}{H:Hp}{Q:VK}(h:∀x dx,H x=none->H dx=none->dx≠x->Q (.ref x) (upd (upd H dx (.own x)) x (.ins C dx []))):Qc C σ H Q:=h
def Zjm(t u:TE):TE:=λσ H Q=>t σ H Q\/u σ H Q
theorem Zre{t u:TE}{σ:St}{H:Hp}{Q:VK}(h:t σ H Q):Zjm t u σ H Q:=.inl h
theorem Zmg{t u:TE}{σ:St}{H:Hp}{Q:VK}(h:u σ H Q):Zjm t u σ H Q:=.inr h
end G
namespace G
open PySem L2 PySem.Spec PyProof.Rows
section
variable {X:Cx}
theorem Zfr{e:Expr}{t u:TE}(h1:PE X e t)(h2:PE X e u):PE X e (Zjm t u):=by
 intro pins s σ H Q I h;rcases h with h | h
 ·exact h1 pins s σ H Q I h
 ·exact h2 pins s σ H Q I h
structure Mk0(K:aV)(C:Addr):Prop where
 makes:W.makesIn K C=true
 init:W.findIn K (.ref C) "__init__"=some (some (.builtin "object.__init__"))
 kp:W.keepIn K (.ref C)=true
theorem Zd1{C:Addr}{pins:List (Addr×Obj)}{σ:L2.St}{H:Hp}{s:Shared}{Q:VK}(M:Mk0 X.K C)(I:Inv X pins σ H s)
  (h:∀x dx,H x=none->H dx=none->dx≠x->Q (.ref x) (upd (upd H dx (.own x)) x (.ins C dx []))):wpAny (model X.prog X.w) X.A (call (.ref C) []) (EP X pins σ Q) X.xe s:=by
 have hq:=h (s.heap.objs.size+1) s.heap.objs.size (I.hok.fresh (Nat.le_succ _)) (I.hok.fresh (Nat.le_refl _)) (Nat.ne_of_lt (Nat.lt_succ_self _));have I2:=Inv.made (C:=C) I;have Y:=W.makes_of (M:=model X.prog X.w) I.uY M.makes;refine wpAny_call (Zhl I.uY M.makes M.init (λself=>W.Looks.of_pure (W.oi_bind self)) ?_);have e2:((s.heap.push W.emptyDict).push (W.instObj C s.heap.objs.size)).get? (s.heap.objs.size+1)=some (W.instObj C s.heap.objs.size):=by
  have:=Heap.get?_push_size (s.heap.push W.emptyDict) (o:=W.instObj C s.heap.objs.size) rfl;rw[Heap.size_push]at this;exact this
 have t1:W.Looks (model X.prog X.w) ((s.heap.push W.emptyDict).push (W.instObj C s.heap.objs.size)) (typeOf (.ref (s.heap.objs.size+1))) (.ref C):=(W.Looks.ld e2).andThen .now;have t2:W.Looks (model X.prog X.w) ((s.heap.push W.emptyDict).push (W.instObj C s.heap.objs.size)) (isInstance (.ref (s.heap.objs.size+1)) (.type "object")) true:=t1.andThen (Y.top.keeps λb o e=>Heap.get?_push_of_some _ (Heap.get?_push_of_some _ e));refine codeAny_call_builtin W.oi_plain W.entry_oi (@W.check_slot (model X.prog X.w) _ _ _ "object.__init__" "object" "__init__" (.ref (s.heap.objs.size+1)) [] [] _ W.oi_kind W.oi_split t2 (W.oi_args (.ref (s.heap.objs.size+1))) ?_);rw[W.oi_run];exact wpAny_pure (And.intro rfl ⟨V.ref (s.heap.objs.size+1),_,I2,rfl,hq⟩)
theorem JQ{C:Addr}{x:Str}{p pos:Pos}(M:Mk0 X.K C)(hg:Gl X x)(hm:X.mg x=some (.ref C))(hdb:(x == ("__debug__":Str))=false:=by decide):PE X (.Call (.Name x p) [] [] pos) (Qc C):=by
 intro pins s σ H Q I h;refine wpAny_Call_Name_kw (jT I hg hm ?_ hdb);exact W.callWith_K0 I.uY M.kp (Zd1 M I h)
structure ZG6(K:aV)(C:Addr):Prop where
 pg:W.plainGet K C "__class__"=true
 hd:W.hasDictIn K C=true
 cl:W.findIn K (.ref C) "__class__"=some (some (.builtin "object.__class__"))
 sp:W.specialIn K (.builtin "object.__class__") "__get__"=some (some (.builtin "getset_descriptor.__get__"))
 tk:W.takesIn K (.builtin "object.__class__")=some true
 so:W.mroIn K C (.type "object")=some true
end
end G
namespace G
open PySem L2
end G
namespace G
open PySem L2 PySem.Spec PyProof.Rows
end G
namespace G
open PySem L2 PySem.Spec PyProof.Rows
def Zbr(w:World):List DictEntry->List (Str×Addr)->Prop
 | [],[]=>True
 | e::es,p::t=>e.hash=hashStr w p.1/\(∃tk,e.key=.str p.1 tk)/\e.val=.ref p.2/\Zbr w es t
 | _,_=>False
def Tab(K:aV)(w:World)(mg:Str->Option Value)(nm:Str)(xj:List (Str×Addr)):Prop:=
 ∃dd o es ep,mg nm=some (.ref dd)/\K.lookup dd=some o/\o.ExactDict/\o.data=.dict es ep/\Zbr w es.toList xj
theorem Zbr.keys{prog:Program}{w:World}:∀{es:List DictEntry}{xj:List (Str×Addr)},Zbr w es xj->∀e∈es,∃k,(strKind prog w).is k e.key=true/\e.hash=(strKind prog w).hash k
 | [],_,_=>λe he=>absurd he List.not_mem_nil
 | e::es,[],h=>h.elim
 | e::es,p::t,h=>λx hx=>by
  obtain⟨h1,⟨tk,h2⟩,_,h4⟩:=h;rcases List.mem_cons.mp hx with rfl | hx
  ·refine⟨p.1,?_,h1⟩;rw[h2];show Value.isStrOf p.1 (.str p.1 tk)=true;simp[Value.isStrOf]
  ·exact Zbr.keys h4 x hx
theorem Zbr.find{w:World}:∀{es:List DictEntry}{xj:List (Str×Addr)}{k:Str}{f:Addr},Zbr w es xj->xj.lookup k=some f->(es.find? λe=>Value.isStrOf k e.key).map (·.val)=some (.ref f)
 | [],[],_,_,_,h=>by cases h
 | [],_::_,_,_,h,_=>h.elim
 | _::_,[],_,_,h,_=>h.elim
 | e::es,p::t,k,f,h,hl=>by
  obtain⟨_,⟨tk,h2⟩,h3,h4⟩:=h;rw[List.find?_cons,h2]
  by_cases hk:k=p.1
  ·subst hk;have e1:Value.isStrOf p.1 (.str p.1 tk)=true:=by simp[Value.isStrOf]
   rw[e1];have e2:List.lookup p.1 (p::t)=some p.2:=by
    obtain⟨a,b⟩:=p;simp[List.lookup]
   rw[e2]at hl;cases hl;show some e.val=_;rw[h3]
  ·have e1:Value.isStrOf k (.str p.1 tk)=false:=by
    simp only[Value.isStrOf,beq_eq_false_iff_ne,ne_eq];exact λz=>hk z.symm
   rw[e1];have e2:List.lookup k (p::t)=List.lookup k t:=by
    obtain⟨a,b⟩:=p;simp only[List.lookup];rw[beq_eq_false_iff_ne.mpr hk]
   rw[e2]at hl;exact Zbr.find h4 hl
def Zrn(xj:List (Str×Addr))(ti:TE):TE:=λσ H Q=>ti σ H λy H1=>∃k f,y=.str k/\xj.lookup k=some f/\Q (.ref f) H1
theorem Zvk{xj:List (Str×Addr)}{ti:TE}{σ:L2.St}{H:Hp}{Q:VK}(h:ti σ H λy H1=>∃k f,y=.str k/\xj.lookup k=some f/\Q (.ref f) H1):Zrn xj ti σ H Q:=h
theorem Zs3{X:Cx}{nm:Str}{xj:List (Str×Addr)}{i:Expr}{ti:TE}{p pos:Pos}(T:Tab X.K X.w X.mg nm xj)(hg:Gl X nm)(hi:PE X i ti)(hs:Zr4 i)(hd:(nm == ("__debug__":Str))=false:=by decide):
  PE X (.Subscript (.Name nm p) i pos) (Zrn xj ti):=by
 intro pins s σ H Q I h;obtain⟨dd,o,es,ep,hm,hk,ho,hda,te⟩:=T;refine Zfk PySem.F.slot_dict_getitem.lookup hs (jT I hg hm ?_ hd);refine lU (hi pins s σ H _ I h) λiv s2 ⟨y,H2,I2,ry,k,f,ey,l,q2⟩=>?_;subst ey;have hh:=I2.uY dd o hk;refine⟨⟨o,hh,ho.1⟩,?_⟩;obtain⟨tk,rfl⟩:∃tk,iv=.str k tk:=ry;refine wpAny_getItem_of (knd:=strKind X.prog X.w) (k:=k) (f:=λk=>findBy Value.isStrOf es k) (by show Value.isStrOf k (.str k tk)=true;simp[Value.isStrOf]) ⟨o,es,ep,hh,ho,hda,λe he=>te.keys e (by simpa using he),λ_=>rfl⟩ (v:=.ref f) ?_ ⟨.ref f,H2,I2.tok _,rfl,q2⟩;show Option.map (λx=>x.val) (Array.find? (λe=>Value.isStrOf k e.key) es)=_;rw[<- Array.find?_toList];exact te.find l
def FnT(P:Program)(w:World)(K:aV)(mg:Str->Option Value)(base:Heap)(CX:Zm)(k:Nat)(ps:List Str)(L:List (Addr×Sp)):Prop:=
 ∀f sp,(f,sp)∈L->∃k' fd,k'<=k/\uV P w K mg base CX k' f fd ps sp/\W.keepIn K (.ref f)=true/\L2.Binds K fd ps []
theorem FnT.nil{P:Program}{w:World}{K:aV}{mg:Str->Option Value}{base:Heap}{CX:Zm}{k:Nat}{ps:List Str}:FnT P w K mg base CX k ps []:=λ_ _ h=>absurd h List.not_mem_nil
theorem FnT.cons{P:Program}{w:World}{K:aV}{mg:Str->Option Value}{base:Heap}{CX:Zm}{k k':Nat}{ps:List Str}{L:List (Addr×Sp)}{f:Addr}{fd:FuncData}{sp:Sp}(hk:k'<=k)(F:uV P w K mg base CX k' f fd ps sp)(hb:L2.Binds K fd ps [])(hp:W.keepIn K (.ref f)=true)(t:FnT P w K mg base CX k ps L):FnT P w K mg base CX k ps ((f,sp)::L):=λg sp' h=>by
 rcases List.mem_cons.mp h with e | h
 ·cases e;exact⟨k',fd,hk,F,hp,hb⟩
 ·exact t g sp' h
def Zc6(i:Nat)(L:List (Addr×Sp))(E:XK)(t:TA):TE:=λσ H Q=>∃f sp,σ[i]? =some (some (.ref f))/\(f,sp)∈L/\t σ H λvs H1=>sp vs H1 Q E
theorem tG{i:Nat}{L:List (Addr×Sp)}{E:XK}{t:TA}{σ:L2.St}{H:Hp}{Q:VK}{f:Addr}(sp:Sp)(hf:σ[i]? =some (some (.ref f)))(hm:(f,sp)∈L)(h:t σ H λvs H1=>sp vs H1 Q E):Zc6 i L E t σ H Q:=⟨f,sp,hf,hm,h⟩
theorem Zl1{X:Cx}{CX:Zm}{k i:Nat}{ps:List Str}{L:List (Addr×Sp)}{x:Str}{E:XK}{e:Expr}{es:List Expr}{t:TA}{p pos:Pos}(F:FnT X.prog X.w X.K X.mg X.base CX k ps L)(hr:Room k X.A)(hN:X.N[i]? =some x)(hv:Vis X.env.scope x)(hx:Passes CX X E)
  (ha:PA X (e::es) t) (hd:(x == ("__debug__":Str))=false:=by decide) (hcd:(x == ("__classdict__":Str))=false:=by decide) (he:starEach (e::es) X.env=(false,eval e X.env)::starEach es X.env:=by rfl) (hpl:(backTo pos (starEach es X.env)).any (·.1)=false:=by rfl):
  PE X (.Call (.Name x p) (e::es) [] pos) (Zc6 i L E t):=by
 intro pins s σ H Q I h;obtain⟨f,sp,ef,hm,h⟩:=h;obtain⟨k',fd,hk,FO,hp,hb⟩:=F f sp hm;refine wpAny_Call_Name_kw (lU (Zks hN hv hd hcd pins s σ H (λv H'=>v=.ref f/\H'=H) I ⟨_,ef,rfl,rfl⟩) λu s1 ⟨v,H1,I1,r,e1,e2⟩=>?_);subst e1 e2;obtain rfl:u=Value.ref f:=r;refine W.callWith_K (h₀:=X.base) I1.ok.mod.kin hp (lU (ha pos pins s1 σ H1 _ I1 h) λus s2 ⟨vs,H2,I2,r2,q2⟩=>⟨I2.uY,?_⟩) he hpl;refine Xa (wg:=[]) FO (hr.mono hk) hb .nil hx I2 r2 ?_;rw[List.append_nil];exact q2
section
variable {σ:L2.St}{H:Hp}{Q:VK}{td ty tv:TE}{n bk ct:L2.St->Hp->Prop}{r:VK}
theorem Ztl(h:td σ H λx H1=>ty σ H1 λy H2=>∃a v,x=.ref a/\RX H2 a y (some v)/\Q v H2):Zx td ty σ H Q:=h
theorem Zmk(h:ty σ H λy H1=>td σ H1 λx H2=>∃a o,x=.ref a/\RX H2 a y o/\Q (.bl (!o.isSome)) H2):Wv ty td σ H Q:=h
theorem Ztk(h:tv σ H λv H1=>td σ H1 λx H2=>ty σ H2 λy H3=>∃a H4,x=.ref a/\Zfg H3 a y v H4/\n σ H4):Zk0 td ty tv ⟨n,r,bk,ct⟩ σ H:=h
theorem Znj{a:Addr}{kvs:List (L2.Key×V)}{z:Str}(e:H a=some (.dK kvs)):RX H a (.str z) (Dg kvs (Sum.inr z)):=RX.k (k:=Sum.inr z) e
theorem Zwh{a:Addr}{kvs:List (L2.Key×V)}{z:Str}{v:V}(e:H a=some (.dK kvs))(hl:kvs.length<sizeLine):Zfg H a (.str z) v (upd H a (.dK (putK kvs (Sum.inr z) v))):=Zfg.k (k:=Sum.inr z) e hl
end
end G
namespace G
open PySem L2 PySem.Spec PyProof.Rows
def Zbs(K:aV)(J:It)(caps:List Nat)(tc:TT)(te:TE)(σ:L2.St)(H1:Hp)(Q:VK):Prop:=∃W:Nat->Nat->List V->Hp->Prop,(∃m,W 0 m [] H1)/\∀i m ys H,W i m ys H->
 (J.stop i H/\∀p,H p=none->Q (.ref p) (upd H p (.lst ys)))\/
 (J.go i H/\ys.length<sizeLine/\∀x H',J.Zq i H x H'->∃a u v,x=.ref a/\jE K H' a [u,v]/\tc (some u::some v::caps.map (pick σ)) H' λk H2=>if k=true then te (some u::some v::caps.map (pick σ)) H2 (λy H3=>∃m',m'<m/\W (i+1) m' (ys++[y]) H3)else ∃m',m'<m/\W (i+1) m' ys H2)
def Nh(K:aV)(wi:TI)(caps:List Nat)(tc:TT)(te:TE):TE:=λσ H Q=>wi σ H λJ H1=>Zbs K J caps tc te σ H1 Q
theorem Ztb{K:aV}{wi:TI}{caps:List Nat}{tc:TT}{te:TE}{σ:L2.St}{H:Hp}{Q:VK}(h:wi σ H λJ H1=>Zbs K J caps tc te σ H1 Q):Nh K wi caps tc te σ H Q:=h
def Zx1(K:aV)(te:TE):TE:=λσ H Q=>∃a u v r,σ=some (.ref a)::r/\jE K H a [u,v]/\te (some u::some v::r) H Q
theorem Ox{K:aV}{J:It}{caps:List Nat}{te:TE}{σ:L2.St}{H:Hp}{Q:VK}(h:LCg J caps pM (Zx1 K te) σ H Q):Zbs K J caps pM te σ H Q:=by
 obtain⟨W,w0,step⟩:=h;refine⟨W,w0,λi m ys H hw=>?_⟩;rcases step i m ys H hw with z | ⟨g,l,st⟩
 ·exact .inl z
 ·refine .inr ⟨g,l,λx H' y=>?_⟩;have h1:=st x H' y;simp only[pM,↓reduceIte]at h1;obtain⟨a,u,v,r,e,hs,q⟩:=h1;cases e;refine⟨a,u,v,rfl,hs,?_⟩;simp only[pM,↓reduceIte];exact q
theorem JR{X:Cx}{elt iter:Expr}{x y:Str}{px py pt pos:Pos}{kt:Nat}{ifs:List Expr}{scope:Scope}{cl:List (Str×Addr)}{wi:TI}{tc:TT}{te:TE}{cns:List Str}(caps:List Nat)
  (hi:PI X (.Tuple [.Name x px,.Name y py] kt pt) iter wi)
  (hf:∀C s H ex pn,PF (Fw X scope cl (x::y::cns) C s H ex pn) ifs tc) (he:∀C s H ex pn,PE (Fw X scope cl (x::y::cns) C s H ex pn) elt te) (hc:X.calm=true)
  (hclos:closureFor scope X.env=pure cl) (hcl:AllIn X.env.cells cl) (hcap:yF X cns caps)
  (hkind:scope.kind=.function) (hcell:(scope.names.all λp=>p.2 != .cell)=true) (hfree:(scope.names.all λp=>p.2 != .free || (cl.lookup p.1).isSome)=true)
  (hcf:(cns.all λy=>scope.names.lookup y == some .free)=true) (hnames:∀y∈scope.names,y.2=.local->scope.names.lookup y.1=some .local) (hx:scope.names.lookup x=some .local) (hy:scope.names.lookup y=some .local) (hnd:(x::y::cns).Nodup)
  (hs:∀v,foldedSetIterable iter X.env v=pure v:=by intro _;rfl):
  PE X (.ListComp elt [⟨.Tuple [.Name x px,.Name y py] kt pt,iter,ifs,0⟩] scope pos) (Nh X.K wi caps tc te):=by
 refine Zkv (ns:=[x,y]) (gt:=Zn1 X.K 2 (HX (cX 0) (HX (cX 1) Zn2))) caps (λJ σ H Q h=>?_) hi (λC s H ex pn=>Xk hc (tQ (lQ hnd rfl (.inl (lookup_relabel_local hx)) (.inr (lookup_relabel_local hx))) (tQ (lQ hnd rfl (.inl (lookup_relabel_local hy)) (.inr (lookup_relabel_local hy))) Om))) hf he hc hclos hcl hcap hkind hcell hfree hcf hnames hs;obtain⟨W,w0,turn⟩:=h;refine⟨W,w0,λi m ys H hw=>(turn i m ys H hw).imp id λ⟨g,l,st⟩=>⟨g,l,λz H' y vs hv=>?_⟩⟩;obtain⟨ta,u1,u2,ez,hst,st⟩:=st z H' y
 match vs,hv with
 | [v,v'],_=>exact⟨[some u1,some u2],rfl,⟨ta,_,ez,hst,rfl,_,_,rfl,_,_,rfl,rfl,rfl,rfl⟩,st⟩
end G
namespace G
open PySem L2 PySem.Spec PyProof.Rows
theorem Qz{X:Cx}{iz:Nat}{z:Str}{pz Zkj:Pos}{elt iter:Expr}{x:Str}{px pos:Pos}{ifs:List Expr}{scope:Scope}{cl:List (Str×Addr)}{wi:TI}{tc:TT}{te:TE}{cns:List Str}(caps:List Nat)
  (hi:PI X (.Name x px) iter wi)
  (hf:∀C s H ex pn,PF (Fw X scope cl (x::cns) C s H ex pn) ifs tc) (he:∀C s H ex pn,PE (Fw X scope cl (x::cns) C s H ex pn) elt te) (hc:X.calm=true)
  (hclos:closureFor scope X.env=pure cl) (hcl:AllIn X.env.cells cl) (hcap:yF X cns caps)
  (hkind:scope.kind=.function) (hcell:(scope.names.all λp=>p.2 != .cell)=true) (hfree:(scope.names.all λp=>p.2 != .free || (cl.lookup p.1).isSome)=true)
  (hcf:(cns.all λy=>scope.names.lookup y == some .free)=true) (hnames:∀y∈scope.names,y.2=.local->scope.names.lookup y.1=some .local) (hx:scope.names.lookup x=some .local) (hnd:(x::cns).Nodup)
  (hN:X.N.Nodup) (hiz:X.N[iz]? =some z) (hz:Loc X.env.scope z) (hfz:X.fn z=true\/X.env.scope.names.lookup z=some .local)
  (hsw:swapsWithSole [.Name z pz] (.ListComp elt [⟨.Name x px,iter,ifs,0⟩] scope pos) Zkj.line X.env=pure true) (hs:∀v,foldedSetIterable iter X.env v=pure v:=by intro _;rfl):
  PS X (.Assign [.Name z pz] (.ListComp elt [⟨.Name x px,iter,ifs,0⟩] scope pos) Zkj) (eE (tLC wi caps tc te) (cX iz)):=by
 intro pins s σ H D I h;generalize hQ:(λv H1=>cX iz v σ H1 D.nx)=Q;have h:tLC wi caps tc te σ H Q:=hQ ▸ h;rw[exec_Assign_arm];refine wpAny_bind (wpAny_standAt ?_);rw[hsw];refine wpAny_bind (wpAny_pure ?_);rw[if_pos rfl];refine wpAny_bind ?_;rw[evalThenUse]
 suffices key:wpAny (model X.prog X.w) X.A (comprehension (.ListComp elt [⟨.Name x px,iter,ifs,0⟩] scope pos) scope X.env (firstIterPos [⟨.Name x px,iter,ifs,0⟩] pos) (newList []) (firstAsync [⟨.Name x px,iter,ifs,0⟩]) (firstIter [⟨.Name x px,iter,ifs,0⟩] X.env) (some λv=>assignAll v ((assignEach [.Name z pz] X.env).map (·.2)))) (λ_ s'=>SP X pins D .next s') X.xe s from
  wpAny_bind (wpAny_mono key (λ_ s' h=>wpAny_pure (wpAny_pure h)) λ_ _ h=>h)
 refine X5 (ns:=[x]) (gt:=cX 0) (R:=λJ σ H Q=>LCg J caps tc te σ H Q) caps (λJ σ H Q h=>?_) hi (λC s H ex pn=>lQ hnd rfl (.inl (lookup_relabel_local hx)) (.inr (lookup_relabel_local hx))) hf he hc hclos hcl hcap hkind hcell hfree hcf hnames hs I h λacc C s6 m r0 hm fCC fin=>?_
 ·obtain⟨W,w0,turn⟩:=h;refine⟨W,w0,λi m ys H hw=>(turn i m ys H hw).imp id λ⟨g,l,st⟩=>⟨g,l,λz H' y vs hv=>?_⟩⟩
  match vs,hv with
  | [v],_=>exact⟨[some z],rfl,⟨rfl,rfl⟩,st z H' y⟩
 obtain⟨v,Hf,If,rf,qf,hfC⟩:=fin s6.heap (Heap.SameBut.refl _ _);have fC:uF X pins Hf C:=fCC hfC;obtain⟨oC,esC,epC,gC,dC,kC,nC⟩:=hm;have Ip:Inv X (pins++[(C,oC)]) σ Hf s6:=Inv.zz If λp hp=>by
  rcases List.mem_append.mp hp with hp | hp
  ·exact If.pin p (List.mem_append_right _ hp)
  ·rw[List.mem_singleton.mp hp];exact⟨gC,fC.1,fC.2.1,fC.2.2.1,λv z=>by rw[dC]at z;cases z⟩
 show wpAny _ _ (assign (.Name z pz) X.env (.ref acc)) _ _ _;refine wpAny_assign_Name (Ga Ip hN hiz hz rf (λs7 I7=>?_) hfz);have g7:=(I7.pin (C,oC) (List.mem_append_right _ (List.mem_append_right _ List.mem_cons_self))).1;refine⟨m,⟨oC,esC,epC,g7,dC,kC,nC⟩,λh' hs'=>?_⟩;have I8:=I7.Aq;have qf:D.nx (σ.set iz (some v)) Hf:=by rw[<- hQ]at qf;exact qf
 have kb:∀b o,b≠C->s7.heap.get? b=some o->h'.get? b=some o:=λb o hb e=>hs'.extBut b o hb e;refine⟨_,Hf,I8.step (ch:=[C]) (λb hb=>?_) (λb o _ _ hb e _=>kb b o (λz=>hb (by rw[z];exact List.mem_cons_self)) e) (λb o _ _ hb e _=>⟨o.slots,kb b o (λz=>hb (by rw[z];exact List.mem_cons_self)) e⟩) (λ_ _ _ _ h=>h) (λb o hb e=>⟨o,kb b o (λz=>hb (by rw[z];exact List.mem_cons_self)) e⟩) (λ_ _ h=>h) (λ_ _ _ h=>h) (λ_ ps h=>⟨#[],by simpa using h⟩) (λm' hm'=>?_) (λb u e=>?_) I8.bare,qf⟩
 ·rw[List.mem_singleton.mp hb];exact⟨fC.2.2.2.1,fC.2.1,fC.2.2.2.2.1,fC.2.2.2.2.2⟩
 ·obtain⟨o',e1,e2,e3,e4,e5⟩:=hm';exact⟨o',e1,e2,kb _ _ fC.2.1.symm e3,e4,e5⟩
 ·refine(I8.hok b u e).stay (λc w' hc q=>kb c w' ?_ q) (λ_ q=>q) λ_ _ q=>q;rintro rfl;rcases hc with rfl | hc
  ·rw[hfC]at e;cases e
  ·rw[hfC]at hc;cases hc
end G
namespace G
open PySem L2 PySem.Spec PyProof.Rows
def FT(ns:List Int):Prop:=∀i∈ns,Builtin.Int.intBits i<=2 ^ 20
theorem Znn{i:Int}(h:(W.WData.int i).layable=true):Builtin.Int.intBits i<=2 ^ 20:=by
 unfold W.WData.layable at h;simp only[Bool.and_eq_true,decide_eq_true_eq]at h;have:=h.2;simp[W.WData.weight]at this;unfold Builtin.Int.intBits;simpa using this
theorem Zjf{l:W.OpenLaw}{n k:Nat}{q:Program}{loose:List Str}{XP:(Str->Option Value)->Heap->Prop}{YP:World->Heap->Prop}{d:DefRec}{K:Params->aV}{CX:World->Zm}{sp:World->Sp}{x:Str}
  (hn:l.most=some n) (hn2:n<=sizeLine) (hdf:d.params.defaults=[]) (hr:Room k callerA)
  (hY:∀(w:World) (h:Heap),YP w h->(K w.params).In h)
  (F:∀(w:World) (mg:Str->Option Value) (fa:Addr) (h:Heap),(K w.params).In h->h.Ns mainGlobals mg->mg d.name=some (.ref fa)->
   ∃fd:FuncData,(∀(s:Shared) (u:Value),BindsTo s fd ⟨[u],[]⟩ [(x,u)])/\
    ∀base:Heap,(K w.params).In base->base.Ns mainGlobals mg->uV l.prog w (K w.params) mg base (CX w) k fa fd [x] (sp w))
  (hsp:∀(w:World) (H:Hp) (a:Addr) (ns:List Int),ns.length<=n->Only H->fj (K w.params) H a (ns.map V.int)->FT ns->sp w [.ref a] H (λv _=>v=.bl true) λ_ _ _=>False)
  (hCX:∀(w:World) (H:Hp) (s:Shared) (e:Value) (s':Shared),CX w [] H s (λ_ _ _=>False) e s'->False):
  W.WalkO q loose XP YP l.row.toRowW d [] (λf vs=>PySem.call f vs):=by
 intro w s₀ s₁ mg mb G Y fa o pm cd doc dV kV ho hd hcd hD hmg hg args vals as hpre hlay hrd hwl hlo;obtain rfl:dV=.none:=W.Dflts.none hD hdf;obtain rfl:kV=.none:=W.Dflts.noKw hD;obtain⟨a,vs,ns,rfl,rfl,hobj,hints,hlen⟩:=Att.Zh5 hn hpre hwl;have hb:FT ns:=λi hi=>by
  unfold W.WData.layableAll at hlay;rw[List.all_cons,Bool.and_eq_true]at hlay;exact Znn (W.layableW_item hlay.1 _ (List.mem_map.mpr ⟨i,hi,rfl⟩))
 have KX:=hY w _ Y;obtain⟨fd,hbd,hF⟩:=F w mg fa _ KX G.T.g hmg;refine W.enter_call (codeAny_mono (Zm6 KX G.T.g G.T.b G.T.builtins G.T.nolimit hg hobj hints (Nat.le_trans hlen hn2) hr hF hbd (λH hO hS=>hsp w H a ns hlen hO hS hb) λH e s'=>hCX w H s₁ e s') λr s' hq=>?_);obtain⟨rfl,h2,h3,h4⟩:=hq;exact⟨.inl ⟨.bool true,.bool true,[],rfl,λ_=>rfl,.bool true,Att.Zhd l _,λ_=>⟨List.Pairwise.nil,λ_ hm=>(nomatch hm)⟩⟩,h2,h3,h4⟩
theorem Zp9{X:Cx}:Ad X (binaryOp .Mult) (rI IntMulOk λi j=>.int (i * j)):=opI λ_ _ _ _ _ _ _ hc q=>mul_int q hc
end G
namespace G
open PySem L2
def Ite(K:aV)(a:Addr):It:=
 ⟨λi H=>∃xs x,fj K H a xs/\xs[i]? =some x,λi H x H'=>∃t v,x=.ref t/\H t=none/\H'=upd H t (.tup [.int i,v])/\∀xs,fj K H a xs->xs[i]? =some v,λi H=>∃xs,fj K H a xs/\xs.length<=i⟩
def Zmm(K:aV)(ta:TA):TI:=λσ H R=>ta σ H λvs H1=>∃a,vs=[.ref a]/\(∃xs,fj K H1 a xs)/\R (Ite K a) H1
theorem Zy2{K:aV}{ta:TA}{σ:L2.St}{H:Hp}{R:It->Hp->Prop}(h:ta σ H λvs H1=>∃a,vs=[.ref a]/\(∃xs,fj K H1 a xs)/\R (Ite K a) H1):Zmm K ta σ H R:=h
section
variable {K:aV}{a:Addr}{g:TG}{tb:TS}{σ:L2.St}{H:Hp}{n:L2.St->Hp->Prop}{r:VK}
end
end G
namespace G
open PySem L2 PySem.Spec PyProof.Rows
theorem Zhy{X:Cx}{pins:List (Addr×Obj)}{σ:L2.St}{H:Hp}{s:Shared}{h':Heap}{t':Nat}{e it:Addr}(I:Inv X pins σ H s)(k:∀b u,b≠e->b≠it->s.heap.get? b=some u->h'.get? b=some u)(fe:uF X pins H e)(fi:uF X pins H it):
  Inv X pins σ H { s with heap:=h',toks:=t' }:=by
 have ne:∀b u,H b=some u->b≠e:=λb u q z=>by rw[z,fe.1]at q;cases q
 have ni:∀b u,H b=some u->b≠it:=λb u q z=>by rw[z,fi.1]at q;cases q
 have nm:∀b,b∉[e,it]->b≠e/\b≠it:=λb hb=>⟨λz=>hb (by simp[z]),λz=>hb (by simp[z])⟩;refine I.step (g':=s.gens) (d':=s.drawn) (ch:=[e,it]) (λb hb=>?_) (λb o _ _ hc q _=>k b o (nm b hc).1 (nm b hc).2 q) (λb o _ _ hc q _=>⟨o.slots,k b o (nm b hc).1 (nm b hc).2 q⟩) (λ_ _ _ _ n=>n)
  (λb o hc q=>⟨o,k b o (nm b hc).1 (nm b hc).2 q⟩) (λ_ _ q=>q) (λ_ _ _ q=>q) (λb ps q=>⟨#[],by rw[q];simp⟩) (λm hm=>?_) (λb u q=>?_) I.bare
 ·rcases List.mem_cons.mp hb with z | z
  ·rw[z];exact⟨fe.2.2.2.1,fe.2.1,fe.2.2.2.2.1,fe.2.2.2.2.2⟩
  ·have z':b=it:=by simpa using z
   rw[z'];exact⟨fi.2.2.2.1,fi.2.1,fi.2.2.2.2.1,fi.2.2.2.2.2⟩
 ·obtain⟨o,es,ep,ho,r⟩:=hm;exact⟨o,es,ep,k _ o (Ne.symm fe.2.1) (Ne.symm fi.2.1) ho,r⟩
 ·refine(I.hok b u q).stay (λc v hc z=>?_) (λ_ z=>z) λ_ _ z=>z;rcases hc with y | y
  ·rw[y]at z ⊢;exact k b v (ne b u q) (ni b u q) z
  ·exact k c v (ne c _ y) (ni c _ y) z
theorem Rh{X:Cx}{pins:List (Addr×Obj)}{σ:L2.St}{H:Hp}{s:Shared}{h':Heap}{t':Nat}{e it a:Addr}{o:HO}(I:Inv X pins σ H s)(k:∀b u,b≠e->b≠it->s.heap.get? b=some u->h'.get? b=some u)(fe:uF X pins H e)(fi:uF X pins H it)
  (ha:s.heap.objs.size<=a) (new:lV X.prog X.w (upd H a o) h' a o):Inv X pins σ (upd H a o) { s with heap:=h',toks:=t' }:=by
 have hn:=I.hok.fresh ha;have ne:∀b u,H b=some u->b≠e:=λb u q z=>by rw[z,fe.1]at q;cases q
 have ni:∀b u,H b=some u->b≠it:=λb u q z=>by rw[z,fi.1]at q;cases q
 have nm:∀b,b∉[e,it]->b≠e/\b≠it:=λb hb=>⟨λz=>hb (by simp[z]),λz=>hb (by simp[z])⟩;have na:∀b u,s.heap.get? b=some u->b≠a:=λb u q=>Nat.ne_of_lt (Nat.lt_of_lt_of_le (Heap.lt_size q) ha);refine I.step (g':=s.gens) (d':=s.drawn) (ch:=[e,it]) (λb hb=>?_) (λb o _ _ hc q _=>k b o (nm b hc).1 (nm b hc).2 q) (λb o _ _ hc q _=>⟨o.slots,k b o (nm b hc).1 (nm b hc).2 q⟩) (λb u _ q n=>(aU (na b u q)).trans n)
  (λb o hc q=>⟨o,k b o (nm b hc).1 (nm b hc).2 q⟩) (λb xs q=>(aU (aM q hn)).trans q) (λb o xs q=>(aU (aM q hn)).trans q) (λb ps q=>⟨#[],by rw[aU (aM q hn),q];simp⟩) (λm hm=>?_) (λb u q=>?_) I.bare
 ·rcases List.mem_cons.mp hb with z | z
  ·rw[z];exact⟨fe.2.2.2.1,fe.2.1,fe.2.2.2.2.1,fe.2.2.2.2.2⟩
  ·have z':b=it:=by simpa using z
   rw[z'];exact⟨fi.2.2.2.1,fi.2.1,fi.2.2.2.2.1,fi.2.2.2.2.2⟩
 ·obtain⟨o,es,ep,ho,r⟩:=hm;exact⟨o,es,ep,k _ o (Ne.symm fe.2.1) (Ne.symm fi.2.1) ho,r⟩
 ·by_cases hb:b=a
  ·subst hb;rw[aq]at q;cases q;exact new
  ·rw[aU hb]at q;refine(I.hok b u q).stay (λc v hc z=>?_) (λc z=>by rw[aU (aM z hn)];exact z) λc xs z=>by rw[aU (aM z hn)];exact z
   rcases hc with y | y
   ·rw[y]at z ⊢;exact k b v (ne b u q) (ni b u q) z
   ·exact k c v (ne c _ y) (ni c _ y) z
theorem Zgy{P:Program}{w:World}{K:aV}{elts:List Expr}{x1:Nat}{pt:Pos}(a e it:Addr)(hne:e≠it):
    Turn P w K (.Tuple elts x1 pt) (Ite K a) [e,it] e (λi h=>(∃old,IsEnum h e it ((i:Nat):Int) old)/\h.IsListIter it a i) where
  mem:=by simp
  obj:=λi h st b hb=>by
    obtain⟨⟨old,he⟩,o,ho,c,d⟩:=st;rcases List.mem_cons.mp hb with z | z
    · rw[z];exact⟨_,he,λv z=>by cases z⟩
    · have z':b=it:=by simpa using z
      rw[z'];exact⟨o,ho,λv z=>by rw[d]at z;cases z⟩
  keep:=λi h h' st k=>⟨let ⟨old,he⟩:=st.1;⟨old,k e (by simp) _ he⟩,st.2.at λo q=>k it (by simp) o q⟩
  item:=by
    intro X hP hw hK hc i pins s σ H E I hf st hg;subst hP hw hK;obtain⟨xs,x,hq,hx⟩:=hg;obtain⟨its,rv,p,hz⟩:=I.list hq;obtain⟨u,hu,ru⟩:=rv.get hx;obtain⟨⟨old,he⟩,hit⟩:=st;have fe:=hf e (by simp);have fi:=hf it (by simp);have hes:e<s.heap.objs.size:=Heap.lt_size he;have his:it<s.heap.objs.size:=by obtain⟨o,q,_⟩:=hit;exact Heap.lt_size q
    refine wpAny_pyNext_enum_item he hit p.isList (x:=u) (by simpa using hu) hne λh1 ho1 hit1 ht1 hz1 hk1=>?_;refine⟨_,rfl,wpAny_letOwnedTupleGo_enum (s:={ s with heap:=h1,toks:=s.toks+1 }) ho1 λh2 he2 hs2=>?_⟩
    replace hs2:Heap.SameBut e h1 h2:=hs2
    have hn:H s.heap.objs.size=none:=I.hok.fresh (Nat.le_refl _);have I2:Inv X pins σ (upd H s.heap.objs.size (.tup [.int ((i:Nat):Int),x])) { s with heap:=h2,toks:=s.toks+1 }:=by
      refine Rh I (λb v hb hb' q=>hs2.extBut b v hb (hk1 b v hb hb' q)) fe fi (Nat.le_refl _) ?_;refine⟨by show 2<=sizeLine;decide,[.int ((i:Nat):Int) s.toks,u],.cons ⟨_,rfl⟩ (.cons ru .nil),⟨_,hs2.extBut _ _ (Nat.ne_of_gt hes) ht1,rfl,_,rfl⟩⟩
    refine⟨.ref s.heap.objs.size,_,I2,rfl,⟨_,x,rfl,hn,rfl,λys hy=>by rw[I.BX hy hq];exact hx⟩,⟨⟨u,?_⟩,hit1.extBut hs2.extBut (Ne.symm hne)⟩,λb hb=>?_⟩
    · have e1:(((i+1:Nat)):Int)=(i:Int)+1:=by omega
      show IsEnum h2 e it (((i+1:Nat)):Int) u;rw[e1];exact he2
    · rcases List.mem_cons.mp hb with z | z
      · rw[z,aU (Nat.ne_of_lt hes)];exact fe.1
      · have z':b=it:=by simpa using z
        rw[z',aU (Nat.ne_of_lt his)];exact fi.1
  done:=by
    intro X hP hw hK hc i pins s σ H E I hf st hg;subst hP hw hK;obtain⟨xs,hq,hx⟩:=hg;obtain⟨its,rv,p,hz⟩:=I.list hq;obtain⟨⟨old,he⟩,hit⟩:=st;have hl:=rv.length;exact wpAny_pyNext_enum_end (I.ok.hd hc) he hit p.isList (by simp;omega) λh' hx'=>⟨rfl,Zhy (t':=s.toks) I (λb o _ hb' q=>hx' b o hb' q) (hf e (by simp)) (hf it (by simp))⟩
  self:=λA i s Q E st h=>let ⟨_,he⟩:=st.1;wpAny_pyIter_enum he h
theorem Zov{X:Cx}{elts:List Expr}{x1:Nat}{pt:Pos}{l:Expr}{ta:TA}{p pos:Pos}(hg:Gl X "enumerate")(hm:X.mg "enumerate"=none)(ha:PA X [l] ta)(hs:starEach [l] X.env=[(false,eval l X.env)]:=by rfl):
  PI X (.Tuple elts x1 pt) (.Call (.Name "enumerate" p) [l] [] pos) (Zmm X.K ta):=by
 intro pins s σ H R I h;refine Call_ (BZ I hg hm boot_enumerate (PyProof.Rows.callWith_type1 (lU (ha pos pins s σ H _ I h) λus s1 ⟨vs,H1,I1,r1,q1⟩=>?_) hs rfl));obtain⟨a,e,⟨xs,hq⟩,q⟩:=q1;subst e;cases r1 with
 | cons r rr=>
  cases rr;obtain rfl:_=Value.ref a:=r;obtain⟨its,rv,pl,hz⟩:=I1.list hq;refine call_enumerate_list pl.isList λh' he hit hsz hk=>?_;have I2:Inv X pins σ H1 { s1 with heap:=h' }:=I1.kept (t':=s1.toks) hk
  refine wpAny_pyIter_enum (s:={ s1 with heap:=h' }) he ?_;have hf:∀b,s1.heap.objs.size<=b->uF X pins H1 b:=λb hb=>I1.Zei hb (I1.hok.fresh hb);refine⟨_,[s1.heap.objs.size+1,s1.heap.objs.size],_,_,H1,rfl,I2,Zgy a _ _ (Nat.succ_ne_self _),⟨⟨_,he⟩,hit⟩,λb hb=>?_,q⟩;rcases List.mem_cons.mp hb with z | z
  ·rw[z];exact hf _ (Nat.le_succ _)
  ·have z':b=s1.heap.objs.size:=by simpa using z
   rw[z'];exact hf _ (Nat.le_refl _)
end G
namespace G
open PySem L2 PySem.Spec PyProof.Rows
section
variable {X:Cx}{i o:Expr}{ty td:TE}
end
end G
namespace G
open PySem L2 PySem.Spec PyProof.Rows
section
variable {X:Cx}
end
end G
namespace G
open PySem L2 PySem.Spec PyProof.Rows
end G
namespace G
open PySem L2 PySem.Spec PyProof.Rows
def Zkd(neg:Bool):R2:=λx y H Q=>∃(a b:Addr) (kvs:List (Key×V)),x=.ref a/\y=.ref b/\Rd H a (.dK kvs)/\Rd H b (.dK [])/\Q (.bl (if neg then !(kvs.length == 0)else kvs.length == 0)) H
theorem Zti{neg:Bool}{H:Hp}{Q:VK}{a b:Addr}{kvs:List (Key×V)}(h1:H a=some (.dK kvs))(h2:H b=some (.dK []))(h:Q (.bl (if neg then !(kvs.length == 0)else kvs.length == 0)) H):Zkd neg (.ref a) (.ref b) H Q:=⟨a,b,kvs,rfl,rfl,.inl h1,.inl h2,h⟩
section
variable {X:Cx}
theorem Zw4{P:Program}{w:World}{A:Around}{s:Shared}{ka kb:List (Key×Value)}(h:kb=[]):ka.length=kb.length->W.KeqHits A s kb ka true:=λe=>by
 subst h;have:ka=[]:=by simpa using e
 subst this;exact .nil
theorem Zp8(hu:X.A.units+1<cLine):Ad X (compareOp .NotEq) (Zkd true):=by
 intro pins s σ H x y v u Q I rx ry h;obtain⟨p,q',kvs,rfl,rfl,hx,hy,q⟩:=h;cases rx;cases ry;obtain⟨_,h1,vs,r1,d1⟩:=Wf I.hok hx;obtain⟨_,h2,ws,r2,d2⟩:=Wf I.hok hy;have e2:ws=[]:=by cases r2;rfl
 have l1:=r1.length;refine W.keq_ne (r:=true) h1 h2 d1 d2 (by omega) (Zw4 (P:=X.prog) (w:=X.w) e2) ?_;refine⟨.bl (!(kvs.length == 0)),H,I,?_,q⟩;show Value.bool _=Value.bool _;rw[e2,Bool.and_true,l1];rfl
end
end G
namespace G
open PySem L2 PySem.Spec PyProof.Rows
def Zjj(M1 M2 M3 M4:Value->Prop)(tb:(L2.St->XK)->TS)(t1 t2 t3 t4:TS):TS:=λD σ H=>tb (λσ' cls _ H'=>(M1 cls/\t1 D σ' H')\/(M2 cls/\t2 D σ' H')\/(M3 cls/\t3 D σ' H')\/(M4 cls/\t4 D σ' H')) D σ H
theorem Zt1{M1 M2 M3 M4:Value->Prop}{tb:(L2.St->XK)->TS}{t1 t2 t3 t4:TS}{σ:L2.St}{H:Hp}{n:L2.St->Hp->Prop}{r:VK}{b c:L2.St->Hp->Prop}(h:tb (λσ' cls _ H'=>(M1 cls/\t1 ⟨n,r,b,c⟩ σ' H')\/(M2 cls/\t2 ⟨n,r,b,c⟩ σ' H')\/(M3 cls/\t3 ⟨n,r,b,c⟩ σ' H')\/(M4 cls/\t4 ⟨n,r,b,c⟩ σ' H')) ⟨n,r,b,c⟩ σ H):Zjj M1 M2 M3 M4 tb t1 t2 t3 t4 ⟨n,r,b,c⟩ σ H:=h
section
variable {X:Cx}{x1 x2 x3 x4:Str}{C1 C2 C3 C4:Addr}{pos np1 np2 np3 np4 hp1 hp2 hp3 hp4:Pos}{body su1 su2 su3 su4:List Stmt}{b1 b2 b3 b4:Stmt}{M1 M2 M3 M4:Value->Prop}{tb:(L2.St->XK)->TS}{t1 t2 t3 t4:TS}
theorem Zon(hst:X.stack=X.env::X.outer/\X.env.frame=some X.env.locals)(hg1:Gl X x1)(hm1:X.mg x1=some (.ref C1))(hg2:Gl X x2)(hm2:X.mg x2=some (.ref C2))(hg3:Gl X x3)(hm3:X.mg x3=some (.ref C3))(hg4:Gl X x4)(hm4:X.mg x4=some (.ref C4))(hM1:∀c,M1 c->W.exmOne X.K c (.ref C1)=some true)(hM2:∀c,M2 c->W.exmOne X.K c (.ref C1)=some false/\W.exmOne X.K c (.ref C2)=some true)(hM3:∀c,M3 c->W.exmOne X.K c (.ref C1)=some false/\W.exmOne X.K c (.ref C2)=some false/\W.exmOne X.K c (.ref C3)=some true)(hM4:∀c,M4 c->W.exmOne X.K c (.ref C1)=some false/\W.exmOne X.K c (.ref C2)=some false/\W.exmOne X.K c (.ref C3)=some false/\W.exmOne X.K c (.ref C4)=some true)
  (hb:∀(E:L2.St->XK) (pn:List (Addr×Obj)) (xe:Value->Shared->Prop),Zgs (DY X.prog X.w) (cxB X pn xe) E->R1 (cxB X pn xe) body (tb E))
  (hs1:∀(ea:Value) (pn:List (Addr×Obj)),R1 (O1 X ea pn) (b1::su1) t1) (hs2:∀(ea:Value) (pn:List (Addr×Obj)),R1 (O1 X ea pn) (b2::su2) t2) (hs3:∀(ea:Value) (pn:List (Addr×Obj)),R1 (O1 X ea pn) (b3::su3) t3) (hs4:∀(ea:Value) (pn:List (Addr×Obj)),R1 (O1 X ea pn) (b4::su4) t4) (hd1:(x1 == ("__debug__":Str))=false:=by decide) (hd2:(x2 == ("__debug__":Str))=false:=by decide) (hd3:(x3 == ("__debug__":Str))=false:=by decide) (hd4:(x4 == ("__debug__":Str))=false:=by decide):
  PS X (.Try body [.ExceptHandler (some (.Name x1 np1)) none (b1::su1) hp1,.ExceptHandler (some (.Name x2 np2)) none (b2::su2) hp2,.ExceptHandler (some (.Name x3 np3)) none (b3::su3) hp3,.ExceptHandler (some (.Name x4 np4)) none (b4::su4) hp4] [] [] pos) (Zjj M1 M2 M3 M4 tb t1 t2 t3 t4):=by
 intro pins s σ H D I h;refine wpAny_Try_except ?_;have hx:Zgs (DY X.prog X.w) (cxB X (X.pn++pins) λe s'=>∃ σ H s,Inv X pins σ H s/\DY X.prog X.w X.stack H s (λcls _ H'=>(M1 cls/\t1 D σ H')\/(M2 cls/\t2 D σ H')\/(M3 cls/\t3 D σ H')\/(M4 cls/\t4 D σ H')) e s') (λσ' cls _ H'=>(M1 cls/\t1 D σ' H')\/(M2 cls/\t2 D σ' H')\/(M3 cls/\t3 D σ' H')\/(M4 cls/\t4 D σ' H')):=
  λpl σ H s e s' J z=>⟨σ,H,s,QS I.ok J,z⟩
 refine wpAny_mono (hb _ _ _ hx [] s σ H D (Zrm I _) h) (λf s1 q=>?_) λe s1 q=>?_
 ·have q:=Zrp I.ok q;cases f with
  | next=>exact wpAny_execs_nil q
  | ret v=>exact q
  | brk=>exact q
  | cont=>exact q
 ·obtain⟨σ1,H1,s0,J,ea,cls,a0,B,H2,rfl,os,bare,un,ok,fl,hB,hM⟩:=q;have fl0:=fl;rw[hst.1]at fl0;refine wpAny_looks_onW (hst.1 ▸ J.ok.frames) hst.2 fl0 λh4 Zw7 sm4=>?_;refine wpAny_landsW Zw7 λh5 fl5 sm5=>?_;have Zjt:s1.heap.UpToSlots h5:=sm4.trans sm5;have J5:=flown J os bare un ok fl hB fl5.1 Zjt;obtain⟨ob,hob,hoc⟩:=id fl5.there;have LT:W.Looks (model X.prog X.w) h5 (typeOf (.ref ea)) cls:=hoc ▸ (W.Looks.ld hob).andThen .now;rcases hM with ⟨hM,hth⟩ | ⟨hM,hth⟩ | ⟨hM,hth⟩ | ⟨hM,hth⟩
  ·have m1:=hM1 cls hM;refine wpAny_handleBy_cons (codeAny_handlers_test (jT (X:=O1 X (.ref ea) (X.pn++pins)) (qe J5 (.ref ea)) hg1 hm1 ?_ hd1)) (by intro z;cases z);refine(W.exm_one J5.uY LT m1).here ?_;refine codeAny_handlers_suite ?_;refine lands_againW fl5 λh6 fl6 sm6=>?_;have J6:=flown J os bare un ok fl hB fl6.1 (Zjt.trans sm6);refine wpAny_mono (hs1 (.ref ea) (X.pn++pins) [] _ σ1 H2 D (qe J6 (.ref ea)) hth) (λf s2 q=>Wz I.ok q) λ_ _ z=>z.elim
  ·obtain⟨m1,m2⟩:=hM2 cls hM;refine wpAny_handleBy_cons (codeAny_handlers_test (jT (X:=O1 X (.ref ea) (X.pn++pins)) (qe J5 (.ref ea)) hg1 hm1 ?_ hd1)) (by intro z;cases z);refine(W.exm_one J5.uY LT m1).here ?_;refine wpAny_handleBy_cons (codeAny_handlers_test (jT (X:=O1 X (.ref ea) (X.pn++pins)) (qe J5 (.ref ea)) hg2 hm2 ?_ hd2)) (by intro z;cases z);refine(W.exm_one J5.uY LT m2).here ?_;refine codeAny_handlers_suite ?_;refine lands_againW fl5 λh6 fl6 sm6=>?_;have J6:=flown J os bare un ok fl hB fl6.1 (Zjt.trans sm6);refine wpAny_mono (hs2 (.ref ea) (X.pn++pins) [] _ σ1 H2 D (qe J6 (.ref ea)) hth) (λf s2 q=>Wz I.ok q) λ_ _ z=>z.elim
  ·obtain⟨m1,m2,m3⟩:=hM3 cls hM;refine wpAny_handleBy_cons (codeAny_handlers_test (jT (X:=O1 X (.ref ea) (X.pn++pins)) (qe J5 (.ref ea)) hg1 hm1 ?_ hd1)) (by intro z;cases z);refine(W.exm_one J5.uY LT m1).here ?_;refine wpAny_handleBy_cons (codeAny_handlers_test (jT (X:=O1 X (.ref ea) (X.pn++pins)) (qe J5 (.ref ea)) hg2 hm2 ?_ hd2)) (by intro z;cases z);refine(W.exm_one J5.uY LT m2).here ?_;refine wpAny_handleBy_cons (codeAny_handlers_test (jT (X:=O1 X (.ref ea) (X.pn++pins)) (qe J5 (.ref ea)) hg3 hm3 ?_ hd3)) (by intro z;cases z);refine(W.exm_one J5.uY LT m3).here ?_;refine codeAny_handlers_suite ?_;refine lands_againW fl5 λh6 fl6 sm6=>?_;have J6:=flown J os bare un ok fl hB fl6.1 (Zjt.trans sm6);refine wpAny_mono (hs3 (.ref ea) (X.pn++pins) [] _ σ1 H2 D (qe J6 (.ref ea)) hth) (λf s2 q=>Wz I.ok q) λ_ _ z=>z.elim
  ·obtain⟨m1,m2,m3,m4⟩:=hM4 cls hM;refine wpAny_handleBy_cons (codeAny_handlers_test (jT (X:=O1 X (.ref ea) (X.pn++pins)) (qe J5 (.ref ea)) hg1 hm1 ?_ hd1)) (by intro z;cases z);refine(W.exm_one J5.uY LT m1).here ?_;refine wpAny_handleBy_cons (codeAny_handlers_test (jT (X:=O1 X (.ref ea) (X.pn++pins)) (qe J5 (.ref ea)) hg2 hm2 ?_ hd2)) (by intro z;cases z);refine(W.exm_one J5.uY LT m2).here ?_;refine wpAny_handleBy_cons (codeAny_handlers_test (jT (X:=O1 X (.ref ea) (X.pn++pins)) (qe J5 (.ref ea)) hg3 hm3 ?_ hd3)) (by intro z;cases z);refine(W.exm_one J5.uY LT m3).here ?_;refine wpAny_handleBy_cons (codeAny_handlers_test (jT (X:=O1 X (.ref ea) (X.pn++pins)) (qe J5 (.ref ea)) hg4 hm4 ?_ hd4)) (by intro z;cases z);refine(W.exm_one J5.uY LT m4).here ?_;refine codeAny_handlers_suite ?_;refine lands_againW fl5 λh6 fl6 sm6=>?_;have J6:=flown J os bare un ok fl hB fl6.1 (Zjt.trans sm6);refine wpAny_mono (hs4 (.ref ea) (X.pn++pins) [] _ σ1 H2 D (qe J6 (.ref ea)) hth) (λf s2 q=>Wz I.ok q) λ_ _ z=>z.elim
end
end G
namespace G
open PySem L2 PySem.Spec PyProof.Rows
end G
namespace G
open PySem L2 PySem.Spec PyProof.Rows
def Itz(K:aV)(a b:Addr):It:=
  ⟨λi H=>∃xs ys x y,fj K H a xs/\fj K H b ys/\xs[i]? =some x/\ys[i]? =some y,
   λi H v H'=>∃t x y,v=.ref t/\H t=none/\H'=upd H t (.tup [x,y])/\(∀xs,fj K H a xs->xs[i]? =some x)/\∀ys,fj K H b ys->ys[i]? =some y,
   λi H=>∃xs ys,fj K H a xs/\fj K H b ys/\(xs.length<=i\/ys.length<=i)⟩
def Ztp(K:aV)(ta:TA):TI:=λσ H R=>ta σ H λvs H1=>∃a b,vs=[.ref a,.ref b]/\(∃xs,fj K H1 a xs)/\(∃ys,fj K H1 b ys)/\R (Itz K a b) H1
theorem Zxz{K:aV}{ta:TA}{σ:L2.St}{H:Hp}{R:It->Hp->Prop}(h:ta σ H λvs H1=>∃a b,vs=[.ref a,.ref b]/\(∃xs,fj K H1 a xs)/\(∃ys,fj K H1 b ys)/\R (Itz K a b) H1):Ztp K ta σ H R:=h
section
variable {X:Cx}{pins:List (Addr×Obj)}{σ:L2.St}{H:Hp}{s:Shared}{h':Heap}{t':Nat}{ch:List Addr}
theorem Vy(I:Inv X pins σ H s)(k:∀b u,b∉ch->s.heap.get? b=some u->h'.get? b=some u)(f:∀e∈ch,uF X pins H e):Inv X pins σ H { s with heap:=h',toks:=t' }:=by
 have ne:∀b u,H b=some u->b∉ch:=λb u q z=>by rw[(f b z).1]at q;cases q
 refine I.step (g':=s.gens) (d':=s.drawn) (ch:=ch) (λb hb=>⟨(f b hb).2.2.2.1,(f b hb).2.1,(f b hb).2.2.2.2.1,(f b hb).2.2.2.2.2⟩) (λb o _ _ hc q _=>k b o hc q) (λb o _ _ hc q _=>⟨o.slots,k b o hc q⟩) (λ_ _ _ _ n=>n)
  (λb o hc q=>⟨o,k b o hc q⟩) (λ_ _ q=>q) (λ_ _ _ q=>q) (λb ps q=>⟨#[],by rw[q];simp⟩) (λm hm=>?_) (λb u q=>?_) I.bare
 ·obtain⟨o,es,ep,ho,r⟩:=hm;exact⟨o,es,ep,k _ o (λz=>(f _ z).2.1 rfl) ho,r⟩
 ·refine(I.hok b u q).stay (λc v hc z=>?_) (λ_ z=>z) λ_ _ z=>z;rcases hc with y | y
  ·rw[y]at z ⊢;exact k b v (ne b u q) z
  ·exact k c v (ne c _ y) z
theorem Ca{a:Addr}{o:HO}(I:Inv X pins σ H s)(k:∀b u,b∉ch->s.heap.get? b=some u->h'.get? b=some u)(f:∀e∈ch,uF X pins H e)(ha:s.heap.objs.size<=a)(new:lV X.prog X.w (upd H a o) h' a o):Inv X pins σ (upd H a o) { s with heap:=h',toks:=t' }:=by
 have hn:=I.hok.fresh ha;have ne:∀b u,H b=some u->b∉ch:=λb u q z=>by rw[(f b z).1]at q;cases q
 have na:∀b u,s.heap.get? b=some u->b≠a:=λb u q=>Nat.ne_of_lt (Nat.lt_of_lt_of_le (Heap.lt_size q) ha);refine I.step (g':=s.gens) (d':=s.drawn) (ch:=ch) (λb hb=>⟨(f b hb).2.2.2.1,(f b hb).2.1,(f b hb).2.2.2.2.1,(f b hb).2.2.2.2.2⟩) (λb o _ _ hc q _=>k b o hc q) (λb o _ _ hc q _=>⟨o.slots,k b o hc q⟩) (λb u _ q n=>(aU (na b u q)).trans n)
  (λb o hc q=>⟨o,k b o hc q⟩) (λb xs q=>(aU (aM q hn)).trans q) (λb o xs q=>(aU (aM q hn)).trans q) (λb ps q=>⟨#[],by rw[aU (aM q hn),q];simp⟩) (λm hm=>?_) (λb u q=>?_) I.bare
 ·obtain⟨o,es,ep,ho,r⟩:=hm;exact⟨o,es,ep,k _ o (λz=>(f _ z).2.1 rfl) ho,r⟩
 ·by_cases hb:b=a
  ·subst hb;rw[aq]at q;cases q;exact new
  ·rw[aU hb]at q;refine(I.hok b u q).stay (λc v hc z=>?_) (λc z=>by rw[aU (aM z hn)];exact z) λc xs z=>by rw[aU (aM z hn)];exact z
   rcases hc with y | y
   ·rw[y]at z ⊢;exact k b v (ne b u q) z
   ·exact k c v (ne c _ y) z
end
structure Zd(z TI TO i1 i2:Addr):Prop where
 TIz:TI≠z
 TOz:TO≠z
 i1z:i1≠z
 i2z:i2≠z
 TITO:TI≠TO
 TIi1:TI≠i1
 TIi2:TI≠i2
 TOi1:TO≠i1
 TOi2:TO≠i2
 i12:i1≠i2
def Zrh(a b z TI TO i1 i2:Addr)(i:Nat)(h:Heap):Prop:=IsZip h z TI TO .none/\IsPair h TI (.ref i1) (.ref i2)/\(∃u v,IsPair h TO u v)/\h.IsListIter i1 a i/\h.IsListIter i2 b i
theorem UG{a b z TI TO i1 i2:Addr}{i:Nat}{h:Heap}{xs ys:Array Value}(d:Zd z TI TO i1 i2)(st:Zrh a b z TI TO i1 i2 i h)(ha:h.IsList a xs)(hb:h.IsList b ys):ZipApart z TI TO i1 i2 a b:=by
 obtain⟨hz,hTI,⟨u,v,hTO⟩,h1,h2⟩:=st;have A:∀{c:Addr}{vs:Array Value},h.IsList c vs->c≠z/\c≠TO/\c≠i1/\c≠i2:=λ{c vs} hc=>by
  obtain⟨o,ho,hcl,hd⟩:=hc;refine⟨λe=>?_,λe=>?_,λe=>?_,λe=>?_⟩
  ·subst e;rw[hz]at ho;cases ho;simp at hcl
  ·subst e;rw[hTO]at ho;cases ho;simp at hcl
  ·subst e;obtain⟨o2,q,c2,d2⟩:=h1;rw[q]at ho;cases ho;rw[hcl]at c2;simp at c2
  ·subst e;obtain⟨o2,q,c2,d2⟩:=h2;rw[q]at ho;cases ho;rw[hcl]at c2;simp at c2
 have a1:=A ha;have b1:=A hb;exact⟨d.TIz,d.TOz,d.i1z,d.i2z,d.TITO,d.TIi1,d.TIi2,d.TOi1,d.TOi2,d.i12,a1.1,a1.2.1,a1.2.2.1,a1.2.2.2,b1.1,b1.2.1,b1.2.2.1,b1.2.2.2⟩
theorem Zjh{P:Program}{w:World}{K:aV}{elts:List Expr}{x1:Nat}{pt:Pos}(a b z TI TO i1 i2:Addr)(D:Zd z TI TO i1 i2):
    Turn P w K (.Tuple elts x1 pt) (Itz K a b) [z,TI,TO,i1,i2] z (Zrh a b z TI TO i1 i2) where
  mem:=by simp
  obj:=λi h st c hc=>by
    obtain⟨hz,hTI,⟨u,v,hTO⟩,⟨o1,q1,c1,d1⟩,⟨o2,q2,c2,d2⟩⟩:=st;simp only[List.mem_cons,List.not_mem_nil,or_false]at hc;rcases hc with e | e | e | e | e
    · rw[e];exact⟨_,hz,λv z=>by cases z⟩
    · rw[e];exact⟨_,hTI,λv z=>by cases z⟩
    · rw[e];exact⟨_,hTO,λv z=>by cases z⟩
    · rw[e];exact⟨o1,q1,λv z=>by rw[d1]at z;cases z⟩
    · rw[e];exact⟨o2,q2,λv z=>by rw[d2]at z;cases z⟩
  keep:=λi h h' st k=>by
    obtain⟨hz,hTI,⟨u,v,hTO⟩,h1,h2⟩:=st;exact⟨k z (by simp) _ hz,k TI (by simp) _ hTI,⟨u,v,k TO (by simp) _ hTO⟩,h1.at λo q=>k i1 (by simp) o q,h2.at λo q=>k i2 (by simp) o q⟩
  item:=by
    intro X hP hw hK hc i pins s σ H E I hf st hg;subst hP hw hK;obtain⟨xs,ys,x,y,hq,hr,hx,hy⟩:=hg;obtain⟨its,rv,p,hzl⟩:=I.list hq;obtain⟨jts,rw',p2,Ztq⟩:=I.list hr;obtain⟨u,hu,ru⟩:=rv.get hx;obtain⟨v,hv,rv2⟩:=rw'.get hy;have AP:=UG D st p.isList p2.isList;obtain⟨hz,hTI,⟨o1,o2,hTO⟩,h1,h2⟩:=st;have lt:∀{c o},s.heap.get? c=some o->c<s.heap.objs.size:=λe=>Heap.lt_size e;have l1:i1<s.heap.objs.size:=by obtain⟨_,e,_⟩:=h1;exact lt e
    have l2:i2<s.heap.objs.size:=by obtain⟨_,e,_⟩:=h2;exact lt e
    refine wpAny_pyNext_zip_item AP hz hTI hTO h1 h2 p.isList p2.isList (x:=u) (y:=v) (by simpa using hu) (by simpa using hv) λh' a1 a2 a3 a4 a5 a6 hk=>?_;refine⟨_,rfl,wpAny_letOwnedTupleGo_zip (s:={ s with heap:=h' }) a1 λh2' hz2 hs2=>?_⟩
    replace hs2:Heap.SameBut z h' h2':=hs2
    have hn:H s.heap.objs.size=none:=I.hok.fresh (Nat.le_refl _);have I2:Inv X pins σ (upd H s.heap.objs.size (.tup [x,y])) { s with heap:=h2',toks:=s.toks }:=by
      refine Ca (ch:=[z,TI,TO,i1,i2]) I (λc o hcn q=>?_) hf (Nat.le_refl _) ?_
      · simp only[List.mem_cons,List.not_mem_nil,or_false,not_or]at hcn
        exact hs2.extBut c o hcn.1 (hk c o hcn.1 hcn.2.2.1 hcn.2.2.2.1 hcn.2.2.2.2 q)
      · exact⟨by show 2<=sizeLine;decide,[u,v],.cons ru (.cons rv2 .nil),⟨_,hs2.extBut _ _ (Nat.ne_of_gt (lt hz)) a5,rfl,_,rfl⟩⟩
    refine⟨.ref s.heap.objs.size,_,I2,rfl,⟨_,x,y,rfl,hn,rfl,λzs h=>by rw[I.BX h hq];exact hx,λzs h=>by rw[I.BX h hr];exact hy⟩,⟨hz2,?_,?_,?_,?_⟩,λc hcm=>?_⟩
    · exact hs2.extBut _ _ D.TIz (hk TI _ D.TIz D.TITO D.TIi1 D.TIi2 hTI)
    · exact⟨u,v,hs2.extBut _ _ D.TOz a2⟩
    · exact a3.extBut hs2.extBut D.i1z
    · exact a4.extBut hs2.extBut D.i2z
    · have lc:c<s.heap.objs.size:=by
        simp only[List.mem_cons,List.not_mem_nil,or_false]at hcm;rcases hcm with e | e | e | e | e
        · rw[e];exact lt hz
        · rw[e];exact lt hTI
        · rw[e];exact lt hTO
        · rw[e];exact l1
        · rw[e];exact l2
      rw[aU (Nat.ne_of_lt lc)];exact(hf c hcm).1
  done:=by
    intro X hP hw hK hc i pins s σ H E I hf st hg;subst hP hw hK;obtain⟨xs,ys,hq,hr,hx⟩:=hg;obtain⟨its,rv,p,hzl⟩:=I.list hq;obtain⟨jts,rw',p2,Ztq⟩:=I.list hr;have AP:=UG D st p.isList p2.isList;obtain⟨hz,hTI,⟨o1,o2,hTO⟩,h1,h2⟩:=st;have e1:=rv.length;have e2:=rw'.length;refine wpAny_pyNext_zip_end (I.ok.hd hc) AP hz hTI hTO h1 h2 p.isList p2.isList ?_ λh' hk=>⟨rfl,Vy (ch:=[z,TI,TO,i1,i2]) (t':=s.toks) I (λc o hcn q=>?_) hf⟩
    · rcases hx with hx | hx
      · exact .inl (by simp;omega)
      · exact .inr (by simp;omega)
    · simp only[List.mem_cons,List.not_mem_nil,or_false,not_or]at hcn
      exact hk c o hcn.1 hcn.2.2.1 hcn.2.2.2.1 hcn.2.2.2.2 q
  self:=λA i s Q E st h=>wpAny_pyIter_zip st.1 h
theorem Zr7(n:Nat):Zd (n+4) (n+2) (n+3) n (n+1):=⟨(by omega:((n+2:Nat)≠(n+4:Nat))),(by omega:((n+3:Nat)≠(n+4:Nat))),(by omega:((n:Nat)≠(n+4:Nat))),(by omega:((n+1:Nat)≠(n+4:Nat))),(by omega:((n+2:Nat)≠(n+3:Nat))),(by omega:((n+2:Nat)≠(n:Nat))),(by omega:((n+2:Nat)≠(n+1:Nat))),(by omega:((n+3:Nat)≠(n:Nat))),(by omega:((n+3:Nat)≠(n+1:Nat))),(by omega:((n:Nat)≠(n+1:Nat)))⟩
theorem Zs2{X:Cx}{elts:List Expr}{x1:Nat}{pt:Pos}{l r:Expr}{ta:TA}{p pos:Pos}(hg:Gl X "zip")(hm:X.mg "zip"=none)(ha:PA X [l,r] ta)(hs:starEach [l,r] X.env=(false,eval l X.env)::starEach [r] X.env:=by rfl)(hp:(backTo pos (starEach [r] X.env)).any (·.1)=false:=by rfl):
  PI X (.Tuple elts x1 pt) (.Call (.Name "zip" p) [l,r] [] pos) (Ztp X.K ta):=by
 intro pins s σ H R I h;refine Call_ (BZ I hg hm boot_zip (PyProof.Rows.callWith_type1 (lU (ha pos pins s σ H _ I h) λus s1 ⟨vs,H1,I1,r1,q1⟩=>?_) hs hp));obtain⟨a,b,e,⟨xs,hq⟩,⟨ys,hr⟩,q⟩:=q1;subst e;cases r1 with
 | cons ra rr=>
  cases rr with
  | cons rb rr=>
   cases rr;obtain rfl:_=Value.ref a:=ra;obtain rfl:_=Value.ref b:=rb;obtain⟨its,rv,pl,hz⟩:=I1.list hq;obtain⟨jts,rv2,Xj,hz2⟩:=I1.list hr;refine call_zip_2 pl.isList Xj.isList λh' hzp hTI hTO h1 h2 hsz hk=>?_;have I2:Inv X pins σ H1 { s1 with heap:=h' }:=I1.kept (t':=s1.toks) hk
   refine wpAny_pyIter_zip (s:={ s1 with heap:=h' }) hzp ?_;have hf:∀b,s1.heap.objs.size<=b->uF X pins H1 b:=λb hb=>I1.Zei hb (I1.hok.fresh hb);refine⟨_,[s1.heap.objs.size+4,s1.heap.objs.size+2,s1.heap.objs.size+3,s1.heap.objs.size,s1.heap.objs.size+1],_,_,H1,rfl,I2,Zjh a b _ _ _ _ _ (Zr7 _),⟨hzp,hTI,⟨_,_,hTO⟩,h1,h2⟩,λc hc=>?_,q⟩;simp only[List.mem_cons,List.not_mem_nil,or_false]at hc;have hc2:(s1.heap.objs.size:Nat)<=(c:Nat):=by
    rcases hc with e | e | e | e | e<;>rw[e]
    ·exact Nat.le_add_right _ _
    ·exact Nat.le_add_right _ _
    ·exact Nat.le_add_right _ _
    ·exact Nat.le_refl _
    ·exact Nat.le_add_right _ _
   exact hf c hc2
section
variable {K:aV}{a b:Addr}{g:TG}{tb:TS}{σ:L2.St}{H:Hp}{n:L2.St->Hp->Prop}{r:VK}
theorem ZFj(xs ys:List V)(hlen:xs.length=ys.length)(Pv:Nat->L2.St->Hp->Prop)(h0:Pv 0 σ H)(hl:∀i σ H,i<=xs.length->Pv i σ H->fj K H a xs/\fj K H b ys)
  (hs:∀i x y t σ H,xs[i]? =some x->ys[i]? =some y->Pv i σ H->H t=none->g (.ref t) σ (upd H t (.tup [x,y])) λσ2 H2=>tb ⟨Pv (i+1),r,n,Pv (i+1)⟩ σ2 H2) (hd:∀ σ H,Pv xs.length σ H->n σ H):
  ∃W:Nat->Nat->L2.St->Hp->Prop,(∃m,W 0 m σ H)/\∀i m σ H,W i m σ H->
   ((Itz K a b).stop i H/\n σ H)\/((Itz K a b).go i H/\∃N:L2.St->Hp->Prop,(∀ σ' H',N σ' H'->∃m',m'<m/\W (i+1) m' σ' H')/\∀x H',(Itz K a b).Zq i H x H'->g x σ H' λσ2 H2=>tb ⟨N,r,n,N⟩ σ2 H2):=by
 refine⟨λi m σ H=>i<=xs.length/\m=xs.length - i/\Pv i σ H,⟨xs.length,Nat.zero_le _,rfl,h0⟩,?_⟩;rintro i m σ H ⟨hi,rfl,p⟩;obtain⟨hq,hr⟩:=hl i σ H hi p
 by_cases hk:i=xs.length
 ·subst hk;exact .inl ⟨⟨xs,ys,hq,hr,.inl (Nat.le_refl _)⟩,hd σ H p⟩
 ·have hlt:i<xs.length:=by omega
  have hx:xs[i]? =some xs[i]:=eV hlt;have hy:ys[i]? =some (ys[i]'(by omega)):=eV (by omega);refine .inr ⟨⟨xs,ys,_,_,hq,hr,hx,hy⟩,Pv (i+1),λσ' H' p'=>⟨xs.length - (i+1),by omega,by omega,rfl,p'⟩,?_⟩;rintro v H' ⟨t,x,y,rfl,ht,rfl,h1,h2⟩;exact hs i x y t σ H (h1 xs hq) (h2 ys hr) p ht
end
end G
namespace G
open PySem L2 PySem.Spec PyProof.Rows
def Dq(K:aV)(H:Hp):Nat->V->V->Prop
 | 0,x,y=>x=y/\nM x=true
 | d+1,x,y=>(x=y/\nM x=true)\/∃a b,x=.ref a/\y=.ref b/\(a=b\/∃xs ys,((fj K H a xs/\fj K H b ys)\/(jE K H a xs/\jE K H b ys))/\Al (Dq K H d) xs ys)
theorem Ie{K:aV}{H:Hp}{d:Nat}{x:V}(h:nM x=true):Dq K H d x x:=by
 cases d with
 | zero=>exact⟨rfl,h⟩
 | succ d=>exact .inl ⟨rfl,h⟩
theorem Rw{K:aV}{H:Hp}{d:Nat}:∀{xs:List V},xs.all nM=true->Al (Dq K H d) xs xs
 | [],_=>.nil
 | x::xs,h=>by
  rw[List.all_cons,Bool.and_eq_true]at h;exact .cons (Ie h.1) (Rw h.2)
def Zha(K:aV)(neg:Bool):R2:=λx y H Q=>∃a b xs ys,x=.ref a/\y=.ref b/\((fj K H a xs/\fj K H b ys)\/(jE K H a xs/\jE K H b ys))/\Al (Dq K H 6) xs ys/\Q (.bl (!neg)) H
section
variable {X:Cx}
theorem Zb9:∀{x:V},nM x=true->eqV x x=true
 | .non,_=>rfl
 | .bl b,_=>by cases b<;>rfl
 | .int i,_=>by simp[eqV]
 | .str z,_=>by simp[eqV]
theorem Zwg{pins:List (Addr×Obj)}{σ:L2.St}{H:Hp}{s:Shared}(I:Inv X pins σ H s):∀(d:Nat) {A:Around}{x y:V}{u v:Value},A.units+d<cLine->RelV x u->RelV y v->Dq X.K H d x y->SeqAt.EqAt A s u v true:=by
 intro d
 induction d with
 | zero=>
  intro A x y u v hu rx ry h;obtain⟨rfl,hf⟩:=h;have:=YW (A:=A) (s:=s) rx ry hf hf;rw[Zb9 hf]at this;exact this
 | succ d ih=>
  intro A x y u v hu rx ry h;rcases h with ⟨rfl,hf⟩ | ⟨a,b,rfl,rfl,h⟩
  ·have:=YW (A:=A) (s:=s) rx ry hf hf;rw[Zb9 hf]at this;exact this
  ·obtain rfl:u=Value.ref a:=rx;obtain rfl:v=Value.ref b:=ry
   by_cases e:a=b
   ·subst e;exact SeqAt.EqAt.same _
   rcases h with rfl | ⟨xs,ys,hs,al⟩
   ·exact absurd rfl e
   ·refine SeqAt.EqAt.of_refs e ?_;have hl:=al.length;have hu':A.units<cLine:=by omega
    have item:∀{us ws:List Value},Vals xs us->Vals ys ws->∀(j:Nat) (h1:j<us.toArray.size) (h2:j<ws.toArray.size),SeqAt.EqAt A.in1 s us.toArray[j] ws.toArray[j] true:=by
     intro us ws r1 r2 j h1 h2;rw[List.size_toArray]at h1 h2;have l1:=r1.length;have l2:=r2.length;have a1:xs[j]? =some xs[j]:=eV (by omega);have a2:ys[j]? =some ys[j]:=eV (by omega);obtain⟨u',e1,q1⟩:=r1.get a1;obtain⟨w',e2,q2⟩:=r2.get a2;rw[eV h1]at e1;rw[eV h2]at e2;cases e1;cases e2;obtain⟨x',e3,dq⟩:=al.get a2;rw[a1]at e3;cases e3;exact ih (A:=A.in1) (by show A.units+1+d<cLine;omega) q1 q2 dq
    rcases hs with ⟨ha,hb⟩ | ⟨ha,hb⟩
    ·obtain⟨us,r1,pl1,_⟩:=I.list ha;obtain⟨ws,r2,Xj,_⟩:=I.list hb;have:=SeqAt.RcAt.lists (A:=A) (e:=λ_=>true) pl1.isList Xj.isList (by rw[List.size_toArray,List.size_toArray,<- r1.length,<- r2.length];exact hl) hu' (λj h1 h2=>item r1 r2 j h1 h2);rw[show(List.range us.toArray.size).all (λ_=>true)=true from by rw[List.all_eq_true];intros;rfl]at this;exact this
    ·obtain⟨us,r1,pl1,_⟩:=I.tuple ha;obtain⟨ws,r2,Xj,_⟩:=I.tuple hb;have e0:us.toArray.size=ws.toArray.size:=by rw[List.size_toArray,List.size_toArray,<- r1.length,<- r2.length];exact hl
     have:=SeqAt.RcAt.tuples (A:=A) (e:=λ_=>true) pl1 Xj hu' (λj h1 h2=>item r1 r2 j h1 h2);rw[show(List.range (min us.toArray.size ws.toArray.size)).all (λ_=>true)=true from by rw[List.all_eq_true];intros;rfl,e0]at this;simpa using this
theorem CT{pins:List (Addr×Obj)}{σ:L2.St}{H:Hp}{s:Shared}(I:Inv X pins σ H s){A:Around}(hu:A.units+8<cLine){xs ys:List V}{us ws:List Value}(al:Al (Dq X.K H 6) xs ys)(r1:Vals xs us)(r2:Vals ys ws)(j:Nat)(h1:j<us.toArray.size)(h2:j<ws.toArray.size):SeqAt.EqAt A.in1 s us.toArray[j] ws.toArray[j] true:=by
 rw[List.size_toArray]at h1 h2;have l1:=r1.length;have l2:=r2.length;have a1:xs[j]? =some xs[j]:=eV (by omega);have a2:ys[j]? =some ys[j]:=eV (by omega);obtain⟨u',e1,q1⟩:=r1.get a1;obtain⟨w',e2,q2⟩:=r2.get a2;rw[eV h1]at e1;rw[eV h2]at e2;cases e1;cases e2;obtain⟨x',e3,dq⟩:=al.get a2;rw[a1]at e3;cases e3;exact Zwg I 6 (A:=A.in1) (by show A.units+1+6<cLine;omega) q1 q2 dq
theorem Zs6(hu:X.A.units+64<cLine):Ad X (compareOp .Eq) (Zha X.K false):=by
 intro pins s σ H x y v u Q I rx ry h;obtain⟨p,q',xs,ys,rfl,rfl,hs,al,q⟩:=h;obtain rfl:v=Value.ref p:=rx;obtain rfl:u=Value.ref q':=ry;have hl:=al.length;rcases hs with ⟨ha,hb⟩ | ⟨ha,hb⟩
 ·obtain⟨us,r1,pl1,_⟩:=I.list ha;obtain⟨ws,r2,Xj,_⟩:=I.list hb;refine SeqAt.eq_listAt (e:=λ_=>true) pl1.isList Xj.isList (by rw[List.size_toArray,List.size_toArray,<- r1.length,<- r2.length];exact hl) (by omega) (CT I (by omega) al r1 r2) ?_;rw[show(List.range us.toArray.size).all (λ_=>true)=true from by rw[List.all_eq_true];intros;rfl];exact⟨.bl _,H,I,rfl,q⟩
 ·obtain⟨us,r1,pl1,_⟩:=I.tuple ha;obtain⟨ws,r2,Xj,_⟩:=I.tuple hb;have e0:us.toArray.size=ws.toArray.size:=by rw[List.size_toArray,List.size_toArray,<- r1.length,<- r2.length];exact hl
  refine SeqAt.eq_tupleAt (e:=λ_=>true) pl1 Xj (by omega) (CT I (by omega) al r1 r2) ?_;rw[show(List.range (min us.toArray.size ws.toArray.size)).all (λ_=>true)=true from by rw[List.all_eq_true];intros;rfl,e0];simp only[beq_self_eq_true,Bool.and_self];exact⟨.bl _,H,I,rfl,q⟩
theorem Zdd(hu:X.A.units+64<cLine):Ad X (compareOp .NotEq) (Zha X.K true):=by
 intro pins s σ H x y v u Q I rx ry h;obtain⟨p,q',xs,ys,rfl,rfl,hs,al,q⟩:=h;obtain rfl:v=Value.ref p:=rx;obtain rfl:u=Value.ref q':=ry;have hl:=al.length;rcases hs with ⟨ha,hb⟩ | ⟨ha,hb⟩
 ·obtain⟨us,r1,pl1,_⟩:=I.list ha;obtain⟨ws,r2,Xj,_⟩:=I.list hb;have:=SeqAt.RcNeAt.lists (A:=X.A) (s:=s) (e:=λ_=>true) pl1.isList Xj.isList (by rw[List.size_toArray,List.size_toArray,<- r1.length,<- r2.length];exact hl) (by omega) (CT I (by omega) al r1 r2);rw[show(List.range us.toArray.size).all (λ_=>true)=true from by rw[List.all_eq_true];intros;rfl]at this;exact this _ _ _ _ ⟨.bl _,H,I,rfl,q⟩
 ·obtain⟨us,r1,pl1,_⟩:=I.tuple ha;obtain⟨ws,r2,Xj,_⟩:=I.tuple hb;have e0:us.toArray.size=ws.toArray.size:=by rw[List.size_toArray,List.size_toArray,<- r1.length,<- r2.length];exact hl
  have:=SeqAt.RcNeAt.tuples (A:=X.A) (s:=s) (e:=λ_=>true) pl1 Xj (by omega) (CT I (by omega) al r1 r2);rw[show(List.range (min us.toArray.size ws.toArray.size)).all (λ_=>true)=true from by rw[List.all_eq_true];intros;rfl,e0]at this;simp only[beq_self_eq_true,Bool.and_self]at this;exact this _ _ _ _ ⟨.bl _,H,I,rfl,q⟩
end
end G
namespace G
open PySem L2 PySem.Spec PyProof.Rows PySem.Builtin PySem.Builtin.Str
theorem Zy:∀{ys:List Str}{us:List Value},Vals (ys.map V.str) us->StrsAre us ys
 | [],_,.nil=>.nil
 | y::ys,_,.cons ⟨t,e⟩ r=>by subst e;exact .cons y t (Zy r)
def Xf(K:aV):V->List V->Hp->VK->Prop:=λx xs H Q=>∃z a ys,x=.str z/\xs=[.ref a]/\fj K H a (ys.map V.str)/\z.length<=16/\(ys.map (·.length)).sum+ys.length<=1048576/\Q (.str (Txt.join z ys)) H
section
variable {X:Cx}
theorem XM:MtM X "str.join" (Xf X.K):=by
 intro pins s σ H x xs v us Q I rx rv h;obtain⟨z,a,ys,rfl,rfl,hq,hz,hw,q⟩:=h;obtain⟨t,rfl⟩:=rx;obtain⟨u,rfl,ru⟩:=rv.one;obtain rfl:u=Value.ref a:=ru;obtain⟨its,r,pl,_⟩:=I.list hq;exact join_listW pl.isList (Zy r) hz hw λt' k=>⟨.str (Txt.join z ys),H,I.tok _,⟨t',rfl⟩,q⟩
end
def Zgj:List V->Hp->VK->Prop:=λxs H Q=>Zbm xs H Q\/∃z,xs=[.str z]/\Q (.str z) H
theorem Wg{X:Cx}:DX X (.type "str") Zgj:=by
 intro pins s σ H xs us Q I r h;rcases h with h | ⟨z,rfl,q⟩
 ·exact K8 pins s σ H xs us Q I r h
 ·obtain⟨u,rfl,t,rfl⟩:=vals1 r;exact PySem.P.str_of_str ⟨.str z,H,I,⟨t,rfl⟩,q⟩
def wj(K:aV)(a:Addr)(xs:List V):Prop:=∀H,jE K H a xs
def jl(c:Nat):List Str->List Nat
 | []=>[]
 | [x]=>x.cps.toList
 | x::y::r=>x.cps.toList++c::jl c (y::r)
theorem tE(c:Nat):∀ps:List Str,(Str.join ⟨#[c]⟩ ps).cps.toList=jl c ps
 | []=>rfl
 | [x]=>rfl
 | x::y::r=>by
  show(x++⟨#[c]⟩++Str.join ⟨#[c]⟩ (y::r)).cps.toList=_;rw[show(x++⟨#[c]⟩++Str.join ⟨#[c]⟩ (y::r)).cps.toList=x.cps.toList++[c]++(Str.join ⟨#[c]⟩ (y::r)).cps.toList from by rw[cps_toList_append,cps_toList_append],tE c (y::r)];show _=x.cps.toList++c::jl c (y::r);rw[List.append_assoc];rfl
theorem Ol{p q:Str}(h:p.cps.toList=q.cps.toList):p=q:=by
 cases p;cases q;congr 1;exact Array.toList_inj.mp h
end G
namespace G
open PySem L2 PySem.Spec PyProof.Rows
def qJ(tup:Bool)(h:Heap)(it src:Addr)(k:Nat):Prop:=match tup with
 | true=>h.IsTupleIter it src k
 | false=>h.IsListIter it src k
def tW(tup:Bool)(h:Heap)(src:Addr)(items:Array Value):Prop:=match tup with
 | true=>h.IsTuple src items
 | false=>h.IsList src items
theorem qJ.ext{tup:Bool}{h h':Heap}{it src b:Addr}{k:Nat}(x:qJ tup h it src k)(hs:Heap.ExtBut b h h')(n:it≠b):qJ tup h' it src k:=by
 cases tup
 ·exact Heap.IsListIter.extBut x hs n
 ·exact Heap.IsTupleIter.extBut x hs n
theorem tW.ext{tup:Bool}{h h':Heap}{src b:Addr}{items:Array Value}(x:tW tup h src items)(hs:Heap.ExtBut b h h')(n:src≠b):tW tup h' src items:=by
 cases tup
 ·exact Heap.IsList.extBut x hs n
 ·exact Heap.IsTuple.extBut x hs n
theorem qJ.obj{tup:Bool}{h:Heap}{it src:Addr}{k:Nat}(x:qJ tup h it src k):∃o,h.get? it=some o/\∃fs,o.data=.fields fs:=by
 cases tup
 ·obtain⟨o,ho,_,d⟩:=(show h.IsListIter it src k from x);exact⟨o,ho,_,d⟩
 ·obtain⟨o,ho,_,d⟩:=(show h.IsTupleIter it src k from x);exact⟨o,ho,_,d⟩
theorem qJ.at{tup:Bool}{h h':Heap}{it src:Addr}{k:Nat}(x:qJ tup h it src k)(f:∀o,h.get? it=some o->h'.get? it=some o):qJ tup h' it src k:=by
 cases tup
 ·obtain⟨o,ho,r⟩:=(show h.IsListIter it src k from x);exact⟨o,f o ho,r⟩
 ·obtain⟨o,ho,r⟩:=(show h.IsTupleIter it src k from x);exact⟨o,f o ho,r⟩
section
variable {prog:Program}{w:World}{A:Around}{E:Value->Shared->Prop}{s:Shared}
theorem Zle{it t:Addr}{i:Nat}{items:Array Value}{x:Value}{Q:Value->Shared->Prop}(hit:s.heap.IsTupleIter it t i)(ht:s.heap.IsTuple t items)(hx:items[i]? =some x)(hQ:∀h',h'.IsTupleIter it t (i+1)->Heap.SameBut it s.heap h'->Q x { s with heap:=h' }):
  wpAny (model prog w) A (Builtin.SmallTypes.nextOf (.ref it)) Q E s:=by
 obtain⟨o,ho,hc,hd⟩:=id hit;obtain⟨ol,hol,_,nl,hdl⟩:=ht;unfold Builtin.SmallTypes.nextOf;refine wpAny_bind (wpAny_callSpecial?_slot (name:=Str.ofString "__next__") hit.typeIs F.slot_tuple_iterator_next (wpAny_call_entry F.slot_tuple_iterator_next hit.typeIs F.entry_tuple_iterator_next ?_ (F.args_tuple_iterator_next_1 _)));show wpAny _ _ (field (.ref it) 0 >>= _) _ _ s;refine wpAny_bind (wpAny_field ho hd (x:=.ref t) rfl ?_);show wpAny _ _ (if (Value.ref t == Value.none)=true then _ else _) _ _ s;rw[if_neg (show ¬ ((Value.ref t == Value.none)=true)from Bool.false_ne_true)];show wpAny _ _ (field (.ref it) 1 >>= _) _ _ s;refine wpAny_bind (wpAny_field ho hd (x:=.int i 0) rfl ?_);show wpAny _ _ (seqItems? (.ref t) >>= _) _ _ s;refine wpAny_bind (wpAny_seqItems hol hdl ?_);simp only[Int.toNat_natCast,hx];refine wpAny_bind (wpAny_setField ho hd (by simp) (wpAny_pure ⟨x,rfl,wpAny_pure (hQ _ ?_ (Heap.SameBut.update ..))⟩));exact⟨_,Heap.get?_update_self _ ho (Obj.isFreed_of_fields (Obj.data_mapFields hd _)),(Obj.cls_mapFields ..).trans hc,by rw[Obj.data_mapFields hd];simp[rawInt]⟩
theorem XH{it t:Addr}{i:Nat}{items:Array Value}{Q:Value->Shared->Prop}(hh:A.handled=none)(hit:s.heap.IsTupleIter it t i)(ht:s.heap.IsTuple t items)(hx:items[i]? =none)
  (hE:∀h' e,Heap.ExtBut it s.heap h'->(∃o,h'.get? e=some o/\o.cls=.type "StopIteration")->E (.ref e) { s with heap:=h' }):wpAny (model prog w) A (Builtin.SmallTypes.nextOf (.ref it)) Q E s:=by
 obtain⟨o,ho,hc,hd⟩:=id hit;obtain⟨ol,hol,_,nl,hdl⟩:=ht;unfold Builtin.SmallTypes.nextOf;refine wpAny_bind (wpAny_callSpecial?_slot (name:=Str.ofString "__next__") hit.typeIs F.slot_tuple_iterator_next (wpAny_call_entry F.slot_tuple_iterator_next hit.typeIs F.entry_tuple_iterator_next ?_ (F.args_tuple_iterator_next_1 _)));show wpAny _ _ (field (.ref it) 0 >>= _) _ _ s;refine wpAny_bind (wpAny_field ho hd (x:=.ref t) rfl ?_);show wpAny _ _ (if (Value.ref t == Value.none)=true then _ else _) _ _ s;rw[if_neg (show ¬ ((Value.ref t == Value.none)=true)from Bool.false_ne_true)];show wpAny _ _ (field (.ref it) 1 >>= _) _ _ s;refine wpAny_bind (wpAny_field ho hd (x:=.int i 0) rfl ?_);show wpAny _ _ (seqItems? (.ref t) >>= _) _ _ s;refine wpAny_bind (wpAny_seqItems hol hdl ?_);simp only[Int.toNat_natCast,hx];refine wpAny_bind (wpAny_rule (wpAny_bind (wpAny_setField ho hd (by simp) ?_)));show wpAny _ _ (newExc (.type "StopIteration") [] >>= _) _ _ _;refine wpAny_bind ?_;simp only[newExc,newTuple];refine wpAny_bind (wpAny_newObj_type ?_ (by size_fits));refine wpAny_bind (m:=firstArgMember _ _) (wpAny_of_eq (a:=Value.none) (by first | rfl | (simp only[firstArgMember];rfl)) ?_);refine wpAny_newObj_type ?_ (by size_fits);simp only[raiseNew];refine wpAny_bind (wpAny_handled ?_)
 first | rw[show A.in1.handled=none from hh] | rw[hh]
 refine wpAny_bind (wpAny_pure (wpAny_throw ?_));exact hE _ _ (((Heap.SameBut.update ..).extBut.push _).push _) ⟨_,Heap.get?_push_size _ rfl,rfl⟩
theorem XD{tup:Bool}{it l:Addr}{i:Nat}{items:Array Value}{x:Value}{Q:Value->Shared->Prop}(hit:qJ tup s.heap it l i)(hl:tW tup s.heap l items)(hx:items[i]? =some x)(hQ:∀h',qJ tup h' it l (i+1)->Heap.SameBut it s.heap h'->Q x { s with heap:=h' }):
  wpAny (model prog w) A (Builtin.SmallTypes.nextOf (.ref it)) Q E s:=by
 cases tup
 ·exact wpAny_nextOf_list_item hit hl hx hQ
 ·exact Zle hit hl hx hQ
theorem Zla{tup:Bool}{it l:Addr}{i:Nat}{items:Array Value}{Q:Value->Shared->Prop}(hh:A.handled=none)(hit:qJ tup s.heap it l i)(hl:tW tup s.heap l items)(hx:items[i]? =none)
  (hE:∀h' e,Heap.ExtBut it s.heap h'->(∃o,h'.get? e=some o/\o.cls=.type "StopIteration")->E (.ref e) { s with heap:=h' }):wpAny (model prog w) A (Builtin.SmallTypes.nextOf (.ref it)) Q E s:=by
 cases tup
 ·exact wpAny_nextOf_list_end hh hit hl hx hE
 ·exact XH hh hit hl hx hE
theorem Znu{t1 t2:Bool}{z TI TO i1 i2 l1 l2:Addr}{k:Nat}{xs ys:Array Value}{x y a b:Value}{Q:Value->Shared->Prop}(D:ZipApart z TI TO i1 i2 l1 l2)
  (hz:IsZip s.heap z TI TO .none) (hTI:IsPair s.heap TI (.ref i1) (.ref i2)) (hTO:IsPair s.heap TO a b)
  (h1:qJ t1 s.heap i1 l1 k) (h2:qJ t2 s.heap i2 l2 k) (hl1:tW t1 s.heap l1 xs) (hl2:tW t2 s.heap l2 ys) (hx:xs[k]? =some x) (hy:ys[k]? =some y)
  (hQ:∀h',IsZip h' z TI TO (rawInt s.heap.objs.size)->IsPair h' TO x y->qJ t1 h' i1 l1 (k+1)->qJ t2 h' i2 l2 (k+1)->IsPair h' s.heap.objs.size x y->
   (∀c o,c≠z->c≠TO->c≠i1->c≠i2->s.heap.get? c=some o->h'.get? c=some o)->Q (.ref s.heap.objs.size) { s with heap:=h' }):
  wpAny (model prog w) A (Builtin.«zip.__next__» ⟨[.ref z],[]⟩) (λfin s'=>∃v,fin=.done (.ret v)/\Q v s') E s:=by
 show wpAny _ _ (field (.ref z) 2 >>= _) _ _ _;refine wpAny_bind (wpAny_field hz rfl (x:=.bool false) rfl ?_);show wpAny _ _ (field (.ref z) 3 >>= _) _ _ _;refine wpAny_bind (wpAny_field hz rfl (x:=.ref TI) rfl (wpAny_bind (wpAny_seqItems hTI rfl ?_)));show wpAny _ _ (Builtin.SmallTypes.ownedTupleIsFree (.ref z) >>= _) _ _ _;refine wpAny_bind ?_;unfold Builtin.SmallTypes.ownedTupleIsFree;refine wpAny_bind (wpAny_field hz rfl (x:=.none) rfl (wpAny_pure ?_));simp only[if_true];refine wpAny_bind (wpAny_rule (wpAny_bind (wpAny_field hz rfl (x:=.ref TO) rfl (wpAny_bind (wpAny_setField_rec hz (by simp) λg1 q1 e1=>wpAny_bind ?_)))))
 replace q1:IsZip g1 z TI TO .ellipsis:=q1
 simp only[List.zipIdx_cons,List.zipIdx_nil,List.forIn_cons,List.forIn_nil];refine wpAny_bind (wpAny_bind (wpAny_onRaise ?_));show wpAny _ _ (Builtin.SmallTypes.nextOf (.ref i1) >>= _) _ _ _;refine wpAny_bind (XD (h1.ext e1.extBut D.i1z) (hl1.ext e1.extBut D.l1z) hx λg2 n1 e2=>wpAny_pure ?_);have o2:IsPair g2 TO a b:=e2.extBut _ _ D.TOi1 (e1.extBut _ _ D.TOz hTO);refine wpAny_bind (wpAny_seqItems o2 rfl (wpAny_bind (wpAny_updateSeq_pair o2 λg3 o3 e3=>wpAny_bind (wpAny_letGo (wpAny_pure ?_)))))
 replace o3:IsPair g3 TO x b:=o3
 refine wpAny_bind (wpAny_bind (wpAny_onRaise ?_));show wpAny _ _ (Builtin.SmallTypes.nextOf (.ref i2) >>= _) _ _ _;refine wpAny_bind (XD (((h2.ext e1.extBut D.i2z).ext e2.extBut D.i12.symm).ext e3.extBut D.TOi2.symm) (((hl2.ext e1.extBut D.l2z).ext e2.extBut D.l2i1).ext e3.extBut D.l2TO) hy λg4 n2 e4=>wpAny_pure ?_);have o4:IsPair g4 TO x b:=e4.extBut _ _ D.TOi2 o3;refine wpAny_bind (wpAny_seqItems o4 rfl (wpAny_bind (wpAny_updateSeq_pair o4 λg5 o5 e5=>wpAny_bind (wpAny_letGo (wpAny_pure (wpAny_pure ?_))))))
 replace o5:IsPair g5 TO x y:=o5
 refine wpAny_bind (wpAny_seqItems o5 rfl (wpAny_bind (wpAny_newTuple ?_)));have sz:g5.objs.size=s.heap.objs.size:=by rw[e5.1,e4.1,e3.1,e2.1,e1.1]
 have z5:IsZip g5 z TI TO .ellipsis:=e5.extBut _ _ D.TOz.symm (e4.extBut _ _ D.i2z.symm (e3.extBut _ _ D.TOz.symm (e2.extBut _ _ D.i1z.symm q1)));have k5:∀c o,c≠z->c≠TO->c≠i1->c≠i2->s.heap.get? c=some o->g5.get? c=some o:=λc o c1 c2 c3 c4 e=>e5.extBut _ _ c2 (e4.extBut _ _ c4 (e3.extBut _ _ c2 (e2.extBut _ _ c3 (e1.extBut _ _ c1 e))));have m1:qJ t1 g5 i1 l1 (k+1):=((n1.ext e3.extBut D.TOi1.symm).ext e4.extBut D.i12).ext e5.extBut D.TOi1.symm;have m2:qJ t2 g5 i2 l2 (k+1):=n2.ext e5.extBut D.TOi2.symm;have zl:z<g5.objs.size:=Heap.lt_size z5;show wpAny _ _ (Builtin.SmallTypes.ownedTupleHandOut (.ref z) (.ref g5.objs.size) >>= _) _ _ _;refine wpAny_bind ?_;unfold Builtin.SmallTypes.ownedTupleHandOut;have z6:IsZip (g5.push { cls:=.type "tuple",data:=.seq #[x,y] }) z TI TO .ellipsis:=Heap.get?_push_of_some _ z5;refine wpAny_bind (wpAny_setField_rec z6 (by simp) λg7 z7 e7=>?_)
 replace z7:IsZip g7 z TI TO (rawInt g5.objs.size):=z7
 refine wpAny_setField_rec z7 (by simp) λg8 z8 e8=>?_
 replace z8:IsZip g8 z TI TO (rawInt g5.objs.size):=z8
 have up:∀c o,c≠z->g5.get? c=some o->g8.get? c=some o:=λc o c1 e=>e8.extBut _ _ c1 (e7.extBut _ _ c1 (Heap.get?_push_of_some _ e));have tp:IsPair g8 g5.objs.size x y:=e8.extBut _ _ (Nat.ne_of_gt zl) (e7.extBut _ _ (Nat.ne_of_gt zl) (Heap.get?_push_size _ rfl));rw[sz]at z8 tp;refine wpAny_pure ⟨_,rfl,?_⟩;show Q (.ref g5.objs.size) _;rw[sz];exact hQ g8 z8 (up _ _ D.TOz o5) (m1.at λo e=>up _ o D.i1z e) (m2.at λo e=>up _ o D.i2z e) tp λc o c1 c2 c3 c4 e=>up c o c1 (k5 c o c1 c2 c3 c4 e)
theorem Zri{t1 t2:Bool}{z TI TO i1 i2 l1 l2:Addr}{k:Nat}{xs ys:Array Value}{a b:Value}{Q:Fin->Shared->Prop}(hh:A.handled=none)(D:ZipApart z TI TO i1 i2 l1 l2)
  (hz:IsZip s.heap z TI TO .none) (hTI:IsPair s.heap TI (.ref i1) (.ref i2)) (hTO:IsPair s.heap TO a b)
  (h1:qJ t1 s.heap i1 l1 k) (h2:qJ t2 s.heap i2 l2 k) (hl1:tW t1 s.heap l1 xs) (hl2:tW t2 s.heap l2 ys) (hend:xs[k]? =none\/ys[k]? =none)
  (hE:∀h' e,(∀c o,c≠z->c≠TO->c≠i1->c≠i2->s.heap.get? c=some o->h'.get? c=some o)->(∃o,h'.get? e=some o/\o.cls=.type "StopIteration")->E (.ref e) { s with heap:=h' }):
  wpAny (model prog w) A (Builtin.«zip.__next__» ⟨[.ref z],[]⟩) Q E s:=by
 have last:∀{h:Heap}{e:Addr},IsZip h z TI TO .ellipsis->(∃o,h.get? e=some o/\o.cls=.type "StopIteration")->e≠z:=λhz' ⟨o,ho,hc⟩ x=>by subst x;rw[hz']at ho;cases ho;simp at hc
 show wpAny _ _ (field (.ref z) 2 >>= _) _ _ _;refine wpAny_bind (wpAny_field hz rfl (x:=.bool false) rfl ?_);show wpAny _ _ (field (.ref z) 3 >>= _) _ _ _;refine wpAny_bind (wpAny_field hz rfl (x:=.ref TI) rfl (wpAny_bind (wpAny_seqItems hTI rfl ?_)));show wpAny _ _ (Builtin.SmallTypes.ownedTupleIsFree (.ref z) >>= _) _ _ _;refine wpAny_bind ?_;unfold Builtin.SmallTypes.ownedTupleIsFree;refine wpAny_bind (wpAny_field hz rfl (x:=.none) rfl (wpAny_pure ?_));simp only[if_true];refine wpAny_bind (wpAny_rule (wpAny_bind (wpAny_field hz rfl (x:=.ref TO) rfl (wpAny_bind (wpAny_setField_rec hz (by simp) λg1 q1 e1=>wpAny_bind ?_)))))
 replace q1:IsZip g1 z TI TO .ellipsis:=q1
 simp only[List.zipIdx_cons,List.zipIdx_nil,List.forIn_cons,List.forIn_nil];refine wpAny_bind (wpAny_bind (wpAny_onRaise ?_));show wpAny _ _ (Builtin.SmallTypes.nextOf (.ref i1) >>= _) _ _ _;cases hx:xs[k]? with
 | none=>
  refine wpAny_bind (Zla hh (h1.ext e1.extBut D.i1z) (hl1.ext e1.extBut D.l1z) hx λg2 e e2 he=>?_);have q2:IsZip g2 z TI TO .ellipsis:=e2 _ _ D.i1z.symm q1;have ez:=last q2 he;obtain⟨oe,hoe,hce⟩:=he;exact wpAny_setField_rec q2 (by simp) λg3 _ e3=>hE g3 e (λc o c1 _ c3 _ x=>e3.extBut _ _ c1 (e2 _ _ c3 (e1.extBut _ _ c1 x))) ⟨oe,e3.extBut _ _ ez hoe,hce⟩
 | some x=>
  have hy:ys[k]? =none:=by rcases hend with h | h;rw[hx]at h;cases h;exact h
  refine wpAny_bind (XD (h1.ext e1.extBut D.i1z) (hl1.ext e1.extBut D.l1z) hx λg2 n1 e2=>wpAny_pure ?_);have o2:IsPair g2 TO a b:=e2.extBut _ _ D.TOi1 (e1.extBut _ _ D.TOz hTO);refine wpAny_bind (wpAny_seqItems o2 rfl (wpAny_bind (wpAny_updateSeq_pair o2 λg3 o3 e3=>wpAny_bind (wpAny_letGo (wpAny_pure ?_)))));refine wpAny_bind (wpAny_bind (wpAny_onRaise ?_));show wpAny _ _ (Builtin.SmallTypes.nextOf (.ref i2) >>= _) _ _ _;refine wpAny_bind (Zla hh (((h2.ext e1.extBut D.i2z).ext e2.extBut D.i12.symm).ext e3.extBut D.TOi2.symm) (((hl2.ext e1.extBut D.l2z).ext e2.extBut D.l2i1).ext e3.extBut D.l2TO) hy λg4 e e4 he=>?_);have q4:IsZip g4 z TI TO .ellipsis:=e4 _ _ D.i2z.symm (e3.extBut _ _ D.TOz.symm (e2.extBut _ _ D.i1z.symm q1));have ez:=last q4 he;obtain⟨oe,hoe,hce⟩:=he;exact wpAny_setField_rec q4 (by simp) λg5 _ e5=>hE g5 e (λc o c1 c2 c3 c4 x=>e5.extBut _ _ c1 (e4 _ _ c4 (e3.extBut _ _ c2 (e2.extBut _ _ c3 (e1.extBut _ _ c1 x))))) ⟨oe,e5.extBut _ _ ez hoe,hce⟩
theorem Zoj{t1 t2:Bool}{z TI TO i1 i2 l1 l2:Addr}{k:Nat}{xs ys:Array Value}{x y a b:Value}{Q:Option Value->Shared->Prop}(D:ZipApart z TI TO i1 i2 l1 l2)
  (hz:IsZip s.heap z TI TO .none) (hTI:IsPair s.heap TI (.ref i1) (.ref i2)) (hTO:IsPair s.heap TO a b)
  (h1:qJ t1 s.heap i1 l1 k) (h2:qJ t2 s.heap i2 l2 k) (hl1:tW t1 s.heap l1 xs) (hl2:tW t2 s.heap l2 ys) (hx:xs[k]? =some x) (hy:ys[k]? =some y)
  (hQ:∀h',IsZip h' z TI TO (rawInt s.heap.objs.size)->IsPair h' TO x y->qJ t1 h' i1 l1 (k+1)->qJ t2 h' i2 l2 (k+1)->IsPair h' s.heap.objs.size x y->
   (∀c o,c≠z->c≠TO->c≠i1->c≠i2->s.heap.get? c=some o->h'.get? c=some o)->Q (some (.ref s.heap.objs.size)) { s with heap:=h' }):
  wpAny (model prog w) A (pyNext (.ref z)) Q E s:=by
 have hT:s.TypeIs (.ref z) "zip":=⟨_,hz,rfl⟩;unfold pyNext;exact wpAny_bind (wpAny_attempt (wpAny_callSpecial?_slot (name:=Str.ofString "__next__") hT F.slot_zip_next (wpAny_call_entry F.slot_zip_next hT F.entry_zip_next (Znu D hz hTI hTO h1 h2 hl1 hl2 hx hy λh' a1 a2 a3 a4 a5 a6=>wpAny_pure (hQ h' a1 a2 a3 a4 a5 a6)) (F.args_zip_next_1 _))))
theorem Zrz{t1 t2:Bool}{z TI TO i1 i2 l1 l2:Addr}{k:Nat}{xs ys:Array Value}{a b:Value}{Q:Option Value->Shared->Prop}(hh:A.handled=none)(D:ZipApart z TI TO i1 i2 l1 l2)
  (hz:IsZip s.heap z TI TO .none) (hTI:IsPair s.heap TI (.ref i1) (.ref i2)) (hTO:IsPair s.heap TO a b)
  (h1:qJ t1 s.heap i1 l1 k) (h2:qJ t2 s.heap i2 l2 k) (hl1:tW t1 s.heap l1 xs) (hl2:tW t2 s.heap l2 ys) (hend:xs[k]? =none\/ys[k]? =none)
  (hQ:∀h',(∀c o,c≠z->c≠TO->c≠i1->c≠i2->s.heap.get? c=some o->h'.get? c=some o)->Q none { s with heap:=h' }):wpAny (model prog w) A (pyNext (.ref z)) Q E s:=by
 have hT:s.TypeIs (.ref z) "zip":=⟨_,hz,rfl⟩;unfold pyNext;refine wpAny_bind (wpAny_attempt (wpAny_callSpecial?_slot (name:=Str.ofString "__next__") hT F.slot_zip_next (wpAny_call_entry F.slot_zip_next hT F.entry_zip_next (Zri hh D hz hTI hTO h1 h2 hl1 hl2 hend λh' e hk he=>?_) (F.args_zip_next_1 _))));obtain⟨o,ho,hc⟩:=he;exact wpAny_bind (wpAny_isInstance (T:="StopIteration") (b:=true) ⟨o,ho,hc⟩ isSubtype_stop (wpAny_pure (hQ _ hk)))
def itN:Bool->String
 | true=>"tuple_iterator"
 | false=>"list_iterator"
def itO(tup:Bool)(l:Addr):Obj:={ cls:=.type (itN tup),data:=.fields #[.ref l,.int 0 0] }
theorem Zmb{tup:Bool}{l:Addr}{xs:Array Value}{Q:Value->Shared->Prop}(hl:tW tup s.heap l xs)(hQ:Q (.ref s.heap.objs.size) { s with heap:=s.heap.push (itO tup l) }):wpAny (model prog w) A (pyIter (.ref l)) Q E s:=by
 cases tup
 ·exact wpAny_pyIter_list hl hQ
 ·exact wpAny_pyIter_tuple hl hQ
theorem Zmc{tup:Bool}{h:Heap}{it l:Addr}(e:h.get? it=some (itO tup l)):qJ tup h it l 0:=by
 cases tup
 ·exact⟨_,e,rfl,rfl⟩
 ·exact⟨_,e,rfl,rfl⟩
theorem tW.push{tup:Bool}{h:Heap}{l:Addr}{xs:Array Value}(x:tW tup h l xs)(o:Obj):tW tup (h.push o) l xs:=by
 cases tup
 ·exact Heap.IsList.push x o
 ·exact Heap.IsTuple.push x o
end
abbrev Zo(t1 t2:Bool)(h:Heap)(l1 l2:Addr):Heap:=(h.push (itO t1 l1)).push (itO t2 l2)
abbrev zh4(t1 t2:Bool)(h:Heap)(l1 l2:Addr):Heap:=((Zo t1 t2 h l1 l2).push { cls:=.type "tuple",data:=.seq #[.ref h.objs.size,.ref (h.push (itO t1 l1)).objs.size] }).push { cls:=.type "tuple",data:=.seq #[.none,.none] }
theorem Zja(t1 t2:Bool)(l1 l2:Addr)(xs ys:Array Value):
  Meets (Builtin.«zip.__new__» ⟨[.type "zip",.ref l1,.ref l2],[]⟩) (λ_ R s=>tW t1 s.heap l1 xs/\tW t2 s.heap l2 ys/\
   R (.ok (.ret (.ref (zh4 t1 t2 s.heap l1 l2).objs.size))) { s with heap:=(zh4 t1 t2 s.heap l1 l2).push { cls:=.type "zip",data:=.fields #[.none,.bool false,.bool false,.ref (Zo t1 t2 s.heap l1 l2).objs.size,.ref ((Zo t1 t2 s.heap l1 l2).push { cls:=.type "tuple",data:=.seq #[.ref s.heap.objs.size,.ref (s.heap.push (itO t1 l1)).objs.size] }).objs.size] } }):=
 .of_wp λprog w A R s h=>by
  obtain⟨hp,g,d,tk,os⟩:=s;obtain⟨hl1,hl2,h⟩:=h;have hsub:=sub_zip;have hL1:tW t1 (Shared.heap ⟨hp,g,d,tk,os⟩) l1 xs:=hl1;have hL2:tW t2 (Shared.heap ⟨hp.push (itO t1 l1),g,d,tk,os⟩) l2 ys:=hl2.push _
  wp_walk using Zmb hL1,Zmb hL2
  exact⟨_,rfl,h⟩
theorem Zj4{prog:Program}{w:World}{A:Around}{E:Value->Shared->Prop}{s:Shared}{t1 t2:Bool}{l1 l2:Addr}{xs ys:Array Value}{Q:Value->Shared->Prop}(hl1:tW t1 s.heap l1 xs)(hl2:tW t2 s.heap l2 ys)
  (h:∀h',IsZip h' (s.heap.objs.size+4) (s.heap.objs.size+2) (s.heap.objs.size+3) .none->IsPair h' (s.heap.objs.size+2) (.ref s.heap.objs.size) (.ref (s.heap.objs.size+1))->
   IsPair h' (s.heap.objs.size+3) .none .none->qJ t1 h' s.heap.objs.size l1 0->qJ t2 h' (s.heap.objs.size+1) l2 0->(∀c o,s.heap.get? c=some o->h'.get? c=some o)->Q (.ref (s.heap.objs.size+4)) { s with heap:=h' }):
  wpAny (model prog w) A (call (.type "zip") [.ref l1,.ref l2]) Q E s:=by
 refine callType_new F.called_zip (by decide) (F.typeCall_zip_2 _ _) (F.newCall_zip_2 _ _) (λobj=>F.args_object_init_3 obj _ _) F.entry_zip_new (Zja t1 t2 l1 l2 xs ys) ⟨hl1,hl2,?_⟩;show _/\_;unfold zh4;have z1:(s.heap.push (itO t1 l1)).objs.size=s.heap.objs.size+1:=Heap.size_push ..;have z2:(Zo t1 t2 s.heap l1 l2).objs.size=s.heap.objs.size+2:=by rw[Heap.size_push,z1]
 generalize hA:({ cls:=.type "tuple",data:=.seq #[.ref s.heap.objs.size,.ref (s.heap.push (itO t1 l1)).objs.size] }:Obj)=oA;have z3:((Zo t1 t2 s.heap l1 l2).push oA).objs.size=s.heap.objs.size+3:=by rw[Heap.size_push,z2]
 generalize hB:({ cls:=.type "tuple",data:=.seq #[.none,.none] }:Obj)=oB;have z4:(((Zo t1 t2 s.heap l1 l2).push oA).push oB).objs.size=s.heap.objs.size+4:=by rw[Heap.size_push,z3]
 generalize hC:({ cls:=.type "zip",data:=.fields #[.none,.bool false,.bool false,.ref (Zo t1 t2 s.heap l1 l2).objs.size,.ref ((Zo t1 t2 s.heap l1 l2).push oA).objs.size] }:Obj)=oC;have fC:oC.isFreed=false:=by rw[<- hC];rfl
 have fB:oB.isFreed=false:=by rw[<- hB];rfl
 have fA:oA.isFreed=false:=by rw[<- hA];rfl
 have f1:(itO t1 l1).isFreed=false:=rfl;have f2:(itO t2 l2).isFreed=false:=rfl;have g5:((((Zo t1 t2 s.heap l1 l2).push oA).push oB).push oC).get? (((Zo t1 t2 s.heap l1 l2).push oA).push oB).objs.size=some oC:=Heap.get?_push_size _ fC;have g4:((((Zo t1 t2 s.heap l1 l2).push oA).push oB).push oC).get? ((Zo t1 t2 s.heap l1 l2).push oA).objs.size=some oB:=Heap.get?_push_of_some _ (Heap.get?_push_size _ fB);have g3:((((Zo t1 t2 s.heap l1 l2).push oA).push oB).push oC).get? (Zo t1 t2 s.heap l1 l2).objs.size=some oA:=Heap.get?_push_of_some _ (Heap.get?_push_of_some _ (Heap.get?_push_size _ fA));have g2:((((Zo t1 t2 s.heap l1 l2).push oA).push oB).push oC).get? (s.heap.push (itO t1 l1)).objs.size=some (itO t2 l2):=Heap.get?_push_of_some _ (Heap.get?_push_of_some _ (Heap.get?_push_of_some _ (Heap.get?_push_size _ f2)));have g1:((((Zo t1 t2 s.heap l1 l2).push oA).push oB).push oC).get? s.heap.objs.size=some (itO t1 l1):=Heap.get?_push_of_some _ (Heap.get?_push_of_some _ (Heap.get?_push_of_some _ (Heap.get?_push_of_some _ (Heap.get?_push_size _ f1))));have kp:∀c o,s.heap.get? c=some o->((((Zo t1 t2 s.heap l1 l2).push oA).push oB).push oC).get? c=some o:=λc o x=>Heap.get?_push_of_some _ (Heap.get?_push_of_some _ (Heap.get?_push_of_some _ (Heap.get?_push_of_some _ (Heap.get?_push_of_some _ x))));rw[z4]at g5;rw[z3]at g4;rw[z2]at g3;rw[z1]at g2;rw[z2,z3]at hC;rw[z1]at hA;rw[z4];subst hC hA hB;exact⟨⟨_,g5,rfl⟩,h _ g5 g3 g4 (Zmc g1) (Zmc g2) kp⟩
def SqV(K:aV)(tup:Bool)(H:Hp)(a:Addr)(xs:List V):Prop:=match tup with
 | true=>jE K H a xs
 | false=>fj K H a xs
def Zfd(K:aV)(t1 t2:Bool)(a b:Addr):It:=
  ⟨λi H=>∃xs ys x y,SqV K t1 H a xs/\SqV K t2 H b ys/\xs[i]? =some x/\ys[i]? =some y,
   λi H v H'=>∃t x y,v=.ref t/\H t=none/\H'=upd H t (.tup [x,y])/\(∀xs,SqV K t1 H a xs->xs[i]? =some x)/\∀ys,SqV K t2 H b ys->ys[i]? =some y,
   λi H=>∃xs ys,SqV K t1 H a xs/\SqV K t2 H b ys/\(xs.length<=i\/ys.length<=i)⟩
def Zg3(K:aV)(t1 t2:Bool)(ta:TA):TI:=λσ H R=>ta σ H λvs H1=>∃a b,vs=[.ref a,.ref b]/\(∃xs,SqV K t1 H1 a xs)/\(∃ys,SqV K t2 H1 b ys)/\R (Zfd K t1 t2 a b) H1
theorem Zvs{K:aV}{t1 t2:Bool}{ta:TA}{σ:L2.St}{H:Hp}{R:It->Hp->Prop}(h:ta σ H λvs H1=>∃a b,vs=[.ref a,.ref b]/\(∃xs,SqV K t1 H1 a xs)/\(∃ys,SqV K t2 H1 b ys)/\R (Zfd K t1 t2 a b) H1):Zg3 K t1 t2 ta σ H R:=h
section
variable {X:Cx}{pins:List (Addr×Obj)}{σ:L2.St}{H:Hp}{s:Shared}
theorem KY{tup:Bool}{a:Addr}{xs:List V}(I:Inv X pins σ H s)(h:SqV X.K tup H a xs):∃its:List Value,Vals xs its/\tW tup s.heap a its.toArray/\xs.length<=sizeLine:=by
 cases tup
 ·obtain⟨its,r,p,z⟩:=I.list h;exact⟨its,r,p.isList,z⟩
 ·obtain⟨its,r,p,z⟩:=I.tuple h;exact⟨its,r,(show s.heap.IsTuple a its.toArray from p),z⟩
theorem Zg0{tup:Bool}{a:Addr}{xs ys:List V}(I:Inv X pins σ H s)(h:SqV X.K tup H a xs)(h':SqV X.K tup H a ys):xs=ys:=by
 cases tup
 ·exact I.BX h h'
 ·exact I.Zgz h h'
end
def Zul(t1 t2:Bool)(a b z TI TO i1 i2:Addr)(i:Nat)(h:Heap):Prop:=IsZip h z TI TO .none/\IsPair h TI (.ref i1) (.ref i2)/\(∃u v,IsPair h TO u v)/\qJ t1 h i1 a i/\qJ t2 h i2 b i
theorem Zgw{P:Program}{w:World}{K:aV}{elts:List Expr}{x1:Nat}{pt:Pos}(t1 t2:Bool)(a b z TI TO i1 i2:Addr)(D:ZipApart z TI TO i1 i2 a b):
    Turn P w K (.Tuple elts x1 pt) (Zfd K t1 t2 a b) [z,TI,TO,i1,i2] z (Zul t1 t2 a b z TI TO i1 i2) where
  mem:=by simp
  obj:=λi h st c hc=>by
    obtain⟨hz,hTI,⟨u,v,hTO⟩,h1,h2⟩:=st;obtain⟨o1,q1,f1,d1⟩:=h1.obj;obtain⟨o2,q2,f2,d2⟩:=h2.obj;simp only[List.mem_cons,List.not_mem_nil,or_false]at hc;rcases hc with e | e | e | e | e
    · rw[e];exact⟨_,hz,λv z=>by cases z⟩
    · rw[e];exact⟨_,hTI,λv z=>by cases z⟩
    · rw[e];exact⟨_,hTO,λv z=>by cases z⟩
    · rw[e];exact⟨o1,q1,λv z=>by rw[d1]at z;cases z⟩
    · rw[e];exact⟨o2,q2,λv z=>by rw[d2]at z;cases z⟩
  keep:=λi h h' st k=>by
    obtain⟨hz,hTI,⟨u,v,hTO⟩,h1,h2⟩:=st;exact⟨k z (by simp) _ hz,k TI (by simp) _ hTI,⟨u,v,k TO (by simp) _ hTO⟩,h1.at λo q=>k i1 (by simp) o q,h2.at λo q=>k i2 (by simp) o q⟩
  item:=by
    intro X hP hw hK hc i pins s σ H E I hf st hg;subst hP hw hK;obtain⟨xs,ys,x,y,hq,hr,hx,hy⟩:=hg;obtain⟨its,rv,p,hzl⟩:=KY I hq;obtain⟨jts,rw',p2,Ztq⟩:=KY I hr;obtain⟨u,hu,ru⟩:=rv.get hx;obtain⟨v,hv,rv2⟩:=rw'.get hy;obtain⟨hz,hTI,⟨o1,o2,hTO⟩,h1,h2⟩:=st;have lt:∀{c o},s.heap.get? c=some o->c<s.heap.objs.size:=λe=>Heap.lt_size e;have l1:i1<s.heap.objs.size:=by obtain⟨_,e,_⟩:=h1.obj;exact lt e
    have l2:i2<s.heap.objs.size:=by obtain⟨_,e,_⟩:=h2.obj;exact lt e
    refine Zoj D hz hTI hTO h1 h2 p p2 (x:=u) (y:=v) (by simpa using hu) (by simpa using hv) λh' a1 a2 a3 a4 a5 hk=>?_;refine⟨_,rfl,wpAny_letOwnedTupleGo_zip (s:={ s with heap:=h' }) a1 λh2' hz2 hs2=>?_⟩
    replace hs2:Heap.SameBut z h' h2':=hs2
    have hn:H s.heap.objs.size=none:=I.hok.fresh (Nat.le_refl _);have I2:Inv X pins σ (upd H s.heap.objs.size (.tup [x,y])) { s with heap:=h2',toks:=s.toks }:=by
      refine Ca (ch:=[z,TI,TO,i1,i2]) I (λc o hcn q=>?_) hf (Nat.le_refl _) ?_
      · simp only[List.mem_cons,List.not_mem_nil,or_false,not_or]at hcn
        exact hs2.extBut c o hcn.1 (hk c o hcn.1 hcn.2.2.1 hcn.2.2.2.1 hcn.2.2.2.2 q)
      · exact⟨by show 2<=sizeLine;decide,[u,v],.cons ru (.cons rv2 .nil),⟨_,hs2.extBut _ _ (Nat.ne_of_gt (lt hz)) a5,rfl,_,rfl⟩⟩
    refine⟨.ref s.heap.objs.size,_,I2,rfl,⟨_,x,y,rfl,hn,rfl,λzs h=>by rw[Zg0 I h hq];exact hx,λzs h=>by rw[Zg0 I h hr];exact hy⟩,⟨hz2,?_,?_,?_,?_⟩,λc hcm=>?_⟩
    · exact hs2.extBut _ _ D.TIz (hk TI _ D.TIz D.TITO D.TIi1 D.TIi2 hTI)
    · exact⟨u,v,hs2.extBut _ _ D.TOz a2⟩
    · exact a3.ext hs2.extBut D.i1z
    · exact a4.ext hs2.extBut D.i2z
    · have lc:c<s.heap.objs.size:=by
        simp only[List.mem_cons,List.not_mem_nil,or_false]at hcm;rcases hcm with e | e | e | e | e
        · rw[e];exact lt hz
        · rw[e];exact lt hTI
        · rw[e];exact lt hTO
        · rw[e];exact l1
        · rw[e];exact l2
      rw[aU (Nat.ne_of_lt lc)];exact(hf c hcm).1
  done:=by
    intro X hP hw hK hc i pins s σ H E I hf st hg;subst hP hw hK;obtain⟨xs,ys,hq,hr,hx⟩:=hg;obtain⟨its,rv,p,hzl⟩:=KY I hq;obtain⟨jts,rw',p2,Ztq⟩:=KY I hr;obtain⟨hz,hTI,⟨o1,o2,hTO⟩,h1,h2⟩:=st;have e1:=rv.length;have e2:=rw'.length;refine Zrz (I.ok.hd hc) D hz hTI hTO h1 h2 p p2 ?_ λh' hk=>⟨rfl,Vy (ch:=[z,TI,TO,i1,i2]) (t':=s.toks) I (λc o hcn q=>?_) hf⟩
    · rcases hx with hx | hx
      · exact .inl (by simp;omega)
      · exact .inr (by simp;omega)
    · simp only[List.mem_cons,List.not_mem_nil,or_false,not_or]at hcn
      exact hk c o hcn.1 hcn.2.2.1 hcn.2.2.2.1 hcn.2.2.2.2 q
  self:=λA i s Q E st h=>wpAny_pyIter_zip st.1 h
theorem tW.lt{tup:Bool}{h:Heap}{a:Addr}{xs:Array Value}(x:tW tup h a xs):a<h.objs.size:=by
 cases tup
 ·obtain⟨o,ho,_⟩:=(show h.IsList a xs from x);exact Heap.lt_size ho
 ·obtain⟨o,ho,_⟩:=(show h.IsTuple a xs from x);exact Heap.lt_size ho
theorem Zwo(n a b:Nat)(ha:a<n)(hb:b<n):ZipApart (n+4) (n+2) (n+3) n (n+1) a b:=
 have d:=Zr7 n
 ⟨d.TIz,d.TOz,d.i1z,d.i2z,d.TITO,d.TIi1,d.TIi2,d.TOi1,d.TOi2,d.i12,(by omega:(a:Nat)≠(n+4:Nat)),(by omega:(a:Nat)≠(n+3:Nat)),(by omega:(a:Nat)≠(n:Nat)),(by omega:(a:Nat)≠(n+1:Nat)),(by omega:(b:Nat)≠(n+4:Nat)),(by omega:(b:Nat)≠(n+3:Nat)),(by omega:(b:Nat)≠(n:Nat)),(by omega:(b:Nat)≠(n+1:Nat))⟩
theorem Zfp{X:Cx}{elts:List Expr}{x1:Nat}{pt:Pos}{l r:Expr}{ta:TA}{p pos:Pos}(t1 t2:Bool)(hg:Gl X "zip")(hm:X.mg "zip"=none)(ha:PA X [l,r] ta)(hs:starEach [l,r] X.env=(false,eval l X.env)::starEach [r] X.env:=by rfl)(hp:(backTo pos (starEach [r] X.env)).any (·.1)=false:=by rfl):
  PI X (.Tuple elts x1 pt) (.Call (.Name "zip" p) [l,r] [] pos) (Zg3 X.K t1 t2 ta):=by
 intro pins s σ H R I h;refine Call_ (BZ I hg hm boot_zip (PyProof.Rows.callWith_type1 (lU (ha pos pins s σ H _ I h) λus s1 ⟨vs,H1,I1,r1,q1⟩=>?_) hs hp));obtain⟨a,b,e,⟨xs,hq⟩,⟨ys,hr⟩,q⟩:=q1;subst e;cases r1 with
 | cons ra rr=>
  cases rr with
  | cons rb rr=>
   cases rr;obtain rfl:_=Value.ref a:=ra;obtain rfl:_=Value.ref b:=rb;obtain⟨its,rv,pl,hz⟩:=KY I1 hq;obtain⟨jts,rv2,Xj,hz2⟩:=KY I1 hr;refine Zj4 pl Xj λh' hzp hTI hTO h1 h2 hk=>?_;have I2:Inv X pins σ H1 { s1 with heap:=h' }:=I1.kept (t':=s1.toks) hk
   refine wpAny_pyIter_zip (s:={ s1 with heap:=h' }) hzp ?_;have hf:∀b,s1.heap.objs.size<=b->uF X pins H1 b:=λb hb=>I1.Zei hb (I1.hok.fresh hb);refine⟨_,[s1.heap.objs.size+4,s1.heap.objs.size+2,s1.heap.objs.size+3,s1.heap.objs.size,s1.heap.objs.size+1],_,_,H1,rfl,I2,Zgw t1 t2 a b _ _ _ _ _ (Zwo _ _ _ pl.lt Xj.lt),⟨hzp,hTI,⟨_,_,hTO⟩,h1,h2⟩,λc hc=>?_,q⟩;simp only[List.mem_cons,List.not_mem_nil,or_false]at hc;have hc2:(s1.heap.objs.size:Nat)<=(c:Nat):=by
    rcases hc with e | e | e | e | e<;>rw[e]
    ·exact Nat.le_add_right _ _
    ·exact Nat.le_add_right _ _
    ·exact Nat.le_add_right _ _
    ·exact Nat.le_refl _
    ·exact Nat.le_add_right _ _
   exact hf c hc2
section
variable {K:aV}{t1 t2:Bool}{a b:Addr}{g:TG}{tb:TS}{σ:L2.St}{H:Hp}{n:L2.St->Hp->Prop}{r:VK}
theorem Zwb(xs ys:List V)(hlen:xs.length=ys.length)(Pv:Nat->L2.St->Hp->Prop)(h0:Pv 0 σ H)(hl:∀i σ H,i<=xs.length->Pv i σ H->SqV K t1 H a xs/\SqV K t2 H b ys)
  (hs:∀i x y t σ H,xs[i]? =some x->ys[i]? =some y->Pv i σ H->H t=none->g (.ref t) σ (upd H t (.tup [x,y])) λσ2 H2=>tb ⟨Pv (i+1),r,n,Pv (i+1)⟩ σ2 H2) (hd:∀ σ H,Pv xs.length σ H->n σ H):
  ∃W:Nat->Nat->L2.St->Hp->Prop,(∃m,W 0 m σ H)/\∀i m σ H,W i m σ H->
   ((Zfd K t1 t2 a b).stop i H/\n σ H)\/((Zfd K t1 t2 a b).go i H/\∃N:L2.St->Hp->Prop,(∀ σ' H',N σ' H'->∃m',m'<m/\W (i+1) m' σ' H')/\∀x H',(Zfd K t1 t2 a b).Zq i H x H'->g x σ H' λσ2 H2=>tb ⟨N,r,n,N⟩ σ2 H2):=by
 refine⟨λi m σ H=>i<=xs.length/\m=xs.length - i/\Pv i σ H,⟨xs.length,Nat.zero_le _,rfl,h0⟩,?_⟩;rintro i m σ H ⟨hi,rfl,p⟩;obtain⟨hq,hr⟩:=hl i σ H hi p
 by_cases hk:i=xs.length
 ·subst hk;exact .inl ⟨⟨xs,ys,hq,hr,.inl (Nat.le_refl _)⟩,hd σ H p⟩
 ·have hlt:i<xs.length:=by omega
  have hx:xs[i]? =some xs[i]:=eV hlt;have hy:ys[i]? =some (ys[i]'(by omega)):=eV (by omega);refine .inr ⟨⟨xs,ys,_,_,hq,hr,hx,hy⟩,Pv (i+1),λσ' H' p'=>⟨xs.length - (i+1),by omega,by omega,rfl,p'⟩,?_⟩;rintro v H' ⟨t,x,y,rfl,ht,rfl,h1,h2⟩;exact hs i x y t σ H (h1 xs hq) (h2 ys hr) p ht
end
end G
namespace G
open PySem L2 PySem.Spec PyProof.Rows
def Ac(w:World):List DictEntry->List (Str×V)->Prop
 | [],[]=>True
 | e::es,p::t=>e.hash=hashStr w p.1/\(∃tk,e.key=.str p.1 tk)/\RelV p.2 e.val/\Ac w es t
 | _,_=>False
def Zwr(K:aV)(w:World)(mg:Str->Option Value)(nm:Str)(xj:List (Str×V)):Prop:=
 ∃dd o es ep,mg nm=some (.ref dd)/\(dd == sysModules)=false/\K.lookup dd=some o/\o.ExactDict/\o.data=.dict es ep/\Ac w es.toList xj
theorem Ac.keys{prog:Program}{w:World}:∀{es:List DictEntry}{xj:List (Str×V)},Ac w es xj->∀e∈es,∃k,(strKind prog w).is k e.key=true/\e.hash=(strKind prog w).hash k
 | [],_,_=>λe he=>absurd he List.not_mem_nil
 | e::es,[],h=>h.elim
 | e::es,p::t,h=>λx hx=>by
  obtain⟨h1,⟨tk,h2⟩,_,h4⟩:=h;rcases List.mem_cons.mp hx with rfl | hx
  ·refine⟨p.1,?_,h1⟩;rw[h2];show Value.isStrOf p.1 (.str p.1 tk)=true;simp[Value.isStrOf]
  ·exact Ac.keys h4 x hx
theorem Ac.find{w:World}:∀{es:List DictEntry}{xj:List (Str×V)}{k:Str},Ac w es xj->(match (es.find? λe=>Value.isStrOf k e.key).map (·.val),xj.lookup k with
  | some u,some v=>RelV v u
  | none,none=>True
  | _,_=>False)
 | [],[],_,_=>trivial
 | [],_::_,_,h=>h.elim
 | _::_,[],_,h=>h.elim
 | e::es,p::t,k,h=>by
  obtain⟨_,⟨tk,h2⟩,h3,h4⟩:=h;rw[List.find?_cons,h2];obtain⟨a,b⟩:=p
  by_cases hk:k=a
  ·subst hk;have e1:Value.isStrOf k (.str k tk)=true:=by simp[Value.isStrOf]
   simp only[e1,List.lookup,beq_self_eq_true];exact h3
  ·have e1:Value.isStrOf k (.str a tk)=false:=by
    simp only[Value.isStrOf,beq_eq_false_iff_ne,ne_eq];exact λz=>hk z.symm
   simp only[e1,List.lookup,beq_eq_false_iff_ne.mpr hk];exact Ac.find h4
section
variable {X:Cx}{nm:Str}{xj:List (Str×V)}{i:Expr}{ti:TE}{p pos ap:Pos}
theorem Ac.map{s:Shared}{dd:Addr}{o:Obj}{es:Array DictEntry}{ep:Nat}(hh:s.heap.get? dd=some o)(ho:o.ExactDict)(hda:o.data=.dict es ep)(te:Ac X.w es.toList xj):s.heap.MapOf (strKind X.prog X.w) dd (λk=>findBy Value.isStrOf es k):=
 ⟨o,es,ep,hh,ho,hda,λe he=>te.keys e (by simpa using he),λ_=>rfl⟩
theorem Ac.at{es:Array DictEntry}{k:Str}(te:Ac X.w es.toList xj):(∀v,xj.lookup k=some v->∃u,findBy Value.isStrOf es k=some u/\RelV v u)/\(xj.lookup k=none->findBy Value.isStrOf es k=none):=by
 have e:findBy Value.isStrOf es k=(es.toList.find? λe=>Value.isStrOf k e.key).map (·.val):=by
  show Option.map (λx=>x.val) (Array.find? (λe=>Value.isStrOf k e.key) es)=_;rw[<- Array.find?_toList]
 have f:=te.find (k:=k);rw[<- e]at f;refine⟨λv hv=>?_,λhn=>?_⟩
 ·rw[hv]at f;cases h:findBy Value.isStrOf es k with
  | none=>rw[h]at f;exact f.elim
  | some u=>rw[h]at f;exact⟨u,rfl,f⟩
 ·rw[hn]at f;cases h:findBy Value.isStrOf es k with
  | none=>rfl
  | some u=>rw[h]at f;exact f.elim
theorem Znz{k:Str}{tk:Tok}:(strKind X.prog X.w).is k (.str k tk)=true:=by show Value.isStrOf k (.str k tk)=true;simp[Value.isStrOf]
def Zjk(xj:List (Str×V))(ti:TE):TE:=λσ H Q=>ti σ H λy H1=>∃k,y=.str k/\Q ((xj.lookup k).getD .non) H1
theorem Zp2(T:Zwr X.K X.w X.mg nm xj)(hg:Gl X nm)(hi:PE X i ti)(m:M1 X (.Name nm p) "get" ap i pos)(hd:(nm == ("__debug__":Str))=false:=by decide):PE X (.Call (.Attribute (.Name nm p) "get" ap) [i] [] pos) (Zjk xj ti):=by
 intro pins s σ H Q I h;obtain⟨dd,o,es,ep,hm,hsm,hk,ho,hda,te⟩:=T;refine wpAny_Call_method m.base m.few m.line PySem.F.plainAttrs_dict PySem.F.slot_dict_get PySem.F.type_dict_get (jT I hg hm ?_ hd);have h1:=I.uY dd o hk;refine⟨⟨o,h1,ho.1⟩,?_,?_⟩
 ·intro b q;cases q;exact⟨o,h1,ho.2.1⟩
 rw[m.trees];refine Calls.callWith_builtin rfl (Calls.evalArgs_plain (Calls.spliced_cons (lU (hi pins s σ H _ I h) λiv s2 ⟨y,H2,I2,ry,k,ey,q2⟩=>Calls.spliced_nil ?_)));subst ey;obtain⟨tk,rfl⟩:∃tk,iv=.str k tk:=ry;have hh:=I2.uY dd o hk;refine call_meetsIn PySem.F.slot_dict_get ⟨o,hh,ho.1⟩ PySem.F.entry_dict_get (PySem.F.args_dict_get_2 _ _) (meets_dict_get (strKind X.prog X.w) dd Znz hsm) ⟨_,te.map hh ho hda,?_⟩;cases l:xj.lookup k with
 | none=>
  rw[te.at.2 l];rw[l]at q2;exact⟨.non,H2,I2.tok _,rfl,q2⟩
 | some v=>
  obtain⟨u,eu,ru⟩:=te.at.1 v l;rw[eu];rw[l]at q2;exact⟨v,H2,I2.tok _,ru,q2⟩
end
section
variable {σ:L2.St}{H:Hp}{Q:VK}{xj:List (Str×V)}{ti:TE}
theorem Zt3(h:ti σ H λy H1=>∃k,y=.str k/\Q ((xj.lookup k).getD .non) H1):Zjk xj ti σ H Q:=h
end
end G
namespace G
open PySem L2 PySem.Spec PyProof.Rows
end G
namespace G
open PySem L2 PySem.Spec PyProof.Rows
theorem Vn{X:Cx}{iz:Nat}{z:Str}{pz Zkj:Pos}{elt iter:Expr}{x y:Str}{px py pt pos:Pos}{kt:Nat}{ifs:List Expr}{scope:Scope}{cl:List (Str×Addr)}{wi:TI}{tc:TT}{te:TE}{cns:List Str}(caps:List Nat)
  (hi:PI X (.Tuple [.Name x px,.Name y py] kt pt) iter wi)
  (hf:∀C s H ex pn,PF (Fw X scope cl (x::y::cns) C s H ex pn) ifs tc) (he:∀C s H ex pn,PE (Fw X scope cl (x::y::cns) C s H ex pn) elt te) (hc:X.calm=true)
  (hclos:closureFor scope X.env=pure cl) (hcl:AllIn X.env.cells cl) (hcap:yF X cns caps)
  (hkind:scope.kind=.function) (hcell:(scope.names.all λp=>p.2 != .cell)=true) (hfree:(scope.names.all λp=>p.2 != .free || (cl.lookup p.1).isSome)=true)
  (hcf:(cns.all λy=>scope.names.lookup y == some .free)=true) (hnames:∀y∈scope.names,y.2=.local->scope.names.lookup y.1=some .local) (hx:scope.names.lookup x=some .local) (hy:scope.names.lookup y=some .local) (hnd:(x::y::cns).Nodup)
  (hN:X.N.Nodup) (hiz:X.N[iz]? =some z) (hz:Loc X.env.scope z) (hfz:X.fn z=true\/X.env.scope.names.lookup z=some .local)
  (hsw:swapsWithSole [.Name z pz] (.ListComp elt [⟨.Tuple [.Name x px,.Name y py] kt pt,iter,ifs,0⟩] scope pos) Zkj.line X.env=pure true) (hs:∀v,foldedSetIterable iter X.env v=pure v:=by intro _;rfl):
  PS X (.Assign [.Name z pz] (.ListComp elt [⟨.Tuple [.Name x px,.Name y py] kt pt,iter,ifs,0⟩] scope pos) Zkj) (eE (Nh X.K wi caps tc te) (cX iz)):=by
 intro pins s σ H D I h;generalize hQ:(λv H1=>cX iz v σ H1 D.nx)=Q;have h:Nh X.K wi caps tc te σ H Q:=hQ ▸ h;rw[exec_Assign_arm];refine wpAny_bind (wpAny_standAt ?_);rw[hsw];refine wpAny_bind (wpAny_pure ?_);rw[if_pos rfl];refine wpAny_bind ?_;rw[evalThenUse]
 suffices key:wpAny (model X.prog X.w) X.A (comprehension (.ListComp elt [⟨.Tuple [.Name x px,.Name y py] kt pt,iter,ifs,0⟩] scope pos) scope X.env (firstIterPos [⟨.Tuple [.Name x px,.Name y py] kt pt,iter,ifs,0⟩] pos) (newList []) (firstAsync [⟨.Tuple [.Name x px,.Name y py] kt pt,iter,ifs,0⟩]) (firstIter [⟨.Tuple [.Name x px,.Name y py] kt pt,iter,ifs,0⟩] X.env) (some λv=>assignAll v ((assignEach [.Name z pz] X.env).map (·.2)))) (λ_ s'=>SP X pins D .next s') X.xe s from
  wpAny_bind (wpAny_mono key (λ_ s' h=>wpAny_pure (wpAny_pure h)) λ_ _ h=>h)
 refine X5 (ns:=[x,y]) (gt:=Zn1 X.K 2 (HX (cX 0) (HX (cX 1) Zn2))) (R:=λJ σ H Q=>Zbs X.K J caps tc te σ H Q) caps (λJ σ H Q h=>?_) hi (λC s H ex pn=>Xk hc (tQ (lQ hnd rfl (.inl (lookup_relabel_local hx)) (.inr (lookup_relabel_local hx))) (tQ (lQ hnd rfl (.inl (lookup_relabel_local hy)) (.inr (lookup_relabel_local hy))) Om))) hf he hc hclos hcl hcap hkind hcell hfree hcf hnames hs I h λacc C s6 m r0 hm fCC fin=>?_
 ·obtain⟨W,w0,turn⟩:=h;refine⟨W,w0,λi m ys H hw=>(turn i m ys H hw).imp id λ⟨g,l,st⟩=>⟨g,l,λz H' y vs hv=>?_⟩⟩;obtain⟨ta,u1,u2,ez,hst,st⟩:=st z H' y
  match vs,hv with
  | [v,v'],_=>exact⟨[some u1,some u2],rfl,⟨ta,_,ez,hst,rfl,_,_,rfl,_,_,rfl,rfl,rfl,rfl⟩,st⟩
 obtain⟨v,Hf,If,rf,qf,hfC⟩:=fin s6.heap (Heap.SameBut.refl _ _);have fC:uF X pins Hf C:=fCC hfC;obtain⟨oC,esC,epC,gC,dC,kC,nC⟩:=hm;have Ip:Inv X (pins++[(C,oC)]) σ Hf s6:=Inv.zz If λp hp=>by
  rcases List.mem_append.mp hp with hp | hp
  ·exact If.pin p (List.mem_append_right _ hp)
  ·rw[List.mem_singleton.mp hp];exact⟨gC,fC.1,fC.2.1,fC.2.2.1,λv z=>by rw[dC]at z;cases z⟩
 show wpAny _ _ (assign (.Name z pz) X.env (.ref acc)) _ _ _;refine wpAny_assign_Name (Ga Ip hN hiz hz rf (λs7 I7=>?_) hfz);have g7:=(I7.pin (C,oC) (List.mem_append_right _ (List.mem_append_right _ List.mem_cons_self))).1;refine⟨m,⟨oC,esC,epC,g7,dC,kC,nC⟩,λh' hs'=>?_⟩;have I8:=I7.Aq;have qf:D.nx (σ.set iz (some v)) Hf:=by rw[<- hQ]at qf;exact qf
 have kb:∀b o,b≠C->s7.heap.get? b=some o->h'.get? b=some o:=λb o hb e=>hs'.extBut b o hb e;refine⟨_,Hf,I8.step (ch:=[C]) (λb hb=>?_) (λb o _ _ hb e _=>kb b o (λz=>hb (by rw[z];exact List.mem_cons_self)) e) (λb o _ _ hb e _=>⟨o.slots,kb b o (λz=>hb (by rw[z];exact List.mem_cons_self)) e⟩) (λ_ _ _ _ h=>h) (λb o hb e=>⟨o,kb b o (λz=>hb (by rw[z];exact List.mem_cons_self)) e⟩) (λ_ _ h=>h) (λ_ _ _ h=>h) (λ_ ps h=>⟨#[],by simpa using h⟩) (λm' hm'=>?_) (λb u e=>?_) I8.bare,qf⟩
 ·rw[List.mem_singleton.mp hb];exact⟨fC.2.2.2.1,fC.2.1,fC.2.2.2.2.1,fC.2.2.2.2.2⟩
 ·obtain⟨o',e1,e2,e3,e4,e5⟩:=hm';exact⟨o',e1,e2,kb _ _ fC.2.1.symm e3,e4,e5⟩
 ·refine(I8.hok b u e).stay (λc w' hc q=>kb c w' ?_ q) (λ_ q=>q) λ_ _ q=>q;rintro rfl;rcases hc with rfl | hc
  ·rw[hfC]at e;cases e
  ·rw[hfC]at hc;cases hc
end G
namespace G
open PySem L2 PySem.Spec PyProof.Rows
section
variable {X:Cx}
def Zw(t:TE):TE:=λσ H Q=>t σ H λv H'=>(∃i:Int,v=.int i/\i.natAbs.log2<1920/\Q (.str (Str.ofString (toString i))) H')\/∃z:Str,v=.str z/\z.length<=sizeLine/\Q (.str z) H'
def tFs:List TE->Str->TE
 | [],acc=>λ_ H Q=>acc.length<=sizeLine/\Q (.str acc) H
 | t::ts,acc=>λσ H Q=>t σ H λv H'=>∃z:Str,v=.str z/\(acc++z).length<=sizeLine/\tFs ts (acc++z) σ H' Q
inductive PL(X:Cx):List Expr->List TE->Prop
 | nil:PL X [] []
 | cons {e:Expr}{t:TE}{es:List Expr}{ts:List TE}:PE X e t->PL X es ts->PL X (e::es) (t::ts)
theorem Xm{e:Expr}{t:TE}{pos:Pos}(h:PE X e t):PE X (.FormattedValue e (-1) none pos) (Zw t):=by
 intro pins s σ H Q I q;refine FormattedValue_plain (lU (h pins s σ H _ I q) λv s1 ⟨x,H1,I1,r1,q1⟩=>?_);rcases q1 with ⟨i,rfl,hd,q⟩ | ⟨z,rfl,hz,q⟩
 ·obtain⟨k,rfl⟩:=r1;exact formatField_int_small hd ⟨.str _,H1,I1.tok _,⟨_,rfl⟩,q⟩
 ·obtain⟨k,rfl⟩:=r1;exact formatField_str (λt' tk=>⟨.str z,H1,I1.tok tk,⟨_,rfl⟩,q⟩) hz
theorem Zvc{es:List Expr}{ts:List TE}(h:PL X es ts):∀(acc:Str) (pins:List (Addr×Obj)) (s:Shared) (σ:L2.St) (H:Hp) (Q:VK),Inv X pins σ H s->tFs ts acc σ H Q->wpAny (model X.prog X.w) X.A (joinParts acc (evalEach es X.env)) (EP X pins σ Q) X.xe s:=by
 induction h with
 | nil=>
  intro acc pins s σ H Q I q;exact joinParts_nil ⟨.str acc,H,I.tok _,⟨_,rfl⟩,q.2⟩ q.1
 | @cons e t es ts he _ ih=>
  intro acc pins s σ H Q I q;refine joinParts_cons (lU (he pins s σ H _ I q) λv s1 ⟨x,H1,I1,r1,q1⟩=>?_);obtain⟨z,rfl,hz,q2⟩:=q1;obtain⟨k,rfl⟩:=r1;exact⟨hz,ih _ pins s1 σ H1 Q I1 q2⟩
theorem Zky{e1 e2:Expr}{es:List Expr}{ts:List TE}{pos:Pos}(h:PL X (e1::e2::es) ts):PE X (.JoinedStr (e1::e2::es) pos) (tFs ts Str.empty):=by
 intro pins s σ H Q I q;exact JoinedStr_many (Zvc h Str.empty pins s σ H Q I q)
theorem Zyc{t:TE}{ts:List TE}{acc:Str}{σ:L2.St}{H:Hp}{Q:VK}(h:t σ H λv H'=>∃z:Str,v=.str z/\(acc++z).length<=sizeLine/\tFs ts (acc++z) σ H' Q):tFs (t::ts) acc σ H Q:=h
theorem Zvy{t:TE}{σ:L2.St}{H:Hp}{Q:VK}(h:t σ H λv H'=>(∃i:Int,v=.int i/\i.natAbs.log2<1920/\Q (.str (Str.ofString (toString i))) H')\/∃z:Str,v=.str z/\z.length<=sizeLine/\Q (.str z) H'):Zw t σ H Q:=h
end
end G
namespace G
open PySem L2 PySem.Spec PyProof.Rows
def Zc2(t:TE):TO:=λσ H Q=>t σ H λx H1=>x=.non/\Q none H1
theorem Zpx{te:TE}{σ:L2.St}{H:Hp}{Q:Option Int->Hp->Prop}(h:te σ H λx H1=>x=.non/\Q none H1):Zc2 te σ H Q:=h
theorem Zs1{X:Cx}{e:Expr}{te:TE}(h:PE X e te):PO X (some e) (Zc2 te):=by
 intro pins s σ H Q I hw;rw[evalPart_some];refine lU (h pins s σ H _ I hw) λu s1 ⟨x,H1,I1,r1,q1⟩=>?_;obtain⟨rfl,q⟩:=q1;cases r1;exact⟨none,H1,I1,.none,q⟩
end G
namespace G
open PySem L2 PySem.Spec PyProof.Rows
structure FnH(P:Program)(w:World)(K:aV)(mg:Str->Option Value)(base:Heap)(CX:Zm)(k:Nat)(f:Addr)(fd:FuncData)(ps:List Str)(sp:Sp):Prop where
 len:∀vs H Q E,sp vs H Q E->vs.length=ps.length
 run:∀(A:Around) (ea:Value) (outer:List Env) (s:Shared) (H:Hp) (args:Args) (us:List Value) (vs:List V) (Q:VK) (E:XK),Room k A->Zj P w K mg base (A.mark (some ea)) outer s H->BindsTo s fd args (ps.zip us)->Vals vs us->sp vs H Q E->
  codeAny (model P w) (A.mark (some ea)) (.call (.ref f) args) (CR CX outer P w H s Q E) s
structure HhH(P:Program)(w:World)(K:aV)(mg:Str->Option Value)(base:Heap)(n:Nat)(f:Addr)(fd:FuncData)(ps:List Str)(sp:Sp):Prop where
 g:FnH P w K mg base (DY P w) n f fd ps sp
 b:Binds K fd ps []
 k:W.keepIn K (.ref f)=true
theorem hhH{P:Program}{w:World}{K:aV}{mg:Str->Option Value}{base:Heap}{n:Nat}{f:Addr}{fd:FuncData}{ps:List Str}{sp:Sp}(g:FnH P w K mg base (DY P w) n f fd ps sp)(b:Binds K fd ps [])(k:W.keepIn K (.ref f)=true):HhH P w K mg base n f fd ps sp:=⟨g,b,k⟩
theorem ZFm{P:Program}{w:World}{K:aV}{mg:Str->Option Value}{base:Heap}{x qual:Str}{st:Stmt}{f:Addr}{fd:FuncData}{N ps:List Str}{k:Nat}{sp:Sp}(F:m6 K x qual st f fd)(S:dz N ps (bI st))(len:∀vs H Q E,sp vs H Q E->vs.length=ps.length)
  (hbody:∀(cdv ea:Value) (A:Around) (outer:List Env) (s:Shared) (H:Hp) (vs:List V) (Q:VK) (E:XK),Room k (A.deeper (envOfC qual (bI st) s.heap.objs.size f cdv))->sp vs H Q E->
   ∃t,R1 (O1 (Cm (DY P w) P w K mg base N qual (bI st) f cdv A outer s H E) ea []) (jU st) t/\t { nx:=λ_ H'=>Q .non H',rt:=Q } (start N vs) H):FnH P w K mg base (DY P w) (k+1) f fd ps sp:=by
 obtain⟨oc,od,kV,doc,pm,an,cdv,ct,osl,rfl,lk,hcd⟩:=F.ex;refine⟨len,λA ea outer s H args us vs Q E hr e0 hb r hsp=>?_⟩;have hl:=len _ _ _ _ hsp;have KX:K.In s.heap:=e0.mod.kin.keeps λb o e=>(e0.bs b o e).1;have lim:s.heap.NoLimit:=e0.mod.nolimit.keeps λb o e=>(e0.bs b o e).1;have hkind:∀y∈ps.zip us,(bI st).names.lookup y.1=some .local\/((bI st).names.lookup y.1=some .cell/\((cellsFrom (s.heap.objs.size+1) (bI st).names []).lookup y.1).isSome=true):=λ⟨n,v⟩ hy=>by
  rcases S.par n (List.of_mem_zip hy).1 with q | q
  ·exact .inl q
  ·exact .inr ⟨q,W.cellsFrom_some _ _ _ (.inl q)⟩
 refine codeAny_call_function (show(A.mark (some ea)).depth<recursionLimit from hr.depth) (KX _ _ lk) rfl S.co S.gen rfl (W.codeRec_of KX hcd) (hb _ _ _ _ ?_);refine wpAny_newFunctionEnv_cells S.kind hkind λenv he s1 y=>?_;subst he;refine⟨lim.keeps y.toInCall.keep,codeAny_func ?_⟩;obtain⟨t,ht,hq⟩:=hbody cdv ea A outer s H vs Q E (hr.deeper _) hsp;have e1:Zj P w K mg base A outer s H:=⟨e0.frames,e0.mod,e0.bs,e0.bsz,e0.yw,e0.frf,e0.hok,e0.bare⟩;have I:Inv (O1 (Cm (DY P w) P w K mg base N qual (bI st) f cdv A outer s H E) ea []) [] (start N vs) H s1:=qe (pins:=[]) (Vz S hr.hd e1 hl r y) ea;refine wpAny_mono (ht [] s1 (start N vs) H _ I hq) (λfl s' hs=>?_) λe s' hs=>hs.elim;have fin:∀{σ':L2.St}{H':Hp}{v:V}{u:Value},Inv (O1 (Cm (DY P w) P w K mg base N qual (bI st) f cdv A outer s H E) ea []) [] σ' H' s'->RelV v u->Q v H'->CE outer P w H s Q u s':=
  λ{σ' H' v u} J rv q=>⟨v,H',J.os,J.bare,J.base,J.hok,rv,q⟩
 cases fl with
 | ret u=>
  obtain⟨v,σ',H',J,rv,q⟩:=hs;exact fin J rv q
 | next=>
  obtain⟨σ',H',J,q⟩:=hs;exact fin (v:=V.non) (u:=Value.none) J rfl q
 | brk=>
  obtain⟨_,_,_,q⟩:=hs;exact False.elim q
 | cont=>
  obtain⟨_,_,_,q⟩:=hs;exact False.elim q
theorem Gr{X:Cx}{n k:Nat}{f:Addr}{fd:FuncData}{ps:List Str}{sp:Sp}{x:Str}{p pos:Pos}{e:Expr}{es:List Expr}{t:TA}{ea:Value}{pn:List (Addr×Obj)}(F:HhH X.prog X.w X.K X.mg X.base n f fd ps sp)(hr:Room k X.A)(hm:X.mg x=some (.ref f))
  (ha:PA (O1 X ea pn) (e::es) t) (hn:n<=k:=by decide) (hg:X.env.kindOf x=some .globalImplicit:=by rfl) (hdb:(x == ("__debug__":Str))=false:=by decide) (he:starEach (e::es) X.env=(false,eval e X.env)::starEach es X.env:=by rfl) (hpl:(backTo pos (starEach es X.env)).any (·.1)=false:=by rfl):
  PE (O1 X ea pn) (.Call (.Name x p) (e::es) [] pos) (dH sp [] E0 t):=by
 intro pins s σ H Q I h;refine wpAny_Call_Name_kw (jT I hg hm ?_ hdb);refine W.callWith_K (h₀:=X.base) I.ok.mod.kin F.k (lU (ha pos pins s σ H _ I h) λus s1 ⟨vs,H1,I1,r,q⟩=>⟨I1.uY,?_⟩) he hpl;have r2:Vals (vs++[]) (us++[]):=r.append .nil;have hl:(us++[]).length=ps.length:=by rw[<- r2.length];exact F.g.len _ _ _ _ q
 refine wpAny_call (codeAny_mono (F.g.run X.A ea X.stack s1 H1 ⟨us,[]⟩ (us++[]) (vs++[]) _ E0 (hr.mono hn) I1.env0 (F.b s1 us I1.uY hl) r2 q) λr s' hq=>?_);cases r with
 | error e=>exact jZ (X:=O1 X ea pn) pins σ H1 s1 e s' I1 hq
 | ok fl=>
  cases fl with
  | ret u=>exact I1.after hq
  | next=>exact False.elim hq
  | brk=>exact False.elim hq
  | cont=>exact False.elim hq
end G
local macro_rules|`(tactic|walk_at"g2")=>`(tactic|with_reducible first|refine G.Zvs ?_|refine G.Zt3 ?_|refine G.Zyc ?_|refine G.Zvy ?_|refine G.Zpx ?_)
local macro_rules|`(tactic|walk_at"g2")=>`(tactic|with_reducible first|refine G.Zay ?_|refine G.Zed ?_|refine G.Zec ?_|refine G.Zt1 ?_|refine G.Zy2 ?_|refine G.Zxz ?_)
local macro_rules|`(tactic|walk_at"g2")=>`(tactic|with_reducible first|refine G.Zvk ?_|refine G.Ztl ?_|refine G.Zmk ?_|refine G.Ztk ?_|refine G.Ztb ?_|refine G.Zee ?_)
local macro_rules|`(tactic|walk_at"g2")=>`(tactic|with_reducible first|refine G.KZ ?_|refine G.Zq3 ?_|refine G.Zpw ?_|refine G.Zq4 ?_|refine G.Zth ?_|refine G.Zq0 ?_)
local macro_rules|`(tactic|walk_at"g2")=>`(tactic|with_reducible first|refine G.Zy3 ?_|refine G.Zvw ?_|refine G.Zvv ?_|refine G.Zvu ?_|refine G.Zvt ?_|refine G.Zvi ?_)
local macro_rules|`(tactic|walk_at"g2")=>`(tactic|with_reducible first|refine G.Zy9 ?_|refine G.Zy8 ?_|refine G.Zy7 ?_|refine G.Zy6 ?_|refine G.Zy5 ?_|refine G.Zy4 ?_)
local macro_rules|`(tactic|walk_at"g2")=>`(tactic|with_reducible first|refine G.Zvh ?_|refine G.Zvg ?_|refine G.Zvf ?_|refine G.Zve ?_|refine G.Zyb ?_|refine G.Zya ?_)
local macro_rules|`(tactic|walk_at"g2")=>`(tactic|with_reducible first|refine G.Zxn ?_|refine G.Zxm ?_|refine G.Zxl ?_|refine G.Zxk ?_|refine G.Zxj ?_|refine G.Zxi ?_)
local macro_rules|`(tactic|walk_at"g2")=>`(tactic|with_reducible first|refine G.Zy1 ?_|refine G.Zy0 ?_|refine G.Zxr ?_|refine G.Zxq ?_|refine G.Zxp ?_|refine G.Zxo ?_)
local macro_rules|`(tactic|walk_at"g2")=>`(tactic|with_reducible first|refine G.Zmi ?_|refine G.Zt6 ?_|refine G.Zxx ?_|refine G.Zxu ?_|refine G.Zyd ?_|refine G.Zvx ?_)
local macro_rules|`(tactic|walk_at"g2")=>`(tactic|with_reducible first|refine G.Ztn ?_|refine G.Zyf ?_|refine G.Zta ?_|refine G.Zvz ?_|refine G.Zt4 ?_|refine G.Zt9 ?_)
local macro_rules|`(tactic|walk_at"g2")=>`(tactic|with_reducible first|refine G.Zq1 ?_|refine G.Zq2 ?_|refine G.Zvn ?_|refine G.Ztm ?_|refine G.Zvq ?_|refine G.Zvj ?_)
local macro_rules|`(tactic|walk_at"g2")=>`(tactic|with_reducible first|refine G.Ztf ?_|refine G.Zte ?_|refine G.Zpz ?_|refine G.Zpy ?_|refine G.Ztc ?_|refine G.Ztd ?_)
local macro_rules|`(tactic|walk_at"g2")=>`(tactic|with_reducible first|refine G.i_U ?_|refine G.Zw1 ?_|refine G.Zw0 ?_|refine G.Zvp ?_|refine G.Zvo ?_|refine G.Ztg ?_)
local macro_rules|`(tactic|walk_at"g2")=>`(tactic|with_reducible first|refine G.Zxv ?_|refine G.Zvm ?_|refine G.Zto ?_|refine G.Zt7 ?_|refine G.Zvr ?_|refine G.Zye ?_)
local macro_rules|`(tactic|walk_at"g2")=>`(tactic|with_reducible first|refine G.Zxw ?_|refine G.Zxs ?_|refine G.i_B ?_|refine G.Zt2 ?_|refine G.Zxt ?_|refine G.Zw3 ?_)
local macro_rules|`(tactic|walk_at"g2")=>`(tactic|with_reducible first|refine G.Zt8 ?_|refine G.Ztj ?_|refine G.Zvl ?_|refine G.Zxy ?_|refine G.Zw2 ?_|refine G.i_C ?_)
local macro_rules|`(tactic|walk_at"g1")=>`(tactic|walk_at"g2")
local macro_rules|`(tactic|walk_at"g1")=>`(tactic|with_reducible refine G.Zmf ?_)
local macro_rules | `(tactic| walk_at "ne")=>`(tactic| first | assumption | (exact Ne.symm (by assumption)) | exact L2.aM (by assumption) (by assumption) | exact Ne.symm (L2.aM (by assumption) (by assumption)) | exact Nat.ne_of_lt (by assumption))
local macro_rules | `(tactic| walk_at "hp")=>`(tactic| first | assumption | exact L2.aq | (refine Eq.trans (L2.aU ?hne) ?_;(case hne=>walk_at "ne");walk_at "hp"))
local macro_rules | `(tactic| walk_at"d")=>`(tactic| first | omega | decide | (show (_:Int)<_;decide) | exact ⟨by decide,by decide⟩ | exact ⟨by decide,by decide,by decide⟩ | (unfold L2.Znt;omega) | exact .inl (by unfold L2.Znt;omega))
local macro_rules | `(tactic| walk_at"e")=>`(tactic| repeat (first | walk_at "g1" | ((with_reducible refine G.i_I ?hc ?_);(case hc=>walk_at"d"))))
local macro_rules | `(tactic| walk_at"s")=>`(tactic| repeat (first | walk_at "g2" | ((with_reducible refine G.i_I ?hc ?_);(case hc=>walk_at"d"))))
local macro_rules | `(tactic| walk_at"c")=>`(tactic| simp only [List.map_cons,List.map_nil,G.pick,List.getElem?_cons_zero,List.getElem?_cons_succ])
namespace K49
open PySem L2 G
def pN(birth:Int)(bulk:Int)(tone:Int)(load:Int)(fa:Addr):List (Str×V):=[("birth",.int birth),("bulk",.int bulk),("tone",.int tone),("load",.int load),("fields",.ref fa)]
theorem oZ{birth:Int}{bulk:Int}{tone:Int}{load:Int}{fa:Addr}:List.lookup ("birth":Str) (pN birth bulk tone load fa)=some (.int birth:V):=rfl
theorem Uq{birth:Int}{bulk:Int}{tone:Int}{load:Int}{fa:Addr}:List.lookup ("bulk":Str) (pN birth bulk tone load fa)=some (.int bulk:V):=rfl
theorem Up{birth:Int}{bulk:Int}{tone:Int}{load:Int}{fa:Addr}:List.lookup ("tone":Str) (pN birth bulk tone load fa)=some (.int tone:V):=rfl
theorem DR{birth:Int}{bulk:Int}{tone:Int}{load:Int}{fa:Addr}:List.lookup ("load":Str) (pN birth bulk tone load fa)=some (.int load:V):=rfl
theorem uC{birth:Int}{bulk:Int}{tone:Int}{load:Int}{fa:Addr}:List.lookup ("fields":Str) (pN birth bulk tone load fa)=some (.ref fa:V):=rfl
theorem Ry{birth:Int}{bulk:Int}{tone:Int}{load:Int}{fa:Addr}(y:Int):fu "tone" (.int y) (pN birth bulk tone load fa)=pN birth bulk y load fa:=rfl
theorem RB{birth:Int}{bulk:Int}{tone:Int}{load:Int}{fa:Addr}(y:Int):fu "load" (.int y) (pN birth bulk tone load fa)=pN birth bulk tone y fa:=rfl
theorem Znm{birth:Int}{bulk:Int}{tone:Int}{load:Int}{fa:Addr}:(fu "fields" (.ref fa) (fu "load" (.int load) (fu "tone" (.int tone) (fu "bulk" (.int bulk) (fu "birth" (.int birth) [])))))=pN birth bulk tone load fa:=rfl
theorem Cp{birth:Int}{bulk:Int}{tone:Int}{load:Int}{fa:Addr}:List.lookup ("units":Str) (pN birth bulk tone load fa)=none:=rfl
theorem Fx{birth:Int}{bulk:Int}{tone:Int}{load:Int}{fa:Addr}:List.lookup ("has_field":Str) (pN birth bulk tone load fa)=none:=rfl
def pX(room:Int)(ca:Addr)(used:Int)(born:Int):List (Str×V):=[("room",.int room),("cells",.ref ca),("used",.int used),("born",.int born)]
theorem DQ{room:Int}{ca:Addr}{used:Int}{born:Int}:List.lookup ("room":Str) (pX room ca used born)=some (.int room:V):=rfl
theorem jL{room:Int}{ca:Addr}{used:Int}{born:Int}:List.lookup ("cells":Str) (pX room ca used born)=some (.ref ca:V):=rfl
theorem xY{room:Int}{ca:Addr}{used:Int}{born:Int}:List.lookup ("used":Str) (pX room ca used born)=some (.int used:V):=rfl
theorem xZ{room:Int}{ca:Addr}{used:Int}{born:Int}:List.lookup ("born":Str) (pX room ca used born)=some (.int born:V):=rfl
theorem Rj{room:Int}{ca:Addr}{used:Int}{born:Int}(y:Int):fu "used" (.int y) (pX room ca used born)=pX room ca y born:=rfl
theorem Rk{room:Int}{ca:Addr}{used:Int}{born:Int}(y:Int):fu "born" (.int y) (pX room ca used born)=pX room ca used y:=rfl
theorem Zmp{room:Int}{ca:Addr}{used:Int}{born:Int}:(fu "born" (.int born) (fu "used" (.int used) (fu "cells" (.ref ca) (fu "room" (.int room) []))))=pX room ca used born:=rfl
theorem Ug{room:Int}{ca:Addr}{used:Int}{born:Int}:List.lookup ("make":Str) (pX room ca used born)=none:=rfl
theorem YD{room:Int}{ca:Addr}{used:Int}{born:Int}:List.lookup ("lay":Str) (pX room ca used born)=none:=rfl
theorem Uh{room:Int}{ca:Addr}{used:Int}{born:Int}:List.lookup ("free":Str) (pX room ca used born)=none:=rfl
def Hs(lk:Addr)(tl:Int):List (Str×V):=[("looking",.ref lk),("tells",.int tl)]
theorem sJ{lk:Addr}{tl:Int}:List.lookup ("looking":Str) (Hs lk tl)=some (.ref lk:V):=rfl
theorem lK{lk:Addr}{tl:Int}:List.lookup ("tells":Str) (Hs lk tl)=some (.int tl:V):=rfl
theorem Zm7{lk:Addr}{tl:Int}:(fu "tells" (.int tl) (fu "looking" (.ref lk) []))=Hs lk tl:=rfl
theorem qY{lk:Addr}{tl:Int}:List.lookup ("words":Str) (Hs lk tl)=none:=rfl
def Wb(nm:Str)(sa:Addr):List (Str×V):=[("name",.str nm),("slots",.ref sa)]
theorem Ui{nm:Str}{sa:Addr}:List.lookup ("name":Str) (Wb nm sa)=some (.str nm:V):=rfl
theorem Cd{nm:Str}{sa:Addr}:List.lookup ("slots":Str) (Wb nm sa)=some (.ref sa:V):=rfl
theorem Zmv{nm:Str}{sa:Addr}:(fu "slots" (.ref sa) (fu "name" (.str nm) []))=Wb nm sa:=rfl
def An(hp:Addr)(ki:Addr)(hl:Addr)(nm:Addr)(sw:Addr):List (Str×V):=[("heap",.ref hp),("kind",.ref ki),("hands",.ref hl),("names",.ref nm),("sweeper",.ref sw)]
theorem fc{hp:Addr}{ki:Addr}{hl:Addr}{nm:Addr}{sw:Addr}:List.lookup ("heap":Str) (An hp ki hl nm sw)=some (.ref hp:V):=rfl
theorem uZ{hp:Addr}{ki:Addr}{hl:Addr}{nm:Addr}{sw:Addr}:List.lookup ("kind":Str) (An hp ki hl nm sw)=some (.ref ki:V):=rfl
theorem tY{hp:Addr}{ki:Addr}{hl:Addr}{nm:Addr}{sw:Addr}:List.lookup ("hands":Str) (An hp ki hl nm sw)=some (.ref hl:V):=rfl
theorem nF{hp:Addr}{ki:Addr}{hl:Addr}{nm:Addr}{sw:Addr}:List.lookup ("names":Str) (An hp ki hl nm sw)=some (.ref nm:V):=rfl
theorem gW{hp:Addr}{ki:Addr}{hl:Addr}{nm:Addr}{sw:Addr}:List.lookup ("sweeper":Str) (An hp ki hl nm sw)=some (.ref sw:V):=rfl
theorem Zgu{hp:Addr}{ki:Addr}{hl:Addr}{nm:Addr}{sw:Addr}:(fu "sweeper" (.ref sw) (fu "names" (.ref nm) (fu "hands" (.ref hl) (fu "kind" (.ref ki) (fu "heap" (.ref hp) [])))))=An hp ki hl nm sw:=rfl
def yH(se:Int)(ph:Str)(gr:Addr)(lo:Int)(tu:Int)(at_:Int)(st:Int)(wa:Int)(ls:Int)(pa:Int)(lx:V):List (Str×V):=[("sense",.int se),("phase",.str ph),("grey",.ref gr),("looked",.int lo),("turn",.int tu),("at",.int at_),("stop",.int st),("walks",.int wa),("looks",.int ls),("passes",.int pa),("loss",lx)]
theorem tZ{se:Int}{ph:Str}{gr:Addr}{lo:Int}{tu:Int}{at_:Int}{st:Int}{wa:Int}{ls:Int}{pa:Int}{lx:V}:List.lookup ("sense":Str) (yH se ph gr lo tu at_ st wa ls pa lx)=some (.int se:V):=rfl
theorem t7{se:Int}{ph:Str}{gr:Addr}{lo:Int}{tu:Int}{at_:Int}{st:Int}{wa:Int}{ls:Int}{pa:Int}{lx:V}:List.lookup ("phase":Str) (yH se ph gr lo tu at_ st wa ls pa lx)=some (.str ph:V):=rfl
theorem Ar{se:Int}{ph:Str}{gr:Addr}{lo:Int}{tu:Int}{at_:Int}{st:Int}{wa:Int}{ls:Int}{pa:Int}{lx:V}:List.lookup ("grey":Str) (yH se ph gr lo tu at_ st wa ls pa lx)=some (.ref gr:V):=rfl
theorem Je{se:Int}{ph:Str}{gr:Addr}{lo:Int}{tu:Int}{at_:Int}{st:Int}{wa:Int}{ls:Int}{pa:Int}{lx:V}:List.lookup ("looked":Str) (yH se ph gr lo tu at_ st wa ls pa lx)=some (.int lo:V):=rfl
theorem Qe{se:Int}{ph:Str}{gr:Addr}{lo:Int}{tu:Int}{at_:Int}{st:Int}{wa:Int}{ls:Int}{pa:Int}{lx:V}:List.lookup ("turn":Str) (yH se ph gr lo tu at_ st wa ls pa lx)=some (.int tu:V):=rfl
theorem Zh0{se:Int}{ph:Str}{gr:Addr}{lo:Int}{tu:Int}{at_:Int}{st:Int}{wa:Int}{ls:Int}{pa:Int}{lx:V}:(fu "loss" (lx) (fu "passes" (.int pa) (fu "looks" (.int ls) (fu "walks" (.int wa) (fu "stop" (.int st) (fu "at" (.int at_) (fu "turn" (.int tu) (fu "looked" (.int lo) (fu "grey" (.ref gr) (fu "phase" (.str ph) (fu "sense" (.int se) [])))))))))))=yH se ph gr lo tu at_ st wa ls pa lx:=rfl
def jt(rm:Int)(kd:Addr)(hd:Addr)(rw:Addr):List (Str×V):=[("room",.int rm),("kind",.ref kd),("hands",.ref hd),("rows",.ref rw)]
theorem mW{rm:Int}{kd:Addr}{hd:Addr}{rw:Addr}:List.lookup ("room":Str) (jt rm kd hd rw)=some (.int rm:V):=rfl
theorem oU{rm:Int}{kd:Addr}{hd:Addr}{rw:Addr}:List.lookup ("kind":Str) (jt rm kd hd rw)=some (.ref kd:V):=rfl
theorem jY{rm:Int}{kd:Addr}{hd:Addr}{rw:Addr}:List.lookup ("hands":Str) (jt rm kd hd rw)=some (.ref hd:V):=rfl
theorem lE{rm:Int}{kd:Addr}{hd:Addr}{rw:Addr}:List.lookup ("rows":Str) (jt rm kd hd rw)=some (.ref rw:V):=rfl
theorem Zh6{rm:Int}{kd:Addr}{hd:Addr}{rw:Addr}:(fu "rows" (.ref rw) (fu "hands" (.ref hd) (fu "kind" (.ref kd) (fu "room" (.int rm) []))))=jt rm kd hd rw:=rfl
def rW(K:aV):TS:=
 (di (nj K (ak 0) (ak 1) "birth")
   (di (nj K (ak 0) (ak 3) "bulk")
   (di (nj K (ak 0) (ak 4) "tone")
   (di (nj K (ak 0) (tC (.int 0)) "load")
   (nj K (ak 0) (dG (Zoi) (mD (aj (tC .non) bW)) (ak 2)) "fields")))))
def xN(K:aV):TS:=
 (eG (dG (qt λi j=>.int (i+j)) (dG (qt λi j=>.int (i+j)) (tC (.int 1)) (Ai (G.rB K) (aj (eU K (ak 0) "fields") bW))) (eU K (ak 0) "bulk")))
def qR(K:aV):TS:=
 (eG (Zc4 (qt λi j=>.bl (decide (i<=j))) (qt λi j=>.bl (decide (i<j))) (tC (.int 0)) (ak 1) (Ai (G.rB K) (aj (eU K (ak 0) "fields") bW))))
def rR(K:aV):TS:=
 (di (nj K (ak 0) (ak 1) "room")
   (di (nj K (ak 0) (mD bW) "cells")
   (di (nj K (ak 0) (tC (.int 0)) "used")
   (nj K (ak 0) (tC (.int 0)) "born"))))
def zq(K:aV)(dY dU d8:Addr)(Jl Du WQ ZD:Sp)(E:XK):TS:=
 (di (eE (zV dY Jl [] E0 (aj (dG (qt λi j=>.int (i+j)) (eU K (ak 0) "born") (tC (.int 1))) (aj (ak 1) (aj (ak 2) (aj (ak 3) bW))))) (cX 4))
   (di (iW (fD (dG (qt λi j=>.bl (decide (j<i))) (uH dY "units" Du [] E0 (ak 4) bW) (uH d8 "free" WQ [] E0 (ak 0) bW))) (G.Jc dU E (aj (tC (.str "the room does not suffice")) bW)) fK)
   (di (nj K (ak 0) (eU K (ak 4) "birth") "born")
   (di (nj K (ak 0) (dG (qt λi j=>.int (i+j)) (eU K (ak 0) "used") (uH dY "units" Du [] E0 (ak 4) bW)) "used")
   (eG (uH d8 "lay" ZD [] E0 (ak 0) (aj (ak 4) bW)))))))
def Bq(K:aV):TS:=
 (di (iW (fD (dG (G.Zry K true) (tC .non) (eU K (ak 0) "cells"))) (di (tL (Sh K "list" oF (eU K (ak 0) "cells") (aj (ak 1) bW)))
   (eG (dG (qt λi j=>.int (i - j)) (Ai (G.rB K) (aj (eU K (ak 0) "cells") bW)) (tC (.int 1))))) fK)
   (di (eE (Sh K "list" (G.Zfn K) (eU K (ak 0) "cells") (aj (tC .non) bW)) (cX 2))
   (di (eE (ak 1) (Rn (eU K (ak 0) "cells") (ak 2) Dv))
   (eG (ak 2)))))
def zu(K:aV):TS:=
 (eG (dG (qt λi j=>.int (i - j)) (eU K (ak 0) "room") (eU K (ak 0) "used")))
def Fb(K:aV):TS:=
 (di (iW ((RZ (fD (dG (G.Xg) (ak 1) (tC .non))) (RZ (fD (dG (qt λi j=>.bl (decide (i<j))) (ak 1) (tC (.int 0)))) (fD (dG (qt λi j=>.bl (decide (j<=i))) (ak 1) (Ai (G.rB K) (aj (eU K (ak 0) "cells") bW))))))) (eG (tC .non)) fK)
   (eG (dG (pQ K) (eU K (ak 0) "cells") (ak 1))))
def Bp(K:aV)(qi:Sp):TS:=
 (di (eE (dH qi [] E0 (aj (ak 0) (aj (ak 1) bW))) (cX 2))
   (di (iW (fD (dG (G.Xg) (ak 2) (tC .non))) (eG (tC .non)) fK)
   (eG (eU K (ak 2) "birth"))))
def rT(K:aV):TS:=
 (di (nj K (ak 0) (ak 1) "name")
   (nj K (ak 0) (dG (Zoi) (mD (aj (tC .non) bW)) (ak 2)) "slots"))
def pP(K:aV):TS:=
 (di (nj K (ak 0) (tC (.int 0)) "sense")
   (di (nj K (ak 0) (tC (.str "rest")) "phase")
   (di (nj K (ak 0) (mD bW) "grey")
   (di (nj K (ak 0) (tC (.int 0)) "looked")
   (di (nj K (ak 0) (tC (.int 0)) "turn")
   (di (nj K (ak 0) (tC (.int 0)) "at")
   (di (nj K (ak 0) (tC (.int 0)) "stop")
   (di (nj K (ak 0) (tC (.int 0)) "walks")
   (di (nj K (ak 0) (tC (.int 0)) "looks")
   (di (nj K (ak 0) (tC (.int 0)) "passes")
   (nj K (ak 0) (tC .non) "loss")))))))))))
def qP(K:aV)(mQ d8 dX:Addr)(Jk Jj Dh:Sp):TS:=
 (di (nj K (ak 0) (zV d8 Jj [] E0 (aj (ak 1) bW)) "heap")
   (di (nj K (ak 0) (ak 2) "kind")
   (di (nj K (ak 0) (G.Nh K (uK K (ak 3)) [] G.pM (zV mQ Jk [] E0 (aj (ak 0) (aj (ak 1) bW)))) "hands")
   (di (nj K (ak 0) (Zc3) "names")
   (nj K (ak 0) (zV dX Dh [] E0 bW) "sweeper")))))
def Xc(K:aV):TS:=
 (eG (G.tLC (uK K (eU K (ak 0) "hands")) [] G.pM (Ai (G.Cr K) (aj (eU K (ak 0) "slots") bW))))
def yZ(K:aV):TS:=
 (eG (dG (Iz) (dG (qt λi j=>.int (Builtin.bitAnd i j)) (dG (rI (λ_ j=>0<=j) λi j=>.int (i / 2 ^ j.toNat)) (eU K (eU K (ak 0) "sweeper") "looked") (ak 1)) (tC (.int 1))) (tC (.int 1))))
def zg(K:aV):TS:=
 (eG (dG (Iz) (eU K (ak 1) "tone") (eU K (eU K (ak 0) "sweeper") "sense")))
def Xb(K:aV)(qi yL:Sp):TS:=
 (di (eE (eU K (ak 0) "sweeper") (cX 2))
   (di (eE (dH qi [] E0 (aj (eU K (ak 0) "heap") (aj (ak 1) bW))) (cX 3))
   (di (iW ((RZ (fD (dG (Ly) (eU K (ak 2) "phase") (tC (.str "walk")))) (RZ (fD (dG (G.Xg) (ak 3) (tC .non))) (tB (dH yL [] E0 (aj (ak 0) (aj (ak 3) bW))))))) (eG (tC .non)) fK)
   (di (nj K (ak 3) (eU K (ak 2) "sense") "tone")
   (di (tL (Sh K "list" oF (eU K (ak 2) "grey") (aj (ak 1) bW)))
   (eG (eU K (ak 3) "birth")))))))
def Bl(K:aV)(Zo0:Sp):TS:=
 (di (eE (mD bW) (cX 2))
   (di (Ni (uK K (ak 1)) (cX 3)
   (di (eE (dH Zo0 [] E0 (aj (ak 0) (aj (ak 3) bW))) (cX 4))
   (iW (fD (dG (G.Zfm) (ak 4) (tC .non))) (tL (Sh K "list" oF (ak 2) (aj (ak 4) bW))) fK)))
   (eG (ak 2))))
def Xd(K:aV)(qi yL:Sp):TS:=
 (di (eE (dH qi [] E0 (aj (eU K (ak 0) "heap") (aj (ak 1) bW))) (cX 3))
   (di (iW ((RZ (fD (dG (G.Xg) (ak 3) (tC .non))) (fD (dG (Ly) (eU K (ak 3) "birth") (ak 2))))) (eG (tC (.bl true))) fK)
   (eG ((Lw (dG (Iz) (eU K (eU K (ak 0) "sweeper") "phase") (tC (.str "give"))) (Zfj (dH yL [] E0 (aj (ak 0) (aj (ak 3) bW)))))))))
def qQ(K:aV):TS:=
 (di (nj K (ak 0) (ak 1) "room")
   (di (nj K (ak 0) (ak 2) "kind")
   (di (nj K (ak 0) (Ai (G.Cr K) (aj (ak 3) bW)) "hands")
   (nj K (ak 0) (Ai (G.Cr K) (aj (ak 4) bW)) "rows"))))
def Bj(K:aV)(gQ:Addr)(Gb:Sp):TS:=
 (eG (zV gQ Gb [] E0 (aj (eU K (ak 0) "room") (aj (eU K (ak 0) "kind") (aj (eU K (ak 0) "hands") bW)))))
def yX(K:aV)(aC:Addr)(lY:Sp):TS:=
 (eG (zV aC lY [] E0 (aj (eU K (ak 0) "room") (aj (eU K (ak 0) "kind") (aj (eU K (ak 0) "hands") (aj (dG (Gm) (eU K (ak 0) "rows") (ak 1)) bW))))))
def Qx(K:aV)(aC:Addr)(lY:Sp):TS:=
 (di (eE (G.tLC (uK K (eU K (ak 0) "rows")) [] (fD (dG (Ly) (dG (iQ K) (ak 0) (tC (.int 0))) (tC (.str "sweep")))) (ak 0)) (cX 1))
   (eG (zV aC lY [] E0 (aj (eU K (ak 0) "room") (aj (eU K (ak 0) "kind") (aj (eU K (ak 0) "hands") (aj (ak 1) bW)))))))
def xM:TS:=
 (eG (tC (.str "first")))
def zx:TS:=
 (eG (tC (.str "each")))
def zp:TS:=
 (eG (tC (.str "last")))
def rQ(K:aV):TS:=
 (di (nj K (ak 0) (ak 1) "looking")
   (nj K (ak 0) (ak 2) "tells"))
def xK(K:aV)(m5 jX mZ:Addr)(WR Su WL:Sp):TS:=
 (di (eE (G.Zjm (uH jX "word" Su [] E0 (eU K (ak 0) "looking") bW) (G.Zjm (uH m5 "word" WR [] E0 (eU K (ak 0) "looking") bW) (uH mZ "word" WL [] E0 (eU K (ak 0) "looking") bW))) (cX 1))
   (di (iW (fD (dG (Ly) (dG (qt λi j=>.int (Builtin.bitAnd i j)) (eU K (ak 0) "tells") (tC (.int 1))) (tC (.int 0)))) (eE (dG (G.uI) (ak 1) (tC (.str " old"))) (cX 1)) fK)
   (di (iW (fD (dG (Ly) (dG (qt λi j=>.int (Builtin.bitAnd i j)) (eU K (ak 0) "tells") (tC (.int 2))) (tC (.int 0)))) (eE (dG (G.uI) (ak 1) (tC (.str " new"))) (cX 1)) fK)
   (eG (ak 1)))))
def Eo(K:aV)(m5 jX iM mZ:Addr)(Ji mF:Sp):TS:=
 (di (Ni (uK K (mD (aj (G.Qc jX) (aj (G.Qc m5) (aj (G.Qc mZ) bW))))) (cX 1)
   (Ni (Ri (aj (tC (.int 4)) bW)) (cX 2)
   (di (eE (zV iM Ji [] E0 (aj (ak 1) (aj (ak 2) bW))) (cX 3))
   (iW (fD (dG (Iz) (uH iM "words" mF [] E0 (ak 3) bW) (ak 0))) (eG (ak 3)) fK))))
   (eG (tC .non)))
def Bk(K:aV):TS:=
 (eG (eU K (dG (pQ K) (eU K (ak 0) "hands") (ak 1)) "slots"))
def EY(K:aV)(bh:Addr)(qi fM:Sp)(E:XK):TS:=
 (di (eE (dH qi [] E0 (aj (eU K (ak 0) "heap") (aj (dG (pQ K) (dH fM [] E0 (aj (ak 0) (aj (ak 1) bW))) (ak 2)) bW))) (cX 3))
   (di (iW (fD (dG (G.Xg) (ak 3) (tC .non))) (G.Jc bh E (aj (tC (.str "the slot holds no cell")) bW)) fK)
   (eG (ak 3))))
def zj(K:aV)(dY cU:Addr)(Gd qg:Sp)(E:XK):TS:=
 (di (eE (dH qg [] E (aj (ak 0) (aj (ak 1) (aj (ak 2) bW)))) (cX 4))
   (di (iW (yh (tB (uH dY "has_field" Gd [] E0 (ak 4) (aj (ak 3) bW)))) (G.Jc cU E (aj (tC (.str "the cell does not have the field")) bW)) fK)
   (eG (eU K (ak 4) "fields"))))
def vp(K:aV):TS:=
 (di (iW (fD (dG (Iz) (dG (qt λi j=>.int (Builtin.bitAnd i j)) (eU K (eU K (ak 0) "kind") "tells") (tC (.int 1))) (tC (.int 0)))) (eG (mD bW)) fK)
   (eG (mD (aj (ak 1) bW))))
def vq(K:aV)(Wx:Sp):TS:=
 (di (iW ((RZ (fD (dG (Iz) (dG (qt λi j=>.int (Builtin.bitAnd i j)) (eU K (eU K (ak 0) "kind") "tells") (tC (.int 2))) (tC (.int 0)))) (tB (dH Wx [] E0 (aj (ak 0) (aj (ak 1) bW)))))) (eG (mD bW)) fK)
   (eG (mD (aj (ak 2) bW))))
def Eu(K:aV)(d8:Addr)(WM iD fM:Sp)(E:XK):TS:=
 (di (eE (dH fM [] E0 (aj (ak 0) (aj (dG (iQ K) (ak 1) (tC (.int 1))) bW))) (cX 2))
   (di (eE (dG (iQ K) (ak 1) (tC (.int 3))) (cX 3))
   (di (eE (dG (iQ K) (ak 1) (tC (.int 4))) (cX 4))
   (di (eE (uH d8 "make" WM [] E (eU K (ak 0) "heap") (aj (ak 3) (aj (ak 4) (aj (eU K (eU K (ak 0) "sweeper") "sense") bW)))) (cX 5))
   (di (eE (ak 5) (Rn (ak 2) (dG (iQ K) (ak 1) (tC (.int 2))) Dv))
   (eG (iK (aj (tC (.str "made")) (aj (dH iD [] E0 (aj (eU K (ak 0) "heap") (aj (ak 5) bW))) (aj (mD bW) bW))))))))))
def JN(K:aV)(iD yM fM:Sp)(E:XK):TS:=
 (di (eE (dG (iQ K) (ak 1) (tC (.int 1))) (cX 2))
   (di (eE (dG (iQ K) (ak 1) (tC (.int 3))) (cX 3))
   (di (eE (dG (iQ K) (ak 1) (tC (.int 4))) (cX 4))
   (di (eE (dG (pQ K) (dH yM [] E (aj (ak 0) (aj (ak 2) (aj (ak 3) (aj (ak 4) bW))))) (ak 4)) (cX 5))
   (di (eE (ak 5) (Rn (dH fM [] E0 (aj (ak 0) (aj (ak 2) bW))) (dG (iQ K) (ak 1) (tC (.int 2))) Dv))
   (eG (iK (aj (tC (.str "got")) (aj (dH iD [] E0 (aj (eU K (ak 0) "heap") (aj (ak 5) bW))) (aj (mD bW) bW))))))))))
def JM(K:aV)(iD yM tM fM u5 Qh:Sp)(E:XK):TS:=
 (di (eE (dG (iQ K) (ak 1) (tC (.int 1))) (cX 2))
   (di (eE (dG (iQ K) (ak 1) (tC (.int 3))) (cX 3))
   (di (eE (dH yM [] E (aj (ak 0) (aj (ak 2) (aj (dG (iQ K) (ak 1) (tC (.int 2))) (aj (ak 3) bW))))) (cX 4))
   (di (eE (dG (pQ K) (ak 4) (ak 3)) (cX 5))
   (di (eE (dG (pQ K) (dH fM [] E0 (aj (ak 0) (aj (ak 2) bW))) (dG (iQ K) (ak 1) (tC (.int 4)))) (cX 6))
   (di (eE (ak 6) (Rn (ak 4) (ak 3) Dv))
   (di (eE (dH tM [] E0 (aj (ak 0) (aj (dG (Gm) (dH Qh [] E0 (aj (ak 0) (aj (ak 5) bW))) (dH u5 [] E0 (aj (ak 0) (aj (ak 2) (aj (ak 6) bW))))) bW))) (cX 7))
   (eG (iK (aj (tC (.str "put")) (aj (dH iD [] E0 (aj (eU K (ak 0) "heap") (aj (ak 5) bW))) (aj (ak 7) bW))))))))))))
def Ez(K:aV)(iD fM:Sp):TS:=
 (di (eE (dH fM [] E0 (aj (ak 0) (aj (dG (iQ K) (ak 1) (tC (.int 1))) bW))) (cX 2))
   (di (eE (dG (pQ K) (ak 2) (dG (iQ K) (ak 1) (tC (.int 3)))) (cX 3))
   (di (eE (ak 3) (Rn (ak 2) (dG (iQ K) (ak 1) (tC (.int 2))) Dv))
   (eG (iK (aj (tC (.str "copied")) (aj (dH iD [] E0 (aj (eU K (ak 0) "heap") (aj (ak 3) bW))) (aj (mD bW) bW))))))))
def Ey(K:aV)(iD fM:Sp):TS:=
 (di (eE (dH fM [] E0 (aj (ak 0) (aj (dG (iQ K) (ak 1) (tC (.int 1))) bW))) (cX 2))
   (di (eE (dG (pQ K) (ak 2) (dG (iQ K) (ak 1) (tC (.int 2)))) (cX 3))
   (di (eE (tC .non) (Rn (ak 2) (dG (iQ K) (ak 1) (tC (.int 2))) Dv))
   (eG (iK (aj (tC (.str "dropped")) (aj (dH iD [] E0 (aj (eU K (ak 0) "heap") (aj (ak 3) bW))) (aj (mD bW) bW))))))))
def Ew(K:aV)(iD tM fM u5:Sp):TS:=
 (di (eE (dG (iQ K) (ak 1) (tC (.int 1))) (cX 2))
   (di (eE (dG (iQ K) (ak 1) (tC (.int 3))) (cX 3))
   (di (eE (dG (pQ K) (dH fM [] E0 (aj (ak 0) (aj (ak 2) bW))) (dG (iQ K) (ak 1) (tC (.int 2)))) (cX 4))
   (di (eE (ak 4) (Rn (dH fM [] E0 (aj (ak 0) (aj (ak 3) bW))) (dG (iQ K) (ak 1) (tC (.int 4))) Dv))
   (di (eE (dH tM [] E0 (aj (ak 0) (aj (dH u5 [] E0 (aj (ak 0) (aj (ak 2) (aj (ak 4) bW)))) bW))) (cX 5))
   (eG (iK (aj (tC (.str "given")) (aj (dH iD [] E0 (aj (eU K (ak 0) "heap") (aj (ak 4) bW))) (aj (ak 5) bW))))))))))
def Bo(K:aV)(qg:Sp)(E:XK):TS:=
 (di (eE (dH qg [] E (aj (ak 0) (aj (dG (iQ K) (ak 1) (tC (.int 1))) (aj (dG (iQ K) (ak 1) (tC (.int 2))) bW)))) (cX 2))
   (di (eE (eU K (ak 2) "load") (cX 3))
   (di (nj K (ak 2) (dG (iQ K) (ak 1) (tC (.int 3))) "load")
   (eG (iK (aj (tC (.str "wrote")) (aj (ak 3) (aj (mD bW) bW))))))))
def Es(K:aV)(qg:Sp)(E:XK):TS:=
 (di (eE (dH qg [] E (aj (ak 0) (aj (dG (iQ K) (ak 1) (tC (.int 1))) (aj (dG (iQ K) (ak 1) (tC (.int 2))) bW)))) (cX 2))
   (eG (iK (aj (tC (.str "read")) (aj (eU K (ak 2) "load") (aj (mD bW) bW))))))
def Et(K:aV)(qg fM:Sp)(E:XK):TS:=
 (di (eE (dG (iQ K) (ak 1) (tC (.int 1))) (cX 2))
   (di (eE (dG (iQ K) (ak 1) (tC (.int 2))) (cX 3))
   (di (eE (eU K (dH qg [] E (aj (ak 0) (aj (ak 2) (aj (ak 3) bW)))) "birth") (cX 4))
   (di (Zk0 (eU K (ak 0) "names") (dG (iQ K) (ak 1) (tC (.int 3))) (iK (aj (dG (pQ K) (dH fM [] E0 (aj (ak 0) (aj (ak 2) bW))) (ak 3)) (aj (ak 4) bW))))
   (eG (iK (aj (tC (.str "named")) (aj (ak 4) (aj (mD bW) bW)))))))))
def Er(K:aV)(iD tM Qj fM:Sp)(E:XK):TS:=
 (di (eE (dH Qj [] E (aj (ak 0) (aj (dG (iQ K) (ak 1) (tC (.int 3))) bW))) (cX 2))
   (di (eE (ak 2) (Rn (dH fM [] E0 (aj (ak 0) (aj (dG (iQ K) (ak 1) (tC (.int 1))) bW))) (dG (iQ K) (ak 1) (tC (.int 2))) Dv))
   (di (eE (dH tM [] E0 (aj (ak 0) (aj (mD (aj (ak 2) bW)) bW))) (cX 3))
   (eG (iK (aj (tC (.str "sought")) (aj (dH iD [] E0 (aj (eU K (ak 0) "heap") (aj (ak 2) bW))) (aj (ak 3) bW))))))))
def vA(K:aV)(dm:Addr)(Zo1:Sp)(E:XK):TS:=
 (di (iW (tB (Wv (ak 1) (eU K (ak 0) "names"))) (G.Jc dm E (aj (tC (.str "the weak name was never given")) bW)) fK)
   (di (eE (dG (iQ K) (Zx (eU K (ak 0) "names") (ak 1)) (tC (.int 0))) (cX 2))
   (di (eE (dG (iQ K) (Zx (eU K (ak 0) "names") (ak 1)) (tC (.int 1))) (cX 3))
   (di (iW (tB (dH Zo1 [] E0 (aj (ak 0) (aj (ak 2) (aj (ak 3) bW))))) (eG (tC .non)) fK)
   (eG (ak 2))))))
def Zk8(K:aV)(jq jo kj jm jk jj j9 ji jg gR:Addr)(Zci Zch Zh3 Zcg Zcf Zce Zh2 Zcd Zcc ZC:Sp)(E:XK):TS:=
 (di (eE (G.Zrn [("make",jk),("get",kj),("put",j9),("copy",jq),("drop",jo),("give",jm),("write",gR),("read",ji),("name",jj),("seek",jg)] (dG (iQ K) (ak 1) (tC (.int 0)))) (cX 2))
   (eG (G.Zc6 2 [(jk,Zcf),(kj,Zh3),(j9,Zh2),(jq,Zci),(jo,Zch),(jm,Zcg),(gR,ZC),(ji,Zcd),(jj,Zce),(jg,Zcc)] E (aj (ak 0) (aj (ak 1) bW)))))
def Bm(aL aK aP aJ aH aG aO aF aD aA:Addr):TS:=
 (eG (G.Zjk [("make",.ref aH),("get",.ref aP),("put",.ref aO),("copy",.ref aL),("drop",.ref aK),("give",.ref aJ),("write",.ref aA),("read",.ref aF),("name",.ref aG),("seek",.ref aD)] (ak 0)))
def Qw(K:aV)(Sq:Sp):TS:=
 (di (iW (fD (dG (Iz) (dG (iQ K) (ak 1) (tC (.int 0))) (tC (.str "sweep")))) (Zjn) fK)
   (eG (mD (aj (dH Sq [] E0 (aj (ak 0) (aj (ak 1) bW))) bW))))
def xH(K:aV):TS:=
 (eG ((Lw (dG (qt λi j=>.bl (decide (j<i))) (Ai (G.rB K) (aj (ak 0) bW)) (tC (.int 0))) (dG (Iz) (dG (iQ K) (dG (pQ K) (ak 0) (tUn (rU λi=>.int (-i)) (tC (.int 1)))) (tC (.int 0))) (tC (.str "lost"))))))
def xG(bh dU cU dm:Addr)(Zjr yK:Sp):TS:=
 (G.Zjj (λcls=>cls=Value.ref bh) (λcls=>cls=Value.ref cU) (λcls=>cls=Value.ref dU) (λcls=>cls=Value.ref dm) (λEx=>(eG (G.Zc5 Zjr [] Ex (aj (ak 0) (aj (ak 1) bW))))) (eG (dH yK [] E0 (aj (tC (.str "empty")) bW))) (eG (dH yK [] E0 (aj (tC (.str "field")) bW))) (eG (dH yK [] E0 (aj (tC (.str "full")) bW))) (eG (dH yK [] E0 (aj (tC (.str "name")) bW))))
def En:TS:=
 (eG (iK (aj (tC (.str "refused")) (aj (ak 0) (aj (mD bW) bW)))))
def Zd3(K:aV)(Zcb Zjp qD:Sp):TS:=
 (di (eE (dH qD [] E0 (aj (ak 0) bW)) (cX 2))
   (di (eE (mD bW) (cX 3))
   (di (Ni (uK K (tSl (Zh9 K) (eU K (ak 0) "rows") yG (G.Zc2 (ak 1)))) (cX 4)
   (di (tL (Sh K "list" oF (ak 3) (aj (dH Zjp [] E0 (aj (ak 2) (aj (ak 4) bW))) bW)))
   (iW (tB (dH Zcb [] E0 (aj (ak 3) bW))) (Zjo) fK)))
   (eG (ak 3)))))
def Ep(K:aV)(Ss:Sp):TS:=
 (eG ((Lw (dG (qt λi j=>.bl (decide (j<i))) (Ai (G.rB K) (aj (ak 0) bW)) (tC (.int 0))) (dH Ss [] E0 (aj (dG (pQ K) (ak 0) (tUn (rU λi=>.int (-i)) (tC (.int 1)))) bW)))))
def Em(K:aV)(iM:Addr)(mF Qf:Sp):TS:=
 (di (eE (G.Nh K (uK K (eU K (ak 0) "hands")) [] G.pM (ak 0)) (cX 1))
   (di (eE (eU K (ak 0) "room") (cX 2))
   (di (eE (uH iM "words" mF [] E0 (eU K (ak 0) "kind") bW) (cX 3))
   (di (eE (mD (aj (G.tFs [(tC (.str "room ")),(G.Zw (ak 2))] Str.empty) (aj (G.tFs [(tC (.str "kind ")),(G.Zw (ak 3))] Str.empty) bW))) (cX 4))
   (di (tL (Sh K "list" Xh (ak 4) (aj (G.Nh K (uK K (eU K (ak 0) "hands")) [] G.pM (G.tFs [(tC (.str "hand ")),(G.Zw (ak 0)),(tC (.str " ")),(G.Zw (ak 1))] Str.empty)) bW)))
   (di (tL (Sh K "list" oF (ak 4) (aj (tC (.str "weave")) bW)))
   (di (tL (Sh K "list" Xh (ak 4) (aj (G.tLC (uK K (eU K (ak 0) "rows")) [1] G.pM (dH Qf [] E0 (aj (ak 0) (aj (ak 1) bW)))) bW)))
   (eG (Sh K "str" (G.Xf K) (tC (.str "\n")) (aj (ak 4) bW))))))))))
def vo(K:aV)(Zz Nj:Sp):TS:=
 (di (eE (dG (iQ K) (ak 0) (tC (.int 0))) (cX 2))
   (di (iW (fD (dG (Iz) (ak 2) (tC (.str "sweep")))) (eG (Sh K "str" (G.Xf K) (tC (.str " ")) (aj (mD (aj (ak 2) (aj (Ai (G.Zbm) (aj (dG (iQ K) (ak 0) (tC (.int 1))) bW)) bW))) bW))) fK)
   (di (eE (G.Nh K (G.Zg3 K true true (aj (dH Zz [] E0 (aj (ak 2) bW)) (aj (tSl (Zuw K) (ak 0) (Ls (tC (.int 1))) yG) bW))) [1] G.pM (dH Nj [] E0 (aj (ak 0) (aj (ak 1) (aj (ak 2) bW))))) (cX 3))
   (eG (Sh K "str" (G.Xf K) (tC (.str " ")) (aj (dG (Gm) (dG (Gm) (tSl (Zh9 K) (ak 3) yG (Ls (tC (.int 1)))) (mD (aj (ak 2) bW))) (tSl (Zh9 K) (ak 3) (Ls (tC (.int 1))) yG)) bW))))))
def uh(K:aV):TS:=
 (eG (tIf (fD (dG (Iz) (ak 0) (tC (.str "hand")))) (dG (pQ K) (ak 2) (ak 1)) (Ai (G.Zgj) (aj (ak 1) bW))))
def ur(K:aV):TS:=
 (di (iW (fD (dG (qt λi j=>.bl (decide (i<j))) (ak 1) (Ai (G.rB K) (aj (ak 0) bW)))) (eG (dG (pQ K) (ak 0) (ak 1))) fK)
   (eG (tC (.int 0))))
def sY:TS:=
 (eG ((Lw (Ai (G.Ih) (aj (ak 0) (aj (tC (.ty "int")) bW))) (Zfj (Ai (G.Ih) (aj (ak 0) (aj (tC (.ty "bool")) bW)))))))
def zm:TS:=
 (di (iW (fD (dG (Iz) (ak 0) (tC (.str "sweep")))) (eG (tC (.str "sweeps"))) fK)
   (eG (ak 0)))
def rP(K:aV)(WK:Sp):TS:=
 (di (eE (tC (.str "abcdefghijklmnopqrstuvwxyz")) (cX 2))
   (di (eE (dG (qt λi j=>.int (i+j)) (tC (.int 1)) (dG (rI (λ_ j=>0<j) λi j=>.int (i % j)) (dG (rI tX λi j=>.int (i / j)) (ak 1) (tC (.int 26))) (tC (.int 12)))) (cX 3))
   (di (eE (mD bW) (cX 4))
   (di (Ni (Ri (aj (dG (qt λi j=>.int (i+j)) (tC (.int 1)) (dG (rI (λ_ j=>0<j) λi j=>.int (i % j)) (ak 0) (tC (.int 5)))) bW)) (cX 5)
   (di (eE (tC (.str "")) (cX 6))
   (di (Ni (Ri (aj (ak 3) bW)) (cX 7)
   (di (eE (dG (qt λi j=>.int (i+j)) (dG (rI G.rF λi j=>.int (i * j)) (dG (rI G.rF λi j=>.int (i * j)) (ak 7) (ak 7)) (tC (.int 3))) (dG (rI G.rF λi j=>.int (i * j)) (ak 7) (dG (rI (λ_ j=>0<j) λi j=>.int (i % j)) (dG (rI tX λi j=>.int (i / j)) (ak 1) (tC (.int 312))) (tC (.int 26))))) (cX 8))
   (di (iW (fD (dG (Iz) (ak 7) (dG (rI (λ_ j=>0<j) λi j=>.int (i % j)) (dG (rI tX λi j=>.int (i / j)) (ak 0) (tC (.int 7))) (ak 3)))) (eE (dG (qt λi j=>.int (i+j)) (ak 8) (ak 5)) (cX 8)) fK)
   (eE (dG (G.uI) (ak 6) (dG (Zkb) (ak 2) (dG (rI (λ_ j=>0<j) λi j=>.int (i % j)) (dG (qt λi j=>.int (i+j)) (ak 1) (ak 8)) (tC (.int 26))))) (cX 6)))))
   (di (iW (fD (dG (Iz) (dG (rI (λ_ j=>0<j) λi j=>.int (i % j)) (dG (rI tX λi j=>.int (i / j)) (ak 0) (tC (.int 91))) (tC (.int 3))) (tC (.int 1)))) (eE (dG (G.Zka) (dG (Zkb) (ak 2) (dG (rI (λ_ j=>0<j) λi j=>.int (i % j)) (ak 1) (tC (.int 26)))) (dG (qt λi j=>.int (i+j)) (tC (.int 1)) (dG (rI (λ_ j=>0<j) λi j=>.int (i % j)) (dG (qt λi j=>.int (i+j)) (ak 5) (dG (rI tX λi j=>.int (i / j)) (ak 1) (tC (.int 26)))) (tC (.int 12))))) (cX 6)) fK)
   (tL (Sh K "list" oF (ak 4) (aj (iK (aj (dH WK [] E0 (aj (ak 6) bW)) (aj (dG (qt λi j=>.int (i+j)) (tC (.int 3)) (dG (rI (λ_ j=>0<j) λi j=>.int (i % j)) (dG (qt λi j=>.int (i+j)) (dG (rI tX λi j=>.int (i / j)) (ak 1) (tC (.int 7))) (dG (rI G.rF λi j=>.int (i * j)) (dG (rI G.rF λi j=>.int (i * j)) (ak 5) (ak 5)) (tC (.int 2)))) (tC (.int 7)))) bW))) bW)))))))
   (di (iW ((Zc7 (fD (dG (Iz) (dG (rI (λ_ j=>0<j) λi j=>.int (i % j)) (dG (rI tX λi j=>.int (i / j)) (ak 0) (tC (.int 273))) (tC (.int 4))) (tC (.int 1)))) (fD (dG (rIn K true) (tC (.str "sweeper")) (G.Nh K (uK K (ak 4)) [] G.pM (ak 0)))))) (eE (iK (aj (tC (.str "sweeper")) (aj (dG (iQ K) (dG (pQ K) (ak 4) (tC (.int 0))) (tC (.int 1))) bW))) (Rn (ak 4) (tC (.int 0)) Dv)) fK)
   (eG (ak 4)))))))
def uq(K:aV):TS:=
 (di (eE (dG (pQ K) (mD (aj (tC (.str "first")) (aj (tC (.str "each")) (aj (tC (.str "last")) bW)))) (dG (rI (λ_ j=>0<j) λi j=>.int (i % j)) (ak 0) (tC (.int 3)))) (cX 1))
   (di (iW (fD (dG (Iz) (dG (rI (λ_ j=>0<j) λi j=>.int (i % j)) (dG (rI tX λi j=>.int (i / j)) (ak 0) (tC (.int 3))) (tC (.int 2))) (tC (.int 1)))) (eE (dG (G.uI) (ak 1) (tC (.str " old"))) (cX 1)) fK)
   (di (iW (fD (dG (Iz) (dG (rI (λ_ j=>0<j) λi j=>.int (i % j)) (dG (rI tX λi j=>.int (i / j)) (ak 0) (tC (.int 6))) (tC (.int 2))) (tC (.int 1)))) (eE (dG (G.uI) (ak 1) (tC (.str " new"))) (cX 1)) fK)
   (eG (ak 1)))))
def um:TS:=
 (di (eE (tC (.str "abcdefghijklmnopqrstuvwxyz")) (cX 2))
   (di (eE (tC (.str "")) (cX 3))
   (di (Ni (Ri (aj (dG (qt λi j=>.int (i+j)) (tC (.int 1)) (dG (rI (λ_ j=>0<j) λi j=>.int (i % j)) (ak 1) (tC (.int 12)))) bW)) (cX 4)
   (eE (dG (G.uI) (ak 3) (dG (Zkb) (ak 2) (dG (rI (λ_ j=>0<j) λi j=>.int (i % j)) (dG (qt λi j=>.int (i+j)) (ak 0) (dG (rI G.rF λi j=>.int (i * j)) (dG (rI G.rF λi j=>.int (i * j)) (ak 4) (ak 4)) (dG (rI (λ_ j=>0<j) λi j=>.int (i % j)) (dG (rI tX λi j=>.int (i / j)) (ak 1) (tC (.int 12))) (tC (.int 26))))) (tC (.int 26))))) (cX 3)))
   (eG (ak 3)))))
def xJ:TS:=
 (di (iW (fD (dG (Iz) (dG (rI (λ_ j=>0<j) λi j=>.int (i % j)) (dG (rI tX λi j=>.int (i / j)) (ak 1) (tC (.int 605))) (tC (.int 3))) (tC (.int 1)))) (eG (dG (rI (λ_ j=>0<j) λi j=>.int (i % j)) (dG (rI PySem.IntMulOk λi j=>.int (i * j)) (dG (qt λi j=>.int (i+j)) (ak 0) (tC (.int 3))) (tC (.int 31415926535897932384626433832795028841971693993751))) (dG (qt λi j=>.int (i+j)) (ak 2) (tC (.int 1))))) fK)
   (eG (dG (rI (λ_ j=>0<j) λi j=>.int (i % j)) (ak 0) (dG (qt λi j=>.int (i+j)) (ak 2) (tC (.int 1))))))
def vB(K:aV)(sX Nk:Sp):TS:=
 (di (eE (dG (rI (λ_ j=>0<j) λi j=>.int (i % j)) (dG (rI G.rF λi j=>.int (i * j)) (dG (qt λi j=>.int (i+j)) (dG (qt λi j=>.int (i+j)) (ak 0) (dG (rI G.rF λi j=>.int (i * j)) (dG (rI G.rF λi j=>.int (i * j)) (tC (.int 17)) (ak 1)) (ak 1))) (tC (.int 29))) (tC (.int 48271))) (tC (.int 7919))) (cX 3))
   (di (eE (dG (rI (λ_ j=>0<j) λi j=>.int (i % j)) (dG (rI G.rF λi j=>.int (i * j)) (dG (qt λi j=>.int (i+j)) (dG (qt λi j=>.int (i+j)) (ak 0) (dG (rI G.rF λi j=>.int (i * j)) (tC (.int 31)) (ak 1))) (tC (.int 7))) (tC (.int 16807))) (tC (.int 6133))) (cX 4))
   (di (eE (dG (rI (λ_ j=>0<j) λi j=>.int (i % j)) (dG (rI tX λi j=>.int (i / j)) (ak 3) (tC (.int 11))) (Ai (G.rB K) (aj (ak 2) bW))) (cX 5))
   (di (eE (dG (rI (λ_ j=>0<j) λi j=>.int (i % j)) (ak 4) (Ai (G.rB K) (aj (ak 2) bW))) (cX 6))
   (di (eE (dG (rI (λ_ j=>0<j) λi j=>.int (i % j)) (dG (rI tX λi j=>.int (i / j)) (ak 4) (tC (.int 5))) (dG (iQ K) (dG (pQ K) (ak 2) (ak 5)) (tC (.int 1)))) (cX 7))
   (di (eE (dG (rI (λ_ j=>0<j) λi j=>.int (i % j)) (dG (rI tX λi j=>.int (i / j)) (ak 3) (tC (.int 55))) (dG (iQ K) (dG (pQ K) (ak 2) (ak 5)) (tC (.int 1)))) (cX 8))
   (di (eE (dH sX [] E0 (aj (ak 0) (aj (ak 3) (aj (dG (pQ K) (mD (aj (tC (.int 8)) (aj (tC (.int 999)) bW))) (dG (rI (λ_ j=>0<j) λi j=>.int (i % j)) (ak 4) (tC (.int 2)))) bW)))) (cX 9))
   (di (eE (dH sX [] E0 (aj (ak 0) (aj (ak 3) (aj (dG (qt λi j=>.int (i - j)) (dG (rI Zj9 λi j=>.int (i ^ j.toNat)) (tC (.int 10)) (tC (.int 60))) (tC (.int 1))) bW)))) (cX 10))
   (di (iW (fD (dG (Iz) (dG (rI (λ_ j=>0<j) λi j=>.int (i % j)) (dG (rI tX λi j=>.int (i / j)) (ak 4) (tC (.int 2))) (tC (.int 2))) (tC (.int 1)))) (eE (dG (qt λi j=>.int (i - j)) (tC (.int 0)) (ak 10)) (cX 10)) fK)
   (di (eE (dH Nk [] E0 (aj (ak 0) (aj (ak 4) bW))) (cX 11))
   (di (iW (fD (dG (Iz) (dG (rI (λ_ j=>0<j) λi j=>.int (i % j)) (dG (rI tX λi j=>.int (i / j)) (ak 4) (tC (.int 3))) (tC (.int 5))) (tC (.int 1)))) (eE (tC (.str "sweep")) (cX 11)) fK)
   (eG (dG (pQ K) (mD (aj (iK (aj (tC (.str "make")) (aj (ak 5) (aj (ak 7) (aj (dG (rI (λ_ j=>0<j) λi j=>.int (i % j)) (dG (rI tX λi j=>.int (i / j)) (ak 4) (tC (.int 45))) (tC (.int 9))) (aj (dH sX [] E0 (aj (ak 0) (aj (ak 3) (aj (dG (rI Zj9 λi j=>.int (i ^ j.toNat)) (tC (.int 10)) (tC (.int 12))) bW)))) bW)))))) (aj (iK (aj (tC (.str "get")) (aj (ak 5) (aj (ak 7) (aj (ak 8) (aj (ak 9) bW)))))) (aj (iK (aj (tC (.str "put")) (aj (ak 5) (aj (ak 8) (aj (ak 9) (aj (ak 7) bW)))))) (aj (iK (aj (tC (.str "copy")) (aj (ak 5) (aj (ak 7) (aj (ak 8) bW))))) (aj (iK (aj (tC (.str "drop")) (aj (ak 5) (aj (ak 7) bW)))) (aj (iK (aj (tC (.str "give")) (aj (ak 5) (aj (ak 7) (aj (ak 6) (aj (dG (rI (λ_ j=>0<j) λi j=>.int (i % j)) (dG (rI tX λi j=>.int (i / j)) (ak 3) (tC (.int 55))) (dG (iQ K) (dG (pQ K) (ak 2) (ak 6)) (tC (.int 1)))) bW)))))) (aj (iK (aj (tC (.str "write")) (aj (ak 5) (aj (ak 8) (aj (ak 10) bW))))) (aj (iK (aj (tC (.str "read")) (aj (ak 5) (aj (ak 8) bW)))) (aj (iK (aj (tC (.str "name")) (aj (ak 5) (aj (ak 8) (aj (ak 11) bW))))) (aj (iK (aj (tC (.str "seek")) (aj (ak 5) (aj (ak 7) (aj (ak 11) bW))))) (aj (iK (aj (tC (.str "sweep")) (aj (dG (qt λi j=>.int (i+j)) (tC (.int 1)) (dH sX [] E0 (aj (ak 0) (aj (ak 3) (aj (tC (.int 9998)) bW))))) bW))) bW)))))))))))) (dG (rI (λ_ j=>0<j) λi j=>.int (i % j)) (ak 3) (tC (.int 11))))))))))))))))
def uo(K:aV):TS:=
 (di (iW (fD (dG (Iz) (dG (iQ K) (ak 0) (tC (.int 0))) (tC (.str "sweep")))) (eG (dG (G.uI) (tC (.str "sweep ")) (Ai (G.Zbm) (aj (dG (iQ K) (ak 0) (tC (.int 1))) bW)))) fK)
   (di (eE (dG (G.uI) (dG (G.uI) (dG (iQ K) (dG (pQ K) (ak 1) (dG (iQ K) (ak 0) (tC (.int 1)))) (tC (.int 0))) (tC (.str " "))) (dG (iQ K) (ak 0) (tC (.int 0)))) (cX 2))
   (di (Ni (Zml (aj (tC (.int 2)) (aj (Ai (G.rB K) (aj (ak 0) bW)) bW))) (cX 3)
   (di (eE (Ai (G.Zgj) (aj (dG (iQ K) (ak 0) (ak 3)) bW)) (cX 4))
   (di (iW ((Zc7 (fD (dG (Iz) (dG (iQ K) (ak 0) (tC (.int 0))) (tC (.str "give")))) (fD (dG (Iz) (ak 3) (tC (.int 3)))))) (eE (dG (iQ K) (dG (pQ K) (ak 1) (dG (iQ K) (ak 0) (tC (.int 3)))) (tC (.int 0))) (cX 4)) fK)
   (eE (dG (G.uI) (dG (G.uI) (ak 2) (tC (.str " "))) (ak 4)) (cX 2)))))
   (eG (ak 2)))))
def rO(K:aV)(xm:Sp):TS:=
 (di (iW ((RZ (yh (tB (Ai (G.Ih) (aj (ak 0) (aj (tC (.ty "tuple")) bW))))) (fD (dG (Ly) (Ai (G.rB K) (aj (ak 0) bW)) (Ai (G.rB K) (aj (ak 1) bW)))))) (eG (tC (.bl false))) fK)
   (di (Ni (G.Zg3 K true true (aj (ak 0) (aj (ak 1) bW))) (Zn1 K 2 (HX (cX 2) (HX (cX 3) Zn2)))
   (di (iW ((Zc7 (tB (Ai (G.Ih) (aj (ak 3) (aj (tC (.ty "str")) bW)))) (yh (tB (Ai (G.Ih) (aj (ak 2) (aj (tC (.ty "str")) bW))))))) (eG (tC (.bl false))) fK)
   (di (iW ((Zc7 (yh (tB (Ai (G.Ih) (aj (ak 3) (aj (tC (.ty "str")) bW))))) (yh (tB (dH xm [] E0 (aj (ak 2) bW)))))) (eG (tC (.bl false))) fK)
   (iW (fD (dG (Ly) (ak 2) (ak 3))) (eG (tC (.bl false))) fK))))
   (eG (tC (.bl true)))))
def qM(K:aV)(Jg:Sp):TS:=
 (di (iW ((RZ (yh (tB (Ai (G.Ih) (aj (ak 0) (aj (tC (.ty "list")) bW))))) (fD (dG (Ly) (Ai (G.rB K) (aj (ak 0) bW)) (Ai (G.rB K) (aj (ak 1) bW)))))) (eG (tC (.bl false))) fK)
   (di (Ni (G.Ztp K (aj (ak 0) (aj (ak 1) bW))) (Zn1 K 2 (HX (cX 2) (HX (cX 3) Zn2)))
   (iW (yh (tB (dH Jg [] E0 (aj (ak 2) (aj (ak 3) bW))))) (eG (tC (.bl false))) fK))
   (eG (tC (.bl true)))))
def qm(K:aV)(iM:Addr)(mF wA xm:Sp):TS:=
 (di (iW ((RZ (yh (tB (dH xm [] E0 (aj (eU K (ak 0) "room") bW)))) (RZ (fD (dG (Ly) (eU K (ak 0) "room") (ak 1))) (fD (dG (Ly) (uH iM "words" mF [] E0 (eU K (ak 0) "kind") bW) (ak 2)))))) (eG (tC (.bl false))) fK)
   (eG ((Lw (dH wA [] E0 (aj (eU K (ak 0) "hands") (aj (ak 3) bW))) (dH wA [] E0 (aj (eU K (ak 0) "rows") (aj (ak 4) bW)))))))
def qO(K:aV)(iM:Addr)(mF Wy:Sp):TS:=
 (di (iW ((RZ (fD (dG (Ly) (eU K (eU K (ak 0) "heap") "room") (ak 1))) (RZ (fD (dG (G.Zkc K true) (eU K (eU K (ak 0) "heap") "cells") (mD bW))) (RZ (fD (dG (Ly) (eU K (eU K (ak 0) "heap") "used") (tC (.int 0)))) (fD (dG (Ly) (eU K (eU K (ak 0) "heap") "born") (tC (.int 0)))))))) (eG (tC (.bl false))) fK)
   (di (iW ((RZ (fD (dG (Ly) (uH iM "words" mF [] E0 (eU K (ak 0) "kind") bW) (ak 2))) (RZ (fD (dG (G.Zkd true) (eU K (ak 0) "names") (Zc3))) (fD (dG (Ly) (eU K (eU K (ak 0) "sweeper") "phase") (tC (.str "rest"))))))) (eG (tC (.bl false))) fK)
   (di (iW ((RZ (fD (dG (Ly) (eU K (eU K (ak 0) "sweeper") "turn") (tC (.int 0)))) (fD (dG (G.Zkc K true) (eU K (eU K (ak 0) "sweeper") "grey") (mD bW))))) (eG (tC (.bl false))) fK)
   (di (iW (fD (dG (G.Zkc K true) (G.tLC (uK K (eU K (ak 0) "hands")) [] G.pM (eU K (ak 0) "name")) (G.Nh K (uK K (ak 3)) [] G.pM (ak 0)))) (eG (tC (.bl false))) fK)
   (eG (dG (G.Zha K false) (dH Wy [] E0 (aj (ak 0) bW)) (G.Nh K (uK K (ak 3)) [] G.pM (dG (Zoi) (mD (aj (tC .non) bW)) (ak 1)))))))))
def qp(K:aV)(gH Np Qi Zjq yJ Qg:Sp):TS:=
 (di (eE (dH Zjq [.non] E0 (aj (ak 0) bW)) (cX 5))
   (di (eE (dH Qg [] E0 (aj (ak 0) bW)) (cX 6))
   (di (eE (iK (aj (tC (.str "drop")) (aj (tC (.int 0)) (aj (tC (.int 2)) bW)))) (cX 7))
   (di (tL (Sh K "list" oF (eU K (ak 0) "rows") (aj (ak 7) bW)))
   (di (eE (dH Zjq [.non] E0 (aj (ak 0) bW)) (cX 8))
   (di (iW ((RZ (fD (dG (Ly) (Ai (G.rB K) (aj (ak 8) bW)) (dG (qt λi j=>.int (i+j)) (Ai (G.rB K) (aj (ak 5) bW)) (tC (.int 1))))) (RZ (fD (dG (G.Zha K true) (tSl (Zh9 K) (ak 8) yG (Ls (tUn (rU λi=>.int (-i)) (tC (.int 1))))) (ak 5))) (fD (dG (Ly) (dG (iQ K) (dG (pQ K) (dG (pQ K) (ak 8) (tUn (rU λi=>.int (-i)) (tC (.int 1)))) (tC (.int 0))) (tC (.int 0))) (tC (.str "dropped"))))))) (eG (tC (.bl false))) fK)
   (di (iW (fD (dG (Ly) (dH Qg [] E0 (aj (ak 0) bW)) (dG (G.uI) (dG (G.uI) (ak 6) (tC (.str "\n"))) (dH Np [] E0 (aj (ak 7) (aj (ak 3) bW)))))) (eG (tC (.bl false))) fK)
   (di (iW (yh (tB (dH gH [] E0 (aj (dH Qi [] E0 (aj (ak 0) bW)) (aj (ak 1) (aj (ak 2) (aj (ak 3) (aj (dG (Gm) (ak 4) (mD (aj (ak 7) bW))) bW)))))))) (eG (tC (.bl false))) fK)
   (di (iW (yh (tB (dH gH [] E0 (aj (dH yJ [] E0 (aj (ak 0) (aj (mD (aj (ak 7) bW)) bW))) (aj (ak 1) (aj (ak 2) (aj (ak 3) (aj (dG (Gm) (ak 4) (mD (aj (ak 7) (aj (ak 7) bW)))) bW)))))))) (eG (tC (.bl false))) fK)
   (eG (dH gH [] E0 (aj (ak 0) (aj (ak 1) (aj (ak 2) (aj (ak 3) (aj (dG (Gm) (ak 4) (mD (aj (ak 7) bW))) bW))))))))))))))))
def oW(K:aV)(ou Zjr Wy qD:Sp):TS:=
 (di (eE (dH qD [] E0 (aj (ak 0) bW)) (cX 5))
   (di (iW (yh (tB (dH ou [] E0 (aj (ak 5) (aj (ak 1) (aj (ak 2) (aj (ak 3) bW))))))) (eG (tC (.bl false))) fK)
   (di (eE (dH Zjr [] E0 (aj (ak 5) (aj (iK (aj (tC (.str "make")) (aj (tC (.int 0)) (aj (ak 4) (aj (tC (.int 0)) (aj (tC (.int 0)) bW)))))) bW))) (cX 6))
   (di (eE (dH qD [] E0 (aj (ak 0) bW)) (cX 7))
   (di (iW ((RZ (fD (dG (G.Zha K true) (ak 6) (iK (aj (tC (.str "made")) (aj (tC (.int 1)) (aj (mD bW) bW)))))) (yh (tB (dH ou [] E0 (aj (ak 7) (aj (ak 1) (aj (ak 2) (aj (ak 3) bW))))))))) (eG (tC (.bl false))) fK)
   (eG ((Lw (dG (Iz) (dG (pQ K) (dG (pQ K) (dH Wy [] E0 (aj (ak 5) bW)) (tC (.int 0))) (ak 4)) (tC (.int 0))) (dG (Iz) (eU K (eU K (ak 5) "heap") "born") (tC (.int 1)))))))))))
def Zd4(K:aV)(aC:Addr)(lY Eb lW Jh Nq ou Aw gH Av Zca Qi yJ qD:Sp):TS:=
 (di (eE (dG (rI (λ_ j=>0<j) λi j=>.int (i % j)) (dG (rI G.rF λi j=>.int (i * j)) (dG (qt λi j=>.int (i+j)) (dH lW [] E0 (aj (ak 0) (aj (tC (.int 0)) bW))) (tC (.int 13))) (tC (.int 48271))) (tC (.int 7919))) (cX 1))
   (di (eE (dH Jh [] E0 (aj (ak 1) (aj (dH lW [] E0 (aj (ak 0) (aj (tC (.int 1)) bW))) bW))) (cX 2))
   (di (eE (dG (qt λi j=>.int (i+j)) (tC (.int 4)) (dG (rI (λ_ j=>0<j) λi j=>.int (i % j)) (dH lW [] E0 (aj (ak 0) (aj (tC (.int 2)) bW))) (dG (qt λi j=>.int (i - j)) (dG (rI Zj9 λi j=>.int (i ^ j.toNat)) (tC (.int 10)) (tC (.int 15))) (tC (.int 3))))) (cX 3))
   (di (eE (dH Nq [] E0 (aj (dH lW [] E0 (aj (ak 0) (aj (tC (.int 3)) bW))) bW)) (cX 4))
   (di (eE (G.Nh K (G.Zmm K (aj (tSl (Zh9 K) (ak 0) (Ls (tC (.int 4))) (Ls (tC (.int 44)))) bW)) [2] G.pM (dH Aw [] E0 (aj (ak 1) (aj (ak 0) (aj (ak 2) bW))))) (cX 5))
   (di (eE (G.tLC (Ri (aj (dG (rI (λ_ j=>0<j) λi j=>.int (i % j)) (dG (rI tX λi j=>.int (i / j)) (ak 1) (tC (.int 35))) (tC (.int 4))) bW)) [0,2] G.pM (dH Aw [] E0 (aj (dG (qt λi j=>.int (i+j)) (dH lW [] E0 (aj (ak 1) (aj (dG (qt λi j=>.int (i+j)) (tC (.int 2)) (ak 0)) bW))) (tC (.int 5))) (aj (ak 0) (aj (ak 2) bW))))) (cX 6))
   (di (eE (Ai (G.Cr K) (aj (ak 2) bW)) (cX 7))
   (di (eE (Ai (G.Cr K) (aj (ak 5) bW)) (cX 8))
   (di (eE (Ai (G.Cr K) (aj (ak 6) bW)) (cX 9))
   (di (eE (zV aC lY [] E0 (aj (ak 3) (aj (dH Zca [] E0 (aj (ak 4) bW)) (aj (ak 7) (aj (ak 8) bW))))) (cX 10))
   (di (tL (Sh K "list" oF (ak 7) (aj (iK (aj (tC (.str "late")) (aj (tC (.int 5)) bW))) bW)))
   (di (tL (Sh K "list" oF (ak 8) (aj (iK (aj (tC (.str "drop")) (aj (tC (.int 0)) (aj (tC (.int 0)) bW)))) bW)))
   (di (eE (dH yJ [] E0 (aj (ak 10) (aj (ak 9) bW))) (cX 11))
   (di (iW (fD (dG (G.Zha K true) (ak 9) (ak 6))) (eG (tC (.bl false))) fK)
   (di (tL (Sh K "list" oF (ak 9) (aj (iK (aj (tC (.str "drop")) (aj (tC (.int 0)) (aj (tC (.int 1)) bW)))) bW)))
   (di (eE (dH Qi [] E0 (aj (ak 10) bW)) (cX 12))
   (di (eE (G.tLC (uK K (ak 5)) [] (fD (dG (Ly) (dG (iQ K) (ak 0) (tC (.int 0))) (tC (.str "sweep")))) (ak 0)) (cX 13))
   (di (tL (Sh K "list" oF (eU K (ak 11) "rows") (aj (iK (aj (tC (.str "drop")) (aj (tC (.int 0)) (aj (tC (.int 2)) bW)))) bW)))
   (di (tL (Sh K "list" oF (eU K (ak 11) "hands") (aj (iK (aj (tC (.str "later")) (aj (tC (.int 4)) bW))) bW)))
   (di (iW (yh (tB (dH gH [] E0 (aj (ak 11) (aj (ak 3) (aj (ak 4) (aj (dG (Gm) (ak 2) (mD (aj (iK (aj (tC (.str "later")) (aj (tC (.int 4)) bW))) bW))) (aj (dG (Gm) (dG (Gm) (ak 5) (ak 6)) (mD (aj (iK (aj (tC (.str "drop")) (aj (tC (.int 0)) (aj (tC (.int 2)) bW)))) bW))) bW)))))))) (eG (tC (.bl false))) fK)
   (di (iW ((RZ (yh (tB (dH gH [] E0 (aj (ak 12) (aj (ak 3) (aj (ak 4) (aj (ak 2) (aj (ak 13) bW)))))))) (yh (tB (dH gH [] E0 (aj (ak 10) (aj (ak 3) (aj (ak 4) (aj (ak 2) (aj (ak 5) bW)))))))))) (eG (tC (.bl false))) fK)
   (di (iW (yh (tB (dH Eb [] E0 (aj (ak 12) (aj (ak 3) (aj (ak 4) (aj (ak 2) (aj (ak 13) bW)))))))) (eG (tC (.bl false))) fK)
   (di (iW ((Zc7 (fD (dG (qt λi j=>.bl (decide (i<j))) (Ai (G.rB K) (aj (ak 2) bW)) (tC (.int 5)))) (yh (tB (dH ou [] E0 (aj (dH qD [] E0 (aj (ak 11) bW)) (aj (ak 3) (aj (ak 4) (aj (dG (Gm) (ak 2) (mD (aj (iK (aj (tC (.str "later")) (aj (tC (.int 4)) bW))) bW))) bW))))))))) (eG (tC (.bl false))) fK)
   (di (iW (yh (tB (dH Av [] E0 (aj (ak 10) (aj (ak 3) (aj (ak 4) (aj (ak 2) (aj (dG (rI (λ_ j=>0<j) λi j=>.int (i % j)) (dH lW [] E0 (aj (ak 0) (aj (tC (.int 3)) bW))) (tC (.int 3))) bW)))))))) (eG (tC (.bl false))) fK)
   (eG (dH gH [] E0 (aj (ak 10) (aj (ak 3) (aj (ak 4) (aj (ak 2) (aj (ak 5) bW)))))))))))))))))))))))))))))))
structure TxC(K:aV)(dY d8:Addr):Prop where
 dB:Ds K dY
 bJ:dN K dY "birth"
 cQ:dN K dY "bulk"
 cP:dN K dY "tone"
 cJ:dN K dY "load"
 bF:dN K dY "fields"
 dw:Ds K d8
 cN:dN K d8 "room"
 bG:dN K d8 "cells"
 cH:dN K d8 "used"
 cI:dN K d8 "born"
 dW:EqD K dY
structure Zbw(CC:Addr)(H:Hp)(p fa:Addr)(birth bulk tone load:Int)(fl:List V):Prop where
 o:∃dx,H p=some (.ins CC dx (pN birth bulk tone load fa))
 f:H fa=some (.lst fl)
structure HpO(CH:Addr)(H:Hp)(hp ca:Addr)(room used born:Int)(cs:List V):Prop where
 o:∃dx,H hp=some (.ins CH dx (pX room ca used born))
 c:H ca=some (.lst cs)
def wZ(CC:Addr):Sp:=λvs H Q E=>∃p birth many bulk tone,vs=[.ref p,.int birth,.int many,.int bulk,.int tone]/\∃dx,H p=some (.ins CC dx [])/\0<=many/\many<=1000/\
 ∀fa H',H fa=none->H' p=some (.ins CC dx (pN birth bulk tone 0 fa))->H' fa=some (.lst (List.replicate many.toNat V.non))->(∀b o,H b=some o->b≠p->H' b=some o)->Q .non H'
def uR(CC:Addr):Sp:=λvs H Q E=>∃p,vs=[.ref p]/\∃fa birth bulk tone load fl,Zbw CC H p fa birth bulk tone load fl/\Q (.int (1+fl.length+bulk)) H
def wW(CH:Addr):Sp:=λvs H Q E=>∃p room,vs=[.ref p,.int room]/\∃dx,H p=some (.ins CH dx [])/\
 ∀ca H',H ca=none->H' p=some (.ins CH dx (pX room ca 0 0))->H' ca=some (.lst [])->(∀b o,H b=some o->b≠p->H' b=some o)->Q .non H'
def wX(CH:Addr):Sp:=λvs H Q E=>∃hp,vs=[.ref hp]/\∃ca room used born cs,HpO CH H hp ca room used born cs/\Q (.int (room - used)) H
def putN(cs:List V)(v:V):List V:=if V.non∈cs then cs.set (cs.idxOf V.non) v else cs++[v]
def zT(K:aV)(CH:Addr):Sp:=λvs H Q E=>∃hp v,vs=[.ref hp,v]/\∃ca room used born cs,HpO CH H hp ca room used born cs/\OkN K H cs/\cs.length<=1000/\Q (.int (cs.idxOf V.non)) (upd H ca (.lst (putN cs v)))
def wV(K:aV)(CC CH CF:Addr):Sp:=λvs H Q E=>∃hp many bulk tone,vs=[.ref hp,.int many,.int bulk,.int tone]/\∃ca dx room used born cs,H hp=some (.ins CH dx (pX room ca used born))/\H ca=some (.lst cs)/\OkN K H cs/\cs.length<=1000/\0<=many/\many<=1000/\
 (room - used<1+many+bulk->∀H',dF H H'->E (.ref CF) none H')/\
 (1+many+bulk<=room - used->∀p fa H',H p=none->H fa=none->Fm [hp,ca] H H'->H' hp=some (.ins CH dx (pX room ca (used+(1+many+bulk)) (born+1)))->H' ca=some (.lst (putN cs (.ref p)))->
  Zbw CC H' p fa (born+1) bulk tone 0 (List.replicate many.toNat V.non)->Q (.int (cs.idxOf V.non)) H')
section
variable {K:aV}{dY d8 dU:Addr}{H:Hp}{Q:VK}{E:XK}{n:St->Hp->Prop}{bk ct:St->Hp->Prop}
theorem Uy{p:Addr}(T:TxC K dY d8)(q:∃fa birth bulk tone load fl,Zbw dY H p fa birth bulk tone load fl/\Q (.int (1+fl.length+bulk)) H):xN K ⟨n,Q,bk,ct⟩ [some (.ref p)] H:=by
 obtain⟨fa,birth,bulk,tone,load,fl,⟨⟨dx,h1⟩,h2⟩,h⟩:=q;unfold xN;walk_at"e";refine cV h1 T.dB T.bF uC ?_;walk_at"e";refine qZ (fj.of h2) ?_;walk_at"e";refine cV h1 T.dB T.cQ Uq ?_;walk_at"e";exact h
theorem Lr{p:Addr}{birth many bulk tone:Int}(T:TxC K dY d8)(q:∃dx,H p=some (.ins dY dx [])/\0<=many/\many<=1000/\
 ∀fa H',H fa=none->H' p=some (.ins dY dx (pN birth bulk tone 0 fa))->H' fa=some (.lst (List.replicate many.toNat V.non))->(∀b o,H b=some o->b≠p->H' b=some o)->Q .non H'):
  rW K ⟨λ_ H'=>Q .non H',Q,bk,ct⟩ [some (.ref p),some (.int birth),some (.int many),some (.int bulk),some (.int tone)] H:=by
 obtain⟨dx,hp,h0,h1,h⟩:=q;unfold rW;walk_at"e";refine⟨p,dY,dx,[],rfl,hp,T.dB,T.bJ,by decide,?_⟩;walk_at"e";refine⟨p,dY,dx,_,rfl,aq,T.dB,T.cQ,by show 1<1000;decide,?_⟩;rw[lO];walk_at"e";refine⟨p,dY,dx,_,rfl,aq,T.dB,T.cP,by show 2<1000;decide,?_⟩;rw[lO];walk_at"e";refine⟨p,dY,dx,_,rfl,aq,T.dB,T.cJ,by show 3<1000;decide,?_⟩;rw[lO];walk_at"e";refine⟨by decide,λl0 hl0=>?_⟩;walk_at"e";refine⟨l0,many,_,rfl,rfl,aq,by omega,by omega,?_,λfa hfa=>?_⟩
 ·show 1 * many.toNat<=sizeLine;exact dR (by omega)
 have npl:p≠l0:=aM aq hl0;have npf:p≠fa:=aM ((aU npl).trans aq) hfa;walk_at"e";refine⟨p,dY,dx,_,rfl,(aU npf).trans ((aU npl).trans aq),T.dB,T.bF,by show 4<1000;decide,?_⟩;have nfa:H fa=none:=by
  have e:=hfa;have n1:fa≠l0:=λz=>by rw[z,aq]at e;cases e
  rw[aU n1,aU npf.symm]at e;exact e
 refine h fa _ nfa (aq.trans (congrArg (λl=>some (HO.ins dY dx l)) Znm)) ?_ λb o hb hne=>?_
 ·rw[aU npf.symm,aq];have e:(List.replicate many.toNat [V.non]).flatten=List.replicate many.toNat V.non:=by
   generalize many.toNat=k
   induction k with
   | zero=>rfl
   | succ k ih=>rw[List.replicate_succ,List.replicate_succ,List.flatten_cons,ih];rfl
  rw[e]
 ·have e1:upd H p (HO.ins dY dx (fu "load" (V.int 0) (fu "tone" (V.int tone) (fu "bulk" (V.int bulk) (fu "birth" (V.int birth) []))))) b=some o:=(aU hne).trans hb;have n1:b≠l0:=aM e1 hl0;have n2:b≠fa:=aM ((aU n1).trans e1) hfa;rw[aU hne,aU n2,aU n1];exact e1
theorem Le{p:Addr}{room:Int}(T:TxC K dY d8)(q:∃dx,H p=some (.ins d8 dx [])/\
 ∀ca H',H ca=none->H' p=some (.ins d8 dx (pX room ca 0 0))->H' ca=some (.lst [])->(∀b o,H b=some o->b≠p->H' b=some o)->Q .non H'):
  rR K ⟨λ_ H'=>Q .non H',Q,bk,ct⟩ [some (.ref p),some (.int room)] H:=by
 obtain⟨dx,hp,h⟩:=q;unfold rR;walk_at"e";refine⟨p,d8,dx,[],rfl,hp,T.dw,T.cN,by decide,?_⟩;walk_at"e";refine⟨by decide,λca hca=>?_⟩;walk_at"e";have npc:p≠ca:=aM aq hca;refine⟨p,d8,dx,_,rfl,(aU npc).trans aq,T.dw,T.bG,by show 1<1000;decide,?_⟩;walk_at"e";refine⟨p,d8,dx,_,rfl,aq,T.dw,T.cH,by show 2<1000;decide,?_⟩;rw[lO];walk_at"e";refine⟨p,d8,dx,_,rfl,aq,T.dw,T.cI,by show 3<1000;decide,?_⟩;rw[lO];have nca:H ca=none:=by
  have e:=hca;rw[aU npc.symm]at e;exact e
 refine h ca _ nca (aq.trans (congrArg (λl=>some (HO.ins d8 dx l)) Zmp)) ?_ λb o hb hne=>?_
 ·rw[aU npc.symm,aq]
 ·rw[aU hne,aU (aM ((aU hne).trans hb) hca),aU hne];exact hb
theorem Zf{hp:Addr}(T:TxC K dY d8)(q:∃ca room used born cs,HpO d8 H hp ca room used born cs/\Q (.int (room - used)) H):zu K ⟨n,Q,bk,ct⟩ [some (.ref hp)] H:=by
 obtain⟨ca,room,used,born,cs,⟨⟨dx,h1⟩,h2⟩,h⟩:=q;unfold zu;walk_at"e";refine cV h1 T.dw T.cN DQ ?_;walk_at"e";refine cV h1 T.dw T.cH xY ?_;walk_at"e";exact h
theorem Zbt{hp:Addr}{v:V}(T:TxC K dY d8)(q:∃ca room used born cs,HpO d8 H hp ca room used born cs/\OkN K H cs/\cs.length<=1000/\Q (.int (cs.idxOf V.non)) (upd H ca (.lst (putN cs v)))):Bq K ⟨n,Q,bk,ct⟩ [some (.ref hp),some v,none] H:=by
 obtain⟨ca,room,used,born,cs,⟨⟨dx,h1⟩,h2⟩,ho,hl,h⟩:=q;unfold Bq;walk_at"e";refine cV h1 T.dw T.bG jL ?_;walk_at"e";refine Zmh (fj.of h2) ho ?_;walk_at"e";refine sO (λhn=>?_) (λhn=>?_)
 ·walk_at"e";refine cV h1 T.dw T.bG jL ?_;refine⟨.inl ⟨rfl,_,fj.of h2⟩,?_⟩;walk_at"e";refine⟨ca,cs,v,rfl,rfl,h2,Nat.lt_of_le_of_lt hl (by decide),?_⟩;walk_at"e";have hne:hp≠ca:=QV h1 h2 (λz=>by cases z);refine cV ((aU hne).trans h1) T.dw T.bG jL ?_;walk_at"e";refine qZ (fj.of aq) ?_;walk_at"e";have e1:(((cs++[v]).length:Int) - 1)=(cs.idxOf V.non:Nat):=by
   rw[List.length_append,List.idxOf_eq_length hn];simp
  have e2:putN cs v=cs++[v]:=by unfold putN;rw[if_neg hn]
  rw[e1,<- e2];exact h
 ·walk_at"e";refine cV h1 T.dw T.bG jL ?_;refine⟨.inl ⟨rfl,_,fj.of h2⟩,?_⟩;walk_at"e";refine⟨ca,cs,rfl,rfl,fj.of h2,ho,hn,?_⟩;walk_at"e";refine cV h1 T.dw T.bG jL ?_;walk_at"e";have hi:cs.idxOf V.non<cs.length:=List.idxOf_lt_length_iff.mpr hn;refine⟨ca,cs,_,_,rfl,rfl,h2,uP hi,?_⟩;have e2:putN cs v=cs.set (cs.idxOf V.non) v:=by unfold putN;rw[if_pos hn]
  rw[<- e2];walk_at"e";exact h
theorem Ze{hp:Addr}{many bulk tone:Int}(T:TxC K dY d8)(q:∃ca dx room used born cs,H hp=some (.ins d8 dx (pX room ca used born))/\H ca=some (.lst cs)/\OkN K H cs/\cs.length<=1000/\0<=many/\many<=1000/\
 (room - used<1+many+bulk->∀H',dF H H'->E (.ref dU) none H')/\
 (1+many+bulk<=room - used->∀p fa H',H p=none->H fa=none->Fm [hp,ca] H H'->H' hp=some (.ins d8 dx (pX room ca (used+(1+many+bulk)) (born+1)))->H' ca=some (.lst (putN cs (.ref p)))->
  Zbw dY H' p fa (born+1) bulk tone 0 (List.replicate many.toNat V.non)->Q (.int (cs.idxOf V.non)) H')):
  zq K dY dU d8 (wZ dY) (uR dY) (wX d8) (zT K d8) E ⟨n,Q,bk,ct⟩ [some (.ref hp),some (.int many),some (.int bulk),some (.int tone),none] H:=by
 obtain⟨ca,dx,room,used,born,cs,h1,h2,ho,hl,m0,m1,hE,hQ⟩:=q;have hne:hp≠ca:=QV h1 h2 (λz=>by cases z);unfold zq;walk_at"e";refine cV h1 T.dw T.cI xZ ?_;walk_at"e";intro p dp np ndp ned;refine⟨p,_,many,_,_,rfl,dp,aq,m0,m1,λfa H1 nfa c1 c2 f3=>⟨rfl,?_⟩⟩;have Zsk:H fa=none:=by
  have e:=nfa
  by_cases z1:fa=p
  ·rw[z1,aq]at e;cases e
  ·rw[aU z1]at e
   by_cases z2:fa=dp
   ·rw[z2,aq]at e;cases e
   ·rw[aU z2]at e;exact e
 have sm:dF H H1:=λb o hb=>by
  refine f3 b o ?_ (aM hb np);rw[aU (aM hb np),aU (aM hb ndp)];exact hb
 have co:Zbw dY H1 p fa (born+1) bulk tone 0 (List.replicate many.toNat V.non):=⟨⟨dp,c1⟩,c2⟩;have el:((List.replicate many.toNat V.non).length:Int)=many:=by rw[List.length_replicate];omega
 walk_at"e";refine⟨p,dp,_,rfl,c1,Cp,?_⟩;walk_at"e";refine⟨p,rfl,fa,_,_,_,_,_,co,?_⟩;walk_at"e";refine⟨hp,dx,_,rfl,sm _ _ h1,Uh,?_⟩;walk_at"e";refine⟨hp,rfl,ca,room,used,born,cs,⟨⟨dx,sm _ _ h1⟩,sm _ _ h2⟩,?_⟩;walk_at"e";rw[el];refine DP (λhf=>?_) (λhf=>?_)
 ·walk_at"e";exact⟨by decide,hE hf H1 sm⟩
 ·walk_at"e";refine cV c1 T.dB T.bJ oZ ?_;walk_at"e";refine⟨hp,d8,dx,_,rfl,sm _ _ h1,T.dw,T.cI,by show 4<1000;decide,?_⟩;rw[Rk];walk_at"e";refine cV aq T.dw T.cH xY ?_;walk_at"e";have n1:p≠hp:=(aM h1 np).symm;have n2:fa≠hp:=(aM h1 Zsk).symm;have n3:p≠ca:=(aM h2 np).symm;have n4:fa≠ca:=(aM h2 Zsk).symm;refine⟨p,dp,_,rfl,(aU n1).trans c1,Cp,?_⟩;walk_at"e";refine⟨p,rfl,fa,_,_,_,_,_,⟨⟨dp,(aU n1).trans c1⟩,(aU n2).trans c2⟩,?_⟩;walk_at"e";rw[el];refine⟨hp,d8,dx,_,rfl,aq,T.dw,T.cH,by show 4<1000;decide,?_⟩;rw[Rj,lO];walk_at"e";refine⟨hp,dx,_,rfl,aq,YD,?_⟩;walk_at"e";refine⟨hp,.ref p,rfl,ca,room,_,_,cs,⟨⟨dx,aq⟩,(aU hne.symm).trans (sm _ _ h2)⟩,?_,hl,?_⟩
  ·intro y hy;rcases ho y hy with e | ⟨a,C,d,fs,e,ha,hc,he⟩
   ·exact .inl e
   ·refine .inr ?_
    by_cases z:a=hp
    ·rw[z]at ha e;rw[h1]at ha;cases ha;exact⟨hp,_,_,_,e,aq,hc,he⟩
    ·exact⟨a,C,d,fs,e,(aU z).trans (sm _ _ ha),hc,he⟩
  ·refine hQ (by omega) p fa _ np Zsk ?_ ((aU hne).trans aq) aq ⟨⟨dp,?_⟩,?_⟩
   ·intro b o hb hn;have b1:b≠hp:=λz=>hn (by rw[z];exact List.mem_cons_self);have b2:b≠ca:=λz=>hn (by rw[z];exact List.mem_cons_of_mem _ List.mem_cons_self);rw[aU b2,aU b1];exact sm _ _ hb
   ·rw[aU n3,aU n1];exact c1
   ·rw[aU n4,aU n2];exact c2
end
structure Ce where
 birth:Int
 bulk:Int
 tone:Int
 load:Int
 fl:List (Option Int)
 deriving DecidableEq
structure Sw where
 sense:Int
 phase:Str
 grey:List Int
 looked:Int
 turn:Int
 at':Int
 stop:Int
 walks:Int
 looks:Int
 passes:Int
 loss:V
structure Wm where
 room:Int
 used:Int
 born:Int
 cells:List (Option Ce)
 hands:List (Str×List (Option Int))
 names:List (Str×(Int×Int))
 w:Int
 tells:Int
 sw:Sw
structure Wa where
 wo:Addr
 hp:Addr
 ca:Addr
 ki:Addr
 lk:Addr
 hl:Addr
 nm:Addr
 sw:Addr
 gr:Addr
 hs:List (Addr×Addr)
 cs:List (Option (Addr×Addr))
 ns:List Addr
def oV:Option Int->V
 | none=>.non
 | some i=>.int i
def pV:Option (Addr×Addr)->V
 | none=>.non
 | some p=>.ref p.1
structure Am(s:Nat)(t0:Nat->Prop)(H H':Hp)(T T':Tg):Prop where
 kp:∀b o,H b=some o->(T b).1=s->¬ t0 (T b).2->H' b=some o
 tg:∀b o,H b=some o->T' b=T b
section
variable {CHd CC:Addr}{H H':Hp}{T T':Tg}{s j i:Nat}{t0:Nat->Prop}
theorem Am.at{a:Addr}{o:HO}{m:Nat}(f:Am s t0 H H' T T')(ht:T a=(s,m))(n:¬ t0 m)(h:H a=some o):H' a=some o:=f.kp a o h (by rw[ht]) (by rw[ht];exact n)
theorem Am.tag{a:Addr}{o:HO}{x:Nat×Nat}(f:Am s t0 H H' T T')(h:H a=some o)(ht:T a=x):T' a=x:=(f.tg a o h).trans ht
theorem Am.Kf{a:Addr}{o:HO}{m:Nat}(ht:T a=(s,m)):Am s (·=m) H (upd H a o) T T:=⟨λb u h e n=>by
  have:b≠a:=λz=>n (by rw[z,ht]);rw[aU this];exact h,λ_ _ _=>rfl⟩
theorem Am.of_same(e:dF H H'):Am s (λ_=>False) H H' T T:=⟨λb o h _ _=>e b o h,λ_ _ _=>rfl⟩
theorem Am.Zl9{s':Nat}(e:pC s' H H' T T')(n:s≠s'):Am s (λ_=>False) H H' T T':=⟨λb o h z _=>e.kp b o h (by rw[z];exact n),e.tg⟩
structure HdO(CHd:Addr)(H:Hp)(T:Tg)(s j:Nat)(p:Addr×Addr)(m:Str×List (Option Int)):Prop where
 t1:T p.1=(s,20+2 * j)
 t2:T p.2=(s,21+2 * j)
 o1:∃dx,H p.1=some (.ins CHd dx (Wb m.1 p.2))
 o2:H p.2=some (.lst (m.2.map oV))
theorem HdO.mv{p:Addr×Addr}{m:Str×List (Option Int)}(h:HdO CHd H T s j p m)(f:Am s t0 H H' T T')(n1:¬ t0 (20+2 * j))(n2:¬ t0 (21+2 * j)):HdO CHd H' T' s j p m:=by
 obtain⟨a1,a2,⟨dx,b1⟩,b2⟩:=h;exact⟨f.tag b1 a1,f.tag b2 a2,⟨dx,f.at a1 n1 b1⟩,f.at a2 n2 b2⟩
structure Uz(CC:Addr)(H:Hp)(T:Tg)(s i:Nat)(p:Addr×Addr)(c:Ce):Prop where
 t1:T p.1=(s,100+2 * i)
 t2:T p.2=(s,101+2 * i)
 o1:∃dx,H p.1=some (.ins CC dx (pN c.birth c.bulk c.tone c.load p.2))
 o2:H p.2=some (.lst (c.fl.map oV))
theorem Uz.mv{p:Addr×Addr}{c:Ce}(h:Uz CC H T s i p c)(f:Am s t0 H H' T T')(n1:¬ t0 (100+2 * i))(n2:¬ t0 (101+2 * i)):Uz CC H' T' s i p c:=by
 obtain⟨a1,a2,⟨dx,b1⟩,b2⟩:=h;exact⟨f.tag b1 a1,f.tag b2 a2,⟨dx,f.at a1 n1 b1⟩,f.at a2 n2 b2⟩
def CeP(CC:Addr)(H:Hp)(T:Tg)(s i:Nat):Option (Addr×Addr)->Option Ce->Prop
 | none,none=>True
 | some p,some c=>Uz CC H T s i p c
 | _,_=>False
theorem CeP.mv{p:Option (Addr×Addr)}{c:Option Ce}(h:CeP CC H T s i p c)(f:Am s t0 H H' T T')(n1:¬ t0 (100+2 * i))(n2:¬ t0 (101+2 * i)):CeP CC H' T' s i p c:=by
 cases p with
 | none=>cases c with
  | none=>trivial
  | some c=>exact h.elim
 | some p=>cases c with
  | none=>exact h.elim
  | some c=>exact Uz.mv h f n1 n2
end
def NmO(H:Hp)(T:Tg)(t:Addr)(m:Str×(Int×Int)):Prop:=T t=(0,0)/\H t=some (.tup [.int m.2.1,.int m.2.2])
structure Cs where
 W:Addr
 H:Addr
 C:Addr
 K:Addr
 D:Addr
 S:Addr
 F:Addr
 E:Addr
 L:Addr
structure WB(X:Cs)(H:Hp)(T:Tg)(s:Nat)(A:Wa)(w tells:Int):Prop where
 tw:T A.wo=(s,0)
 tk:T A.ki=(0,0)
 tl:T A.lk=(0,0)
 tn:T A.hl=(s,5)
 ow:∃dx,H A.wo=some (.ins X.W dx (An A.hp A.ki A.hl A.nm A.sw))
 ok:∃dx,H A.ki=some (.ins X.K dx (Hs A.lk tells))
 ol:∃dx,(w=0/\H A.lk=some (.ins X.F dx []))\/(w=1/\H A.lk=some (.ins X.E dx []))\/(w=2/\H A.lk=some (.ins X.L dx []))
 on:H A.hl=some (.lst (A.hs.map λp=>V.ref p.1))
structure WH(X:Cs)(H:Hp)(T:Tg)(s:Nat)(A:Wa)(room used born:Int):Prop where
 th:T A.hp=(s,1)
 tc:T A.ca=(s,2)
 oh:∃dx,H A.hp=some (.ins X.H dx (pX room A.ca used born))
 oc:H A.ca=some (.lst (A.cs.map pV))
def IK(M:List (Str×(Int×Int)))(ns:List Addr):List ((Int ⊕ Str)×V):=List.zipWith (λ(m:Str×(Int×Int)) (t:Addr)=>(Sum.inr m.1,V.ref t)) M ns
structure WN(H:Hp)(T:Tg)(s:Nat)(A:Wa)(names:List (Str×(Int×Int))):Prop where
 tm:T A.nm=(s,6)
 om:H A.nm=some (.dK (IK names A.ns))
 nms:Al (NmO H T) A.ns names
structure WS(X:Cs)(H:Hp)(T:Tg)(s:Nat)(A:Wa)(S:Sw):Prop where
 ts:T A.sw=(s,7)
 tg:T A.gr=(s,8)
 os:∃dx,H A.sw=some (.ins X.S dx (yH S.sense S.phase A.gr S.looked S.turn S.at' S.stop S.walks S.looks S.passes S.loss))
 og:H A.gr=some (.lst (S.grey.map V.int))
structure WD(X:Cs)(H:Hp)(T:Tg)(s:Nat)(hs:List (Addr×Addr))(hands:List (Str×List (Option Int))):Prop where
 lh:hs.length=hands.length
 l5:hs.length<=30
 hd:∀(j:Nat) p m,hs[j]? =some p->hands[j]? =some m->HdO X.D H T s j p m
structure WC(X:Cs)(H:Hp)(T:Tg)(s:Nat)(cs:List (Option (Addr×Addr)))(cells:List (Option Ce)):Prop where
 lc:cs.length=cells.length
 ce:∀(i:Nat) p c,cs[i]? =some p->cells[i]? =some c->CeP X.C H T s i p c
structure WJ(X:Cs)(H:Hp)(T:Tg)(s:Nat)(A:Wa)(M:Wm):Prop where
 jb:WB X H T s A M.w M.tells
 jh:WH X H T s A M.room M.used M.born
 jn:WN H T s A M.names
 js:WS X H T s A M.sw
 jd:WD X H T s A.hs M.hands
 jc:WC X H T s A.cs M.cells
section
variable {X:Cs}{H H':Hp}{T T':Tg}{s:Nat}{t0:Nat->Prop}{A:Wa}{M:Wm}
theorem WB.mv{w tells:Int}(j:WB X H T s A w tells)(f:Am s t0 H H' T T')(f0:∀b o,H b=some o->T b=(0,0)->H' b=some o)(n0:¬ t0 0)(n5:¬ t0 5):WB X H' T' s A w tells:=by
 obtain⟨tw,tk,tl,tn,⟨d1,ow⟩,⟨d3,ok⟩,⟨d4,ol⟩,on⟩:=j;have hlk:∃o,H A.lk=some o:=by
  rcases ol with ⟨_,e⟩ | ⟨_,e⟩ | ⟨_,e⟩
  ·exact⟨_,e⟩
  ·exact⟨_,e⟩
  ·exact⟨_,e⟩
 obtain⟨olk,elk⟩:=hlk;refine⟨f.tag ow tw,f.tag ok tk,f.tag elk tl,f.tag on tn,⟨d1,f.at tw n0 ow⟩,⟨d3,f0 _ _ ok tk⟩,⟨d4,?_⟩,f.at tn n5 on⟩;rcases ol with ⟨z,e⟩ | ⟨z,e⟩ | ⟨z,e⟩
 ·exact .inl ⟨z,f0 _ _ e tl⟩
 ·exact .inr (.inl ⟨z,f0 _ _ e tl⟩)
 ·exact .inr (.inr ⟨z,f0 _ _ e tl⟩)
theorem WH.mv{room used born:Int}(j:WH X H T s A room used born)(f:Am s t0 H H' T T')(n1:¬ t0 1)(n2:¬ t0 2):WH X H' T' s A room used born:=by
 obtain⟨th,tc,⟨d,oh⟩,oc⟩:=j;exact⟨f.tag oh th,f.tag oc tc,⟨d,f.at th n1 oh⟩,f.at tc n2 oc⟩
theorem WN.mv{names:List (Str×(Int×Int))}(j:WN H T s A names)(f:Am s t0 H H' T T')(f0:∀b o,H b=some o->T b=(0,0)->H' b=some o)(n6:¬ t0 6):WN H' T' s A names:=by
 obtain⟨tm,om,nms⟩:=j;exact⟨f.tag om tm,f.at tm n6 om,nms.mono λt m ⟨z1,z2⟩=>⟨f.tag z2 z1,f0 _ _ z2 z1⟩⟩
theorem WS.mv{S:Sw}(j:WS X H T s A S)(f:Am s t0 H H' T T')(n7:¬ t0 7)(n8:¬ t0 8):WS X H' T' s A S:=by
 obtain⟨ts,tg,⟨d,os⟩,og⟩:=j;exact⟨f.tag os ts,f.tag og tg,⟨d,f.at ts n7 os⟩,f.at tg n8 og⟩
theorem WD.mv{hs:List (Addr×Addr)}{hands:List (Str×List (Option Int))}(j:WD X H T s hs hands)(f:Am s t0 H H' T T')(n:∀k,20<=k->k<100->¬ t0 k):WD X H' T' s hs hands:=by
 obtain⟨lh,l5,hd⟩:=j;refine⟨lh,l5,λj p m e1 e2=>?_⟩;have hl:j<hs.length:=(gG e1).1;exact(hd j p m e1 e2).mv f (n _ (by omega) (by omega)) (n _ (by omega) (by omega))
theorem WC.mv{cs:List (Option (Addr×Addr))}{cells:List (Option Ce)}(j:WC X H T s cs cells)(f:Am s t0 H H' T T')(n:∀k,100<=k->¬ t0 k):WC X H' T' s cs cells:=by
 obtain⟨lc,ce⟩:=j;exact⟨lc,λi p c e1 e2=>(ce i p c e1 e2).mv f (n _ (by omega)) (n _ (by omega))⟩
theorem WJ.mv(j:WJ X H T s A M)(f:Am s (λ_=>False) H H' T T')(f0:∀b o,H b=some o->T b=(0,0)->H' b=some o):WJ X H' T' s A M:=
 ⟨j.jb.mv f f0 id id,j.jh.mv f id id,j.jn.mv f f0 id,j.js.mv f id id,j.jd.mv f λ_ _ _=>id,j.jc.mv f λ_ _=>id⟩
theorem WJ.same(j:WJ X H T s A M)(e:dF H H'):WJ X H' T s A M:=j.mv (Am.of_same e) λb o h _=>e b o h
theorem WJ.other{s':Nat}(j:WJ X H T s A M)(e:pC s' H H' T T')(n:s≠s')(n0:s'≠0):WJ X H' T' s A M:=j.mv (Am.Zl9 e n) λb o h t=>e.kp b o h (by rw[t];exact λz=>n0 z.symm)
theorem vU{a:Addr}{o':HO}{m:Nat}(h0:s≠0)(ta:T a=(s,m)):∀b o,H b=some o->T b=(0,0)->upd H a o' b=some o:=λb o e t=>by
 rw[aU (Zdv t ta (λz=>h0 (congrArg Prod.fst z).symm))];exact e
theorem WJ.slot(j:WJ X H T s A M)(w:WT H T)(h0:s≠0){h k:Nat}{p:Addr×Addr}{m:Str×List (Option Int)}{x:Option Int}(hp:A.hs[h]? =some p)(hm:M.hands[h]? =some m):
  pC s H (upd H p.2 (.lst ((m.2.map oV).set k (oV x)))) T T/\WJ X (upd H p.2 (.lst ((m.2.map oV).set k (oV x)))) T s A { M with hands:=M.hands.set h (m.1,m.2.set k x) }:=by
 have hl:=j.jd.l5;have hh:h<A.hs.length:=(gG hp).1;have hh':h<M.hands.length:=(gG hm).1;have d:=j.jd.hd h p m hp hm;refine⟨pC.upd w d.o2 (by rw[d.t2]),?_⟩;have f:Am s (·=21+2 * h) H (upd H p.2 (.lst ((m.2.map oV).set k (oV x)))) T T:=Am.Kf d.t2;have b2:upd H p.2 (.lst ((m.2.map oV).set k (oV x))) p.2=some (.lst ((m.2.set k x).map oV)):=by rw[aq,List.map_set]
 refine⟨j.jb.mv f (vU h0 d.t2) (by omega) (by omega),j.jh.mv f (by omega) (by omega),j.jn.mv f (vU h0 d.t2) (by omega),j.js.mv f (by omega) (by omega),⟨by rw[List.length_set];exact j.jd.lh,hl,λj' p' m' e1 e2=>?_⟩,j.jc.mv f λ_ _=>by omega⟩
 by_cases hj:j'=h
 ·subst hj;dsimp only at e2;rw[List.getElem?_set_self hh']at e2;rw[hp]at e1;cases e1;cases e2;obtain⟨dd,o1⟩:=d.o1;exact⟨d.t1,d.t2,⟨dd,f.at d.t1 (by omega) o1⟩,b2⟩
 ·dsimp only at e2;rw[List.getElem?_set_ne (λz=>hj z.symm)]at e2;exact(j.jd.hd j' p' m' e1 e2).mv f (by omega) (by omega)
theorem WC.at(j:WC X H T s A.cs M.cells){i:Nat}{c:Ce}(h:M.cells[i]? =some (some c)):∃p,A.cs[i]? =some (some p)/\Uz X.C H T s i p c:=by
 have hl:i<A.cs.length:=by rw[j.lc];exact(gG h).1
 have e:=j.ce i _ _ (eV hl) h;cases hg:A.cs[i]with
 | none=>rw[hg]at e;exact e.elim
 | some g=>rw[hg]at e;exact⟨g,by rw[eV hl,hg],e⟩
theorem WC.at0(j:WC X H T s A.cs M.cells){i:Nat}(h:M.cells[i]? =some none):A.cs[i]? =some none:=by
 have hl:i<A.cs.length:=by rw[j.lc];exact(gG h).1
 have e:=j.ce i _ _ (eV hl) h;cases hg:A.cs[i]with
 | none=>rw[eV hl,hg]
 | some g=>rw[hg]at e;exact e.elim
theorem WC.chg(j:WC X H T s A.cs M.cells){i:Nat}{p:Addr×Addr}{c':Ce}(f:Am s t0 H H' T T')(hp:A.cs[i]? =some (some p))(n:∀k,100<=k->k≠100+2 * i->k≠101+2 * i->¬ t0 k)(e:Uz X.C H' T' s i p c'):
  WC X H' T' s A.cs (M.cells.set i (some c')):=by
 have hl:i<A.cs.length:=(gG hp).1;refine⟨by rw[List.length_set];exact j.lc,λk g c e1 e2=>?_⟩
 by_cases hk:k=i
 ·subst hk;rw[List.getElem?_set_self (by rw[<- j.lc];exact hl)]at e2;rw[hp]at e1;cases e1;cases e2;exact e
 ·rw[List.getElem?_set_ne (λz=>hk z.symm)]at e2;exact(j.ce k g c e1 e2).mv f (n _ (by omega) (by omega) (by omega)) (n _ (by omega) (by omega) (by omega))
theorem WJ.field(j:WJ X H T s A M)(w:WT H T)(h0:s≠0){i k:Nat}{p:Addr×Addr}{c:Ce}{x:Option Int}(hp:A.cs[i]? =some (some p))(e:Uz X.C H T s i p c):
  pC s H (upd H p.2 (.lst ((c.fl.map oV).set k (oV x)))) T T/\WJ X (upd H p.2 (.lst ((c.fl.map oV).set k (oV x)))) T s A { M with cells:=M.cells.set i (some { c with fl:=c.fl.set k x }) }:=by
 refine⟨pC.upd w e.o2 (by rw[e.t2]),?_⟩;have f:Am s (·=101+2 * i) H (upd H p.2 (.lst ((c.fl.map oV).set k (oV x)))) T T:=Am.Kf e.t2;have b2:upd H p.2 (.lst ((c.fl.map oV).set k (oV x))) p.2=some (.lst ((c.fl.set k x).map oV)):=by rw[aq,List.map_set]
 obtain⟨dd,o1⟩:=e.o1;exact⟨j.jb.mv f (vU h0 e.t2) (by omega) (by omega),j.jh.mv f (by omega) (by omega),j.jn.mv f (vU h0 e.t2) (by omega),j.js.mv f (by omega) (by omega),j.jd.mv f λ_ _ _=>by omega,
  j.jc.chg f hp (λk _ _ n2 z=>n2 z) ⟨e.t1,e.t2,⟨dd,f.at e.t1 (by omega) o1⟩,b2⟩⟩
theorem WJ.cell(j:WJ X H T s A M)(w:WT H T)(h0:s≠0){i:Nat}{p:Addr×Addr}{c:Ce}{dx:Addr}{tone load:Int}(hp:A.cs[i]? =some (some p))(e:Uz X.C H T s i p c):
  pC s H (upd H p.1 (.ins X.C dx (pN c.birth c.bulk tone load p.2))) T T/\WJ X (upd H p.1 (.ins X.C dx (pN c.birth c.bulk tone load p.2))) T s A { M with cells:=M.cells.set i (some { c with tone:=tone,load:=load }) }:=by
 obtain⟨dd,o1⟩:=e.o1;refine⟨pC.upd w o1 (by rw[e.t1]),?_⟩;have f:Am s (·=100+2 * i) H (upd H p.1 (.ins X.C dx (pN c.birth c.bulk tone load p.2))) T T:=Am.Kf e.t1;exact⟨j.jb.mv f (vU h0 e.t1) (by omega) (by omega),j.jh.mv f (by omega) (by omega),j.jn.mv f (vU h0 e.t1) (by omega),j.js.mv f (by omega) (by omega),j.jd.mv f λ_ _ _=>by omega,
  j.jc.chg f hp (λk _ n1 _ z=>n1 z) ⟨e.t1,e.t2,⟨dx,aq⟩,f.at e.t2 (by omega) e.o2⟩⟩
theorem WJ.Zwa(j:WJ X H T s A M)(w:WT H T)(h0:s≠0){g:List Int}:pC s H (upd H A.gr (.lst (g.map V.int))) T T/\WJ X (upd H A.gr (.lst (g.map V.int))) T s A { M with sw:={ M.sw with grey:=g } }:=by
 obtain⟨ts,tg,⟨dd,os⟩,og⟩:=j.js;refine⟨pC.upd w og (by rw[tg]),?_⟩;have f:Am s (·=8) H (upd H A.gr (.lst (g.map V.int))) T T:=Am.Kf tg;exact⟨j.jb.mv f (vU h0 tg) (by omega) (by omega),j.jh.mv f (by omega) (by omega),j.jn.mv f (vU h0 tg) (by omega),⟨ts,tg,⟨dd,f.at ts (by omega) os⟩,aq⟩,j.jd.mv f λ_ _ _=>by omega,j.jc.mv f λ_ _=>by omega⟩
end
def nJ{α:Type}:List (Option α)->Nat
 | []=>0
 | none::_=>0
 | some _::l=>nJ l+1
def tO{α:Type}(l:List (Option α))(x:α):List (Option α):=if nJ l<l.length then l.set (nJ l) (some x)else l++[some x]
theorem Zg6{α:Type}(l:List (Option α)):nJ l<=l.length:=by
 induction l with
 | nil=>exact Nat.le_refl _
 | cons a l ih=>cases a with
  | none=>exact Nat.zero_le _
  | some a=>exact Nat.succ_le_succ ih
theorem Zqg{α:Type}{l:List (Option α)}(h:nJ l<l.length):l[nJ l]? =some none:=by
 induction l with
 | nil=>exact absurd h (Nat.lt_irrefl _)
 | cons a l ih=>cases a with
  | none=>rfl
  | some a=>exact ih (Nat.lt_of_succ_lt_succ h)
theorem Zb0{α:Type}{f:Option α->V}(hf:∀x,f x=V.non↔x=none)(l:List (Option α)):(l.map f).idxOf V.non=nJ l/\(V.non∈l.map f↔nJ l<l.length):=by
 induction l with
 | nil=>exact⟨rfl,⟨λz=>(nomatch z),λz=>absurd z (Nat.lt_irrefl _)⟩⟩
 | cons a l ih=>
  rw[List.map_cons,List.idxOf_cons];cases a with
  | none=>
   have e:f none=V.non:=(hf none).mpr rfl;rw[e];exact⟨rfl,⟨λ_=>Nat.zero_lt_succ _,λ_=>List.mem_cons_self⟩⟩
  | some a=>
   have e:f (some a)≠V.non:=λz=>by cases (hf (some a)).mp z
   have b:(f (some a) == V.non)=false:=beq_eq_false_iff_ne.mpr e;rw[b];refine⟨congrArg (· + 1) ih.1,?_⟩;show _↔nJ l+1<l.length+1;rw[List.mem_cons,ih.2];constructor
   ·rintro(z | z)
    ·exact absurd z.symm e
    ·omega
   ·intro z;exact .inr (by omega)
theorem Zkf{α:Type}{f:Option α->V}(hf:∀x,f x=V.non↔x=none)(l:List (Option α))(x:α):putN (l.map f) (f (some x))=(tO l x).map f:=by
 obtain⟨e1,e2⟩:=Zb0 hf l;unfold putN tO
 by_cases z:nJ l<l.length
 ·rw[if_pos z,if_pos (e2.mpr z),List.map_set];exact congrArg (λk=>(l.map f).set k (f (some x))) e1
 ·rw[if_neg z,if_neg (λw=>z (e2.mp w)),List.map_append];rfl
theorem Zl3(p:Option (Addr×Addr)):pV p=V.non↔p=none:=by cases p<;>simp[pV]
theorem Xi{α:Type}(l:List (Option α))(x:α):(tO l x)[nJ l]? =some (some x):=by
 unfold tO
 by_cases z:nJ l<l.length
 ·rw[if_pos z,List.getElem?_set_self z]
 ·have e:nJ l=l.length:=Nat.le_antisymm (Zg6 l) (by omega);rw[if_neg z,e,List.getElem?_append_right (Nat.le_refl _),Nat.sub_self];rfl
theorem Zfo{α:Type}{l:List (Option α)}{x:α}{i:Nat}{y:Option α}(hi:i≠nJ l)(h:(tO l x)[i]? =some y):l[i]? =some y:=by
 unfold tO at h
 by_cases z:nJ l<l.length
 ·rw[if_pos z,List.getElem?_set_ne (λw=>hi w.symm)]at h;exact h
 ·rw[if_neg z]at h;have e:nJ l=l.length:=Nat.le_antisymm (Zg6 l) (by omega);have hl:=(gG h).1;rw[List.length_append,List.length_singleton]at hl;rw[List.getElem?_append_left (by omega)]at h;exact h
theorem Zkg{α β:Type}{l:List (Option α)}{m:List (Option β)}{x:α}{y:β}(hl:l.length=m.length)(hf:nJ l=nJ m):(tO l x).length=(tO m y).length:=by
 unfold tO
 by_cases z:nJ l<l.length
 ·rw[if_pos z,if_pos (by omega),List.length_set,List.length_set];exact hl
 ·rw[if_neg z,if_neg (by omega),List.length_append,List.length_append,hl];rfl
theorem Zok{α:Type}(l:List (Option α))(x:α):(tO l x).length<=l.length+1:=by
 unfold tO
 by_cases z:nJ l<l.length
 ·rw[if_pos z,List.length_set];omega
 ·rw[if_neg z,List.length_append];exact Nat.le_refl _
theorem Zqf{α β:Type}:∀(l:List (Option α)) (m:List (Option β)),l.length=m.length->(∀(i:Nat) x y,l[i]? =some x->m[i]? =some y->(x=none↔y=none))->nJ l=nJ m:=by
 intro l
 induction l with
 | nil=>
  intro m hl _;cases m with
  | nil=>rfl
  | cons b m=>simp at hl
 | cons a l ih=>
  intro m hl h;cases m with
  | nil=>simp at hl
  | cons b m=>
   have ih':=ih m (by simpa using hl) λi x y h1 h2=>h (i+1) x y (by simpa using h1) (by simpa using h2);have e:=h 0 a b rfl rfl;cases a with
   | none=>rw[e.mp rfl];rfl
   | some a=>cases b with
    | none=>exact absurd (e.mpr rfl) (λz=>by cases z)
    | some b=>exact congrArg (· + 1) ih'
section
variable {X:Cs}{H H':Hp}{T T':Tg}{s:Nat}{A:Wa}{M:Wm}
theorem WC.fst(j:WC X H T s A.cs M.cells):nJ A.cs=nJ M.cells:=Zqf _ _ j.lc λi p c e1 e2=>by
 have e:=j.ce i p c e1 e2;cases p with
 | none=>cases c with
  | none=>exact⟨λ_=>rfl,λ_=>rfl⟩
  | some c=>exact e.elim
 | some p=>cases c with
  | none=>exact e.elim
  | some c=>exact⟨λz=>(by cases z),λz=>(by cases z)⟩
theorem WJ.put(j:WJ X H T s A M)(w:WT H T)(h0:s≠0){dx:Addr}{used':Int}{p fa:Addr}{c:Ce}(kp:∀b o,H b=some o->b≠A.hp->b≠A.ca->H' b=some o)(a1:H' A.hp=some (.ins X.H dx (pX M.room A.ca used' (M.born+1))))(a2:H' A.ca=some (.lst (putN (A.cs.map pV) (.ref p))))
  (n1:H p=none) (n2:H fa=none) (m1:p≠fa) (o1:∃dx,H' p=some (.ins X.C dx (pN c.birth c.bulk c.tone c.load fa))) (o2:H' fa=some (.lst (c.fl.map oV))):
  ∃T',pC s H H' T T'/\WJ X H' T' s { A with cs:=tO A.cs (p,fa) } { M with used:=used',born:=M.born+1,cells:=tO M.cells c }:=by
 obtain⟨th,tc,⟨dd,oh⟩,oc⟩:=j.jh;have i1:=j.jc.fst
 let k:=nJ A.cs
 let T':Tg:=mV (mV T p (s,100+2 * k)) fa (s,101+2 * k)
 have told:∀b o,H b=some o->T' b=T b:=λb o h=>by
  show mV _ _ _ b=_;rw[m9 (aM h n2),m9 (aM h n1)]
 have t1:T' p=(s,100+2 * k):=by show mV _ _ _ p=_;rw[m9 m1,lX]
 have t2:T' fa=(s,101+2 * k):=by show mV _ _ _ fa=_;rw[lX]
 have al:∀b o,H b=some o->∃o',H' b=some o':=λb o h=>by
  by_cases z1:b=A.hp
  ·exact⟨_,by rw[z1];exact a1⟩
  ·by_cases z2:b=A.ca
   ·exact⟨_,by rw[z2];exact a2⟩
   ·exact⟨o,kp b o h z1 z2⟩
 have f:Am s (λk=>k=1\/k=2) H H' T T':=⟨λb o h e n=>kp b o h (λz=>n (.inl (by rw[z,th]))) (λz=>n (.inr (by rw[z,tc]))),told⟩;have f0:∀b o,H b=some o->T b=(0,0)->H' b=some o:=λb o h t=>kp b o h (Zdv t th (λz=>h0 (congrArg Prod.fst z).symm)) (Zdv t tc (λz=>h0 (congrArg Prod.fst z).symm));refine⟨T',⟨λb o h nn=>kp b o h (λz=>nn (by rw[z,th])) (λz=>nn (by rw[z,tc])),al,told,λb h=>?_⟩,?_⟩
 ·have b1:b≠p:=λe=>by obtain⟨d,z⟩:=o1;rw[e,z]at h;cases h
  have b2:b≠fa:=λe=>by rw[e,o2]at h;cases h
  have hb:H b=none:=by
   cases z:H b with
   | none=>rfl
   | some o=>obtain⟨o',z'⟩:=al b o z;rw[h]at z';cases z'
  show mV _ _ _ b=_;rw[m9 b2,m9 b1];exact w b hb
 ·refine⟨?_,⟨f.tag oh th,f.tag oc tc,⟨dx,a1⟩,?_⟩,?_,?_,j.jd.mv f λ_ _ _=>by omega,⟨Zkg j.jc.lc i1,λi g cc e1 e2=>?_⟩⟩
  ·obtain⟨b1,b2,b3,b4,b5,b6,b7,b8⟩:=j.jb.mv f f0 (by omega) (by omega);exact⟨b1,b2,b3,b4,b5,b6,b7,b8⟩
  ·show H' A.ca=some (.lst ((tO A.cs (p,fa)).map pV));rw[<- Zkf Zl3];exact a2
  ·obtain⟨b1,b2,b3⟩:=j.jn.mv f f0 (by omega);exact⟨b1,b2,b3⟩
  ·obtain⟨b1,b2,b3,b4⟩:=j.js.mv f (by omega) (by omega);exact⟨b1,b2,b3,b4⟩
  ·dsimp only at e1 e2
   by_cases hk:i=nJ A.cs
   ·subst hk;rw[Xi]at e1;rw[i1,Xi]at e2;cases e1;cases e2;exact⟨t1,t2,o1,o2⟩
   ·exact(j.jc.ce i g cc (Zfo hk e1) (Zfo (by rw[<- i1];exact hk) e2)).mv f (by omega) (by omega)
end
def cellAt(M:Wm)(x:Int):Option Ce:=if 0<=x then(M.cells[x.toNat]?).join else none
def R0(M:Wm):Option Int->Option Int
 | none=>none
 | some x=>(cellAt M x).map (·.birth)
def dD(M:Wm)(h k:Nat):Option Int:=((M.hands[h]?).bind λm=>m.2[k]?).join
def setSlot(M:Wm)(h k:Nat)(x:Option Int):Wm:={ M with hands:=M.hands.modify h λm=>(m.1,m.2.set k x) }
def setCell(M:Wm)(i:Int)(c:Ce):Wm:={ M with cells:=M.cells.set i.toNat (some c) }
def gn(M:Wm):Option Int->Option Int×Wm
 | none=>(none,M)
 | some i=>match cellAt M i with
  | none=>(none,M)
  | some c=>if M.sw.phase="walk"/\c.tone≠M.sw.sense then(some c.birth,{ setCell M i { c with tone:=M.sw.sense }with sw:={ M.sw with grey:=M.sw.grey++[i] } })else(none,M)
def gf(M:Wm)(h:Nat):Bool:=decide (M.sw.looked / 2 ^ h % 2=1)
def zZ(M:Wm)(place birth:Int):Bool:=match cellAt M place with
 | none=>true
 | some c=>if c.birth=birth then decide (M.sw.phase="give"/\c.tone≠M.sw.sense)else true
def wF(l:List (Str×(Int×Int)))(k:Str)(v:Int×Int):List (Str×(Int×Int)):=if (l.any λm=>decide (m.1=k))=true then l.map (λm=>if m.1=k then(m.1,v)else m)else l++[(k,v)]
def yu(l:List (Str×(Int×Int)))(k:Str):Option (Int×Int):=(l.find? λm=>decide (m.1=k)).map (·.2)
inductive Rf where
 | full | empty | pY | Fl
 deriving DecidableEq
structure Ev where
 word:Str
 thing:Option Int
 notes:List Int
inductive nZ where
 | make (h s:Nat) (many bulk:Int)
 | get (h s t f:Nat)
 | put (h t f s:Nat)
 | copy (h s t:Nat)
 | drop (h s:Nat)
 | give (h s g t:Nat)
 | write (h t:Nat) (load:Int)
 | read (h t:Nat)
 | name (h t:Nat) (word:Str)
 | seek (h s:Nat) (word:Str)
def old?(M:Wm):Bool:=decide (M.tells % 2=1)
def sG(M:Wm):Bool:=decide (M.tells / 2 % 2=1)
def ofN:Option Int->List Int
 | none=>[]
 | some b=>[b]
def gk(M:Wm):List (Option Int)->List Int×Wm
 | []=>([],M)
 | x::l=>(ofN (gn M x).1++(gk (gn M x).2 l).1,(gk (gn M x).2 l).2)
def sS(M:Wm):nZ->Except Rf (Ev×Wm)
 | .make h s many bulk=>
  if M.used+(1+many+bulk)<=M.room then
   .ok (⟨"made",some (M.born+1),[]⟩,setSlot { M with used:=M.used+(1+many+bulk),born:=M.born+1,cells:=tO M.cells ⟨M.born+1,bulk,M.sw.sense,0,List.replicate many.toNat none⟩ } h s (some (nJ M.cells)))
  else .error .full
 | .get h s t f=>match dD M h t with
  | none=>.error .empty
  | some x=>match cellAt M x with
   | none=>.error .empty
   | some c=>match c.fl[f]? with
    | none=>.error .pY
    | some v=>.ok (⟨"got",R0 M v,[]⟩,setSlot M h s v)
 | .put h t f s=>match dD M h t with
  | none=>.error .empty
  | some x=>match cellAt M x with
   | none=>.error .empty
   | some c=>match c.fl[f]? with
    | none=>.error .pY
    | some v=>
     let M1:=setCell M x { c with fl:=c.fl.set f (dD M h s) }
     let r:=gk M1 ((if old? M=true then [v]else [])++if (sG M && !gf M h)=true then [dD M h s]else [])
     .ok (⟨"put",R0 M v,r.1⟩,r.2)
 | .copy h s t=>.ok (⟨"copied",R0 M (dD M h t),[]⟩,setSlot M h s (dD M h t))
 | .drop h s=>.ok (⟨"dropped",R0 M (dD M h s),[]⟩,setSlot M h s none)
 | .give h s g t=>
  let r:=gk (setSlot M g t (dD M h s)) (if (sG M && !gf M h)=true then [dD M h s]else [])
  .ok (⟨"given",R0 M (dD M h s),r.1⟩,r.2)
 | .write h t load=>match dD M h t with
  | none=>.error .empty
  | some x=>match cellAt M x with
   | none=>.error .empty
   | some c=>.ok (⟨"wrote",some c.load,[]⟩,setCell M x { c with load:=load })
 | .read h t=>match dD M h t with
  | none=>.error .empty
  | some x=>match cellAt M x with
   | none=>.error .empty
   | some c=>.ok (⟨"read",some c.load,[]⟩,M)
 | .name h t word=>match dD M h t with
  | none=>.error .empty
  | some x=>match cellAt M x with
   | none=>.error .empty
   | some c=>.ok (⟨"named",some c.birth,[]⟩,{ M with names:=wF M.names word (x,c.birth) })
 | .seek h s word=>match yu M.names word with
  | none=>.error .Fl
  | some (p,b)=>
   if zZ M p b=true then .ok (⟨"sought",none,[]⟩,setSlot M h s none)
   else
    let r:=gk (setSlot M h s (some p)) [some p]
    .ok (⟨"sought",some b,r.1⟩,r.2)
def dV:nZ->List V
 | .make h s many bulk=>[.str "make",.int h,.int s,.int many,.int bulk]
 | .get h s t f=>[.str "get",.int h,.int s,.int t,.int f]
 | .put h t f s=>[.str "put",.int h,.int t,.int f,.int s]
 | .copy h s t=>[.str "copy",.int h,.int s,.int t]
 | .drop h s=>[.str "drop",.int h,.int s]
 | .give h s g t=>[.str "give",.int h,.int s,.int g,.int t]
 | .write h t load=>[.str "write",.int h,.int t,.int load]
 | .read h t=>[.str "read",.int h,.int t]
 | .name h t word=>[.str "name",.int h,.int t,.str word]
 | .seek h s word=>[.str "seek",.int h,.int s,.str word]
def Ak(M:Wm)(h s:Nat):Prop:=∃m,M.hands[h]? =some m/\s<m.2.length
def okD(M:Wm):nZ->Prop
 | .make h s many bulk=>Ak M h s/\0<=many/\many<=1000/\0<=bulk
 | .get h s t _=>Ak M h s/\Ak M h t
 | .put h t _ s=>Ak M h t/\Ak M h s
 | .copy h s t=>Ak M h s/\Ak M h t
 | .drop h s=>Ak M h s
 | .give h s g t=>Ak M h s/\Ak M g t
 | .write h t _=>Ak M h t
 | .read h t=>Ak M h t
 | .name h t _=>Ak M h t
 | .seek h s _=>Ak M h s
structure Ok(M:Wm):Prop where
 sl:∀m∈M.hands,∀x,some x∈m.2->∃c,cellAt M x=some c
 fl:∀c,some c∈M.cells->∀x,some x∈c.fl->∃d,cellAt M x=some d
 tn:∀c,some c∈M.cells->c.tone=0\/c.tone=1
def yj(Zwu Zup Zns Zr6:Addr):Rf->Addr
 | .full=>Zwu
 | .empty=>Zup
 | .pY=>Zns
 | .Fl=>Zr6
def EvN(H0 H:Hp)(T:Tg)(s:Nat)(a:Addr)(e:Ev):Prop:=∃l,(H0 l=none/\(T l).1≠s/\(T a).1≠s)/\H a=some (.tup [.str e.word,oV e.thing,.ref l])/\H l=some (.lst (e.notes.map V.int))
theorem Zc1{H:Hp}{T:Tg}{s:Nat}{l:Addr}(w:WT H T)(s0:s≠0)(n:H l=none):H l=none/\(T l).1≠s:=⟨n,by rw[w l n];exact λz=>s0 z.symm⟩
def eO(X:Cs)(rf:Rf->Addr)(P:nZ->Prop):Sp:=λvs H Q E=>∃wo dd,vs=[.ref wo,.ref dd]/\∃T s A M d,P d/\WT H T/\s≠0/\WJ X H T s A M/\A.wo=wo/\H dd=some (.tup (dV d))/\okD M d/\M.cells.length<=900/\(M.sw.phase="walk"->M.sw.grey.length<=10000)/\(0<=M.tells/\M.tells<4)/\M.names.length<=1000/\
 (∀r,sS M d=.error r->∀H',dF H H'->E (.ref (rf r)) none H')/\
 (∀e M',sS M d=.ok (e,M')->∀H' T' A' a,pC s H H' T T'->WJ X H' T' s A' M'->A'.wo=wo->EvN H H' T' s a e->Q (.ref a) H')
abbrev Zws(X:Cs)(rf:Rf->Addr):Sp:=eO X rf λ_=>True
theorem Zhb{α:Type}{l:List (Option α)}{x a:α}{i:Nat}(h:l[i]? =some (some a)):(tO l x)[i]? =some (some a):=by
 have hl:=(gG h).1;unfold tO
 by_cases z:nJ l<l.length
 ·have hi:i≠nJ l:=λe=>by rw[e,Zqg z]at h;cases h
  rw[if_pos z,List.getElem?_set_ne (λw=>hi w.symm)];exact h
 ·rw[if_neg z,List.getElem?_append_left hl];exact h
theorem mC{M:Wm}{x:Int}{c:Ce}:cellAt M x=some c↔0<=x/\M.cells[x.toNat]? =some (some c):=by
 unfold cellAt
 by_cases z:0<=x
 ·rw[if_pos z];cases e:M.cells[x.toNat]? with
  | none=>simp
  | some y=>cases y with
   | none=>simp
   | some d=>simp[z]
 ·rw[if_neg z];simp[z]
theorem RC{M:Wm}{x:Int}{c:Ce}(h:cellAt M x=some c):some c∈M.cells:=List.mem_of_getElem? (mC.mp h).2
theorem Zf8{M:Wm}{x u b:Int}{c d:Ce}(h:cellAt M x=some d):cellAt { M with used:=u,born:=b,cells:=tO M.cells c } x=some d:=by
 obtain⟨h0,h1⟩:=mC.mp h;exact mC.mpr ⟨h0,Zhb h1⟩
theorem Zf9{M:Wm}{u b:Int}{c:Ce}:cellAt { M with used:=u,born:=b,cells:=tO M.cells c } (nJ M.cells)=some c:=
 mC.mpr ⟨by omega,by rw[Int.toNat_natCast];exact Xi _ _⟩
theorem Zlj{α:Type}{l:List (Option α)}{x:α}{y:Option α}(h:y∈tO l x):y∈l\/y=some x:=by
 unfold tO at h
 by_cases z:nJ l<l.length
 ·rw[if_pos z]at h;rcases List.mem_or_eq_of_mem_set h with h | h
  ·exact .inl h
  ·exact .inr h
 ·rw[if_neg z]at h;rcases List.mem_append.mp h with h | h
  ·exact .inl h
  ·exact .inr (List.mem_singleton.mp h)
theorem Zh4{M:Wm}{h k:Nat}{m:Str×List (Option Int)}{x:Option Int}(hm:M.hands[h]? =some m)(hk:m.2[k]? =some x):dD M h k=x:=by
 unfold dD;rw[hm];show(m.2[k]?).join=x;rw[hk];rfl
theorem Za2{M:Wm}{h k:Nat}(o:Ak M h k):∃m,M.hands[h]? =some m/\m.2[k]? =some (dD M h k)/\k<m.2.length:=by
 obtain⟨m,hm,hk⟩:=o;refine⟨m,hm,?_,hk⟩;rw[Zh4 hm (eV hk)];exact eV hk
theorem Sx{M:Wm}{h k:Nat}{x:Option Int}{m:Str×List (Option Int)}(hm:M.hands[h]? =some m):(setSlot M h k x).hands=M.hands.set h (m.1,m.2.set k x):=by
 show M.hands.modify h _=_;apply List.ext_getElem?;intro i;rw[List.getElem?_modify]
 by_cases e:h=i
 ·subst e;rw[List.getElem?_set_self (gG hm).1,hm];simp
 ·rw[List.getElem?_set_ne e];simp[e]
theorem qI{M:Wm}{h k:Nat}{x:Option Int}{y:Option Int}:R0 (setSlot M h k x) y=R0 M y:=by cases y<;>rfl
theorem Zds{M:Wm}(h:M.sw.phase≠"walk")(x:Option Int):gn M x=(none,M):=by
 cases x with
 | none=>rfl
 | some x=>
  unfold gn;dsimp only;cases cellAt M x with
  | none=>rfl
  | some c=>
   dsimp only;rw[if_neg (λz=>h z.1)]
theorem Zbf{M:Wm}{h s:Nat}{many bulk:Int}(hf:M.used+(1+many+bulk)<=M.room):sS M (.make h s many bulk)=.ok (⟨"made",some (M.born+1),[]⟩,setSlot { M with used:=M.used+(1+many+bulk),born:=M.born+1,cells:=tO M.cells ⟨M.born+1,bulk,M.sw.sense,0,List.replicate many.toNat none⟩ } h s (some (nJ M.cells))):=by
 show(if _ then _ else _)=_;rw[if_pos hf]
structure Ab(K:aV)(X:Cs):Prop where
 c:TxC K X.C X.H
 cW:Ds K X.W
 nWh:dN K X.W "heap"
 nWk:dN K X.W "kind"
 nWd:dN K X.W "hands"
 nWn:dN K X.W "names"
 nWs:dN K X.W "sweeper"
 cD:Ds K X.D
 nDn:dN K X.D "name"
 nDs:dN K X.D "slots"
 cK:Ds K X.K
 nKl:dN K X.K "looking"
 nKt:dN K X.K "tells"
 cS:Ds K X.S
 n1:dN K X.S "sense"
 n2:dN K X.S "phase"
 n3:dN K X.S "grey"
 n4:dN K X.S "looked"
 n5:dN K X.S "turn"
 n6:dN K X.S "at"
 n7:dN K X.S "stop"
 n8:dN K X.S "walks"
 n9:dN K X.S "looks"
 n10:dN K X.S "passes"
 n11:dN K X.S "loss"
structure WJ0(X:Cs)(H:Hp)(T:Tg)(s:Nat)(A:Wa)(M:Wm):Prop where
 jb:WB X H T s A M.w M.tells
 jh:WH X H T s A M.room M.used M.born
 js:WS X H T s A M.sw
 jd:WD X H T s A.hs M.hands
 jc:WC X H T s A.cs M.cells
theorem WJ.w0{X:Cs}{H:Hp}{T:Tg}{s:Nat}{A:Wa}{M:Wm}(j:WJ X H T s A M):WJ0 X H T s A M:=⟨j.jb,j.jh,j.js,j.jd,j.jc⟩
theorem WJ.names{X:Cs}{H:Hp}{T:Tg}{s:Nat}{A:Wa}{M:Wm}{o:HO}(j:WJ X H T s A M)(h0:s≠0):WJ0 X (upd H A.nm o) T s A M:=by
 have f:Am s (·=6) H (upd H A.nm o) T T:=Am.Kf j.jn.tm;exact⟨j.jb.mv f (vU h0 j.jn.tm) (by omega) (by omega),j.jh.mv f (by omega) (by omega),j.js.mv f (by omega) (by omega),j.jd.mv f λ_ _ _=>by omega,j.jc.mv f λ_ _=>by omega⟩
def atO(cs:List V):V->V
 | .int i=>if 0<=i then(cs[i.toNat]?).getD .non else .non
 | _=>.non
def lD(CH:Addr):Sp:=λvs H Q E=>∃hp pl,vs=[.ref hp,pl]/\(pl=.non\/∃i,pl=.int i)/\∃ca room used born cs,HpO CH H hp ca room used born cs/\Q (atO cs pl) H
def cO(M:Wm)(x:Option Int):Option Ce:=x.bind (cellAt M)
def fH(X:Cs):Sp:=λvs H Q E=>∃hp pl,vs=[.ref hp,pl]/\∃x,pl=oV x/\∃T s A M,WJ X H T s A M/\A.hp=hp/\Q (oV (R0 M x)) H
def wR(X:Cs):Sp:=λvs H Q E=>∃p f,vs=[.ref p,.int f]/\∃T s i q c,Uz X.C H T s i q c/\q.1=p/\Q (.bl (decide (0<=f) && decide (f<c.fl.length))) H
def eF(X:Cs):Sp:=λvs H Q E=>∃wo h,vs=[.ref wo,.int h]/\∃T s A M k p,WJ X H T s A M/\A.wo=wo/\h=((k:Nat):Int)/\A.hs[k]? =some p/\Q (.ref p.2) H
def pq(X:Cs):Sp:=λvs H Q E=>∃wo p,vs=[.ref wo,.ref p]/\∃T s A M i q c,WJ0 X H T s A M/\A.wo=wo/\Uz X.C H T s i q c/\q.1=p/\Q (.bl (decide (c.tone=M.sw.sense))) H
def wO(X:Cs):Sp:=λvs H Q E=>∃wo h,vs=[.ref wo,.int h]/\∃T s A M k,WJ X H T s A M/\A.wo=wo/\h=((k:Nat):Int)/\Q (.bl (gf M k)) H
def zQ(X:Cs):Sp:=λvs H Q E=>∃wo v,vs=[.ref wo,v]/\∃T s A M,WJ X H T s A M/\A.wo=wo/\(0<=M.tells/\M.tells<4)/\∀l,H l=none->Q (.ref l) (upd H l (.lst (if old? M=true then [v]else [])))
def qz(X:Cs):Sp:=λvs H Q E=>∃wo h v,vs=[.ref wo,.int h,v]/\∃T s A M k,WJ X H T s A M/\A.wo=wo/\(0<=M.tells/\M.tells<4)/\h=((k:Nat):Int)/\∀l,H l=none->Q (.ref l) (upd H l (.lst (if (sG M && !gf M k)=true then [v]else [])))
def lC(X:Cs)(CE:Addr):Sp:=λvs H Q E=>∃wo h t,vs=[.ref wo,.int h,.int t]/\∃T s A M hn tn,WJ X H T s A M/\A.wo=wo/\h=((hn:Nat):Int)/\t=((tn:Nat):Int)/\Ak M hn tn/\
 (cO M (dD M hn tn)=none->E (.ref CE) none H)/\
 (∀i c p,dD M hn tn=some i->0<=i->cellAt M i=some c->A.cs[i.toNat]? =some (some p)->Uz X.C H T s i.toNat p c->Q (.ref p.1) H)
def pA(X:Cs)(CE CF:Addr):Sp:=λvs H Q E=>∃wo h t f,vs=[.ref wo,.int h,.int t,.int f]/\∃T s A M hn tn fn,WJ X H T s A M/\A.wo=wo/\h=((hn:Nat):Int)/\t=((tn:Nat):Int)/\f=((fn:Nat):Int)/\Ak M hn tn/\
 (cO M (dD M hn tn)=none->E (.ref CE) none H)/\
 (∀i c,dD M hn tn=some i->0<=i->cellAt M i=some c->c.fl[fn]? =none->E (.ref CF) none H)/\
 (∀i c p,dD M hn tn=some i->0<=i->cellAt M i=some c->A.cs[i.toNat]? =some (some p)->Uz X.C H T s i.toNat p c->fn<c.fl.length->Q (.ref p.2) H)
def Za(X:Cs):Sp:=λvs H Q E=>∃wo pl,vs=[.ref wo,pl]/\∃x,pl=oV x/\∃T s A M,WT H T/\s≠0/\WJ X H T s A M/\A.wo=wo/\(M.sw.phase="walk"->M.sw.grey.length<=20000)/\
 ∀H',pC s H H' T T->WJ X H' T s A (gn M x).2->Q (oV (gn M x).1) H'
def PlO(H:Hp)(T:Tg)(A:Wa)(M:Wm)(pl:Addr)(xs:List (Option Int)):Prop:=(H pl=some (.lst (xs.map oV))/\T pl=(0,0))\/(∃(k:Nat) (p:Addr×Addr) (m:Str×List (Option Int)),A.hs[k]? =some p/\M.hands[k]? =some m/\pl=p.2/\xs=m.2)\/(∃(k:Nat) (p:Addr×Addr) (c:Ce),A.cs[k]? =some (some p)/\M.cells[k]? =some (some c)/\pl=p.2/\xs=c.fl)
theorem PlO.get{X:Cs}{H:Hp}{T:Tg}{s:Nat}{A:Wa}{M:Wm}{pl:Addr}{xs:List (Option Int)}(h:PlO H T A M pl xs)(j:WJ X H T s A M):H pl=some (.lst (xs.map oV)):=by
 rcases h with ⟨h,_⟩ | ⟨k,p,m,h1,h2,rfl,rfl⟩ | ⟨k,p,c,h1,h2,rfl,rfl⟩
 ·exact h
 ·exact(j.jd.hd k p m h1 h2).o2
 ·have e:=j.jc.ce k _ _ h1 h2;exact(show Uz X.C H T s k p c from e).o2
def mO(X:Cs):Sp:=λvs H Q E=>∃wo pl,vs=[.ref wo,.ref pl]/\∃xs T s A M,WT H T/\s≠0/\WJ X H T s A M/\A.wo=wo/\PlO H T A M pl xs/\xs.length<=100/\(M.sw.phase="walk"->M.sw.grey.length<=10000)/\
 ∀H' T' l,pC s H H' T T'->WJ X H' T' s A (gk M xs).2->H' l=some (.lst ((gk M xs).1.map V.int))->(H l=none/\(T' l).1≠s)->Q (.ref l) H'
def Zb(X:Cs):Sp:=λvs H Q E=>∃wo p b,vs=[.ref wo,.int p,.int b]/\∃T s A M,WJ0 X H T s A M/\A.wo=wo/\Q (.bl (zZ M p b)) H
def tK(X:Cs)(CN:Addr):Sp:=λvs H Q E=>∃wo z,vs=[.ref wo,.str z]/\∃T s A M,WJ X H T s A M/\A.wo=wo/\(yu M.names z=none->E (.ref CN) none H)/\(∀p b,yu M.names z=some (p,b)->Q (if zZ M p b=true then .non else .int p) H)
theorem GD(x:Option Int):oV x=.non\/∃i,oV x=.int i:=by cases x with
 | none=>exact .inl rfl
 | some i=>exact .inr ⟨i,rfl⟩
section
variable {X:Cs}{H H':Hp}{T T':Tg}{s:Nat}{A:Wa}{M:Wm}
theorem WJ0.hpO(j:WJ0 X H T s A M):HpO X.H H A.hp A.ca M.room M.used M.born (A.cs.map pV):=⟨j.jh.oh,j.jh.oc⟩
theorem WJ0.look(j:WJ0 X H T s A M)(x:Option Int):(cO M x=none/\atO (A.cs.map pV) (oV x)=.non)\/∃i c p,x=some i/\0<=i/\cellAt M i=some c/\M.cells[i.toNat]? =some (some c)/\A.cs[i.toNat]? =some (some p)/\atO (A.cs.map pV) (oV x)=.ref p.1/\Uz X.C H T s i.toNat p c:=by
 cases x with
 | none=>exact .inl ⟨rfl,rfl⟩
 | some i=>
  show(cellAt M i=none/\atO _ (.int i)=_)\/_
  by_cases h0:0<=i
  ·cases hc:M.cells[i.toNat]? with
   | none=>
    have hl:A.cs[i.toNat]? =none:=by
     rw[List.getElem?_eq_none_iff]at hc ⊢;rw[j.jc.lc];exact hc
    refine .inl ⟨by unfold cellAt;rw[if_pos h0,hc];rfl,?_⟩;show(if 0<=i then _ else _)=_;rw[if_pos h0,fV,hl];rfl
   | some y=>cases y with
    | none=>
     refine .inl ⟨by unfold cellAt;rw[if_pos h0,hc];rfl,?_⟩;show(if 0<=i then _ else _)=_;rw[if_pos h0,fV,j.jc.at0 hc];rfl
    | some c=>
     obtain⟨p,hp,e⟩:=j.jc.at hc;refine .inr ⟨i,c,p,rfl,h0,by unfold cellAt;rw[if_pos h0,hc];rfl,hc,hp,?_,e⟩;show(if 0<=i then _ else _)=_;rw[if_pos h0,fV,hp];rfl
  ·refine .inl ⟨by unfold cellAt;rw[if_neg h0],?_⟩;show(if 0<=i then _ else _)=_;rw[if_neg h0]
theorem WJ.hpO(j:WJ X H T s A M):HpO X.H H A.hp A.ca M.room M.used M.born (A.cs.map pV):=j.w0.hpO
theorem WJ.look(j:WJ X H T s A M)(x:Option Int):(cO M x=none/\atO (A.cs.map pV) (oV x)=.non)\/∃i c p,x=some i/\0<=i/\cellAt M i=some c/\M.cells[i.toNat]? =some (some c)/\A.cs[i.toNat]? =some (some p)/\atO (A.cs.map pV) (oV x)=.ref p.1/\Uz X.C H T s i.toNat p c:=j.w0.look x
theorem WJ.hand(j:WJ X H T s A M){k:Nat}{p:Addr×Addr}(hp:A.hs[k]? =some p):∃m,M.hands[k]? =some m/\HdO X.D H T s k p m:=by
 have hl:k<M.hands.length:=by rw[<- j.jd.lh];exact(gG hp).1
 exact⟨_,eV hl,j.jd.hd k p _ hp (eV hl)⟩
theorem WJ.handOf(j:WJ X H T s A M){h t:Nat}(o:Ak M h t):∃p m,A.hs[h]? =some p/\M.hands[h]? =some m/\m.2[t]? =some (dD M h t)/\t<m.2.length/\HdO X.D H T s h p m:=by
 obtain⟨m,hm,hk,hl⟩:=Za2 o;have hh:h<A.hs.length:=by rw[j.jd.lh];exact(gG hm).1
 exact⟨_,m,eV hh,hm,hk,hl,j.jd.hd h _ m (eV hh) hm⟩
theorem WJ.fresh(j:WJ X H T s A M){l:Addr}{o:HO}{v:Nat×Nat}(h:H l=none):WJ X (upd H l o) (mV T l v) s A M:=
 j.mv (H':=upd H l o) (T':=mV T l v) ⟨λb u e _ _=>by rw[aU (aM e h)];exact e,λb u e=>m9 (aM e h)⟩ λb u e _=>by rw[aU (aM e h)];exact e
end
theorem Zwn{t:Int}(h:0<=t/\t<4):Builtin.bitAnd t 1=t % 2/\(Builtin.bitAnd t 2=0↔¬ t / 2 % 2=1):=by
 have:t=0\/t=1\/t=2\/t=3:=by omega
 rcases this with rfl | rfl | rfl | rfl<;>decide
section
variable {K:aV}{X:Cs}{H:Hp}{Q:VK}{E:XK}{n:St->Hp->Prop}{bk ct:St->Hp->Prop}
theorem Zf7{hp:Addr}{pl:V}(T:Ab K X)(q:(pl=.non\/∃i,pl=.int i)/\∃ca room used born cs,HpO X.H H hp ca room used born cs/\Q (atO cs pl) H):Fb K ⟨n,Q,bk,ct⟩ [some (.ref hp),some pl] H:=by
 obtain⟨hpl,ca,room,used,born,cs,⟨⟨dx,h1⟩,h2⟩,q⟩:=q;unfold Fb;rcases hpl with rfl | ⟨i,rfl⟩
 ·walk_at"e";exact q
 ·walk_at"e";refine DP (λz=>?_) (λz=>?_)
  ·walk_at"e";rw[show atO cs (.int i)=.non from if_neg (by omega)]at q;exact q
  ·rw[show atO cs (.int i)=(cs[i.toNat]?).getD .non from if_pos (by omega)]at q;walk_at"e";refine cV h1 T.c.dw T.c.bG jL ?_;walk_at"e";refine qZ (fj.of h2) ?_;walk_at"e";refine DP (λy=>?_) (λy=>?_)
   ·walk_at"e";rw[List.getElem?_eq_none_iff.mpr (by omega)]at q;exact q
   ·walk_at"e";refine cV h1 T.c.dw T.c.bG jL ?_;walk_at"e";have hl:i.toNat<cs.length:=by omega
    refine jA (fj.of h2) (iJ (by omega) (eV hl)) ?_;rw[eV hl]at q;exact q
theorem Zbn{hp:Addr}{pl:V}(T:Ab K X)(q:∃x,pl=oV x/\∃T s A M,WJ X H T s A M/\A.hp=hp/\Q (oV (R0 M x)) H):Bp K (lD X.H) ⟨n,Q,bk,ct⟩ [some (.ref hp),some pl,none] H:=by
 obtain⟨x,rfl,Tg,s,A,M,j,rfl,q⟩:=q;unfold Bp;walk_at"e";refine⟨_,_,rfl,GD x,_,_,_,_,_,j.hpO,?_⟩;rcases j.look x with ⟨e1,e2⟩ | ⟨i,c,p,rfl,h0,ec,_,_,e2,⟨t1,t2,⟨dx,o1⟩,o2⟩⟩
 ·rw[e2];have:R0 M x=none:=by
   cases x with
   | none=>rfl
   | some i=>show(cellAt M i).map _=none;rw[show cellAt M i=none from e1];rfl
  rw[this]at q;walk_at"e";exact q
 ·rw[e2];have:R0 M (some i)=some c.birth:=by show(cellAt M i).map _=_;rw[ec];rfl
  rw[this]at q;walk_at"e";refine cV o1 T.c.dB T.c.bJ oZ ?_;exact q
theorem Iw{p:Addr}{f:Int}(T:Ab K X)(q:∃T s i q c,Uz X.C H T s i q c/\q.1=p/\Q (.bl (decide (0<=f) && decide (f<c.fl.length))) H):qR K ⟨n,Q,bk,ct⟩ [some (.ref p),some (.int f)] H:=by
 obtain⟨Tg,s,i,r,c,⟨t1,t2,⟨dx,o1⟩,o2⟩,rfl,q⟩:=q;unfold qR;walk_at"e";refine DP (λz=>?_) (λz=>?_)
 ·rw[decide_eq_true z,Bool.true_and]at q;walk_at"e";refine cV o1 T.c.dB T.c.bF uC ?_;walk_at"e";refine qZ (fj.of o2) ?_;walk_at"e";rw[dM];exact q
 ·rw[decide_eq_false z,Bool.false_and]at q;walk_at"e";exact q
theorem ZF{wo:Addr}{h:Int}(T:Ab K X)(q:∃T s A M k p,WJ X H T s A M/\A.wo=wo/\h=((k:Nat):Int)/\A.hs[k]? =some p/\Q (.ref p.2) H):Bk K ⟨n,Q,bk,ct⟩ [some (.ref wo),some (.int h)] H:=by
 obtain⟨Tg,s,A,M,k,p,j,rfl,rfl,hp,q⟩:=q;obtain⟨d1,ow⟩:=j.jb.ow;obtain⟨m,hm,⟨t1,t2,⟨dx,o1⟩,o2⟩⟩:=j.hand hp;unfold Bk;walk_at"e";refine cV ow T.cW T.nWd tY ?_;walk_at"e";refine jA (fj.of j.jb.on) (nD (v:=.ref p.1) (by rw[fV,hp];rfl)) ?_;refine cV o1 T.cD T.nDs Cd ?_;exact q
theorem YF{wo p:Addr}(T:Ab K X)(q:∃T s A M i q c,WJ0 X H T s A M/\A.wo=wo/\Uz X.C H T s i q c/\q.1=p/\Q (.bl (decide (c.tone=M.sw.sense))) H):zg K ⟨n,Q,bk,ct⟩ [some (.ref wo),some (.ref p)] H:=by
 obtain⟨Tg,s,A,M,i,r,c,j,rfl,⟨t1,t2,⟨dx,o1⟩,o2⟩,rfl,q⟩:=q;obtain⟨d1,ow⟩:=j.jb.ow;obtain⟨d2,os⟩:=j.js.os;unfold zg;walk_at"e";refine cV o1 T.c.dB T.c.cP Up ?_;walk_at"e";refine cV ow T.cW T.nWs gW ?_;walk_at"e";refine cV os T.cS T.n1 tZ ?_;walk_at"e";exact q
end
theorem ZFt{y:Int}:Builtin.bitAnd y 1=y % 2:=by
 unfold Builtin.bitAnd
 by_cases h:0<=y
 ·rw[decide_eq_true h,decide_eq_true (show(0:Int)<=1 by decide)];show((y.toNat &&& 1:Nat):Int)=_;rw[Nat.and_one_is_mod];omega
 ·rw[decide_eq_false h,decide_eq_true (show(0:Int)<=1 by decide)];show(1:Int) - ((1 &&& (Builtin.bitNot y).toNat:Nat):Int)=_;rw[Nat.and_comm,Nat.and_one_is_mod];unfold Builtin.bitNot;omega
section
variable {K:aV}{X:Cs}{H:Hp}{Q:VK}{E:XK}{n:St->Hp->Prop}{bk ct:St->Hp->Prop}{CE CF CN:Addr}
theorem XR{wo:Addr}{h:Int}(T:Ab K X)(q:∃T s A M k,WJ X H T s A M/\A.wo=wo/\h=((k:Nat):Int)/\Q (.bl (gf M k)) H):yZ K ⟨n,Q,bk,ct⟩ [some (.ref wo),some (.int h)] H:=by
 obtain⟨Tg,s,A,M,k,j,rfl,rfl,q⟩:=q;obtain⟨d1,ow⟩:=j.jb.ow;obtain⟨d2,os⟩:=j.js.os;unfold yZ;walk_at"e";refine cV ow T.cW T.nWs gW ?_;walk_at"e";refine cV os T.cS T.n4 Je ?_;walk_at"e";rw[ZFt,Int.toNat_natCast];exact q
theorem Pq{wo:Addr}{v:V}(T:Ab K X)(q:∃T s A M,WJ X H T s A M/\A.wo=wo/\(0<=M.tells/\M.tells<4)/\∀l,H l=none->Q (.ref l) (upd H l (.lst (if old? M=true then [v]else [])))):
  vp K ⟨n,Q,bk,ct⟩ [some (.ref wo),some v] H:=by
 obtain⟨Tg,s,A,M,j,rfl,ht,q⟩:=q;obtain⟨d1,ow⟩:=j.jb.ow;obtain⟨d2,ok⟩:=j.jb.ok;obtain⟨b1,_⟩:=Zwn ht;unfold vp;walk_at"e";refine cV ow T.cW T.nWk uZ ?_;walk_at"e";refine cV ok T.cK T.nKt lK ?_;walk_at"e";rw[b1];refine DP (λz=>?_) (λz=>?_)
 ·walk_at"e";refine⟨dR (by simp),λl hl=>?_⟩;have:=q l hl;rw[if_neg (by unfold old?;rw[decide_eq_true_iff];omega)]at this;exact this
 ·walk_at"e";refine⟨dR (by simp),λl hl=>?_⟩;have:=q l hl;rw[if_pos (by unfold old?;rw[decide_eq_true_iff];omega)]at this;exact this
theorem Pr{wo:Addr}{h:Int}{v:V}(T:Ab K X)(q:∃T s A M k,WJ X H T s A M/\A.wo=wo/\(0<=M.tells/\M.tells<4)/\h=((k:Nat):Int)/\∀l,H l=none->Q (.ref l) (upd H l (.lst (if (sG M && !gf M k)=true then [v]else [])))):
  vq K (wO X) ⟨n,Q,bk,ct⟩ [some (.ref wo),some (.int h),some v] H:=by
 obtain⟨Tg,s,A,M,k,j,rfl,ht,rfl,q⟩:=q;obtain⟨d1,ow⟩:=j.jb.ow;obtain⟨d2,ok⟩:=j.jb.ok;obtain⟨_,b1⟩:=Zwn ht;unfold vq;walk_at"e";refine cV ow T.cW T.nWk uZ ?_;walk_at"e";refine cV ok T.cK T.nKt lK ?_;walk_at"e";refine DP (λz=>?_) (λz=>?_)
 ·walk_at"e";refine⟨dR (by simp),λl hl=>?_⟩;have:=q l hl;have e:sG M=false:=by unfold sG;exact decide_eq_false (b1.mp z)
  rw[e,Bool.false_and,if_neg (by decide)]at this;exact this
 ·have e:sG M=true:=by unfold sG;exact decide_eq_true (Decidable.not_not.mp λw=>z (b1.mpr w))
  rw[e,Bool.true_and]at q;walk_at"e";refine⟨_,_,rfl,Tg,s,A,M,k,j,rfl,rfl,?_⟩;cases hl:gf M k with
  | true=>
   rw[hl]at q;walk_at"e";refine⟨dR (by simp),λl hl=>?_⟩;exact q l hl
  | false=>
   rw[hl]at q;walk_at"e";refine⟨dR (by simp),λl hl=>?_⟩;exact q l hl
theorem Zf6{wo:Addr}{h t:Int}(T:Ab K X)(q:∃T s A M hn tn,WJ X H T s A M/\A.wo=wo/\h=((hn:Nat):Int)/\t=((tn:Nat):Int)/\Ak M hn tn/\
 (cO M (dD M hn tn)=none->E (.ref CE) none H)/\
 (∀i c p,dD M hn tn=some i->0<=i->cellAt M i=some c->A.cs[i.toNat]? =some (some p)->Uz X.C H T s i.toNat p c->Q (.ref p.1) H)):
  EY K CE (lD X.H) (eF X) E ⟨n,Q,bk,ct⟩ [some (.ref wo),some (.int h),some (.int t),none] H:=by
 obtain⟨Tg,s,A,M,hn,tn,j,rfl,rfl,rfl,ok,hE,hQ⟩:=q;obtain⟨d1,ow⟩:=j.jb.ow;obtain⟨p,m,hp,hm,hs,hl,⟨t1,t2,o1,o2⟩⟩:=j.handOf ok;unfold EY;walk_at"e";refine cV ow T.cW T.nWh fc ?_;walk_at"e";refine⟨_,_,rfl,Tg,s,A,M,hn,p,j,rfl,rfl,hp,?_⟩;walk_at"e";refine jA (fj.of o2) (nD (v:=oV (dD M hn tn)) (by rw[fV,hs];rfl)) ?_;walk_at"e";refine⟨_,_,rfl,GD _,_,_,_,_,_,j.hpO,?_⟩;rcases j.look (dD M hn tn)with ⟨e1,e2⟩ | ⟨i,c,p',e0,h0,ec,_,hp',e2,ce⟩
 ·rw[e2];walk_at"e";exact⟨by decide,hE e1⟩
 ·rw[e2];walk_at"e";exact hQ i c p' e0 h0 ec hp' ce
theorem YH{wo:Addr}{h t f:Int}(T:Ab K X)(q:∃T s A M hn tn fn,WJ X H T s A M/\A.wo=wo/\h=((hn:Nat):Int)/\t=((tn:Nat):Int)/\f=((fn:Nat):Int)/\Ak M hn tn/\
 (cO M (dD M hn tn)=none->E (.ref CE) none H)/\
 (∀i c,dD M hn tn=some i->0<=i->cellAt M i=some c->c.fl[fn]? =none->E (.ref CF) none H)/\
 (∀i c p,dD M hn tn=some i->0<=i->cellAt M i=some c->A.cs[i.toNat]? =some (some p)->Uz X.C H T s i.toNat p c->fn<c.fl.length->Q (.ref p.2) H)):
  zj K X.C CF (wR X) (lC X CE) E ⟨n,Q,bk,ct⟩ [some (.ref wo),some (.int h),some (.int t),some (.int f),none] H:=by
 obtain⟨Tg,s,A,M,hn,tn,fn,j,rfl,rfl,rfl,rfl,ok,hE,hF,hQ⟩:=q;unfold zj;walk_at"e";refine⟨_,_,_,rfl,Tg,s,A,M,hn,tn,j,rfl,rfl,rfl,ok,hE,λi c p e0 h0 ec hp ce=>?_⟩;obtain⟨t1,t2,⟨dx,o1⟩,o2⟩:=id ce;walk_at"e";refine⟨p.1,dx,_,rfl,o1,Fx,?_⟩;walk_at"e";refine⟨_,_,rfl,Tg,s,_,p,c,ce,rfl,?_⟩
 by_cases z:fn<c.fl.length
 ·rw[show(decide ((0:Int)<=(fn:Int)) && decide ((fn:Int)<c.fl.length))=true from by simp;omega];walk_at"e";refine cV o1 T.c.dB T.c.bF uC ?_;exact hQ i c p e0 h0 ec hp ce z
 ·rw[show(decide ((0:Int)<=(fn:Int)) && decide ((fn:Int)<c.fl.length))=false from by simp;omega];walk_at"e";exact⟨by decide,hF i c e0 h0 ec (List.getElem?_eq_none_iff.mpr (by omega))⟩
theorem Zqe{wo:Addr}{pl b:Int}(T:Ab K X)(q:∃T s A M,WJ0 X H T s A M/\A.wo=wo/\Q (.bl (zZ M pl b)) H):Xd K (lD X.H) (pq X) ⟨n,Q,bk,ct⟩ [some (.ref wo),some (.int pl),some (.int b),none] H:=by
 obtain⟨Tg,s,A,M,j,rfl,q⟩:=q;obtain⟨d1,ow⟩:=j.jb.ow;obtain⟨d2,os⟩:=j.js.os;unfold Xd;walk_at"e";refine cV ow T.cW T.nWh fc ?_;walk_at"e";refine⟨_,_,rfl,GD (some pl),_,_,_,_,_,j.hpO,?_⟩;unfold zZ at q;rcases j.look (some pl)with ⟨e1,e2⟩ | ⟨i,c,p,ei,h0,ec,_,hp,e2,ce⟩
 ·rw[show atO (A.cs.map pV) (.int pl)=.non from e2];rw[show cellAt M pl=none from e1]at q;walk_at"e";exact q
 ·cases ei;rw[show atO (A.cs.map pV) (.int pl)=.ref p.1 from e2];rw[ec]at q;dsimp only at q;obtain⟨t1,t2,⟨dx,o1⟩,o2⟩:=id ce;walk_at"e";refine cV o1 T.c.dB T.c.bJ oZ ?_;walk_at"e";refine sO (λz=>?_) (λz=>?_)
  ·rw[if_neg z]at q;walk_at"e";exact q
  ·rw[if_pos z]at q;walk_at"e";refine cV ow T.cW T.nWs gW ?_;walk_at"e";refine cV os T.cS T.n2 t7 ?_;walk_at"e";refine DP (λy=>?_) (λy=>?_)
   ·walk_at"e";refine⟨_,_,rfl,Tg,s,A,M,_,p,c,j,rfl,ce,rfl,?_⟩;walk_at"e";have:decide (M.sw.phase="give"/\c.tone≠M.sw.sense)=!decide (c.tone=M.sw.sense):=by simp[y]
    rw[this]at q;exact q
   ·have:decide (M.sw.phase="give"/\c.tone≠M.sw.sense)=false:=decide_eq_false λw=>y w.1;rw[this]at q;exact q
theorem Zph{wo:Addr}{pl:V}(T:Ab K X)(q:∃x,pl=oV x/\∃T s A M,WT H T/\s≠0/\WJ X H T s A M/\A.wo=wo/\(M.sw.phase="walk"->M.sw.grey.length<=20000)/\
 ∀H',pC s H H' T T->WJ X H' T s A (gn M x).2->Q (oV (gn M x).1) H'):Xb K (lD X.H) (pq X) ⟨n,Q,bk,ct⟩ [some (.ref wo),some pl,none,none] H:=by
 obtain⟨x,rfl,Tg,s,A,M,w,s0,j,rfl,hg,q⟩:=q;obtain⟨d1,ow⟩:=j.jb.ow;obtain⟨d2,os⟩:=j.js.os;unfold Xb;walk_at"e";refine cV ow T.cW T.nWs gW ?_;walk_at"e";refine cV ow T.cW T.nWh fc ?_;walk_at"e";refine⟨_,_,rfl,GD x,_,_,_,_,_,j.hpO,?_⟩;walk_at"e";refine cV os T.cS T.n2 t7 ?_;walk_at"e";have stay:gn M x=(none,M)->Q .non H:=λe=>by
  have:=q H (pC.refl w);rw[e]at this;exact this j
 refine sO (λz=>?_) (λz=>?_)
 ·walk_at"e";exact stay (Zds z x)
 ·rcases j.look x with ⟨e1,e2⟩ | ⟨i,c,p,rfl,h0,ec,hc,hp,e2,ce⟩
  ·rw[e2];walk_at"e";refine stay ?_;cases x with
   | none=>rfl
   | some i=>unfold gn;dsimp only;rw[show cellAt M i=none from e1]
  ·rw[e2];obtain⟨t1,t2,⟨dx,o1⟩,o2⟩:=id ce;walk_at"e";refine⟨_,_,rfl,Tg,s,A,M,_,p,c,j.w0,rfl,ce,rfl,?_⟩
   by_cases y:c.tone=M.sw.sense
   ·rw[decide_eq_true y];walk_at"e";refine stay ?_;unfold gn;dsimp only;rw[ec];dsimp only;rw[if_neg λw=>w.2 y]
   ·rw[decide_eq_false y];have en:gn M (some i)=(some c.birth,{ setCell M i { c with tone:=M.sw.sense }with sw:={ M.sw with grey:=M.sw.grey++[i] } }):=by
     unfold gn;dsimp only;rw[ec];dsimp only;rw[if_pos ⟨z,y⟩]
    rw[en]at q;walk_at"e";refine cV os T.cS T.n1 tZ ?_;walk_at"e";refine⟨p.1,X.C,dx,_,rfl,o1,T.c.dB,T.c.cP,by show 5<1000;decide,?_⟩;rw[Ry];obtain⟨st1,j1⟩:=j.cell w s0 (dx:=dx) (tone:=M.sw.sense) (load:=c.load) hp ce;generalize upd H p.1 (.ins X.C dx (pN c.birth c.bulk M.sw.sense c.load p.2))=H1 at st1 j1 ⊢;obtain⟨d3,os1⟩:=j1.js.os;obtain⟨p1,hp1,ce1⟩:=j1.jc.at (i:=i.toNat) (c:={ c with tone:=M.sw.sense,load:=c.load }) (by rw[List.getElem?_set_self (gG hc).1]);rw[hp]at hp1;cases hp1;walk_at"e";refine cV os1 T.cS T.n3 Ar ?_;walk_at"e";have hgl:=hg z;refine⟨.inl ⟨rfl,_,fj.of j1.js.og⟩,?_⟩;walk_at"e";refine⟨_,_,_,rfl,rfl,j1.js.og,?_,?_⟩
    ·rw[dM];exact Nat.lt_of_le_of_lt hgl (by decide)
    obtain⟨st2,j2⟩:=j1.Zwa st1.wt s0 (g:=M.sw.grey++[i]);have eg:(M.sw.grey.map V.int++[V.int i])=(M.sw.grey++[i]).map V.int:=by rw[List.map_append];rfl
    show eG _ _ _ (upd H1 A.gr (.lst (M.sw.grey.map V.int++[oV (some i)])));rw[show(M.sw.grey.map V.int++[oV (some i)])=(M.sw.grey++[i]).map V.int from eg];generalize upd H1 A.gr (.lst ((M.sw.grey++[i]).map V.int))=H2 at st2 j2 ⊢;obtain⟨p2,hp2,ce2⟩:=j2.jc.at (i:=i.toNat) (c:={ c with tone:=M.sw.sense,load:=c.load }) (by show(M.cells.set _ _)[_]? =_;rw[List.getElem?_set_self (gG hc).1]);rw[hp]at hp2;cases hp2;obtain⟨_,_,⟨dx2,o3⟩,_⟩:=ce2;walk_at"e";refine cV o3 T.c.dB T.c.bJ oZ ?_;exact q H2 (st1.trans st2) j2
theorem Zsh{Tg:Tg}{z:Str}:∀{ns:List Addr}{names:List (Str×(Int×Int))},Al (NmO H Tg) ns names->(yu names z=none/\Dg (IK names ns) (Sum.inr z)=none)\/∃p b t,yu names z=some (p,b)/\Dg (IK names ns) (Sum.inr z)=some (.ref t)/\H t=some (.tup [.int p,.int b])/\Tg t=(0,0):=by
 intro ns names h
 induction h with
 | nil=>exact .inl ⟨rfl,rfl⟩
 | @cons t m ns names h1 _ ih=>
  by_cases e:m.1=z
  ·refine .inr ⟨m.2.1,m.2.2,t,?_,?_,h1.2,h1.1⟩
   ·unfold yu;rw[List.find?_cons_of_pos (by simpa using e)];rfl
   ·show(List.find? _ ((Sum.inr m.1,V.ref t)::IK names ns)).map _=_;rw[List.find?_cons_of_pos (by simpa using e)];rfl
  ·have g:yu (m::names) z=yu names z:=by unfold yu;rw[List.find?_cons_of_neg (by simpa using e)]
   have v:Dg (IK (m::names) (t::ns)) (Sum.inr z)=Dg (IK names ns) (Sum.inr z):=by
    show(List.find? _ ((Sum.inr m.1,V.ref t)::IK names ns)).map _=_;rw[List.find?_cons_of_neg (by simpa using e)];rfl
   rw[g,v];exact ih
theorem QB{wo:Addr}{z:Str}(T:Ab K X)(q:∃T s A M,WJ X H T s A M/\A.wo=wo/\(yu M.names z=none->E (.ref CN) none H)/\(∀p b,yu M.names z=some (p,b)->Q (if zZ M p b=true then .non else .int p) H)):
  vA K CN (Zb X) E ⟨n,Q,bk,ct⟩ [some (.ref wo),some (.str z),none,none] H:=by
 obtain⟨Tg,s,A,M,j,rfl,hE,hQ⟩:=q;obtain⟨d1,ow⟩:=j.jb.ow;obtain⟨tm,om,nms⟩:=j.jn;unfold vA;walk_at"e";refine cV ow T.cW T.nWn nF ?_;refine⟨_,_,rfl,Znj om,?_⟩;rcases Zsh (z:=z) nms with ⟨e1,e2⟩ | ⟨p,b,t,e1,e2,ot,_⟩
 ·rw[e2];walk_at"e";exact⟨by decide,hE e1⟩
 ·rw[e2,show(!(some (V.ref t)).isSome)=false from rfl];walk_at"e";refine cV ow T.cW T.nWn nF ?_;walk_at"e";refine⟨_,_,rfl,by have:=Znj (z:=z) om;rw[e2]at this;exact this,?_⟩;walk_at"e";refine⟨t,_,0,_,rfl,rfl,jE.of ot,rfl,?_⟩;walk_at"e";refine cV ow T.cW T.nWn nF ?_;walk_at"e";refine⟨_,_,rfl,by have:=Znj (z:=z) om;rw[e2]at this;exact this,?_⟩;walk_at"e";refine⟨t,_,1,_,rfl,rfl,jE.of ot,rfl,?_⟩;walk_at"e";refine⟨_,_,_,rfl,Tg,s,A,M,j.w0,rfl,?_⟩;have:=hQ p b e1;cases hg:zZ M p b with
  | true=>
   rw[hg]at this;walk_at"e";exact this
  | false=>
   rw[hg]at this;walk_at"e";exact this
theorem pC.new{s:Nat}{H Hx:Hp}{T Tx:Tg}{l:Addr}{o o0:HO}(e:pC s H Hx T Tx)(hl:H l=none)(hx:Hx l=some o0):pC s H (upd Hx l o) T Tx where
 kp:=λb u h z=>by rw[aU (aM h hl)];exact e.kp b u h z
 al:=λb u h=>by rw[aU (aM h hl)];exact e.al b u h
 tg:=e.tg
 wt:=λb h=>e.wt b (by
  by_cases z:b=l
  ·rw[z,aq]at h;cases h
  ·rw[aU z]at h;exact h)
theorem pC.fresh{s:Nat}{H:Hp}{T:Tg}{l:Addr}{o:HO}{v:Nat×Nat}(w:WT H T)(hl:H l=none):pC s H (upd H l o) T (mV T l v) where
 kp:=λb u h z=>by rw[aU (aM h hl)];exact h
 al:=λb u h=>⟨u,by rw[aU (aM h hl)];exact h⟩
 tg:=λb u h=>m9 (aM h hl)
 wt:=λb h=>by
  by_cases z:b=l
  ·rw[z,aq]at h;cases h
  ·rw[aU z]at h;rw[m9 z];exact w b h
theorem Zdt{M:Wm}{x:Option Int}:(gn M x).2.sw.phase=M.sw.phase/\(gn M x).2.sw.grey.length<=M.sw.grey.length+1/\(gn M x).2.tells=M.tells/\(gn M x).2.names=M.names:=by
 cases x with
 | none=>exact⟨rfl,Nat.le_succ _,rfl,rfl⟩
 | some i=>
  unfold gn;dsimp only;cases cellAt M i with
  | none=>exact⟨rfl,Nat.le_succ _,rfl,rfl⟩
  | some c=>
   dsimp only
   by_cases z:M.sw.phase="walk"/\c.tone≠M.sw.sense
   ·rw[if_pos z];exact⟨rfl,by show(M.sw.grey++[i]).length<=_;rw[List.length_append];exact Nat.le_refl _,rfl,rfl⟩
   ·rw[if_neg z];exact⟨rfl,Nat.le_succ _,rfl,rfl⟩
theorem Za5{M:Wm}{x:Option Int}:(gn M x).2.hands=M.hands:=by
 cases x with
 | none=>rfl
 | some i=>
  unfold gn;dsimp only;cases cellAt M i with
  | none=>rfl
  | some c=>
   dsimp only;split<;>rfl
theorem Zdu{M:Wm}{x:Option Int}{k:Nat}{c:Ce}(h:M.cells[k]? =some (some c)):∃c',(gn M x).2.cells[k]? =some (some c')/\c'.fl=c.fl/\c'.birth=c.birth/\c'.bulk=c.bulk/\c'.load=c.load:=by
 cases x with
 | none=>exact⟨c,h,rfl,rfl,rfl,rfl⟩
 | some i=>
  unfold gn;dsimp only;cases hc:cellAt M i with
  | none=>exact⟨c,h,rfl,rfl,rfl,rfl⟩
  | some d=>
   dsimp only;split
   ·show ∃c',(M.cells.set i.toNat _)[k]? =_/\_
    by_cases z:i.toNat=k
    ·subst z;obtain⟨_,hd⟩:=mC.mp hc;rw[h]at hd;cases hd;exact⟨_,List.getElem?_set_self (gG h).1,rfl,rfl,rfl,rfl⟩
    ·rw[List.getElem?_set_ne z];exact⟨c,h,rfl,rfl,rfl,rfl⟩
   ·exact⟨c,h,rfl,rfl,rfl,rfl⟩
theorem mH:∀{l:List (Option Int)}{M:Wm}{x:Option Int},gk M (l++[x])=((gk M l).1++ofN (gn (gk M l).2 x).1,(gn (gk M l).2 x).2)
 | [],M,x=>by
  show(ofN (gn M x).1++[],(gn M x).2)=([]++ofN (gn M x).1,(gn M x).2);rw[List.append_nil,List.nil_append]
 | y::l,M,x=>by
  show(ofN (gn M y).1++(gk (gn M y).2 (l++[x])).1,(gk (gn M y).2 (l++[x])).2)=_;rw[mH];show _=((ofN (gn M y).1++(gk (gn M y).2 l).1)++_,_);rw[List.append_assoc];rfl
theorem Lz:∀{l:List (Option Int)}{M:Wm},(gk M l).2.sw.phase=M.sw.phase/\(gk M l).2.sw.grey.length<=M.sw.grey.length+l.length
 | [],M=>⟨rfl,Nat.le_refl _⟩
 | y::l,M=>by
  obtain⟨a,b,_⟩:=Zdt (M:=M) (x:=y);obtain⟨c,d⟩:=Lz (l:=l) (M:=(gn M y).2);refine⟨c.trans a,?_⟩;show(gk (gn M y).2 l).2.sw.grey.length<=_;rw[List.length_cons];omega
theorem QT:∀{l:List (Option Int)}{M:Wm},(gk M l).1.length<=l.length
 | [],M=>Nat.le_refl _
 | y::l,M=>by
  have:=QT (l:=l) (M:=(gn M y).2);show(ofN (gn M y).1++(gk (gn M y).2 l).1).length<=_;rw[List.length_append,List.length_cons];have:(ofN (gn M y).1).length<=1:=by cases (gn M y).1<;>simp[ofN]
  omega
theorem Za4{wo pl:Addr}(T:Ab K X)(q:∃xs T s A M,WT H T/\s≠0/\WJ X H T s A M/\A.wo=wo/\PlO H T A M pl xs/\xs.length<=100/\(M.sw.phase="walk"->M.sw.grey.length<=10000)/\
 ∀H' T' l,pC s H H' T T'->WJ X H' T' s A (gk M xs).2->H' l=some (.lst ((gk M xs).1.map V.int))->(H l=none/\(T' l).1≠s)->Q (.ref l) H'):Bl K (Za X) ⟨n,Q,bk,ct⟩ [some (.ref wo),some (.ref pl),none,none,none] H:=by
 obtain⟨xs,Tg,s,A,M,w,s0,j,rfl,plo,hx,hg,q⟩:=q;have opl:=plo.get j;unfold Bl;walk_at"e";refine⟨dR (by simp),λl hl=>?_⟩;have npl:pl≠l:=aM opl hl;have st1:pC s H (upd H l (.lst [])) Tg (mV Tg l (s+1,0)):=pC.fresh w hl;have j1:WJ X (upd H l (.lst [])) (mV Tg l (s+1,0)) s A M:=j.fresh hl;have g1:upd H l (.lst []) l=some (.lst []):=aq;have tl:mV Tg l (s+1,0) l=(s+1,0):=lX;have po1:PlO (upd H l (.lst [])) (mV Tg l (s+1,0)) A M pl xs:=by
  rcases plo with ⟨h1,h2⟩ | h
  ·exact .inl ⟨(aU npl).trans h1,(m9 npl).trans h2⟩
  ·exact .inr h
 have op1:upd H l (.lst []) pl=some (.lst (xs.map oV)):=(aU npl).trans opl;generalize upd H l (.lst [])=H1 at st1 j1 g1 op1 po1 ⊢;generalize mV Tg l (s+1,0)=T1 at st1 j1 tl po1;walk_at"e";refine⟨pl,rfl,⟨_,fj.of op1⟩,forL (xs.map oV) (λi σ Hx=>∃v3 v4,σ=[some (.ref A.wo),some (.ref pl),some (.ref l),v3,v4]/\pC s H Hx Tg T1/\WJ X Hx T1 s A (gk M (xs.take i)).2/\Hx l=some (.lst ((gk M (xs.take i)).1.map V.int))/\PlO Hx T1 A (gk M (xs.take i)).2 pl xs) ⟨_,_,rfl,st1,j1,g1,po1⟩ (λ_ _ _ _ ⟨_,_,_,_,j,_,e⟩=>fj.of (e.get j)) ?_ ?_⟩
 ·rintro i x σ Hx hi ⟨v3,v4,rfl,st2,j2,g2,op2⟩;obtain⟨y,hy,rfl⟩:∃y,xs[i]? =some y/\oV y=x:=by
   rw[fV]at hi;obtain⟨y,a,b⟩:=Option.map_eq_some_iff.mp hi;exact⟨y,a,b⟩
  have il:=(gG hy).1;have et:xs.take (i+1)=xs.take i++[y]:=by
   rw[List.take_add_one,hy];rfl
  obtain⟨gp,gl⟩:=Lz (l:=xs.take i) (M:=M);have nl:=QT (l:=xs.take i) (M:=M);have tk:(xs.take i).length<=100:=by rw[List.length_take];omega
  walk_at"e";refine⟨_,_,rfl,y,rfl,T1,s,A,_,st2.wt,s0,j2,rfl,λz=>?_,λHy sty jy=>?_⟩
  ·have:=hg (gp.symm.trans z);omega
  have gy:Hy l=some (.lst ((gk M (xs.take i)).1.map V.int)):=sty.kp _ _ g2 (by rw[tl];show s+1≠s;omega);have oy:PlO Hy T1 A (gn (gk M (xs.take i)).2 y).2 pl xs:=by
   rcases op2 with ⟨h1,h2⟩ | ⟨k,p,m,h1,h2,h3,h4⟩ | ⟨k,p,c,h1,h2,h3,h4⟩
   ·exact .inl ⟨sty.kp _ _ h1 (by rw[h2];exact λz=>s0 z.symm),h2⟩
   ·exact .inr (.inl ⟨k,p,m,h1,by rw[Za5];exact h2,h3,h4⟩)
   ·obtain⟨c',e1,e2,_⟩:=Zdu (x:=y) h2;exact .inr (.inr ⟨k,p,c',h1,e1,h3,by rw[e2];exact h4⟩)
  have stt:=st2.trans sty;walk_at"e";cases hn:(gn (gk M (xs.take i)).2 y).1 with
  | none=>
   dsimp only[oV];walk_at"e";refine⟨_,_,rfl,stt,?_,?_,by rw[et,mH];exact oy⟩
   ·rw[et,mH];exact jy
   ·rw[et,mH];show Hy l=some (.lst (((gk M (xs.take i)).1++ofN (gn (gk M (xs.take i)).2 y).1).map V.int));rw[hn];show Hy l=some (.lst (((gk M (xs.take i)).1++[]).map V.int));rw[List.append_nil];exact gy
  | some b=>
   dsimp only[oV];walk_at"e";refine⟨.inl ⟨rfl,_,fj.of gy⟩,?_⟩;walk_at"e";refine⟨_,_,_,rfl,rfl,gy,?_,?_⟩
   ·rw[dM];exact Nat.lt_of_le_of_lt (show _<=100 by omega) (by decide)
   walk_at"e";refine⟨_,_,rfl,pC.new stt hl gy,?_,?_,?_⟩
   ·rw[et,mH];exact jy.other (s':=s+1) (pC.upd sty.wt gy (by rw[tl])) (by omega) (by omega)
   ·rw[et,mH,aq];show some (HO.lst _)=some (HO.lst (((gk M (xs.take i)).1++ofN (gn (gk M (xs.take i)).2 y).1).map V.int));rw[hn,List.map_append];rfl
   ·rw[et,mH];rcases oy with ⟨h1,h2⟩ | h
    ·exact .inl ⟨by rw[aU npl];exact h1,h2⟩
    ·exact .inr h
 ·rintro σ Hx ⟨v3,v4,rfl,st2,j2,g2,op2⟩;walk_at"e";rw[show(xs.map oV).length=xs.length from dM _,List.take_length]at j2 g2;exact q Hx T1 l st2 j2 g2 ⟨hl,by rw[tl];show s+1≠s;omega⟩
end
theorem rG{M:Wm}{h k:Nat}{x:Option Int}{m:Str×List (Option Int)}(hm:M.hands[h]? =some m):{ M with hands:=M.hands.set h (m.1,m.2.set k x) }=setSlot M h k x:=by
 have e:=Sx (k:=k) (x:=x) hm;show _={ M with hands:=_ };rw[show(M.hands.modify h λm=>(m.1,m.2.set k x))=M.hands.set h (m.1,m.2.set k x)from e]
def KD(d:nZ):Prop:=∃h s many bulk,d=.make h s many bulk
def Vx(d:nZ):Prop:=∃h s t f,d=.get h s t f
def Vw(d:nZ):Prop:=∃h t f s,d=.put h t f s
def KR(d:nZ):Prop:=∃h s t,d=.copy h s t
def KQ(d:nZ):Prop:=∃h s,d=.drop h s
def KN(d:nZ):Prop:=∃h s g t,d=.give h s g t
def CQ(d:nZ):Prop:=∃h t load,d=.write h t load
def KC(d:nZ):Prop:=∃h t,d=.read h t
def isName(d:nZ):Prop:=∃h t word,d=.name h t word
def Kz(d:nZ):Prop:=∃h s word,d=.seek h s word
abbrev CG(X:Cs)(rf:Rf->Addr)(P:nZ->Prop)(wo dd:Addr)(H:Hp)(Q:VK)(E:XK):Prop:=∃T s A M d,P d/\WT H T/\s≠0/\WJ X H T s A M/\A.wo=wo/\H dd=some (.tup (dV d))/\okD M d/\M.cells.length<=900/\(M.sw.phase="walk"->M.sw.grey.length<=10000)/\(0<=M.tells/\M.tells<4)/\M.names.length<=1000/\
 (∀r,sS M d=.error r->∀H',dF H H'->E (.ref (rf r)) none H')/\
 (∀e M',sS M d=.ok (e,M')->∀H' T' A' a,pC s H H' T T'->WJ X H' T' s A' M'->A'.wo=wo->EvN H H' T' s a e->Q (.ref a) H')
section
variable {X:Cs}{H Hx:Hp}{T Tx:Tg}{s:Nat}{A Ax:Wa}{M M':Wm}{d:nZ}{e:Ev}{wo:Addr}{Q:VK}
theorem pC.free{s:Nat}{H Hx:Hp}{T Tx:Tg}{l:Addr}(e:pC s H Hx T Tx)(h:Hx l=none):H l=none:=by
 cases z:H l with
 | none=>rfl
 | some o=>obtain⟨o',z'⟩:=e.al l o z;rw[h]at z';cases z'
theorem ev0(s0:s≠0)(hQ:∀e M',sS M d=.ok (e,M')->∀H' T' A' a,pC s H H' T T'->WJ X H' T' s A' M'->A'.wo=wo->EvN H H' T' s a e->Q (.ref a) H')(he:sS M d=.ok (e,M'))(hn:e.notes=[])(st:pC s H Hx T Tx)(j:WJ X Hx Tx s Ax M')(aw:Ax.wo=wo){l a:Addr}(hl:Hx l=none)(ha:upd Hx l (.lst []) a=none):
  Q (.ref a) (upd (upd Hx l (.lst [])) a (.tup [.str e.word,oV e.thing,.ref l])):=by
 have s1:=bY hl (.lst []);have s2:=bY ha (.tup [.str e.word,oV e.thing,.ref l]);have s3:=s1.trans s2;refine hQ e M' he _ Tx Ax a (st.trans (pC.same st.wt s3)) (j.same s3) aw ⟨l,⟨pC.free st hl,(Zc1 st.wt s0 hl).2,(Zc1 st.wt s0 (s1.free ha)).2⟩,aq,?_⟩;rw[hn];exact s2 _ _ aq
theorem ev1(s0:s≠0){l a:Addr}(hl0:H l=none/\(Tx l).1≠s)(hQ:∀e M',sS M d=.ok (e,M')->∀H' T' A' a,pC s H H' T T'->WJ X H' T' s A' M'->A'.wo=wo->EvN H H' T' s a e->Q (.ref a) H')(he:sS M d=.ok (e,M'))(st:pC s H Hx T Tx)(j:WJ X Hx Tx s Ax M')(aw:Ax.wo=wo)(hl:Hx l=some (.lst (e.notes.map V.int)))(ha:Hx a=none):
  Q (.ref a) (upd Hx a (.tup [.str e.word,oV e.thing,.ref l])):=by
 have s2:=bY ha (.tup [.str e.word,oV e.thing,.ref l]);exact hQ e M' he _ Tx Ax a (st.trans (pC.same st.wt s2)) (j.same s2) aw ⟨l,⟨hl0.1,hl0.2,(Zc1 st.wt s0 ha).2⟩,aq,s2 _ _ hl⟩
end
theorem Lx{M:Wm}{i:Int}{c c':Ce}(h:cellAt M i=some c)(hb:c'.birth=c.birth)(x:Option Int):R0 (setCell M i c') x=R0 M x:=by
 cases x with
 | none=>rfl
 | some y=>
  obtain⟨h0,h1⟩:=mC.mp h;show(cellAt (setCell M i c') y).map _=(cellAt M y).map _
  by_cases e:y=i
  ·subst e;rw[h,show cellAt (setCell M y c') y=some c' from mC.mpr ⟨h0,by show(M.cells.set _ _)[_]? =_;rw[List.getElem?_set_self (gG h1).1]⟩];show some c'.birth=some c.birth;rw[hb]
  ·have:cellAt (setCell M i c') y=cellAt M y:=by
    unfold cellAt setCell
    by_cases z:0<=y
    ·rw[if_pos z,if_pos z];show((M.cells.set _ _)[_]?).join=_;rw[List.getElem?_set_ne (by omega)]
    ·rw[if_neg z,if_neg z]
   rw[this]
theorem Zhj{M:Wm}{y:Option Int}(x:Option Int):R0 (gn M y).2 x=R0 M x:=by
 cases y with
 | none=>rfl
 | some i=>
  unfold gn;dsimp only;cases hc:cellAt M i with
  | none=>rfl
  | some c=>
   dsimp only
   by_cases z:M.sw.phase="walk"/\c.tone≠M.sw.sense
   ·rw[if_pos z];have e:=Lx (M:=M) (i:=i) (c:=c) (c':={ c with tone:=M.sw.sense }) hc rfl x;cases x with
    | none=>rfl
    | some y=>exact e
   ·rw[if_neg z]
theorem zH:∀{l:List (Option Int)}{M:Wm} (x:Option Int),R0 (gk M l).2 x=R0 M x
 | [],_,_=>rfl
 | y::l,M,x=>(zH (l:=l) (M:=(gn M y).2) x).trans (Zhj x)
theorem Zmd{b:Bool}{x:Option Int}:(if b=true then [oV x]else [])=(if b=true then [x]else []).map oV:=by cases b<;>rfl
section
variable {K:aV}{X:Cs}{H:Hp}{Q:VK}{E:XK}{n:St->Hp->Prop}{bk ct:St->Hp->Prop}{rf:Rf->Addr}
theorem Zf2{wo dd:Addr}(T:Ab K X)(q:CG X rf KR wo dd H Q E):Ez K (fH X) (eF X) ⟨n,Q,bk,ct⟩ [some (.ref wo),some (.ref dd),none,none] H:=by
 obtain⟨Tg,s,A,M,_,⟨h,sl,t,rfl⟩,w,s0,j,rfl,od,⟨o1,o2⟩,hc,hg,ht,hn,hE,hQ⟩:=q;obtain⟨p,m,hp,hm,hs,hl,hd⟩:=j.handOf o2;obtain⟨m',hm',_,hl'⟩:=Za2 o1;rw[hm]at hm';cases hm';unfold Ez;walk_at"e";refine⟨dd,_,1,_,rfl,rfl,jE.of od,rfl,?_⟩;walk_at"e";refine⟨_,_,rfl,Tg,s,A,M,h,p,j,rfl,rfl,hp,?_⟩;walk_at"e";refine⟨dd,_,3,_,rfl,rfl,jE.of od,rfl,?_⟩;refine jA (fj.of hd.o2) (nD (v:=oV (dD M h t)) (by rw[fV,hs];rfl)) ?_;walk_at"e";refine⟨dd,_,2,_,rfl,rfl,jE.of od,rfl,?_⟩;refine⟨p.2,_,_,sl,rfl,rfl,hd.o2,uP (by rw[dM];exact hl'),?_⟩;obtain⟨st1,j1⟩:=j.slot w s0 (k:=sl) (x:=dD M h t) hp hm;rw[rG hm]at j1;generalize upd H p.2 (.lst ((m.2.map oV).set sl (oV (dD M h t))))=H1 at st1 j1 ⊢;obtain⟨d1,ow⟩:=j1.jb.ow;walk_at"e";refine cV ow T.cW T.nWh fc ?_;walk_at"e";refine⟨_,_,rfl,dD M h t,rfl,Tg,s,A,_,j1,rfl,?_⟩;rw[qI];walk_at"e";refine⟨dR (by simp),λl hl=>⟨dR (by simp),λa ha=>?_⟩⟩;exact ev0 s0 hQ (d:=.copy h sl t) rfl rfl st1 j1 rfl hl ha
theorem Zf1{wo dd:Addr}(T:Ab K X)(q:CG X rf KQ wo dd H Q E):Ey K (fH X) (eF X) ⟨n,Q,bk,ct⟩ [some (.ref wo),some (.ref dd),none,none] H:=by
 obtain⟨Tg,s,A,M,_,⟨h,sl,rfl⟩,w,s0,j,rfl,od,o1,hc,hg,ht,hn,hE,hQ⟩:=q;obtain⟨p,m,hp,hm,hs,hl,hd⟩:=j.handOf o1;unfold Ey;walk_at"e";refine⟨dd,_,1,_,rfl,rfl,jE.of od,rfl,?_⟩;walk_at"e";refine⟨_,_,rfl,Tg,s,A,M,h,p,j,rfl,rfl,hp,?_⟩;walk_at"e";refine⟨dd,_,2,_,rfl,rfl,jE.of od,rfl,?_⟩;refine jA (fj.of hd.o2) (nD (v:=oV (dD M h sl)) (by rw[fV,hs];rfl)) ?_;walk_at"e";refine⟨dd,_,2,_,rfl,rfl,jE.of od,rfl,?_⟩;refine⟨p.2,_,_,sl,rfl,rfl,hd.o2,uP (by rw[dM];exact hl),?_⟩;obtain⟨st1,j1⟩:=j.slot w s0 (k:=sl) (x:=none) hp hm;rw[rG hm]at j1;show eG _ _ _ (upd H p.2 (.lst ((m.2.map oV).set sl (oV none))));generalize upd H p.2 (.lst ((m.2.map oV).set sl (oV none)))=H1 at st1 j1 ⊢;obtain⟨d1,ow⟩:=j1.jb.ow;walk_at"e";refine cV ow T.cW T.nWh fc ?_;walk_at"e";refine⟨_,_,rfl,dD M h sl,rfl,Tg,s,A,_,j1,rfl,?_⟩;rw[qI];walk_at"e";refine⟨dR (by simp),λl hl=>⟨dR (by simp),λa ha=>?_⟩⟩;exact ev0 s0 hQ (d:=.drop h sl) rfl rfl st1 j1 rfl hl ha
theorem Zf0{wo dd:Addr}(T:Ab K X)(q:CG X rf KN wo dd H Q E):Ew K (fH X) (mO X) (eF X) (qz X) ⟨n,Q,bk,ct⟩ [some (.ref wo),some (.ref dd),none,none,none,none] H:=by
 obtain⟨Tg,s,A,M,_,⟨h,sl,g,t,rfl⟩,w,s0,j,rfl,od,⟨o1,o2⟩,hc,hg,ht,hn,hE,hQ⟩:=q;obtain⟨p,m,hp,hm,hs,hl,hd⟩:=j.handOf o1;obtain⟨p',m',hp',hm',hs',hl',hd'⟩:=j.handOf o2;unfold Ew;walk_at"e";refine⟨dd,_,1,_,rfl,rfl,jE.of od,rfl,?_⟩;walk_at"e";refine⟨dd,_,3,_,rfl,rfl,jE.of od,rfl,?_⟩;walk_at"e";refine⟨_,_,rfl,Tg,s,A,M,h,p,j,rfl,rfl,hp,?_⟩;walk_at"e";refine⟨dd,_,2,_,rfl,rfl,jE.of od,rfl,?_⟩;refine jA (fj.of hd.o2) (nD (v:=oV (dD M h sl)) (by rw[fV,hs];rfl)) ?_;walk_at"e";refine⟨_,_,rfl,Tg,s,A,M,g,p',j,rfl,rfl,hp',?_⟩;walk_at"e";refine⟨dd,_,4,_,rfl,rfl,jE.of od,rfl,?_⟩;refine⟨p'.2,_,_,t,rfl,rfl,hd'.o2,uP (by rw[dM];exact hl'),?_⟩;obtain⟨st1,j1⟩:=j.slot w s0 (k:=t) (x:=dD M h sl) hp' hm';rw[rG hm']at j1;generalize upd H p'.2 (.lst ((m'.2.map oV).set t (oV (dD M h sl))))=H1 at st1 j1 ⊢;walk_at"e";refine⟨_,_,_,rfl,Tg,s,A,_,h,j1,rfl,ht,rfl,λl1 hl1=>?_⟩;rw[show(sG (setSlot M g t (dD M h sl)) && !gf (setSlot M g t (dD M h sl)) h)=(sG M && !gf M h)from rfl,Zmd];generalize zz:upd H1 l1 _=H2;obtain⟨s1,g1⟩:=nwO hl1 zz;walk_at"e";refine⟨_,_,rfl,_,Tg,s,A,_,st1.wt.same s1,s0,j1.same s1,rfl,.inl ⟨g1,st1.wt _ hl1⟩,by cases (sG M && !gf M h)<;>simp,hg,λH3 T3 l3 st3 j3 g3 nl3=>?_⟩;obtain⟨d1,ow⟩:=j3.jb.ow;walk_at"e";refine cV ow T.cW T.nWh fc ?_;walk_at"e";refine⟨_,_,rfl,dD M h sl,rfl,T3,s,A,_,j3,rfl,?_⟩;rw[zH,qI];walk_at"e";refine⟨dR (by simp),λa ha=>?_⟩;exact ev1 s0 ⟨pC.free st1 (s1.free nl3.1),nl3.2⟩ hQ (d:=.give h sl g t) rfl (st1.trans ((pC.same st1.wt s1).trans st3)) j3 rfl g3 ha
theorem Zez{wo dd CF:Addr}(T:Ab K X)(hF:rf .full=CF)(q:CG X rf KD wo dd H Q E):Eu K X.H (wV K X.C X.H CF) (fH X) (eF X) E ⟨n,Q,bk,ct⟩ [some (.ref wo),some (.ref dd),none,none,none,none] H:=by
 obtain⟨Tg,s,A,M,_,⟨h,sl,many,bulk,rfl⟩,w,s0,j,rfl,od,⟨o1,m0,m1,b0⟩,hc,hg,ht,hn,hE,hQ⟩:=q;obtain⟨p,m,hp,hm,hs,hl,hd⟩:=j.handOf o1;obtain⟨d1,ow⟩:=j.jb.ow;obtain⟨d2,os⟩:=j.js.os;obtain⟨th,tc,⟨d3,oh⟩,oc⟩:=j.jh;have hcs:A.cs.length<=900:=by rw[j.jc.lc];exact hc
 unfold Eu;walk_at"e";refine⟨dd,_,1,_,rfl,rfl,jE.of od,rfl,?_⟩;walk_at"e";refine⟨_,_,rfl,Tg,s,A,M,h,p,j,rfl,rfl,hp,?_⟩;walk_at"e";refine⟨dd,_,3,_,rfl,rfl,jE.of od,rfl,?_⟩;walk_at"e";refine⟨dd,_,4,_,rfl,rfl,jE.of od,rfl,?_⟩;walk_at"e";refine cV ow T.cW T.nWh fc ?_;refine⟨A.hp,d3,_,rfl,oh,Ug,?_⟩;walk_at"e";refine cV ow T.cW T.nWs gW ?_;walk_at"e";refine cV os T.cS T.n1 tZ ?_;walk_at"e";refine⟨_,_,_,_,rfl,A.ca,d3,_,_,_,_,oh,oc,?_,by rw[dM];omega,m0,m1,λhf H' sm=>?_,λhf pc fa H1 npc nfa fm a1 a2 co=>?_⟩
 ·intro y hy;obtain⟨o,ho,rfl⟩:=List.mem_map.mp hy;cases o with
  | none=>exact .inl rfl
  | some g=>
   obtain⟨i,hi,ei⟩:=List.getElem_of_mem ho;have e:=j.jc.ce i _ _ (eV hi) (eV (by rw[<- j.jc.lc];exact hi));rw[ei]at e;cases hcc:M.cells[i]'(by rw[<- j.jc.lc];exact hi)with
   | none=>rw[hcc]at e;exact e.elim
   | some c=>
    rw[hcc]at e;obtain⟨_,_,⟨dx,o1⟩,_⟩:=(show Uz X.C H Tg s i g c from e);exact .inr ⟨g.1,X.C,dx,_,rfl,o1,T.c.dB,T.c.dW⟩
 ·rw[<- hF];refine hE .full ?_ H' sm;show(if _ then _ else _)=_;rw[if_neg (by omega)]
 ·obtain⟨⟨dp,c1⟩,c2⟩:=co;have npf:pc≠fa:=QV c1 c2 (λz=>by cases z);obtain⟨T1,st1,j1⟩:=j.put w s0 (H':=H1) (dx:=d3) (used':=M.used+(1+many+bulk)) (p:=pc) (fa:=fa) (c:=⟨M.born+1,bulk,M.sw.sense,0,List.replicate many.toNat none⟩)
   (λb o hb n1 n2=>fm b o hb (by simp[n1,n2])) a1 a2 npc nfa npf ⟨dp,c1⟩ (by rw[c2,List.map_replicate];rfl)
  have ei:((A.cs.map pV).idxOf V.non:Int)=(nJ M.cells:Nat):=by rw[(Zb0 Zl3 A.cs).1,j.jc.fst]
  walk_at"e";rw[ei];refine⟨dd,_,2,_,rfl,rfl,jE.of (fm _ _ od ?_),rfl,?_⟩
  ·intro z;rcases List.mem_cons.mp z with z | z
   ·rw[z,oh]at od;cases od
   ·rw[List.mem_singleton.mp z,oc]at od;cases od
  have hd1:=j1.jd.hd h p m hp hm;refine⟨p.2,_,_,sl,rfl,rfl,hd1.o2,uP (by rw[dM];exact hl),?_⟩;obtain⟨st2,j2⟩:=j1.slot st1.wt s0 (k:=sl) (x:=some (nJ M.cells:Nat)) hp hm;rw[rG (M:={ M with used:=M.used+(1+many+bulk),born:=M.born+1,cells:=tO M.cells ⟨M.born+1,bulk,M.sw.sense,0,List.replicate many.toNat none⟩ }) hm]at j2;show eG _ _ _ (upd H1 p.2 (.lst ((m.2.map oV).set sl (oV (some (nJ M.cells:Nat))))));generalize upd H1 p.2 (.lst ((m.2.map oV).set sl (oV (some (nJ M.cells:Nat)))))=H2 at st2 j2 ⊢;obtain⟨d5,ow2⟩:=j2.jb.ow;walk_at"e";refine cV ow2 T.cW T.nWh fc ?_;walk_at"e";refine⟨_,_,rfl,some (nJ M.cells:Nat),rfl,T1,s,_,_,j2,rfl,?_⟩;rw[qI];rw[show R0 { M with used:=M.used+(1+many+bulk),born:=M.born+1,cells:=tO M.cells ⟨M.born+1,bulk,M.sw.sense,0,List.replicate many.toNat none⟩ } (some (nJ M.cells:Nat))=some (M.born+1)from by
   show(cellAt _ _).map _=_;rw[Zf9];rfl]
  walk_at"e";refine⟨dR (by simp),λl hl=>⟨dR (by simp),λa ha=>?_⟩⟩;exact ev0 s0 hQ (d:=.make h sl many bulk) (Zbf (by omega)) rfl (st1.trans st2) j2 rfl hl ha
end
theorem Ziy{M:Wm}{h s t f:Nat}(e:cO M (dD M h t)=none):sS M (.get h s t f)=.error .empty:=by
 show(match dD M h t with | none=>_ | some x=>_)=_;cases hs:dD M h t with
 | none=>rfl
 | some x=>
  rw[hs]at e;show(match cellAt M x with | none=>_ | some c=>_)=_;rw[show cellAt M x=none from e]
theorem Ziw{M:Wm}{h s t f:Nat}(e:cO M (dD M h t)=none):sS M (.put h t f s)=.error .empty:=by
 show(match dD M h t with | none=>_ | some x=>_)=_;cases hs:dD M h t with
 | none=>rfl
 | some x=>
  rw[hs]at e;show(match cellAt M x with | none=>_ | some c=>_)=_;rw[show cellAt M x=none from e]
theorem Zbg{M:Wm}{h t:Nat}{l:Int}(e:cO M (dD M h t)=none):sS M (.write h t l)=.error .empty:=by
 show(match dD M h t with | none=>_ | some x=>_)=_;cases hs:dD M h t with
 | none=>rfl
 | some x=>
  rw[hs]at e;show(match cellAt M x with | none=>_ | some c=>_)=_;rw[show cellAt M x=none from e]
theorem Zf4{M:Wm}{h t:Nat}(e:cO M (dD M h t)=none):sS M (.read h t)=.error .empty:=by
 show(match dD M h t with | none=>_ | some x=>_)=_;cases hs:dD M h t with
 | none=>rfl
 | some x=>
  rw[hs]at e;show(match cellAt M x with | none=>_ | some c=>_)=_;rw[show cellAt M x=none from e]
theorem Zf5{M:Wm}{h t:Nat}{z:Str}(e:cO M (dD M h t)=none):sS M (.name h t z)=.error .empty:=by
 show(match dD M h t with | none=>_ | some x=>_)=_;cases hs:dD M h t with
 | none=>rfl
 | some x=>
  rw[hs]at e;show(match cellAt M x with | none=>_ | some c=>_)=_;rw[show cellAt M x=none from e]
theorem Znh{M:Wm}{h s t f:Nat}{i:Int}{c:Ce}(e0:dD M h t=some i)(ec:cellAt M i=some c)(hf:c.fl[f]? =none):sS M (.get h s t f)=.error .pY:=by
 show(match dD M h t with | none=>_ | some x=>_)=_;rw[e0];show(match cellAt M i with | none=>_ | some c=>_)=_;rw[ec];show(match c.fl[f]? with | none=>_ | some v=>_)=_;rw[hf]
theorem Znf{M:Wm}{h s t f:Nat}{i:Int}{c:Ce}(e0:dD M h t=some i)(ec:cellAt M i=some c)(hf:c.fl[f]? =none):sS M (.put h t f s)=.error .pY:=by
 show(match dD M h t with | none=>_ | some x=>_)=_;rw[e0];show(match cellAt M i with | none=>_ | some c=>_)=_;rw[ec];show(match c.fl[f]? with | none=>_ | some v=>_)=_;rw[hf]
theorem Zng{M:Wm}{h s t f:Nat}{i:Int}{c:Ce}{v:Option Int}(e0:dD M h t=some i)(ec:cellAt M i=some c)(hf:c.fl[f]? =some v):sS M (.get h s t f)=.ok (⟨"got",R0 M v,[]⟩,setSlot M h s v):=by
 show(match dD M h t with | none=>_ | some x=>_)=_;rw[e0];show(match cellAt M i with | none=>_ | some c=>_)=_;rw[ec];show(match c.fl[f]? with | none=>_ | some v=>_)=_;rw[hf]
def putL(M:Wm)(h s:Nat)(v:Option Int):List (Option Int):=(if old? M=true then [v]else [])++if (sG M && !gf M h)=true then [dD M h s]else []
theorem Zne{M:Wm}{h s t f:Nat}{i:Int}{c:Ce}{v:Option Int}(e0:dD M h t=some i)(ec:cellAt M i=some c)(hf:c.fl[f]? =some v):sS M (.put h t f s)=.ok (⟨"put",R0 M v,(gk (setCell M i { c with fl:=c.fl.set f (dD M h s) }) (putL M h s v)).1⟩,(gk (setCell M i { c with fl:=c.fl.set f (dD M h s) }) (putL M h s v)).2):=by
 show(match dD M h t with | none=>_ | some x=>_)=_;rw[e0];show(match cellAt M i with | none=>_ | some c=>_)=_;rw[ec];show(match c.fl[f]? with | none=>_ | some v=>_)=_;rw[hf];rfl
theorem Zf3{M:Wm}{h t:Nat}{l i:Int}{c:Ce}(e0:dD M h t=some i)(ec:cellAt M i=some c):sS M (.write h t l)=.ok (⟨"wrote",some c.load,[]⟩,setCell M i { c with load:=l }):=by
 show(match dD M h t with | none=>_ | some x=>_)=_;rw[e0];show(match cellAt M i with | none=>_ | some c=>_)=_;rw[ec]
theorem Ziv{M:Wm}{h t:Nat}{i:Int}{c:Ce}(e0:dD M h t=some i)(ec:cellAt M i=some c):sS M (.read h t)=.ok (⟨"read",some c.load,[]⟩,M):=by
 show(match dD M h t with | none=>_ | some x=>_)=_;rw[e0];show(match cellAt M i with | none=>_ | some c=>_)=_;rw[ec]
theorem Zix{M:Wm}{h t:Nat}{z:Str}{i:Int}{c:Ce}(e0:dD M h t=some i)(ec:cellAt M i=some c):sS M (.name h t z)=.ok (⟨"named",some c.birth,[]⟩,{ M with names:=wF M.names z (i,c.birth) }):=by
 show(match dD M h t with | none=>_ | some x=>_)=_;rw[e0];show(match cellAt M i with | none=>_ | some c=>_)=_;rw[ec]
section
variable {X:Cs}{H H':Hp}{T T':Tg}{s:Nat}{A:Wa}{M:Wm}
theorem Zsf{z:Str}{v:Int×Int}{t:Addr}(ht:NmO H T t (z,v)):∀{ns:List Addr}{names:List (Str×(Int×Int))},Al (NmO H T) ns names->(∃ns',(IK names ns).map (λkv=>if kv.1=Sum.inr z then(kv.1,V.ref t)else kv)=IK (names.map λm=>if m.1=z then(m.1,v)else m) ns'/\Al (NmO H T) ns' (names.map λm=>if m.1=z then(m.1,v)else m))/\
  ((IK names ns).any λkv=>decide (kv.1=Sum.inr z))=(names.any λm=>decide (m.1=z))/\IK names ns++[(Sum.inr z,V.ref t)]=IK (names++[(z,v)]) (ns++[t])/\Al (NmO H T) (ns++[t]) (names++[(z,v)]):=by
 intro ns names h
 induction h with
 | nil=>exact⟨⟨[],rfl,.nil⟩,rfl,rfl,.cons ht .nil⟩
 | @cons a m ns names h1 _ ih=>
  obtain⟨⟨ns',e1,e2⟩,e3,e4,e5⟩:=ih;refine⟨?_,?_,?_,.cons h1 e5⟩
  ·by_cases e:m.1=z
   ·refine⟨t::ns',?_,?_⟩
    ·show(if (Sum.inr m.1:Int ⊕ Str)=Sum.inr z then _ else _)::_=_;rw[if_pos (by rw[e]),List.map_cons,if_pos e];show _::_=(Sum.inr m.1,V.ref t)::IK _ ns';rw[<- e1];rfl
    ·rw[List.map_cons,if_pos e];exact .cons (by rw[e];exact ht) e2
   ·refine⟨a::ns',?_,?_⟩
    ·show(if (Sum.inr m.1:Int ⊕ Str)=Sum.inr z then _ else _)::_=_;rw[if_neg (λw=>e (Sum.inr.inj w)),List.map_cons,if_neg e];show _::_=(Sum.inr m.1,V.ref a)::IK _ ns';rw[<- e1];rfl
    ·rw[List.map_cons,if_neg e];exact .cons h1 e2
  ·show(decide ((Sum.inr m.1:Int ⊕ Str)=Sum.inr z) || (IK names ns).any _)=(decide (m.1=z) || names.any _);rw[e3];congr 1
   by_cases e:m.1=z<;>simp[e]
  ·show(Sum.inr m.1,V.ref a)::(IK names ns++_)=(Sum.inr m.1,V.ref a)::IK (names++_) (ns++_);rw[e4]
theorem Zsg{ns:List Addr}{names:List (Str×(Int×Int))}(h:Al (NmO H T) ns names):(IK names ns).length=names.length:=by
 induction h with
 | nil=>rfl
 | @cons a m ns names h1 _ ih=>show(_::IK names ns).length=_;rw[List.length_cons,List.length_cons,ih]
theorem WJ.named(j:WJ X H T s A M)(w:WT H T)(h0:s≠0){z:Str}{v:Int×Int}{t:Addr}(ht:NmO H T t (z,v)):∃ns',pC s H (upd H A.nm (.dK (putK (IK M.names A.ns) (Sum.inr z) (.ref t)))) T T/\
  WJ X (upd H A.nm (.dK (putK (IK M.names A.ns) (Sum.inr z) (.ref t)))) T s { A with ns:=ns' } { M with names:=wF M.names z v }:=by
 obtain⟨tm,om,nms⟩:=j.jn;obtain⟨⟨n1,e1,e2⟩,e3,e4,e5⟩:=Zsf ht nms;have f:Am s (·=6) H (upd H A.nm (.dK (putK (IK M.names A.ns) (Sum.inr z) (.ref t)))) T T:=Am.Kf tm;have mvn:∀{ns:List Addr}{names:List (Str×(Int×Int))},Al (NmO H T) ns names->Al (NmO (upd H A.nm (.dK (putK (IK M.names A.ns) (Sum.inr z) (.ref t)))) T) ns names:=λh=>h.mono λt m ⟨z1,z2⟩=>⟨z1,vU h0 tm _ _ z2 z1⟩;have go:∀ns',putK (IK M.names A.ns) (Sum.inr z) (.ref t)=IK (wF M.names z v) ns'->Al (NmO H T) ns' (wF M.names z v)->WJ X (upd H A.nm (.dK (putK (IK M.names A.ns) (Sum.inr z) (.ref t)))) T s { A with ns:=ns' } { M with names:=wF M.names z v }:=λns' g1 g2=>by
  refine⟨?_,?_,⟨tm,by show upd _ A.nm _ A.nm=_;rw[aq,g1],mvn g2⟩,?_,j.jd.mv f λ_ _ _=>by omega,j.jc.mv f λ_ _=>by omega⟩
  ·obtain⟨b1,b2,b3,b4,b5,b6,b7,b8⟩:=j.jb.mv f (vU h0 tm) (by omega) (by omega);exact⟨b1,b2,b3,b4,b5,b6,b7,b8⟩
  ·obtain⟨b1,b2,b3,b4⟩:=j.jh.mv f (by omega) (by omega);exact⟨b1,b2,b3,b4⟩
  ·obtain⟨b1,b2,b3,b4⟩:=j.js.mv f (by omega) (by omega);exact⟨b1,b2,b3,b4⟩
 by_cases ha:(M.names.any λm=>decide (m.1=z))=true
 ·refine⟨n1,pC.upd w om (by rw[tm]),go n1 ?_ ?_⟩
  ·unfold putK wF;rw[if_pos (e3.trans ha),if_pos ha,e1]
  ·unfold wF;rw[if_pos ha];exact e2
 ·refine⟨A.ns++[t],pC.upd w om (by rw[tm]),go _ ?_ ?_⟩
  ·unfold putK wF;rw[if_neg (λy=>ha (e3.symm.trans y)),if_neg ha,e4]
  ·unfold wF;rw[if_neg ha];exact e5
end
section
variable {K:aV}{X:Cs}{H:Hp}{Q:VK}{E:XK}{n:St->Hp->Prop}{bk ct:St->Hp->Prop}{rf:Rf->Addr}{CE CF CN:Addr}
theorem Ziu{wo dd:Addr}(T:Ab K X)(hE':rf .empty=CE)(hF':rf .pY=CF)(q:CG X rf Vx wo dd H Q E):JN K (fH X) (pA X CE CF) (eF X) E ⟨n,Q,bk,ct⟩ [some (.ref wo),some (.ref dd),none,none,none,none] H:=by
 obtain⟨Tg,s,A,M,_,⟨h,sl,t,f,rfl⟩,w,s0,j,rfl,od,⟨o1,o2⟩,hc,hg,ht,hn,hE,hQ⟩:=q;obtain⟨p,m,hp,hm,hs,hl,hd⟩:=j.handOf o1;unfold JN;walk_at"e";refine⟨dd,_,1,_,rfl,rfl,jE.of od,rfl,?_⟩;walk_at"e";refine⟨dd,_,3,_,rfl,rfl,jE.of od,rfl,?_⟩;walk_at"e";refine⟨dd,_,4,_,rfl,rfl,jE.of od,rfl,?_⟩;walk_at"e";refine⟨_,_,_,_,rfl,Tg,s,A,M,h,t,f,j,rfl,rfl,rfl,rfl,o2,λe=>?_,λi c e0 h0 ec hf=>?_,λi c pc e0 h0 ec hpc ce hf=>?_⟩
 ·rw[<- hE'];exact hE .empty (Ziy e) H (dF.refl _)
 ·rw[<- hF'];exact hE .pY (Znh e0 ec hf) H (dF.refl _)
 ·have hv:=eV hf;walk_at"e";refine jA (fj.of ce.o2) (nD (v:=oV (c.fl[f])) (by rw[fV,hv];rfl)) ?_;walk_at"e";refine⟨_,_,rfl,Tg,s,A,M,h,p,j,rfl,rfl,hp,?_⟩;walk_at"e";refine⟨dd,_,2,_,rfl,rfl,jE.of od,rfl,?_⟩;refine⟨p.2,_,_,sl,rfl,rfl,hd.o2,uP (by rw[dM];exact hl),?_⟩;obtain⟨st1,j1⟩:=j.slot w s0 (k:=sl) (x:=c.fl[f]) hp hm;rw[rG hm]at j1;generalize upd H p.2 (.lst ((m.2.map oV).set sl (oV c.fl[f])))=H1 at st1 j1 ⊢;obtain⟨d1,ow⟩:=j1.jb.ow;walk_at"e";refine cV ow T.cW T.nWh fc ?_;walk_at"e";refine⟨_,_,rfl,c.fl[f],rfl,Tg,s,A,_,j1,rfl,?_⟩;rw[qI];walk_at"e";refine⟨dR (by simp),λl hl=>⟨dR (by simp),λa ha=>?_⟩⟩;exact ev0 s0 hQ (d:=.get h sl t f) (Zng e0 ec hv) rfl st1 j1 rfl hl ha
theorem Zit{wo dd:Addr}(T:Ab K X)(hE':rf .empty=CE)(hF':rf .pY=CF)(q:CG X rf Vw wo dd H Q E):JM K (fH X) (pA X CE CF) (mO X) (eF X) (qz X) (zQ X) E ⟨n,Q,bk,ct⟩ [some (.ref wo),some (.ref dd),none,none,none,none,none,none] H:=by
 obtain⟨Tg,s,A,M,_,⟨h,t,f,sl,rfl⟩,w,s0,j,rfl,od,⟨o2,o1⟩,hc,hg,ht,hn,hE,hQ⟩:=q;obtain⟨p,m,hp,hm,hs,hl,hd⟩:=j.handOf o1;unfold JM;walk_at"e";refine⟨dd,_,1,_,rfl,rfl,jE.of od,rfl,?_⟩;walk_at"e";refine⟨dd,_,3,_,rfl,rfl,jE.of od,rfl,?_⟩;walk_at"e";refine⟨dd,_,2,_,rfl,rfl,jE.of od,rfl,?_⟩;walk_at"e";refine⟨_,_,_,_,rfl,Tg,s,A,M,h,t,f,j,rfl,rfl,rfl,rfl,o2,λe=>?_,λi c e0 h0 ec hf=>?_,λi c pc e0 h0 ec hpc ce hf=>?_⟩
 ·rw[<- hE'];exact hE .empty (Ziw e) H (dF.refl _)
 ·rw[<- hF'];exact hE .pY (Znf e0 ec hf) H (dF.refl _)
 ·have hv:=eV hf;walk_at"e";refine jA (fj.of ce.o2) (nD (v:=oV (c.fl[f])) (by rw[fV,hv];rfl)) ?_;walk_at"e";refine⟨_,_,rfl,Tg,s,A,M,h,p,j,rfl,rfl,hp,?_⟩;walk_at"e";refine⟨dd,_,4,_,rfl,rfl,jE.of od,rfl,?_⟩;refine jA (fj.of hd.o2) (nD (v:=oV (dD M h sl)) (by rw[fV,hs];rfl)) ?_;walk_at"e";refine⟨pc.2,_,_,f,rfl,rfl,ce.o2,uP (by rw[dM];exact hf),?_⟩;obtain⟨st1,j1⟩:=j.field w s0 (k:=f) (x:=dD M h sl) hpc ce;have j1:WJ X _ Tg s A (setCell M i { c with fl:=c.fl.set f (dD M h sl) }):=j1;generalize upd H pc.2 (.lst ((c.fl.map oV).set f (oV (dD M h sl))))=H1 at st1 j1 ⊢;walk_at"e";refine⟨_,_,rfl,Tg,s,A,_,j1,rfl,ht,λl1 hl1=>?_⟩;rw[show old? (setCell M i { c with fl:=c.fl.set f (dD M h sl) })=old? M from rfl,Zmd];generalize zz:upd H1 l1 _=H2;obtain⟨s1,g1⟩:=nwO hl1 zz;walk_at"e";refine⟨_,_,_,rfl,Tg,s,A,_,h,j1.same s1,rfl,ht,rfl,λl2 hl2=>?_⟩;rw[show(sG (setCell M i { c with fl:=c.fl.set f (dD M h sl) }) && !gf (setCell M i { c with fl:=c.fl.set f (dD M h sl) }) h)=(sG M && !gf M h)from rfl,Zmd];generalize zz:upd H2 l2 _=H3;obtain⟨s2,g2⟩:=nwO hl2 zz;walk_at"e";refine⟨l1,l2,_,_,rfl,rfl,s2 _ _ g1,g2,?_,λl3 hl3=>?_⟩
  ·refine dR ?_;cases old? M<;>cases (sG M && !gf M h)<;>simp
  rw[<- List.map_append];generalize zz:upd H3 l3 _=H4;obtain⟨s3,g3⟩:=nwO hl3 zz;have g3:H4 l3=some (.lst ((putL M h sl c.fl[f]).map oV)):=g3;have s14:=s1.trans (s2.trans s3);walk_at"e";refine⟨_,_,rfl,putL M h sl c.fl[f],Tg,s,A,_,st1.wt.same s14,s0,j1.same s14,rfl,.inl ⟨g3,(st1.wt.same (s1.trans s2)) _ hl3⟩,?_,hg,λH5 T5 l5 st5 j5 g5 nl5=>?_⟩
  ·unfold putL;cases old? M<;>cases (sG M && !gf M h)<;>simp
  obtain⟨d1,ow⟩:=j5.jb.ow;walk_at"e";refine cV ow T.cW T.nWh fc ?_;walk_at"e";refine⟨_,_,rfl,c.fl[f],rfl,T5,s,A,_,j5,rfl,?_⟩;rw[zH,Lx (c':={ c with fl:=c.fl.set f (dD M h sl) }) ec rfl];walk_at"e";refine⟨dR (by simp),λa ha=>?_⟩;exact ev1 s0 ⟨pC.free st1 (s14.free nl5.1),nl5.2⟩ hQ (d:=.put h t f sl) (Zne e0 ec hv) (st1.trans ((pC.same st1.wt s14).trans st5)) j5 rfl g5 ha
theorem Zbe{wo dd:Addr}(T:Ab K X)(hE':rf .empty=CE)(q:CG X rf CQ wo dd H Q E):Bo K (lC X CE) E ⟨n,Q,bk,ct⟩ [some (.ref wo),some (.ref dd),none,none] H:=by
 obtain⟨Tg,s,A,M,_,⟨h,t,load,rfl⟩,w,s0,j,rfl,od,o1,hc,hg,ht,hn,hE,hQ⟩:=q;unfold Bo;walk_at"e";refine⟨dd,_,1,_,rfl,rfl,jE.of od,rfl,?_⟩;walk_at"e";refine⟨dd,_,2,_,rfl,rfl,jE.of od,rfl,?_⟩;walk_at"e";refine⟨_,_,_,rfl,Tg,s,A,M,h,t,j,rfl,rfl,rfl,o1,λe=>?_,λi c pc e0 h0 ec hpc ce=>?_⟩
 ·rw[<- hE'];exact hE .empty (Zbg e) H (dF.refl _)
 ·obtain⟨t1,t2,⟨dx,oo1⟩,oo2⟩:=id ce;walk_at"e";refine cV oo1 T.c.dB T.c.cJ DR ?_;walk_at"e";refine⟨dd,_,3,_,rfl,rfl,jE.of od,rfl,?_⟩;walk_at"e";refine⟨pc.1,X.C,dx,_,rfl,oo1,T.c.dB,T.c.cJ,by show 5<1000;decide,?_⟩;rw[RB];obtain⟨st1,j1⟩:=j.cell w s0 (dx:=dx) (tone:=c.tone) (load:=load) hpc ce;generalize upd H pc.1 (.ins X.C dx (pN c.birth c.bulk c.tone load pc.2))=H1 at st1 j1 ⊢;walk_at"e";refine⟨dR (by simp),λl hl=>⟨dR (by simp),λa ha=>?_⟩⟩;exact ev0 s0 hQ (d:=.write h t load) (Zf3 e0 ec) rfl st1 j1 rfl hl ha
theorem Zex{wo dd:Addr}(T:Ab K X)(hE':rf .empty=CE)(q:CG X rf KC wo dd H Q E):Es K (lC X CE) E ⟨n,Q,bk,ct⟩ [some (.ref wo),some (.ref dd),none] H:=by
 obtain⟨Tg,s,A,M,_,⟨h,t,rfl⟩,w,s0,j,rfl,od,o1,hc,hg,ht,hn,hE,hQ⟩:=q;unfold Es;walk_at"e";refine⟨dd,_,1,_,rfl,rfl,jE.of od,rfl,?_⟩;walk_at"e";refine⟨dd,_,2,_,rfl,rfl,jE.of od,rfl,?_⟩;walk_at"e";refine⟨_,_,_,rfl,Tg,s,A,M,h,t,j,rfl,rfl,rfl,o1,λe=>?_,λi c pc e0 h0 ec hpc ce=>?_⟩
 ·rw[<- hE'];exact hE .empty (Zf4 e) H (dF.refl _)
 ·obtain⟨t1,t2,⟨dx,oo1⟩,oo2⟩:=id ce;walk_at"e";refine cV oo1 T.c.dB T.c.cJ DR ?_;walk_at"e";refine⟨dR (by simp),λl hl=>⟨dR (by simp),λa ha=>?_⟩⟩;exact ev0 s0 hQ (d:=.read h t) (Ziv e0 ec) rfl (pC.refl w) j rfl hl ha
theorem Zey{wo dd:Addr}(T:Ab K X)(hE':rf .empty=CE)(q:CG X rf isName wo dd H Q E):Et K (lC X CE) (eF X) E ⟨n,Q,bk,ct⟩ [some (.ref wo),some (.ref dd),none,none,none] H:=by
 obtain⟨Tg,s,A,M,_,⟨h,t,z,rfl⟩,w,s0,j,rfl,od,o1,hc,hg,ht,hn,hE,hQ⟩:=q;obtain⟨p,m,hp,hm,hs,hl,hd⟩:=j.handOf o1;unfold Et;walk_at"e";refine⟨dd,_,1,_,rfl,rfl,jE.of od,rfl,?_⟩;walk_at"e";refine⟨dd,_,2,_,rfl,rfl,jE.of od,rfl,?_⟩;walk_at"e";refine⟨_,_,_,rfl,Tg,s,A,M,h,t,j,rfl,rfl,rfl,o1,λe=>?_,λi c pc e0 h0 ec hpc ce=>?_⟩
 ·rw[<- hE'];exact hE .empty (Zf5 e) H (dF.refl _)
 ·obtain⟨t1,t2,⟨dx,oo1⟩,oo2⟩:=id ce;walk_at"e";refine cV oo1 T.c.dB T.c.bJ oZ ?_;walk_at"e";refine⟨_,_,rfl,Tg,s,A,M,h,p,j,rfl,rfl,hp,?_⟩;walk_at"e";refine jA (fj.of hd.o2) (nD (v:=oV (dD M h t)) (by rw[fV,hs];rfl)) ?_;rw[e0];walk_at"e";refine⟨dR (by simp),λtp htp=>?_⟩;generalize zz:upd H tp _=H1;obtain⟨s1,g1⟩:=nwO htp zz;have g1:H1 tp=some (.tup [.int i,.int c.birth]):=g1;have j1:=j.same s1;have w1:=w.same s1;obtain⟨d1,ow⟩:=j1.jb.ow;walk_at"e";refine cV ow T.cW T.nWn nF ?_;walk_at"e";refine⟨dd,_,3,_,rfl,rfl,jE.of (s1 _ _ od),rfl,?_⟩;refine⟨_,_,rfl,Zwh j1.jn.om (by rw[Zsg j1.jn.nms];exact Nat.lt_of_le_of_lt hn (by decide)),?_⟩;obtain⟨ns',st2,j2⟩:=j1.named w1 s0 (z:=z) (v:=(i,c.birth)) (t:=tp) ⟨w _ htp,g1⟩;generalize upd H1 A.nm (.dK (putK (IK M.names A.ns) (Sum.inr z) (.ref tp)))=H2 at st2 j2 ⊢;walk_at"e";refine⟨dR (by simp),λl hl=>⟨dR (by simp),λa ha=>?_⟩⟩;exact ev0 s0 hQ (d:=.name h t z) (Zix e0 ec) rfl ((pC.same w s1).trans st2) j2 rfl hl ha
theorem Zew{wo dd:Addr}(T:Ab K X)(hN':rf .Fl=CN)(q:CG X rf Kz wo dd H Q E):Er K (fH X) (mO X) (tK X CN) (eF X) E ⟨n,Q,bk,ct⟩ [some (.ref wo),some (.ref dd),none,none] H:=by
 obtain⟨Tg,s,A,M,_,⟨h,sl,z,rfl⟩,w,s0,j,rfl,od,o1,hc,hg,ht,hn,hE,hQ⟩:=q;obtain⟨p,m,hp,hm,hs,hl,hd⟩:=j.handOf o1;unfold Er;walk_at"e";refine⟨dd,_,3,_,rfl,rfl,jE.of od,rfl,?_⟩;walk_at"e";refine⟨_,_,rfl,Tg,s,A,M,j,rfl,λe=>?_,λpl b e=>?_⟩
 ·rw[<- hN'];refine hE .Fl ?_ H (dF.refl _);show(match yu M.names z with | none=>_ | some (p,b)=>_)=_;rw[e]
 ·let x:Option Int:=if zZ M pl b=true then none else some pl
  have ex:(if zZ M pl b=true then V.non else .int pl)=oV x:=by
   show _=oV (if _ then _ else _);cases zZ M pl b<;>rfl
  rw[ex];have he:sS M (.seek h sl z)=.ok (⟨"sought",R0 M x,(gk (setSlot M h sl x) [x]).1⟩,(gk (setSlot M h sl x) [x]).2):=by
   show(match yu M.names z with | none=>_ | some (p,b)=>_)=_;rw[e];dsimp only;cases hgn:zZ M pl b with
   | true=>
    have:x=none:=by show(if _ then _ else _)=_;rw[hgn];rfl
    rw[this];rfl
   | false=>
    have hx:x=some pl:=by show(if _ then _ else _)=_;rw[hgn];rfl
    have:R0 M (some pl)=some b:=by
     unfold zZ at hgn;show(cellAt M pl).map _=_;cases hcc:cellAt M pl with
     | none=>rw[hcc]at hgn;cases hgn
     | some c=>
      rw[hcc]at hgn;dsimp only at hgn
      by_cases y:c.birth=b
      ·rw[<- y];rfl
      ·rw[if_neg y]at hgn;cases hgn
    rw[hx,this];rfl
  clear_value x;walk_at"e";refine⟨dd,_,1,_,rfl,rfl,jE.of od,rfl,?_⟩;walk_at"e";refine⟨_,_,rfl,Tg,s,A,M,h,p,j,rfl,rfl,hp,?_⟩;walk_at"e";refine⟨dd,_,2,_,rfl,rfl,jE.of od,rfl,?_⟩;refine⟨p.2,_,_,sl,rfl,rfl,hd.o2,uP (by rw[dM];exact hl),?_⟩;obtain⟨st1,j1⟩:=j.slot w s0 (k:=sl) (x:=x) hp hm;rw[rG hm]at j1;generalize upd H p.2 (.lst ((m.2.map oV).set sl (oV x)))=H1 at st1 j1 ⊢;walk_at"e";refine⟨dR (by simp),λl1 hl1=>?_⟩;generalize zz:upd H1 l1 _=H2;obtain⟨s1,g1⟩:=nwO hl1 zz;have g1:H2 l1=some (.lst ([x].map oV)):=g1;walk_at"e";refine⟨_,_,rfl,[x],Tg,s,A,_,st1.wt.same s1,s0,j1.same s1,rfl,.inl ⟨g1,st1.wt _ hl1⟩,by simp,hg,λH3 T3 l3 st3 j3 g3 nl3=>?_⟩;obtain⟨d1,ow⟩:=j3.jb.ow;walk_at"e";refine cV ow T.cW T.nWh fc ?_;walk_at"e";refine⟨_,_,rfl,x,rfl,T3,s,A,_,j3,rfl,?_⟩;rw[zH,qI];walk_at"e";refine⟨dR (by simp),λa ha=>?_⟩;exact ev1 s0 ⟨pC.free st1 (s1.free nl3.1),nl3.2⟩ hQ (d:=.seek h sl z) he (st1.trans ((pC.same st1.wt s1).trans st3)) j3 rfl g3 ha
end
section
variable {K:aV}{X:Cs}{H:Hp}{Q:VK}{E:XK}{n:St->Hp->Prop}{bk ct:St->Hp->Prop}{rf:Rf->Addr}{f1 f2 f3 f4 f5 f6 f7 f8 f9 f10:Addr}
theorem Zwi{wo dd:Addr}(T:Ab K X)(q:CG X rf (λ_=>True) wo dd H Q E):
  Zk8 K f1 f2 f3 f4 f5 f6 f7 f8 f9 f10 (eO X rf KR) (eO X rf KQ) (eO X rf Vx) (eO X rf KN) (eO X rf KD) (eO X rf isName) (eO X rf Vw) (eO X rf KC) (eO X rf Kz) (eO X rf CQ) E ⟨n,Q,bk,ct⟩ [some (.ref wo),some (.ref dd),none] H:=by
 obtain⟨Tg,s,A,M,d,_,w,s0,j,rfl,od,r⟩:=q;unfold Zk8;cases d with
 | make h s' many bulk=>
  walk_at"e";refine⟨dd,_,0,_,rfl,rfl,jE.of od,rfl,?_⟩;refine⟨_,f5,rfl,rfl,?_⟩;walk_at"e";refine tG (eO X rf KD) rfl (by simp) ?_;walk_at"e";exact⟨_,_,rfl,Tg,s,A,M,_,⟨_,_,_,_,rfl⟩,w,s0,j,rfl,od,r⟩
 | get h s' t f=>
  walk_at"e";refine⟨dd,_,0,_,rfl,rfl,jE.of od,rfl,?_⟩;refine⟨_,f3,rfl,rfl,?_⟩;walk_at"e";refine tG (eO X rf Vx) rfl (by simp) ?_;walk_at"e";exact⟨_,_,rfl,Tg,s,A,M,_,⟨_,_,_,_,rfl⟩,w,s0,j,rfl,od,r⟩
 | put h t f s'=>
  walk_at"e";refine⟨dd,_,0,_,rfl,rfl,jE.of od,rfl,?_⟩;refine⟨_,f7,rfl,rfl,?_⟩;walk_at"e";refine tG (eO X rf Vw) rfl (by simp) ?_;walk_at"e";exact⟨_,_,rfl,Tg,s,A,M,_,⟨_,_,_,_,rfl⟩,w,s0,j,rfl,od,r⟩
 | copy h s' t=>
  walk_at"e";refine⟨dd,_,0,_,rfl,rfl,jE.of od,rfl,?_⟩;refine⟨_,f1,rfl,rfl,?_⟩;walk_at"e";refine tG (eO X rf KR) rfl (by simp) ?_;walk_at"e";exact⟨_,_,rfl,Tg,s,A,M,_,⟨_,_,_,rfl⟩,w,s0,j,rfl,od,r⟩
 | drop h s'=>
  walk_at"e";refine⟨dd,_,0,_,rfl,rfl,jE.of od,rfl,?_⟩;refine⟨_,f2,rfl,rfl,?_⟩;walk_at"e";refine tG (eO X rf KQ) rfl (by simp) ?_;walk_at"e";exact⟨_,_,rfl,Tg,s,A,M,_,⟨_,_,rfl⟩,w,s0,j,rfl,od,r⟩
 | give h s' g t=>
  walk_at"e";refine⟨dd,_,0,_,rfl,rfl,jE.of od,rfl,?_⟩;refine⟨_,f4,rfl,rfl,?_⟩;walk_at"e";refine tG (eO X rf KN) rfl (by simp) ?_;walk_at"e";exact⟨_,_,rfl,Tg,s,A,M,_,⟨_,_,_,_,rfl⟩,w,s0,j,rfl,od,r⟩
 | write h t load=>
  walk_at"e";refine⟨dd,_,0,_,rfl,rfl,jE.of od,rfl,?_⟩;refine⟨_,f10,rfl,rfl,?_⟩;walk_at"e";refine tG (eO X rf CQ) rfl (by simp) ?_;walk_at"e";exact⟨_,_,rfl,Tg,s,A,M,_,⟨_,_,_,rfl⟩,w,s0,j,rfl,od,r⟩
 | read h t=>
  walk_at"e";refine⟨dd,_,0,_,rfl,rfl,jE.of od,rfl,?_⟩;refine⟨_,f8,rfl,rfl,?_⟩;walk_at"e";refine tG (eO X rf KC) rfl (by simp) ?_;walk_at"e";exact⟨_,_,rfl,Tg,s,A,M,_,⟨_,_,rfl⟩,w,s0,j,rfl,od,r⟩
 | name h t z=>
  walk_at"e";refine⟨dd,_,0,_,rfl,rfl,jE.of od,rfl,?_⟩;refine⟨_,f6,rfl,rfl,?_⟩;walk_at"e";refine tG (eO X rf isName) rfl (by simp) ?_;walk_at"e";exact⟨_,_,rfl,Tg,s,A,M,_,⟨_,_,_,rfl⟩,w,s0,j,rfl,od,r⟩
 | seek h s' z=>
  walk_at"e";refine⟨dd,_,0,_,rfl,rfl,jE.of od,rfl,?_⟩;refine⟨_,f9,rfl,rfl,?_⟩;walk_at"e";refine tG (eO X rf Kz) rfl (by simp) ?_;walk_at"e";exact⟨_,_,rfl,Tg,s,A,M,_,⟨_,_,_,rfl⟩,w,s0,j,rfl,od,r⟩
end
section
variable {K:aV}{X:Cs}{H:Hp}{Q:VK}{E:XK}{n:St->Hp->Prop}{bk ct:St->Hp->Prop}
end
def wY(CD:Addr):Sp:=λvs H Q E=>∃p nm many,vs=[.ref p,.str nm,.int many]/\∃dx,H p=some (.ins CD dx [])/\0<=many/\many<=1000/\
 ∀sa H',H sa=none->H' p=some (.ins CD dx (Wb nm sa))->H' sa=some (.lst (List.replicate many.toNat V.non))->(∀b o,H b=some o->b≠p->H' b=some o)->Q .non H'
def rC(CS:Addr):Sp:=λvs H Q E=>∃p,vs=[.ref p]/\∃dx,H p=some (.ins CS dx [])/\
 ∀gr H',H gr=none->H' p=some (.ins CS dx (yH 0 "rest" gr 0 0 0 0 0 0 0 .non))->H' gr=some (.lst [])->(∀b o,H b=some o->b≠p->H' b=some o)->Q .non H'
section
variable {K:aV}{X:Cs}{H:Hp}{Q:VK}{E:XK}{n:St->Hp->Prop}{bk ct:St->Hp->Prop}
theorem Lf{p:Addr}{nm:Str}{many:Int}(T:Ab K X)(q:∃dx,H p=some (.ins X.D dx [])/\0<=many/\many<=1000/\
 ∀sa H',H sa=none->H' p=some (.ins X.D dx (Wb nm sa))->H' sa=some (.lst (List.replicate many.toNat V.non))->(∀b o,H b=some o->b≠p->H' b=some o)->Q .non H'):
  rT K ⟨λ_ H'=>Q .non H',Q,bk,ct⟩ [some (.ref p),some (.str nm),some (.int many)] H:=by
 obtain⟨dx,hp,h0,h1,h⟩:=q;unfold rT;walk_at"e";refine⟨p,X.D,dx,[],rfl,hp,T.cD,T.nDn,by decide,?_⟩;walk_at"e";refine⟨by decide,λl0 hl0=>?_⟩;walk_at"e";refine⟨l0,many,_,rfl,rfl,aq,by omega,by omega,?_,λfa hfa=>?_⟩
 ·show 1 * many.toNat<=sizeLine;exact dR (by omega)
 have npl:p≠l0:=aM aq hl0;have npf:p≠fa:=aM (by rw[aU npl];exact aq) hfa;have Zw6:H fa=none:=by
  by_cases z:fa=l0
  ·rw[z,aq]at hfa;cases hfa
  ·rw[aU z,aU (λe=>npf e.symm)]at hfa;exact hfa
 have Zyl:H l0=none:=by rw[aU (λe=>npl e.symm)]at hl0;exact hl0
 walk_at"e";refine⟨p,X.D,dx,_,rfl,by rw[aU npf,aU npl];exact aq,T.cD,T.nDs,by show 1<1000;decide,?_⟩;refine h fa _ Zw6 ?_ ?_ λb o hb nb=>?_
 ·rw[aq,Zmv]
 ·rw[aU npf.symm,aq];congr 2;generalize many.toNat=k
  induction k with
  | zero=>rfl
  | succ k ih=>rw[List.replicate_succ,List.replicate_succ,List.flatten_cons,ih];rfl
 ·rw[aU nb,aU (aM hb Zw6),aU (aM hb Zyl),aU nb];exact hb
theorem Dn{p:Addr}(T:Ab K X)(q:∃dx,H p=some (.ins X.S dx [])/\
 ∀gr H',H gr=none->H' p=some (.ins X.S dx (yH 0 "rest" gr 0 0 0 0 0 0 0 .non))->H' gr=some (.lst [])->(∀b o,H b=some o->b≠p->H' b=some o)->Q .non H'):
  pP K ⟨λ_ H'=>Q .non H',Q,bk,ct⟩ [some (.ref p)] H:=by
 obtain⟨dx,hp,h⟩:=q;unfold pP;walk_at"e";refine⟨p,X.S,dx,[],rfl,hp,T.cS,T.n1,by decide,?_⟩;walk_at"e";refine⟨p,X.S,dx,_,rfl,aq,T.cS,T.n2,by show 1<1000;decide,?_⟩;rw[lO];walk_at"e";refine⟨by decide,λgr hgr=>?_⟩;have npg:p≠gr:=aM aq hgr;have Zw5:H gr=none:=by rw[aU npg.symm]at hgr;exact hgr
 walk_at"e";refine⟨p,X.S,dx,_,rfl,by rw[aU npg];exact aq,T.cS,T.n3,by show 2<1000;decide,?_⟩;walk_at"e";refine⟨p,X.S,dx,_,rfl,aq,T.cS,T.n4,by show 3<1000;decide,?_⟩;rw[lO];walk_at"e";refine⟨p,X.S,dx,_,rfl,aq,T.cS,T.n5,by show 4<1000;decide,?_⟩;rw[lO];walk_at"e";refine⟨p,X.S,dx,_,rfl,aq,T.cS,T.n6,by show 5<1000;decide,?_⟩;rw[lO];walk_at"e";refine⟨p,X.S,dx,_,rfl,aq,T.cS,T.n7,by show 6<1000;decide,?_⟩;rw[lO];walk_at"e";refine⟨p,X.S,dx,_,rfl,aq,T.cS,T.n8,by show 7<1000;decide,?_⟩;rw[lO];walk_at"e";refine⟨p,X.S,dx,_,rfl,aq,T.cS,T.n9,by show 8<1000;decide,?_⟩;rw[lO];walk_at"e";refine⟨p,X.S,dx,_,rfl,aq,T.cS,T.n10,by show 9<1000;decide,?_⟩;rw[lO];walk_at"e";refine⟨p,X.S,dx,_,rfl,aq,T.cS,T.n11,by show 10<1000;decide,?_⟩;rw[lO];refine h gr _ Zw5 ?_ ?_ λb o hb nb=>?_
 ·rw[aq,Zh0]
 ·rw[aU npg.symm,aq]
 ·rw[aU nb,aU (aM hb Zw5),aU nb];exact hb
end
def wd(w:Int):Str:=if w=0 then "first" else if w=1 then "each" else "last"
def tlS(t:Int):Str:=if t=0 then "" else if t=1 then " old" else if t=2 then " new" else " old new"
def words(w t:Int):Str:=wd w++tlS t
theorem Zgv{w t w' t':Int}(w0:0<=w)(w1:w<3)(t0:0<=t)(t1:t<4)(a0:0<=w')(a1:w'<3)(b0:0<=t')(b1:t'<4)(e:words w t=words w' t'):w=w'/\t=t':=by
 have key:∀a∈[(0:Int),1,2],∀b∈[(0:Int),1,2,3],∀a'∈[(0:Int),1,2],∀b'∈[(0:Int),1,2,3],words a b=words a' b'->a=a'/\b=b':=by decide +kernel
 exact key w (by simp;omega) t (by simp;omega) w' (by simp;omega) t' (by simp;omega) e
theorem Zje(w:Int):(wd w).length<=5:=by
 unfold wd
 by_cases h:w=0
 ·rw[if_pos h];decide
 ·rw[if_neg h]
  by_cases h:w=1
  ·rw[if_pos h];decide
  ·rw[if_neg h];decide
structure De(X:Cs)(H:Hp)(ki lk:Addr)(w t:Int):Prop where
 ok:∃dx,H ki=some (.ins X.K dx (Hs lk t))
 ol:∃dx,(w=0/\H lk=some (.ins X.F dx []))\/(w=1/\H lk=some (.ins X.E dx []))\/(w=2/\H lk=some (.ins X.L dx []))
theorem De.same{X:Cs}{H H':Hp}{ki lk:Addr}{w t:Int}(k:De X H ki lk w t)(s:dF H H'):De X H' ki lk w t:=by
 obtain⟨⟨d1,a⟩,⟨d2,b⟩⟩:=k;refine⟨⟨d1,s _ _ a⟩,⟨d2,?_⟩⟩;rcases b with ⟨z,e⟩ | ⟨z,e⟩ | ⟨z,e⟩
 ·exact .inl ⟨z,s _ _ e⟩
 ·exact .inr (.inl ⟨z,s _ _ e⟩)
 ·exact .inr (.inr ⟨z,s _ _ e⟩)
def Dc(X:Cs):Sp:=λvs H Q E=>∃z,vs=[.str z]/\∃w t,0<=w/\w<3/\0<=t/\t<4/\z=words w t/\∀ki lk H',dF H H'->H ki=none->H lk=none->De X H' ki lk w t->Q (.ref ki) H'
def uO(room:Int)(hands:List (Str×Int))(w t:Int):Wm:=⟨room,0,0,[],hands.map λm=>(m.1,List.replicate m.2.toNat none),[],w,t,⟨0,"rest",[],0,0,0,0,0,0,0,.non⟩⟩
def uQ(X:Cs):Sp:=λvs H Q E=>∃p room ki hl0,vs=[.ref p,.int room,.ref ki,.ref hl0]/\∃dx T s lk w t ts hands,H p=some (.ins X.W dx [])/\WT H T/\s≠0/\De X H ki lk w t/\T ki=(0,0)/\T lk=(0,0)/\ki≠p/\lk≠p/\H hl0=some (.lst (ts.map V.ref))/\
 Al (λ(t:Addr) (m:Str×Int)=>H t=some (.tup [.str m.1,.int m.2])/\0<=m.2/\m.2<=1000) ts hands/\hands.length<=30/\
 ∀H' T' A,(∀b o,H b=some o->b≠p->H' b=some o)->(∀b o,H b=some o->b≠p->T' b=T b)->WT H' T'->A.wo=p->WJ X H' T' s A (uO room hands w t)->Q .non H'
def wU(CK:Addr):Sp:=λvs H Q E=>∃p l t,vs=[.ref p,.ref l,.int t]/\∃dx,H p=some (.ins CK dx [])/\∀H',H' p=some (.ins CK dx (Hs l t))->(∀b o,H b=some o->b≠p->H' b=some o)->Q .non H'
def uD(v:V):Sp:=λvs H Q E=>∃a,vs=[.ref a]/\Q v H
def pK(X:Cs):Sp:=λvs H Q E=>∃ki,vs=[.ref ki]/\∃lk w t,De X H ki lk w t/\0<=t/\t<4/\∀H',dF H H'->Q (.str (words w t)) H'
section
variable {K:aV}{X:Cs}{H:Hp}{Q:VK}{E:XK}{n:St->Hp->Prop}{bk ct:St->Hp->Prop}
theorem Ux{a:Addr}(T:Ab K X)(q:Q (.str "first") H):xM ⟨n,Q,bk,ct⟩ [some (.ref a)] H:=by
 unfold xM;walk_at"e";exact q
theorem Zk{a:Addr}(T:Ab K X)(q:Q (.str "each") H):zx ⟨n,Q,bk,ct⟩ [some (.ref a)] H:=by
 unfold zx;walk_at"e";exact q
theorem Zc{a:Addr}(T:Ab K X)(q:Q (.str "last") H):zp ⟨n,Q,bk,ct⟩ [some (.ref a)] H:=by
 unfold zp;walk_at"e";exact q
theorem Ld{p l:Addr}{t:Int}(T:Ab K X)(q:∃dx,H p=some (.ins X.K dx [])/\∀H',H' p=some (.ins X.K dx (Hs l t))->(∀b o,H b=some o->b≠p->H' b=some o)->Q .non H'):
  rQ K ⟨λ_ H'=>Q .non H',Q,bk,ct⟩ [some (.ref p),some (.ref l),some (.int t)] H:=by
 obtain⟨dx,hp,h⟩:=q;unfold rQ;walk_at"e";refine⟨p,X.K,dx,[],rfl,hp,T.cK,T.nKl,by decide,?_⟩;walk_at"e";refine⟨p,X.K,dx,_,rfl,aq,T.cK,T.nKt,by show 1<1000;decide,?_⟩;rw[lO];refine h _ ?_ λb o hb nb=>?_
 ·rw[aq,Zm7]
 ·rw[aU nb];exact hb
theorem w0{w:Int}(hw:w=0\/w=1\/w=2):words w 0=wd w:=by rcases hw with rfl | rfl | rfl<;>decide +kernel
theorem w3{w:Int}(hw:w=0\/w=1\/w=2):words w 3=(wd w++" old")++" new":=by rcases hw with rfl | rfl | rfl<;>decide +kernel
theorem w3l{w:Int}(hw:w=0\/w=1\/w=2):(wd w++" old":Str).length<=20:=by rcases hw with rfl | rfl | rfl<;>decide +kernel
theorem Ph{p lk:Addr}{dx:Addr}{w t:Int}(hw:w=0\/w=1\/w=2)(T:Ab K X)(hp:H p=some (.ins X.K dx (Hs lk t)))(t0:0<=t)(t1:t<4)(q:Q (.str (words w t)) H):
  (di (iW (fD (dG (Ly) (dG (qt λi j=>.int (Builtin.bitAnd i j)) (eU K (ak 0) "tells") (tC (.int 1))) (tC (.int 0)))) (eE (dG (G.uI) (ak 1) (tC (.str " old"))) (cX 1)) fK)
   (di (iW (fD (dG (Ly) (dG (qt λi j=>.int (Builtin.bitAnd i j)) (eU K (ak 0) "tells") (tC (.int 2))) (tC (.int 0)))) (eE (dG (G.uI) (ak 1) (tC (.str " new"))) (cX 1)) fK)
   (eG (ak 1)))) ⟨n,Q,bk,ct⟩ [some (.ref p),some (.str (wd w))] H:=by
 have lw:=Zje w;have ht:t=0\/t=1\/t=2\/t=3:=by omega
 walk_at"e";refine cV hp T.cK T.nKt lK ?_;walk_at"e";rcases ht with rfl | rfl | rfl | rfl
 ·refine sO (λz=>absurd (by decide) z) (λ_=>?_);walk_at"e";refine cV hp T.cK T.nKt lK ?_;walk_at"e";refine sO (λz=>absurd (by decide) z) (λ_=>?_);walk_at"e";rw[w0 hw]at q;exact q
 ·refine sO (λ_=>?_) (λz=>absurd z (by decide));walk_at"e";refine mJ (dR (by have:(" old":Str).length=4:=rfl;omega)) ?_;walk_at"e";refine cV hp T.cK T.nKt lK ?_;walk_at"e";refine sO (λz=>absurd (by decide) z) (λ_=>?_);walk_at"e";exact q
 ·refine sO (λz=>absurd (by decide) z) (λ_=>?_);walk_at"e";refine cV hp T.cK T.nKt lK ?_;walk_at"e";refine sO (λ_=>?_) (λz=>absurd z (by decide));walk_at"e";refine mJ (dR (by have:(" new":Str).length=4:=rfl;omega)) ?_;walk_at"e";exact q
 ·refine sO (λ_=>?_) (λz=>absurd z (by decide));walk_at"e";refine mJ (dR (by have:(" old":Str).length=4:=rfl;omega)) ?_;walk_at"e";refine cV hp T.cK T.nKt lK ?_;walk_at"e";refine sO (λ_=>?_) (λz=>absurd z (by decide));walk_at"e";refine mJ (dR (by have:(" new":Str).length=4:=rfl;have:=w3l hw;omega)) ?_;walk_at"e";rw[w3 hw]at q;exact q
theorem Uu{p:Addr}(T:Ab K X)(q:∃lk w t,De X H p lk w t/\0<=t/\t<4/\∀H',dF H H'->Q (.str (words w t)) H'):
  xK K X.E X.F X.L (uD (.str "each")) (uD (.str "first")) (uD (.str "last")) ⟨n,Q,bk,ct⟩ [some (.ref p),none] H:=by
 obtain⟨lk,w,t,⟨⟨dx,hp⟩,⟨dl,ol⟩⟩,t0,t1,h⟩:=q;have h:=h H (dF.refl _);unfold xK;refine Zmf ?_;walk_at"s";rcases ol with ⟨rfl,o⟩ | ⟨rfl,o⟩ | ⟨rfl,o⟩
 ·refine Zre ?_;walk_at"e";refine cV hp T.cK T.nKl sJ ?_;walk_at"s";refine⟨lk,dl,_,rfl,o,rfl,?_⟩;walk_at"s";refine⟨lk,rfl,?_⟩;walk_at"s";exact Ph (w:=0) (by decide) T hp t0 t1 h
 ·refine Zmg (Zre ?_);walk_at"e";refine cV hp T.cK T.nKl sJ ?_;walk_at"s";refine⟨lk,dl,_,rfl,o,rfl,?_⟩;walk_at"s";refine⟨lk,rfl,?_⟩;walk_at"s";exact Ph (w:=1) (by decide) T hp t0 t1 h
 ·refine Zmg (Zmg ?_);walk_at"e";refine cV hp T.cK T.nKl sJ ?_;walk_at"s";refine⟨lk,dl,_,rfl,o,rfl,?_⟩;walk_at"s";refine⟨lk,rfl,?_⟩;walk_at"s";exact Ph (w:=2) (by decide) T hp t0 t1 h
theorem Ze6{z:Str}(T:Ab K X)(q:∃w t,0<=w/\w<3/\0<=t/\t<4/\z=words w t/\∀ki lk H',dF H H'->H ki=none->H lk=none->De X H' ki lk w t->Q (.ref ki) H'):
  Eo K X.E X.F X.K X.L (wU X.K) (pK X) ⟨n,Q,bk,ct⟩ [some (.str z),none,none,none] H:=by
 obtain⟨wq,tq,wq0,wq1,tq0,tq1,ez,hq⟩:=q;unfold Eo;walk_at"e";intro af df n1 m1 e1;have s1:dF H (upd (upd H df (.own af)) af (.ins X.F df [])):=λb o hb=>by rw[aU (aM hb n1),aU (aM hb m1)];exact hb
 have o1:upd (upd H df (.own af)) af (.ins X.F df []) af=some (.ins X.F df []):=aq;generalize upd (upd H df (.own af)) af (.ins X.F df [])=H1 at s1 o1 ⊢;walk_at"e";intro ae de n2 m2 e2;have s2:dF H1 (upd (upd H1 de (.own ae)) ae (.ins X.E de [])):=λb o hb=>by rw[aU (aM hb n2),aU (aM hb m2)];exact hb
 have o2:upd (upd H1 de (.own ae)) ae (.ins X.E de []) ae=some (.ins X.E de []):=aq;generalize upd (upd H1 de (.own ae)) ae (.ins X.E de [])=H2 at s2 o2 ⊢;walk_at"e";intro al dl n3 m3 e3;have s3:dF H2 (upd (upd H2 dl (.own al)) al (.ins X.L dl [])):=λb o hb=>by rw[aU (aM hb n3),aU (aM hb m3)];exact hb
 have o3:upd (upd H2 dl (.own al)) al (.ins X.L dl []) al=some (.ins X.L dl []):=aq;generalize upd (upd H2 dl (.own al)) al (.ins X.L dl [])=H3 at s3 o3 ⊢;walk_at"e";refine⟨dR (by simp),λlp hlp=>?_⟩;generalize zz:upd H3 lp _=H4;obtain⟨s4,g4⟩:=nwO hlp zz;have of4:=s4 _ _ (s3 _ _ (s2 _ _ o1));have oe4:=s4 _ _ (s3 _ _ o2);have ol4:=s4 _ _ o3;have s04:=s1.trans (s2.trans (s3.trans s4));have lko:∀{i:Nat}{x:V},([.ref af,.ref ae,.ref al]:List V)[i]? =some x->i<3/\∃lk,x=.ref lk/\H lk=none/\∃dx,((i:Int)=0/\H4 lk=some (.ins X.F dx []))\/((i:Int)=1/\H4 lk=some (.ins X.E dx []))\/((i:Int)=2/\H4 lk=some (.ins X.L dx [])):=by
  intro i x hx
  match i,hx with
  | 0,hx=>cases hx;exact⟨by omega,af,rfl,n1,df,.inl ⟨rfl,of4⟩⟩
  | 1,hx=>cases hx;exact⟨by omega,ae,rfl,s1.free n2,de,.inr (.inl ⟨rfl,oe4⟩)⟩
  | 2,hx=>cases hx;exact⟨by omega,al,rfl,(s1.trans s2).free n3,dl,.inr (.inr ⟨rfl,ol4⟩)⟩
  | k+3,hx=>cases hx
 clear s1 s2 s3 s4 of4 oe4 ol4;refine⟨lp,rfl,⟨_,fj.of g4⟩,forL [.ref af,.ref ae,.ref al] (λi σ Hx=>∃v1 v2 v3,σ=[some (.str z),v1,v2,v3]/\dF H4 Hx/\∀(w:Nat) (t:Int),w<i->0<=t->t<4->z≠words w t) ⟨_,_,_,rfl,dF.refl _,λw t hw=>absurd hw (Nat.not_lt_zero _)⟩ (λ_ _ _ _ ⟨_,_,_,_,s,_⟩=>fj.of (s _ _ g4)) ?_ ?_⟩
 ·rintro i x σ H5 hi ⟨v1,v2,v3,rfl,s5,hn⟩;obtain⟨hi3,lk,rfl,nlk,dlk,ol⟩:=lko hi;walk_at"e";refine⟨4,rfl,by omega,by omega,?_⟩;refine forR (λk σ Hx=>∃v2 v3,σ=[some (.str z),some (.ref lk),v2,v3]/\dF H4 Hx/\∀(t:Int),0<=t->t<k->z≠words i t) ⟨_,_,rfl,s5,λt h0 h1=>absurd h1 (by omega)⟩ ?_ ?_
  ·rintro k σ H6 hk ⟨v2,v3,rfl,s6,hn2⟩;have hk4:k<4:=hk;have e0:(0:Int)+(k:Int)=k:=by omega
   rw[e0];walk_at"e";intro p dx np ndx ned;refine⟨p,lk,k,rfl,dx,aq,λH7 k1 k2=>⟨rfl,?_⟩⟩;have s7:dF H6 H7:=λb o hb=>by
    refine k2 b o ?_ (aM hb np);rw[aU (aM hb np),aU (aM hb ndx)];exact hb
   have kd:De X H7 p lk i k:=⟨⟨dx,k1⟩,⟨dlk,by
    rcases ol with ⟨e,o⟩ | ⟨e,o⟩ | ⟨e,o⟩
    ·exact .inl ⟨e,s7 _ _ (s6 _ _ o)⟩
    ·exact .inr (.inl ⟨e,s7 _ _ (s6 _ _ o)⟩)
    ·exact .inr (.inr ⟨e,s7 _ _ (s6 _ _ o)⟩)⟩⟩
   walk_at"e";refine⟨p,dx,_,rfl,k1,qY,?_⟩;walk_at"e";refine⟨p,rfl,lk,i,k,kd,by omega,by omega,λH8 s8=>?_⟩;walk_at"e";refine DP (λe=>?_) (λe=>?_)
   ·walk_at"e";obtain⟨rfl,rfl⟩:=Zgv wq0 wq1 tq0 tq1 (by omega) (by omega) (by omega) (by omega) (ez.symm.trans e.symm);refine hq p lk _ (s04.trans (s6.trans (s7.trans s8))) ((s04.trans s6).free np) nlk ⟨⟨dx,s8 _ _ k1⟩,?_⟩;obtain⟨_,⟨d,od⟩⟩:=kd;refine⟨d,?_⟩;rcases od with ⟨e,o⟩ | ⟨e,o⟩ | ⟨e,o⟩
    ·exact .inl ⟨e,s8 _ _ o⟩
    ·exact .inr (.inl ⟨e,s8 _ _ o⟩)
    ·exact .inr (.inr ⟨e,s8 _ _ o⟩)
   ·walk_at"e";refine⟨_,_,rfl,s6.trans (s7.trans s8),λt t0 t1=>?_⟩
    by_cases ht:t=k
    ·rw[ht];exact λw=>e w.symm
    ·exact hn2 t t0 (by omega)
  ·rintro σ H3 ⟨v2,v3,rfl,s3,hn2⟩;refine⟨_,_,_,rfl,s3,λw t hw t0 t1=>?_⟩
   by_cases hwi:w=i
   ·rw[hwi];exact hn2 t t0 t1
   ·exact hn w t (by omega) t0 t1
 ·rintro σ H2 ⟨v1,v2,v3,rfl,s2,hn⟩
  exfalso
  have:=hn wq.toNat tq (by show wq.toNat<3;omega) tq0 tq1;have e:((wq.toNat:Nat):Int)=wq:=by omega
  rw[e]at this;exact this ez
end
structure Ex(p:Addr)(H H':Hp)(T T':Tg):Prop where
 kp:∀b o,H b=some o->b≠p->H' b=some o
 al:∀b o,H b=some o->∃o',H' b=some o'
 tg:∀b o,H b=some o->T' b=T b
 wt:WT H' T'
section
variable {p:Addr}{H H1 H2 H':Hp}{T T1 T2 T':Tg}
theorem Ex.trans(a:Ex p H H1 T T1)(b:Ex p H1 H2 T1 T2):Ex p H H2 T T2 where
 kp:=λx o h n=>b.kp x o (a.kp x o h n) n
 al:=λx o h=>by obtain⟨o1,h1⟩:=a.al x o h;exact b.al x o1 h1
 tg:=λx o h=>by obtain⟨o1,h1⟩:=a.al x o h;rw[b.tg x o1 h1,a.tg x o h]
 wt:=b.wt
theorem Zuq(w:WT H T)(al:∀b o,H b=some o->∃o',H' b=some o'):WT H' T:=λb h=>w b (by
 cases z:H b with
 | none=>rfl
 | some o=>obtain⟨o',e⟩:=al b o z;rw[h]at e;cases e)
theorem Zjb{a:Addr}{o:HO}{v:Nat×Nat}(w:WT H T)(h:H a=some o):WT H (mV T a v):=λb hb=>by
 rw[m9 (λe=>by rw[e,h]at hb;cases hb)];exact w b hb
theorem Ex.Zjg{o o0:HO}(w:WT H T)(h:H p=some o0):Ex p H (upd H p o) T T where
 kp:=λx u hx n=>by rw[aU n];exact hx
 al:=λx u hx=>by
  by_cases e:x=p
  ·exact⟨o,by rw[e,aq]⟩
  ·exact⟨u,by rw[aU e];exact hx⟩
 tg:=λ_ _ _=>rfl
 wt:=Zuq w λx u hx=>by
  by_cases e:x=p
  ·exact⟨o,by rw[e,aq]⟩
  ·exact⟨u,by rw[aU e];exact hx⟩
theorem Ex.news{vs:List (Addr×(Nat×Nat))}(w:WT H T)(s:dF H H')(hn:∀v∈vs,H v.1=none/\∃o,H' v.1=some o):Ex p H H' T (vs.foldr (λv t=>mV t v.1 v.2) T):=by
 have tg:∀b o,H b=some o->(vs.foldr (λv t=>mV t v.1 v.2) T) b=T b:=by
  intro b o hb
  induction vs with
  | nil=>rfl
  | cons v vs ih=>
   show mV _ v.1 v.2 b=_;rw[m9 (aM hb (hn v List.mem_cons_self).1)];exact ih λu hu=>hn u (List.mem_cons_of_mem _ hu)
 refine⟨λb o hb _=>s _ _ hb,λb o hb=>⟨o,s _ _ hb⟩,tg,?_⟩;clear tg
 induction vs with
 | nil=>exact w.same s
 | cons v vs ih=>
  obtain⟨o,ho⟩:=(hn v List.mem_cons_self).2;exact Zjb (ih λu hu=>hn u (List.mem_cons_of_mem _ hu)) ho
end
section
variable {K:aV}{X:Cs}{H:Hp}{Q:VK}{E:XK}{n:St->Hp->Prop}{bk ct:St->Hp->Prop}
theorem Ik{p ki hl0:Addr}{room:Int}(T:Ab K X)(q:∃dx T s lk w t,∃ts:List Addr,∃hands,H p=some (.ins X.W dx [])/\WT H T/\s≠0/\De X H ki lk w t/\T ki=(0,0)/\T lk=(0,0)/\ki≠p/\lk≠p/\H hl0=some (.lst (ts.map V.ref))/\
 Al (λ(t:Addr) (m:Str×Int)=>H t=some (.tup [.str m.1,.int m.2])/\0<=m.2/\m.2<=1000) ts hands/\hands.length<=30/\
 ∀H' T' A,(∀b o,H b=some o->b≠p->H' b=some o)->(∀b o,H b=some o->b≠p->T' b=T b)->WT H' T'->A.wo=p->WJ X H' T' s A (uO room hands w t)->Q .non H'):
  qP K X.D X.H X.S (wY X.D) (wW X.H) (rC X.S) ⟨λ_ H'=>Q .non H',Q,bk,ct⟩ [some (.ref p),some (.int room),some (.ref ki),some (.ref hl0)] H:=by
 obtain⟨dx,T0,s,lk,w,t,ts,hands,hp,wt0,s0,kd,tki,tlk,nki,nlk,oh0,al,hn,hQ⟩:=q;have x0:WT H (mV T0 p (s,0)):=Zjb wt0 hp;have tp:mV T0 p (s,0) p=(s,0):=lX;have to0:∀b o,H b=some o->b≠p->mV T0 p (s,0) b=T0 b:=λb _ _ hb=>m9 hb;generalize hT:mV T0 p (s,0)=Ta at x0 tp to0;unfold qP;walk_at"e";intro hq dh nh ndh neh;refine⟨hq,room,rfl,dh,aq,λca H1 nca a1 a2 k1=>⟨rfl,?_⟩⟩;have Zsm:H ca=none:=by
  by_cases z:ca=hq
  ·rw[z,aq]at nca;cases nca
  ·rw[aU z]at nca
   by_cases y:ca=dh
   ·rw[y,aq]at nca;cases nca
   ·rw[aU y]at nca;exact nca
 have sm1:dF H H1:=λb o hb=>k1 b o (by rw[aU (aM hb nh),aU (aM hb ndh)];exact hb) (aM hb nh);have e1:Ex p H H1 Ta _:=Ex.news (vs:=[(hq,(s,1)),(ca,(s,2))]) x0 sm1 (by
  intro v hv;simp only[List.mem_cons,List.not_mem_nil,or_false]at hv;rcases hv with rfl | rfl
  ·exact⟨nh,_,a1⟩
  ·exact⟨Zsm,_,a2⟩)
 have nhc:hq≠ca:=QV a1 a2 (λz=>by cases z);have th1:([(hq,(s,1)),(ca,(s,2))].foldr (λv t=>mV t v.1 v.2) Ta) hq=(s,1):=lX;have tc1:([(hq,(s,1)),(ca,(s,2))].foldr (λv t=>mV t v.1 v.2) Ta) ca=(s,2):=(m9 nhc.symm).trans lX;generalize ([(hq,(s,1)),(ca,(s,2))]:List (Addr×(Nat×Nat))).foldr (λv t=>mV t v.1 v.2) Ta=Tb at e1 th1 tc1;have hp1:=sm1 _ _ hp;have nph:hq≠p:=λz=>by rw[z,hp]at nh;cases nh
 have npc:ca≠p:=λz=>by rw[z,hp]at Zsm;cases Zsm
 clear k1 nca;walk_at"e";refine⟨p,X.W,dx,[],rfl,hp1,T.cW,T.nWh,by decide,?_⟩;have e2:=e1.trans (Ex.Zjg (o:=.ins X.W dx (fu "heap" (.ref hq) [])) e1.wt hp1);have g2:upd H1 p (.ins X.W dx (fu "heap" (.ref hq) [])) p=some (.ins X.W dx (fu "heap" (.ref hq) [])):=aq;have a1:=(aU (o:=.ins X.W dx (fu "heap" (.ref hq) [])) nph).trans a1;have a2:=(aU (o:=.ins X.W dx (fu "heap" (.ref hq) [])) npc).trans a2;generalize upd H1 p (.ins X.W dx (fu "heap" (.ref hq) []))=H2 at e2 g2 a1 a2 ⊢;walk_at"e";refine⟨p,X.W,dx,_,rfl,g2,T.cW,T.nWk,by show 1<1000;decide,?_⟩;have e3:=e2.trans (Ex.Zjg (o:=.ins X.W dx (fu "kind" (.ref ki) (fu "heap" (.ref hq) []))) e2.wt g2);have g3:upd H2 p (.ins X.W dx (fu "kind" (.ref ki) (fu "heap" (.ref hq) []))) p=some (.ins X.W dx (fu "kind" (.ref ki) (fu "heap" (.ref hq) []))):=aq;have a1:=(aU (o:=.ins X.W dx (fu "kind" (.ref ki) (fu "heap" (.ref hq) []))) nph).trans a1;have a2:=(aU (o:=.ins X.W dx (fu "kind" (.ref ki) (fu "heap" (.ref hq) []))) npc).trans a2;generalize upd H2 p (.ins X.W dx (fu "kind" (.ref ki) (fu "heap" (.ref hq) [])))=H3 at e3 g3 a1 a2 ⊢;generalize hF3:(fu "kind" (.ref ki) (fu "heap" (.ref hq) []))=F3 at g3 ⊢;have lF3:F3.length=2:=by rw[<- hF3];rfl
 have oh3:H3 hl0=some (.lst (ts.map V.ref)):=e3.kp _ _ oh0 (λz=>by rw[z,hp]at oh0;cases oh0);have ltl:ts.length=hands.length:=al.length;have Zww:∀(i:Nat) a,ts[i]? =some a->∃m,hands[i]? =some m/\H3 a=some (.tup [.str m.1,.int m.2])/\0<=m.2/\m.2<=1000:=λi a ha=>by
  have hl:i<hands.length:=by rw[<- ltl];exact(gG ha).1
  obtain⟨a',ha',z1,z2,z3⟩:=al.get (eV hl);rw[ha]at ha';cases ha';exact⟨_,eV hl,e3.kp _ _ z1 (λz=>by rw[z,hp]at z1;cases z1),z2,z3⟩
 have lo:=e3.wt;walk_at"e";refine⟨_,rfl,⟨_,fj.of oh3⟩,Ox ?_⟩;refine⟨λi m ys Hx=>i<=ts.length/\m=ts.length - i/\∃(hs:List (Addr×Addr)) (Tx:Tg),ys=hs.map (λq=>V.ref q.1)/\hs.length=i/\dF H3 Hx/\Ex p H3 Hx Tb Tx/\∀(j:Nat) q m,hs[j]? =some q->hands[j]? =some m->HdO X.D Hx Tx s j q (m.1,List.replicate m.2.toNat none)/\q.1≠p/\q.2≠p,
  ⟨ts.length,Nat.zero_le _,rfl,[],Tb,rfl,rfl,dF.refl _,⟨λ_ _ h _=>h,λ_ o h=>⟨o,h⟩,λ_ _ _=>rfl,lo⟩,λj q m e=>by simp at e⟩,?_⟩
 rintro i m ys Hx ⟨hi,rfl,hs,Tx,rfl,hl,sx,ex,hds⟩
 by_cases hk:i=ts.length
 ·refine .inl ⟨⟨_,fj.of (sx _ _ oh3),by rw[dM];omega⟩,λhla nhl=>?_⟩;have ZG5:H3 hla=none:=sx.free nhl;have s4:=bY nhl (.lst (hs.map λq=>V.ref q.1));have e4:Ex p Hx _ Tx _:=Ex.news (p:=p) (vs:=[(hla,(s,5))]) ex.wt s4 (by
   intro v hv;rw[List.mem_singleton.mp hv];exact⟨nhl,_,aq⟩)
  have t4:([(hla,(s,5))].foldr (λv t=>mV t v.1 v.2) Tx) hla=(s,5):=lX;have o4:upd Hx hla (.lst (hs.map λq=>V.ref q.1)) hla=some (.lst (hs.map λq=>V.ref q.1)):=aq;have hpx:=sx _ _ g3;have nhp:hla≠p:=λz=>by rw[z,hpx]at nhl;cases nhl
  have hp4:=s4 _ _ hpx;generalize upd Hx hla (.lst (hs.map λq=>V.ref q.1))=H4 at s4 e4 o4 hp4 ⊢;generalize ([(hla,(s,5))]:List (Addr×(Nat×Nat))).foldr (λv t=>mV t v.1 v.2) Tx=T4 at e4 t4;walk_at"e";refine⟨p,X.W,dx,_,rfl,hp4,T.cW,T.nWd,by rw[lF3];decide,?_⟩;have e5:=Ex.Zjg (p:=p) (o:=.ins X.W dx (fu "hands" (.ref hla) F3)) e4.wt hp4;have hp5:upd H4 p (.ins X.W dx (fu "hands" (.ref hla) F3)) p=some (.ins X.W dx (fu "hands" (.ref hla) F3)):=aq;generalize upd H4 p (.ins X.W dx (fu "hands" (.ref hla) F3))=H5 at e5 hp5 ⊢;walk_at"e";intro nm hnm;have nnp:nm≠p:=λz=>by rw[z,hp5]at hnm;cases hnm
  have s6:=bY hnm (.dK []);have e6:Ex p H5 _ T4 _:=Ex.news (p:=p) (vs:=[(nm,(s,6))]) e5.wt s6 (by
   intro v hv;rw[List.mem_singleton.mp hv];exact⟨hnm,_,aq⟩)
  have t6:([(nm,(s,6))].foldr (λv t=>mV t v.1 v.2) T4) nm=(s,6):=lX;have o6:upd H5 nm (.dK []) nm=some (.dK []):=aq;have hp6:=s6 _ _ hp5;generalize upd H5 nm (.dK [])=H6 at s6 e6 o6 hp6 ⊢;generalize ([(nm,(s,6))]:List (Addr×(Nat×Nat))).foldr (λv t=>mV t v.1 v.2) T4=T6 at e6 t6;walk_at"e";refine⟨p,X.W,dx,_,rfl,hp6,T.cW,T.nWn,by rw[<- hF3];show 3<1000;decide,?_⟩;have e7:=Ex.Zjg (p:=p) (o:=.ins X.W dx (fu "names" (.ref nm) (fu "hands" (.ref hla) F3))) e6.wt hp6;have hp7:upd H6 p (.ins X.W dx (fu "names" (.ref nm) (fu "hands" (.ref hla) F3))) p=some (.ins X.W dx (fu "names" (.ref nm) (fu "hands" (.ref hla) F3))):=aq;generalize upd H6 p (.ins X.W dx (fu "names" (.ref nm) (fu "hands" (.ref hla) F3)))=H7 at e7 hp7 ⊢;walk_at"e";intro sw ds nsw nds nes;refine⟨sw,rfl,ds,aq,λgr H8 ngr b1 b2 k8=>⟨rfl,?_⟩⟩;have Zsj:H7 gr=none:=by
   by_cases z:gr=sw
   ·rw[z,aq]at ngr;cases ngr
   ·rw[aU z]at ngr
    by_cases y:gr=ds
    ·rw[y,aq]at ngr;cases ngr
    ·rw[aU y]at ngr;exact ngr
  have s8:dF H7 H8:=λb o hb=>k8 b o (by rw[aU (aM hb nsw),aU (aM hb nds)];exact hb) (aM hb nsw);have e8:Ex p H7 H8 T6 _:=Ex.news (p:=p) (vs:=[(sw,(s,7)),(gr,(s,8))]) e7.wt s8 (by
   intro v hv;simp only[List.mem_cons,List.not_mem_nil,or_false]at hv;rcases hv with rfl | rfl
   ·exact⟨nsw,_,b1⟩
   ·exact⟨Zsj,_,b2⟩)
  have nsg:sw≠gr:=QV b1 b2 (λz=>by cases z);have ts8:([(sw,(s,7)),(gr,(s,8))].foldr (λv t=>mV t v.1 v.2) T6) sw=(s,7):=lX;have tg8:([(sw,(s,7)),(gr,(s,8))].foldr (λv t=>mV t v.1 v.2) T6) gr=(s,8):=(m9 nsg.symm).trans lX;generalize ([(sw,(s,7)),(gr,(s,8))]:List (Addr×(Nat×Nat))).foldr (λv t=>mV t v.1 v.2) T6=T8 at e8 ts8 tg8;have hp8:=s8 _ _ hp7;have nsp:sw≠p:=λz=>by rw[z,hp7]at nsw;cases nsw
  have ngp:gr≠p:=λz=>by rw[z,hp7]at Zsj;cases Zsj
  clear k8 ngr;walk_at"e";refine⟨p,X.W,dx,_,rfl,hp8,T.cW,T.nWs,by rw[<- hF3];show 4<1000;decide,?_⟩;have e9:=Ex.Zjg (p:=p) (o:=.ins X.W dx (fu "sweeper" (.ref sw) (fu "names" (.ref nm) (fu "hands" (.ref hla) F3)))) e8.wt hp8;have hp9:upd H8 p (.ins X.W dx (fu "sweeper" (.ref sw) (fu "names" (.ref nm) (fu "hands" (.ref hla) F3)))) p=some (.ins X.W dx (An hq ki hla nm sw)):=by
   rw[aq,<- hF3,Zgu]
  generalize upd H8 p (.ins X.W dx (fu "sweeper" (.ref sw) (fu "names" (.ref nm) (fu "hands" (.ref hla) F3))))=H9 at e9 hp9 ⊢;have f89:=e9;have f69:=e7.trans (e8.trans e9);have f49:=e5.trans (e6.trans f69);have fx9:=e4.trans f49;have f39:=ex.trans fx9;have f09:=e3.trans f39;obtain⟨⟨dk,ok⟩,⟨dl,ol⟩⟩:=kd;have hlk:∃o,H lk=some o:=by
   rcases ol with ⟨_,z⟩ | ⟨_,z⟩ | ⟨_,z⟩
   ·exact⟨_,z⟩
   ·exact⟨_,z⟩
   ·exact⟨_,z⟩
  obtain⟨olk,elk⟩:=hlk;refine hQ H9 T8 ⟨p,hq,ca,ki,lk,hla,nm,sw,gr,hs,[],[]⟩ f09.kp (λb o hb nb=>(f09.tg b o hb).trans (to0 b o hb nb)) f09.wt rfl ⟨⟨(f09.tg _ _ hp).trans tp,(f09.tg _ _ ok).trans ((to0 _ _ ok nki).trans tki),(f09.tg _ _ elk).trans ((to0 _ _ elk nlk).trans tlk),(f49.tg _ _ o4).trans t4,⟨dx,hp9⟩,⟨dk,f09.kp _ _ ok nki⟩,⟨dl,?_⟩,f49.kp _ _ o4 nhp⟩,
   ⟨(f39.tg _ _ a1).trans th1,(f39.tg _ _ a2).trans tc1,⟨dh,f39.kp _ _ a1 nph⟩,f39.kp _ _ a2 npc⟩,⟨(f69.tg _ _ o6).trans t6,f69.kp _ _ o6 nnp,.nil⟩,
   ⟨(f89.tg _ _ b1).trans ts8,(f89.tg _ _ b2).trans tg8,⟨ds,f89.kp _ _ b1 nsp⟩,f89.kp _ _ b2 ngp⟩,⟨?_,by show hs.length<=30;rw[hl,hk,ltl];exact hn,?_⟩,⟨rfl,λi q c z=>by simp at z⟩⟩
  ·rcases ol with ⟨z,y⟩ | ⟨z,y⟩ | ⟨z,y⟩
   ·exact .inl ⟨z,f09.kp _ _ y nlk⟩
   ·exact .inr (.inl ⟨z,f09.kp _ _ y nlk⟩)
   ·exact .inr (.inr ⟨z,f09.kp _ _ y nlk⟩)
  ·show hs.length=(hands.map _).length;rw[dM,hl,hk,ltl]
  ·intro j q m z1 z2;have z2:(hands.map λm=>(m.1,List.replicate m.2.toNat none))[j]? =some m:=z2;rw[fV]at z2;obtain⟨m0,y1,rfl⟩:=Option.map_eq_some_iff.mp z2;obtain⟨⟨u1,u2,⟨du,u3⟩,u4⟩,v1,v2⟩:=hds j q m0 z1 y1;exact⟨(fx9.tg _ _ u3).trans u1,(fx9.tg _ _ u4).trans u2,⟨du,fx9.kp _ _ u3 v1⟩,fx9.kp _ _ u4 v2⟩
 ·have hlt:i<ts.length:=by omega
  refine .inr ⟨⟨_,_,fj.of (sx _ _ oh3),by rw[fV,eV hlt];rfl⟩,?_,λx H' y=>?_⟩
  ·rw[dM,hl];exact Nat.lt_of_lt_of_le hlt (dR (by omega))
  obtain⟨y1,y2⟩:=y;subst y1;have ey:=y2 _ (fj.of (sx _ _ oh3));rw[fV,eV hlt]at ey;have ey:x=.ref ts[i]:=(Option.some.inj ey).symm;subst ey;obtain⟨m,hm,ot,m0,m1⟩:=Zww i _ (eV hlt);refine KZ (Zav ⟨ts[i],.str m.1,.int m.2,_,rfl,jE.of (sx _ _ ot),?_⟩);walk_at"c";walk_at"e";intro q1 dq nq ndq neq;refine⟨q1,m.1,m.2,rfl,dq,aq,m0,m1,λsa Hy nsa b1 b2 k=>⟨rfl,?_⟩⟩;have Zsc:H' sa=none:=by
   by_cases z:sa=q1
   ·rw[z,aq]at nsa;cases nsa
   ·rw[aU z]at nsa
    by_cases y:sa=dq
    ·rw[y,aq]at nsa;cases nsa
    ·rw[aU y]at nsa;exact nsa
  have sy:dF H' Hy:=λb o hb=>k b o (by rw[aU (aM hb nq),aU (aM hb ndq)];exact hb) (aM hb nq);have ey:Ex p H' Hy Tx _:=Ex.news (p:=p) (vs:=[(q1,(s,20+2 * i)),(sa,(s,21+2 * i))]) ex.wt sy (by
   intro v hv;simp only[List.mem_cons,List.not_mem_nil,or_false]at hv;rcases hv with rfl | rfl
   ·exact⟨nq,_,b1⟩
   ·exact⟨Zsc,_,b2⟩)
  have nqs:q1≠sa:=QV b1 b2 (λz=>by cases z);have hpx:=sx _ _ g3;refine⟨ts.length - (i+1),by omega,by omega,rfl,hs++[(q1,sa)],_,by rw[List.map_append];rfl,by rw[List.length_append,hl];rfl,sx.trans sy,ex.trans ey,λj q m' z1 z2=>?_⟩
  by_cases hj:j<hs.length
  ·rw[List.getElem?_append_left hj]at z1;obtain⟨⟨u1,u2,⟨du,u3⟩,u4⟩,v1,v2⟩:=hds j q m' z1 z2;exact⟨⟨(ey.tg _ _ u3).trans u1,(ey.tg _ _ u4).trans u2,⟨du,sy _ _ u3⟩,sy _ _ u4⟩,v1,v2⟩
  ·have hj':=(gG z1).1;rw[List.length_append,List.length_singleton]at hj';have ej:j=hs.length:=by omega
   subst ej;rw[List.getElem?_append_right (Nat.le_refl _),Nat.sub_self]at z1;cases z1;rw[hl]at z2 ⊢;rw[hm]at z2;cases z2;exact⟨⟨lX,(m9 nqs.symm).trans lX,⟨dq,b1⟩,by rw[b2,List.map_replicate];rfl⟩,(λz=>by rw[show q1=p from z,hpx]at nq;cases nq),(λz=>by rw[show sa=p from z,hpx]at Zsc;cases Zsc)⟩
end
def uG(t signs:Str)(most:Int):Bool:=decide (1<=(t.length:Int)) && (decide ((t.length:Int)<=most) && t.cps.toList.all λc=>decide (c∈signs.cps.toList))
def letters:Str:="abcdefghijklmnopqrstuvwxyz"
structure qd(K:aV)(X:Cs)(aC aL aK aP aJ aH aG aO aF aD aA:Addr):Prop where
 Zu5:wj K aL [.str "hand",.str "slot",.str "slot"]
 Zu4:wj K aK [.str "hand",.str "slot"]
 Zwe:wj K aP [.str "hand",.str "slot",.str "slot",.str "field"]
 Zu3:wj K aJ [.str "hand",.str "slot",.str "hand",.str "slot"]
 Zu2:wj K aH [.str "hand",.str "slot",.str "many",.str "bulk"]
 Zu1:wj K aG [.str "hand",.str "slot",.str "word"]
 Zwd:wj K aO [.str "hand",.str "slot",.str "field",.str "slot"]
 Zu0:wj K aF [.str "hand",.str "slot"]
 Ztz:wj K aD [.str "hand",.str "slot",.str "word"]
 Zqr:wj K aA [.str "hand",.str "slot",.str "load"]
 w:Ab K X
 cT:Ds K aC
 Fp:dN K aC "room"
 Kh:dN K aC "kind"
 wK:dN K aC "hands"
 Bx:dN K aC "rows"
def tS(i:Int):Str:=Str.ofString (toString i)
theorem Zg1{w:Str}:∀l:List Str,inV (.str w) (l.map V.str)=decide (w∈l)
 | []=>by simp[inV]
 | x::l=>by
  have ih:=Zg1 (w:=w) l;unfold inV at ih ⊢;rw[List.map_cons,List.any_cons,ih];show(x == w || _)=_
  by_cases e:x=w
  ·subst e;simp
  ·have:(x == w)=false:=by simpa using e
   rw[this];have e2:¬ w=x:=λz=>e z.symm;simp[e2]
theorem Zb3(l:List Str):(l.map V.str).all nM=true:=by
 rw[List.all_map,List.all_eq_true];intro x _;rfl
theorem Zsl(m:Nat):(tS (-((m+1:Nat):Int))).cps.toList=45::(Nat.toDigits 10 (m+1)).map Char.toNat:=by
 unfold tS;rw[PyProof.Rows.signs_ofString,Int.toString_eq_repr,Int.repr_eq_if];rw[if_neg (by omega),String.toList_append,Nat.toList_repr,List.map_append];have e:(-((m+1:Nat):Int)).natAbs=m+1:=by omega
 first | rw[e] | rw[show(- -((m+1:Nat):Int)).toNat=m+1 from by omega]
 rfl
theorem Q7(c:Nat):∀{ps:List Str},ps≠[]->(jl c ps).length+1=(ps.map (·.length)).sum+ps.length
 | [],h=>absurd rfl h
 | [x],_=>by simp[jl,<- str_len]
 | x::y::r,_=>by
  have ih:=Q7 c (ps:=y::r) (by simp);show(x.cps.toList++c::jl c (y::r)).length+1=_;rw[List.length_append,List.length_cons,str_len,List.map_cons,List.sum_cons,List.length_cons (as:=y::r)];omega
theorem Yn(c:Nat)(p:Str):∀{ps:List Str},ps≠[]->jl c (ps++[p])=jl c ps++c::p.cps.toList
 | [],h=>absurd rfl h
 | [x],_=>rfl
 | x::y::r,_=>by
  have ih:=Yn c p (ps:=y::r) (by simp);show x.cps.toList++c::jl c ((y::r)++[p])=(x.cps.toList++c::jl c (y::r))++c::p.cps.toList;rw[ih,List.append_assoc];rfl
theorem join_snoc{ps:List Str}{p:Str}(h:ps≠[]):Str.join ⟨#[32]⟩ (ps++[p])=Str.join ⟨#[32]⟩ ps++⟨#[32]⟩++p:=by
 refine Ol ?_;rw[tE,Yn 32 p h,PyProof.Rows.cps_toList_append,PyProof.Rows.cps_toList_append,tE,List.append_assoc];rfl
section
variable {K:aV}{X:Cs}{aC aL aK aP aJ aH aG aO aF aD aA:Addr}{H:Hp}{Q:VK}{E:XK}{n:St->Hp->Prop}{bk ct:St->Hp->Prop}
theorem Znw{i:Int}(h:Q (.bl true) H):sY ⟨n,Q,bk,ct⟩ [some (.int i)] H:=by
 unfold sY;walk_at"e";exact h
end
def Zgq(K:aV):Sp:=λvs H Q E=>∃a k,vs=[.ref a,.int k]/\∃ns:List Int,fj K H a (ns.map V.int)/\FT ns/\0<=k/\∀z:Int,Builtin.Int.intBits z<=2 ^ 20->Q (.int z) H
def zP:Sp:=λvs H Q E=>∃i,vs=[.int i]/\Q (.bl true) H
section
variable {K:aV}{X:Cs}{aC aL aK aP aJ aH aG aO aF aD aA:Addr}{H:Hp}{Q:VK}{E:XK}{n:St->Hp->Prop}{bk ct:St->Hp->Prop}
theorem Og{a:Addr}{k:Int}(q:∃ns:List Int,fj K H a (ns.map V.int)/\FT ns/\0<=k/\∀z:Int,Builtin.Int.intBits z<=2 ^ 20->Q (.int z) H):ur K ⟨n,Q,bk,ct⟩ [some (.ref a),some (.int k)] H:=by
 obtain⟨ns,hS,hb,h0,h⟩:=q;unfold ur;walk_at"e";refine qZ hS ?_;walk_at"e";refine DP (λh1=>?_) (λh1=>?_)
 ·walk_at"e";rw[dM]at h1;have hk:k.toNat<ns.length:=by omega
  exact jA hS (iJ h0 (v:=.int ns[k.toNat]) (by rw[fV,eV hk]<;>rfl)) (h _ (hb _ (List.getElem_mem hk)))
 ·walk_at"e";exact h _ (by decide)
theorem Us{i:Int}(q:Q (.bl true) H):sY ⟨n,Q,bk,ct⟩ [some (.int i)] H:=Znw q
end
def kO:Str:="sweep"
def Tf(t:Str):Prop:=uG t letters 12=true/\t≠kO
def hdT(x:Str×Int):Str:=("hand ":Str)++x.1++(" ":Str)++tS x.2
def uE(hs:List (Str×Int)):Prop:=1<=hs.length/\hs.length<=5/\(hs.map (·.1)).Nodup/\∀x∈hs,Tf x.1/\3<=x.2/\x.2<=9
def HL(H:Hp)(l:Addr)(hs:List (Str×Int)):Prop:=∃as:List Addr,H l=some (.lst (as.map V.ref))/\as.length=hs.length/\∀(i:Nat) a,as[i]? =some a->∃x,hs[i]? =some x/\H a=some (.tup [.str x.1,.int x.2])
def nG(m w t:Int)(hs:List (Str×Int)):List Str:=(("room ":Str)++tS m)::(("kind ":Str)++words w t)::(hs.map hdT++[("weave":Str)])
theorem HL.same{H H1:Hp}{l:Addr}{hs:List (Str×Int)}(h:HL H l hs)(s:dF H H1):HL H1 l hs:=by
 obtain⟨as,h1,h2,h3⟩:=h;exact⟨as,s _ _ h1,h2,λi a ha=>let ⟨x,e,q⟩:=h3 i a ha;⟨x,e,s _ _ q⟩⟩
theorem Zm1:∀c∈letters.cps.toList,97<=c/\c<=122:=by decide +kernel
theorem Tf.let{t:Str}(h:Tf t):(1<=t.length/\t.length<=12)/\∀c∈t.cps.toList,97<=c/\c<=122:=by
 have h:=h.1;unfold uG at h;rw[Bool.and_eq_true,Bool.and_eq_true]at h;have h1:=of_decide_eq_true h.1;have h2:=of_decide_eq_true h.2.1;refine⟨⟨by omega,by omega⟩,λc hc=>?_⟩;have:=List.all_eq_true.mp h.2.2 c hc;exact Zm1 c (of_decide_eq_true this)
theorem Zt{w t:Int}(w0:0<=w)(w1:w<3)(t0:0<=t)(t1:t<4):10∉(words w t).cps.toList/\(words w t).length<=20:=by
 have hw:w=0\/w=1\/w=2:=by omega
 have ht:t=0\/t=1\/t=2\/t=3:=by omega
 rcases hw with rfl | rfl | rfl<;>rcases ht with rfl | rfl | rfl | rfl<;>decide +kernel
theorem CV(a b:Str):(a++b).cps.toList=a.cps.toList++b.cps.toList:=PyProof.Rows.cps_toList_append a b
theorem jV(a b:Str):(a++b).length=a.length+b.length:=by rw[<- str_len,CV,List.length_append,str_len,str_len]
theorem Ea{i:Int}(h0:0<=i)(h1:i<10 ^ 60):(tS i).length<=61:=(XF h0 (Int.lt_trans h1 (by decide))).2
theorem Zqd{x:Str×Int}(h:Tf x.1)(h0:0<=x.2)(h1:x.2<10):(hdT x).length<=100:=by
 unfold hdT;have:=h.let.1;have:=Ea h0 (Int.lt_trans h1 (by decide));rw[jV,jV,jV];show 5+_+1+_<=_;omega
theorem YG{α β:Type}(f:α->β):∀xs:List α,(List.range xs.length).filterMap (λi=>(xs[i]?).map f)=xs.map f
 | []=>rfl
 | x::xs=>by
  rw[List.length_cons,List.range_succ_eq_map,List.filterMap_cons];simp only[List.getElem?_cons_zero,Option.map_some,List.map_cons,List.filterMap_map];congr 1;exact YG f xs
def Aj:List (Str×List Str):=[("make",["hand","slot","many","bulk"]),("get",["hand","slot","slot","field"]),("put",["hand","slot","field","slot"]),("copy",["hand","slot","slot"]),("drop",["hand","slot"]),("give",["hand","slot","hand","slot"]),("write",["hand","slot","load"]),("read",["hand","slot"]),("name",["hand","slot","word"]),("seek",["hand","slot","word"])]
def O9(K:aV):Sp:=λvs H Q E=>∃w,vs=[.str w]/\∃fs,(w,fs)∈Aj/\∀a,wj K a (fs.map V.str)->Q (.ref a) H
section
variable {K:aV}{X:Cs}{aC aL aK aP aJ aH aG aO aF aD aA:Addr}{H:Hp}{Q:VK}{E:XK}{n:St->Hp->Prop}{bk ct:St->Hp->Prop}
theorem Zb2{w:Str}(T:qd K X aC aL aK aP aJ aH aG aO aF aD aA)(q:∃fs,(w,fs)∈Aj/\∀a,wj K a (fs.map V.str)->Q (.ref a) H):Bm aL aK aP aJ aH aG aO aF aD aA ⟨n,Q,bk,ct⟩ [some (.str w)] H:=by
 obtain⟨fs,hm,h⟩:=q;unfold Bm;walk_at"e";refine⟨w,rfl,?_⟩;unfold Aj at hm;simp only[List.mem_cons,List.not_mem_nil,or_false,Prod.mk.injEq]at hm;rcases hm with ⟨rfl,rfl⟩ | ⟨rfl,rfl⟩ | ⟨rfl,rfl⟩ | ⟨rfl,rfl⟩ | ⟨rfl,rfl⟩ | ⟨rfl,rfl⟩ | ⟨rfl,rfl⟩ | ⟨rfl,rfl⟩ | ⟨rfl,rfl⟩ | ⟨rfl,rfl⟩
 ·exact h _ T.Zu2
 ·exact h _ T.Zwe
 ·exact h _ T.Zwd
 ·exact h _ T.Zu5
 ·exact h _ T.Zu4
 ·exact h _ T.Zu3
 ·exact h _ T.Zqr
 ·exact h _ T.Zu0
 ·exact h _ T.Zu1
 ·exact h _ T.Ztz
end
def GF:List (Str×V):=[("slot",.int 999),("field",.int 999),("many",.int 8),("bulk",.int 1000000000000)]
def kJ:Str:="hand"
def Ck:Str:="load"
def Aa:Str:="word"
inductive Fv(hs:List (Str×Int)):Str->V->Str->V->Prop
 | hand {h:Nat}{x:Str×Int} (e:hs[h]? =some x) (k:Tf x.1):Fv hs kJ (.int h) x.1 (.str x.1)
 | num {f:Str}{m n:Int} (e:GF.lookup f=some (.int m)) (h0:0<=n) (h1:n<=m) (hm:m<=1000000000000):Fv hs f (.int n) (tS n) (.int n)
 | load {n:Int} (h0:-(10 ^ 60)<n) (h1:n<10 ^ 60):Fv hs Ck (.int n) (tS n) (.int n)
 | word {z:Str} (k:uG z letters 12=true):Fv hs Aa (.str z) z (.str z)
abbrev Qd:=Str×V×Str×V
def QOk(hs:List (Str×Int))(q:Qd):Prop:=Fv hs q.1 q.2.1 q.2.2.1 q.2.2.2/\q.2.2.1.length<=100
def iC:Str:="slot"
def FJ(hs:List (Str×Int)):Nat->List Qd->Prop
 | _,[]=>True
 | o,q::r=>(q.1=kJ/\∃h:Nat,q.2.1=.int h/\FJ hs h r)\/(q.1≠kJ/\FJ hs o r/\(q.1=iC->∃(m:Int) (x:Str×Int),q.2.1=.int m/\hs[o]? =some x/\m<x.2))
inductive m7
 | sw (m:Int)
 | dd (w:Str) (q:Qd) (qs:List Qd)
def partsOf:m7->List Str
 | .sw m=>[kO,tS m]
 | .dd w q qs=>q.2.2.1::w::qs.map λz:Qd=>z.2.2.1
def eY:m7->List V
 | .sw m=>[.str kO,.int m]
 | .dd w q qs=>.str w::(q::qs).map λz:Qd=>z.2.1
def FW(hs:List (Str×Int)):m7->Prop
 | .sw m=>1<=m/\m<=9999
 | .dd w q qs=>q.1=kJ/\(w,(q::qs).map λz:Qd=>z.1)∈Aj/\(∀x∈q::qs,QOk hs x)/\FJ hs 0 (q::qs)/\qs.length<=8
def nu(r:m7):Str:=Str.join ⟨#[32]⟩ (partsOf r)
theorem Wd:∀x∈Aj,32∉x.1.cps.toList/\10∉x.1.cps.toList/\x.1.length<=100:=by decide
theorem Pj{t:Str}(h:uG t letters 12=true):t.length<=12/\∀c∈t.cps.toList,97<=c/\c<=122:=by
 unfold uG at h;rw[Bool.and_eq_true,Bool.and_eq_true]at h;have h2:=of_decide_eq_true h.2.1;refine⟨by omega,λc hc=>?_⟩;have:=List.all_eq_true.mp h.2.2 c hc;exact Zm1 c (of_decide_eq_true this)
theorem Z4(r:m7):partsOf r≠[]:=by cases r<;>simp[partsOf]
theorem Zc8:∀{ps:List Str},(∀p∈ps,p.length<=100)->(ps.map (·.length)).sum<=100 * ps.length
 | [],_=>Nat.zero_le _
 | p::ps,h=>by
  have:=Zc8 (ps:=ps) (λq hq=>h q (List.mem_cons_of_mem _ hq));have:=h p List.mem_cons_self;rw[List.map_cons,List.sum_cons,List.length_cons];omega
theorem FW.len{hs:List (Str×Int)}{r:m7}(h:FW hs r):(nu r).length<=2000:=by
 have e:(nu r).length+1=((partsOf r).map (·.length)).sum+(partsOf r).length:=by
  unfold nu;rw[<- Q7 32 (Z4 r),<- tE,str_len]
 have b:(∀p∈partsOf r,p.length<=100)/\(partsOf r).length<=10:=by
  cases r with
  | sw m=>
   refine⟨λp hp=>?_,by show 2<=10;decide⟩;rcases List.mem_cons.mp hp with rfl | hp
   ·decide
   ·rw[List.mem_singleton.mp hp];have:=Ea (i:=m) (by have:=h.1;omega) (Int.lt_of_le_of_lt h.2 (by decide));omega
  | dd w q qs=>
   obtain⟨ef,hm,Dw,so,h8⟩:=h;refine⟨λp hp=>?_,by show(qs.map _).length+1+1<=10;rw[dM];omega⟩;rcases List.mem_cons.mp hp with rfl | hp
   ·exact(Dw q List.mem_cons_self).2
   rcases List.mem_cons.mp hp with rfl | hp
   ·exact(Wd _ hm).2.2
   ·obtain⟨z,hz,rfl⟩:=List.mem_map.mp hp;exact(Dw z (List.mem_cons_of_mem _ hz)).2
 have:=Zc8 b.1;omega
def RL(H:Hp)(l:Addr)(rs:List m7):Prop:=∃as:List Addr,H l=some (.lst (as.map V.ref))/\as.length=rs.length/\∀(i:Nat) a,as[i]? =some a->∃r,rs[i]? =some r/\H a=some (.tup (eY r))
theorem RL.add{Hx:Hp}{l b:Addr}{rs:List m7}{r:m7}{as:List Addr}(h1:Hx l=some (.lst (as.map V.ref)))(h2:as.length=rs.length)(h3:∀(i:Nat) a,as[i]? =some a->∃r,rs[i]? =some r/\Hx a=some (.tup (eY r)))(hb:Hx b=some (.tup (eY r))):RL (upd Hx l (.lst (as.map V.ref++[.ref b]))) l (rs++[r]):=by
 have nt:∀{c:Addr}{xs:List V},Hx c=some (.tup xs)->c≠l:=λhc e=>by rw[e,h1]at hc;cases hc
 refine⟨as++[b],by rw[aq,List.map_append];rfl,by rw[List.length_append,List.length_append,h2];rfl,λi a ha=>?_⟩
 by_cases hi:i<as.length
 ·rw[List.getElem?_append_left hi]at ha;obtain⟨y,ey,hy⟩:=h3 i a ha;exact⟨y,by rw[List.getElem?_append_left (by omega)];exact ey,by rw[aU (nt hy)];exact hy⟩
 ·rw[List.getElem?_append_right (by omega)]at ha;have hi2:i - as.length=0:=by
   have:=(gG ha).1;simp at this;omega
  rw[hi2]at ha;cases ha;refine⟨r,?_,by rw[aU (nt hb)];exact hb⟩;rw[List.getElem?_append_right (by omega),<- h2,hi2];rfl
theorem HL.add{H Hx:Hp}{l b:Addr}{hs:List (Str×Int)}{x:Str×Int}{as:List Addr}(h1:Hx l=some (.lst (as.map V.ref)))(h2:as.length=hs.length)(h3:∀(i:Nat) a,as[i]? =some a->∃x,hs[i]? =some x/\Hx a=some (.tup [.str x.1,.int x.2]))(hb:Hx b=some (.tup [.str x.1,.int x.2])):HL (upd Hx l (.lst (as.map V.ref++[.ref b]))) l (hs++[x]):=by
 have nt:∀{c:Addr}{xs:List V},Hx c=some (.tup xs)->c≠l:=λhc e=>by rw[e,h1]at hc;cases hc
 refine⟨as++[b],by rw[aq,List.map_append];rfl,by rw[List.length_append,List.length_append,h2];rfl,λi a ha=>?_⟩
 by_cases hi:i<as.length
 ·rw[List.getElem?_append_left hi]at ha;obtain⟨y,ey,hy⟩:=h3 i a ha;exact⟨y,by rw[List.getElem?_append_left (by omega)];exact ey,by rw[aU (nt hy)];exact hy⟩
 ·rw[List.getElem?_append_right (by omega)]at ha;have hi2:i - as.length=0:=by
   have:=(gG ha).1;simp at this;omega
  rw[hi2]at ha;cases ha;refine⟨x,?_,by rw[aU (nt hb)];exact hb⟩;rw[List.getElem?_append_right (by omega),<- h2,hi2];rfl
section
variable {K:aV}{X:Cs}{aC aL aK aP aJ aH aG aO aF aD aA:Addr}{H:Hp}{Q:VK}{E:XK}{n:St->Hp->Prop}{bk ct:St->Hp->Prop}
theorem Q5{l:Addr}{hs:List (Str×Int)}{σ:St}{Q':VK}(hl:HL H l hs)(h5:hs.length<=5)(h:∀p,H p=none->Q' (.ref p) (upd H p (.lst ((hs.map (·.1)).map V.str)))):Zbs K (Itl K l) [] pM (ak 0) σ H Q':=by
 obtain⟨as,h1,h2,h3⟩:=hl;refine Ox ?_;refine Oz (fj.of h1) (λi=>(hs[i]?).map λx=>.str x.1) (by rw[dM];omega) (λi x hx=>?_) λp hp=>?_
 ·rw[fV]at hx;obtain⟨a,ha,rfl⟩:=Option.map_eq_some_iff.mp hx;obtain⟨y,ey,hy⟩:=h3 i a ha;refine⟨λq hq=>?_,λv q hv hq=>?_⟩
  ·rw[ey]at hq;exact hq
  ·rw[ey]at hv;cases hv;exact⟨a,_,_,_,rfl,jE.of hy,_,rfl,hq⟩
 ·have:=h p hp;rw[dM,h2,YG (λx:Str×Int=>V.str x.1)];rw[List.map_map]at this;exact this
end
theorem Gk{H Hx:Hp}{p:Addr}{o:HO}(s:dF H Hx)(hp:H p=none):dF H (upd Hx p o):=λb u q=>by rw[aU (aM q hp)];exact s b u q
def wC(t:Str):Str:=if t=kO then("sweeps":Str)else t
def RJ:Sp:=λvs H Q E=>∃t,vs=[.str t]/\Q (.str (wC t)) H
def Dd:Sp:=λvs H Q E=>∃way c,vs=[.int way,.int c]/\∀l hs H',dF H H'->HL H' l hs->uE hs->Q (.ref l) H'
def Nm(cA:Bool)(q size base:Int)(pos i:Nat)(nm:Str):Prop:=∃raw:Str,nm=wC raw/\uG raw letters 12=true/\(if cA=true then(raw.length:Int)=1+((i:Int)+q) % 12/\raw≠kO else(raw.length:Int)=size/\raw.cps.toList[pos]? =some (97+((base+i) % 26).toNat))
theorem Zo6{raw:Str}(h:uG raw letters 12=true):Tf (wC raw):=by
 unfold wC;split
 ·exact⟨by decide +kernel,by decide⟩
 ·rename_i e;exact⟨h,e⟩
theorem Nm.ne{cA:Bool}{q size base:Int}{pos i j:Nat}{a b:Str}(ha:Nm cA q size base pos i a)(hb:Nm cA q size base pos j b)(ij:i<j)(hj:j<=4):a≠b:=by
 obtain⟨r,rfl,_,h1⟩:=ha;obtain⟨r',rfl,_,h2⟩:=hb;cases cA with
 | true=>
  rw[if_pos rfl]at h1 h2;unfold wC;rw[if_neg h1.2,if_neg h2.2];intro e;rw[e,h2.1]at h1;have:=h1.1;omega
 | false=>
  rw[if_neg Bool.false_ne_true]at h1 h2;have nr:r≠r':=λe=>by
   rw[e]at h1;rw[h1.2]at h2;have:=Option.some.inj h2.2;omega
  have ls:(kO:Str).length=5:=rfl;have ls6:("sweeps":Str).length=6:=rfl;unfold wC
  by_cases e1:r=kO
  ·rw[if_pos e1,if_neg (λe2=>nr (e1.trans e2.symm))];intro e;rw[e1]at h1;rw[<- e]at h2;have a1:=h1.1;have a2:=h2.1;rw[ls]at a1;rw[ls6]at a2;omega
  ·rw[if_neg e1]
   by_cases e2:r'=kO
   ·rw[if_pos e2];intro e;rw[e2]at h2;rw[e]at h1;have a1:=h1.1;have a2:=h2.1;rw[ls6]at a1;rw[ls]at a2;omega
   ·rw[if_neg e2];exact nr
theorem XJ{l:List Str}{y:Str}(h:l.Nodup)(hy:y∉l):(l++[y]).Nodup:=by
 rw[List.nodup_append];refine⟨h,by simp,λa ha b hb=>?_⟩;rw[List.mem_singleton.mp hb];exact λe=>hy (e ▸ ha)
theorem X4{i:Int}(h0:0<=i)(h1:i<26):Ur letters.cps.toList i=some (97+i.toNat):=by
 have hk:∀k:Nat,k<26->letters.cps.toList[k]? =some (97+k):=by decide +kernel
 exact iJ h0 (hk _ (by omega))
theorem X3{i:Nat}(h1:i<26):97+i∈letters.cps.toList:=by
 have hk:∀k:Nat,k<26->97+k∈letters.cps.toList:=by decide +kernel
 exact hk _ h1
theorem Ow:letters.length=26:=by decide +kernel
section
variable {K:aV}{X:Cs}{aC:Addr}{H:Hp}{Q:VK}{E:XK}{n:St->Hp->Prop}{bk ct:St->Hp->Prop}
theorem Y8{t:Str}(q:Q (.str (wC t)) H):zm ⟨n,Q,bk,ct⟩ [some (.str t)] H:=by
 unfold zm;unfold wC at q;walk_at"e";refine DP (λe=>?_) (λe=>?_)
 ·rw[if_pos (show t=kO from e)]at q;walk_at"e";exact q
 ·rw[if_neg (show ¬ t=kO from e)]at q;walk_at"e";exact q
end
theorem Zk6{ch:Nat}{k:Int}:(Z1 ⟨#[ch]⟩ k).cps.toList=List.replicate k.toNat ch:=by
 show((List.replicate k.toNat [ch]).flatten.toArray).toList=_;rw[List.flatten_replicate_singleton]
theorem Zof{t:Str}{ch:Nat}{k:Int}(et:t=Z1 ⟨#[ch]⟩ k)(h0:1<=k)(h1:k<=12)(hc:ch∈letters.cps.toList):uG t letters 12=true/\(t.length:Int)=k/\t≠kO:=by
 have el:t.cps.toList=List.replicate k.toNat ch:=by rw[et];exact Zk6
 have hl:t.length=k.toNat:=by rw[<- str_len,el,List.length_replicate]
 refine⟨?_,by omega,λe=>?_⟩
 ·unfold uG;rw[decide_eq_true (show(1:Int)<=(t.length:Int) by omega),decide_eq_true (show(t.length:Int)<=12 by omega),el];rw[Bool.true_and,Bool.true_and,List.all_eq_true];intro c hcm;rw[List.eq_of_mem_replicate hcm];exact decide_eq_true hc
 ·have es:t.cps.toList=[115,119,101,101,112]:=by rw[e];decide +kernel
  rw[el]at es;have m1:(115:Nat)∈List.replicate k.toNat ch:=by rw[es];simp
  have m2:(119:Nat)∈List.replicate k.toNat ch:=by rw[es];simp
  have:=List.eq_of_mem_replicate m1;have:=List.eq_of_mem_replicate m2;omega
theorem Zu{t:Str}(h1:1<=t.length)(h2:t.length<=12)(h:∀c∈t.cps.toList,c∈letters.cps.toList):uG t letters 12=true:=by
 unfold uG;rw[decide_eq_true (show(1:Int)<=(t.length:Int) by omega),decide_eq_true (show(t.length:Int)<=12 by omega),Bool.true_and,Bool.true_and,List.all_eq_true];exact λc hc=>decide_eq_true (h c hc)
section
variable {K:aV}{X:Cs}{aC:Addr}{H:Hp}{Q:VK}{E:XK}{n:St->Hp->Prop}{bk ct:St->Hp->Prop}
theorem Zmu{way c size h:Int}{l:Addr}{raw:Str}{hs:List (Str×Int)}{v7 v8:Option V}(g:HL H l hs)(h5:hs.length<=5)(h0:0<=h)(h4:h<=4)
  (q:∀H',HL H' l (hs++[(wC raw,3+(c / 7+h * h * 2) % 7)])->(∀b o,b≠l->H b=some o->H' b=some o)->n [some (.int way),some (.int c),some (.str letters),some (.int size),some (.ref l),some (.int h),some (.str raw),v7,v8] H'):
  (tL (Sh K "list" oF (ak 4) (aj (iK (aj (dH RJ [] E0 (aj (ak 6) bW)) (aj (dG (qt λi j=>.int (i+j)) (tC (.int 3)) (dG (rI (λ_ j=>0<j) λi j=>.int (i % j)) (dG (qt λi j=>.int (i+j)) (dG (rI tX λi j=>.int (i / j)) (ak 1) (tC (.int 7))) (dG (rI G.rF λi j=>.int (i * j)) (dG (rI G.rF λi j=>.int (i * j)) (ak 5) (ak 5)) (tC (.int 2)))) (tC (.int 7)))) bW))) bW))) ⟨n,Q,bk,ct⟩ [some (.int way),some (.int c),some (.str letters),some (.int size),some (.ref l),some (.int h),some (.str raw),v7,v8] H:=by
 obtain⟨as,g1,g2,g3⟩:=g;walk_at"e";refine⟨.inl ⟨rfl,_,fj.of g1⟩,?_⟩;walk_at"e";refine⟨raw,rfl,?_⟩;walk_at"e";refine⟨by show 2<=_;decide,λtp htp=>?_⟩;have s1:=bY htp (.tup [.str (wC raw),.int (3+(c / 7+h * h * 2) % 7)]);walk_at"e";refine⟨l,_,_,rfl,rfl,s1 _ _ g1,by rw[dM,sizeLine_eq];omega,?_⟩;walk_at"e";refine q _ (HL.add (H:=H) (x:=(wC raw,3+(c / 7+h * h * 2) % 7)) (s1 _ _ g1) g2 (λi a ha=>let ⟨x,e,z⟩:=g3 i a ha;⟨x,e,s1 _ _ z⟩) aq) λb o nb hb=>?_;rw[aU nb];exact s1 _ _ hb
theorem La{way c:Int}(q:∀l hs H',dF H H'->HL H' l hs->uE hs->Q (.ref l) H'):rP K RJ ⟨n,Q,bk,ct⟩ [some (.int way),some (.int c),none,none,none,none,none,none,none] H:=by
 unfold rP;walk_at"e";refine⟨by decide,λl hl=>?_⟩;generalize zz:upd H l _=H1;obtain⟨s1,c1⟩:=nwO hl zz;walk_at"e";have z0:1<=1+c / 26 % 12:=by omega
 have z1:1+c / 26 % 12<=12:=by omega
 generalize 1+c / 26 % 12=size at z0 z1 ⊢;have p0:=Int.emod_nonneg (way / 7) (b:=size) (by omega);have p1:=Int.emod_lt_of_pos (way / 7) (b:=size) (by omega);have g0:0<=c / 312 % 26:=by omega
 have g26:c / 312 % 26<26:=by omega
 refine⟨_,rfl,by omega,by omega,forR (λi σ Hx=>∃hs v5 v6 v7 v8,σ=[some (.int way),some (.int c),some (.str letters),some (.int size),some (.ref l),v5,v6,v7,v8]/\dF H Hx/\HL Hx l hs/\hs.length=i/\(hs.map (·.1)).Nodup/\∀(j:Nat) x,hs[j]? =some x->Nm (decide (way / 91 % 3=1)) (c / 26) size (c+((way / 7 % size) * (way / 7 % size) * 3+(way / 7 % size) * (c / 312 % 26))) (way / 7 % size).toNat j x.1/\3<=x.2/\x.2<=9) ⟨[],none,none,none,none,rfl,s1,⟨[],c1,rfl,λi a h=>by cases h⟩,rfl,by simp,λj x h=>by cases h⟩ ?_ ?_⟩
 ·rintro i σ Hx hi ⟨hs,v5,v6,v7,v8,rfl,sx,hlx,hlen,nd,hx⟩;have hi4:i<=4:=by omega
  have e0:(0:Int)+(i:Int)=i:=by omega
  rw[e0];walk_at"e";have fin:∀(raw:Str) (v7 v8:Option V),uG raw letters 12=true->(if decide (way / 91 % 3=1)=true then(raw.length:Int)=1+((i:Int)+c / 26) % 12/\raw≠kO else(raw.length:Int)=size/\raw.cps.toList[(way / 7 % size).toNat]? =some (97+((c+((way / 7 % size) * (way / 7 % size) * 3+(way / 7 % size) * (c / 312 % 26))+i) % 26).toNat))->∀H',HL H' l (hs++[(wC raw,3+(c / 7+(i:Int) * i * 2) % 7)])->(∀b o,b≠l->Hx b=some o->H' b=some o)->
    ∃(hs:List (Str×Int)) (v5 v6 v7' v8':Option V),([some (.int way),some (.int c),some (.str letters),some (.int size),some (.ref l),some (.int i),some (.str raw),v7,v8]:St)=[some (.int way),some (.int c),some (.str letters),some (.int size),some (.ref l),v5,v6,v7',v8']/\dF H H'/\HL H' l hs/\hs.length=i+1/\(hs.map (·.1)).Nodup/\∀(j:Nat) x,hs[j]? =some x->Nm (decide (way / 91 % 3=1)) (c / 26) size (c+((way / 7 % size) * (way / 7 % size) * 3+(way / 7 % size) * (c / 312 % 26))) (way / 7 % size).toNat j x.1/\3<=x.2/\x.2<=9:=by
   intro raw v7 v8 wb cond H' hl' fr;have nm:Nm (decide (way / 91 % 3=1)) (c / 26) size (c+((way / 7 % size) * (way / 7 % size) * 3+(way / 7 % size) * (c / 312 % 26))) (way / 7 % size).toNat i (wC raw):=⟨raw,rfl,wb,cond⟩;refine⟨_,_,_,_,_,rfl,λb o hb=>fr b o (aM hb hl) (sx _ _ hb),hl',by rw[List.length_append,hlen];rfl,?_,λj x hj=>?_⟩
   ·rw[List.map_append];refine XJ nd λz=>?_;obtain⟨x,hxm,ex⟩:=List.mem_map.mp z;obtain⟨j,hj⟩:=List.getElem?_of_mem hxm;have jl:=(gG hj).1;exact(hx j x hj).1.ne nm (by omega) hi4 ex
   ·by_cases hji:j<hs.length
    ·rw[List.getElem?_append_left hji]at hj;exact hx j x hj
    ·have hjl:=(gG hj).1;rw[List.length_append]at hjl;have hje:j=hs.length:=by
      have:[(wC raw,3+(c / 7+(i:Int) * i * 2) % 7)].length=1:=rfl;omega
     subst hje;rw[List.getElem?_append_right (Nat.le_refl _),Nat.sub_self]at hj;cases hj;rw[hlen];exact⟨nm,by omega,by omega⟩
  refine⟨_,rfl,by omega,by omega,forR (λk σ Hy=>∃t v7 v8,σ=[some (.int way),some (.int c),some (.str letters),some (.int size),some (.ref l),some (.int i),some (.str t),v7,v8]/\Hy=Hx/\t.length=k/\(∀ch∈t.cps.toList,ch∈letters.cps.toList)/\((way / 7 % size).toNat<k->t.cps.toList[(way / 7 % size).toNat]? =some (97+((c+((way / 7 % size) * (way / 7 % size) * 3+(way / 7 % size) * (c / 312 % 26))+i) % 26).toNat))) ⟨_,_,_,rfl,rfl,rfl,(λch h=>by cases h),λh=>absurd h (Nat.not_lt_zero _)⟩ ?_ ?_⟩
  ·rintro k σ Hy hk ⟨t,v7,v8,rfl,rfl,tl,tm,tp⟩;have e0:(0:Int)+(k:Int)=k:=by omega
   rw[e0];have Zym:(k:Int)<=12:=by omega
   have snoc:∀idx:Int,0<=idx->idx<26->((k:Int)=way / 7 % size->idx=(c+((way / 7 % size) * (way / 7 % size) * 3+(way / 7 % size) * (c / 312 % 26))+i) % 26)->∀v7 v8:Option V,∃(t':Str) (v7' v8':Option V),([some (.int way),some (.int c),some (.str letters),some (.int size),some (.ref l),some (.int i),some (.str (t++⟨#[97+idx.toNat]⟩)),v7,v8]:St)=[some (.int way),some (.int c),some (.str letters),some (.int size),some (.ref l),some (.int i),some (.str t'),v7',v8']/\Hy=Hy/\t'.length=k+1/\(∀ch∈t'.cps.toList,ch∈letters.cps.toList)/\((way / 7 % size).toNat<k+1->t'.cps.toList[(way / 7 % size).toNat]? =some (97+((c+((way / 7 % size) * (way / 7 % size) * 3+(way / 7 % size) * (c / 312 % 26))+i) % 26).toNat)):=by
    intro idx i0 i1 ek v7 v8;refine⟨_,_,_,rfl,rfl,by rw[jV,tl];rfl,λch hch=>?_,λhp=>?_⟩
    ·rw[CV]at hch;rcases List.mem_append.mp hch with h | h
     ·exact tm ch h
     ·have:ch=97+idx.toNat:=List.mem_singleton.mp h;rw[this];exact X3 (by omega)
    ·rw[CV]
     by_cases hpk:(way / 7 % size).toNat<k
     ·rw[List.getElem?_append_left (by rw[str_len,tl];exact hpk)];exact tp hpk
     ·have epk:(way / 7 % size).toNat=k:=by omega
      rw[epk,List.getElem?_append_right (by rw[str_len,tl];exact Nat.le_refl _),str_len,tl,Nat.sub_self];rw[<- ek (by omega)];rfl
   walk_at"e";refine DP (λe=>?_) (λe=>?_)
   ·walk_at"e";have f0:=Int.emod_nonneg (c+((k:Int) * k * 3+k * (c / 312 % 26)+i)) (b:=26) (by decide);have f1:=Int.emod_lt_of_pos (c+((k:Int) * k * 3+k * (c / 312 % 26)+i)) (b:=26) (by decide);refine Zg2 (z:=letters) (by rw[Ow];exact dR (by decide)) (X4 f0 f1) ?_;refine mJ (dR (by show _+1<=_;omega)) ?_;walk_at"e";refine snoc _ f0 f1 (λek=>?_) _ _;rw[<- ek];congr 1;omega
   ·walk_at"e";have f0:=Int.emod_nonneg (c+((k:Int) * k * 3+k * (c / 312 % 26))) (b:=26) (by decide);have f1:=Int.emod_lt_of_pos (c+((k:Int) * k * 3+k * (c / 312 % 26))) (b:=26) (by decide);refine Zg2 (z:=letters) (by rw[Ow];exact dR (by decide)) (X4 f0 f1) ?_;refine mJ (dR (by show _+1<=_;omega)) ?_;walk_at"e";exact snoc _ f0 f1 (λek=>absurd ek e) _ _
  ·rintro σ Hy ⟨t,v7,v8,rfl,rfl,tl,tm,tp⟩;have tls:(t.length:Int)=size:=by omega
   refine Zmf ?_;walk_at"s";refine DP (λe=>?_) (λe=>?_)
   ·walk_at"s";have f0:0<=c % 26:=by omega
    have f1:c % 26<26:=by omega
    refine Zg2 (z:=letters) (by rw[Ow];exact dR (by decide)) (X4 f0 f1) ?_;walk_at"s";refine Zt5 (by omega) (by omega) (by show 1<=1000;decide) λt' _ et=>?_;obtain⟨r1,r2,r3⟩:=Zof et (by omega) (by omega) (X3 (by omega));exact Zmu hlx (by omega) (by omega) (by omega) (λH' h1 h2=>fin t' v7 v8 r1 (by rw[decide_eq_true e,if_pos rfl];exact⟨r2,r3⟩) H' h1 h2)
   ·exact Zmu hlx (by omega) (by omega) (by omega) (λH' h1 h2=>fin t v7 v8 (Zu (by omega) (by omega) tm) (by rw[decide_eq_false e,if_neg Bool.false_ne_true];exact⟨tls,tp (by omega)⟩) H' h1 h2)
 ·rintro σ Hx ⟨hs,v5,v6,v7,v8,rfl,sx,hlx,hlen,nd,hx⟩;have hh:∀x∈hs,Tf x.1/\3<=x.2/\x.2<=9:=λx hxm=>by
   obtain⟨j,hj⟩:=List.getElem?_of_mem hxm;obtain⟨⟨raw,e,wb,_⟩,b⟩:=hx j x hj;exact⟨by rw[e];exact Zo6 wb,b⟩
  have ok:uE hs:=⟨by omega,by omega,nd,hh⟩;walk_at"e";refine DP (λe=>?_) (λe=>?_)
  ·walk_at"e";obtain⟨as,g1,g2,g3⟩:=id hlx;refine⟨l,rfl,⟨_,fj.of g1⟩,Q5 hlx (by omega) λp hp=>?_⟩;have s2:=bY hp (.lst ((hs.map (·.1)).map V.str));refine⟨p,_,rfl,.inl (fj.of aq),rfl,Zb3 _,?_⟩;rw[if_pos rfl,Zg1];refine⟨_,rfl,?_⟩;generalize upd Hx p (.lst ((hs.map (·.1)).map V.str))=H2 at s2 ⊢;refine sO (λni=>?_) (λ_=>?_)
   ·obtain⟨x,hs,rfl⟩:∃x r,hs=x::r:=by
      cases hs with
      | nil=>exact absurd ok.1 (by decide)
      | cons x r=>exact⟨x,r,rfl⟩
    obtain⟨a,as,rfl⟩:∃x r,as=x::r:=by
      cases as with
      | nil=>cases g2
      | cons x r=>exact⟨x,r,rfl⟩
    have ga:=g3 0 a rfl;obtain⟨x',e1,e2⟩:=ga;cases e1;walk_at"e";refine jA (fj.of (s2 _ _ g1)) (iJ (by decide) rfl) ?_;walk_at"e";refine⟨a,_,1,_,rfl,rfl,jE.of (s2 _ _ e2),rfl,?_⟩;walk_at"e";refine⟨by show 2<=_;decide,λtp htp=>?_⟩;generalize zz:upd H2 tp _=H3;obtain⟨s3,c3⟩:=nwO htp zz;have s23:=s2.trans s3;walk_at"e";refine⟨l,_,0,0,rfl,rfl,s23 _ _ g1,uP (by rw[dM];show 0<as.length+1;omega),?_⟩;walk_at"e";have nt:∀{d:Addr}{xs:List V},H3 d=some (.tup xs)->d≠l:=λhc e=>by rw[e,s23 _ _ g1]at hc;cases hc
    refine q l (("sweeper",x.2)::hs) _ (Gk (sx.trans s23) hl) ⟨tp::as,aq,by rw[List.length_cons,List.length_cons];simpa using g2,λj d hd=>?_⟩ ⟨by rw[List.length_cons];omega,by rw[List.length_cons]at hlen ⊢;omega,?_,λy hy=>?_⟩
    ·match j,hd with
     | 0,hd=>cases hd;exact⟨_,rfl,by rw[aU (nt c3)];exact c3⟩
     | j+1,hd=>
      obtain⟨y,q1,q2⟩:=g3 (j+1) d hd;exact⟨y,q1,by rw[aU (nt (s23 _ _ q2))];exact s23 _ _ q2⟩
    ·rw[List.map_cons,List.nodup_cons]at nd ⊢;exact⟨λz=>ni (by rw[List.map_cons];exact List.mem_cons_of_mem _ z),nd.2⟩
    ·rcases List.mem_cons.mp hy with rfl | hy
     ·have:=hh x List.mem_cons_self;exact⟨(show Tf ("sweeper":Str)from⟨by decide +kernel,by decide⟩),this.2⟩
     ·exact hh y (List.mem_cons_of_mem _ hy)
   ·walk_at"e";exact q l hs _ (sx.trans s2) (hlx.same s2) ok
  ·walk_at"e";exact q l hs _ sx hlx ok
end
def Cw:Sp:=λvs H Q E=>∃c o,vs=[.int c,.int o]/\∀z:Str,uG z letters 12=true->Q (.str z) H
def wQ:Sp:=λvs H Q E=>∃c w m,vs=[.int c,.int w,.int m]/\Builtin.Int.intBits (c+3)<=2 ^ 20+4/\0<=m/\∀z:Int,0<=z->z<=m->Q (.int z) H
def flV(v:V):Prop:=(∃i,v=.int i)\/∃z,v=.str z
def Y9:Sp:=λvs H Q E=>∃a b,vs=[.ref a,.ref b]/\∃xs:List V,H a=some (.tup xs)/\H b=some (.tup xs)/\xs.length<=100/\(∀x∈xs,flV x)/\∀H',dF H H'->Q (.bl true) H'
section
variable {K:aV}{H:Hp}{Q:VK}{E:XK}{n:St->Hp->Prop}{bk ct:St->Hp->Prop}
theorem Oc{c o:Int}(q:∀z:Str,uG z letters 12=true->Q (.str z) H):um ⟨n,Q,bk,ct⟩ [some (.int c),some (.int o),none,none,none] H:=by
 unfold um;walk_at"e";have g0:0<=o / 12 % 26:=by omega
 have g26:o / 12 % 26<26:=by omega
 refine⟨_,rfl,by omega,by omega,forR (λk σ Hy=>∃t v4,σ=[some (.int c),some (.int o),some (.str letters),some (.str t),v4]/\Hy=H/\t.length=k/\∀ch∈t.cps.toList,ch∈letters.cps.toList) ⟨_,_,rfl,rfl,rfl,λch h=>by cases h⟩ ?_ ?_⟩
 ·rintro k σ Hy hk ⟨t,v4,rfl,rfl,tl,tm⟩;have e0:(0:Int)+(k:Int)=k:=by omega
  rw[e0];have Zym:(k:Int)<=12:=by omega
  walk_at"e";have f0:=Int.emod_nonneg (c+(k:Int) * k * (o / 12 % 26)) (b:=26) (by decide);have f1:=Int.emod_lt_of_pos (c+(k:Int) * k * (o / 12 % 26)) (b:=26) (by decide);refine Zg2 (z:=letters) (by rw[Ow];exact dR (by decide)) (X4 f0 f1) ?_;refine mJ (dR (by show _+1<=_;omega)) ?_;walk_at"e";refine⟨_,_,rfl,rfl,by rw[jV,tl];rfl,λch hch=>?_⟩;rw[CV]at hch;rcases List.mem_append.mp hch with h | h
  ·exact tm ch h
  ·have:ch=97+((c+(k:Int) * k * (o / 12 % 26)) % 26).toNat:=List.mem_singleton.mp h;rw[this];exact X3 (by omega)
 ·rintro σ Hy ⟨t,v4,rfl,rfl,tl,tm⟩;walk_at"e";exact q t (Zu (by omega) (by omega) tm)
theorem K9{a b:Addr}(q:∃xs:List V,H a=some (.tup xs)/\H b=some (.tup xs)/\xs.length<=100/\(∀x∈xs,flV x)/\∀H',dF H H'->Q (.bl true) H'):rO K zP ⟨n,Q,bk,ct⟩ [some (.ref a),some (.ref b),none,none] H:=by
 obtain⟨xs,ha,hb,h100,fx,h⟩:=q;unfold rO;walk_at"e";refine YB ha ?_;walk_at"e";refine⟨a,_,rfl,.inr (jE.of ha),?_⟩;walk_at"e";refine⟨b,_,rfl,.inr (jE.of hb),?_⟩;walk_at"e";refine sO (λz=>absurd rfl z) (λ_=>?_);walk_at"e";refine⟨a,b,rfl,⟨_,jE.of ha⟩,⟨_,jE.of hb⟩,?_⟩;refine Zwb (t1:=true) (t2:=true) xs xs rfl (λi σ H2=>∃v2 v3,σ=[some (.ref a),some (.ref b),v2,v3]/\dF H H2) ⟨none,none,rfl,dF.refl _⟩ (λi σ H2 _ ⟨_,_,_,s⟩=>⟨jE.of (s _ _ ha),jE.of (s _ _ hb)⟩) ?_ ?_
 ·rintro i x y tp σ H2 hx hy ⟨v2,v3,rfl,s2⟩ htp;rw[hx]at hy;cases hy;generalize zz:upd H2 tp _=H3;obtain⟨s3,c3⟩:=nwO htp zz;refine⟨tp,_,rfl,jE.of c3,rfl,?_⟩;refine⟨_,_,rfl,?_⟩;walk_at"e";refine⟨_,_,rfl,?_⟩;walk_at"e";refine⟨rfl,?_⟩;rcases fx x (List.mem_of_getElem? hx)with ⟨j,rfl⟩ | ⟨z,rfl⟩
  ·walk_at"e";refine⟨j,rfl,?_⟩;walk_at"e";refine sO (λz=>absurd rfl z) (λ_=>?_);walk_at"e";exact⟨_,_,rfl,s2.trans s3⟩
  ·walk_at"e";refine sO (λz=>absurd rfl z) (λ_=>?_);walk_at"e";exact⟨_,_,rfl,s2.trans s3⟩
 ·rintro σ H2 ⟨v2,v3,rfl,s2⟩;walk_at"e";exact h _ s2
end
section
variable {K:aV}{X:Cs}{aC aL aK aP aJ aH aG aO aF aD aA:Addr}{H:Hp}{Q:VK}{E:XK}{n:St->Hp->Prop}{bk ct:St->Hp->Prop}
theorem Ut{c w m:Int}(q:Builtin.Int.intBits (c+3)<=2 ^ 20+4/\0<=m/\∀z:Int,0<=z->z<=m->Q (.int z) H):xJ ⟨n,Q,bk,ct⟩ [some (.int c),some (.int w),some (.int m)] H:=by
 obtain⟨hb,m0,h⟩:=q;unfold xJ;walk_at"e";refine DP (λ_=>?_) (λ_=>?_)
 ·walk_at"e";refine i_I (IntMulOk.of_le hb (show Builtin.Int.intBits 31415926535897932384626433832795028841971693993751<=200 by decide) (by decide)) ?_;walk_at"e";have f0:=Int.emod_nonneg ((c+3) * 31415926535897932384626433832795028841971693993751) (b:=m+1) (by omega);have f1:=Int.emod_lt_of_pos ((c+3) * 31415926535897932384626433832795028841971693993751) (b:=m+1) (by omega);exact h _ f0 (by omega)
 ·walk_at"e";have f0:=Int.emod_nonneg c (b:=m+1) (by omega);have f1:=Int.emod_lt_of_pos c (b:=m+1) (by omega);exact h _ f0 (by omega)
end
def Zb7:Str:="many"
def Zb8:Str:="bulk"
def vR:Str:="field"
def qH(h:Nat)(x:Str×Int):Qd:=(kJ,.int h,x.1,.str x.1)
def qN(f:Str)(i:Int):Qd:=(f,.int i,tS i,.int i)
def qW(z:Str):Qd:=(Aa,.str z,z,.str z)
theorem HL.at{H:Hp}{l:Addr}{hs:List (Str×Int)}(h:HL H l hs){i:Nat}{x:Str×Int}(e:hs[i]? =some x):∃(as:List Addr) (b:Addr),H l=some (.lst (as.map V.ref))/\as[i]? =some b/\H b=some (.tup [.str x.1,.int x.2]):=by
 obtain⟨as,h1,h2,h3⟩:=h;have hi:i<as.length:=by rw[h2];exact(gG e).1
 obtain⟨y,e1,e2⟩:=h3 i as[i] (eV hi);rw[e]at e1;cases e1;exact⟨as,as[i],h1,eV hi,e2⟩
section
variable {hs:List (Str×Int)}
theorem okH{h:Nat}{x:Str×Int}(e:hs[h]? =some x)(k:Tf x.1):QOk hs (qH h x):=⟨.hand e k,by have:=(Pj k.1).1;show x.1.length<=100;omega⟩
theorem okN{f:Str}{m i:Int}(e:GF.lookup f=some (.int m))(hm:m<=1000000000000)(h0:0<=i)(h1:i<=m):QOk hs (qN f i):=
 ⟨.num e h0 h1 hm,Nat.le_trans (Ea h0 (Int.lt_of_le_of_lt (Int.le_trans h1 hm) (by decide))) (by decide)⟩
theorem Zny{i:Int}(h0:-(10 ^ 60)<i)(h1:i<10 ^ 60):(tS i).length<=62:=by
 by_cases hi:0<=i
 ·exact Nat.le_trans (Ea hi h1) (by decide)
 ·obtain⟨m,rfl⟩:∃m:Nat,i=-((m+1:Nat):Int):=⟨(-i).toNat - 1,by omega⟩;have e1:=Zsl m;have e2:=(Nat.length_toDigits_le_iff (n:=m+1) (b:=10) (k:=60) (by decide) (by decide)).mpr (by omega);rw[<- str_len,e1,List.length_cons,dM];omega
theorem okL{i:Int}(h0:-(10 ^ 60)<i)(h1:i<10 ^ 60):QOk hs (qN Ck i):=⟨.load h0 h1,Nat.le_trans (Zny h0 h1) (by decide)⟩
theorem okW{z:Str}(k:uG z letters 12=true):QOk hs (qW z):=⟨.word k,by have:=(Pj k).1;show z.length<=100;omega⟩
theorem slH{o h:Nat}{x:Str×Int}{r:List Qd}(q:FJ hs h r):FJ hs o (qH h x::r):=.inl ⟨rfl,h,rfl,q⟩
theorem slS{o:Nat}{x:Str×Int}{s:Int}{r:List Qd}(e:hs[o]? =some x)(l:s<x.2)(q:FJ hs o r):FJ hs o (qN iC s::r):=.inr ⟨by show iC≠kJ;decide,q,λ_=>⟨s,x,rfl,e,l⟩⟩
theorem slO{o:Nat}{p:Qd}{r:List Qd}(h1:p.1≠kJ)(h2:p.1≠iC)(q:FJ hs o r):FJ hs o (p::r):=.inr ⟨h1,q,λz=>absurd z h2⟩
theorem FW.fl{r:m7}(h:FW hs r):(eY r).length<=100/\∀x∈eY r,flV x:=by
 cases r with
 | sw m=>
  refine⟨by show 2<=100;decide,λx hx=>?_⟩;rcases List.mem_cons.mp hx with rfl | hx
  ·exact .inr ⟨_,rfl⟩
  ·rw[List.mem_singleton.mp hx];exact .inl ⟨_,rfl⟩
 | dd w q qs=>
  obtain⟨ef,hm,Dw,so,h8⟩:=h;refine⟨by show(List.map _ (q::qs)).length+1<=100;rw[dM,List.length_cons];omega,λx hx=>?_⟩;rcases List.mem_cons.mp hx with rfl | hx
  ·exact .inr ⟨_,rfl⟩
  ·obtain⟨z,hz,rfl⟩:=List.mem_map.mp hx;have fv:=(Dw z hz).1;generalize z.1=f,z.2.1=v,z.2.2.1=t,z.2.2.2=d at fv ⊢;cases fv
   ·exact .inl ⟨_,rfl⟩
   ·exact .inl ⟨_,rfl⟩
   ·exact .inl ⟨_,rfl⟩
   ·exact .inr ⟨_,rfl⟩
end
theorem Cu{p:Qd->Prop}:(∀x∈([]:List Qd),p x):=λx h=>by cases h
theorem jW{p:Qd->Prop}{q:Qd}{r:List Qd}(h:p q)(t:∀x∈r,p x):∀x∈q::r,p x:=λx hx=>by
 rcases List.mem_cons.mp hx with rfl | hx
 ·exact h
 ·exact t x hx
theorem Zql:(("make":Str),[kJ,iC,Zb7,Zb8])∈Aj:=by decide
theorem Zqn:(("get":Str),[kJ,iC,iC,vR])∈Aj:=by decide
theorem Ztx:(("put":Str),[kJ,iC,vR,iC])∈Aj:=by decide
theorem Zqo:(("copy":Str),[kJ,iC,iC])∈Aj:=by decide
theorem Zg8:(("drop":Str),[kJ,iC])∈Aj:=by decide
theorem Zqm:(("give":Str),[kJ,iC,kJ,iC])∈Aj:=by decide
theorem Zn5:(("write":Str),[kJ,iC,Ck])∈Aj:=by decide
theorem Zqj:(("read":Str),[kJ,iC])∈Aj:=by decide
theorem Zqk:(("name":Str),[kJ,iC,Aa])∈Aj:=by decide
theorem Zqi:(("seek":Str),[kJ,iC,Aa])∈Aj:=by decide
def O8:Sp:=λvs H Q E=>∃c k l,vs=[.int c,.int k,.ref l]/\∃hs:List (Str×Int),HL H l hs/\uE hs/\0<=k/\k<1000/\Builtin.Int.intBits c<=2 ^ 20+2/\∀a r H',dF H H'->FW hs r->H' a=some (.tup (eY r))->Q (.ref a) H'
section
variable {K:aV}{H:Hp}{Q:VK}{E:XK}{n:St->Hp->Prop}{bk ct:St->Hp->Prop}
theorem Vl{c k way other s t f load:Int}{h g:Nat}{word:Str}{l:Addr}{hs:List (Str×Int)}{x y:Str×Int}(hl:HL H l hs)(ok:uE hs)(cb:Builtin.Int.intBits (c+3)<=2 ^ 20+4)
  (xh:hs[h]? =some x) (xg:hs[g]? =some y) (w0:0<=way) (s0:0<=s) (s1:s<x.2) (t0:0<=t) (t1:t<x.2) (f0:0<=f) (f1:f<=999) (l0:-(10 ^ 60)<load) (l1:load<10 ^ 60) (wb:uG word letters 12=true)
  (q:∀a r H',dF H H'->FW hs r->H' a=some (.tup (eY r))->Q (.ref a) H'):
  (eG (dG (pQ K) (mD (aj (iK (aj (tC (.str "make")) (aj (ak 5) (aj (ak 7) (aj (dG (rI (λ_ j=>0<j) λi j=>.int (i % j)) (dG (rI tX λi j=>.int (i / j)) (ak 4) (tC (.int 45))) (tC (.int 9))) (aj (dH wQ [] E0 (aj (ak 0) (aj (ak 3) (aj (dG (rI Zj9 λi j=>.int (i ^ j.toNat)) (tC (.int 10)) (tC (.int 12))) bW)))) bW)))))) (aj (iK (aj (tC (.str "get")) (aj (ak 5) (aj (ak 7) (aj (ak 8) (aj (ak 9) bW)))))) (aj (iK (aj (tC (.str "put")) (aj (ak 5) (aj (ak 8) (aj (ak 9) (aj (ak 7) bW)))))) (aj (iK (aj (tC (.str "copy")) (aj (ak 5) (aj (ak 7) (aj (ak 8) bW))))) (aj (iK (aj (tC (.str "drop")) (aj (ak 5) (aj (ak 7) bW)))) (aj (iK (aj (tC (.str "give")) (aj (ak 5) (aj (ak 7) (aj (ak 6) (aj (dG (rI (λ_ j=>0<j) λi j=>.int (i % j)) (dG (rI tX λi j=>.int (i / j)) (ak 3) (tC (.int 55))) (dG (iQ K) (dG (pQ K) (ak 2) (ak 6)) (tC (.int 1)))) bW)))))) (aj (iK (aj (tC (.str "write")) (aj (ak 5) (aj (ak 8) (aj (ak 10) bW))))) (aj (iK (aj (tC (.str "read")) (aj (ak 5) (aj (ak 8) bW)))) (aj (iK (aj (tC (.str "name")) (aj (ak 5) (aj (ak 8) (aj (ak 11) bW))))) (aj (iK (aj (tC (.str "seek")) (aj (ak 5) (aj (ak 7) (aj (ak 11) bW))))) (aj (iK (aj (tC (.str "sweep")) (aj (dG (qt λi j=>.int (i+j)) (tC (.int 1)) (dH wQ [] E0 (aj (ak 0) (aj (ak 3) (aj (tC (.int 9998)) bW))))) bW))) bW)))))))))))) (dG (rI (λ_ j=>0<j) λi j=>.int (i % j)) (ak 3) (tC (.int 11))))) ⟨n,Q,bk,ct⟩ [some (.int c),some (.int k),some (.ref l),some (.int way),some (.int other),some (.int h),some (.int g),some (.int s),some (.int t),some (.int f),some (.int load),some (.str word)] H:=by
 obtain⟨k1,k5,nd,hx⟩:=ok;have bx:=hx x (List.mem_of_getElem? xh);have by':=hx y (List.mem_of_getElem? xg);obtain⟨as,g1,g2,g3⟩:=id hl;have eb:∀i:Nat,i<as.length->as[i]? =some (as.getD i 0):=λi hi=>by rw[eV hi,List.getD_eq_getElem?_getD,eV hi];rfl
 have hgl:g<as.length:=by rw[g2];exact(gG xg).1
 obtain⟨y',ey,gy⟩:=g3 g _ (eb g hgl);rw[xg]at ey;cases ey;walk_at"e";refine⟨_,_,_,rfl,cb,by decide,λbulk b0 b1=>?_⟩;walk_at"e";refine⟨by show 5<=_;decide,λa0 n0=>?_⟩;generalize zz:upd H a0 _=H1;obtain⟨e0,c0⟩:=nwO n0 zz;have z1:dF H H1:=e0;walk_at"e";refine⟨by show 5<=_;decide,λa1 n1=>?_⟩;generalize zz:upd H1 a1 _=H2;obtain⟨e1,c1⟩:=nwO n1 zz
 replace c0:=e1 _ _ c0
 have z2:dF H H2:=z1.trans e1;walk_at"e";refine⟨by show 5<=_;decide,λa2 n2=>?_⟩;generalize zz:upd H2 a2 _=H3;obtain⟨e2,c2⟩:=nwO n2 zz
 replace c0:=e2 _ _ c0
 replace c1:=e2 _ _ c1
 have z3:dF H H3:=z2.trans e2;walk_at"e";refine⟨by show 4<=_;decide,λa3 n3=>?_⟩;generalize zz:upd H3 a3 _=H4;obtain⟨e3,c3⟩:=nwO n3 zz
 replace c0:=e3 _ _ c0
 replace c1:=e3 _ _ c1
 replace c2:=e3 _ _ c2
 have z4:dF H H4:=z3.trans e3;walk_at"e";refine⟨by show 3<=_;decide,λa4 n4=>?_⟩;generalize zz:upd H4 a4 _=H5;obtain⟨e4,c4⟩:=nwO n4 zz
 replace c0:=e4 _ _ c0
 replace c1:=e4 _ _ c1
 replace c2:=e4 _ _ c2
 replace c3:=e4 _ _ c3
 have z5:dF H H5:=z4.trans e4;walk_at"e";refine jA (v:=.ref (as.getD g 0)) (fj.of (z5 _ _ g1)) (nD (by rw[fV,eb g hgl];rfl)) ?_;walk_at"e";refine⟨_,_,1,_,rfl,rfl,jE.of (z5 _ _ gy),rfl,?_⟩;walk_at"e";refine⟨by show 5<=_;decide,λa5 n5=>?_⟩;generalize zz:upd H5 a5 _=H6;obtain⟨e5,c5⟩:=nwO n5 zz
 replace c0:=e5 _ _ c0
 replace c1:=e5 _ _ c1
 replace c2:=e5 _ _ c2
 replace c3:=e5 _ _ c3
 replace c4:=e5 _ _ c4
 have z6:dF H H6:=z5.trans e5;walk_at"e";refine⟨by show 4<=_;decide,λa6 n6=>?_⟩;generalize zz:upd H6 a6 _=H7;obtain⟨e6,c6⟩:=nwO n6 zz
 replace c0:=e6 _ _ c0
 replace c1:=e6 _ _ c1
 replace c2:=e6 _ _ c2
 replace c3:=e6 _ _ c3
 replace c4:=e6 _ _ c4
 replace c5:=e6 _ _ c5
 have z7:dF H H7:=z6.trans e6;walk_at"e";refine⟨by show 3<=_;decide,λa7 n7=>?_⟩;generalize zz:upd H7 a7 _=H8;obtain⟨e7,c7⟩:=nwO n7 zz
 replace c0:=e7 _ _ c0
 replace c1:=e7 _ _ c1
 replace c2:=e7 _ _ c2
 replace c3:=e7 _ _ c3
 replace c4:=e7 _ _ c4
 replace c5:=e7 _ _ c5
 replace c6:=e7 _ _ c6
 have z8:dF H H8:=z7.trans e7;walk_at"e";refine⟨by show 4<=_;decide,λa8 n8=>?_⟩;generalize zz:upd H8 a8 _=H9;obtain⟨e8,c8⟩:=nwO n8 zz
 replace c0:=e8 _ _ c0
 replace c1:=e8 _ _ c1
 replace c2:=e8 _ _ c2
 replace c3:=e8 _ _ c3
 replace c4:=e8 _ _ c4
 replace c5:=e8 _ _ c5
 replace c6:=e8 _ _ c6
 replace c7:=e8 _ _ c7
 have z9:dF H H9:=z8.trans e8;walk_at"e";refine⟨by show 4<=_;decide,λa9 n9=>?_⟩;generalize zz:upd H9 a9 _=H10;obtain⟨e9,c9⟩:=nwO n9 zz
 replace c0:=e9 _ _ c0
 replace c1:=e9 _ _ c1
 replace c2:=e9 _ _ c2
 replace c3:=e9 _ _ c3
 replace c4:=e9 _ _ c4
 replace c5:=e9 _ _ c5
 replace c6:=e9 _ _ c6
 replace c7:=e9 _ _ c7
 replace c8:=e9 _ _ c8
 have z10:dF H H10:=z9.trans e9;walk_at"e";refine⟨_,_,_,rfl,cb,by decide,λstp p0 p1=>?_⟩;walk_at"e";refine⟨by show 2<=_;decide,λa10 n10=>?_⟩;generalize zz:upd H10 a10 _=H11;obtain⟨e10,c10⟩:=nwO n10 zz
 replace c0:=e10 _ _ c0
 replace c1:=e10 _ _ c1
 replace c2:=e10 _ _ c2
 replace c3:=e10 _ _ c3
 replace c4:=e10 _ _ c4
 replace c5:=e10 _ _ c5
 replace c6:=e10 _ _ c6
 replace c7:=e10 _ _ c7
 replace c8:=e10 _ _ c8
 replace c9:=e10 _ _ c9
 have z11:dF H H11:=z10.trans e10;walk_at"e";refine⟨by show 11<=_;decide,λal nl=>?_⟩;generalize zz:upd H11 al _=H12;obtain⟨e11,c11⟩:=nwO nl zz;have z12:=z11.trans e11;walk_at"e";have sx:s<=999:=by omega
 have tx:t<=999:=by omega
 have gs0:0<=way / 55 % y.2:=Int.emod_nonneg _ (by omega);have gs1:way / 55 % y.2<y.2:=Int.emod_lt_of_pos _ (by omega);have kh:=okH xh bx.1;have kg:=okH xg by'.1;have ks:QOk hs (qN iC s):=okN (m:=999) rfl (by decide) s0 sx;have kt:QOk hs (qN iC t):=okN (m:=999) rfl (by decide) t0 tx;have kf:QOk hs (qN vR f):=okN (m:=999) rfl (by decide) f0 f1;have kl:QOk hs (qN Ck load):=okL l0 l1;have kw:QOk hs (qW word):=okW wb;have hc:way % 11=0\/way % 11=1\/way % 11=2\/way % 11=3\/way % 11=4\/way % 11=5\/way % 11=6\/way % 11=7\/way % 11=8\/way % 11=9\/way % 11=10:=by omega
 rcases hc with hc | hc | hc | hc | hc | hc | hc | hc | hc | hc | hc
 ·rw[hc];refine jA (fj.of c11) (iJ (by decide) rfl) ?_;exact q a0 (.dd "make" (qH h x) [qN iC s,qN Zb7 (other / 45 % 9),qN Zb8 bulk]) H12 z12 ⟨rfl,Zql,(jW kh (jW ks (jW (okN (m:=8) rfl (by decide) (by omega) (by omega)) (jW (okN (m:=1000000000000) rfl (by decide) b0 b1) Cu)))),(slH (slS xh s1 (slO (by show Zb7≠kJ;decide) (by show Zb7≠iC;decide) (slO (by show Zb8≠kJ;decide) (by show Zb8≠iC;decide) trivial)))),(show 3<=8 by decide)⟩ (e11 _ _ c0)
 ·rw[hc];refine jA (fj.of c11) (iJ (by decide) rfl) ?_;exact q a1 (.dd "get" (qH h x) [qN iC s,qN iC t,qN vR f]) H12 z12 ⟨rfl,Zqn,(jW kh (jW ks (jW kt (jW kf Cu)))),(slH (slS xh s1 (slS xh t1 (slO (by show vR≠kJ;decide) (by show vR≠iC;decide) trivial)))),(show 3<=8 by decide)⟩ (e11 _ _ c1)
 ·rw[hc];refine jA (fj.of c11) (iJ (by decide) rfl) ?_;exact q a2 (.dd "put" (qH h x) [qN iC t,qN vR f,qN iC s]) H12 z12 ⟨rfl,Ztx,(jW kh (jW kt (jW kf (jW ks Cu)))),(slH (slS xh t1 (slO (by show vR≠kJ;decide) (by show vR≠iC;decide) (slS xh s1 trivial)))),(show 3<=8 by decide)⟩ (e11 _ _ c2)
 ·rw[hc];refine jA (fj.of c11) (iJ (by decide) rfl) ?_;exact q a3 (.dd "copy" (qH h x) [qN iC s,qN iC t]) H12 z12 ⟨rfl,Zqo,(jW kh (jW ks (jW kt Cu))),(slH (slS xh s1 (slS xh t1 trivial))),(show 2<=8 by decide)⟩ (e11 _ _ c3)
 ·rw[hc];refine jA (fj.of c11) (iJ (by decide) rfl) ?_;exact q a4 (.dd "drop" (qH h x) [qN iC s]) H12 z12 ⟨rfl,Zg8,(jW kh (jW ks Cu)),(slH (slS xh s1 trivial)),(show 1<=8 by decide)⟩ (e11 _ _ c4)
 ·rw[hc];refine jA (fj.of c11) (iJ (by decide) rfl) ?_;exact q a5 (.dd "give" (qH h x) [qN iC s,qH g y,qN iC (way / 55 % y.2)]) H12 z12 ⟨rfl,Zqm,(jW kh (jW ks (jW kg (jW (okN (m:=999) rfl (by decide) gs0 (by omega)) Cu)))),(slH (slS xh s1 (slH (slS xg gs1 trivial)))),(show 3<=8 by decide)⟩ (e11 _ _ c5)
 ·rw[hc];refine jA (fj.of c11) (iJ (by decide) rfl) ?_;exact q a6 (.dd "write" (qH h x) [qN iC t,qN Ck load]) H12 z12 ⟨rfl,Zn5,(jW kh (jW kt (jW kl Cu))),(slH (slS xh t1 (slO (by show Ck≠kJ;decide) (by show Ck≠iC;decide) trivial))),(show 2<=8 by decide)⟩ (e11 _ _ c6)
 ·rw[hc];refine jA (fj.of c11) (iJ (by decide) rfl) ?_;exact q a7 (.dd "read" (qH h x) [qN iC t]) H12 z12 ⟨rfl,Zqj,(jW kh (jW kt Cu)),(slH (slS xh t1 trivial)),(show 1<=8 by decide)⟩ (e11 _ _ c7)
 ·rw[hc];refine jA (fj.of c11) (iJ (by decide) rfl) ?_;exact q a8 (.dd "name" (qH h x) [qN iC t,qW word]) H12 z12 ⟨rfl,Zqk,(jW kh (jW kt (jW kw Cu))),(slH (slS xh t1 (slO (by show Aa≠kJ;decide) (by show Aa≠iC;decide) trivial))),(show 2<=8 by decide)⟩ (e11 _ _ c8)
 ·rw[hc];refine jA (fj.of c11) (iJ (by decide) rfl) ?_;exact q a9 (.dd "seek" (qH h x) [qN iC s,qW word]) H12 z12 ⟨rfl,Zqi,(jW kh (jW ks (jW kw Cu))),(slH (slS xh s1 (slO (by show Aa≠kJ;decide) (by show Aa≠iC;decide) trivial))),(show 2<=8 by decide)⟩ (e11 _ _ c9)
 ·rw[hc];refine jA (fj.of c11) (iJ (by decide) rfl) ?_;exact q a10 (.sw (1+stp)) H12 z12 ⟨by omega,by omega⟩ (e11 _ _ c10)
theorem Qu{c k way other s t f load:Int}{h g:Nat}{l:Addr}{hs:List (Str×Int)}{x y:Str×Int}(hl:HL H l hs)(ok:uE hs)(cb:Builtin.Int.intBits (c+3)<=2 ^ 20+4)
  (xh:hs[h]? =some x) (xg:hs[g]? =some y) (w0:0<=way) (s0:0<=s) (s1:s<x.2) (t0:0<=t) (t1:t<x.2) (f0:0<=f) (f1:f<=999) (l0:-(10 ^ 60)<load) (l1:load<10 ^ 60)
  (q:∀a r H',dF H H'->FW hs r->H' a=some (.tup (eY r))->Q (.ref a) H'):
  (di (eE (dH Cw [] E0 (aj (ak 0) (aj (ak 4) bW))) (cX 11))
   (di (iW (fD (dG (Iz) (dG (rI (λ_ j=>0<j) λi j=>.int (i % j)) (dG (rI tX λi j=>.int (i / j)) (ak 4) (tC (.int 3))) (tC (.int 5))) (tC (.int 1)))) (eE (tC (.str "sweep")) (cX 11)) fK)
   (eG (dG (pQ K) (mD (aj (iK (aj (tC (.str "make")) (aj (ak 5) (aj (ak 7) (aj (dG (rI (λ_ j=>0<j) λi j=>.int (i % j)) (dG (rI tX λi j=>.int (i / j)) (ak 4) (tC (.int 45))) (tC (.int 9))) (aj (dH wQ [] E0 (aj (ak 0) (aj (ak 3) (aj (dG (rI Zj9 λi j=>.int (i ^ j.toNat)) (tC (.int 10)) (tC (.int 12))) bW)))) bW)))))) (aj (iK (aj (tC (.str "get")) (aj (ak 5) (aj (ak 7) (aj (ak 8) (aj (ak 9) bW)))))) (aj (iK (aj (tC (.str "put")) (aj (ak 5) (aj (ak 8) (aj (ak 9) (aj (ak 7) bW)))))) (aj (iK (aj (tC (.str "copy")) (aj (ak 5) (aj (ak 7) (aj (ak 8) bW))))) (aj (iK (aj (tC (.str "drop")) (aj (ak 5) (aj (ak 7) bW)))) (aj (iK (aj (tC (.str "give")) (aj (ak 5) (aj (ak 7) (aj (ak 6) (aj (dG (rI (λ_ j=>0<j) λi j=>.int (i % j)) (dG (rI tX λi j=>.int (i / j)) (ak 3) (tC (.int 55))) (dG (iQ K) (dG (pQ K) (ak 2) (ak 6)) (tC (.int 1)))) bW)))))) (aj (iK (aj (tC (.str "write")) (aj (ak 5) (aj (ak 8) (aj (ak 10) bW))))) (aj (iK (aj (tC (.str "read")) (aj (ak 5) (aj (ak 8) bW)))) (aj (iK (aj (tC (.str "name")) (aj (ak 5) (aj (ak 8) (aj (ak 11) bW))))) (aj (iK (aj (tC (.str "seek")) (aj (ak 5) (aj (ak 7) (aj (ak 11) bW))))) (aj (iK (aj (tC (.str "sweep")) (aj (dG (qt λi j=>.int (i+j)) (tC (.int 1)) (dH wQ [] E0 (aj (ak 0) (aj (ak 3) (aj (tC (.int 9998)) bW))))) bW))) bW)))))))))))) (dG (rI (λ_ j=>0<j) λi j=>.int (i % j)) (ak 3) (tC (.int 11))))))) ⟨n,Q,bk,ct⟩ [some (.int c),some (.int k),some (.ref l),some (.int way),some (.int other),some (.int h),some (.int g),some (.int s),some (.int t),some (.int f),some (.int load),none] H:=by
 walk_at"e";refine⟨_,_,rfl,λword wb=>?_⟩;walk_at"e";refine DP (λ_=>?_) (λ_=>?_)
 ·exact Vl (word:="sweep") hl ok cb xh xg w0 s0 s1 t0 t1 f0 f1 l0 l1 (by decide +kernel) q
 ·exact Vl hl ok cb xh xg w0 s0 s1 t0 t1 f0 f1 l0 l1 wb q
theorem p60:((10:Int) ^ Int.toNat 60)=10 ^ 60:=rfl
theorem RG{c k:Int}{l:Addr}(q:∃hs:List (Str×Int),HL H l hs/\uE hs/\0<=k/\k<1000/\Builtin.Int.intBits c<=2 ^ 20+2/\∀a r H',dF H H'->FW hs r->H' a=some (.tup (eY r))->Q (.ref a) H'):vB K wQ Cw ⟨n,Q,bk,ct⟩ [some (.int c),some (.int k),some (.ref l),none,none,none,none,none,none,none,none,none] H:=by
 obtain⟨hs,hl,ok,k0,k1,cb',q⟩:=q;have cb:Builtin.Int.intBits (c+3)<=2 ^ 20+4:=Nat.le_trans (intBits_add_le (n:=2) cb' (by decide)) (by decide);obtain⟨o1,o5,nd,hx⟩:=id ok;obtain⟨as,g1,g2,g3⟩:=id hl;have eb:∀i:Nat,i<as.length->as[i]? =some (as.getD i 0):=λi hi=>by rw[eV hi,List.getD_eq_getElem?_getD,eV hi];rfl
 unfold vB;walk_at"e";generalize Zyh:(c+17 * k * k+29) * 48271 % 7919=way;generalize hoth:(c+31 * k+7) * 16807 % 6133=other;have w0:0<=way:=by rw[<- Zyh];exact Int.emod_nonneg _ (by decide)
 have v0:0<=other:=by rw[<- hoth];exact Int.emod_nonneg _ (by decide)
 refine qZ (fj.of g1) ?_;rw[dM,g2];walk_at"e";refine qZ (fj.of g1) ?_;rw[dM,g2];walk_at"e";have hn1:(0:Int)<(hs.length:Int):=by omega
 have a0:=Int.emod_nonneg (way / 11) (b:=(hs.length:Int)) (by omega);have a1:=Int.emod_lt_of_pos (way / 11) hn1;have b0:=Int.emod_nonneg other (b:=(hs.length:Int)) (by omega);have b1:=Int.emod_lt_of_pos other hn1;generalize way / 11 % (hs.length:Int)=h' at a0 a1 ⊢;generalize other % (hs.length:Int)=g' at b0 b1 ⊢;obtain⟨h,rfl⟩:=Int.eq_ofNat_of_zero_le a0;obtain⟨g,rfl⟩:=Int.eq_ofNat_of_zero_le b0;have xh:hs[h]? =some hs[h]:=eV (by omega);have xg:hs[g]? =some hs[g]:=eV (by omega);have bx:=hx _ (List.mem_of_getElem? xh);obtain⟨x,hxe⟩:∃x,x=hs[h]:=⟨_,rfl⟩;rw[<- hxe]at xh bx;obtain⟨as1,b,g1',eb',gb⟩:=hl.at xh;have x0:0<x.2:=by omega
 have ixh:∀{H':Hp},dF H H'->fj K H' l (as1.map V.ref):=λs=>fj.of (s _ _ g1');have ixa:Ur (as1.map V.ref) (h:Int)=some (.ref b):=nD (by rw[fV,eb'];rfl);refine jA (ixh (dF.refl _)) ixa ?_;walk_at"e";refine⟨b,_,1,_,rfl,rfl,jE.of gb,rfl,?_⟩;walk_at"e";refine jA (ixh (dF.refl _)) ixa ?_;walk_at"e";refine⟨b,_,1,_,rfl,rfl,jE.of gb,rfl,?_⟩;walk_at"e";have s0:=Int.emod_nonneg (other / 5) (b:=x.2) (by omega);have s1:=Int.emod_lt_of_pos (other / 5) x0;have t0:=Int.emod_nonneg (way / 55) (b:=x.2) (by omega);have t1:=Int.emod_lt_of_pos (way / 55) x0;generalize other / 5 % x.2=s at s0 s1 ⊢;generalize way / 55 % x.2=t at t0 t1 ⊢;refine⟨by show 2<=_;decide,λe he=>?_⟩;generalize zz:upd H e _=H2;obtain⟨s2,c2⟩:=nwO he zz;walk_at"e";obtain⟨m,em,m0,m1⟩:∃m:Int,Ur [V.int 8,V.int 999] (other % 2)=some (.int m)/\0<=m/\m<=999:=by
  rcases(show other % 2=0\/other % 2=1 by omega)with z | z<;>rw[z]
  ·exact⟨8,rfl,by decide,by decide⟩
  ·exact⟨999,rfl,by decide,by decide⟩
 refine jA (fj.of c2) em ?_;walk_at"e";refine⟨_,_,_,rfl,cb,m0,λf f0 f1=>?_⟩;walk_at"e";refine⟨_,_,_,rfl,cb,by rw[p60];decide,λload l0 l1=>?_⟩;rw[p60]at l1;walk_at"e";have q2:∀a r H',dF H2 H'->FW hs r->H' a=some (.tup (eY r))->Q (.ref a) H':=λa r H' s3=>q a r H' (s2.trans s3);refine DP (λ_=>?_) (λ_=>?_)
 ·walk_at"s";exact Qu (load:=0 - load) (hl.same s2) ok cb xh xg w0 s0 s1 t0 t1 f0 (by omega) (by omega) (by omega) q2
 ·exact Qu (hl.same s2) ok cb xh xg w0 s0 s1 t0 t1 f0 (by omega) (by omega) (by omega) q2
end
def Zrg:Str:="give"
theorem Zb1:∀p∈Aj,p.1≠kO/\∀i:Nat,i<8->(p.2[i+1]? =some kJ↔p.1=Zrg/\i=1):=by decide +kernel
theorem Fv.Zeb{hs:List (Str×Int)}{f t:Str}{v d:V}(h:Fv hs f v t d)(e:f=kJ):∃(k:Nat) (x:Str×Int),hs[k]? =some x/\v=.int k/\t=x.1/\Tf x.1:=by
 cases h with
 | hand e2 k=>exact⟨_,_,e2,rfl,rfl,k⟩
 | num e2=>rw[e,show GF.lookup kJ=none by decide]at e2;cases e2
 | load=>exact absurd e (by decide)
 | word=>exact absurd e (by decide)
theorem Fv.str{hs:List (Str×Int)}{f t:Str}{v d:V}(h:Fv hs f v t d)(e:f≠kJ){H:Hp}{Q:VK}(q:Q (.str t) H):Zgj [v] H Q:=by
 have big:∀i:Int,-(10 ^ 60)<i->i<10 ^ 60->i.natAbs.log2<1920:=λi a b=>by
  by_cases h0:i.natAbs=0
  ·rw[h0];decide
  ·rw[Nat.log2_lt h0];have h1:i.natAbs<10 ^ 60:=by omega
   exact Nat.lt_trans (Nat.lt_trans h1 (show(10:Nat) ^ 60<2 ^ 200 by decide)) (Nat.pow_lt_pow_right (by decide) (by decide))
 cases h with
 | hand e2 k=>exact absurd rfl e
 | num e2 h0 h1 hm=>exact .inl ⟨_,rfl,big _ (Int.lt_of_lt_of_le (by decide) h0) (Int.lt_of_le_of_lt (Int.le_trans h1 hm) (by decide)),q⟩
 | load h0 h1=>exact .inl ⟨_,rfl,big _ h0 h1,q⟩
 | word k=>exact .inr ⟨_,rfl,q⟩
def Im:Sp:=λvs H Q E=>∃a l,vs=[.ref a,.ref l]/\∃(hs:List (Str×Int)) (r:m7),HL H l hs/\hs.length<=5/\H a=some (.tup (eY r))/\FW hs r/\Q (.str (nu r)) H
section
variable {K:aV}{H:Hp}{Q:VK}{E:XK}{n:St->Hp->Prop}{bk ct:St->Hp->Prop}
theorem Od{a l:Addr}(q:∃(hs:List (Str×Int)) (r:m7),HL H l hs/\hs.length<=5/\H a=some (.tup (eY r))/\FW hs r/\Q (.str (nu r)) H):uo K ⟨n,Q,bk,ct⟩ [some (.ref a),some (.ref l),none,none,none] H:=by
 obtain⟨hs,r,hl,h5,ha,ok,h⟩:=q;have b1l:(" ":Str).length=1:=rfl;have b6l:("sweep ":Str).length=6:=rfl;unfold uo;cases r with
 | sw m=>
  walk_at"e";refine⟨a,_,0,_,rfl,rfl,jE.of ha,rfl,?_⟩;walk_at"e";refine DP (λ_=>?_) (λz=>absurd rfl z);walk_at"e";refine⟨a,_,1,_,rfl,rfl,jE.of ha,rfl,?_⟩;walk_at"e";have ok1:=ok.1;refine Zme (by omega) (Int.lt_of_le_of_lt ok.2 (by decide)) λt et _ t2=>?_;obtain rfl:t=tS m:=et;refine mJ (dR (by omega)) ?_;have e:("sweep ":Str)++tS m=nu (.sw m):=by
   refine Ol ?_;unfold nu;rw[tE,CV];rfl
  rw[e];exact h
 | dd w q0 qs=>
  obtain⟨ef,hm,Dw,so,h8⟩:=ok;obtain⟨k,x,ek,ev,et,nk⟩:=(Dw q0 List.mem_cons_self).1.Zeb ef;obtain⟨as,b,g1,g2,g3⟩:=hl.at ek;have fh:=Zb1 _ hm;have wl:w.length<=100:=(Wd _ hm).2.2;have xl:=(Pj nk.1).1;have v0:Ur (eY (.dd w q0 qs)) 0=some (.str w):=iJ (by decide) rfl;have v1:Ur (eY (.dd w q0 qs)) 1=some (.int k):=iJ (by decide) (congrArg some ev);have vi:∀(i:Nat) z,qs[i]? =some z->Ur (eY (.dd w q0 qs)) (2+(i:Int))=some z.2.1:=λi z e=>iJ (by omega) (by
   rw[show(2+(i:Int)).toNat=i+1+1 from by omega];show((q0::qs).map λz:Qd=>z.2.1)[i+1]? =_;rw[fV,List.getElem?_cons_succ,e];rfl)
  have vl:(eY (.dd w q0 qs)).length=qs.length+2:=by show(List.map _ (q0::qs)).length+1=_;rw[dM,List.length_cons]
  have tl:∀i:Nat,(Str.join ⟨#[32]⟩ (x.1::w::(qs.take i).map λz:Qd=>z.2.2.1)).length<=1100:=λi=>by
   have e:=Q7 32 (ps:=x.1::w::(qs.take i).map λz:Qd=>z.2.2.1) (by simp);rw[<- tE,str_len]at e;have b:=Zc8 (ps:=x.1::w::(qs.take i).map λz:Qd=>z.2.2.1) (λp hp=>by
    rcases List.mem_cons.mp hp with rfl | hp
    ·omega
    rcases List.mem_cons.mp hp with rfl | hp
    ·exact wl
    obtain⟨z,hz,rfl⟩:=List.mem_map.mp hp;exact(Dw z (List.mem_cons_of_mem _ (List.mem_of_mem_take hz))).2)
   have c:(x.1::w::(qs.take i).map λz:Qd=>z.2.2.1).length<=10:=by
    rw[List.length_cons,List.length_cons,dM,List.length_take];omega
   omega
  walk_at"e";refine⟨a,_,0,_,rfl,rfl,jE.of ha,v0,?_⟩;walk_at"e";refine DP (λz=>absurd z fh.1) (λ_=>?_);walk_at"e";refine⟨a,_,1,_,rfl,rfl,jE.of ha,v1,?_⟩;walk_at"e";refine jA (v:=.ref b) (fj.of g1) (nD (by rw[fV,g2];rfl)) ?_;walk_at"e";refine⟨b,_,0,_,rfl,rfl,jE.of g3,rfl,?_⟩;walk_at"e";refine mJ (dR (by omega)) ?_;walk_at"e";refine⟨a,_,0,_,rfl,rfl,jE.of ha,v0,?_⟩;walk_at"e";refine mJ (dR (by rw[jV];omega)) ?_;walk_at"e";unfold Zml;walk_at"e";refine⟨a,_,rfl,.inr (jE.of ha),?_⟩;rw[vl];walk_at"e";refine⟨_,_,rfl,⟨by omega,by omega,by omega,by omega⟩,?_⟩;rw[show(((qs.length+2:Nat):Int) - 2).toNat=qs.length from by omega];refine forR (λi σ Hx=>∃v3 v4,σ=[some (.ref a),some (.ref l),some (.str (Str.join ⟨#[32]⟩ (x.1::w::(qs.take i).map λz:Qd=>z.2.2.1))),v3,v4]/\Hx=H) ⟨none,none,rfl,rfl⟩ ?_ ?_
  ·rintro i σ Hx hi ⟨v3,v4,rfl,rfl⟩;have ez:qs[i]? =some qs[i]:=eV hi;have zk:=Dw _ (List.mem_cons_of_mem _ (List.getElem_mem hi));have fi:=fh.2 i (by omega);have fz:((w,(q0::qs).map λz:Qd=>z.1).2)[i+1]? =some qs[i].1:=by
    show((q0::qs).map λz:Qd=>z.1)[i+1]? =_;rw[fV,List.getElem?_cons_succ,ez];rfl
   rw[fz]at fi;have vz:=vi i _ ez;have et2:qs.take (i+1)=qs.take i++[qs[i]]:=by rw[List.take_add_one,ez];rfl
   have ti:=tl i;generalize qs[i]=z at zk fi vz et2;have zl:=zk.2;have fin:Str.join ⟨#[32]⟩ (x.1::w::(qs.take (i+1)).map λz:Qd=>z.2.2.1)=Str.join ⟨#[32]⟩ (x.1::w::(qs.take i).map λz:Qd=>z.2.2.1)++(" ":Str)++z.2.2.1:=by
    rw[et2,List.map_append];exact join_snoc (ps:=x.1::w::(qs.take i).map λz:Qd=>z.2.2.1) (by simp)
   walk_at"e";refine⟨a,_,_,_,rfl,rfl,jE.of ha,vz,?_⟩;walk_at"e"
   by_cases hz:z.1=kJ
   ·obtain⟨k2,x2,ek2,ev2,ZFp,nk2⟩:=zk.1.Zeb hz;obtain⟨as2,b2,g12,g22,g32⟩:=hl.at ek2;have hk2:=(gG ek2).1;obtain⟨ew,ei⟩:=fi.mp (congrArg some hz);have ew:w=Zrg:=ew;subst ei;rw[ev2]at vz ⊢;refine .inl ⟨_,rfl,?_,?_⟩
    ·show k2.log2<1920;exact Nat.lt_of_le_of_lt (Nat.log2_le_self k2) (by omega)
    walk_at"e";refine⟨a,_,0,_,rfl,rfl,jE.of ha,v0,?_⟩;walk_at"e";refine DP (λ_=>?_) (λe=>absurd ew e);walk_at"e";refine DP (λ_=>?_) (λe=>absurd (by decide) e);walk_at"e";refine⟨a,_,3,_,rfl,rfl,jE.of ha,vz,?_⟩;walk_at"e";refine jA (v:=.ref b2) (fj.of g12) (nD (by rw[fV,g22];rfl)) ?_;walk_at"e";refine⟨b2,_,0,_,rfl,rfl,jE.of g32,rfl,?_⟩;rw[ZFp]at fin zl;walk_at"e";refine mJ (dR (by omega)) ?_;walk_at"e";refine mJ (dR (by rw[jV];omega)) ?_;walk_at"e";exact⟨_,_,by rw[fin],rfl⟩
   ·refine zk.1.str hz ?_;walk_at"e";refine⟨a,_,0,_,rfl,rfl,jE.of ha,v0,?_⟩;walk_at"e";refine DP (λew=>?_) (λ_=>?_)
    ·walk_at"e";refine DP (λe3=>absurd (Option.some.inj (fi.mpr ⟨ew,by omega⟩)) hz) (λ_=>?_);walk_at"e";refine mJ (dR (by omega)) ?_;walk_at"e";refine mJ (dR (by rw[jV];omega)) ?_;walk_at"e";exact⟨_,_,by rw[fin],rfl⟩
    ·skip
     walk_at"e";refine mJ (dR (by omega)) ?_;walk_at"e";refine mJ (dR (by rw[jV];omega)) ?_;walk_at"e";exact⟨_,_,by rw[fin],rfl⟩
  ·rintro σ Hx ⟨v3,v4,rfl,rfl⟩;rw[List.take_length];walk_at"e";rw[<- et];exact h
end
section
variable {K:aV}{t1 t2:Bool}{a b:Addr}{caps:List Nat}{te:TE}{σ:St}{H:Hp}{Q:VK}
theorem Zpn{xs ys:List V}(hq:∀H',dF H H'->SqV K t1 H' a xs)(hr:∀H',dF H H'->SqV K t2 H' b ys)(hlen:xs.length=ys.length)(hz:xs.length<=1000000)(R:Nat->V->Prop)
  (hte:∀(i:Nat) x y H1,xs[i]? =some x->ys[i]? =some y->dF H H1->∀q:VK,(∀v H2,dF H1 H2->R i v->q v H2)->te (some x::some y::caps.map (pick σ)) H1 q)
  (h:∀vs H',dF H H'->vs.length=xs.length->(∀(i:Nat) v,vs[i]? =some v->R i v)->∀p,H' p=none->Q (.ref p) (upd H' p (.lst vs))):Zbs K (Zfd K t1 t2 a b) caps pM te σ H Q:=by
 refine⟨λi m vs H'=>i<=xs.length/\m=xs.length - i/\vs.length=i/\dF H H'/\∀(j:Nat) v,vs[j]? =some v->R j v,⟨_,Nat.zero_le _,rfl,rfl,dF.refl _,λj v e=>by cases e⟩,?_⟩;rintro i m vs H1 ⟨hi,rfl,hl,s1,hv⟩
 by_cases hk:i=xs.length
 ·exact .inl ⟨⟨xs,ys,hq _ s1,hr _ s1,.inl (by omega)⟩,λp hp=>h vs H1 s1 (by omega) hv p hp⟩
 ·have hlt:i<xs.length:=by omega
  refine .inr ⟨⟨xs,ys,xs[i],ys[i]'(by omega),hq _ s1,hr _ s1,eV hlt,eV (by omega)⟩,Nat.lt_of_lt_of_le (by omega:vs.length<1000000) (by decide),?_⟩;rintro v H2 ⟨t,x,y,rfl,ht,rfl,e1,e2⟩;have s2:=bY ht (.tup [x,y]);refine⟨t,x,y,rfl,jE.of aq,KZ (Zav ?_)⟩;refine hte i x y _ (e1 _ (hq _ s1)) (e2 _ (hr _ s1)) (s1.trans s2) _ λw H3 s3 rw'=>⟨xs.length - (i+1),by omega,by omega,rfl,by rw[List.length_append,hl];rfl,s1.trans (s2.trans s3),λj u hj=>?_⟩
  by_cases hji:j<vs.length
  ·rw[List.getElem?_append_left hji]at hj;exact hv j u hj
  ·have hjl:=(gG hj).1;rw[List.length_append]at hjl;have:[w].length=1:=rfl;have hje:j=vs.length:=by omega
   rw[hje,List.getElem?_append_right (Nat.le_refl _),Nat.sub_self]at hj;cases hj;rw[hje,hl];exact rw'
end
section
variable {K:aV}{X:Cs}{aC aL aK aP aJ aH aG aO aF aD aA:Addr}{H:Hp}{Q:VK}{E:XK}{n:St->Hp->Prop}{bk ct:St->Hp->Prop}
theorem Z0{m w t:Int}{hs:List (Str×Int)}:(nG m w t hs).length=hs.length+3:=by
 unfold nG;rw[List.length_cons,List.length_cons,List.length_append,dM];rfl
theorem Zrw{m w t:Int}{hs:List (Str×Int)}(m0:0<=m)(m1:m<10 ^ 60)(w0:0<=w)(w1:w<3)(t0:0<=t)(t1:t<4)(ok:uE hs):∀p∈nG m w t hs,p.length<=100:=by
 intro p hp;have l5:("room ":Str).length=5:=rfl;have k5:("kind ":Str).length=5:=rfl;unfold nG at hp;rcases List.mem_cons.mp hp with rfl | hp
 ·have:=Ea m0 m1;rw[jV];omega
 rcases List.mem_cons.mp hp with rfl | hp
 ·have:=(Zt w0 w1 t0 t1).2;rw[jV];omega
 rcases List.mem_append.mp hp with hp | hp
 ·obtain⟨x,hx,rfl⟩:=List.mem_map.mp hp;have:=ok.2.2.2 x hx;exact Zqd this.1 (by omega) (by omega)
 ·rw[List.mem_singleton.mp hp];decide
end
theorem sum2:∀{ps:List Str},(∀p∈ps,p.length<=2000)->(ps.map (·.length)).sum<=2000 * ps.length
 | [],_=>Nat.zero_le _
 | p::ps,h=>by
  have:=sum2 (ps:=ps) (λq hq=>h q (List.mem_cons_of_mem _ hq));have:=h p List.mem_cons_self;rw[List.map_cons,List.sum_cons,List.length_cons];omega
theorem Zgm{m w t:Int}{hs:List (Str×Int)}{rs:List m7}(m0:0<=m)(m1:m<10 ^ 60)(w0:0<=w)(w1:w<3)(t0:0<=t)(t1:t<4)(ok:uE hs)(h90:rs.length<=90)(ho:∀r∈rs,FW hs r):((nG m w t hs++rs.map nu).map (·.length)).sum+(nG m w t hs++rs.map nu).length<=300000:=by
 have hp:=sum2 (ps:=nG m w t hs++rs.map nu) (λp hp=>by
  rcases List.mem_append.mp hp with hp | hp
  ·exact Nat.le_trans (Zrw m0 m1 w0 w1 t0 t1 ok p hp) (by decide)
  ·obtain⟨r,hr,rfl⟩:=List.mem_map.mp hp;exact(ho r hr).len)
 have hl:=Z0 (m:=m) (w:=w) (t:=t) (hs:=hs);have h5:=ok.2.1;have e:(nG m w t hs++rs.map nu).length=hs.length+3+rs.length:=by rw[List.length_append,dM,hl]
 omega
def O3:Sp:=λvs H Q E=>∃f v nl,vs=[.str f,v,.ref nl]/\∃(hs:List (Str×Int)) (t:Str) (d:V),H nl=some (.lst ((hs.map λz:Str×Int=>z.1).map V.str))/\Fv hs f v t d/\Q (.str t) H
def O2:Sp:=λvs H Q E=>∃a nl,vs=[.ref a,.ref nl]/\∃(hs:List (Str×Int)) (r:m7),H nl=some (.lst ((hs.map λz:Str×Int=>z.1).map V.str))/\H a=some (.tup (eY r))/\FW hs r/\∀H',dF H H'->Q (.str (nu r)) H'
section
variable {K:aV}{H:Hp}{Q:VK}{E:XK}{n:St->Hp->Prop}{bk ct:St->Hp->Prop}
theorem Mr{f:Str}{v:V}{nl:Addr}(q:∃(hs:List (Str×Int)) (t:Str) (d:V),H nl=some (.lst ((hs.map λz:Str×Int=>z.1).map V.str))/\Fv hs f v t d/\Q (.str t) H):uh K ⟨n,Q,bk,ct⟩ [some (.str f),some v,some (.ref nl)] H:=by
 obtain⟨hs,t,d,hn,fv,h⟩:=q;unfold uh;walk_at"e";refine DP (λe=>?_) (λe=>?_)
 ·obtain⟨k,x,ek,rfl,rfl,nk⟩:=fv.Zeb e;walk_at"e";exact jA (v:=.str x.1) (fj.of hn) (nD (by rw[fV,fV,ek];rfl)) h
 ·walk_at"e";exact fv.str e h
theorem Zro(w:V)(r:List V):HT.oE (w::r).length 0 (some 1)=1:=by
 unfold HT.oE;simp
 try omega
theorem Znl(w:V)(r:List V):yx (w::r) (some 1) none=r:=by
 unfold yx;have x1:HT.oE (w::r).length 0 (some 1)=1:=by
  unfold HT.oE;simp
  try omega
 have x2:HT.oE (w::r).length (w::r).length none=(w::r).length:=rfl;rw[x1,x2];simp
theorem Zua(w:V)(r:List V):yx (w::r) none (some 1)=[w]:=by
 unfold yx;have x1:HT.oE (w::r).length 0 none=0:=rfl;have x2:HT.oE (w::r).length (w::r).length (some 1)=1:=by
  unfold HT.oE;simp
  try omega
 rw[x1,x2];simp
theorem Pg{a nl:Addr}(q:∃(hs:List (Str×Int)) (r:m7),H nl=some (.lst ((hs.map λz:Str×Int=>z.1).map V.str))/\H a=some (.tup (eY r))/\FW hs r/\∀H',dF H H'->Q (.str (nu r)) H'):vo K (O9 K) O3 ⟨n,Q,bk,ct⟩ [some (.ref a),some (.ref nl),none,none] H:=by
 obtain⟨hs,r,hn,ha,ok,h⟩:=q;have rl:=ok.len;unfold vo;cases r with
 | sw m=>
  walk_at"e";refine⟨a,_,0,_,rfl,rfl,jE.of ha,rfl,?_⟩;walk_at"e";refine DP (λ_=>?_) (λz=>absurd rfl z);walk_at"e";refine⟨a,_,1,_,rfl,rfl,jE.of ha,rfl,?_⟩;walk_at"e";have ok1:=ok.1;refine Zme (by omega) (Int.lt_of_le_of_lt ok.2 (by decide)) λt et _ t2=>?_;obtain rfl:t=tS m:=et;walk_at"e";refine⟨by show 2<=_;decide,λlw hlw=>?_⟩;generalize zz:upd H lw _=H1;obtain⟨s1,c1⟩:=nwO hlw zz;have c1:H1 lw=some (.lst ([kO,tS m].map V.str)):=c1;have l5:(kO:Str).length=5:=rfl;refine⟨" ",lw,[kO,tS m],rfl,rfl,fj.of c1,by decide,(show kO.length+((tS m).length+0)+2<=_ by omega),?_⟩;rw[show Txt.join " " [kO,tS m]=nu (.sw m)from StrLaws.glued_eq_join _ _];exact h _ s1
 | dd w q0 qs=>
  obtain⟨ef,hm,Dw,so,h8⟩:=ok;have fh:=Zb1 _ hm;have v0:Ur (eY (.dd w q0 qs)) 0=some (.str w):=iJ (by decide) rfl;walk_at"e";refine⟨a,_,0,_,rfl,rfl,jE.of ha,v0,?_⟩;walk_at"e";refine DP (λz=>absurd z fh.1) (λ_=>?_);walk_at"e";refine⟨w,rfl,_,hm,λfa tf=>?_⟩;walk_at"e";refine⟨a,_,rfl,jE.of ha,(λz=>by have z1:=z.1;rw[show HT.oE (eY (.dd w q0 qs)).length 0 (some 1)=1 from Zro _ _]at z1;cases z1),λta hta=>?_⟩;rw[show yx (eY (.dd w q0 qs)) (some 1) none=(q0::qs).map (λz:Qd=>z.2.1)from Znl _ _];generalize zz:upd H ta _=H1;obtain⟨s1,c1⟩:=nwO hta zz;walk_at"e";refine⟨fa,ta,rfl,⟨_,tf _⟩,⟨_,jE.of c1⟩,?_⟩;refine Zpn (t1:=true) (t2:=true) (xs:=((q0::qs).map λz:Qd=>z.1).map V.str) (ys:=(q0::qs).map λz:Qd=>z.2.1) (λH' _=>tf H') (λH' s'=>jE.of (s' _ _ c1)) (by simp only[dM]) (by simp only[dM,List.length_cons];omega) (λi v=>∃x,(q0::qs)[i]? =some x/\v=.str x.2.2.1) (λi x y H4 hx hy s4 q' hq=>?_) λvs H4 s4 hl hv l hl4=>?_
  ·rw[fV,fV]at hx;rw[fV]at hy;cases ei:(q0::qs)[i]? with
   | none=>rw[ei]at hx;cases hx
   | some z=>
    rw[ei]at hx hy;cases hx;cases hy;have oz:=Dw z (List.mem_of_getElem? ei);walk_at"c";walk_at"e";exact⟨_,_,nl,rfl,hs,_,_,s4 _ _ (s1 _ _ hn),oz.1,hq _ _ (dF.refl _) ⟨z,ei,rfl⟩⟩
  have ev:vs=((q0::qs).map λz:Qd=>z.2.2.1).map V.str:=by
   refine List.ext_getElem? λi=>?_;rw[fV,fV];cases e1:vs[i]? with
   | none=>
    have:=List.getElem?_eq_none_iff.mp e1;rw[List.getElem?_eq_none (by simp only[dM]at hl;omega)];rfl
   | some v=>
    obtain⟨x,ex,rfl⟩:=hv i v e1;rw[ex];rfl
  subst ev;generalize zz:upd H4 l _=H5;obtain⟨s5,c5⟩:=nwO hl4 zz;walk_at"e";refine⟨l,_,rfl,fj.of c5,λla hla=>?_⟩;rw[show yx (((q0::qs).map λz:Qd=>z.2.2.1).map V.str) none (some 1)=[.str q0.2.2.1]from Zua _ _];generalize zz:upd H5 la _=H6;obtain⟨s6,c6⟩:=nwO hla zz;walk_at"e";refine⟨by show 1<=_;decide,λlb hlb=>?_⟩;generalize zz:upd H6 lb _=H7;obtain⟨s7,c7⟩:=nwO hlb zz;walk_at"e";refine⟨la,lb,_,_,rfl,rfl,s7 _ _ c6,c7,dR (by show 1+1<=_;decide),λlc hlc=>?_⟩;generalize zz:upd H7 lc _=H8;obtain⟨s8,c8⟩:=nwO hlc zz;walk_at"e";have c58:=s8 _ _ (s7 _ _ (s6 _ _ c5));refine⟨l,_,rfl,fj.of c58,λld hld=>?_⟩;rw[show yx (((q0::qs).map λz:Qd=>z.2.2.1).map V.str) (some 1) none=(qs.map λz:Qd=>z.2.2.1).map V.str from Znl _ _];generalize zz:upd H8 ld _=H9;obtain⟨s9,c9⟩:=nwO hld zz;refine⟨lc,ld,_,_,rfl,rfl,s9 _ _ c8,c9,dR (by rw[dM,dM];show 2+_<=_;omega),λle hle=>?_⟩;generalize zz:upd H9 le _=H10;obtain⟨s10,c10⟩:=nwO hle zz;have c10:H10 le=some (.lst ((partsOf (.dd w q0 qs)).map V.str)):=c10;walk_at"e";have jn:(nu (.dd w q0 qs)).length+1=((partsOf (.dd w q0 qs)).map (·.length)).sum+(partsOf (.dd w q0 qs)).length:=by
   unfold nu;rw[<- Q7 32 (Z4 _),<- tE,str_len]
  refine⟨" ",le,partsOf (.dd w q0 qs),rfl,rfl,fj.of c10,by decide,by omega,?_⟩;rw[show Txt.join " " (partsOf (.dd w q0 qs))=nu (.dd w q0 qs)from StrLaws.glued_eq_join _ _];exact h _ (s1.trans (s4.trans (s5.trans (s6.trans (s7.trans (s8.trans (s9.trans s10)))))))
end
def RV(H:Hp)(l:Addr)(vss:List (List V)):Prop:=∃as:List Addr,H l=some (.lst (as.map V.ref))/\as.length=vss.length/\∀(i:Nat) a,as[i]? =some a->∃vs,vss[i]? =some vs/\H a=some (.tup vs)
def hdV(x:Str×Int):List V:=[.str x.1,.int x.2]
theorem HL.rv{H:Hp}{l:Addr}{hs:List (Str×Int)}(h:HL H l hs):RV H l (hs.map hdV):=by
 obtain⟨as,h1,h2,h3⟩:=h;exact⟨as,h1,by rw[dM,h2],λi a ha=>let ⟨x,e,q⟩:=h3 i a ha;⟨_,by rw[fV,e];rfl,q⟩⟩
theorem RL.rv{H:Hp}{l:Addr}{rs:List m7}(h:RL H l rs):RV H l (rs.map eY):=by
 obtain⟨as,h1,h2,h3⟩:=h;exact⟨as,h1,by rw[dM,h2],λi a ha=>let ⟨x,e,q⟩:=h3 i a ha;⟨_,by rw[fV,e];rfl,q⟩⟩
theorem RL.same{H H1:Hp}{l:Addr}{rs:List m7}(h:RL H l rs)(s:dF H H1):RL H1 l rs:=by
 obtain⟨as,h1,h2,h3⟩:=h;exact⟨as,s _ _ h1,h2,λi a ha=>let ⟨x,e,q⟩:=h3 i a ha;⟨x,e,s _ _ q⟩⟩
theorem RV.same{H H1:Hp}{l:Addr}{rs:List (List V)}(h:RV H l rs)(s:dF H H1):RV H1 l rs:=by
 obtain⟨as,h1,h2,h3⟩:=h;exact⟨as,s _ _ h1,h2,λi a ha=>let ⟨x,e,q⟩:=h3 i a ha;⟨x,e,s _ _ q⟩⟩
def VOk(vss:List (List V)):Prop:=vss.length<=100/\∀r∈vss,r.length<=100/\∀x∈r,flV x
theorem Zmq{hs:List (Str×Int)}(h:hs.length<=6):VOk (hs.map hdV):=by
 refine⟨by rw[dM];omega,λr hr=>?_⟩;obtain⟨x,_,rfl⟩:=List.mem_map.mp hr;refine⟨by show 2<=100;decide,λv hv=>?_⟩;rcases List.mem_cons.mp hv with rfl | hv
 ·exact .inr ⟨_,rfl⟩
 ·rw[List.mem_singleton.mp hv];exact .inl ⟨_,rfl⟩
theorem ZS{hs:List (Str×Int)}{rs:List m7}(h:rs.length<=90)(ok:∀r∈rs,FW hs r):VOk (rs.map eY):=by
 refine⟨by rw[dM];omega,λr hr=>?_⟩;obtain⟨x,hx,rfl⟩:=List.mem_map.mp hr;exact(ok x hx).fl
def O7:Sp:=λvs H Q E=>∃l1 l2,vs=[.ref l1,.ref l2]/\∃rs:List (List V),RV H l1 rs/\RV H l2 rs/\rs.length<=100/\(∀r∈rs,r.length<=100/\∀x∈r,flV x)/\∀H',dF H H'->Q (.bl true) H'
def Io:Sp:=λvs H Q E=>∃c,vs=[.int c]/\∀w t H',0<=w->w<3->0<=t->t<4->dF H H'->Q (.str (words w t)) H'
def vW(CS:Addr)(X:Cs):Sp:=λvs H Q E=>∃sc m z hl rl,vs=[.ref sc,.int m,.str z,.ref hl,.ref rl]/\∃dx kd h2 r2 lk w t vh vr,H sc=some (.ins CS dx (jt m kd h2 r2))/\De X H kd lk w t/\0<=t/\t<4/\z=words w t/\RV H h2 vh/\RV H hl vh/\VOk vh/\RV H r2 vr/\RV H rl vr/\VOk vr/\∀H',dF H H'->Q (.bl true) H'
section
variable {K:aV}{X:Cs}{aC aL aK aP aJ aH aG aO aF aD aA:Addr}{H:Hp}{Q:VK}{E:XK}{n:St->Hp->Prop}{bk ct:St->Hp->Prop}
theorem Ii{l1 l2:Addr}(q:∃rs:List (List V),RV H l1 rs/\RV H l2 rs/\rs.length<=100/\(∀r∈rs,r.length<=100/\∀x∈r,flV x)/\∀H',dF H H'->Q (.bl true) H'):qM K Y9 ⟨n,Q,bk,ct⟩ [some (.ref l1),some (.ref l2),none,none] H:=by
 obtain⟨rs,⟨as,a1,a2,a3⟩,⟨bs,b1,b2,b3⟩,h100,fx,h⟩:=q;unfold qM;walk_at"e";refine Zax a1 ?_;walk_at"e";refine qZ (fj.of a1) ?_;walk_at"e";refine qZ (fj.of b1) ?_;walk_at"e";rw[dM,dM,a2,b2];refine sO (λz=>absurd rfl z) (λ_=>?_);walk_at"e";refine⟨l1,l2,rfl,⟨_,fj.of a1⟩,⟨_,fj.of b1⟩,?_⟩;refine ZFj (as.map V.ref) (bs.map V.ref) (by rw[dM,dM];omega) (λi σ H2=>∃v2 v3,σ=[some (.ref l1),some (.ref l2),v2,v3]/\dF H H2) ⟨none,none,rfl,dF.refl _⟩ (λi σ H2 _ ⟨_,_,_,s⟩=>⟨fj.of (s _ _ a1),fj.of (s _ _ b1)⟩) ?_ ?_
 ·rintro i x y tp σ H2 hx hy ⟨v2,v3,rfl,s2⟩ htp;rw[fV]at hx hy;obtain⟨a,ha,rfl⟩:=Option.map_eq_some_iff.mp hx;obtain⟨b,hb,rfl⟩:=Option.map_eq_some_iff.mp hy;obtain⟨z,ez,az⟩:=a3 i a ha;obtain⟨z',ez',bz⟩:=b3 i b hb;rw[ez]at ez';cases ez';have fz:=fx z (List.mem_of_getElem? ez);generalize zz:upd H2 tp _=H3;obtain⟨s3,c3⟩:=nwO htp zz;refine⟨tp,_,rfl,jE.of c3,rfl,?_⟩;refine⟨_,_,rfl,?_⟩;walk_at"e";refine⟨_,_,rfl,?_⟩;walk_at"e";refine⟨rfl,?_⟩;walk_at"e";refine⟨a,b,rfl,z,s3 _ _ (s2 _ _ az),s3 _ _ (s2 _ _ bz),fz.1,fz.2,λH4 s4=>?_⟩;walk_at"e";exact⟨_,_,rfl,s2.trans (s3.trans s4)⟩
 ·rintro σ H2 ⟨v2,v3,rfl,s2⟩;walk_at"e";exact h _ s2
theorem Oe{c:Int}(q:∀w t H',0<=w->w<3->0<=t->t<4->dF H H'->Q (.str (words w t)) H'):uq K ⟨n,Q,bk,ct⟩ [some (.int c),none] H:=by
 unfold uq;walk_at"e";refine⟨by decide,λl hl=>?_⟩;generalize zz:upd H l _=H1;obtain⟨s1,c1⟩:=nwO hl zz;walk_at"e";have w0:0<=c % 3:=by omega
 have w1:c % 3<3:=by omega
 generalize c % 3=w at w0 w1 ⊢;have hw:w=0\/w=1\/w=2:=by omega
 have ea:Ur ([.str "first",.str "each",.str "last"]:List V) w=some (.str (wd w)):=by
  rcases hw with rfl | rfl | rfl<;>rfl
 refine jA (fj.of c1) ea ?_;have lw:=Zje w;have l4:(" old":Str).length=4:=rfl;have l5:(" new":Str).length=4:=rfl;walk_at"e";refine DP (λe=>?_) (λe=>?_)
 ·walk_at"e";refine mJ (dR (by omega)) ?_;walk_at"e";refine DP (λe=>?_) (λe=>?_)
  ·walk_at"e";refine mJ (dR (by rw[jV];omega)) ?_;walk_at"e";rw[<- w3 hw];exact q w 3 _ w0 w1 (by decide) (by decide) s1
  ·walk_at"e";exact q w 1 _ w0 w1 (by decide) (by decide) s1
 ·walk_at"e";refine DP (λe=>?_) (λe=>?_)
  ·walk_at"e";refine mJ (dR (by omega)) ?_;walk_at"e";exact q w 2 _ w0 w1 (by decide) (by decide) s1
  ·walk_at"e";rw[<- K49.w0 hw];exact q w 0 _ w0 w1 (by decide) (by decide) s1
theorem Fy{sc hl rl:Addr}{m:Int}{z:Str}(T:qd K X aC aL aK aP aJ aH aG aO aF aD aA)(q:∃dx kd h2 r2 lk w t vh vr,H sc=some (.ins aC dx (jt m kd h2 r2))/\De X H kd lk w t/\0<=t/\t<4/\z=words w t/\RV H h2 vh/\RV H hl vh/\VOk vh/\RV H r2 vr/\RV H rl vr/\VOk vr/\∀H',dF H H'->Q (.bl true) H'):
  qm K X.K (pK X) O7 zP ⟨n,Q,bk,ct⟩ [some (.ref sc),some (.int m),some (.str z),some (.ref hl),some (.ref rl)] H:=by
 obtain⟨dx,kd,h2,r2,lk,w,t,vh,vr,o,kk,t0,t1,rfl,a1,a2,ao,b1,b2,bo,h⟩:=q;unfold qm;walk_at"e";refine cV o T.cT T.Fp mW ?_;walk_at"e";refine⟨m,rfl,?_⟩;walk_at"e";refine cV o T.cT T.Fp mW ?_;walk_at"e";refine sO (λz=>absurd rfl z) (λ_=>?_);walk_at"e";refine cV o T.cT T.Kh oU ?_;walk_at"e";obtain⟨dk,ok7⟩:=kk.ok;refine⟨kd,dk,_,rfl,ok7,qY,?_⟩;walk_at"e";refine⟨kd,rfl,lk,w,t,kk,t0,t1,λH6 s6=>?_⟩;walk_at"e";refine sO (λz=>absurd rfl z) (λ_=>?_);walk_at"e";refine cV (s6 _ _ o) T.cT T.wK jY ?_;walk_at"e";refine⟨h2,hl,rfl,vh,a1.same s6,a2.same s6,ao.1,ao.2,λH7 s7=>?_⟩;walk_at"e";have s67:=s6.trans s7;refine cV (s67 _ _ o) T.cT T.Bx lE ?_;walk_at"e";exact⟨r2,rl,rfl,vr,b1.same s67,b2.same s67,bo.1,bo.2,λH8 s8=>h _ (s67.trans s8)⟩
end
theorem We(x:Str):Str.empty++x=x:=Ol (by rw[CV];rfl)
theorem De.wb{X:Cs}{H:Hp}{kd lk:Addr}{w t:Int}(h:De X H kd lk w t):0<=w/\w<3:=by
 obtain⟨_,_,h⟩:=h;rcases h with ⟨e,_⟩ | ⟨e,_⟩ | ⟨e,_⟩<;>omega
theorem Zgk{i:Int}(a:0<=i)(b:i<10 ^ 60):i.natAbs.log2<1920:=by
 by_cases h0:i.natAbs=0
 ·rw[h0];decide
 ·rw[Nat.log2_lt h0];have h1:i.natAbs<10 ^ 60:=by omega
  exact Nat.lt_trans (Nat.lt_trans h1 (show(10:Nat) ^ 60<2 ^ 200 by decide)) (Nat.pow_lt_pow_right (by decide) (by decide))
def CW(CS:Addr)(X:Cs):Sp:=λvs H Q E=>∃sc,vs=[.ref sc]/\∃m dx kd hl rl lk w t hs rs,H sc=some (.ins CS dx (jt m kd hl rl))/\De X H kd lk w t/\0<=t/\t<4/\4<=m/\m<=1000000000000000/\HL H hl hs/\uE hs/\RL H rl rs/\rs.length<=90/\(∀r∈rs,FW hs r)/\∀H',dF H H'->Q (.str (Str.join ⟨#[10]⟩ (nG m w t hs++rs.map nu))) H'
section
variable {K:aV}{H:Hp}{Q:VK}{E:XK}{n:St->Hp->Prop}{bk ct:St->Hp->Prop}
theorem Zss{l:Addr}{hs:List (Str×Int)}{σ:St}{Q':VK}(hl:HL H l hs)(ok:uE hs)(h:∀p,H p=none->Q' (.ref p) (upd H p (.lst ((hs.map hdT).map V.str)))):Zbs K (Itl K l) [] pM (G.tFs [(tC (.str "hand ")),(G.Zw (ak 0)),(tC (.str " ")),(G.Zw (ak 1))] Str.empty) σ H Q':=by
 obtain⟨as,h1,h2,h3⟩:=hl;have h5:=ok.2.1;have h5l:("hand ":Str).length=5:=rfl;have b1l:(" ":Str).length=1:=rfl;refine Ox ?_;refine Oz (fj.of h1) (λi=>(hs[i]?).map λx=>.str (hdT x)) (by rw[dM];omega) (λi x hx=>?_) λp hp=>?_
 ·rw[fV]at hx;obtain⟨a,ha,rfl⟩:=Option.map_eq_some_iff.mp hx;obtain⟨y,ey,hy⟩:=h3 i a ha;have pk:=ok.2.2.2 y (List.mem_of_getElem? ey);have pl:=pk.1.let.1;have tl:=Ea (i:=y.2) (by omega) (Int.lt_of_le_of_lt pk.2.2 (by decide));refine⟨λq hq=>?_,λv q hv hq=>?_⟩
  ·rw[ey]at hq;exact hq
  ·rw[ey]at hv;cases hv;refine⟨a,_,_,_,rfl,jE.of hy,?_⟩;walk_at"e";refine⟨_,rfl,by rw[We];exact dR (by omega),?_⟩;rw[We];walk_at"e";refine .inr ⟨_,rfl,dR (by omega),_,rfl,by rw[jV];exact dR (by omega),?_⟩;walk_at"e";refine⟨_,rfl,by rw[jV,jV];exact dR (by omega),?_⟩;walk_at"e";have e3:(("hand ":Str)++y.1++(" ":Str)++tS y.2).length<=sizeLine:=by rw[jV,jV,jV];exact dR (by omega)
   refine .inl ⟨_,rfl,Zgk (by omega) (Int.lt_of_le_of_lt pk.2.2 (by decide)),_,rfl,e3,e3,?_⟩;exact hq
 ·have:=h p hp;rw[dM,h2,YG (λx:Str×Int=>V.str (hdT x))];rw[List.map_map]at this;exact this
end
section
variable {K:aV}{X:Cs}{aC aL aK aP aJ aH aG aO aF aD aA:Addr}{H:Hp}{Q:VK}{E:XK}{n:St->Hp->Prop}{bk ct:St->Hp->Prop}
theorem Zbx{sc:Addr}(T:qd K X aC aL aK aP aJ aH aG aO aF aD aA)(q:∃m dx kd hl rl lk w t hs rs,H sc=some (.ins aC dx (jt m kd hl rl))/\De X H kd lk w t/\0<=t/\t<4/\4<=m/\m<=1000000000000000/\HL H hl hs/\uE hs/\RL H rl rs/\rs.length<=90/\(∀r∈rs,FW hs r)/\∀H',dF H H'->Q (.str (Str.join ⟨#[10]⟩ (nG m w t hs++rs.map nu))) H'):
  Em K X.K (pK X) O2 ⟨n,Q,bk,ct⟩ [some (.ref sc),none,none,none,none] H:=by
 obtain⟨m,dx,kd,hl,rl,lk,w,t,hs,rs,o,kk,t0,t1,m0,m1,hls,ok,rls,h90,rok,h⟩:=q;obtain⟨w0,w1⟩:=kk.wb;have Zts:m<10 ^ 60:=Int.lt_of_le_of_lt m1 (by decide);have wl:=(Zt w0 w1 t0 t1).2;have l5:("room ":Str).length=5:=rfl;have k5:("kind ":Str).length=5:=rfl;have ml:=Ea (i:=m) (by omega) Zts;have ok5:=ok.2.1;obtain⟨as,g1,g2,g3⟩:=id hls;unfold Em;walk_at"e";refine cV o T.cT T.wK jY ?_;walk_at"e";refine⟨hl,rfl,⟨_,fj.of g1⟩,Q5 hls ok5 λnl hnl=>?_⟩;generalize zz:upd H nl _=H1;obtain⟨s1,c1⟩:=nwO hnl zz;have c1:H1 nl=some (.lst ((hs.map λz:Str×Int=>z.1).map V.str)):=c1;walk_at"e";refine cV (s1 _ _ o) T.cT T.Fp mW ?_;walk_at"e";refine cV (s1 _ _ o) T.cT T.Kh oU ?_;walk_at"e";obtain⟨dk,ok7⟩:=(kk.same s1).ok;refine⟨kd,dk,_,rfl,ok7,qY,?_⟩;walk_at"e";refine⟨kd,rfl,lk,w,t,kk.same s1,t0,t1,λH2 s2=>?_⟩;have s12:=s1.trans s2;walk_at"e";refine⟨_,rfl,by rw[We];exact dR (by omega),?_⟩;rw[We];walk_at"e";have e3:(("room ":Str)++tS m).length<=sizeLine:=by rw[jV];exact dR (by omega)
 refine .inl ⟨_,rfl,Zgk (by omega) Zts,_,rfl,e3,e3,?_⟩;walk_at"e";refine⟨_,rfl,by rw[We];exact dR (by omega),?_⟩;rw[We];walk_at"e";have e4:(("kind ":Str)++words w t).length<=sizeLine:=by rw[jV];exact dR (by omega)
 refine .inr ⟨_,rfl,dR (by omega),_,rfl,e4,e4,?_⟩;walk_at"e";refine⟨by show 2<=_;decide,λp hp=>?_⟩;generalize zz:upd H2 p _=H3;obtain⟨s3,c3⟩:=nwO hp zz;have c3:H3 p=some (.lst ([("room ":Str)++tS m,("kind ":Str)++words w t].map V.str)):=c3;have s13:=s12.trans s3;walk_at"e";refine⟨.inl ⟨rfl,_,fj.of c3⟩,?_⟩;walk_at"e";refine cV (s13 _ _ o) T.cT T.wK jY ?_;walk_at"e";refine⟨hl,rfl,⟨_,fj.of (s13 _ _ g1)⟩,Zss (hls.same s13) ok λl4 hl4=>?_⟩;generalize zz:upd H3 l4 _=H4;obtain⟨s4,c4⟩:=nwO hl4 zz;walk_at"e";refine⟨p,l4,_,_,rfl,rfl,s4 _ _ c3,c4,by rw[dM,dM,dM,sizeLine_eq];show 2+_<=_;omega,?_⟩;have hp0:∀{b:Addr}{ob:HO},H2 b=some ob->b≠p:=λhb=>aM hb hp;have s5:dF H2 (upd H4 p (.lst ([("room ":Str)++tS m,("kind ":Str)++words w t].map V.str++(hs.map hdT).map V.str))):=Gk (s3.trans s4) hp;have c5:upd H4 p (.lst ([("room ":Str)++tS m,("kind ":Str)++words w t].map V.str++(hs.map hdT).map V.str)) p=some (.lst (([("room ":Str)++tS m,("kind ":Str)++words w t]++hs.map hdT).map V.str)):=by rw[aq,List.map_append]
 generalize upd H4 p (.lst ([("room ":Str)++tS m,("kind ":Str)++words w t].map V.str++(hs.map hdT).map V.str))=H5 at s5 c5 ⊢;walk_at"e";refine⟨.inl ⟨rfl,_,fj.of c5⟩,?_⟩;walk_at"e";refine⟨p,_,_,rfl,rfl,c5,by rw[dM,List.length_append,dM,sizeLine_eq];show 2+_<_;omega,?_⟩;have s6:=Gk (o:=.lst (([("room ":Str)++tS m,("kind ":Str)++words w t]++hs.map hdT).map V.str++[.str "weave"])) s5 hp;have c6:upd H5 p (.lst (([("room ":Str)++tS m,("kind ":Str)++words w t]++hs.map hdT).map V.str++[.str "weave"])) p=some (.lst ((nG m w t hs).map V.str)):=by
  rw[aq];unfold nG;rw[<- List.cons_append,<- List.cons_append,List.map_append (f:=V.str) (l₂:=[("weave":Str)])];rfl
 generalize upd H5 p (.lst (([("room ":Str)++tS m,("kind ":Str)++words w t]++hs.map hdT).map V.str++[.str "weave"]))=H6 at s6 c6 ⊢;have s06:=s12.trans s6;walk_at"e";refine⟨.inl ⟨rfl,_,fj.of c6⟩,?_⟩;walk_at"e";refine VB ?_;walk_at"e";refine cV (s06 _ _ o) T.cT T.Bx lE ?_;walk_at"e";obtain⟨bs,k1,k2,k3⟩:=rls.same s06;refine⟨rl,rfl,⟨_,fj.of k1⟩,?_⟩;refine Zfw (fj.of k1) (by rw[dM];omega) (λi y _=>∃r,rs[i]? =some r/\y=.str (nu r)) (λ_ _ _ _ h _=>h) (λx H' q hq=>by walk_at"e";exact hq) (λi x H7 hx s7 q' hq=>?_) (λys H7 s7 yl hy l8 hl8=>?_)
 ·rw[fV]at hx;obtain⟨b,hb,rfl⟩:=Option.map_eq_some_iff.mp hx;obtain⟨r,er,hbr⟩:=k3 i b hb;walk_at"c";walk_at"e";exact⟨b,nl,rfl,hs,r,s7 _ _ (s6 _ _ (s2 _ _ c1)),s7 _ _ hbr,rok r (List.mem_of_getElem? er),λH8 s8=>hq _ _ s8 ⟨r,er,rfl⟩⟩
 have ey:ys=(rs.map nu).map V.str:=by
  refine List.ext_getElem? λi=>?_;rw[fV,fV];cases e1:ys[i]? with
  | none=>
   have:=List.getElem?_eq_none_iff.mp e1;rw[dM]at yl;rw[List.getElem?_eq_none (by omega)];rfl
  | some v=>
   obtain⟨x,ex,rfl⟩:=hy i v e1;rw[ex];rfl
 subst ey;generalize zz:upd H7 l8 _=H8;obtain⟨s8,c8⟩:=nwO hl8 zz;have s68:=s7.trans s8;walk_at"e";refine⟨p,l8,_,_,rfl,rfl,s68 _ _ c6,c8,by rw[dM,dM,dM,Z0,sizeLine_eq];omega,?_⟩;have s9:=Gk (o:=.lst ((nG m w t hs).map V.str++(rs.map nu).map V.str)) (s6.trans s68) hp;have c9:upd H8 p (.lst ((nG m w t hs).map V.str++(rs.map nu).map V.str)) p=some (.lst ((nG m w t hs++rs.map nu).map V.str)):=by rw[aq,List.map_append]
 generalize upd H8 p (.lst ((nG m w t hs).map V.str++(rs.map nu).map V.str))=H9 at s9 c9 ⊢;walk_at"e";have hsum:=Zgm (m:=m) (by omega) Zts w0 w1 t0 t1 ok h90 rok;refine⟨"\n",p,nG m w t hs++rs.map nu,rfl,rfl,fj.of c9,by decide,by omega,?_⟩;rw[show Txt.join "\n" (nG m w t hs++rs.map nu)=Str.join ⟨#[10]⟩ (nG m w t hs++rs.map nu)from StrLaws.glued_eq_join _ _];exact h _ (s12.trans s9)
end
def jK(C:Addr):Sp:=λvs H Q E=>∃p m kd hl rl,vs=[.ref p,.int m,.ref kd,.ref hl,.ref rl]/\∃dx xs ys,H p=some (.ins C dx [])/\H hl=some (.lst xs)/\H rl=some (.lst ys)/\∀H' h2 r2,H' p=some (.ins C dx (jt m kd h2 r2))->H' h2=some (.lst xs)->H' r2=some (.lst ys)->(∀b o,H b=some o->b≠p->H' b=some o)->H h2=none->H r2=none->h2≠r2->Q .non H'
section
variable {K:aV}{X:Cs}{aC aL aK aP aJ aH aG aO aF aD aA:Addr}{H:Hp}{Q:VK}{E:XK}{n:St->Hp->Prop}{bk ct:St->Hp->Prop}
theorem Il{p kd hl rl:Addr}{m:Int}(T:qd K X aC aL aK aP aJ aH aG aO aF aD aA)(q:∃dx xs ys,H p=some (.ins aC dx [])/\H hl=some (.lst xs)/\H rl=some (.lst ys)/\∀H' h2 r2,H' p=some (.ins aC dx (jt m kd h2 r2))->H' h2=some (.lst xs)->H' r2=some (.lst ys)->(∀b o,H b=some o->b≠p->H' b=some o)->H h2=none->H r2=none->h2≠r2->Q .non H'):
  qQ K ⟨λ_ H'=>Q .non H',Q,bk,ct⟩ [some (.ref p),some (.int m),some (.ref kd),some (.ref hl),some (.ref rl)] H:=by
 obtain⟨dx,xs,ys,hp,hh,hr,h⟩:=q;have nhp:hl≠p:=λe=>by rw[e,hp]at hh;cases hh
 have nrp:rl≠p:=λe=>by rw[e,hp]at hr;cases hr
 unfold qQ;walk_at"e";refine⟨p,aC,dx,[],rfl,hp,T.cT,T.Fp,by decide,?_⟩;walk_at"e";refine⟨p,aC,dx,_,rfl,aq,T.cT,T.Kh,by show 1<1000;decide,?_⟩;rw[lO];walk_at"e";refine Yz (fj.of (by rw[aU nhp];exact hh)) λh2 nh2=>?_;have np2:p≠h2:=λe=>by rw[<- e,aq]at nh2;cases nh2
 walk_at"e";refine⟨p,aC,dx,_,rfl,by rw[aU np2];exact aq,T.cT,T.wK,by show 2<1000;decide,?_⟩;walk_at"e";have Zpi:h2≠p:=Ne.symm np2;have nrh:rl≠h2:=λe=>by rw[<- e,aU nrp,hr]at nh2;cases nh2
 refine Yz (fj.of (by rw[aU nrp,aU nrh,aU nrp];exact hr)) λr2 nr2=>?_;have npr:p≠r2:=λe=>by rw[<- e,aq]at nr2;cases nr2
 have Zsd:r2≠p:=Ne.symm npr;have nhr:h2≠r2:=λe=>by rw[<- e,aU Zpi,aq]at nr2;cases nr2
 walk_at"e";refine⟨p,aC,dx,_,rfl,by rw[aU npr];exact aq,T.cT,T.Bx,by show 3<1000;decide,?_⟩;refine h _ h2 r2 ?_ ?_ ?_ (λb o hb nb=>?_) (by rw[aU Zpi]at nh2;exact nh2) (by rw[aU Zsd,aU (Ne.symm nhr),aU Zsd]at nr2;exact nr2) nhr
 ·rw[aq,Zh6]
 ·rw[aU Zpi,aU nhr,aU Zpi,aq]
 ·rw[aU Zsd,aq]
 ·have n1:b≠h2:=λe=>by rw[<- e,aU nb,hb]at nh2;cases nh2
  have n2:b≠r2:=λe=>by rw[<- e,aU nb,aU n1,aU nb,hb]at nr2;cases nr2
  rw[aU nb,aU n2,aU nb,aU n1,aU nb];exact hb
end
def rfS:Rf->Str
 | .full=>"full"
 | .empty=>"empty"
 | .pY=>"field"
 | .Fl=>"name"
def Zwq(X:Cs)(rf:Rf->Addr)(wo dd:Addr)(H:Hp)(Q:VK):Prop:=∃T s A M d,WT H T/\s≠0/\WJ X H T s A M/\A.wo=wo/\H dd=some (.tup (dV d))/\okD M d/\M.cells.length<=900/\(M.sw.phase="walk"->M.sw.grey.length<=10000)/\(0<=M.tells/\M.tells<4)/\M.names.length<=1000/\
 (∀r,sS M d=.error r->∀a l H',dF H H'->H a=none->H l=none->H' a=some (.tup [.str "refused",.str (rfS r),.ref l])->H' l=some (.lst [])->Q (.ref a) H')/\
 (∀e M',sS M d=.ok (e,M')->∀H' T' A' a,pC s H H' T T'->WJ X H' T' s A' M'->A'.wo=wo->EvN H H' T' s a e->Q (.ref a) H')
def Zjd:nZ->Str
 | .make _ _ _ _=>"make"
 | .get _ _ _ _=>"get"
 | .put _ _ _ _=>"put"
 | .copy _ _ _=>"copy"
 | .drop _ _=>"drop"
 | .give _ _ _ _=>"give"
 | .write _ _ _=>"write"
 | .read _ _=>"read"
 | .name _ _ _=>"name"
 | .seek _ _ _=>"seek"
theorem dV0(d:nZ):Ur (dV d) 0=some (.str (Zjd d)):=by cases d<;>rfl
abbrev Hds:=List (Str×Int)
def Bv(hs:Hds)(h s:Nat):Prop:=∃m,hs[h]? =some m/\(s:Int)<m.2
def okR(hs:Hds):nZ->Prop
 | .make h s many bulk=>Bv hs h s/\0<=many/\many<=8/\0<=bulk
 | .get h s t _=>Bv hs h s/\Bv hs h t
 | .put h t _ s=>Bv hs h t/\Bv hs h s
 | .copy h s t=>Bv hs h s/\Bv hs h t
 | .drop h s=>Bv hs h s
 | .give h s g t=>Bv hs h s/\Bv hs g t
 | .write h t _=>Bv hs h t
 | .read h t=>Bv hs h t
 | .name h t _=>Bv hs h t
 | .seek h s _=>Bv hs h s
def Zum(M:Wm):Prop:=M.sw.phase="walk"->M.sw.grey.Nodup/\∀x∈M.sw.grey,∃c,cellAt M x=some c/\c.tone=M.sw.sense
structure KW(M:Wm)(hs:Hds)(k:Nat):Prop where
 hl:M.hands.length=hs.length
 hn:∀(i:Nat) m n,M.hands[i]? =some m->hs[i]? =some n->m.2.length=n.2.toNat
 cl:M.cells.length<=k
 nl:M.names.length<=k
 fl:∀c,some c∈M.cells->c.fl.length<=8
 gr:Zum M
 ph:M.sw.phase="rest"\/M.sw.phase="walk"\/M.sw.phase="give"\/M.sw.phase="lost"
 a0:0<=M.sw.at'
 tl:0<=M.tells/\M.tells<4
section
variable {M:Wm}{hs:Hds}{k:Nat}
theorem Zac:∀(n:Nat) (l:List Int),l.Nodup->(∀x∈l,0<=x/\x<n)->l.length<=n
 | 0,l,_,h=>by
  cases l with
  | nil=>exact Nat.le_refl _
  | cons x l=>have:=h x (by simp);omega
 | n+1,l,nd,h=>by
  have h1:(l.erase (n:Int)).length<=n:=Zac n _ (nd.erase _) λx hx=>by
   have h2:=h x (List.mem_of_mem_erase hx);have h3:x≠(n:Int):=((nd.mem_erase_iff).mp hx).1
   push_cast at h2
   omega
  have h4:=List.length_erase (a:=(n:Int)) (l:=l);split at h4<;>omega
theorem Zj3{x:Int}{c:Ce}(h:cellAt M x=some c):0<=x/\x<M.cells.length:=by
 obtain⟨h0,h1⟩:=mC.mp h;have:=(gG h1).1;omega
theorem KW.Ak(p:KW M hs k){h s:Nat}(o:Bv hs h s):Ak M h s:=by
 obtain⟨m,hm,hlt⟩:=o;have hh:h<M.hands.length:=by rw[p.hl];exact(gG hm).1
 refine⟨_,eV hh,?_⟩;have:=p.hn h _ m (eV hh) hm;omega
theorem KW.okD(p:KW M hs k){d:nZ}(o:okR hs d):okD M d:=by
 cases d with
 | make h s many bulk=>exact⟨p.Ak o.1,o.2.1,by have:=o.2.2.1;omega,o.2.2.2⟩
 | get h s t f=>exact⟨p.Ak o.1,p.Ak o.2⟩
 | put h t f s=>exact⟨p.Ak o.1,p.Ak o.2⟩
 | copy h s t=>exact⟨p.Ak o.1,p.Ak o.2⟩
 | drop h s=>exact p.Ak o
 | give h s g t=>exact⟨p.Ak o.1,p.Ak o.2⟩
 | write h t l=>exact p.Ak o
 | read h t=>exact p.Ak o
 | name h t z=>exact p.Ak o
 | seek h s z=>exact p.Ak o
theorem KW.mono{k':Nat}(p:KW M hs k)(h:k<=k'):KW M hs k':=by
 obtain⟨a1,a2,a3,a4,a5,a6,a7,a8,a9⟩:=p;exact⟨a1,a2,by omega,by omega,a5,a6,a7,a8,a9⟩
theorem KW.slot(p:KW M hs k)(h s:Nat)(x:Option Int):KW (setSlot M h s x) hs k:=by
 obtain⟨a1,a2,a3,a4,a5,a6,a7,a8,a9⟩:=p;refine⟨by show(M.hands.modify h _).length=_;rw[List.length_modify];exact a1,λi m n e1 e2=>?_,a3,a4,a5,a6,a7,a8,a9⟩;have e1:(M.hands.modify h λm=>(m.1,m.2.set s x))[i]? =some m:=e1;rw[List.getElem?_modify]at e1;cases em:M.hands[i]? with
 | none=>rw[em]at e1;cases e1
 | some m0=>
  rw[em]at e1
  by_cases z:h=i
  ·have e3:(m0.1,m0.2.set s x)=m:=by simpa[z]using e1
   rw[<- e3];show(m0.2.set s x).length=_;rw[List.length_set];exact a2 i m0 n em e2
  ·have e3:m0=m:=by simpa[z]using e1
   rw[<- e3];exact a2 i m0 n em e2
theorem Cq{i:Int}{c c':Ce}(h:cellAt M i=some c)(x:Int):cellAt (setCell M i c') x=if x=i then some c' else cellAt M x:=by
 obtain⟨h0,h1⟩:=mC.mp h;unfold cellAt;show(if 0<=x then((M.cells.set i.toNat (some c'))[x.toNat]?).join else none)=_
 by_cases e:x=i
 ·subst e;rw[if_pos h0,if_pos rfl,List.getElem?_set_self (gG h1).1];rfl
 ·rw[if_neg e]
  by_cases x0:0<=x
  ·rw[if_pos x0,if_pos x0,List.getElem?_set_ne (by omega)]
  ·rw[if_neg x0,if_neg x0]
theorem KW.cell(p:KW M hs k){i:Int}{c c':Ce}(h:cellAt M i=some c)(ht:c'.tone=c.tone)(hf:c'.fl.length=c.fl.length):KW (setCell M i c') hs k:=by
 have h8:=p.fl c (RC h);obtain⟨a1,a2,a3,a4,a5,a6,a7,a8,a9⟩:=p;refine⟨a1,a2,by show(M.cells.set _ _).length<=_;rw[List.length_set];exact a3,a4,λd hd=>?_,λph=>?_,a7,a8,a9⟩
 ·rcases List.mem_or_eq_of_mem_set (show some d∈M.cells.set _ _ from hd)with hd | hd
  ·exact a5 d hd
  ·cases hd;omega
 ·obtain⟨nd,h1⟩:=a6 ph;refine⟨nd,λx hx=>?_⟩;obtain⟨d,hd,td⟩:=h1 x hx;rw[Cq h]
  by_cases e:x=i
  ·subst e;rw[h]at hd;cases hd;exact⟨c',by rw[if_pos rfl],by rw[ht];exact td⟩
  ·exact⟨d,by rw[if_neg e];exact hd,td⟩
theorem KW.note(p:KW M hs k)(x:Option Int):KW (gn M x).2 hs k:=by
 cases x with
 | none=>exact p
 | some i=>
  unfold gn;dsimp only;cases hc:cellAt M i with
  | none=>exact p
  | some c=>
   dsimp only;split
   ·rename_i z
    obtain⟨z1,z2⟩:=z;have h8:=p.fl c (RC hc);obtain⟨a1,a2,a3,a4,a5,a6,a7,a8,a9⟩:=p;obtain⟨nd,h1⟩:=a6 z1;have hni:i∉M.sw.grey:=λhi=>by
     obtain⟨d,hd,td⟩:=h1 i hi;rw[hc]at hd;cases hd;exact z2 td
    refine⟨a1,a2,by show(M.cells.set _ _).length<=_;rw[List.length_set];exact a3,a4,λd hd=>?_,λ_=>⟨?_,λx hx=>?_⟩,a7,a8,a9⟩
    ·rcases List.mem_or_eq_of_mem_set (show some d∈M.cells.set _ _ from hd)with hd | hd
     ·exact a5 d hd
     ·cases hd;exact h8
    ·show(M.sw.grey++[i]).Nodup;rw[List.nodup_append];exact⟨nd,by simp,λa ha b hb e=>hni (by rw[List.mem_singleton.mp hb]at e;rw[<- e];exact ha)⟩
    ·have e:=Cq (c':={ c with tone:=M.sw.sense }) hc x;show ∃d,cellAt (setCell M i { c with tone:=M.sw.sense }) x=some d/\d.tone=M.sw.sense;rw[e]
     by_cases ex:x=i
     ·exact⟨_,by rw[if_pos ex],rfl⟩
     ·rcases List.mem_append.mp (show x∈M.sw.grey++[i]from hx)with hx | hx
      ·obtain⟨d,hd,td⟩:=h1 x hx;exact⟨d,by rw[if_neg ex];exact hd,td⟩
      ·exact absurd (List.mem_singleton.mp hx) ex
   ·exact p
theorem KW.notes:∀{l:List (Option Int)}{M:Wm},KW M hs k->KW (gk M l).2 hs k
 | [],_,p=>p
 | x::l,_,p=>KW.notes (l:=l) (p.note x)
theorem KW.put(p:KW M hs k){u b:Int}{c:Ce}(hf:c.fl.length<=8):KW { M with used:=u,born:=b,cells:=tO M.cells c } hs (k+1):=by
 obtain⟨a1,a2,a3,a4,a5,a6,a7,a8,a9⟩:=p;refine⟨a1,a2,?_,by show M.names.length<=_;omega,λd hd=>?_,λph=>?_,a7,a8,a9⟩
 ·have:=Zok M.cells c;show(tO M.cells c).length<=_;omega
 ·rcases Zlj hd with hd | hd
  ·exact a5 d hd
  ·cases hd;exact hf
 ·obtain⟨nd,h1⟩:=a6 ph;refine⟨nd,λx hx=>?_⟩;obtain⟨d,hd,td⟩:=h1 x hx;exact⟨d,Zf8 hd,td⟩
theorem Zhc{l:List (Str×(Int×Int))}{z:Str}{v:Int×Int}:(wF l z v).length<=l.length+1:=by
 unfold wF;split
 ·rw[dM];omega
 ·rw[List.length_append];simp
theorem KW.name(p:KW M hs k){z:Str}{v:Int×Int}:KW { M with names:=wF M.names z v } hs (k+1):=by
 obtain⟨a1,a2,a3,a4,a5,a6,a7,a8,a9⟩:=p;refine⟨a1,a2,by show M.cells.length<=_;omega,?_,a5,a6,a7,a8,a9⟩;have:=Zhc (l:=M.names) (z:=z) (v:=v);show(wF M.names z v).length<=_;omega
theorem KW.deed(p:KW M hs k){d:nZ}{e:Ev}{M':Wm}(o:okR hs d)(h:sS M d=.ok (e,M')):KW M' hs (k+1):=by
 have le:k<=k+1:=by omega
 cases d with
 | make hh s many bulk=>
  simp only[sS]at h;split at h
  ·have h2:=(Except.ok.inj h);rw[<- (Prod.mk.inj h2).2];refine KW.slot (KW.put p ?_) _ _ _;show(List.replicate many.toNat none).length<=8;rw[List.length_replicate];have:=o.2.2.1;omega
  ·cases h
 | get hh s t f=>
  simp only[sS]at h;split at h
  ·cases h
  ·split at h
   ·cases h
   ·split at h
    ·cases h
    ·have h2:=(Except.ok.inj h);rw[<- (Prod.mk.inj h2).2];exact(p.slot _ _ _).mono le
 | put hh t f s=>
  simp only[sS]at h;split at h
  ·cases h
  ·split at h
   ·cases h
   ·rename_i c hc
    split at h
    ·cases h
    ·have h2:=(Except.ok.inj h);rw[<- (Prod.mk.inj h2).2];exact(KW.notes (p.cell (c':={ c with fl:=c.fl.set f (dD M hh s) }) hc rfl (by show(List.set _ _ _).length=_;rw[List.length_set]))).mono le
 | copy hh s t=>
  have h2:=(Except.ok.inj h);rw[<- (Prod.mk.inj h2).2];exact(p.slot _ _ _).mono le
 | drop hh s=>
  have h2:=(Except.ok.inj h);rw[<- (Prod.mk.inj h2).2];exact(p.slot _ _ _).mono le
 | give hh s g t=>
  have h2:=(Except.ok.inj h);rw[<- (Prod.mk.inj h2).2];exact(KW.notes (p.slot _ _ _)).mono le
 | write hh t l=>
  simp only[sS]at h;split at h
  ·cases h
  ·split at h
   ·cases h
   ·rename_i c hc
    have h2:=(Except.ok.inj h);rw[<- (Prod.mk.inj h2).2];exact(p.cell (c':={ c with load:=l }) hc rfl rfl).mono le
 | read hh t=>
  simp only[sS]at h;split at h
  ·cases h
  ·split at h
   ·cases h
   ·have h2:=(Except.ok.inj h);rw[<- (Prod.mk.inj h2).2];exact p.mono le
 | name hh t z=>
  simp only[sS]at h;split at h
  ·cases h
  ·split at h
   ·cases h
   ·have h2:=(Except.ok.inj h);rw[<- (Prod.mk.inj h2).2];exact p.name
 | seek hh s z=>
  simp only[sS]at h;split at h
  ·cases h
  ·split at h
   ·have h2:=(Except.ok.inj h);rw[<- (Prod.mk.inj h2).2];exact(p.slot _ _ _).mono le
   ·have h2:=(Except.ok.inj h);rw[<- (Prod.mk.inj h2).2];exact(KW.notes (p.slot _ _ _)).mono le
theorem KW.new{room:Int}{w t:Int}(h0:0<=t)(h1:t<4):KW (uO room hs w t) hs 0:=by
 refine⟨by show(hs.map _).length=_;rw[dM],λi m n e1 e2=>?_,Nat.le_refl _,Nat.le_refl _,λc hc=>(nomatch hc),λz=>absurd z (show ¬ ("rest":Str)="walk" by decide),.inl rfl,Int.le_refl _,⟨h0,h1⟩⟩;have e1:(hs.map λm=>(m.1,List.replicate m.2.toNat (none:Option Int)))[i]? =some m:=e1;rw[fV,e2]at e1;cases e1;exact List.length_replicate
end
def CZ:Sp:=λvs H Q E=>∃z,vs=[.str z]/\∀a l H',dF H H'->H a=none->H l=none->H' a=some (.tup [.str "refused",.str z,.ref l])->H' l=some (.lst [])->Q (.ref a) H'
def O6(X:Cs)(rf:Rf->Addr):Sp:=λvs H Q E=>∃wo dd,vs=[.ref wo,.ref dd]/\Zwq X rf wo dd H Q
variable {K:aV}{X:Cs}{rf:Rf->Addr}{H:Hp}{Q:VK}{E:XK}{n:St->Hp->Prop}{bk ct:St->Hp->Prop}
section
theorem Zd2{z:Str}(q:∀a l H',dF H H'->H a=none->H l=none->H' a=some (.tup [.str "refused",.str z,.ref l])->H' l=some (.lst [])->Q (.ref a) H'):En ⟨n,Q,bk,ct⟩ [some (.str z)] H:=by
 unfold En;walk_at"e";refine⟨by decide,λl nl=>?_⟩;refine⟨dR (by simp),λa na=>?_⟩;exact q a l _ ((bY nl _).trans (bY na _)) ((bY nl _).free na) nl aq ((bY na _) _ _ aq)
theorem R3{wo dd CE CF CN CM:Addr}(h1:rf .empty=CE)(h2:rf .full=CF)(h3:rf .pY=CN)(h4:rf .Fl=CM)(q:Zwq X rf wo dd H Q):
  xG CE CF CN CM (Zws X rf) CZ ⟨n,Q,bk,ct⟩ [some (.ref wo),some (.ref dd)] H:=by
 obtain⟨T,s,A,M,d,w,s0,j,rfl,ed,od,hc,hg,tl,nm,k1,k2⟩:=q;subst h1 h2 h3 h4;unfold xG;walk_at"e";refine⟨_,dd,rfl,T,s,A,M,d,trivial,w,s0,j,rfl,ed,od,hc,hg,tl,nm,λr er H' s=>?_,λe M' he H' T' A' a st j' aw ev=>?_⟩
 ·cases r with
  | full=>
   refine .inr (.inr (.inl ⟨rfl,?_⟩));walk_at"e";exact⟨_,rfl,λa l H2 s2 fa fl ha hl=>k1 _ er a l H2 (s.trans s2) (s.free fa) (s.free fl) ha hl⟩
  | empty=>
   refine .inl ⟨rfl,?_⟩;walk_at"e";exact⟨_,rfl,λa l H2 s2 fa fl ha hl=>k1 _ er a l H2 (s.trans s2) (s.free fa) (s.free fl) ha hl⟩
  | pY=>
   refine .inr (.inl ⟨rfl,?_⟩);walk_at"e";exact⟨_,rfl,λa l H2 s2 fa fl ha hl=>k1 _ er a l H2 (s.trans s2) (s.free fa) (s.free fl) ha hl⟩
  | Fl=>
   refine .inr (.inr (.inr ⟨rfl,?_⟩));walk_at"e";exact⟨_,rfl,λa l H2 s2 fa fl ha hl=>k1 _ er a l H2 (s.trans s2) (s.free fa) (s.free fl) ha hl⟩
 ·walk_at"e";exact k2 e M' he H' T' A' a st j' aw ev
end
abbrev Rz:=Str×V×List Int
def TuO(H0 H:Hp)(T:Tg)(s:Nat)(a:Addr)(x:Rz):Prop:=∃l,H0 l=none/\H a=some (.tup [.str x.1,x.2.1,.ref l])/\H l=some (.lst (x.2.2.map V.int))/\(T a).1≠s/\(T l).1≠s
theorem TuO.mv{H0 H H':Hp}{T T':Tg}{s:Nat}{a:Addr}{x:Rz}(h:TuO H0 H T s a x)(st:pC s H H' T T'):TuO H0 H' T' s a x:=by
 obtain⟨l,f,h1,h2,t1,t2⟩:=h;exact⟨l,f,st.kp _ _ h1 t1,st.kp _ _ h2 t2,by rw[st.tg _ _ h1];exact t1,by rw[st.tg _ _ h2];exact t2⟩
def JL:Except Rf (Ev×Wm)->Rz
 | .ok x=>(x.1.word,oV x.1.thing,x.1.notes)
 | .error r=>("refused",.str (rfS r),[])
def stM(M:Wm):Except Rf (Ev×Wm)->Wm
 | .ok x=>x.2
 | .error _=>M
def runM:Wm->List nZ->List Rz
 | _,[]=>[]
 | M,d::ds=>JL (sS M d)::runM (stM M (sS M d)) ds
def Rv:Wm->List nZ->Wm
 | M,[]=>M
 | M,d::ds=>Rv (stM M (sS M d)) ds
def O4(X:Cs)(rf:Rf->Addr):Sp:=λvs H Q E=>∃wo dd,vs=[.ref wo,.ref dd]/\∃T s A M d,WT H T/\s≠0/\WJ X H T s A M/\A.wo=wo/\H dd=some (.tup (dV d))/\okD M d/\M.cells.length<=900/\(M.sw.phase="walk"->M.sw.grey.length<=10000)/\(0<=M.tells/\M.tells<4)/\M.names.length<=1000/\
 ∀H' T' A' a p,pC s H H' T T'->WJ X H' T' s A' (stM M (sS M d))->A'.wo=wo->TuO H H' T' s a (JL (sS M d))->H' p=some (.lst [.ref a])->H p=none->(T' p).1≠s->Q (.ref p) H'
theorem Znv(d:nZ):¬ Zjd d=("sweep":Str):=by cases d<;>(simp only[Zjd];decide)
section
theorem Zji{wo dd:Addr}(q:∃T s A M d,WT H T/\s≠0/\WJ X H T s A M/\A.wo=wo/\H dd=some (.tup (dV d))/\okD M d/\M.cells.length<=900/\(M.sw.phase="walk"->M.sw.grey.length<=10000)/\(0<=M.tells/\M.tells<4)/\M.names.length<=1000/\
  ∀H' T' A' a p,pC s H H' T T'->WJ X H' T' s A' (stM M (sS M d))->A'.wo=wo->TuO H H' T' s a (JL (sS M d))->H' p=some (.lst [.ref a])->H p=none->(T' p).1≠s->Q (.ref p) H'):
  Qw K (O6 X rf) ⟨n,Q,bk,ct⟩ [some (.ref wo),some (.ref dd)] H:=by
 obtain⟨T,s,A,M,d,w,s0,j,aw,ed,od,hc,hg,tl,nm,k⟩:=q;unfold Qw;walk_at"e";refine⟨dd,_,0,_,rfl,rfl,jE.of ed,dV0 d,?_⟩;walk_at"e";refine DP (λz=>absurd z (Znv d)) (λ_=>?_);walk_at"e";refine⟨wo,dd,rfl,T,s,A,M,d,w,s0,j,aw,ed,od,hc,hg,tl,nm,λr er a l H1 s1 fa fl ha hl=>?_,λe M' he H1 T1 A1 a st j1 aw1 ev=>?_⟩
 ·walk_at"e";refine⟨by show 1<=_;decide,λp hp=>?_⟩;have s2:=bY hp (.lst [.ref a]);have s12:=s1.trans s2;refine k _ T A a p (pC.same w s12) ?_ aw ?_ aq (s1.free hp) (Zc1 w s0 (s1.free hp)).2
  ·rw[er];exact j.same s12
  ·rw[er];exact⟨l,fl,s2 _ _ ha,s2 _ _ hl,(Zc1 w s0 fa).2,(Zc1 w s0 fl).2⟩
 ·walk_at"e";refine⟨by show 1<=_;decide,λp hp=>?_⟩;have s2:=bY hp (.lst [.ref a]);obtain⟨l,⟨fl,tl1,ta⟩,h1,h2⟩:=ev;refine k _ T1 A1 a p (st.trans (pC.same st.wt s2)) ?_ aw1 ?_ aq (pC.free st hp) (Zc1 st.wt s0 hp).2
  ·rw[he];exact j1.same s2
  ·rw[he];exact⟨l,fl,s2 _ _ h1,s2 _ _ h2,ta,tl1⟩
end
theorem Zk4(M:Wm)(d:nZ):(JL (sS M d)).1≠("lost":Str):=by
 cases d<;>simp only[sS]<;>(repeat' split)<;>(simp only[JL];decide)
def O5:Sp:=λvs H Q E=>∃p,vs=[.ref p]/\∃(a:Addr) (z:Str) (v l:V),H p=some (.lst [.ref a])/\H a=some (.tup [.str z,v,l])/\z≠("lost":Str)/\Q (.bl false) H
def Ir:Sp:=λvs H Q E=>∃p,vs=[.ref p]/\∃(ps:List Addr) (b a:Addr) (z:Str) (v l:V),H p=some (.lst ((ps++[b]).map V.ref))/\H b=some (.lst [.ref a])/\H a=some (.tup [.str z,v,l])/\z≠("lost":Str)/\Q (.bl false) H
section
theorem Sg{p:Addr}(q:∃(a:Addr) (z:Str) (v l:V),H p=some (.lst [.ref a])/\H a=some (.tup [.str z,v,l])/\z≠("lost":Str)/\Q (.bl false) H):xH K ⟨n,Q,bk,ct⟩ [some (.ref p)] H:=by
 obtain⟨a,z,v,l,hp,ha,nz,h⟩:=q;unfold xH;walk_at"e";refine qZ (fj.of hp) ?_;walk_at"e";refine DP (λ_=>?_) (λe=>absurd (by show(0:Int)<1;decide) e);walk_at"e";refine jA (v:=.ref a) (fj.of hp) rfl ?_;walk_at"e";refine⟨a,_,0,_,rfl,rfl,jE.of ha,rfl,?_⟩;walk_at"e";rw[decide_eq_false nz];exact h
theorem Zea{p:Addr}(q:∃(ps:List Addr) (b a:Addr) (z:Str) (v l:V),H p=some (.lst ((ps++[b]).map V.ref))/\H b=some (.lst [.ref a])/\H a=some (.tup [.str z,v,l])/\z≠("lost":Str)/\Q (.bl false) H):Ep K O5 ⟨n,Q,bk,ct⟩ [some (.ref p)] H:=by
 obtain⟨ps,b,a,z,v,l,hp,hb,ha,nz,h⟩:=q;unfold Ep;walk_at"e";refine qZ (fj.of hp) ?_;rw[dM,List.length_append];walk_at"e";refine DP (λ_=>?_) (λe=>absurd (by show(0:Int)<((ps.length+1:Nat):Int);omega) e);walk_at"e";refine jA (v:=.ref b) (fj.of hp) ?_ ?_
 ·have:=Zbp (ps.map V.ref) (V.ref b);rw[List.map_append];exact this
 walk_at"e";exact⟨b,rfl,a,z,v,l,hb,ha,nz,h⟩
end
theorem Y7{α β:Type}{R:α->β->Prop}:∀{xs:List α}{ys:List β},xs.length=ys.length->(∀(i:Nat) a,xs[i]? =some a->∃b,ys[i]? =some b/\R a b)->Al R xs ys
 | [],[],_,_=>.nil
 | [],_::_,h,_=>by cases h
 | _::_,[],h,_=>by cases h
 | x::xs,y::ys,h,g=>by
  obtain⟨b,e,r⟩:=g 0 x rfl;cases e;exact .cons r (Y7 (Nat.succ.inj h) λi a ha=>g (i+1) a ha)
def nU(CS:Addr)(X:Cs):Sp:=λvs H Q E=>∃sc,vs=[.ref sc]/\∃T s dx m kd hl rl lk w t hs,H sc=some (.ins CS dx (jt m kd hl rl))/\De X H kd lk w t/\HL H hl hs/\hs.length<=6/\(∀x∈hs,3<=x.2/\x.2<=9)/\WT H T/\s≠0/\T kd=(0,0)/\T lk=(0,0)/\∀H' T' A,dF H H'->(∀b o,H b=some o->T' b=T b)->WT H' T'->WJ X H' T' s A (uO m hs w t)->Q (.ref A.wo) H'
section
variable {K:aV}{X:Cs}{aC aL aK aP aJ aH aG aO aF aD aA:Addr}{H:Hp}{Q:VK}{E:XK}{n:St->Hp->Prop}{bk ct:St->Hp->Prop}
theorem Zr{sc:Addr}(TT:qd K X aC aL aK aP aJ aH aG aO aF aD aA)(q:∃T s dx m kd hl rl lk w t hs,H sc=some (.ins aC dx (jt m kd hl rl))/\De X H kd lk w t/\HL H hl hs/\hs.length<=6/\(∀x∈hs,3<=x.2/\x.2<=9)/\WT H T/\s≠0/\T kd=(0,0)/\T lk=(0,0)/\∀H' T' A,dF H H'->(∀b o,H b=some o->T' b=T b)->WT H' T'->WJ X H' T' s A (uO m hs w t)->Q (.ref A.wo) H'):
  Bj K X.W (uQ X) ⟨n,Q,bk,ct⟩ [some (.ref sc)] H:=by
 obtain⟨T,s,dx,m,kd,hl,rl,lk,w,t,hs,o,kk,hls,h6,hb,wt,s0,tk,tl,h⟩:=q;obtain⟨as,g1,g2,g3⟩:=id hls;obtain⟨⟨d1,ok1⟩,⟨d2,ol⟩⟩:=id kk;unfold Bj;walk_at"e";refine cV o TT.cT TT.Fp mW ?_;walk_at"e";refine cV o TT.cT TT.Kh oU ?_;walk_at"e";refine cV o TT.cT TT.wK jY ?_;walk_at"e";intro x dy nx ndy ne;have s1:dF H (upd (upd H dy (.own x)) x (.ins X.W dy [])):=λb o hb=>by rw[aU (aM hb nx),aU (aM hb ndy)];exact hb
 have nlk:lk≠x:=by
  rcases ol with ⟨_,e⟩ | ⟨_,e⟩ | ⟨_,e⟩<;>exact aM e nx
 refine⟨x,m,kd,hl,rfl,dy,T,s,lk,w,t,as,hs,aq,wt.same s1,s0,kk.same s1,tk,tl,aM ok1 nx,nlk,s1 _ _ g1,Y7 g2 λi a ha=>?_,by omega,λH2 T2 A k2 t2 w2 aw j2=>⟨rfl,?_⟩⟩
 ·obtain⟨y,ey,hy⟩:=g3 i a ha;have:=hb y (List.mem_of_getElem? ey);exact⟨y,ey,s1 _ _ hy,by omega,by omega⟩
 ·have:=h H2 T2 A (λb o hb=>k2 b o (s1 b o hb) (aM hb nx)) (λb o hb=>t2 b o (s1 b o hb) (aM hb nx)) w2 j2;rw[aw]at this;exact this
end
def Hz:m7->Bool
 | .sw _=>false
 | .dd _ _ _=>true
def qy(CS:Addr):Sp:=λvs H Q E=>∃sc mr,vs=[.ref sc,.ref mr]/\∃dx m kd hl rl xs ys zs,H sc=some (.ins CS dx (jt m kd hl rl))/\H hl=some (.lst xs)/\H rl=some (.lst ys)/\H mr=some (.lst zs)/\ys.length+zs.length<=1000/\∀H' sc' dx' hl' rl',dF H H'->H' sc'=some (.ins CS dx' (jt m kd hl' rl'))->H' hl'=some (.lst xs)->H' rl'=some (.lst (ys++zs))->H hl'=none->H rl'=none->hl'≠rl'->Q (.ref sc') H'
def Vm:m7->Prop
 | .sw _=>True
 | .dd w _ _=>w≠kO
def zR(K:aV)(CS:Addr):Sp:=λvs H Q E=>∃sc,vs=[.ref sc]/\∃dx m kd hl rl xs,∃(as:List Addr) (rs:List m7),H sc=some (.ins CS dx (jt m kd hl rl))/\H hl=some (.lst xs)/\H rl=some (.lst (as.map V.ref))/\as.length=rs.length/\as.length<=1000/\(∀(i:Nat) a,as[i]? =some a->∃r,rs[i]? =some r/\H a=some (.tup (eY r))/\Vm r)/\
 ∀H' sc' dx' hl' rl' (bs:List Addr),dF H H'->H' sc'=some (.ins CS dx' (jt m kd hl' rl'))->H' hl'=some (.lst xs)->H' rl'=some (.lst (bs.map V.ref))->RL H' rl' (rs.filter λr=>Hz r)->H hl'=none->H rl'=none->hl'≠rl'->Q (.ref sc') H'
theorem Zg9{α β:Type}(f:α->Option β):∀xs:List α,(List.range xs.length).filterMap (λi=>(xs[i]?).bind f)=xs.filterMap f
 | []=>rfl
 | x::xs=>by
  rw[List.length_cons,List.range_succ_eq_map,List.filterMap_cons,List.filterMap_cons];have ih:=Zg9 f xs;simp only[List.getElem?_cons_zero,Option.bind_some,List.filterMap_map];have e:(List.range xs.length).filterMap ((λi=>((x::xs)[i]?).bind f) ∘ Nat.succ)=xs.filterMap f:=ih;rw[e]
theorem flt{H:Hp}:∀{as:List Addr}{rs:List m7},as.length=rs.length->(∀(i:Nat) a,as[i]? =some a->∃r,rs[i]? =some r/\H a=some (.tup (eY r))/\Vm r)->∃bs:List Addr,(as.zip rs).filterMap (λx=>if Hz x.2=true then some (V.ref x.1)else none)=bs.map V.ref/\bs.length=(rs.filter λr=>Hz r).length/\∀(i:Nat) b,bs[i]? =some b->∃r,(rs.filter λr=>Hz r)[i]? =some r/\H b=some (.tup (eY r))
 | [],[],_,_=>⟨[],rfl,rfl,λi b h=>by cases h⟩
 | [],_::_,h,_=>by cases h
 | _::_,[],h,_=>by cases h
 | a::as,r::rs,h,g=>by
  obtain⟨bs,e1,e2,e3⟩:=flt (H:=H) (as:=as) (rs:=rs) (Nat.succ.inj h) λi a ha=>g (i+1) a ha;obtain⟨r',er,hr,_⟩:=g 0 a rfl;cases er;rw[List.zip_cons_cons,List.filterMap_cons,List.filter_cons]
  by_cases z:Hz r=true
  ·dsimp only;rw[if_pos z,if_pos z,e1];refine⟨a::bs,rfl,by rw[List.length_cons,List.length_cons,e2],λi b hb=>?_⟩
   match i,hb with
   | 0,hb=>cases hb;exact⟨r,rfl,hr⟩
   | i+1,hb=>exact e3 i b hb
  ·dsimp only;rw[if_neg z,if_neg z,e1];exact⟨bs,rfl,e2,e3⟩
theorem RL.mv{H H':Hp}{l l':Addr}{rs:List m7}(h:RL H l rs)(s:dF H H')(e:∀ys,H l=some (.lst ys)->H' l'=some (.lst ys)):RL H' l' rs:=by
 obtain⟨as,h1,h2,h3⟩:=h;exact⟨as,e _ h1,h2,λi a ha=>let ⟨x,e,q⟩:=h3 i a ha;⟨x,e,s _ _ q⟩⟩
section
variable {K:aV}{X:Cs}{aC aL aK aP aJ aH aG aO aF aD aA:Addr}{H:Hp}{Q:VK}{E:XK}{n:St->Hp->Prop}{bk ct:St->Hp->Prop}
theorem Wq{sc mr:Addr}(TT:qd K X aC aL aK aP aJ aH aG aO aF aD aA)(q:∃dx m kd hl rl xs ys zs,H sc=some (.ins aC dx (jt m kd hl rl))/\H hl=some (.lst xs)/\H rl=some (.lst ys)/\H mr=some (.lst zs)/\ys.length+zs.length<=1000/\∀H' sc' dx' hl' rl',dF H H'->H' sc'=some (.ins aC dx' (jt m kd hl' rl'))->H' hl'=some (.lst xs)->H' rl'=some (.lst (ys++zs))->H hl'=none->H rl'=none->hl'≠rl'->Q (.ref sc') H'):
  yX K aC (jK aC) ⟨n,Q,bk,ct⟩ [some (.ref sc),some (.ref mr)] H:=by
 obtain⟨dx,m,kd,hl,rl,xs,ys,zs,o,hh,hr,hm,h1,h⟩:=q;unfold yX;walk_at"e";refine cV o TT.cT TT.Fp mW ?_;walk_at"e";refine cV o TT.cT TT.Kh oU ?_;walk_at"e";refine cV o TT.cT TT.wK jY ?_;walk_at"e";refine cV o TT.cT TT.Bx lE ?_;walk_at"e";refine⟨rl,mr,_,_,rfl,rfl,hr,hm,dR (by omega),λp hp=>?_⟩;generalize zz:upd H p _=H0;obtain⟨s0,c0⟩:=nwO hp zz;walk_at"e";intro x dy nx ndy ne;have s1:dF H0 (upd (upd H0 dy (.own x)) x (.ins aC dy [])):=λb o hb=>by rw[aU (aM hb nx),aU (aM hb ndy)];exact hb
 refine⟨x,m,kd,hl,p,rfl,dy,_,_,aq,s1 _ _ (s0 _ _ hh),s1 _ _ c0,λH2 h2 r2 e1 e2 e3 k2 f1 f2 f3=>⟨rfl,?_⟩⟩;have s2:dF H0 H2:=λb o hb=>k2 b o (s1 b o hb) (aM hb nx);exact h H2 x dy h2 r2 (s0.trans s2) e1 e2 e3 (s0.free (s1.free f1)) (s0.free (s1.free f2)) f3
theorem Zm5{l:Addr}{as:List Addr}{rs:List m7}{σ:St}{Q':VK}(hr:H l=some (.lst (as.map V.ref)))(len:as.length=rs.length)(h1:as.length<=1000)(hrow:∀(i:Nat) a,as[i]? =some a->∃r,rs[i]? =some r/\H a=some (.tup (eY r))/\Vm r)(h:∀p (bs:List Addr) H',H p=none->dF H H'->H' p=some (.lst (bs.map V.ref))->RL H' p (rs.filter λr=>Hz r)->Q' (.ref p) H'):
  LCg (Itl K l) [] (fD (dG (Ly) (dG (iQ K) (ak 0) (tC (.int 0))) (tC (.str "sweep")))) (ak 0) σ H Q':=by
 refine Oz (fj.of hr) (λi=>((as.zip rs)[i]?).bind λx=>if Hz x.2=true then some (.ref x.1)else none) (by rw[dM];omega) (λi x hx=>?_) λp hp=>?_
 ·rw[fV]at hx;obtain⟨a,ha,rfl⟩:=Option.map_eq_some_iff.mp hx;obtain⟨r,er,hb,ok⟩:=hrow i a ha;have ez:(as.zip rs)[i]? =some (a,r):=List.getElem?_zip_eq_some.mpr ⟨ha,er⟩;rw[ez];refine⟨λq hq=>?_,λv q hv hq=>?_⟩
  ·walk_at"c";walk_at"e";cases r with
   | sw m=>
    refine⟨a,_,0,_,rfl,rfl,jE.of hb,rfl,?_⟩;walk_at"e";exact hq
   | dd w q0 qs=>
    refine⟨a,_,0,_,rfl,rfl,jE.of hb,iJ (by decide) rfl,?_⟩;walk_at"e";have ok:w≠kO:=ok;rw[show decide (w=("sweep":Str))=false from decide_eq_false ok];exact hq
  ·walk_at"c";cases r with
   | sw m=>cases hv
   | dd w q0 qs=>
    cases hv;walk_at"e";exact hq
 rw[dM,show as.length=(as.zip rs).length by rw[List.length_zip];omega,Zg9];obtain⟨bs,e,bl,bg⟩:=flt (H:=H) len hrow;rw[e];have s0:=bY hp (.lst (bs.map V.ref));exact h p bs _ hp s0 aq ⟨bs,aq,bl,λi b hb=>let ⟨r,er,h⟩:=bg i b hb;⟨r,er,s0 _ _ h⟩⟩
theorem Zke{sc:Addr}(TT:qd K X aC aL aK aP aJ aH aG aO aF aD aA)(q:∃dx m kd hl rl xs,∃(as:List Addr) (rs:List m7),H sc=some (.ins aC dx (jt m kd hl rl))/\H hl=some (.lst xs)/\H rl=some (.lst (as.map V.ref))/\as.length=rs.length/\as.length<=1000/\(∀(i:Nat) a,as[i]? =some a->∃r,rs[i]? =some r/\H a=some (.tup (eY r))/\Vm r)/\
 ∀H' sc' dx' hl' rl' (bs:List Addr),dF H H'->H' sc'=some (.ins aC dx' (jt m kd hl' rl'))->H' hl'=some (.lst xs)->H' rl'=some (.lst (bs.map V.ref))->RL H' rl' (rs.filter λr=>Hz r)->H hl'=none->H rl'=none->hl'≠rl'->Q (.ref sc') H'):
  Qx K aC (jK aC) ⟨n,Q,bk,ct⟩ [some (.ref sc),none] H:=by
 obtain⟨dx,m,kd,hl,rl,xs,as,rs,o,hh,hr,len,h1,hrow,h⟩:=q;unfold Qx;walk_at"e";refine VB ?_;walk_at"e";refine cV o TT.cT TT.Bx lE ?_;walk_at"e";refine⟨rl,rfl,⟨_,fj.of hr⟩,?_⟩;refine Zm5 hr len h1 hrow λp bs H0 hp s0 c0 rr=>?_;walk_at"e";refine cV (s0 _ _ o) TT.cT TT.Fp mW ?_;walk_at"e";refine cV (s0 _ _ o) TT.cT TT.Kh oU ?_;walk_at"e";refine cV (s0 _ _ o) TT.cT TT.wK jY ?_;walk_at"e";intro x dy nx ndy ne;have s1:dF H0 (upd (upd H0 dy (.own x)) x (.ins aC dy [])):=λb o hb=>by rw[aU (aM hb nx),aU (aM hb ndy)];exact hb
 refine⟨x,m,kd,hl,p,rfl,dy,_,_,aq,s1 _ _ (s0 _ _ hh),s1 _ _ c0,λH2 h2 r2 e1 e2 e3 k2 f1 f2 f3=>⟨rfl,?_⟩⟩;have s2:dF H0 H2:=λb o hb=>k2 b o (s1 b o hb) (aM hb nx);have s02:=s0.trans s2;exact h H2 x dy h2 r2 bs s02 e1 e2 e3 (rr.mv s2 λys hy=>by rw[c0]at hy;cases hy;exact e3) (s0.free (s1.free f1)) (s0.free (s1.free f2)) f3
end
section
variable {hs:List (Str×Int)}{q:Qd}{r qs:List Qd}{o:Nat}
theorem Zra(h:FJ hs o (q::r))(e:q.1=kJ):∃k:Nat,q.2.1=.int k/\FJ hs k r:=by
 rcases h with ⟨_,k,e1,e2⟩ | ⟨n,_⟩
 ·exact⟨k,e1,e2⟩
 ·exact absurd e n
theorem Zus(h:FJ hs o (q::r))(e:q.1≠kJ):FJ hs o r:=by
 rcases h with ⟨z,_⟩ | ⟨_,h,_⟩
 ·exact absurd z e
 ·exact h
theorem Za3{f:Str}{m:Int}(k:QOk hs q)(e:q.1=f)(l:GF.lookup f=some (.int m)):∃n:Nat,q.2.1=.int n/\(n:Int)<=m:=by
 obtain⟨f',v,t,d⟩:=q;have k:Fv hs f' v t d:=k.1;have e:f'=f:=e;subst e;cases k with
 | hand=>rw[show GF.lookup kJ=none by decide]at l;cases l
 | @num _ m' n el h0 h1 hm=>
  rw[l]at el;cases el;exact⟨n.toNat,by show V.int n=_;rw[Int.toNat_of_nonneg h0],by omega⟩
 | load=>rw[show GF.lookup Ck=none by decide]at l;cases l
 | word=>rw[show GF.lookup Aa=none by decide]at l;cases l
theorem wB(h:FJ hs o (q::r))(k:QOk hs q)(e:q.1=iC):∃n:Nat,q.2.1=.int n/\Bv hs o n/\FJ hs o r:=by
 obtain⟨n,en,_⟩:=Za3 (m:=999) k e (by decide);rcases h with ⟨z,_⟩ | ⟨_,h,g⟩
 ·rw[e]at z;exact absurd z (by decide)
 ·obtain⟨m,x,em,ex,lt⟩:=g e;rw[en]at em;cases em;exact⟨n,en,⟨x,ex,lt⟩,h⟩
theorem Zsq(k:QOk hs q)(e:q.1=Ck):∃n:Int,q.2.1=.int n:=by
 obtain⟨f',v,t,d⟩:=q;have k:Fv hs f' v t d:=k.1
 replace e:f'=Ck:=e
 cases k with
 | hand=>exact absurd e (by decide)
 | num l=>rw[e,show GF.lookup Ck=none by decide]at l;cases l
 | load=>exact⟨_,rfl⟩
 | word=>exact absurd e (by decide)
theorem Zjc(k:QOk hs q)(e:q.1=Aa):∃z:Str,q.2.1=.str z:=by
 obtain⟨f',v,t,d⟩:=q;have k:Fv hs f' v t d:=k.1
 replace e:f'=Aa:=e
 cases k with
 | hand=>exact absurd e (by decide)
 | num l=>rw[e,show GF.lookup Aa=none by decide]at l;cases l
 | load=>exact absurd e (by decide)
 | word=>exact⟨_,rfl⟩
theorem m1{a:Str}{l:List Str}{qs:List Qd}(h:qs.map (λz:Qd=>z.1)=a::l):∃q1 t,qs=q1::t/\q1.1=a/\t.map (λz:Qd=>z.1)=l:=by
 cases qs with
 | nil=>cases h
 | cons q1 t=>rw[List.map_cons,List.cons.injEq]at h;exact⟨q1,t,rfl,h.1,h.2⟩
theorem m0{qs:List Qd}(h:qs.map (λz:Qd=>z.1)=[]):qs=[]:=List.map_eq_nil_iff.mp h
theorem m2{a b:Str}(h:(q::qs).map (λz:Qd=>z.1)=[a,b]):∃q1,qs=[q1]/\q.1=a/\q1.1=b:=by
 rw[List.map_cons,List.cons.injEq]at h;obtain⟨q1,t,e1,e2,h2⟩:=m1 h.2;rw[m0 h2]at e1;exact⟨q1,e1,h.1,e2⟩
theorem m3{a b c:Str}(h:(q::qs).map (λz:Qd=>z.1)=[a,b,c]):∃q1 q2,qs=[q1,q2]/\q.1=a/\q1.1=b/\q2.1=c:=by
 rw[List.map_cons,List.cons.injEq]at h;obtain⟨q1,t,e1,e2,h2⟩:=m1 h.2;obtain⟨q2,u,e3,e4,h3⟩:=m1 h2;rw[m0 h3]at e3;rw[e3]at e1;exact⟨q1,q2,e1,h.1,e2,e4⟩
theorem m4{a b c d:Str}(h:(q::qs).map (λz:Qd=>z.1)=[a,b,c,d]):∃q1 q2 q3,qs=[q1,q2,q3]/\q.1=a/\q1.1=b/\q2.1=c/\q3.1=d:=by
 rw[List.map_cons,List.cons.injEq]at h;obtain⟨q1,t,e1,e2,h2⟩:=m1 h.2;obtain⟨q2,u,e3,e4,h3⟩:=m1 h2;obtain⟨q3,v,e5,e6,h4⟩:=m1 h3;rw[m0 h4]at e5;rw[e5]at e3;rw[e3]at e1;exact⟨q1,q2,q3,e1,h.1,e2,e4,e6⟩
end
theorem Zqw{hs:List (Str×Int)}{w:Str}{q:Qd}{qs:List Qd}(h:FW hs (.dd w q qs)):∃d:nZ,eY (.dd w q qs)=dV d/\okR hs d:=by
 obtain⟨ef,hm,Dw,so,_⟩:=h;obtain⟨k,ek,s1⟩:=Zra so ef;have vs:∀(xs:List V),qs.map (λz:Qd=>z.2.1)=xs->eY (.dd w q qs)=.str w::.int k::xs:=λxs e=>by
  show V.str w::(q::qs).map (λz:Qd=>z.2.1)=_;rw[List.map_cons,ek,e]
 unfold Aj at hm;simp only[List.mem_cons,Prod.mk.injEq,List.not_mem_nil,or_false]at hm;rcases hm with ⟨ew,e⟩ | ⟨ew,e⟩ | ⟨ew,e⟩ | ⟨ew,e⟩ | ⟨ew,e⟩ | ⟨ew,e⟩ | ⟨ew,e⟩ | ⟨ew,e⟩ | ⟨ew,e⟩ | ⟨ew,e⟩
 ·obtain⟨q1,q2,q3,rfl,_,f1,f2,f3⟩:=m4 e;obtain⟨s,es,oh,s2⟩:=wB s1 (Dw q1 (by simp)) f1;obtain⟨x,ex,lx⟩:=Za3 (f:=Zb7) (m:=8) (Dw q2 (by simp)) f2 (by decide);obtain⟨y,ey,ly⟩:=Za3 (f:=Zb8) (m:=1000000000000) (Dw q3 (by simp)) f3 (by decide);exact⟨.make k s x y,by rw[vs _ (by simp only[List.map_cons,List.map_nil,es,ex,ey];rfl),ew];rfl,oh,by omega,lx,by omega⟩
 ·obtain⟨q1,q2,q3,rfl,_,f1,f2,f3⟩:=m4 e;obtain⟨s,es,oh,s2⟩:=wB s1 (Dw q1 (by simp)) f1;obtain⟨x,ex,ox,s3⟩:=wB s2 (Dw q2 (by simp)) f2;obtain⟨y,ey,ly⟩:=Za3 (f:=vR) (m:=999) (Dw q3 (by simp)) f3 (by decide);exact⟨.get k s x y,by rw[vs _ (by simp only[List.map_cons,List.map_nil,es,ex,ey];rfl),ew];rfl,oh,ox⟩
 ·obtain⟨q1,q2,q3,rfl,_,f1,f2,f3⟩:=m4 e;obtain⟨s,es,oh,s2⟩:=wB s1 (Dw q1 (by simp)) f1;obtain⟨x,ex,lx⟩:=Za3 (f:=vR) (m:=999) (Dw q2 (by simp)) f2 (by decide);obtain⟨y,ey,oy,s3⟩:=wB (Zus s2 (by rw[f2];decide)) (Dw q3 (by simp)) f3;exact⟨.put k s x y,by rw[vs _ (by simp only[List.map_cons,List.map_nil,es,ex,ey];rfl),ew];rfl,oh,oy⟩
 ·obtain⟨q1,q2,rfl,_,f1,f2⟩:=m3 e;obtain⟨s,es,oh,s2⟩:=wB s1 (Dw q1 (by simp)) f1;obtain⟨x,ex,ox,s3⟩:=wB s2 (Dw q2 (by simp)) f2;exact⟨.copy k s x,by rw[vs _ (by simp only[List.map_cons,List.map_nil,es,ex];rfl),ew];rfl,oh,ox⟩
 ·obtain⟨q1,rfl,_,f1⟩:=m2 e;obtain⟨s,es,oh,s2⟩:=wB s1 (Dw q1 (by simp)) f1;exact⟨.drop k s,by rw[vs _ (by simp only[List.map_cons,List.map_nil,es];rfl),ew];rfl,oh⟩
 ·obtain⟨q1,q2,q3,rfl,_,f1,f2,f3⟩:=m4 e;obtain⟨s,es,oh,s2⟩:=wB s1 (Dw q1 (by simp)) f1;obtain⟨x,ex,s3⟩:=Zra s2 f2;obtain⟨y,ey,oy,s4⟩:=wB s3 (Dw q3 (by simp)) f3;exact⟨.give k s x y,by rw[vs _ (by simp only[List.map_cons,List.map_nil,es,ex,ey];rfl),ew];rfl,oh,oy⟩
 ·obtain⟨q1,q2,rfl,_,f1,f2⟩:=m3 e;obtain⟨s,es,oh,s2⟩:=wB s1 (Dw q1 (by simp)) f1;obtain⟨x,ex⟩:=Zsq (Dw q2 (by simp)) f2;exact⟨.write k s x,by rw[vs _ (by simp only[List.map_cons,List.map_nil,es,ex];rfl),ew];rfl,oh⟩
 ·obtain⟨q1,rfl,_,f1⟩:=m2 e;obtain⟨s,es,oh,s2⟩:=wB s1 (Dw q1 (by simp)) f1;exact⟨.read k s,by rw[vs _ (by simp only[List.map_cons,List.map_nil,es];rfl),ew];rfl,oh⟩
 ·obtain⟨q1,q2,rfl,_,f1,f2⟩:=m3 e;obtain⟨s,es,oh,s2⟩:=wB s1 (Dw q1 (by simp)) f1;obtain⟨x,ex⟩:=Zjc (Dw q2 (by simp)) f2;exact⟨.name k s x,by rw[vs _ (by simp only[List.map_cons,List.map_nil,es,ex];rfl),ew];rfl,oh⟩
 ·obtain⟨q1,q2,rfl,_,f1,f2⟩:=m3 e;obtain⟨s,es,oh,s2⟩:=wB s1 (Dw q1 (by simp)) f1;obtain⟨x,ex⟩:=Zjc (Dw q2 (by simp)) f2;exact⟨.seek k s x,by rw[vs _ (by simp only[List.map_cons,List.map_nil,es,ex];rfl),ew];rfl,oh⟩
def Zfc(H0 H:Hp)(p:Addr)(es:List Rz):Prop:=∃ps:List Addr,H p=some (.lst (ps.map V.ref))/\ps.length=es.length/\∀(i:Nat) b,ps[i]? =some b->∃x a l,es[i]? =some x/\H b=some (.lst [.ref a])/\H a=some (.tup [.str x.1,x.2.1,.ref l])/\H l=some (.lst (x.2.2.map V.int))/\H0 b=none/\H0 l=none
def LgT(H0 H:Hp)(T:Tg)(ps:List Addr)(es:List Rz):Prop:=ps.length=es.length/\∀(i:Nat) b,ps[i]? =some b->∃x a,es[i]? =some x/\H b=some (.lst [.ref a])/\H0 b=none/\(T b).1≠1/\TuO H0 H T 1 a x
theorem LgT.mv{H0 H H':Hp}{T T':Tg}{ps:List Addr}{es:List Rz}(h:LgT H0 H T ps es)(st:pC 1 H H' T T'):LgT H0 H' T' ps es:=
 ⟨h.1,λi b hb=>by
  obtain⟨x,a,e,h1,f,t,tu⟩:=h.2 i b hb;exact⟨x,a,e,st.kp _ _ h1 t,f,by rw[st.tg _ _ h1];exact t,tu.mv st⟩⟩
theorem LgT.put{H0 H:Hp}{T:Tg}{ps:List Addr}{es:List Rz}{p:Addr}{o o0:HO}(h:LgT H0 H T ps es)(hp:H0 p=some o0)(hl:∀xs,H p=some (.tup xs)->False):LgT H0 (upd H p o) T ps es:=
 ⟨h.1,λi b hb=>by
  obtain⟨x,a,e,h1,f,t,l,fl,h2,h3,t1,t2⟩:=h.2 i b hb;have nb:b≠p:=λz=>by rw[z,hp]at f;cases f
  have nl:l≠p:=λz=>by rw[z,hp]at fl;cases fl
  have na:a≠p:=λz=>by rw[z]at h2;exact hl _ h2
  exact⟨x,a,e,by rw[aU nb];exact h1,f,t,l,fl,by rw[aU na];exact h2,by rw[aU nl];exact h3,t1,t2⟩⟩
theorem LgT.snoc{H0 H:Hp}{T:Tg}{ps:List Addr}{es:List Rz}{b a:Addr}{x:Rz}(h:LgT H0 H T ps es)(hb:H b=some (.lst [.ref a]))(f:H0 b=none)(t:(T b).1≠1)(tu:TuO H0 H T 1 a x):LgT H0 H T (ps++[b]) (es++[x]):=by
 refine⟨by rw[List.length_append,List.length_append,h.1];rfl,λi c hc=>?_⟩
 by_cases hi:i<ps.length
 ·rw[List.getElem?_append_left hi]at hc;obtain⟨y,a',e,r⟩:=h.2 i c hc;exact⟨y,a',by rw[List.getElem?_append_left (by rw[<- h.1];exact hi)];exact e,r⟩
 ·have hcl:=(gG hc).1;rw[List.length_append]at hcl;have:[b].length=1:=rfl;have hie:i=ps.length:=by omega
  subst hie;rw[List.getElem?_append_right (Nat.le_refl _),Nat.sub_self]at hc;cases hc;exact⟨x,a,by rw[List.getElem?_append_right (by rw[h.1];exact Nat.le_refl _),h.1,Nat.sub_self];rfl,hb,f,t,tu⟩
theorem ZZ(ds:List nZ)(d:nZ):∀M:Wm,runM M (ds++[d])=runM M ds++[JL (sS (Rv M ds) d)]/\Rv M (ds++[d])=stM (Rv M ds) (sS (Rv M ds) d):=by
 induction ds with
 | nil=>exact λM=>⟨rfl,rfl⟩
 | cons x ds ih=>
  intro M;obtain⟨e1,e2⟩:=ih (stM M (sS M x));exact⟨by show JL (sS M x)::runM _ (ds++[d])=_;rw[e1];rfl,e2⟩
theorem ZX:∀(ds:List nZ) (M:Wm),(runM M ds).length=ds.length
 | [],_=>rfl
 | d::ds,M=>by show(runM _ ds).length+1=_;rw[ZX ds];rfl
theorem KW.turn{M:Wm}{hs:Hds}{k:Nat}(p:KW M hs k){d:nZ}(o:okR hs d):KW (stM M (sS M d)) hs (k+1):=by
 cases e:sS M d with
 | ok x=>exact p.deed (e:=x.1) o (by rw[e];rfl)
 | error r=>exact p.mono (Nat.le_succ _)
def Zgo(CS:Addr)(X:Cs):Sp:=λvs H Q E=>∃sc,vs=[.ref sc,.non]/\∃dx m kd hl rl lk w t hs,∃(as:List Addr) (ds:List nZ),H sc=some (.ins CS dx (jt m kd hl rl))/\De X H kd lk w t/\0<=t/\t<4/\HL H hl hs/\hs.length<=6/\(∀x∈hs,3<=x.2/\x.2<=9)/\H rl=some (.lst (as.map V.ref))/\as.length=ds.length/\as.length<=100/\(∀(i:Nat) a,as[i]? =some a->∃d,ds[i]? =some d/\H a=some (.tup (dV d))/\okR hs d)/\∀H' p,dF H H'->Zfc H H' p (runM (uO m hs w t) ds)->H p=none->Q (.ref p) H'
section
variable {K:aV}{X:Cs}{rf:Rf->Addr}{aC aL aK aP aJ aH aG aO aF aD aA:Addr}{H:Hp}{Q:VK}{E:XK}{n:St->Hp->Prop}{bk ct:St->Hp->Prop}
theorem Zrv{sc:Addr}(TT:qd K X aC aL aK aP aJ aH aG aO aF aD aA)(q:∃dx m kd hl rl lk w t hs,∃(as:List Addr) (ds:List nZ),H sc=some (.ins aC dx (jt m kd hl rl))/\De X H kd lk w t/\0<=t/\t<4/\HL H hl hs/\hs.length<=6/\(∀x∈hs,3<=x.2/\x.2<=9)/\H rl=some (.lst (as.map V.ref))/\as.length=ds.length/\as.length<=100/\(∀(i:Nat) a,as[i]? =some a->∃d,ds[i]? =some d/\H a=some (.tup (dV d))/\okR hs d)/\∀H' p,dF H H'->Zfc H H' p (runM (uO m hs w t) ds)->H p=none->Q (.ref p) H'):
  Zd3 K Ir (O4 X rf) (nU aC X) ⟨n,Q,bk,ct⟩ [some (.ref sc),some .non,none,none,none] H:=by
 obtain⟨dx,m,kd,hl,rl,lk,w,t,hs,as,ds,o,kk,t0,t1,hls,h6,hb,hr,len,h1,hrow,h⟩:=q;unfold Zd3;walk_at"e";refine⟨sc,rfl,λ_=>(0,0),1,dx,m,kd,hl,rl,lk,w,t,hs,o,kk,hls,h6,hb,λ_ _=>rfl,by decide,rfl,rfl,λH1 T1 A s1 tg1 wt1 j1=>?_⟩;walk_at"e";refine⟨by decide,λp hp=>?_⟩;have st2:pC 7 H1 (upd H1 p (.lst [])) T1 (mV T1 p (7,0)):=pC.fresh wt1 hp;have j2:=j1.other st2 (by decide) (by decide);have s2:=s1.trans (bY hp (.lst []));have tp2:mV T1 p (7,0) p=(7,0):=by unfold mV;rw[if_pos rfl]
 have tg2:∀b o,H b=some o->mV T1 p (7,0) b=(0,0):=λb o hb=>by rw[st2.tg _ _ (s1 _ _ hb)];exact tg1 b o hb
 have c2:upd H1 p (.lst []) p=some (.lst (([]:List Addr).map V.ref)):=aq;have fp:H p=none:=s1.free hp;have wt2:=st2.wt;generalize mV T1 p (7,0)=T2 at st2 j2 tp2 tg2 wt2;generalize upd H1 p (.lst [])=H2 at st2 j2 s2 c2 wt2 ⊢;walk_at"e";refine cV (s2 _ _ o) TT.cT TT.Bx lE ?_;walk_at"e";refine⟨rfl,?_⟩;refine⟨rl,_,rfl,fj.of (s2 _ _ hr),λql hq=>?_⟩;rw[show yx (as.map V.ref) none none=as.map V.ref from by
  unfold yx;rw[show HT.oE (as.map V.ref).length 0 none=0 from rfl,show HT.oE (as.map V.ref).length (as.map V.ref).length none=(as.map V.ref).length from rfl,List.drop_zero,Nat.sub_zero,List.take_length]]
 generalize zz:upd H2 ql _=H3;obtain⟨s3,c3⟩:=nwO hq zz;have tq:T2 ql=(0,0):=wt2 ql hq;have cp3:=s3 _ _ c2;have j3:=j2.same s3;have wt3:=wt2.same s3;have ZR:=s2.trans s3;have k0:KW (uO m hs w t) hs 0:=KW.new t0 t1;refine⟨ql,rfl,⟨_,fj.of c3⟩,forL (as.map V.ref) (λi σ Hx=>∃Tx Ax ps v4,σ=[some (.ref sc),some .non,some (.ref A.wo),some (.ref p),v4]/\dF H Hx/\(∀b o,H b=some o->Tx b=(0,0))/\(Hx ql=some (.lst (as.map V.ref))/\Tx ql=(0,0))/\WT Hx Tx/\WJ X Hx Tx 1 Ax (Rv (uO m hs w t) (ds.take i))/\Ax.wo=A.wo/\KW (Rv (uO m hs w t) (ds.take i)) hs i/\(Hx p=some (.lst (ps.map V.ref))/\Tx p=(7,0))/\LgT H3 Hx Tx ps (runM (uO m hs w t) (ds.take i))/\∀b o,H3 b=some o->∃o',Hx b=some o') ⟨T2,A,[],none,rfl,ZR,tg2,⟨c3,tq⟩,wt3,j3,rfl,k0,⟨cp3,tp2⟩,⟨rfl,λi b hb=>by cases hb⟩,λb o hb=>⟨o,hb⟩⟩ (λi σ Hx _ ⟨_,_,_,_,_,_,_,⟨c,_⟩,_⟩=>fj.of c) ?_ ?_⟩
 ·rintro i v σ Hx hv ⟨Tx,Ax,ps,v4,rfl,sx,tgx,⟨cq,tqx⟩,wtx,jx,aw,kx,⟨cp,tpx⟩,lg,al⟩;rw[fV]at hv;obtain⟨a,ha,rfl⟩:=Option.map_eq_some_iff.mp hv;obtain⟨d,ed,hd,od⟩:=hrow i a ha;have hi:=(gG ha).1;have et:ds.take (i+1)=ds.take i++[d]:=by rw[List.take_add_one,ed];rfl
  obtain⟨er,ee⟩:=ZZ (ds.take i) d (uO m hs w t);rw[<- et]at er ee;have kt:=kx.turn od;have wl:=Zk4 (Rv (uO m hs w t) (ds.take i)) d;generalize Rv (uO m hs w t) (ds.take i)=M at jx kx er ee kt wl;walk_at"e";refine⟨.inl ⟨rfl,_,fj.of cp⟩,?_⟩;walk_at"e";refine⟨A.wo,a,rfl,Tx,1,Ax,M,d,wtx,by decide,jx,aw,sx _ _ hd,kx.okD od,by have:=kx.cl;omega,λz=>?_,kx.tl,by have:=kx.nl;omega,λHy Ty Ay a' b sty jy awy tu hb fb tb=>?_⟩
  ·obtain⟨nd,gr⟩:=kx.gr z;have:=Zac M.cells.length M.sw.grey nd λx hx=>by
    obtain⟨c,hc,_⟩:=gr x hx;exact Zj3 hc
   have:=kx.cl;omega
  have cpy:=sty.kp _ _ cp (by rw[tpx];decide);have tpy:Ty p=(7,0):=by rw[sty.tg _ _ cp];exact tpx
  walk_at"e";refine⟨p,_,_,rfl,rfl,cpy,by rw[dM,lg.1,ZX,List.length_take,sizeLine_eq];omega,?_⟩;have stz:pC 7 Hy (upd Hy p (.lst (ps.map V.ref++[.ref b]))) Ty Ty:=pC.upd sty.wt cpy (by rw[tpy]);have jz:=jy.other stz (by decide) (by decide);have fb3:H3 b=none:=by
   cases z:H3 b with
   | none=>rfl
   | some o=>obtain⟨o',e⟩:=al b o z;rw[fb]at e;cases e
  have lgy:=(lg.mv sty).snoc hb fb3 tb (x:=JL (sS M d)) (a:=a') (by
   obtain⟨l,fl,r⟩:=tu;refine⟨l,?_,r⟩;cases z:H3 l with
   | none=>rfl
   | some o=>obtain⟨o',e⟩:=al l o z;rw[fl]at e;cases e)
  have lgz:=lgy.put (o:=.lst (ps.map V.ref++[.ref b])) cp3 λxs z=>by rw[cpy]at z;cases z
  have cz:upd Hy p (.lst (ps.map V.ref++[.ref b])) p=some (.lst ((ps++[b]).map V.ref)):=by rw[aq,List.map_append];rfl
  have nb:b≠p:=λe=>by rw[e,cp3]at fb3;cases fb3
  obtain⟨l,fl,ha1,_⟩:=tu;have na:a'≠p:=λe=>by rw[e,cpy]at ha1;cases ha1
  have hbz:upd Hy p (.lst (ps.map V.ref++[.ref b])) b=some (.lst [.ref a']):=by rw[aU nb];exact hb
  have haz:upd Hy p (.lst (ps.map V.ref++[.ref b])) a'=some (.tup [.str (JL (sS M d)).1,(JL (sS M d)).2.1,.ref l]):=by rw[aU na];exact ha1
  walk_at"e";refine⟨p,rfl,ps,b,a',_,_,_,cz,hbz,haz,wl,?_⟩;walk_at"e";have sxz:dF H (upd Hy p (.lst (ps.map V.ref++[.ref b]))):=λc o hc=>stz.kp _ _ (sty.kp _ _ (sx _ _ hc) (by rw[tgx c o hc];decide)) (by rw[sty.tg _ _ (sx _ _ hc),tgx c o hc];decide);have cqy:=sty.kp _ _ cq (by rw[tqx];decide);refine⟨Ty,Ay,ps++[b],_,rfl,sxz,λc o hc=>by rw[sty.tg _ _ (sx _ _ hc)];exact tgx c o hc,⟨stz.kp _ _ cqy (by rw[sty.tg _ _ cq,tqx];decide),by rw[sty.tg _ _ cq];exact tqx⟩,stz.wt,by rw[ee];exact jz,awy,by rw[ee];exact kt,⟨cz,tpy⟩,by rw[er];exact lgz,λc o hc=>?_⟩;obtain⟨o1,e1⟩:=al c o hc;obtain⟨o2,e2⟩:=sty.al c o1 e1;exact stz.al c o2 e2
 ·rintro σ Hx ⟨Tx,Ax,ps,v4,rfl,sx,tgx,⟨cq,tqx⟩,wtx,jx,aw,kx,⟨cp,tpx⟩,lg,al⟩;rw[dM,len,List.take_length]at lg;walk_at"e";refine h Hx p sx ⟨ps,cp,lg.1,λi b hb=>?_⟩ fp;obtain⟨x,a,e,h1,f1,_,l,f2,h2,h3,_⟩:=lg.2 i b hb;exact⟨x,a,l,e,h1,h2,h3,ZR.free f1,ZR.free f2⟩
end
theorem Zk5(M:Wm)(d:nZ):nM (JL (sS M d)).2.1=true:=by
 cases sS M d with
 | ok x=>show nM (oV x.1.thing)=true;cases x.1.thing<;>rfl
 | error r=>rfl
theorem ZW:∀(ds:List nZ) (M:Wm),∀x∈runM M ds,nM x.2.1=true
 | [],_,_,h=>by cases h
 | d::ds,M,x,h=>by
  rcases List.mem_cons.mp h with rfl | h
  ·exact Zk5 M d
  ·exact ZW ds _ x h
def LgE(H:Hp)(ps:List Addr)(es:List Rz):Prop:=ps.length=es.length/\∀(i:Nat) b,ps[i]? =some b->∃x a l,es[i]? =some x/\H b=some (.lst [.ref a])/\H a=some (.tup [.str x.1,x.2.1,.ref l])/\H l=some (.lst (x.2.2.map V.int))
theorem Zfc.of{H0 H:Hp}{p:Addr}{es:List Rz}(h:Zfc H0 H p es):∃ps:List Addr,H p=some (.lst (ps.map V.ref))/\LgE H ps es:=by
 obtain⟨ps,h1,h2,h3⟩:=h;refine⟨ps,h1,h2,λi b hb=>?_⟩;obtain⟨x,a,l,e,g1,g2,g3,_⟩:=h3 i b hb;exact⟨x,a,l,e,g1,g2,g3⟩
theorem Zfc.kp{H0 H H':Hp}{p r:Addr}{es:List Rz}{xs ys:List V}(h:Zfc H0 H p es)(fp:H0 p=none)(hr:H0 r=some (.lst xs))(h1:H r=some (.lst ys))(k:∀b o,H b=some o->b≠r->H' b=some o):Zfc H0 H' p es:=by
 have nr:∀{b},H0 b=none->b≠r:=λz e=>by rw[e,hr]at z;cases z
 obtain⟨ps,c1,h2,h3⟩:=h;refine⟨ps,k _ _ c1 (nr fp),h2,λi b hb=>?_⟩;obtain⟨x,a,l,e,g1,g2,g3,f1,f2⟩:=h3 i b hb;exact⟨x,a,l,e,k _ _ g1 (nr f1),k _ _ g2 (λe=>by rw[e,h1]at g2;cases g2),k _ _ g3 (nr f2),f1,f2⟩
theorem Zv8{K:aV}{H:Hp}{ps qs:List Addr}{es:List Rz}(h:LgE H ps es)(g:LgE H qs es)(fl:∀x∈es,nM x.2.1=true):Al (Dq K H 6) (ps.map V.ref) (qs.map V.ref):=by
 refine Y7 (by rw[dM,dM,h.1,g.1]) λi v hv=>?_;rw[fV]at hv;obtain⟨b,hb,rfl⟩:=Option.map_eq_some_iff.mp hv;obtain⟨x,a,l,ex,b1,b2,b3⟩:=h.2 i b hb;have hi:i<qs.length:=by
  have:=(gG ex).1;rw[g.1];exact this
 obtain⟨x',a',l',ex',c1,c2,c3⟩:=g.2 i qs[i] (eV hi);rw[ex]at ex';cases ex';have fx:=fl x (List.mem_of_getElem? ex);refine⟨.ref qs[i],by rw[fV,eV hi];rfl,?_⟩;have fi:(x.2.2.map V.int).all nM=true:=by rw[List.all_eq_true];intro y hy;obtain⟨z,_,rfl⟩:=List.mem_map.mp hy;rfl
 exact .inr ⟨b,qs[i],rfl,rfl,.inr ⟨_,_,.inl ⟨fj.of b1,fj.of c1⟩,.cons (.inr ⟨a,a',rfl,rfl,.inr ⟨_,_,.inr ⟨jE.of b2,jE.of c2⟩,.cons (Ie rfl) (.cons (Ie fx) (.cons (.inr ⟨l,l',rfl,rfl,.inr ⟨_,_,.inl ⟨fj.of b3,fj.of c3⟩,Rw fi⟩⟩) .nil))⟩⟩) .nil⟩⟩
theorem LgE.take{H:Hp}{ps:List Addr}{es:List Rz}(h:LgE H ps es)(k:Nat):LgE H (ps.take k) (es.take k):=by
 refine⟨by rw[List.length_take,List.length_take,h.1],λi b hb=>?_⟩;have hi:i<k:=by
  have:=(gG hb).1;rw[List.length_take]at this;omega
 rw[List.getElem?_take_of_lt hi]at hb ⊢;exact h.2 i b hb
def heldOf(M:Wm):List (List (Option Int)):=M.hands.map (·.2)
def FP(X:Cs):Sp:=λvs H Q E=>∃wo,vs=[.ref wo]/\∃T s A M,WJ X H T s A M/\A.wo=wo/\M.hands.length<=1000/\∀(l:Addr) (ls:List Addr) H',dF H H'->H l=none->H' l=some (.lst (ls.map V.ref))->ls.length=(heldOf M).length->ls.Nodup->(∀r∈ls,H r=none)->l∉ls->(∀(j:Nat) r x,ls[j]? =some r->(heldOf M)[j]? =some x->H' r=some (.lst (x.map oV)))->Q (.ref l) H'
section
theorem Zq6{wo:Addr}(T:Ab K X)(q:∃T s A M,WJ X H T s A M/\A.wo=wo/\M.hands.length<=1000/\∀(l:Addr) (ls:List Addr) H',dF H H'->H l=none->H' l=some (.lst (ls.map V.ref))->ls.length=(heldOf M).length->ls.Nodup->(∀r∈ls,H r=none)->l∉ls->(∀(j:Nat) r x,ls[j]? =some r->(heldOf M)[j]? =some x->H' r=some (.lst (x.map oV)))->Q (.ref l) H'):
  Xc K ⟨n,Q,bk,ct⟩ [some (.ref wo)] H:=by
 obtain⟨Tg,s,A,M,j,rfl,hl,q⟩:=q;obtain⟨dx,ow⟩:=j.jb.ow;unfold Xc;walk_at"e";refine VB ?_;walk_at"e";refine cV ow T.cW T.nWd tY ?_;have l5:=j.jd.l5;refine⟨_,rfl,⟨_,fj.of j.jb.on⟩,?_⟩;refine Zm2 (fj.of j.jb.on) (by rw[dM];omega) (λi r Hx=>∃x,(heldOf M)[i]? =some x/\Hx r=some (.lst (x.map oV))) (λ_ _ _ _ ⟨x,e,z⟩ s=>⟨x,e,s _ _ z⟩) (λ_ _ _ ⟨_,_,z⟩=>⟨_,z⟩) (λx H1 q hq=>KZ hq) (λi x H1 hi s1 q' hq=>?_) ?_
 ·rw[fV]at hi;obtain⟨p,hp,rfl⟩:=Option.map_eq_some_iff.mp hi;have j1:=j.same s1;obtain⟨m,hm,hd⟩:=j1.hand hp;obtain⟨dx,o1⟩:=hd.o1;walk_at"c";walk_at"e";refine cV o1 T.cD T.nDs Cd ?_;walk_at"e";refine Yz (fj.of hd.o2) λl hl=>?_;exact hq l _ (bY hl _) hl ⟨_,by unfold heldOf;rw[fV,hm];rfl,aq⟩
 ·intro rs H' s1 hl nd nn hr p hp;have s2:=bY hp (.lst (rs.map V.ref));refine q p rs _ (s1.trans s2) (s1.free hp) aq ?_ nd nn (λz=>?_) λj' r x e1 e2=>?_
  ·rw[hl,dM];unfold heldOf;rw[dM,j.jd.lh]
  ·obtain⟨k,hk,e⟩:=List.getElem_of_mem z;obtain⟨_,_,e4⟩:=hr k p (by rw[eV hk,e]);rw[hp]at e4;cases e4
  ·obtain⟨y,e3,z⟩:=hr j' r e1;rw[e2]at e3;cases e3;exact s2 _ _ z
end
section
variable {K:aV}{X:Cs}{aC aL aK aP aJ aH aG aO aF aD aA:Addr}{H:Hp}{Q:VK}{E:XK}{n:St->Hp->Prop}{bk ct:St->Hp->Prop}
theorem Zmj{p q:Addr}{xs:List V}(h1:fj K H p xs)(h2:fj K H q [])(h:Q (.bl (decide (xs≠[]))) H):G.Zkc K true (.ref p) (.ref q) H Q:=by
 refine⟨p,q,_,_,rfl,rfl,h1,h2,λe=>?_,?_⟩
 ·have:xs=[]:=List.length_eq_zero_iff.mp e;subst this;exact⟨rfl,rfl⟩
 ·cases xs with
  | nil=>exact h
  | cons a l=>
   rw[decide_eq_true (show a::l≠[]from λz=>nomatch z)]at h;exact h
end
theorem Zog(k:Nat)(v:V):(List.replicate k [v]).flatten=List.replicate k v:=by
 induction k with
 | zero=>rfl
 | succ k ih=>rw[List.replicate_succ,List.replicate_succ,List.flatten_cons,ih];rfl
def FN(X:Cs):Sp:=λvs H Q E=>∃wo m z l,vs=[.ref wo,.int m,.str z,.ref l]/\∃T s A w t hs,WJ X H T s A (uO m hs w t)/\A.wo=wo/\0<=t/\t<4/\z=words w t/\HL H l hs/\hs.length<=5/\(∀x∈hs,3<=x.2/\x.2<=9)/\∀H',dF H H'->Q (.bl true) H'
section
theorem Ij{wo l:Addr}{m:Int}{z:Str}(TW:Ab K X)(q:∃T s A w t hs,WJ X H T s A (uO m hs w t)/\A.wo=wo/\0<=t/\t<4/\z=words w t/\HL H l hs/\hs.length<=5/\(∀x∈hs,3<=x.2/\x.2<=9)/\∀H',dF H H'->Q (.bl true) H'):
  qO K X.K (pK X) (FP X) ⟨n,Q,bk,ct⟩ [some (.ref wo),some (.int m),some (.str z),some (.ref l)] H:=by
 obtain⟨T,s,A,w,t,hs,j,rfl,t0,t1,rfl,hls,h6,hb,h⟩:=q;obtain⟨d1,ow⟩:=j.jb.ow;obtain⟨d2,oh⟩:=j.jh.oh;obtain⟨d3,os⟩:=j.js.os;have oc:=j.jh.oc;have og:=j.js.og;have om:=j.jn.om;have ec:A.cs=[]:=List.eq_nil_of_length_eq_zero j.jc.lc;rw[ec]at oc;unfold qO;walk_at"e";refine cV ow TW.cW TW.nWh fc ?_;walk_at"e";refine cV oh TW.c.dw TW.c.cN DQ ?_;walk_at"e";refine sO (λz=>absurd rfl z) (λ_=>?_);walk_at"e";refine cV ow TW.cW TW.nWh fc ?_;walk_at"e";refine cV oh TW.c.dw TW.c.bG jL ?_;walk_at"e";refine⟨by decide,λp hp=>?_⟩;have s1:=bY hp (.lst []);refine Zmj (fj.of (s1 _ _ oc)) (fj.of aq) ?_;generalize upd H p (.lst [])=H1 at s1 ⊢;refine⟨false,rfl,?_⟩;walk_at"e";refine cV (s1 _ _ ow) TW.cW TW.nWh fc ?_;walk_at"e";refine cV (s1 _ _ oh) TW.c.dw TW.c.cH xY ?_;walk_at"e";refine sO (λz=>absurd rfl z) (λ_=>?_);walk_at"e";refine cV (s1 _ _ ow) TW.cW TW.nWh fc ?_;walk_at"e";refine cV (s1 _ _ oh) TW.c.dw TW.c.cI xZ ?_;walk_at"e";refine sO (λz=>absurd rfl z) (λ_=>?_);walk_at"e";refine cV (s1 _ _ ow) TW.cW TW.nWk uZ ?_;walk_at"e";obtain⟨d4,ok⟩:=j.jb.ok;have kk:De X H A.ki A.lk w t:=⟨j.jb.ok,j.jb.ol⟩;refine⟨A.ki,_,_,rfl,s1 _ _ ok,qY,?_⟩;walk_at"e";refine⟨A.ki,rfl,A.lk,w,t,kk.same s1,t0,t1,λH2 s2=>?_⟩;have s12:=s1.trans s2;walk_at"e";refine sO (λz=>absurd rfl z) (λ_=>?_);walk_at"e";refine cV (s12 _ _ ow) TW.cW TW.nWn nF ?_;walk_at"e";intro p3 hp3;have s3:=bY hp3 (.dK []);refine Zti (kvs:=IK [] A.ns) (s3 _ _ (s12 _ _ om)) aq ?_;generalize upd H2 p3 (.dK [])=H3 at s3 ⊢;have s13:=s12.trans s3;refine⟨false,rfl,?_⟩;walk_at"e";refine cV (s13 _ _ ow) TW.cW TW.nWs gW ?_;walk_at"e";refine cV (s13 _ _ os) TW.cS TW.n2 t7 ?_;walk_at"e";refine sO (λz=>absurd rfl z) (λ_=>?_);walk_at"e";refine cV (s13 _ _ ow) TW.cW TW.nWs gW ?_;walk_at"e";refine cV (s13 _ _ os) TW.cS TW.n5 Qe ?_;walk_at"e";refine sO (λz=>absurd rfl z) (λ_=>?_);walk_at"e";refine cV (s13 _ _ ow) TW.cW TW.nWs gW ?_;walk_at"e";refine cV (s13 _ _ os) TW.cS TW.n3 Ar ?_;walk_at"e";refine⟨by decide,λp4 hp4=>?_⟩;have s4:=bY hp4 (.lst []);refine Zmj (fj.of (s4 _ _ (s13 _ _ og))) (fj.of aq) ?_;generalize upd H3 p4 (.lst [])=H4 at s4 ⊢;have s14:=s13.trans s4;refine⟨false,rfl,?_⟩;walk_at"e";obtain⟨as,g1,g2,g3⟩:=id hls;have on:=j.jb.on;have lh:A.hs.length=hs.length:=by
  have:=j.jd.lh;rw[this];show(hs.map _).length=_;rw[dM]
 refine VB ?_;walk_at"e";refine cV (s14 _ _ ow) TW.cW TW.nWd tY ?_;walk_at"e";refine⟨A.hl,rfl,⟨_,fj.of (s14 _ _ on)⟩,?_⟩;refine Oz (fj.of (s14 _ _ on)) (λi=>(hs[i]?).map λx=>V.str x.1) (by rw[dM];omega) (λi x hx=>?_) λp5 hp5=>?_
 ·rw[fV]at hx;obtain⟨pp,hpp,rfl⟩:=Option.map_eq_some_iff.mp hx;have hi:=(gG hpp).1;have ei:hs[i]? =some (hs[i]'(by omega)):=eV (by omega);have hd:=j.jd.hd i pp _ hpp (by show(hs.map _)[i]? =_;rw[fV,ei];rfl);refine⟨λq hq=>?_,λv q hv hq=>?_⟩
  ·rw[ei]at hq;exact hq
  ·rw[ei]at hv;cases hv;walk_at"c";walk_at"e";obtain⟨dh,o1⟩:=hd.o1;exact cV (s14 _ _ o1) TW.cD TW.nDn Ui hq
 rw[dM,lh,YG (λx:Str×Int=>V.str x.1)];generalize zz:upd H4 p5 _=H5;obtain⟨s5,g5⟩:=nwO hp5 zz;have s15:=s14.trans s5;walk_at"e";refine⟨l,rfl,⟨_,fj.of (s15 _ _ g1)⟩,Q5 (hls.same s15) h6 λp6 hp6=>?_⟩;generalize zz:upd H5 p6 _=H6;obtain⟨s6,g6⟩:=nwO hp6 zz;have s16:=s15.trans s6;have fs:((hs.map (·.1)).map V.str).all nM=true:=Zb3 _;have em:hs.map (λx:Str×Int=>V.str x.1)=(hs.map (·.1)).map V.str:=by rw[List.map_map];rfl
 rw[em]at g5;refine⟨p5,p6,_,_,rfl,rfl,fj.of (s6 _ _ g5),fj.of g6,λ_=>⟨fs,fs⟩,?_⟩;rw[Zna fs];refine⟨false,rfl,?_⟩;walk_at"e";refine⟨A.wo,rfl,T,s,A,uO m hs w t,j.same s16,rfl,(by show(hs.map _).length<=1000;rw[dM];omega),λa ls H7 s7 na o7 l7 nd nr nal c7=>?_⟩;have s17:=s16.trans s7;walk_at"e";refine⟨l,rfl,⟨_,fj.of (s17 _ _ g1)⟩,Ox ?_⟩;refine Zfw (fj.of (s17 _ _ g1)) (by rw[dM];omega) (λi y Hx=>∃r x,hs[i]? =some x/\y=.ref r/\Hx r=some (.lst (List.replicate x.2.toNat V.non))) (λi y H1 H2 hr sx=>?_) (λx Hx q hq=>hq) (λi x Hx hx sx q hq=>?_) (λys H8 s8 ly hy p8 hp8=>?_)
 ·obtain⟨r,x,e1,e2,e3⟩:=hr;exact⟨r,x,e1,e2,sx _ _ e3⟩
 ·rw[fV]at hx;obtain⟨b,hb1,rfl⟩:=Option.map_eq_some_iff.mp hx;obtain⟨y,ey,hy⟩:=g3 i b hb1;have yb:=hb y (List.mem_of_getElem? ey);refine⟨b,_,_,_,rfl,jE.of (sx _ _ (s17 _ _ hy)),by decide,λl0 hl0=>?_⟩;generalize zz:upd Hx l0 _=Hy;obtain⟨t1,u1⟩:=nwO hl0 zz;walk_at"e";refine⟨l0,y.2,_,rfl,rfl,u1,by omega,by omega,dR (by show 1 * y.2.toNat<=_;omega),λr hr=>?_⟩;rw[Zog];exact hq _ _ (t1.trans (bY hr _)) ⟨r,y,ey,rfl,aq⟩
 ·have s9:=bY hp8 (.lst ys);refine⟨a,p8,_,ys,rfl,rfl,.inl ⟨fj.of (s9 _ _ (s8 _ _ o7)),fj.of aq⟩,Y7 (by rw[dM]at ly ⊢;rw[ly,l7,g2];show(List.map _ (List.map _ hs)).length=_;rw[dM,dM]) (λi v hv=>?_),h _ ((s17.trans s8).trans s9)⟩;rw[fV]at hv;obtain⟨r,hr,rfl⟩:=Option.map_eq_some_iff.mp hv;have hi:=(gG hr).1;have hyy:ys[i]? =some (ys[i]'(by rw[dM]at ly;rw[ly,g2];rw[l7]at hi;have:i<(List.map _ (List.map _ hs)).length:=hi;rw[dM,dM]at this;exact this)):=eV _;refine⟨_,hyy,?_⟩;obtain⟨r',x,e1,e2,e3⟩:=hy i _ hyy;rw[e2];have e4:=c7 i r (List.replicate x.2.toNat none) hr (by show(List.map _ (List.map _ hs))[i]? =_;rw[fV,fV,e1];rfl);rw[List.map_replicate]at e4;exact .inr ⟨r,r',rfl,rfl,.inr ⟨_,_,.inl ⟨fj.of (s9 _ _ (s8 _ _ e4)),fj.of (s9 _ _ e3)⟩,Rw (by rw[List.all_eq_true];intro z hz;rw[List.eq_of_mem_replicate hz];rfl)⟩⟩
end
theorem Zlk{m:Int}{x:Str×Int}{tl:List (Str×Int)}{w t:Int}(s:Nat)(hm:1<=m)(hs:(s:Int)<x.2):∃M',sS (uO m (x::tl) w t) (.make 0 s 0 0)=.ok (⟨"made",some 1,[]⟩,M')/\M'.born=1/\M'.hands.length=tl.length+1/\∃r,(heldOf M')[0]? =some r/\r[s]? =some (some 0):=by
 refine⟨setSlot { uO m (x::tl) w t with used:=1,born:=1,cells:=[some ⟨1,0,0,0,[]⟩] } 0 s (some 0),?_,rfl,?_,(List.replicate x.2.toNat none).set s (some 0),rfl,?_⟩
 ·show(if (0:Int)+(1+0+0)<=m then _ else _)=_;rw[if_pos (by omega)];rfl
 ·show(tl.map _).length+1=_;rw[dM]
 ·rw[List.getElem?_set_self (by rw[List.length_replicate];omega)]
def Pb(CS:Addr)(X:Cs):Sp:=λvs H Q E=>∃(sc:Addr) (m:Int) (z:Str) (l:Addr) (k:Nat),vs=[.ref sc,.int m,.str z,.ref l,.int k]/\∃dx kd hl rl lk w t hs,H sc=some (.ins CS dx (jt m kd hl rl))/\De X H kd lk w t/\0<=t/\t<4/\z=words w t/\HL H hl hs/\HL H l hs/\0<hs.length/\hs.length<=5/\(∀x∈hs,3<=x.2/\x.2<=9)/\1<=m/\k<3/\∀H',dF H H'->Q (.bl true) H'
section
variable {K:aV}{X:Cs}{rf:Rf->Addr}{aC aL aK aP aJ aH aG aO aF aD aA:Addr}{H:Hp}{Q:VK}{E:XK}{n:St->Hp->Prop}{bk ct:St->Hp->Prop}
theorem Cv{sc l:Addr}{m:Int}{z:Str}{k:Nat}(TT:qd K X aC aL aK aP aJ aH aG aO aF aD aA)(q:∃dx kd hl rl lk w t hs,H sc=some (.ins aC dx (jt m kd hl rl))/\De X H kd lk w t/\0<=t/\t<4/\z=words w t/\HL H hl hs/\HL H l hs/\0<hs.length/\hs.length<=5/\(∀x∈hs,3<=x.2/\x.2<=9)/\1<=m/\k<3/\∀H',dF H H'->Q (.bl true) H'):
  oW K (FN X) (Zws X rf) (FP X) (nU aC X) ⟨n,Q,bk,ct⟩ [some (.ref sc),some (.int m),some (.str z),some (.ref l),some (.int k),none,none,none] H:=by
 obtain⟨dx,kd,hl,rl,lk,w,t,hs,o,kk,t0,t1,rfl,hls,hl2,h0,h5,hb,m1,k3,h⟩:=q;obtain⟨x,tl,rfl⟩:∃x tl,hs=x::tl:=by
  cases hs with
  | nil=>exact absurd h0 (by decide)
  | cons x tl=>exact⟨x,tl,rfl⟩
 have xb:=hb x (List.mem_cons_self ..);unfold oW;walk_at"e";refine⟨sc,rfl,λ_=>(0,0),1,dx,m,kd,hl,rl,lk,w,t,_,o,kk,hls,by omega,hb,λ_ _=>rfl,by decide,rfl,rfl,λH1 T1 A s1 tg1 wt1 j1=>?_⟩;walk_at"e";refine⟨A.wo,m,_,l,rfl,T1,1,A,w,t,_,j1,rfl,t0,t1,rfl,hl2.same s1,h5,hb,λH2 s2=>?_⟩;have j2:=j1.same s2;have wt2:=wt1.same s2;have s02:=s1.trans s2;refine⟨true,rfl,?_⟩;walk_at"e";refine⟨by show 5<=sizeLine;decide,λp hp=>?_⟩;generalize zz:upd H2 p _=H3;obtain⟨s3,g3⟩:=nwO hp zz;have g3:H3 p=some (.tup (dV (.make 0 k 0 0))):=g3;have ZR:=s02.trans s3;have j3:=j2.same s3;have wt3:=wt2.same s3;have tg3:∀b o,H b=some o->T1 b=(0,0):=tg1;have k0:KW (uO m (x::tl) w t) (x::tl) 0:=KW.new t0 t1;obtain⟨M',ed,b1,lM,r,er,es⟩:=Zlk (m:=m) (tl:=tl) (w:=w) (t:=t) k m1 (show(k:Int)<x.2 by omega);walk_at"e";refine⟨A.wo,p,rfl,T1,1,A,_,_,trivial,wt3,by decide,j3,rfl,g3,k0.okD (⟨⟨x,rfl,by omega⟩,by decide,by decide,by decide⟩:okR (x::tl) (.make 0 k 0 0)),by show 0<=900;decide,λz=>absurd z (by show ¬("rest":Str)="walk";decide),⟨t0,t1⟩,by show 0<=1000;decide,λr hr=>(by rw[ed]at hr;cases hr),λe M2 he H4 T4 A4 a4 st4 j4 aw ev=>?_⟩;rw[ed]at he;cases he;have s04:dF H H4:=λb o hb=>st4.kp _ _ (ZR _ _ hb) (by rw[tg3 b o hb];decide);obtain⟨le,_,v1,v2⟩:=ev;walk_at"e";refine⟨sc,rfl,λ_=>(0,0),1,dx,m,kd,hl,rl,lk,w,t,_,s04 _ _ o,kk.same s04,hls.same s04,by omega,hb,λ_ _=>rfl,by decide,rfl,rfl,λH5 T5 A5 s5 tg5 wt5 j5=>?_⟩;have s05:=s04.trans s5;walk_at"e";refine⟨by decide,λle2 hle=>?_⟩;generalize zz:upd H5 le2 _=H6;obtain⟨s6,g6⟩:=nwO hle zz;walk_at"e";refine⟨by show 3<=sizeLine;decide,λq7 hq7=>?_⟩;generalize zz:upd H6 q7 _=H7;obtain⟨s7,g7⟩:=nwO hq7 zz;have s57:=s6.trans s7;have s47:=s5.trans s57;have s07:=s04.trans s47;refine⟨a4,q7,_,_,rfl,rfl,.inr ⟨jE.of (s47 _ _ v1),jE.of g7⟩,.cons (Ie rfl) (.cons (Ie rfl) (.cons (.inr ⟨le,le2,rfl,rfl,.inr ⟨_,_,.inl ⟨fj.of (s47 _ _ v2),fj.of (s7 _ _ g6)⟩,.nil⟩⟩) .nil)),?_⟩;refine⟨false,rfl,?_⟩;walk_at"e";refine⟨A5.wo,m,_,l,rfl,T5,1,A5,w,t,_,j5.same s57,rfl,t0,t1,rfl,hl2.same s07,h5,hb,λH8 s8=>?_⟩;have s48:=s47.trans s8;have j8:=j4.same s48;refine⟨true,rfl,?_⟩;walk_at"e";refine⟨A.wo,rfl,T4,1,A4,M',j8,aw,by rw[lM];have:tl.length+1<=5:=h5;omega,λa9 ls H9 s9 na o9 l9 nd nr nal c9=>?_⟩;have h9:0<ls.length:=by rw[l9];exact(gG er).1
 have e9:ls[0]? =some ls[0]:=eV h9;have d9:=c9 0 _ _ e9 er;walk_at"e";refine jA (v:=.ref ls[0]) (fj.of o9) (iJ (by decide) (by rw[fV];show Option.map _ ls[0]? =_;rw[e9];rfl)) ?_;walk_at"e";refine jA (v:=.int 0) (fj.of d9) (iJ (by omega) (by rw[fV,Int.toNat_natCast,es];rfl)) ?_;walk_at"e";obtain⟨d1,ow⟩:=(j8.same s9).jb.ow;obtain⟨d2,oh⟩:=(j8.same s9).jh.oh;rw[aw]at ow;rw[b1]at oh;rw[if_pos (by decide)];walk_at"e";refine cV ow TT.w.cW TT.w.nWh fc ?_;walk_at"e";refine cV oh TT.w.c.dw TT.w.c.cI xZ ?_;walk_at"e";exact h _ (s04.trans (s48.trans s9))
end
def mz(x:Str×Int):m7:=.dd "drop" (qH 0 x) [qN iC 2]
theorem Zbd{x:Str×Int}{tl:List (Str×Int)}(k:uE (x::tl)):FW (x::tl) (mz x):=by
 have kx:=k.2.2.2 x (List.mem_cons_self ..);exact⟨rfl,Zg8,jW (okH (h:=0) rfl kx.1) (jW (okN (m:=999) rfl (by decide) (by decide) (by decide)) Cu),slH (slS (x:=x) rfl (by omega) trivial),by decide⟩
theorem Zbi{hs:List (Str×Int)}:∀{rs:List m7},(∀r∈rs,FW hs r/\Hz r=true)->∃ds:List nZ,ds.length=rs.length/\∀(i:Nat) r,rs[i]? =some r->∃d,ds[i]? =some d/\eY r=dV d/\okR hs d
 | [],_=>⟨[],rfl,λi r h=>by cases h⟩
 | r::rs,h=>by
  obtain⟨ds,e1,e2⟩:=Zbi λr hr=>h r (List.mem_cons_of_mem _ hr);obtain⟨k,z⟩:=h r (List.mem_cons_self ..);cases r with
  | sw m=>cases z
  | dd w q qs=>
   obtain⟨d,d1,d2⟩:=Zqw k;refine⟨d::ds,by rw[List.length_cons,List.length_cons,e1],λi r hr=>?_⟩
   match i,hr with
   | 0,hr=>cases hr;exact⟨d,rfl,d1,d2⟩
   | i+1,hr=>exact e2 i r hr
theorem Ze8{ps:List Str}{p:Str}(h:ps≠[]):Str.join ⟨#[10]⟩ (ps++[p])=Str.join ⟨#[10]⟩ ps++⟨#[10]⟩++p:=by
 refine Ol ?_;rw[tE,Yn 10 p h,PyProof.Rows.cps_toList_append,PyProof.Rows.cps_toList_append,tE,List.append_assoc];rfl
theorem Ziz{hs:List (Str×Int)}{rs:List m7}{ds:List nZ}{r:m7}{d:nZ}(dl:ds.length=rs.length)(h:∀(i:Nat) r,rs[i]? =some r->∃d,ds[i]? =some d/\eY r=dV d/\okR hs d)(e:eY r=dV d)(k:okR hs d):∀(i:Nat) r',(rs++[r])[i]? =some r'->∃d',(ds++[d])[i]? =some d'/\eY r'=dV d'/\okR hs d':=λi r' hr=>by
 by_cases hi:i<rs.length
 ·rw[List.getElem?_append_left hi]at hr;rw[List.getElem?_append_left (by omega)];exact h i r' hr
 ·have hl:=(gG hr).1;rw[List.length_append,List.length_singleton]at hl;have ei:i=rs.length:=by omega
  subst ei;rw[List.getElem?_append_right (Nat.le_refl _),Nat.sub_self]at hr;cases hr;rw[<- dl,List.getElem?_append_right (Nat.le_refl _),Nat.sub_self];exact⟨d,rfl,e,k⟩
theorem LgE.last{H:Hp}{ps:List Addr}{es:List Rz}{e:Rz}(h:LgE H ps (es++[e])):∃qs b a l,ps=qs++[b]/\qs.length=es.length/\LgE H qs es/\H b=some (.lst [.ref a])/\H a=some (.tup [.str e.1,e.2.1,.ref l]):=by
 have h1:=h.1;rw[List.length_append,List.length_singleton]at h1;have t:=h.take es.length;have hi:es.length<ps.length:=by omega
 obtain⟨x,a,l,ex,b1,b2,_⟩:=h.2 es.length ps[es.length] (eV hi);rw[List.getElem?_append_right (Nat.le_refl _),Nat.sub_self]at ex;cases ex;rw[List.take_left]at t;refine⟨ps.take es.length,ps[es.length],a,l,?_,by rw[List.length_take];omega,t,b1,b2⟩;have e2:=List.take_add_one (l:=ps) (i:=es.length);rw[List.take_of_length_le (by omega),eV hi]at e2;exact e2
theorem LgE.same{H H':Hp}{ps:List Addr}{es:List Rz}(h:LgE H ps es)(s:dF H H'):LgE H' ps es:=
 ⟨h.1,λi b hb=>let ⟨x,a,l,e,g1,g2,g3⟩:=h.2 i b hb;⟨x,a,l,e,s _ _ g1,s _ _ g2,s _ _ g3⟩⟩
theorem Zj2(w:List V)(f:V):yx (w++[f]) none (some (-1))=w:=by
 have hl:(w++[f]).length=w.length+1:=by rw[List.length_append,List.length_singleton]
 have h1:HT.oE (w++[f]).length (w++[f]).length (some (-1))=w.length:=by
  rw[hl];simp only[HT.oE];rw[if_pos (by decide)];omega
 unfold yx;rw[h1,HT.Zjz,List.drop_zero,Nat.sub_zero,List.take_left]
section
variable {H H':Hp}{r:Addr}{xs:List V}
theorem HL.kp{l:Addr}{hs:List (Str×Int)}(h:HL H l hs)(n:l≠r)(hr:H r=some (.lst xs))(k:∀b o,H b=some o->b≠r->H' b=some o):HL H' l hs:=by
 obtain⟨as,h1,h2,h3⟩:=h;exact⟨as,k _ _ h1 n,h2,λi a ha=>let ⟨x,e,q⟩:=h3 i a ha;⟨x,e,k _ _ q λz=>by rw[z,hr]at q;cases q⟩⟩
theorem RL.kp{l:Addr}{rs:List m7}(h:RL H l rs)(n:l≠r)(hr:H r=some (.lst xs))(k:∀b o,H b=some o->b≠r->H' b=some o):RL H' l rs:=by
 obtain⟨as,h1,h2,h3⟩:=h;exact⟨as,k _ _ h1 n,h2,λi a ha=>let ⟨x,e,q⟩:=h3 i a ha;⟨x,e,k _ _ q λz=>by rw[z,hr]at q;cases q⟩⟩
theorem De.kp{X:Cs}{ki lk:Addr}{w t:Int}(h:De X H ki lk w t)(hr:H r=some (.lst xs))(k:∀b o,H b=some o->b≠r->H' b=some o):De X H' ki lk w t:=by
 have ki:∀{b c d f},H b=some (.ins c d f)->H' b=some (.ins c d f):=λq=>k _ _ q λz=>by rw[z,hr]at q;cases q
 obtain⟨⟨d1,o1⟩,⟨d2,o2⟩⟩:=h;exact⟨⟨d1,ki o1⟩,⟨d2,o2.imp (λz=>⟨z.1,ki z.2⟩) (Or.imp (λz=>⟨z.1,ki z.2⟩) λz=>⟨z.1,ki z.2⟩)⟩⟩
theorem HL.mv{l l':Addr}{hs:List (Str×Int)}(h:HL H l hs)(s:dF H H')(e:∀ys,H l=some (.lst ys)->H' l'=some (.lst ys)):HL H' l' hs:=by
 obtain⟨as,h1,h2,h3⟩:=h;exact⟨as,e _ h1,h2,λi a ha=>let ⟨x,e,q⟩:=h3 i a ha;⟨x,e,s _ _ q⟩⟩
theorem Zk9{K:aV}{l b:Addr}{rs ts:List m7}{Q:VK}(h:RL H l rs)(g:RL H b ts)(z:rs.length+ts.length<=1000)(k:∀p H',H p=none->dF H H'->RL H' p (rs++ts)->Q (.ref p) H'):Gm (.ref l) (.ref b) H Q:=by
 obtain⟨as,h1,h2,h3⟩:=h;obtain⟨bs,g1,g2,g3⟩:=g;refine⟨l,b,_,_,rfl,rfl,h1,g1,dR (by rw[dM,dM];omega),λp hp=>?_⟩;have s:=bY hp (.lst (as.map V.ref++bs.map V.ref));refine k p _ hp s ⟨as++bs,by rw[aq,List.map_append],by rw[List.length_append,List.length_append,h2,g2],λi a ha=>?_⟩
 by_cases hi:i<as.length
 ·rw[List.getElem?_append_left hi]at ha;obtain⟨r,e,q⟩:=h3 i a ha;exact⟨r,by rw[List.getElem?_append_left (by omega)];exact e,s _ _ q⟩
 ·rw[List.getElem?_append_right (by omega)]at ha;obtain⟨r,e,q⟩:=g3 _ a ha;exact⟨r,by rw[List.getElem?_append_right (by omega),<- h2];exact e,s _ _ q⟩
end
theorem Znx{m w t:Int}{hs:List (Str×Int)}{rs:List m7}(m0:0<=m)(m1:m<10 ^ 60)(w0:0<=w)(w1:w<3)(t0:0<=t)(t1:t<4)(ok:uE hs)(h90:rs.length<=90)(ho:∀r∈rs,FW hs r):(Str.join ⟨#[10]⟩ (nG m w t hs++rs.map nu)).length<=300000:=by
 have h:=Zgm m0 m1 w0 w1 t0 t1 ok h90 ho;have k:=Q7 10 (ps:=nG m w t hs++rs.map nu) (by intro z;cases z);have e:(Str.join ⟨#[10]⟩ (nG m w t hs++rs.map nu)).length=(jl 10 (nG m w t hs++rs.map nu)).length:=by
  rw[<- tE];exact(Array.length_toList).symm
 omega
theorem Zqh:∀x∈Aj,x.1≠kO:=by decide
theorem Zk1{hs:List (Str×Int)}{r:m7}(h:FW hs r):Vm r:=by
 cases r with
 | sw m=>trivial
 | dd w q qs=>exact Zqh _ h.2.1
theorem RL.one{H:Hp}{p a:Addr}{r:m7}(h:H p=some (.lst [.ref a]))(g:H a=some (.tup (eY r))):RL H p [r]:=⟨[a],h,rfl,λi b hb=>by
 match i,hb with
 | 0,hb=>cases hb;exact⟨r,rfl,g⟩⟩
theorem RL.two{H:Hp}{p a:Addr}{r:m7}(h:H p=some (.lst [.ref a,.ref a]))(g:H a=some (.tup (eY r))):RL H p [r,r]:=⟨[a,a],h,rfl,λi b hb=>by
 match i,hb with
 | 0,hb=>cases hb;exact⟨r,rfl,g⟩
 | 1,hb=>cases hb;exact⟨r,rfl,g⟩⟩
theorem RL.app{H:Hp}{p b:Addr}{rs:List m7}{r:m7}{as:List Addr}(h1:H p=some (.lst (as.map V.ref++[.ref b])))(h2:as.length=rs.length)(h3:∀(i:Nat) a,as[i]? =some a->∃r,rs[i]? =some r/\H a=some (.tup (eY r)))(hb:H b=some (.tup (eY r))):RL H p (rs++[r]):=by
 refine⟨as++[b],by rw[h1,List.map_append];rfl,by rw[List.length_append,List.length_append,h2];rfl,λi a ha=>?_⟩
 by_cases hi:i<as.length
 ·rw[List.getElem?_append_left hi]at ha;rw[List.getElem?_append_left (by omega)];exact h3 i a ha
 ·have hl:=(gG ha).1;rw[List.length_append,List.length_singleton]at hl;have ei:i=as.length:=by omega
  subst ei;rw[List.getElem?_append_right (Nat.le_refl _),Nat.sub_self]at ha;cases ha;exact⟨r,by rw[h2,List.getElem?_append_right (Nat.le_refl _),Nat.sub_self];rfl,hb⟩
def Zwv(CS:Addr)(X:Cs)(sc:Addr)(m:Int)(z:Str)(l wl:Addr)(H:Hp)(Q:VK):Prop:=∃dx kd hl rl lk w t hs rs,H sc=some (.ins CS dx (jt m kd hl rl))/\De X H kd lk w t/\0<=t/\t<4/\z=words w t/\4<=m/\m<=1000000000000000/\HL H hl hs/\HL H l hs/\uE hs/\RL H rl rs/\RL H wl rs/\rs.length<=40/\(∀r∈rs,FW hs r/\Hz r=true)/\hl≠rl/\l≠rl/\wl≠rl/\∀H',(∀b o,H b=some o->b≠rl->H' b=some o)->Q (.bl true) H'
def Pa(CS:Addr)(X:Cs):Sp:=λvs H Q E=>∃sc m z l wl,vs=[.ref sc,.int m,.str z,.ref l,.ref wl]/\Zwv CS X sc m z l wl H Q
section
variable {K:aV}{X:Cs}{aC aL aK aP aJ aH aG aO aF aD aA:Addr}{H:Hp}{Q:VK}{E:XK}{n:St->Hp->Prop}{bk ct:St->Hp->Prop}
theorem Fz{sc l wl:Addr}{m:Int}{z:Str}(TT:qd K X aC aL aK aP aJ aH aG aO aF aD aA)(q:Zwv aC X sc m z l wl H Q):
  qp K (vW aC X) Im (zR K aC) (Zgo aC X) (qy aC) (CW aC X) ⟨n,Q,bk,ct⟩ [some (.ref sc),some (.int m),some (.str z),some (.ref l),some (.ref wl),none,none,none,none] H:=by
 obtain⟨dx,kd,hl,rl,lk,w,t,hs,rs,o,kk,t0,t1,rfl,m0,m1,hls,hl2,ok,rls,rl2,h40,rok,n2,n3,n4,h⟩:=q;obtain⟨x,tl,rfl⟩:∃x tl,hs=x::tl:=by
  cases hs with
  | nil=>exact absurd ok.1 (by decide)
  | cons x tl=>exact⟨x,tl,rfl⟩
 have hb:∀y∈x::tl,3<=y.2/\y.2<=9:=λy hy=>(ok.2.2.2 y hy).2;have xb:=hb x (List.mem_cons_self ..);have h5:=ok.2.1;obtain⟨ds,dl,hds⟩:=Zbi rok;obtain⟨as,g1,g2,g3⟩:=id rls;unfold qp;walk_at"e";refine⟨sc,rfl,dx,m,kd,hl,rl,lk,w,t,_,as,ds,o,kk,t0,t1,hls,by omega,hb,g1,by omega,by omega,λi a ha=>?_,λH1 p1 s1 lg1 fp1=>?_⟩
 ·obtain⟨r,er,hr⟩:=g3 i a ha;obtain⟨d,ed,ev,od⟩:=hds i r er;exact⟨d,ed,by rw[<- ev];exact hr,od⟩
 walk_at"e";refine⟨sc,rfl,m,dx,kd,hl,rl,lk,w,t,_,rs,s1 _ _ o,kk.same s1,t0,t1,m0,m1,hls.same s1,ok,rls.same s1,by omega,λr hr=>(rok r hr).1,λH2 s2=>?_⟩;have s02:=s1.trans s2;walk_at"e";refine⟨by decide,λqr hq=>?_⟩;generalize zz:upd H2 qr _=H3;obtain⟨s3,c3⟩:=nwO hq zz;have c3:H3 qr=some (.tup (eY (mz x))):=c3;have ZR:=s02.trans s3;walk_at"e";refine cV (ZR _ _ o) TT.cT TT.Bx lE ?_;walk_at"e";have r3:=ZR _ _ g1;refine⟨.inl ⟨rfl,_,fj.of r3⟩,?_⟩;walk_at"e";refine⟨rl,_,_,rfl,rfl,r3,by rw[dM,sizeLine_eq];omega,?_⟩;have k4:∀b o,H3 b=some o->b≠rl->upd H3 rl (.lst (as.map V.ref++[.ref qr])) b=some o:=λb o hb nb=>by rw[aU nb];exact hb
 have Zoe:RL (upd H3 rl (.lst (as.map V.ref++[.ref qr]))) rl (rs++[mz x]):=RL.add r3 g2 (λi a ha=>let ⟨r,e,q⟩:=g3 i a ha;⟨r,e,ZR _ _ q⟩) c3;have r4:upd H3 rl (.lst (as.map V.ref++[.ref qr])) rl=some (.lst ((as++[qr]).map V.ref)):=by rw[aq,List.map_append];rfl
 generalize upd H3 rl (.lst (as.map V.ref++[.ref qr]))=H4 at k4 Zoe r4 ⊢;have o4:=k4 _ _ (ZR _ _ o) λz=>by rw[z,g1]at o;cases o
 have kk4:=(kk.same ZR).kp r3 k4;have Zik:=(hls.same ZR).kp n2 r3 k4;have Zq5:=(hl2.same ZR).kp n3 r3 k4;have Zrx:=(rl2.same ZR).kp n4 r3 k4;have c4:=k4 _ _ c3 λz=>by rw[z,r3]at c3;cases c3
 have s13:=s2.trans s3;have lg4:=lg1.kp (H':=H4) fp1 g1 (s1 _ _ g1) λb o hb nb=>k4 _ _ (s13 _ _ hb) nb;have okd:=Zbd ok;have Zk2:∀r∈rs++[mz x],FW (x::tl) r/\Hz r=true:=λr hr=>by
  rcases List.mem_append.mp hr with hr | hr
  ·exact rok r hr
  ·rw[List.mem_singleton.mp hr];exact⟨okd,rfl⟩
 have l4:(rs++[mz x]).length=rs.length+1:=by rw[List.length_append];rfl
 have Zyn:=Ziz (d:=.drop 0 2) dl hds (show eY (mz x)=dV (.drop 0 2)from rfl) (show Bv (x::tl) 0 2 from⟨x,rfl,by omega⟩);obtain⟨as4,q1,q2,q3⟩:=id Zoe;walk_at"e";refine⟨sc,rfl,dx,m,kd,hl,rl,lk,w,t,_,as4,ds++[.drop 0 2],o4,kk4,t0,t1,Zik,by omega,hb,q1,by rw[q2,l4,List.length_append,dl];rfl,by omega,λi a ha=>?_,λH5 p2 s5 lg5 fp2=>?_⟩
 ·obtain⟨r,er,hr⟩:=q3 i a ha;obtain⟨d,ed,ev,od⟩:=Zyn i r er;exact⟨d,ed,by rw[<- ev];exact hr,od⟩
 have fl:=ZW ds (uO m (x::tl) w t);rw[(ZZ ds (.drop 0 2) _).1]at lg5;have ed:(JL (sS (Rv (uO m (x::tl) w t) ds) (.drop 0 2))).1="dropped":=rfl;generalize JL (sS (Rv (uO m (x::tl) w t) ds) (.drop 0 2))=e at lg5 ed;obtain⟨ps,u1,u2⟩:=lg4.of;obtain⟨ps2,v1,v2⟩:=lg5.of;obtain⟨qs,b,a,le,rfl,v3,v4,v5,v6⟩:=v2.last;have lp:=u2.1;generalize runM (uO m (x::tl) w t) ds=es at fl lg4 lg5 u2 v2 v3 v4 lp;walk_at"e";refine qZ (fj.of v1) ?_;walk_at"e";have s45:=s5;refine qZ (fj.of (s5 _ _ u1)) ?_;walk_at"e";refine sO (λz=>absurd (by rw[dM,dM,List.length_append,v3,lp];rfl) z) (λ_=>?_);walk_at"e";rw[List.map_append]at v1;refine⟨p2,_,rfl,fj.of v1,λp6 hp6=>?_⟩;rw[show yx (qs.map V.ref++[b].map V.ref) none (some (-1))=qs.map V.ref from Zj2 _ _];generalize zz:upd H5 p6 _=H6;obtain⟨s6,c6⟩:=nwO hp6 zz;have s46:=s5.trans s6;walk_at"e";refine⟨p6,p1,_,_,rfl,rfl,.inl ⟨fj.of c6,fj.of (s46 _ _ u1)⟩,Zv8 (v4.same s6) (u2.same s46) fl,?_⟩;refine⟨false,rfl,?_⟩;walk_at"e";refine jA (fj.of (s6 _ _ v1)) (Zbp _ _) ?_;walk_at"e";refine jA (v:=.ref a) (fj.of (s6 _ _ v5)) (iJ (by decide) rfl) ?_;walk_at"e";refine⟨a,_,_,_,rfl,rfl,jE.of (s6 _ _ v6),iJ (by decide) rfl,?_⟩;walk_at"e";refine sO (λz=>absurd ed z) (λ_=>?_);walk_at"e";refine⟨sc,rfl,m,dx,kd,hl,rl,lk,w,t,_,rs++[mz x],s46 _ _ o4,kk4.same s46,t0,t1,m0,m1,Zik.same s46,ok,Zoe.same s46,by omega,λr hr=>(Zk2 r hr).1,λH7 s7=>?_⟩;have s47:=s46.trans s7;walk_at"e";obtain⟨w0,w1⟩:=kk.wb;have ZG4:=Znx (rs:=rs) (hs:=x::tl) (by omega) (Int.lt_of_le_of_lt m1 (by decide)) w0 w1 t0 t1 ok (by omega) λr hr=>(rok r hr).1;have n1l:("\n":Str).length=1:=rfl;have dln:=okd.len;refine mJ (dR (by omega)) ?_;walk_at"e";refine⟨qr,l,rfl,x::tl,mz x,Zq5.same s47,h5,s47 _ _ c4,okd,?_⟩;refine mJ (dR (by rw[len_app];omega)) ?_;walk_at"e";have et:Str.join ⟨#[10]⟩ (nG m w t (x::tl)++(rs++[mz x]).map nu)=Str.join ⟨#[10]⟩ (nG m w t (x::tl)++rs.map nu)++("\n":Str)++nu (mz x):=by
  rw[List.map_append,<- List.append_assoc];exact Ze8 (by intro z;cases z)
 refine sO (λz=>absurd et z) (λ_=>?_);walk_at"e";obtain⟨ah,hh1,hh2,hh3⟩:=id Zik;refine⟨sc,rfl,dx,m,kd,hl,rl,_,as4,rs++[mz x],s47 _ _ o4,s47 _ _ hh1,s47 _ _ q1,q2,by omega,λi a ha=>?_,λH8 sc8 dx8 hl8 rl8 bs s8 o8 h8 r8 rr8 _ _ _=>?_⟩
 ·obtain⟨r,er,hr⟩:=q3 i a ha;exact⟨r,er,s47 _ _ hr,Zk1 (Zk2 r (List.mem_of_getElem? er)).1⟩
 rw[List.filter_eq_self.mpr λr hr=>(Zk2 r hr).2]at rr8;have s48:=s47.trans s8;walk_at"e";refine⟨by show 1<=sizeLine;decide,λp9 hp9=>?_⟩;have s9:=bY hp9 (.lst [.ref qr]);have r9:RL (upd H8 p9 (.lst [.ref qr])) p9 [mz x]:=RL.one aq (s9 _ _ (s48 _ _ c4));generalize upd H8 p9 (.lst [.ref qr])=H9 at s9 r9 ⊢;have s49:=s48.trans s9;refine Zk9 (K:=K) (Zrx.same s49) r9 (by show rs.length+1<=1000;omega) λpc Hc npc sc9 rc=>?_;have s4c:=s49.trans sc9;have s8c:=s9.trans sc9;walk_at"e";have vh:=Zmq (hs:=x::tl) (by omega);have vr:=ZS (rs:=rs++[mz x]) (by omega) λr hr=>(Zk2 r hr).1;refine⟨sc8,m,_,l,pc,rfl,dx8,kd,hl8,rl8,lk,w,t,_,_,s8c _ _ o8,kk4.same s4c,t0,t1,rfl,(Zik.mv s4c λys hy=>by rw[hh1]at hy;cases hy;exact s8c _ _ h8).rv,(Zq5.same s4c).rv,vh,(rr8.same s8c).rv,rc.rv,vr,λHd sd=>?_⟩;refine⟨true,rfl,?_⟩;have s4d:=s4c.trans sd;walk_at"e";refine⟨by show 1<=sizeLine;decide,λpe hpe=>?_⟩;generalize zz:upd Hd pe _=He;obtain⟨se,ce⟩:=nwO hpe zz;have s4e:=s4d.trans se;walk_at"e";refine⟨sc,pe,rfl,dx,m,kd,hl,rl,_,_,_,s4e _ _ o4,s4e _ _ hh1,s4e _ _ q1,ce,by rw[dM];show as4.length+1<=1000;omega,λHf scf dxf hlf rlf sf of hf rf _ _ _=>?_⟩;have s4f:=s4e.trans sf;have rrf:RL Hf rlf (rs++[mz x]++[mz x]):=RL.app rf q2 (λi a ha=>let ⟨r,e,q⟩:=q3 i a ha;⟨r,e,s4f _ _ q⟩) (s4f _ _ c4);walk_at"e";refine⟨by show 2<=sizeLine;decide,λpg hpg=>?_⟩;have sg:=bY hpg (.lst [.ref qr,.ref qr]);have rg:RL (upd Hf pg (.lst [.ref qr,.ref qr])) pg [mz x,mz x]:=RL.two aq (sg _ _ (s4f _ _ c4));generalize upd Hf pg (.lst [.ref qr,.ref qr])=Hg at sg rg ⊢;have s4g:=s4f.trans sg;refine Zk9 (K:=K) (Zrx.same s4g) rg (by show rs.length+2<=1000;omega) λph Hh nph sh rh=>?_;have s4h:=s4g.trans sh;have sfh:=sg.trans sh;rw[show rs++[mz x,mz x]=rs++[mz x]++[mz x]from by rw[List.append_assoc];rfl]at rh;walk_at"e";have vr2:=ZS (hs:=x::tl) (rs:=rs++[mz x]++[mz x]) (by rw[List.length_append,l4];show rs.length+1+1<=90;omega) λr hr=>by
  rcases List.mem_append.mp hr with hr | hr
  ·exact(Zk2 r hr).1
  ·rw[List.mem_singleton.mp hr];exact okd
 refine⟨scf,m,_,l,ph,rfl,dxf,kd,hlf,rlf,lk,w,t,_,_,sfh _ _ of,kk4.same s4h,t0,t1,rfl,(Zik.mv s4h λys hy=>by rw[hh1]at hy;cases hy;exact sfh _ _ hf).rv,(Zq5.same s4h).rv,vh,(rrf.same sfh).rv,rh.rv,vr2,λHi si=>?_⟩;refine⟨true,rfl,?_⟩;have s4i:=s4h.trans si;walk_at"e";refine⟨by show 1<=sizeLine;decide,λpj hpj=>?_⟩;have sj:=bY hpj (.lst [.ref qr]);have rj:RL (upd Hi pj (.lst [.ref qr])) pj [mz x]:=RL.one aq (sj _ _ (s4i _ _ c4));generalize upd Hi pj (.lst [.ref qr])=Hj at sj rj ⊢;have s4j:=s4i.trans sj;refine Zk9 (K:=K) (Zrx.same s4j) rj (by show rs.length+1<=1000;omega) λpk Hk npk sk rk=>?_;have s4k:=s4j.trans sk;walk_at"e";refine⟨sc,m,_,l,pk,rfl,dx,kd,hl,rl,lk,w,t,_,_,s4k _ _ o4,kk4.same s4k,t0,t1,rfl,(Zik.same s4k).rv,(Zq5.same s4k).rv,vh,(Zoe.same s4k).rv,rk.rv,vr,λHl sl=>?_⟩;exact h _ λb o hb nb=>sl _ _ (s4k _ _ (k4 _ _ (ZR _ _ hb) nb))
end
section
variable {K:aV}{a:Addr}{caps:List Nat}{te:TE}{σ:St}{H:Hp}{Q:VK}
theorem Zm4{xs:List V}(hq:fj K H a xs)(hz:xs.length<=1000000)(R:Nat->V->Hp->Prop)(mono:∀i y H1 H2,R i y H1->dF H1 H2->R i y H2)
  (hte:∀(i:Nat) x H1,xs[i]? =some x->dF H H1->∀q:VK,(∀v H2,dF H1 H2->R i v H2->q v H2)->te (some (.int i)::some x::caps.map (pick σ)) H1 q)
  (h:∀vs H',dF H H'->vs.length=xs.length->(∀(i:Nat) v,vs[i]? =some v->R i v H')->∀p,H' p=none->Q (.ref p) (upd H' p (.lst vs))):Zbs K (Ite K a) caps pM te σ H Q:=by
 refine⟨λi m vs H'=>i<=xs.length/\m=xs.length - i/\vs.length=i/\dF H H'/\∀(j:Nat) v,vs[j]? =some v->R j v H',⟨_,Nat.zero_le _,rfl,rfl,dF.refl _,λj v e=>by cases e⟩,?_⟩;rintro i m vs H1 ⟨hi,rfl,hl,s1,hv⟩
 by_cases hk:i=xs.length
 ·exact .inl ⟨⟨xs,s1.seq hq,by omega⟩,λp hp=>h vs H1 s1 (by omega) hv p hp⟩
 ·have hlt:i<xs.length:=by omega
  refine .inr ⟨⟨xs,xs[i],s1.seq hq,eV hlt⟩,Nat.lt_of_lt_of_le (by omega:vs.length<1000000) (by decide),?_⟩;rintro v H2 ⟨t,x,rfl,ht,rfl,e1⟩;have s2:=bY ht (.tup [.int i,x]);refine⟨t,.int i,x,rfl,jE.of aq,KZ (Zav ?_)⟩;refine hte i x _ (e1 _ (s1.seq hq)) (s1.trans s2) _ λw H3 s3 rw'=>⟨xs.length - (i+1),by omega,by omega,rfl,by rw[List.length_append,hl];rfl,s1.trans (s2.trans s3),λj u hj=>?_⟩
  by_cases hji:j<vs.length
  ·rw[List.getElem?_append_left hji]at hj;exact mono _ _ _ _ (hv j u hj) (s2.trans s3)
  ·have hjl:=(gG hj).1;rw[List.length_append]at hjl;have:[w].length=1:=rfl;have hje:j=vs.length:=by omega
   rw[hje,List.getElem?_append_right (Nat.le_refl _),Nat.sub_self]at hj;cases hj;rw[hje,hl];exact rw'
end
def Zgp(K:aV):Sp:=λvs H Q E=>∃a,vs=[.ref a]/\∃ns:List Int,fj K H a (ns.map V.int)/\ns.length<=63/\FT ns/\∀H',Q (.bl true) H'
theorem Zk3{hs:List (Str×Int)}{H:Hp}:∀{vs:List V},(∀(i:Nat) v,vs[i]? =some v->∃b r,v=.ref b/\FW hs r/\H b=some (.tup (eY r)))->∃(as:List Addr) (rs:List m7),vs=as.map V.ref/\as.length=rs.length/\(∀r∈rs,FW hs r)/\∀(i:Nat) a,as[i]? =some a->∃r,rs[i]? =some r/\H a=some (.tup (eY r))
 | [],_=>⟨[],[],rfl,rfl,(λ_ h=>by cases h),(λ_ _ h=>by cases h)⟩
 | v::vs,h=>by
  obtain⟨as,rs,e1,e2,e3,e4⟩:=Zk3 (vs:=vs) (λi v e=>h (i+1) v e);obtain⟨b,r,rfl,ok,hb⟩:=h 0 v rfl;refine⟨b::as,r::rs,by rw[e1];rfl,by rw[List.length_cons,List.length_cons,e2],λx hx=>?_,λi a ha=>?_⟩
  ·rcases List.mem_cons.mp hx with rfl | hx
   ·exact ok
   ·exact e3 x hx
  ·match i,ha with
   | 0,ha=>cases ha;exact⟨r,rfl,hb⟩
   | i+1,ha=>exact e4 i a ha
theorem p15:((10:Int) ^ Int.toNat 15)=1000000000000000:=rfl
section
variable {H H':Hp}(k:∀b o,H b=some o->(∀xs,o≠.lst xs)->H' b=some o)
include k
theorem HL.nk{l l':Addr}{hs:List (Str×Int)}(h:HL H l hs)(e:∀ys,H l=some (.lst ys)->H' l'=some (.lst ys)):HL H' l' hs:=by
 obtain⟨as,h1,h2,h3⟩:=h;exact⟨as,e _ h1,h2,λi a ha=>let ⟨x,e,q⟩:=h3 i a ha;⟨x,e,k _ _ q λxs z=>by cases z⟩⟩
theorem RL.nk{l l':Addr}{rs:List m7}(h:RL H l rs)(e:∀ys,H l=some (.lst ys)->H' l'=some (.lst ys)):RL H' l' rs:=by
 obtain⟨as,h1,h2,h3⟩:=h;exact⟨as,e _ h1,h2,λi a ha=>let ⟨x,e,q⟩:=h3 i a ha;⟨x,e,k _ _ q λxs z=>by cases z⟩⟩
theorem De.nk{X:Cs}{ki lk:Addr}{w t:Int}(h:De X H ki lk w t):De X H' ki lk w t:=by
 have ki:∀{b c d f},H b=some (.ins c d f)->H' b=some (.ins c d f):=λq=>k _ _ q λxs z=>by cases z
 obtain⟨⟨d1,o1⟩,⟨d2,o2⟩⟩:=h;exact⟨⟨d1,ki o1⟩,⟨d2,o2.imp (λz=>⟨z.1,ki z.2⟩) (Or.imp (λz=>⟨z.1,ki z.2⟩) λz=>⟨z.1,ki z.2⟩)⟩⟩
end
theorem RL.ZFu{H:Hp}{p:Addr}{as bs:List Addr}{rs ts:List m7}(h:H p=some (.lst (as.map V.ref++bs.map V.ref)))(h2:as.length=rs.length)(g2:bs.length=ts.length)(h3:∀(i:Nat) a,as[i]? =some a->∃r,rs[i]? =some r/\H a=some (.tup (eY r)))(g3:∀(i:Nat) a,bs[i]? =some a->∃r,ts[i]? =some r/\H a=some (.tup (eY r))):RL H p (rs++ts):=by
 refine⟨as++bs,by rw[h,List.map_append],by rw[List.length_append,List.length_append,h2,g2],λi a ha=>?_⟩
 by_cases hi:i<as.length
 ·rw[List.getElem?_append_left hi]at ha;obtain⟨r,e,q⟩:=h3 i a ha;exact⟨r,by rw[List.getElem?_append_left (by omega)];exact e,q⟩
 ·rw[List.getElem?_append_right (by omega)]at ha;obtain⟨r,e,q⟩:=g3 _ a ha;exact⟨r,by rw[List.getElem?_append_right (by omega),<- h2];exact e,q⟩
theorem Zgn{K:aV}{H:Hp}{d:Nat}:∀ds:List Addr,Al (Dq K H (d+1)) (ds.map V.ref) (ds.map V.ref)
 | []=>.nil
 | a::ds=>.cons (.inr ⟨a,a,rfl,rfl,.inl rfl⟩) (Zgn ds)
theorem Zw8{H:Hp}{l b a:Addr}{hs:List (Str×Int)}{x:Str×Int}{Q:VK}(h:HL H l hs)(h5:hs.length<=5)(g:H b=some (.lst [.ref a]))(ga:H a=some (.tup [.str x.1,.int x.2]))(k:∀p H',dF H H'->HL H' p (hs++[x])->Q (.ref p) H'):Gm (.ref l) (.ref b) H Q:=by
 obtain⟨as,h1,h2,h3⟩:=h;refine⟨l,b,_,_,rfl,rfl,h1,g,dR (by rw[dM];show as.length+1<=_;omega),λp hp=>?_⟩;have s:=bY hp (.lst (as.map V.ref++[.ref a]));refine k p _ s ⟨as++[a],by rw[aq,List.map_append];rfl,by rw[List.length_append,List.length_append,h2];rfl,λi c hc=>?_⟩
 by_cases hi:i<as.length
 ·rw[List.getElem?_append_left hi]at hc;obtain⟨y,e,q⟩:=h3 i c hc;exact⟨y,by rw[List.getElem?_append_left (by omega)];exact e,s _ _ q⟩
 ·have hl:=(gG hc).1;rw[List.length_append,List.length_singleton]at hl;obtain rfl:i=as.length:=by omega
  rw[List.getElem?_append_right (Nat.le_refl _),Nat.sub_self]at hc;cases hc;exact⟨x,by rw[h2,List.getElem?_append_right (Nat.le_refl _),Nat.sub_self];rfl,s _ _ ga⟩
section
variable {K:aV}{X:Cs}{aC aL aK aP aJ aH aG aO aF aD aA:Addr}{H:Hp}{Q:VK}{E:XK}{n:St->Hp->Prop}{bk ct:St->Hp->Prop}
theorem Zst{a:Addr}(TT:qd K X aC aL aK aP aJ aH aG aO aF aD aA)(q:∃ns:List Int,fj K H a (ns.map V.int)/\ns.length<=63/\FT ns/\∀H',Q (.bl true) H'):
  Zd4 K aC (jK aC) (Pa aC X) (Zgq K) Dd Io (FN X) O8 (vW aC X) (Pb aC X) (Dc X) (zR K aC) (qy aC) (nU aC X) ⟨n,Q,bk,ct⟩ [some (.ref a),none,none,none,none,none,none,none,none,none,none,none,none,none] H:=by
 obtain⟨ns,hS,hlen,hb,h⟩:=q;unfold Zd4;walk_at"e";refine⟨a,_,rfl,ns,hS,hb,by decide,λc0 _=>?_⟩;walk_at"e";refine⟨a,_,rfl,ns,hS,hb,by decide,λc1 _=>?_⟩;walk_at"e";generalize (c0+13) * 48271 % 7919=way;refine⟨_,_,rfl,λl hs H1 s1 hl ok=>?_⟩;have h5:=ok.2.1;walk_at"e";refine⟨a,_,rfl,ns,s1.seq hS,hb,by decide,λc2 _=>?_⟩;walk_at"e";rw[p15];walk_at"e";obtain⟨m,em⟩:∃m:Int,m=4+c2 % (1000000000000000 - 3):=⟨_,rfl⟩;have m0:4<=m:=by omega
 have m1:m<=1000000000000000:=by omega
 rw[<- em];clear em;refine⟨a,_,rfl,ns,s1.seq hS,hb,by decide,λc3 _=>?_⟩;walk_at"e";refine⟨_,rfl,λw t H2 w0 w1 t0 t1 s2=>?_⟩;have s02:=s1.trans s2;walk_at"e";refine⟨a,_,rfl,s02.seq hS,λcp hcp=>?_⟩;have ec:yx (ns.map V.int) (some 4) (some 44)=((ns.drop (HT.oE ns.length 0 (some 4))).take (HT.oE ns.length ns.length (some 44) - HT.oE ns.length 0 (some 4))).map V.int:=by
  unfold yx;rw[List.map_take,List.map_drop,dM]
 have l40:HT.oE ns.length ns.length (some 44) - HT.oE ns.length 0 (some 4)<=40:=by
  simp only[HT.oE];rw[if_neg (by decide),if_neg (by decide)];omega
 rw[ec];generalize hcs:(ns.drop (HT.oE ns.length 0 (some 4))).take (HT.oE ns.length ns.length (some 44) - HT.oE ns.length 0 (some 4))=cs;have lcs:cs.length<=40:=by rw[<- hcs,List.length_take];omega
 have bcs:FT cs:=λi hi=>hb i (List.mem_of_mem_drop (List.mem_of_mem_take (by rw[hcs];exact hi)));generalize zz:upd H2 cp _=H3;obtain⟨s3,c3'⟩:=nwO hcp zz;have s23:=s2.trans s3;walk_at"e";refine⟨cp,rfl,⟨_,fj.of c3'⟩,?_⟩;refine Zm4 (fj.of c3') (by rw[dM];omega) (λ_ v H'=>∃b r,v=.ref b/\FW hs r/\H' b=some (.tup (eY r))) (λ_ _ _ _ ⟨b,r,e,k,hb⟩ s=>⟨b,r,e,k,s _ _ hb⟩) (λi x H4 hx s4 q' hq=>?_) (λvs H4 s4 vl hv wv hwv=>?_)
 ·rw[fV]at hx;obtain⟨c,hci,rfl⟩:=Option.map_eq_some_iff.mp hx;have hi:=(gG hci).1;walk_at"c";walk_at"e";exact⟨_,_,l,rfl,hs,hl.same (s23.trans s4),ok,by omega,by omega,Nat.le_trans (bcs c (List.mem_of_getElem? hci)) (by decide),λb r H5 s5 wk hb5=>hq _ _ s5 ⟨b,r,rfl,wk,hb5⟩⟩
 obtain⟨bs,rs,rfl,k2,rok,k3⟩:=Zk3 hv;rw[dM,dM]at vl;have h40:rs.length<=40:=by omega
 have s5:=bY hwv (.lst (bs.map V.ref));have rl:RL (upd H4 wv (.lst (bs.map V.ref))) wv rs:=⟨bs,aq,k2,λi c hc=>let ⟨y,q1,q2⟩:=k3 i c hc;⟨y,q1,s5 _ _ q2⟩⟩;generalize upd H4 wv (.lst (bs.map V.ref))=H5 at s5 rl ⊢;have s15:=s23.trans (s4.trans s5);have s05:=s1.trans s15;clear k3 k2 hv hwv s5 s4 s23 s3 c3' hcp bcs lcs hcs l40 ec vl;walk_at"e";refine VB ?_;walk_at"e";refine⟨_,rfl,by omega,by omega,?_⟩;refine Zpo (n:=(way / 35 % 4).toNat) rfl (by omega) (λ_ v H'=>∃b r,v=.ref b/\FW hs r/\H' b=some (.tup (eY r))) (λ_ _ _ _ ⟨b,r,e,k,hb⟩ s=>⟨b,r,e,k,s _ _ hb⟩) (λi H' q hq=>KZ hq) (λi H6 hi s6 q' hq=>?_) (λys H6 s6 yl hy ex hex=>?_)
 ·walk_at"c";walk_at"e";refine⟨a,_,rfl,ns,(s05.trans s6).seq hS,hb,by omega,λz zb=>?_⟩;walk_at"e";exact⟨_,_,l,rfl,hs,hl.same (s15.trans s6),ok,by omega,by omega,Nat.le_trans (intBits_add_le (n:=3) zb (by decide)) (by decide),λb r H7 s7 wk hb7=>hq _ _ s7 ⟨b,r,rfl,wk,hb7⟩⟩
 obtain⟨ds,es,rfl,g2,eok,g3⟩:=Zk3 hy;have h4:es.length<=4:=by rw[dM]at yl;omega
 have s7:=bY hex (.lst (ds.map V.ref));have el:RL (upd H6 ex (.lst (ds.map V.ref))) ex es:=⟨ds,aq,g2,λi c hc=>let ⟨y,q1,q2⟩:=g3 i c hc;⟨y,q1,s7 _ _ q2⟩⟩;generalize upd H6 ex (.lst (ds.map V.ref))=H7 at s7 el ⊢
 replace hl:=hl.same (s15.trans (s6.trans s7))
 replace rl:=rl.same (s6.trans s7)
 have sH:dF H H7:=s05.trans (s6.trans s7);clear g3 g2 hy hex s6 s7 s15 s05 s02 s2 s1 yl;obtain⟨as,a1,a2,a3⟩:=id hl;obtain⟨bs,b1,b2,b3⟩:=id rl;obtain⟨ds,d1,d2,d3⟩:=id el;obtain⟨x0,tl,hx0⟩:∃x tl,hs=x::tl:=by
  cases hs with
  | nil=>exact absurd ok.1 (by decide)
  | cons x tl=>exact⟨x,tl,rfl⟩
 have okd:FW hs (mz x0):=by subst hx0;exact Zbd ok
 have hb3:∀y∈hs,3<=y.2/\y.2<=9:=λy hy=>(ok.2.2.2 y hy).2;walk_at"e";refine⟨l,_,rfl,fj.of a1,λp7 n7=>?_⟩;generalize zz:upd H7 p7 _=H8;obtain⟨y1,u7⟩:=nwO n7 zz;walk_at"e";refine⟨wv,_,rfl,fj.of (y1 _ _ b1),λp8 n8=>?_⟩;generalize zz:upd H8 p8 _=H9;obtain⟨y2,u8⟩:=nwO n8 zz;have y12:=y1.trans y2;walk_at"e";refine⟨ex,_,rfl,fj.of (y12 _ _ d1),λp9 n9=>?_⟩;generalize zz:upd H9 p9 _=HA;obtain⟨y3,u9⟩:=nwO n9 zz;have y13:=y12.trans y3;have n78:p7≠p8:=aM u7 n8;have n79:p7≠p9:=aM (y2 _ _ u7) n9;have n89:p8≠p9:=aM u8 n9;have Zlh:∀{b o},H7 b=some o->b≠p7/\b≠p8/\b≠p9:=λq=>⟨aM q n7,aM (y1 _ _ q) n8,aM (y12 _ _ q) n9⟩;walk_at"e";refine⟨_,rfl,w,t,w0,w1,t0,t1,rfl,λki lk HB yB nki nlk kd=>?_⟩;have y14:=y13.trans yB
 replace u7:=yB _ _ (y3 _ _ (y2 _ _ u7))
 replace u8:=yB _ _ (y3 _ _ u8)
 replace u9:=yB _ _ u9
 walk_at"e";intro x dx nx ndx ne;have sM:dF HB (upd (upd HB dx (.own x)) x (.ins aC dx [])):=λb o hb=>by rw[aU (aM hb nx),aU (aM hb ndx)];exact hb
 refine⟨x,m,ki,p7,p8,rfl,dx,_,_,aq,sM _ _ u7,sM _ _ u8,λHC h2 r2 e1 e2 e3 k2 f1 f2 f3=>⟨rfl,?_⟩⟩;have yC:dF HB HC:=λb o hb=>k2 b o (sM b o hb) (aM hb nx);have y1C:=y14.trans yC;have nh2:∀{b o},HB b=some o->h2≠b:=λq=>(aM q (sM.free f1)).symm;have nr2:∀{b o},HB b=some o->r2≠b:=λq=>(aM q (sM.free f2)).symm;have q7:=nh2 u7;have q8:=nh2 u8;have q9:=nh2 u9;have r7:=nr2 u7;have r8:=nr2 u8;have r9:=nr2 u9
 replace hl:=hl.same y1C
 have hsc:HL HC h2 hs:=⟨as,e2,a2,λi a ha=>let ⟨y,ey,q⟩:=a3 i a ha;⟨y,ey,y1C _ _ q⟩⟩
 replace rl:=rl.same y1C
 have rsc:RL HC r2 rs:=⟨bs,e3,b2,λi a ha=>let ⟨y,ey,q⟩:=b3 i a ha;⟨y,ey,y1C _ _ q⟩⟩
 replace el:=el.same y1C
 replace kd:=kd.same yC
 have nl:=Zlh a1;have nw:=Zlh b1;have nx9:=Zlh d1;have nH:∀b o,H b=some o->b≠p7/\b≠p8/\b≠p9:=λb o q=>Zlh (sH _ _ q)
 replace sH:=sH.trans y1C
 replace a1:=y1C _ _ a1
 replace b1:=y1C _ _ b1
 replace d1:=y1C _ _ d1
 replace b3:∀(i:Nat) a,bs[i]? =some a->∃r,rs[i]? =some r/\HC a=some (.tup (eY r)):=λi a ha=>let ⟨y,ey,q⟩:=b3 i a ha;⟨y,ey,y1C _ _ q⟩
 replace d3:∀(i:Nat) a,ds[i]? =some a->∃r,es[i]? =some r/\HC a=some (.tup (eY r)):=λi a ha=>let ⟨y,ey,q⟩:=d3 i a ha;⟨y,ey,y1C _ _ q⟩
 replace a3:∀(i:Nat) a,as[i]? =some a->∃x,hs[i]? =some x/\HC a=some (.tup [.str x.1,.int x.2]):=λi a ha=>let ⟨y,ey,q⟩:=a3 i a ha;⟨y,ey,y1C _ _ q⟩
 replace u7:=yC _ _ u7
 replace u8:=yC _ _ u8
 replace u9:=yC _ _ u9
 clear nh2 nr2 Zlh y1 y2 y3 y12 y13 y14 yB yC n7 n8 n9 sM f1 f2 k2 y1C nki nlk nx ndx ne;walk_at"e";refine⟨.inl ⟨rfl,_,fj.of u7⟩,?_⟩;walk_at"e";refine⟨by show 2<=sizeLine;decide,λg1 ng1=>?_⟩;have z1:=bY ng1 (.tup [.str "late",.int 5]);generalize upd HC g1 (.tup [.str "late",.int 5])=HD at z1 ⊢;walk_at"e";refine⟨p7,_,_,rfl,rfl,z1 _ _ u7,by rw[dM,sizeLine_eq];omega,?_⟩;have kE:∀b o,HC b=some o->b≠p7->upd HD p7 (.lst (as.map V.ref++[.ref g1])) b=some o:=λb o hb nb=>by rw[aU nb];exact z1 _ _ hb
 generalize upd HD p7 (.lst (as.map V.ref++[.ref g1]))=HE at kE ⊢;walk_at"e";refine⟨.inl ⟨rfl,_,fj.of (kE _ _ u8 n78.symm)⟩,?_⟩;walk_at"e";refine⟨by show 3<=sizeLine;decide,λg2 ng2=>?_⟩;have z2:=bY ng2 (.tup [.str "drop",.int 0,.int 0]);generalize upd HE g2 (.tup [.str "drop",.int 0,.int 0])=HF at z2 ⊢;walk_at"e";refine⟨p8,_,_,rfl,rfl,z2 _ _ (kE _ _ u8 n78.symm),by rw[dM,sizeLine_eq];omega,?_⟩;have kG:∀b o,HC b=some o->b≠p7->b≠p8->upd HF p8 (.lst (bs.map V.ref++[.ref g2])) b=some o:=λb o hb nb nc=>by rw[aU nc];exact z2 _ _ (kE _ _ hb nb)
 generalize upd HF p8 (.lst (bs.map V.ref++[.ref g2]))=HG at kG ⊢;clear z1 z2 kE ng1 ng2;have nin:∀{b c d f p xs},HC b=some (.ins c d f)->HC p=some (.lst xs)->b≠p:=λq g z=>by rw[z,g]at q;cases q
 walk_at"e";refine⟨x,p9,rfl,dx,m,ki,h2,r2,_,_,_,kG _ _ e1 (nin e1 u7) (nin e1 u8),kG _ _ e2 q7 q8,kG _ _ e3 r7 r8,kG _ _ u9 n79.symm n89.symm,by rw[dM,dM];omega,λHI lo dl lh lr yI oL hL rL nlh nlr nll=>?_⟩;have kI:∀b o,HC b=some o->b≠p7->b≠p8->HI b=some o:=λb o hb n1 n2=>yI _ _ (kG _ _ hb n1 n2);have nL:∀{b o},HC b=some o->b≠p7->b≠p8->b≠lr/\b≠lh:=λq n1 n2=>⟨aM (kG _ _ q n1 n2) nlr,aM (kG _ _ q n1 n2) nlh⟩;have n9r:=nL u9 n79.symm n89.symm;walk_at"e";refine⟨p9,ex,_,_,rfl,rfl,.inl ⟨fj.of (kI _ _ u9 n79.symm n89.symm),fj.of (kI _ _ d1 nx9.1 nx9.2.1)⟩,Zgn ds,?_⟩;refine⟨false,rfl,?_⟩;walk_at"e";refine⟨.inl ⟨rfl,_,fj.of (kI _ _ u9 n79.symm n89.symm)⟩,?_⟩;walk_at"e";refine⟨by show 3<=sizeLine;decide,λg3 ng3=>?_⟩;have z3:=bY ng3 (.tup [.str "drop",.int 0,.int 1]);generalize upd HI g3 (.tup [.str "drop",.int 0,.int 1])=HJ at z3 ⊢;walk_at"e";refine⟨p9,_,_,rfl,rfl,z3 _ _ (kI _ _ u9 n79.symm n89.symm),by rw[dM,sizeLine_eq];omega,?_⟩;have kI2:∀b o,HI b=some o->b≠p9->upd HJ p9 (.lst (ds.map V.ref++[.ref g3])) b=some o:=λb o hb nb=>by rw[aU nb];exact z3 _ _ hb
 generalize upd HJ p9 (.lst (ds.map V.ref++[.ref g3]))=HM at kI2 ⊢;have kM:∀b o,HC b=some o->b≠p7->b≠p8->b≠p9->HM b=some o:=λb o hb n1 n2 n3=>kI2 _ _ (kI _ _ hb n1 n2) n3;have oLM:=kI2 _ _ oL λz=>by rw[z,kI _ _ u9 n79.symm n89.symm]at oL;cases oL
 have hLM:=kI2 _ _ hL n9r.2.symm;have rLM:=kI2 _ _ rL n9r.1.symm;have Zc0:∀{b vs},HC b=some (.tup vs)->HM b=some (.tup vs):=λq=>kM _ _ q (λz=>by rw[z,u7]at q;cases q) (λz=>by rw[z,u8]at q;cases q) λz=>by rw[z,u9]at q;cases q
 have Zhz:∀{b c d f},HC b=some (.ins c d f)->HM b=some (.ins c d f):=λq=>kM _ _ q (nin q u7) (nin q u8) (nin q u9);have kdM:De X HM ki lk w t:=by
  obtain⟨⟨v1,o1⟩,⟨v2,o2⟩⟩:=kd;exact⟨⟨v1,Zhz o1⟩,⟨v2,o2.imp (λz=>⟨z.1,Zhz z.2⟩) (Or.imp (λz=>⟨z.1,Zhz z.2⟩) λz=>⟨z.1,Zhz z.2⟩)⟩⟩
 have ht:∀{p},HM p=some (.lst (as.map V.ref))->HL HM p hs:=λq=>⟨as,q,a2,λi a ha=>let ⟨y,ey,q⟩:=a3 i a ha;⟨y,ey,Zc0 q⟩⟩;have rt:∀{p},HM p=some (.lst (bs.map V.ref))->RL HM p rs:=λq=>⟨bs,q,b2,λi a ha=>let ⟨y,ey,q⟩:=b3 i a ha;⟨y,ey,Zc0 q⟩⟩;have hlM:=ht (kM _ _ a1 nl.1 nl.2.1 nl.2.2);have Ztr:=ht (kM _ _ e2 q7 q8 q9);have hLL:=ht hLM;have b1M:=kM _ _ b1 nw.1 nw.2.1 nw.2.2;have rlM:=rt b1M;have Zuv:=rt (kM _ _ e3 r7 r8 r9);have elM:RL HM ex es:=⟨ds,kM _ _ d1 nx9.1 nx9.2.1 nx9.2.2,d2,λi a ha=>let ⟨y,ey,q⟩:=d3 i a ha;⟨y,ey,Zc0 q⟩⟩;have scM:=Zhz e1;have rLL:RL HM lr (rs++es):=RL.ZFu rLM b2 d2 (λi a ha=>let ⟨y,ey,q⟩:=b3 i a ha;⟨y,ey,Zc0 q⟩) λi a ha=>let ⟨y,ey,q⟩:=d3 i a ha;⟨y,ey,Zc0 q⟩
 have sHM:dF H HM:=λb o q=>let ⟨n1,n2,n3⟩:=nH b o q;kM _ _ (sH _ _ q) n1 n2 n3
 have nl2:=nL a1 nl.1 nl.2.1;have nw2:=nL b1 nw.1 nw.2.1;have nx2:=nL d1 nx9.1 nx9.2.1;have nh2:=nL e2 q7 q8;have nr2:=nL e3 r7 r8;have nH2:∀b o,H b=some o->b≠lr/\b≠lh:=λb o q=>let ⟨n1,n2,n3⟩:=nH b o q;nL (sH _ _ q) n1 n2
 have b3M:∀(i:Nat) a,bs[i]? =some a->∃r,rs[i]? =some r/\HM a=some (.tup (eY r))/\Vm r:=λi a ha=>let ⟨y,ey,q⟩:=b3 i a ha;⟨y,ey,Zc0 q,Zk1 (rok y (List.mem_of_getElem? ey))⟩
 have e2M:=kM _ _ e2 q7 q8 q9;have e3M:=kM _ _ e3 r7 r8 r9;clear kM Zc0 Zhz ht rt kI kI2 kG nL z3 nH sH a1 b1 d1 a3 b3 d3 u7 u8 u9 e1 e2 e3 hl rl el kd hsc rsc nl nw nx9 q7 q8 q9 r7 r8 r9 n78 n79 n89 n9r oL hL rL yI nlh nlr;walk_at"e";refine⟨x,rfl,dx,m,ki,h2,r2,_,bs,rs,scM,e2M,e3M,b2,by omega,b3M,λHN st dS sh sr bss yN oS hS' rS rrS nsh nsr nss=>?_⟩;have hst:HL HN sh hs:=Ztr.mv yN λys hy=>by rw[e2M]at hy;cases hy;exact hS'
 walk_at"e";refine VB ?_;walk_at"e";refine⟨wv,rfl,⟨_,fj.of (yN _ _ b1M)⟩,Zm5 (yN _ _ b1M) b2 (by omega) (λi a ha=>let ⟨r,er,q,k⟩:=b3M i a ha;⟨r,er,yN _ _ q,k⟩) λdu dus HP ndu yP cdu rdu=>?_⟩;have yMP:=yN.trans yP;obtain⟨cs,c1,c2,c3⟩:=rLL.same yMP;have nsl:sh≠lr/\sh≠lh:=⟨(aM rLM nsh).symm,(aM hLM nsh).symm⟩;have Zv3:sr≠lr/\sr≠lh:=⟨(aM rLM nsr).symm,(aM hLM nsr).symm⟩;have Zv5:du≠lr/\du≠lh:=⟨(aM (yN _ _ rLM) ndu).symm,(aM (yN _ _ hLM) ndu).symm⟩;have Zsi:l≠sr:=let ⟨_,q,_⟩:=id hlM;aM q nsr
 have Zxe:du≠sr:=(aM rS ndu).symm;have sHP:=sHM.trans yMP;have nH3:∀b o,H b=some o->b≠sr:=λb o q=>aM (sHM _ _ q) nsr;have nx3:h2≠sr:=aM e2M nsr;have nx4:r2≠sr:=aM e3M nsr;have nx5:wv≠sr:=aM b1M nsr;have nx6:lh≠sr:=aM hLM nsr;have nx7:lr≠sr:=aM rLM nsr;walk_at"e";refine cV (yMP _ _ oLM) TT.cT TT.Bx lE ?_;walk_at"e";refine⟨.inl ⟨rfl,_,fj.of c1⟩,?_⟩;walk_at"e";refine⟨by show 3<=sizeLine;decide,λg4 ng4=>?_⟩;generalize zz:upd HP g4 _=HQ;obtain⟨z4,v4⟩:=nwO ng4 zz;have v4:HQ g4=some (.tup (eY (mz x0))):=v4;walk_at"e";refine⟨lr,_,_,rfl,rfl,z4 _ _ c1,by rw[dM,c2,List.length_append,sizeLine_eq];omega,?_⟩;have rL5:=RL.add (z4 _ _ c1) c2 (λi a ha=>let ⟨r,e,q⟩:=c3 i a ha;⟨r,e,z4 _ _ q⟩) v4;have kR:∀b o,HP b=some o->b≠lr->upd HQ lr (.lst (cs.map V.ref++[.ref g4])) b=some o:=λb o hb nb=>by rw[aU nb];exact z4 _ _ hb
 generalize upd HQ lr (.lst (cs.map V.ref++[.ref g4]))=HR at rL5 kR ⊢;have oLR:=kR _ _ (yMP _ _ oLM) λz=>by rw[z,rLM]at oLM;cases oLM
 have tR:∀{b vs},HP b=some (.tup vs)->HR b=some (.tup vs):=λq=>kR _ _ q λz=>by rw[z,c1]at q;cases q
 obtain⟨as2,j1,j2,j3⟩:=hLL.same yMP;have j1R:=kR _ _ j1 nll;walk_at"e";refine cV oLR TT.cT TT.wK jY ?_;walk_at"e";refine⟨.inl ⟨rfl,_,fj.of j1R⟩,?_⟩;walk_at"e";refine⟨by show 2<=sizeLine;decide,λg5 ng5=>?_⟩;generalize zz:upd HR g5 _=HT;obtain⟨z5,v5⟩:=nwO ng5 zz;have v5:HT g5=some (.tup [.str (("later",4):Str×Int).1,.int (("later",4):Str×Int).2]):=v5;walk_at"e";refine⟨lh,_,_,rfl,rfl,z5 _ _ j1R,by rw[dM,j2,sizeLine_eq];omega,?_⟩;have hL5:=HL.add (H:=H) (z5 _ _ j1R) j2 (λi a ha=>let ⟨r,e,q⟩:=j3 i a ha;⟨r,e,z5 _ _ (tR q)⟩) v5;have kS:∀b o,HR b=some o->b≠lh->upd HT lh (.lst (as2.map V.ref++[.ref g5])) b=some o:=λb o hb nb=>by rw[aU nb];exact z5 _ _ hb
 generalize upd HT lh (.lst (as2.map V.ref++[.ref g5]))=HS at hL5 kS ⊢;have kP:∀b o,HP b=some o->b≠lr/\b≠lh->HS b=some o:=λb o q ⟨n1,n2⟩=>kS _ _ (kR _ _ q n1) n2;have nk:∀b o,HP b=some o->(∀xs,o≠.lst xs)->HS b=some o:=λb o q no=>kP _ _ q ⟨λz=>by rw[z,c1]at q;cases q;exact no _ rfl,λz=>by rw[z,j1]at q;cases q;exact no _ rfl⟩;have lo5:HS lo=some (.ins aC dl (jt m ki lh lr)):=nk _ _ (yMP _ _ oLM) λxs z=>by cases z
 have rL6:RL HS lr (rs++es++[mz x0]):=RL.kp rL5 nll.symm j1R kS;have sc5:=nk _ _ (yMP _ _ scM) λxs z=>by cases z
 have kd5:=De.nk nk (kdM.same yMP);have hl5:=HL.nk nk (hlM.same yMP) λys q=>kP _ _ q nl2;have hs5:=HL.nk nk (Ztr.same yMP) λys q=>kP _ _ q nh2;have rl5:=RL.nk nk (rlM.same yMP) λys q=>kP _ _ q nw2;have rs5:=RL.nk nk (Zuv.same yMP) λys q=>kP _ _ q nr2;have el5:=RL.nk nk (elM.same yMP) λys q=>kP _ _ q nx2;have st5:=nk _ _ (yP _ _ oS) λxs z=>by cases z
 have ht5:=HL.nk nk (hst.same yP) λys q=>kP _ _ q nsl;have rt5:=RL.nk nk (rrS.same yP) λys q=>kP _ _ q Zv3;have du5:=RL.nk nk rdu λys q=>kP _ _ q Zv5;have sH5:dF H HS:=λb o q=>kP _ _ (sHP _ _ q) (nH2 b o q);have ZFz:=Zsi;obtain⟨y5,hy5,_⟩:=id rt5;clear nk kP kS kR tR z4 z5 rL5 v4 v5 j1 j2 j3 j1R oLR c1 c2 c3 yMP yN yP kdM hlM Ztr rlM Zuv elM oS hst rrS rdu scM oLM hLL rLL sHP sHM nl2 nh2 nw2 nr2 nx2 nsl Zv3 Zv5 nH2 e2M e3M hLM rLM b1M b3M hS' rS cdu;have vr:=ZS (hs:=hs) (rs:=rs) (by omega) rok;have vh:=Zmq (hs:=hs) (by omega);have ZFo:(rs.filter λr=>Hz r).length<=40:=Nat.le_trans (List.length_filter_le _ _) h40;have fok:∀r∈rs.filter λr=>Hz r,FW hs r/\Hz r=true:=λr hr=>let ⟨q1,q2⟩:=List.mem_filter.mp hr;⟨rok r q1,q2⟩
 walk_at"e";refine⟨by show 2<=sizeLine;decide,λg6 ng6=>?_⟩;generalize zz:upd HS g6 _=I1;obtain⟨z6,v6⟩:=nwO ng6 zz;have v6:I1 g6=some (.tup [.str (("later",4):Str×Int).1,.int (("later",4):Str×Int).2]):=v6;walk_at"e";refine⟨by show 1<=sizeLine;decide,λg7 ng7=>?_⟩;generalize zz:upd I1 g7 _=I2;obtain⟨z7,v7⟩:=nwO ng7 zz;refine Zw8 (hl5.same (z6.trans z7)) h5 v7 (z7 _ _ v6) λpa I3 z8 hpa=>?_;have x3:=(z6.trans z7).trans z8;walk_at"e";refine Zk9 (K:=K) (rl5.same x3) (el5.same x3) (by omega) λpb I4 _ z9 hpb=>?_;have x4:=x3.trans z9;walk_at"e";refine⟨by show 3<=sizeLine;decide,λg8 ng8=>?_⟩;generalize zz:upd I4 g8 _=I5;obtain⟨za,v8⟩:=nwO ng8 zz;have v8:I5 g8=some (.tup (eY (mz x0))):=v8;walk_at"e";refine⟨by show 1<=sizeLine;decide,λg9 ng9=>?_⟩;have zb:=bY ng9 (.lst [.ref g8]);have v9:RL (upd I5 g9 (.lst [.ref g8])) g9 [mz x0]:=RL.one aq (zb _ _ v8);generalize upd I5 g9 (.lst [.ref g8])=I6 at zb v9 ⊢;refine Zk9 (K:=K) (hpb.same (za.trans zb)) v9 (by rw[List.length_append];show _+1<=_;omega) λpc I7 _ zc hpc=>?_;have x47:=(za.trans zb).trans zc;have x7:=x4.trans x47;walk_at"e";refine⟨lo,m,_,pa,pc,rfl,dl,ki,lh,lr,lk,w,t,_,_,x7 _ _ lo5,kd5.same x7,t0,t1,rfl,(hL5.same x7).rv,(hpa.same (z9.trans x47)).rv,Zmq (by rw[List.length_append];show _+1<=_;omega),(rL6.same x7).rv,hpc.rv,ZS (hs:=hs) (by rw[List.length_append,List.length_append];show _+1<=_;omega) (λr hr=>?_),λI8 zd=>?_⟩
 ·rcases List.mem_append.mp hr with hr | hr
  ·rcases List.mem_append.mp hr with hr | hr
   ·exact rok r hr
   ·exact eok r hr
  ·rw[List.mem_singleton.mp hr];exact okd
 refine⟨true,rfl,?_⟩;have x8:=x7.trans zd;walk_at"e";refine⟨st,m,_,l,du,rfl,dS,ki,sh,sr,lk,w,t,_,_,x8 _ _ st5,kd5.same x8,t0,t1,rfl,(ht5.same x8).rv,(hl5.same x8).rv,vh,(rt5.same x8).rv,(du5.same x8).rv,ZS (hs:=hs) (by omega) (λr hr=>(fok r hr).1),λI9 ze=>?_⟩;refine⟨true,rfl,?_⟩;have x9:=x8.trans ze;walk_at"e";refine⟨x,m,_,l,wv,rfl,dx,ki,h2,r2,lk,w,t,_,_,x9 _ _ sc5,kd5.same x9,t0,t1,rfl,(hs5.same x9).rv,(hl5.same x9).rv,vh,(rs5.same x9).rv,(rl5.same x9).rv,vr,λIA zf=>?_⟩;refine⟨true,rfl,?_⟩;have xa:=x9.trans zf;walk_at"e";refine⟨st,m,_,l,du,rfl,dS,ki,sh,sr,lk,w,t,hs,_,xa _ _ st5,kd5.same xa,t0,t1,rfl,m0,m1,ht5.same xa,hl5.same xa,ok,rt5.same xa,du5.same xa,ZFo,fok,nss,Zsi,Zxe,λIB kB=>?_⟩;refine⟨true,rfl,?_⟩;have kB':∀b o,HS b=some o->b≠sr->IB b=some o:=λb o q nb=>kB _ _ (xa _ _ q) nb;have nk:∀b o,HS b=some o->(∀xs,o≠.lst xs)->IB b=some o:=λb o q no=>kB' _ _ q λz=>by rw[z,hy5]at q;cases q;exact no _ rfl
 have sc6:=nk _ _ sc5 λxs z=>by cases z
 have lo6:=nk _ _ lo5 λxs z=>by cases z
 have kd6:=De.nk nk kd5;have hl6:=HL.nk nk hl5 λys q=>kB' _ _ q Zsi;have hs6:=HL.nk nk hs5 λys q=>kB' _ _ q nx3;have rl6:=RL.nk nk rl5 λys q=>kB' _ _ q nx5;have rs6:=RL.nk nk rs5 λys q=>kB' _ _ q nx4;have hL6:=HL.nk nk hL5 λys q=>kB' _ _ q nx6;have sH6:dF H IB:=λb o q=>kB' _ _ (sH5 _ _ q) (nH3 b o q);clear nk kB' kB xa x9 x8 x7 x47 x4 x3 z6 z7 z8 z9 za zb zc zd ze zf v6 v7 v8 v9 hpa hpb hpc;obtain⟨ah,j1,j2,_⟩:=id hl6;have fin:∀I,dF IB I->HL I l hs/\fj K I a (ns.map V.int)/\I x=some (.ins aC dx (jt m ki h2 r2))/\De X I ki lk w t/\HL I h2 hs/\RL I r2 rs/\RL I wv rs:=λI y=>⟨hl6.same y,(sH6.trans y).seq hS,y _ _ sc6,kd6.same y,hs6.same y,rs6.same y,rl6.same y⟩;walk_at"e";refine qZ (fj.of j1) ?_;rw[dM,j2];walk_at"e";refine DP (λc5=>?_) (λ_=>?_)
 ·walk_at"e";refine⟨lo,rfl,λ_=>(0,0),1,dl,m,ki,lh,lr,lk,w,t,_,lo6,kd6,hL6,by rw[List.length_append];show _+1<=_;omega,λy hy=>?_,λ_ _=>rfl,by decide,rfl,rfl,λJ1 T1 A w1' tg1 wt1 jw=>?_⟩
  ·rcases List.mem_append.mp hy with hy | hy
   ·exact hb3 y hy
   ·rw[List.mem_singleton.mp hy];decide
  walk_at"e";refine⟨by show 2<=sizeLine;decide,λg6 ng6=>?_⟩;generalize zz:upd J1 g6 _=J2;obtain⟨z6,v6⟩:=nwO ng6 zz;have v6:J2 g6=some (.tup [.str (("later",4):Str×Int).1,.int (("later",4):Str×Int).2]):=v6;walk_at"e";refine⟨by show 1<=sizeLine;decide,λg7 ng7=>?_⟩;generalize zz:upd J2 g7 _=J3;obtain⟨z7,v7⟩:=nwO ng7 zz;refine Zw8 (hl6.same (w1'.trans (z6.trans z7))) h5 v7 (z7 _ _ v6) λpa J4 z8 hpa=>?_;have z14:=(z6.trans z7).trans z8;walk_at"e";refine⟨A.wo,m,_,pa,rfl,T1,1,A,w,t,_,jw.same z14,rfl,t0,t1,rfl,hpa,by rw[List.length_append];show _+1<=_;omega,λy hy=>?_,λJ5 z9=>?_⟩
  ·rcases List.mem_append.mp hy with hy | hy
   ·exact hb3 y hy
   ·rw[List.mem_singleton.mp hy];decide
  refine⟨true,rfl,?_⟩;obtain⟨f1,f2,f3,f4,f5,f6,f7⟩:=fin _ ((w1'.trans z14).trans z9);walk_at"e";refine⟨a,_,rfl,ns,f2,hb,by decide,λc _=>?_⟩;walk_at"e";obtain⟨k,hk⟩:=Int.eq_ofNat_of_zero_le (Int.emod_nonneg c (show(3:Int)≠0 by decide));rw[hk];refine⟨x,m,_,l,k,rfl,dx,ki,h2,r2,lk,w,t,_,f3,f4,t0,t1,rfl,f5,f1,ok.1,h5,hb3,by omega,by omega,λJ6 za=>?_⟩;refine⟨true,rfl,?_⟩;walk_at"e";exact⟨x,m,_,l,wv,rfl,dx,ki,h2,r2,lk,w,t,_,_,za _ _ f3,f4.same za,t0,t1,rfl,(f5.same za).rv,(f1.same za).rv,vh,(f6.same za).rv,(f7.same za).rv,vr,λ_ _=>h _⟩
 ·obtain⟨f1,f2,f3,f4,f5,f6,f7⟩:=fin _ (dF.refl _);walk_at"e";refine⟨a,_,rfl,ns,f2,hb,by decide,λc _=>?_⟩;walk_at"e";obtain⟨k,hk⟩:=Int.eq_ofNat_of_zero_le (Int.emod_nonneg c (show(3:Int)≠0 by decide));rw[hk];refine⟨x,m,_,l,k,rfl,dx,ki,h2,r2,lk,w,t,_,f3,f4,t0,t1,rfl,f5,f1,ok.1,h5,hb3,by omega,by omega,λJ6 za=>?_⟩;refine⟨true,rfl,?_⟩;walk_at"e";exact⟨x,m,_,l,wv,rfl,dx,ki,h2,r2,lk,w,t,_,_,za _ _ f3,f4.same za,t0,t1,rfl,(f5.same za).rv,(f1.same za).rv,vh,(f6.same za).rv,(f7.same za).rv,vr,λ_ _=>h _⟩
end
def top(i:Nat):Stmt:=PySem.Challenge.pw_greywalk_k49_scenes_kept.main.body.getD i (.Pass ⟨0,0,0,0⟩)
abbrev ug:Stmt:=inClass (top 8) 0
abbrev yW:Stmt:=inClass (top 8) 1
abbrev rN:Stmt:=inClass (top 8) 2
abbrev ue:Stmt:=inClass (top 9) 0
abbrev wD:Stmt:=inClass (top 9) 1
abbrev El:Stmt:=inClass (top 9) 2
abbrev Bg:Stmt:=inClass (top 9) 4
abbrev JK:Stmt:=top 10
abbrev Ek:Stmt:=top 11
abbrev uf:Stmt:=inClass (top 13) 0
abbrev qj:Stmt:=inClass (top 14) 0
abbrev rK:Stmt:=inClass (top 15) 0
abbrev Zcz:Stmt:=top 16
abbrev Bb:Stmt:=top 18
abbrev Bc:Stmt:=top 19
abbrev Zcy:Stmt:=top 22
abbrev Eh:Stmt:=top 23
abbrev Zd0:Stmt:=top 24
abbrev rM:Stmt:=inClass (top 29) 0
abbrev Ef:Stmt:=top 30
abbrev Ba:Stmt:=top 31
abbrev W9:Stmt:=top 32
abbrev yV:Stmt:=inClass (top 38) 0
abbrev Bh:Stmt:=inClass (top 39) 0
abbrev Bf:Stmt:=inClass (top 40) 0
abbrev ud:Stmt:=inClass (top 41) 0
abbrev yU:Stmt:=inClass (top 41) 2
abbrev Jw:Stmt:=top 42
abbrev Eg:Stmt:=top 44
abbrev JH:Stmt:=top 45
abbrev Bd:Stmt:=top 46
abbrev xr:Stmt:=top 47
abbrev xu:Stmt:=top 48
abbrev JC:Stmt:=top 49
abbrev Qt:Stmt:=top 50
abbrev Qs:Stmt:=top 51
abbrev JG:Stmt:=top 52
abbrev JF:Stmt:=top 53
abbrev JD:Stmt:=top 54
abbrev Ej:Stmt:=top 55
abbrev Jz:Stmt:=top 56
abbrev JB:Stmt:=top 57
abbrev Jy:Stmt:=top 58
abbrev xx:Stmt:=top 59
abbrev Zrt:Stmt:=top 61
abbrev Ei:Stmt:=top 64
abbrev W8:Stmt:=top 85
abbrev yQ:Stmt:=top 87
abbrev yO:Stmt:=top 88
abbrev Jv:Stmt:=top 89
abbrev Zfl:Stmt:=top 90
abbrev Jx:Stmt:=top 91
abbrev Ju:Stmt:=top 93
abbrev xq:Stmt:=top 94
abbrev u6:Stmt:=top 95
abbrev vm:Stmt:=top 97
abbrev yR:Stmt:=top 98
abbrev Be:Stmt:=top 99
abbrev uc:Stmt:=top 100
abbrev vg:Stmt:=top 101
abbrev vd:Stmt:=top 102
abbrev yS:Stmt:=top 103
abbrev xF:Stmt:=top 104
abbrev vf:Stmt:=top 105
abbrev t8:Stmt:=top 106
abbrev rH:Stmt:=top 107
abbrev qK:Stmt:=top 108
abbrev rJ:Stmt:=top 109
abbrev qL:Stmt:=top 110
abbrev pO:Stmt:=top 111
abbrev Qq:Stmt:=top 112
structure Hh(P:Program)(w:World)(K:aV)(mg:Str->Option Value)(base:Heap)(n:Nat)(f:Addr)(fd:FuncData)(ps:List Str)(sp:Sp):Prop where
 g:uV P w K mg base (G.DY P w) n f fd ps sp
 b:Binds K fd ps []
 k:W.keepIn K (.ref f)=true
theorem hh{P:Program}{w:World}{K:aV}{mg:Str->Option Value}{base:Heap}{n:Nat}{f:Addr}{fd:FuncData}{ps:List Str}{sp:Sp}(g:uV P w K mg base (G.DY P w) n f fd ps sp)(b:Binds K fd ps [])(k:W.keepIn K (.ref f)=true):Hh P w K mg base n f fd ps sp:=⟨g,b,k⟩
abbrev pF(P:Program)(w:World)(K:aV)(mg:Str->Option Value)(base:Heap)(n:Nat)(f:Addr)(fd:FuncData)(ps:List Str)(sp:Sp):Prop:=uV P w K mg base (G.DY P w) n f fd ps sp
theorem mG{X:Cx}{n k:Nat}{f:Addr}{fd:FuncData}{ps:List Str}{sp:Sp}{x:Str}{e:Expr}{es:List Expr}{t:TA}{p pos:Pos}(g0:Hh X.prog X.w X.K X.mg X.base n f fd ps sp)(hr:Room k X.A)(hm:X.mg x=some (.ref f))(ha:PA X (e::es) t)(hn:n<=k:=by decide)(hg:X.env.kindOf x=some .globalImplicit:=by rfl)(hdb:(x == ("__debug__":Str))=false:=by decide)(he:starEach (e::es) X.env=(false,eval e X.env)::starEach es X.env:=by rfl)(hpl:(backTo pos (starEach es X.env)).any (·.1)=false:=by rfl):PE X (.Call (.Name x p) (e::es) [] pos) (dH sp [] E0 t):=sZ g0.g (hr.mono hn) hg hm g0.k g0.b .nil G.jZ ha hdb he hpl
theorem gK{N P:List Str}{sc:Scope}(a:sc.kind=.function:=by rfl)(b:sc.isCoroutine=false:=by rfl)(c:sc.isGenerator=false:=by rfl)(d:N.Nodup:=by decide +kernel)(e:N.take P.length=P:=by rfl)(f:∀x∈P,sc.names.lookup x=some .local\/sc.names.lookup x=some .cell:=by decide +kernel)(g:∀y∈sc.names,y.2≠.free:=by decide +kernel):dz N P sc:=⟨a,b,c,d,e,f,g⟩
structure Txt(w:World)(K:aV)(mg:Str->Option Value)(dY d8 mQ dX gQ aC jX m5 mZ iM bh cU dU dm aH aP aO aL aK aJ aA aF aG aD fU je fX fP jr lN jQ lB gU fQ eZ fJ vQ kZ jN yd j7 ye eX j6 jM rA iZ jR jP fO gD nR gw lA jO iT ir jk kj j9 jq jo jm gR ji jj jg iU Ru mL tH jH jG nQ Cj nT nP iR ig iB iY lq gO iy iu jJ iV iw gM gm fL fW fZ fG:Addr):Prop where
 Qa:G.Zwr K w mg "FORMS" [("make",.ref aH),("get",.ref aP),("put",.ref aO),("copy",.ref aL),("drop",.ref aK),("give",.ref aJ),("write",.ref aA),("read",.ref aF),("name",.ref aG),("seek",.ref aD)]
 bR:G.wj K aH [.str "hand",.str "slot",.str "many",.str "bulk"]
 cM:G.wj K aP [.str "hand",.str "slot",.str "slot",.str "field"]
 cL:G.wj K aO [.str "hand",.str "slot",.str "field",.str "slot"]
 bV:G.wj K aL [.str "hand",.str "slot",.str "slot"]
 bU:G.wj K aK [.str "hand",.str "slot"]
 bT:G.wj K aJ [.str "hand",.str "slot",.str "hand",.str "slot"]
 bH:G.wj K aA [.str "hand",.str "slot",.str "load"]
 bO:G.wj K aF [.str "hand",.str "slot"]
 bQ:G.wj K aG [.str "hand",.str "slot",.str "word"]
 bN:G.wj K aD [.str "hand",.str "slot",.str "word"]
 Vk:G.Tab K w mg "DEEDS" [("make",jk),("get",kj),("put",j9),("copy",jq),("drop",jo),("give",jm),("write",gR),("read",ji),("name",jj),("seek",jg)]
 dB:Ds K dY
 Zlw:mg "Cell"=some (.ref dY)
 Ou:Mk K dY fU
 bJ:dN K dY "birth"
 cQ:dN K dY "bulk"
 cP:dN K dY "tone"
 cJ:dN K dY "load"
 bF:dN K dY "fields"
 dW:G.EqD K dY
 dw:Ds K d8
 Zlt:mg "Heap"=some (.ref d8)
 Oq:Mk K d8 fP
 cN:dN K d8 "room"
 bG:dN K d8 "cells"
 cH:dN K d8 "used"
 cI:dN K d8 "born"
 d7:Ds K mQ
 Zlu:mg "Hand"=some (.ref mQ)
 Ot:Mk K mQ fQ
 cR:dN K mQ "name"
 cG:dN K mQ "slots"
 cY:Ds K dX
 Vt:mg "Sweeper"=some (.ref dX)
 zJ:Mk K dX eZ
 aY:dN K dX "sense"
 aZ:dN K dX "phase"
 bC:dN K dX "grey"
 aR:dN K dX "looked"
 bw:dN K dX "turn"
 cj:dN K dX "at"
 bA:dN K dX "stop"
 aX:dN K dX "walks"
 bf:dN K dX "looks"
 aQ:dN K dX "passes"
 bB:dN K dX "loss"
 dJ:Ds K gQ
 Zfu:mg "World"=some (.ref gQ)
 GJ:Mk K gQ fJ
 cg:dN K gQ "heap"
 bZ:dN K gQ "kind"
 bL:dN K gQ "hands"
 bK:dN K gQ "names"
 aW:dN K gQ "sweeper"
 cT:Ds K aC
 Ov:mg "Scene"=some (.ref aC)
 yp:Mk K aC eX
 cB:dN K aC "room"
 cC:dN K aC "kind"
 bM:dN K aC "hands"
 cu:dN K aC "rows"
 Zbk:Ds K jX
 Zfv:mg "First"=some (.ref jX)
 Vq:G.Mk0 K jX
 Zgi:Ds K m5
 Zlv:mg "Each"=some (.ref m5)
 Zaf:G.Mk0 K m5
 Zgh:Ds K mZ
 Zlr:mg "Last"=some (.ref mZ)
 Zae:G.Mk0 K mZ
 dO:Ds K iM
 Zls:mg "Kind"=some (.ref iM)
 Oo:Mk K iM fO
 bD:dN K iM "looking"
 cF:dN K iM "tells"
 BW:mg "EmptySlot"=some (.ref bh)
 Kr:mg "NoField"=some (.ref cU)
 Ze1:mg "Full"=some (.ref dU)
 QZ:mg "NoName"=some (.ref dm)
 wz:G.Znr K bh
 Wo:G.Znr K dU
 CJ:G.Znr K cU
 FZ:G.Znr K dm
 lR:W.exmOne K (.ref bh) (.ref bh)=some true
 wN:W.exmOne K (.ref dU) (.ref dU)=some true
 oO:W.exmOne K (.ref cU) (.ref cU)=some true
 qb:W.exmOne K (.ref dm) (.ref dm)=some true
 oN:W.exmOne K (.ref dU) (.ref bh)=some false
 pZ:W.exmOne K (.ref dU) (.ref cU)=some false
 lZ:W.exmOne K (.ref cU) (.ref bh)=some false
 mU:W.exmOne K (.ref dm) (.ref bh)=some false
 qU:W.exmOne K (.ref dm) (.ref dU)=some false
 oM:W.exmOne K (.ref dm) (.ref cU)=some false
 Kp:Meth K dY "__init__" fU
 xV:Meth K dY "units" je
 wL:Meth K dY "has_field" fX
 Km:Meth K d8 "__init__" fP
 GR:Meth K d8 "make" jr
 LC:Meth K d8 "lay" lN
 GX:Meth K d8 "free" jQ
 yt:mg "cell_at"=some (.ref lB)
 oY:mg "birth_at"=some (.ref gU)
 Ko:Meth K mQ "__init__" fQ
 Dk:Meth K dX "__init__" eZ
 GK:Meth K gQ "__init__" fJ
 Zdz:mg "held"=some (.ref vQ)
 LK:mg "looked_at"=some (.ref kZ)
 BK:mg "has_sense"=some (.ref jN)
 Zln:mg "note"=some (.ref yd)
 zK:mg "note_all"=some (.ref j7)
 Zlo:mg "gone"=some (.ref ye)
 GP:Meth K aC "__init__" eX
 vM:mg "world_of"=some (.ref j6)
 BJ:mg "with_rows"=some (.ref jM)
 XN:mg "quiet"=some (.ref rA)
 Dy:Meth K jX "word" iZ
 GZ:Meth K m5 "word" jR
 GQ:Meth K mZ "word" jP
 Kl:Meth K iM "__init__" fO
 pW:Meth K iM "words" gD
 Vr:mg "kind_of"=some (.ref nR)
 lH:mg "slots_of"=some (.ref gw)
 yr:mg "cell_in"=some (.ref lA)
 BL:mg "fields_in"=some (.ref jO)
 DG:mg "told_as_old"=some (.ref iT)
 xW:mg "told_as_new"=some (.ref ir)
 Zhp:mg "do_make"=some (.ref jk)
 Zlq:mg "do_get"=some (.ref kj)
 Zlp:mg "do_put"=some (.ref j9)
 Zhs:mg "do_copy"=some (.ref jq)
 Zhr:mg "do_drop"=some (.ref jo)
 Zhq:mg "do_give"=some (.ref jm)
 Ze0:mg "do_write"=some (.ref gR)
 Zhn:mg "do_read"=some (.ref ji)
 Zho:mg "do_name"=some (.ref jj)
 Zhm:mg "do_seek"=some (.ref jg)
 DK:mg "place_named"=some (.ref iU)
 Zso:mg "do"=some (.ref Ru)
 QX:mg "forms_of"=some (.ref mL)
 Zft:mg "tried"=some (.ref tH)
 Hq:mg "tells_loss"=some (.ref jH)
 Ho:mg "tried_deed"=some (.ref jG)
 yq:mg "refused"=some (.ref nQ)
 Zlm:mg "run"=some (.ref Cj)
 Vs:mg "is_lost"=some (.ref nT)
 Kq:mg "written"=some (.ref nP)
 Dz:mg "written_row"=some (.ref iR)
 By:mg "written_part"=some (.ref ig)
 lJ:mg "_law_cell_at"=some (.ref iB)
 zL:mg "_law_whole"=some (.ref iY)
 LQ:mg "_law_safe"=some (.ref lq)
 zX:mg "_law_hands_by"=some (.ref gO)
 BV:mg "_law_kind_by"=some (.ref iy)
 BP:mg "_law_word_by"=some (.ref iu)
 qX:mg "_law_large"=some (.ref jJ)
 xX:mg "_law_row_by"=some (.ref iV)
 BR:mg "_law_text_of"=some (.ref iw)
 zW:mg "_law_same_row"=some (.ref gM)
 sI:mg "_law_same_rows"=some (.ref gm)
 gY:mg "_law_same_scene"=some (.ref fL)
 pJ:mg "_law_new_world"=some (.ref fW)
 wM:mg "_law_asked_anew"=some (.ref fZ)
 uJ:mg "_law_worlds_apart"=some (.ref fG)
 Wn:mg "bool"=none
 wu:mg "enumerate"=none
 Zfh:mg "int"=none
 jF:mg "isinstance"=none
 qC:mg "len"=none
 w6:mg "list"=none
 uL:mg "range"=none
 Dt:mg "str"=none
 Oj:mg "tuple"=none
 UJ:mg "zip"=none
 Zn0:G.GC mg "NEW" (.int 2)
 Zmz:G.GC mg "OLD" (.int 1)
 OJ:G.GC mg "SWEEP" (.str "sweep")
abbrev uB:List Str:=["self","birth","many","bulk","tone"]
abbrev sE:List Str:=["self","field"]
abbrev uz:List Str:=["self","room"]
abbrev Bt:List Str:=["self","many","bulk","tone"]
abbrev Ff:List Str:=["self","cell"]
abbrev uX:List Str:=["heap","place"]
abbrev nA:List Str:=["heap","place"]
abbrev uA:List Str:=["self","name","many"]
abbrev su:List Str:=["self","room","kind","hands"]
abbrev Br:List Str:=["world","hand"]
abbrev wI:List Str:=["world","cell"]
abbrev Zd9:List Str:=["world","place"]
abbrev vD:List Str:=["world","places"]
abbrev Zda:List Str:=["world","place","birth"]
abbrev mX:List Str:=["self","room","kind","hands","rows"]
abbrev wH:List Str:=["scene","more"]
abbrev uy:List Str:=["self","looking","tells"]
abbrev lG:List Str:=["world","hand"]
abbrev uW:List Str:=["world","hand","slot"]
abbrev wJ:List Str:=["world","hand","slot","field"]
abbrev xQ:List Str:=["world","place"]
abbrev tD:List Str:=["world","hand","place"]
abbrev JX:List Str:=["world","deed"]
abbrev QD:List Str:=["world","deed"]
abbrev QC:List Str:=["world","deed"]
abbrev J7:List Str:=["world","deed"]
abbrev J0:List Str:=["world","deed"]
abbrev JZ:List Str:=["world","deed"]
abbrev Fe:List Str:=["world","deed"]
abbrev JV:List Str:=["world","deed"]
abbrev JW:List Str:=["world","deed"]
abbrev JT:List Str:=["world","deed"]
abbrev xR:List Str:=["world","word"]
abbrev Zp5:List Str:=["world","deed"]
abbrev Xn:List Str:=["world","row"]
abbrev zF:List Str:=["events"]
abbrev zE:List Str:=["world","deed"]
abbrev Zl2:List Str:=["scene","most"]
abbrev xP:List Str:=["row","names"]
abbrev vC:List Str:=["form","value","names"]
abbrev vJ:List Str:=["_law_script","_law_k"]
abbrev uN:List Str:=["_law_found"]
abbrev Bs:List Str:=["_law_name"]
abbrev ux:List Str:=["_law_way","_law_cell"]
abbrev vI:List Str:=["_law_cell"]
abbrev vG:List Str:=["_law_cell","_law_way"]
abbrev zG:List Str:=["_law_cell","_law_way","_law_most"]
abbrev xT:List Str:=["_law_cell","_law_k","_law_hands"]
abbrev vH:List Str:=["_law_row","_law_hands"]
abbrev uw:List Str:=["_law_found","_law_due"]
abbrev rZ:List Str:=["_law_found","_law_due"]
abbrev oJ:List Str:=["_law_scene","_law_room","_law_words","_law_hands","_law_weave"]
abbrev pG:List Str:=["_law_world","_law_room","_law_words","_law_hands"]
abbrev qT:List Str:=["_law_scene","_law_room","_law_words","_law_hands","_law_weave"]
abbrev pR:List Str:=["_law_scene","_law_room","_law_words","_law_hands","_law_at"]
theorem Jt:dz ["self","birth","many","bulk","tone"] uB (bI ug):=gK
theorem S5:dz ["self"] ["self"] (bI yW):=gK
theorem Gj:dz ["self","field"] sE (bI rN):=gK
theorem Jr:dz ["self","room"] uz (bI ue):=gK
theorem W5:dz ["self","many","bulk","tone","cell"] Bt (bI wD):=gK
theorem ZQ:dz ["self","cell","place"] Ff (bI El):=gK
theorem W6:dz ["self"] ["self"] (bI Bg):=gK
theorem Zcw:dz ["heap","place"] uX (bI JK):=gK
theorem ZP:dz ["heap","place","cell"] nA (bI Ek):=gK
theorem Js:dz ["self","name","many"] uA (bI uf):=gK
theorem Di:dz ["self"] ["self"] (bI qj):=gK
theorem Gh:dz ["self","room","kind","hands"] su (bI rK):=gK
theorem Zo4:dz ["world"] ["world"] (bI Zcz):=gK
theorem WY:dz ["world","hand"] Br (bI Bb):=gK
theorem W0:dz ["world","cell"] wI (bI Bc):=gK
theorem Zo3:dz ["world","place","sweeper","cell"] Zd9 (bI Zcy):=gK
theorem ZK:dz ["world","places","births","place","birth"] vD (bI Eh):=gK
theorem Zo5:dz ["world","place","birth","cell"] Zda (bI Zd0):=gK
theorem Gi:dz ["self","room","kind","hands","rows"] mX (bI rM):=gK
theorem ZG:dz ["scene"] ["scene"] (bI Ef):=gK
theorem WX:dz ["scene","more"] wH (bI Ba):=gK
theorem Zjv:dz ["scene","rows"] ["scene"] (bI W9):=gK
theorem SX:dz ["self"] ["self"] (bI yV):=gK
theorem W7:dz ["self"] ["self"] (bI Bh):=gK
theorem W4:dz ["self"] ["self"] (bI Bf):=gK
theorem Jq:dz ["self","looking","tells"] uy (bI ud):=gK
theorem SQ:dz ["self","text"] ["self"] (bI yU):=gK
theorem Zcm:dz ["text","looking","tells","kind"] ["text"] (bI Jw):=gK
theorem ZJ:dz ["world","hand"] lG (bI Eg):=gK
theorem Zcv:dz ["world","hand","slot","cell"] uW (bI JH):=gK
theorem W2:dz ["world","hand","slot","field","cell"] wJ (bI Bd):=gK
theorem Qm:dz ["world","place"] xQ (bI xr):=gK
theorem Qn:dz ["world","hand","place"] tD (bI xu):=gK
theorem Zcr:dz ["world","deed","slots","many","bulk","place"] JX (bI JC):=gK
theorem Zh8:dz ["world","deed","hand","source","field","place"] QD (bI Qt):=gK
theorem Zh7:dz ["world","deed","hand","field","fields","old","new","noted"] QC (bI Qs):=gK
theorem Zcu:dz ["world","deed","slots","place"] J7 (bI JG):=gK
theorem Zct:dz ["world","deed","slots","place"] J0 (bI JF):=gK
theorem Zcs:dz ["world","deed","giver","taker","place","noted"] JZ (bI JD):=gK
theorem ZM:dz ["world","deed","cell","before"] Fe (bI Ej):=gK
theorem Zcp:dz ["world","deed","cell"] JV (bI Jz):=gK
theorem Zcq:dz ["world","deed","hand","slot","birth"] JW (bI JB):=gK
theorem Zco:dz ["world","deed","place","noted"] JT (bI Jy):=gK
theorem Qo:dz ["world","word","place","birth"] xR (bI xx):=gK
theorem Zuu:dz ["world","deed","act"] Zp5 (bI Zrt):=gK
theorem ZL:dz ["word"] ["word"] (bI Ei):=gK
theorem Zju:dz ["world","row"] Xn (bI W8):=gK
theorem SJ:dz ["events"] zF (bI yQ):=gK
theorem Sy:dz ["world","deed"] zE (bI yO):=gK
theorem Zcl:dz ["word"] ["word"] (bI Jv):=gK
theorem Zrr:dz ["scene","most","world","log","row"] Zl2 (bI Zfl):=gK
theorem Zcn:dz ["log"] ["log"] (bI Jx):=gK
theorem Zck:dz ["scene","names","room","words","rows"] ["scene"] (bI Ju):=gK
theorem Ql:dz ["row","names","word","parts"] xP (bI xq):=gK
theorem Nr:dz ["form","value","names"] vC (bI u6):=gK
theorem Nx:dz ["_law_script","_law_k"] vJ (bI vm):=gK
theorem SM:dz ["_law_found"] uN (bI yR):=gK
theorem W3:dz ["_law_name"] Bs (bI Be):=gK
theorem Jp:dz ["_law_way","_law_cell","_law_letters","_law_size","_law_hands","_law_h","_law_name","_law_k","_law_far"] ux (bI uc):=gK
theorem Nv:dz ["_law_cell","_law_words"] vI (bI vg):=gK
theorem Nt:dz ["_law_cell","_law_way","_law_letters","_law_text","_law_k"] vG (bI vd):=gK
theorem SN:dz ["_law_cell","_law_way","_law_most"] zG (bI yS):=gK
theorem Qp:dz ["_law_cell","_law_k","_law_hands","_law_way","_law_other","_law_h","_law_g","_law_s","_law_t","_law_f","_law_load","_law_word"] xT (bI xF):=gK
theorem Nu:dz ["_law_row","_law_hands","_law_text","_law_k","_law_part"] vH (bI vf):=gK
theorem Jo:dz ["_law_found","_law_due","_law_one","_law_other"] uw (bI t8):=gK
theorem Gf:dz ["_law_found","_law_due","_law_one","_law_other"] rZ (bI rH):=gK
theorem Ec:dz ["_law_scene","_law_room","_law_words","_law_hands","_law_weave"] oJ (bI qK):=gK
theorem Gg:dz ["_law_world","_law_room","_law_words","_law_hands"] pG (bI rJ):=gK
theorem Ed:dz ["_law_scene","_law_room","_law_words","_law_hands","_law_weave","_law_log","_law_text","_law_more","_law_found"] qT (bI qL):=gK
theorem Az:dz ["_law_scene","_law_room","_law_words","_law_hands","_law_at","_law_world","_law_event","_law_other"] pR (bI pO):=gK
theorem Zrs:dz ["_law_script","_law_way","_law_hands","_law_room","_law_words","_law_weave","_law_extra","_law_handed_hands","_law_handed_rows","_law_handed_more","_law_scene","_law_longer","_law_still","_law_due"] ["_law_script"] (bI Qq):=gK
section
variable {X:Cx}
theorem mR{a b:Expr}{ta tb:TE}{pos:Pos}{r:R2}(hr:IxR X r)(ha:PE X a ta)(hb:PE X b tb)(hs:Zgr b:=by exact λ_ _=>rfl):PE X (.Subscript a b pos) (dG r ta tb):=Zuz hr ha hb hs
theorem pdg{o i:Expr}{td ty:TE}{pos:Pos}{k:Nat}(hr:Room k X.A)(ho:PE X o td)(hi:PE X i ty)(hs:Zr4 i:=by exact λ_ _=>rfl):PE X (.Subscript o i pos) (Zx td ty):=Zp4 (HH hr) ho hi hs
theorem rD{a b:Expr}{ta tb:TE}{pos:Pos}{op:CmpOp}{r:R2}(ho:Ad X (compareOp op) r)(ha:PE X a ta)(hb:PE X b tb)(hm:behindInMarks op b=false:=by exact xU _):PT X (.Compare a [op] [b] pos) (fD (dG r ta tb)):=Zol ho ha hb hm
theorem kY(i:Nat){x:Str}{e:Expr}{te:TE}{pos' pos:Pos}(hN:X.N.Nodup)(he:PE X e te)(hi:X.N[i]? =some x:=by rfl)(hx:Loc X.env.scope x:=by exact Or.inl rfl)(hs:swapsWith e (some (.Name x pos')) pos.line X.env=pure false:=by rfl)(hf:X.fn x=true\/X.env.scope.names.lookup x=some .local:=by first | exact .inl rfl | exact .inr rfl | assumption):PS X (.Assign [.Name x pos'] e pos) (eE te (cX i)):=Zd5 hN hi hx he hs hf
end
structure PAw(X:Cx)(es:List Expr)(t:TA):Prop where
 h:PA X es t
structure PSw(X:Cx)(st:List Stmt)(t:TS):Prop where
 h:R1 X st t
structure PPw(X:Cx)(pos:Pos)(keys:List (Option Expr))(values:List Expr)(trs:List (TE×TE)):Prop where
 h:PPs X pos keys values trs
structure PEw(X:Cx)(e:Expr)(t:TE):Prop where
 h:PE X e t
section
variable {X:Cx}
theorem oX{st rest t u}(h1:PS X st t)(h2:PSw X rest u):PSw X (st::rest) (di t u):=⟨au h1 h2.h⟩
theorem Zom{st t}(h1:PS X st t):PSw X [st] t:=⟨bu h1⟩
end
open PySem.Spec PyProof.Rows in
theorem ZFk{P:Program}{w:World}{K:aV}{mg:Str->Option Value}{base:Heap}{x qual:Str}{st:Stmt}{f:Addr}{fd:FuncData}{N ps:List Str}{sp:Sp}{k:Nat}(F:m6 K x qual st f fd)(S:dz N ps (bI st))(len:∀vs H Q E,sp vs H Q E->vs.length=ps.length)
  (hbody:∀(cdv:Value) (A:Around) (outer:List Env) (s:Shared) (H:Hp) (vs:List V) (Q:VK) (E:XK),Room k (A.deeper (envOfC qual (bI st) s.heap.objs.size f cdv))->sp vs H Q E->
   ∃t,PSw (Cm (DY P w) P w K mg base N qual (bI st) f cdv A outer s H E).nox (jU st) t/\t { nx:=λ_ H'=>Q .non H',rt:=Q } (start N vs) H):uV P w K mg base (DY P w) (k+1) f fd ps sp:=
 G.fok F S len λcdv A outer s H vs Q E hr h=>let ⟨t,p,q⟩:=hbody cdv A outer s H vs Q E hr h;⟨t,p.h,q⟩
set_option hygiene false in
local macro_rules | `(tactic| walk_at "ok")=>`(tactic| (refine G.fok F sc (λvs H Q E h=>?_) (λcdv A outer s H vs Q E hr h=>?_);· (first | (obtain ⟨_,rfl,_⟩:=h;rfl) | (obtain ⟨_,_,rfl,_⟩:=h;rfl) | (obtain ⟨_,_,_,rfl,_⟩:=h;rfl) | (obtain ⟨_,_,_,_,rfl,_⟩:=h;rfl) | (obtain ⟨_,_,_,_,_,rfl,_⟩:=h;rfl) | (obtain ⟨_,_,_,_,_,_,rfl,_⟩:=h;rfl) | (obtain ⟨_,_,_,_,_,_,_,rfl,_⟩:=h;rfl))))
set_option hygiene false in
local macro_rules | `(tactic| walk_at "okw")=>`(tactic| (refine ZFk F sc (λvs H Q E h=>?_) (λcdv A outer s H vs Q E hr h=>?_);· (first | (obtain ⟨_,rfl,_⟩:=h;rfl) | (obtain ⟨_,_,rfl,_⟩:=h;rfl) | (obtain ⟨_,_,_,rfl,_⟩:=h;rfl) | (obtain ⟨_,_,_,_,rfl,_⟩:=h;rfl) | (obtain ⟨_,_,_,_,_,rfl,_⟩:=h;rfl) | (obtain ⟨_,_,_,_,_,_,rfl,_⟩:=h;rfl) | (obtain ⟨_,_,_,_,_,_,_,rfl,_⟩:=h;rfl))))
set_option hygiene false in
local macro_rules | `(tactic| walk_at "okX")=>`(tactic| (refine G.ZFl F sc (λvs H Q E h=>?_) (λcdv A outer s H vs Q E hr h=>?_);· (first | (obtain ⟨_,rfl,_⟩:=h;rfl) | (obtain ⟨_,_,rfl,_⟩:=h;rfl) | (obtain ⟨_,_,_,rfl,_⟩:=h;rfl) | (obtain ⟨_,_,_,_,rfl,_⟩:=h;rfl) | (obtain ⟨_,_,_,_,_,rfl,_⟩:=h;rfl) | (obtain ⟨_,_,_,_,_,_,rfl,_⟩:=h;rfl) | (obtain ⟨_,_,_,_,_,_,_,rfl,_⟩:=h;rfl))))
set_option hygiene false in
local macro_rules | `(tactic| walk_at "okD")=>`(tactic| (refine G.ZFn F sc (λvs H Q E h=>?_) (λcdv A outer s H vs Q E hr h=>?_);· (first | (obtain ⟨_,rfl,_⟩:=h;rfl) | (obtain ⟨_,_,rfl,_⟩:=h;rfl) | (obtain ⟨_,_,_,rfl,_⟩:=h;rfl) | (obtain ⟨_,_,_,_,rfl,_⟩:=h;rfl) | (obtain ⟨_,_,_,_,_,rfl,_⟩:=h;rfl) | (obtain ⟨_,_,_,_,_,_,rfl,_⟩:=h;rfl) | (obtain ⟨_,_,_,_,_,_,_,rfl,_⟩:=h;rfl))))
set_option hygiene false in
local macro_rules | `(tactic| walk_at "okDX")=>`(tactic| (refine G.Zwc F sc (λvs H Q E h=>?_) (λcdv A outer s H vs Q E hr h=>?_);· (first | (obtain ⟨_,rfl,_⟩:=h;rfl) | (obtain ⟨_,_,rfl,_⟩:=h;rfl) | (obtain ⟨_,_,_,rfl,_⟩:=h;rfl) | (obtain ⟨_,_,_,_,rfl,_⟩:=h;rfl) | (obtain ⟨_,_,_,_,_,rfl,_⟩:=h;rfl) | (obtain ⟨_,_,_,_,_,_,rfl,_⟩:=h;rfl) | (obtain ⟨_,_,_,_,_,_,_,rfl,_⟩:=h;rfl))))
section
variable (P:Program){w:World}{K:aV}{mg:Str->Option Value}(base:Heap){aC bh cU dU dm aH aP aO aL aK aJ aA aF aG aD fU je fX fP jr lN jQ lB gU fQ eZ fJ vQ kZ jN yd j7 ye eX j6 jM rA iZ jR jP fO gD nR gw lA jO iT ir jk kj j9 jq jo jm gR ji jj jg iU Ru mL tH jH jG nQ Cj nT nP iR ig iB iY lq gO iy iu jJ iV iw gM gm fL fW fZ fG:Addr}(XQ:Cs)(T:Txt w K mg XQ.C XQ.H XQ.D XQ.S XQ.W aC XQ.F XQ.E XQ.L XQ.K bh cU dU dm aH aP aO aL aK aJ aA aF aG aD fU je fX fP jr lN jQ lB gU fQ eZ fJ vQ kZ jN yd j7 ye eX j6 jM rA iZ jR jP fO gD nR gw lA jO iT ir jk kj j9 jq jo jm gR ji jj jg iU Ru mL tH jH jG nQ Cj nT nP iR ig iB iY lq gO iy iu jJ iV iw gM gm fL fW fZ fG)
include T
theorem Ke{fd:FuncData}(F:m6 K "__init__" "Cell.__init__" ug fU fd):pF P w K mg base 1 fU fd uB (wZ XQ.C):=by
 have sc:=Jt;have tx:qd K XQ aC aL aK aP aJ aH aG aO aF aD aA:=⟨T.bV,T.bU,T.cM,T.bT,T.bR,T.bQ,T.cL,T.bO,T.bN,T.bH,⟨⟨T.dB,T.bJ,T.cQ,T.cP,T.cJ,T.bF,T.dw,T.cN,T.bG,T.cH,T.cI,T.dW⟩,T.dJ,T.cg,T.bZ,T.bL,T.bK,T.aW,T.d7,T.cR,T.cG,T.dO,T.bD,T.cF,T.cY,T.aY,T.aZ,T.bC,T.aR,T.bw,T.cj,T.bA,T.aX,T.bf,T.aQ,T.bB⟩,T.cT,T.cB,T.cC,T.bM,T.cu⟩;walk_at "ok"
 ·refine⟨rW K,(au (gq (pv 0) (pv 1) rfl)
   (au (gq (pv 0) (pv 3) rfl)
   (au (gq (pv 0) (pv 4) rfl)
   (au (gq (pv 0) (aN) rfl)
   (bu (gq (pv 0) (dj Zdb (gj (aa (nY) aB)) (pv 2)) rfl)))))),?_⟩
  obtain⟨z0,z1,z2,z3,z4,rfl,q⟩:=h;exact Lr tx.w.c q
theorem Te{fd:FuncData}(F:m6 K "units" "Cell.units" yW je fd):pF P w K mg base 1 je fd ["self"] (uR XQ.C):=by
 have sc:=S5;have tx:qd K XQ aC aL aK aP aJ aH aG aO aF aD aA:=⟨T.bV,T.bU,T.cM,T.bT,T.bR,T.bQ,T.cL,T.bO,T.bN,T.bH,⟨⟨T.dB,T.bJ,T.cQ,T.cP,T.cJ,T.bF,T.dw,T.cN,T.bG,T.cH,T.cI,T.dW⟩,T.dJ,T.cg,T.bZ,T.bL,T.bK,T.aW,T.d7,T.cR,T.cG,T.dO,T.bD,T.cF,T.cY,T.aY,T.aZ,T.bC,T.aR,T.bw,T.cj,T.bA,T.aX,T.bf,T.aQ,T.bB⟩,T.cT,T.cB,T.cC,T.bM,T.cu⟩;walk_at "ok"
 ·refine⟨xN K,(bu (dg (dj ju (dj ju (aN) (gB G.iH (by rfl) T.qC G.boot_len (aa (cZ (pv 0) rfl) aB))) (cZ (pv 0) rfl)))),?_⟩;obtain⟨z0,rfl,q⟩:=h;exact Uy tx.w.c q
theorem Gz{fd:FuncData}(F:m6 K "has_field" "Cell.has_field" rN fX fd):pF P w K mg base 1 fX fd sE (wR XQ):=by
 have sc:=Gj;have tx:qd K XQ aC aL aK aP aJ aH aG aO aF aD aA:=⟨T.bV,T.bU,T.cM,T.bT,T.bR,T.bQ,T.cL,T.bO,T.bN,T.bH,⟨⟨T.dB,T.bJ,T.cQ,T.cP,T.cJ,T.bF,T.dw,T.cN,T.bG,T.cH,T.cI,T.dW⟩,T.dJ,T.cg,T.bZ,T.bL,T.bK,T.aW,T.d7,T.cR,T.cG,T.dO,T.bD,T.cF,T.cY,T.aY,T.aZ,T.bC,T.aR,T.bw,T.cj,T.bA,T.aX,T.bf,T.aQ,T.bB⟩,T.cT,T.cB,T.cC,T.bM,T.cu⟩;walk_at "ok"
 ·refine⟨qR K,(bu (dg (Zkz Zv0 Zfs (aN) (pv 1) (gB G.iH (by rfl) T.qC G.boot_len (aa (cZ (pv 0) rfl) aB))))),?_⟩;obtain⟨z0,z1,rfl,q⟩:=h;exact Iw tx.w q
theorem Kc{fd:FuncData}(F:m6 K "__init__" "Heap.__init__" ue fP fd):pF P w K mg base 1 fP fd uz (wW XQ.H):=by
 have sc:=Jr;have tx:qd K XQ aC aL aK aP aJ aH aG aO aF aD aA:=⟨T.bV,T.bU,T.cM,T.bT,T.bR,T.bQ,T.cL,T.bO,T.bN,T.bH,⟨⟨T.dB,T.bJ,T.cQ,T.cP,T.cJ,T.bF,T.dw,T.cN,T.bG,T.cH,T.cI,T.dW⟩,T.dJ,T.cg,T.bZ,T.bL,T.bK,T.aW,T.d7,T.cR,T.cG,T.dO,T.bD,T.cF,T.cY,T.aY,T.aZ,T.bC,T.aR,T.bw,T.cj,T.bA,T.aX,T.bf,T.aQ,T.bB⟩,T.cT,T.cB,T.cC,T.bM,T.cu⟩;walk_at "ok"
 ·refine⟨rR K,(au (gq (pv 0) (pv 1) rfl)
   (au (gq (pv 0) (gj aB) rfl)
   (au (gq (pv 0) (aN) rfl)
   (bu (gq (pv 0) (aN) rfl))))),?_⟩
  obtain⟨z0,z1,rfl,q⟩:=h;exact Le tx.w.c q
theorem Xx{fd:FuncData}{K7 Uo YS Zb6:FuncData}(F:G.Znq K "make" "Heap.make" wD jr fd)(Ah:Hh P w K mg base 1 fU K7 uB (wZ XQ.C))(uU:Hh P w K mg base 1 je Uo ["self"] (uR XQ.C))(Mp:Hh P w K mg base 1 jQ YS ["self"] (wX XQ.H))(RW:Hh P w K mg base 1 lN Zb6 Ff (zT K XQ.H)):pF P w K mg base 3 jr fd Bt (wV K XQ.C XQ.H dU):=by
 have sc:=W5;have tx:qd K XQ aC aL aK aP aJ aH aG aO aF aD aA:=⟨T.bV,T.bU,T.cM,T.bT,T.bR,T.bQ,T.cL,T.bO,T.bN,T.bH,⟨⟨T.dB,T.bJ,T.cQ,T.cP,T.cJ,T.bF,T.dw,T.cN,T.bG,T.cH,T.cI,T.dW⟩,T.dJ,T.cg,T.bZ,T.bL,T.bK,T.aW,T.d7,T.cR,T.cG,T.dO,T.bD,T.cF,T.cY,T.aY,T.aZ,T.bC,T.aR,T.bw,T.cj,T.bA,T.aX,T.bf,T.aQ,T.bB⟩,T.cT,T.cB,T.cC,T.bM,T.cu⟩;walk_at "okDX"
 ·refine⟨zq K XQ.C dU XQ.H (wZ XQ.C) (uR XQ.C) (wX XQ.H) (zT K XQ.H) E,(au (kY 4 sc.nd (wG T.Ou Ah.g (hr.mono (by decide)) rfl T.Zlw Ah.b .nil G.jZ (aa (dj ju (cZ (pv 0) rfl) (aN)) (aa (pv 1) (aa (pv 2) (aa (pv 3) aB))))))
   (au (fY (rD Zl5 (pU (pv 4) T.dB T.xV uU.g (hr.mono (by decide)) uU.b .nil G.jZ) (pU (pv 0) T.dw T.GX Mp.g (hr.mono (by decide)) Mp.b .nil G.jZ)) (bu (G.Gp rfl rfl T.Ze1 T.Wo (aa (dI) aB) (λ_ _ _ _ _ _ _ I hx hE=>G.Xe I hx hE))) dZ)
   (au (gq (pv 0) (cZ (pv 4) rfl) rfl)
   (au (gq (pv 0) (dj ju (cZ (pv 0) rfl) (pU (pv 4) T.dB T.xV uU.g (hr.mono (by decide)) uU.b .nil G.jZ)) rfl)
   (bu (dg (Xl (pv 0) T.dw T.LC RW.g (hr.mono (by decide)) RW.b .nil G.jZ (aa (pv 4) aB)))))))),?_⟩
  obtain⟨z0,z1,z2,z3,rfl,q⟩:=h;exact Ze tx.w.c q
theorem Za1{fd:FuncData}(F:m6 K "lay" "Heap.lay" El lN fd):pF P w K mg base 1 lN fd Ff (zT K XQ.H):=by
 have sc:=ZQ;have tx:qd K XQ aC aL aK aP aJ aH aG aO aF aD aA:=⟨T.bV,T.bU,T.cM,T.bT,T.bR,T.bQ,T.cL,T.bO,T.bN,T.bH,⟨⟨T.dB,T.bJ,T.cQ,T.cP,T.cJ,T.bF,T.dw,T.cN,T.bG,T.cH,T.cI,T.dW⟩,T.dJ,T.cg,T.bZ,T.bL,T.bK,T.aW,T.d7,T.cR,T.cG,T.dO,T.bD,T.cF,T.cY,T.aY,T.aZ,T.bC,T.aR,T.bw,T.cj,T.bA,T.aX,T.bf,T.aQ,T.bB⟩,T.cT,T.cB,T.cC,T.bM,T.cu⟩;walk_at "ok"
 ·refine⟨Bq K,(au (fY (rD (G.Zhg (HH hr)) (nY) (cZ (pv 0) rfl) (by with_unfolding_all rfl)) (au (oG (rE PySem.F.plainAttrs_list PySem.F.slot_list_append PySem.F.type_list_append lz (cZ (pv 0) rfl) (aa (pv 1) aB)))
   (bu (dg (dj QF (gB G.iH (by rfl) T.qC G.boot_len (aa (cZ (pv 0) rfl) aB)) (aN))))) dZ)
   (au (kY 2 sc.nd (rE PySem.F.plainAttrs_list PySem.F.slot_list_index PySem.F.type_list_index (G.Zhk (HH hr)) (cZ (pv 0) rfl) (aa (nY) aB)))
   (au (zy (pv 1) (zA (cZ (pv 0) rfl) (pv 2) set_list))
   (bu (dg (pv 2)))))),?_⟩
  obtain⟨z0,z1,rfl,q⟩:=h;exact Zbt tx.w.c q
theorem Xy{fd:FuncData}(F:m6 K "free" "Heap.free" Bg jQ fd):pF P w K mg base 1 jQ fd ["self"] (wX XQ.H):=by
 have sc:=W6;have tx:qd K XQ aC aL aK aP aJ aH aG aO aF aD aA:=⟨T.bV,T.bU,T.cM,T.bT,T.bR,T.bQ,T.cL,T.bO,T.bN,T.bH,⟨⟨T.dB,T.bJ,T.cQ,T.cP,T.cJ,T.bF,T.dw,T.cN,T.bG,T.cH,T.cI,T.dW⟩,T.dJ,T.cg,T.bZ,T.bL,T.bK,T.aW,T.d7,T.cR,T.cG,T.dO,T.bD,T.cF,T.cY,T.aY,T.aZ,T.bC,T.aR,T.bw,T.cj,T.bA,T.aX,T.bf,T.aQ,T.bB⟩,T.cT,T.cB,T.cC,T.bM,T.cu⟩;walk_at "ok"
 ·refine⟨zu K,(bu (dg (dj QF (cZ (pv 0) rfl) (cZ (pv 0) rfl)))),?_⟩;obtain⟨z0,rfl,q⟩:=h;exact Zf tx.w.c q
theorem Zdr{fd:FuncData}(F:m6 K "cell_at" "cell_at" JK lB fd):pF P w K mg base 1 lB fd uX (lD XQ.H):=by
 have sc:=Zcw;have tx:qd K XQ aC aL aK aP aJ aH aG aO aF aD aA:=⟨T.bV,T.bU,T.cM,T.bT,T.bR,T.bQ,T.cL,T.bO,T.bN,T.bH,⟨⟨T.dB,T.bJ,T.cQ,T.cP,T.cJ,T.bF,T.dw,T.cN,T.bG,T.cH,T.cI,T.dW⟩,T.dJ,T.cg,T.bZ,T.bL,T.bK,T.aW,T.d7,T.cR,T.cG,T.dO,T.bD,T.cF,T.cY,T.aY,T.aZ,T.bC,T.aR,T.bw,T.cj,T.bA,T.aX,T.bf,T.aQ,T.bB⟩,T.cT,T.cB,T.cC,T.bM,T.cu⟩;walk_at "ok"
 ·refine⟨Fb K,(au (fY (PW.pt (qF (rD G.Gu (pv 1) (nY)) (qF (rD Zfs (pv 1) (aN)) (rY (rD Zv1 (pv 1) (gB G.iH (by rfl) T.qC G.boot_len (aa (cZ (pv 0) rfl) aB))))))) (bu (dg (nY))) dZ)
   (bu (dg (mR gP (cZ (pv 0) rfl) (pv 1))))),?_⟩
  obtain⟨z0,z1,rfl,q⟩:=h;exact Zf7 tx.w q
theorem Za0{fd:FuncData}(F:m6 K "birth_at" "birth_at" Ek gU fd){qw:FuncData}(sW:Hh P w K mg base 1 lB qw uX (lD XQ.H)):pF P w K mg base 2 gU fd nA (fH XQ):=by
 have sc:=ZP;have tx:qd K XQ aC aL aK aP aJ aH aG aO aF aD aA:=⟨T.bV,T.bU,T.cM,T.bT,T.bR,T.bQ,T.cL,T.bO,T.bN,T.bH,⟨⟨T.dB,T.bJ,T.cQ,T.cP,T.cJ,T.bF,T.dw,T.cN,T.bG,T.cH,T.cI,T.dW⟩,T.dJ,T.cg,T.bZ,T.bL,T.bK,T.aW,T.d7,T.cR,T.cG,T.dO,T.bD,T.cF,T.cY,T.aY,T.aZ,T.bC,T.aR,T.bw,T.cj,T.bA,T.aX,T.bf,T.aQ,T.bB⟩,T.cT,T.cB,T.cC,T.bM,T.cu⟩;walk_at "ok"
 ·refine⟨Bp K (lD XQ.H),(au (kY 2 sc.nd (mG sW hr T.yt (aa (pv 0) (aa (pv 1) aB))))
   (au (fY (rD G.Gu (pv 2) (nY)) (bu (dg (nY))) dZ)
   (bu (dg (cZ (pv 2) rfl))))),?_⟩
  obtain⟨z0,z1,rfl,q⟩:=h;exact Zbn tx.w q
theorem Kd{fd:FuncData}(F:m6 K "__init__" "Hand.__init__" uf fQ fd):pF P w K mg base 1 fQ fd uA (wY XQ.D):=by
 have sc:=Js;have tx:qd K XQ aC aL aK aP aJ aH aG aO aF aD aA:=⟨T.bV,T.bU,T.cM,T.bT,T.bR,T.bQ,T.cL,T.bO,T.bN,T.bH,⟨⟨T.dB,T.bJ,T.cQ,T.cP,T.cJ,T.bF,T.dw,T.cN,T.bG,T.cH,T.cI,T.dW⟩,T.dJ,T.cg,T.bZ,T.bL,T.bK,T.aW,T.d7,T.cR,T.cG,T.dO,T.bD,T.cF,T.cY,T.aY,T.aZ,T.bC,T.aR,T.bw,T.cj,T.bA,T.aX,T.bf,T.aQ,T.bB⟩,T.cT,T.cB,T.cC,T.bM,T.cu⟩;walk_at "ok"
 ·refine⟨rT K,(au (gq (pv 0) (pv 1) rfl)
   (bu (gq (pv 0) (dj Zdb (gj (aa (nY) aB)) (pv 2)) rfl))),?_⟩
  obtain⟨z0,z1,z2,rfl,q⟩:=h;exact Lf tx.w q
theorem Dj{fd:FuncData}(F:m6 K "__init__" "Sweeper.__init__" qj eZ fd):pF P w K mg base 1 eZ fd ["self"] (rC XQ.S):=by
 have sc:=Di;have tx:qd K XQ aC aL aK aP aJ aH aG aO aF aD aA:=⟨T.bV,T.bU,T.cM,T.bT,T.bR,T.bQ,T.cL,T.bO,T.bN,T.bH,⟨⟨T.dB,T.bJ,T.cQ,T.cP,T.cJ,T.bF,T.dw,T.cN,T.bG,T.cH,T.cI,T.dW⟩,T.dJ,T.cg,T.bZ,T.bL,T.bK,T.aW,T.d7,T.cR,T.cG,T.dO,T.bD,T.cF,T.cY,T.aY,T.aZ,T.bC,T.aR,T.bw,T.cj,T.bA,T.aX,T.bf,T.aQ,T.bB⟩,T.cT,T.cB,T.cC,T.bM,T.cu⟩;walk_at "ok"
 ·refine⟨pP K,(au (gq (pv 0) (aN) rfl)
   (au (gq (pv 0) (dI) rfl)
   (au (gq (pv 0) (gj aB) rfl)
   (au (gq (pv 0) (aN) rfl)
   (au (gq (pv 0) (aN) rfl)
   (au (gq (pv 0) (aN) rfl)
   (au (gq (pv 0) (aN) rfl)
   (au (gq (pv 0) (aN) rfl)
   (au (gq (pv 0) (aN) rfl)
   (au (gq (pv 0) (aN) rfl)
   (bu (gq (pv 0) (nY) rfl)))))))))))),?_⟩
  obtain⟨z0,rfl,q⟩:=h;exact Dn tx.w q
theorem Gx{fd:FuncData}{K6 K5 Dl:FuncData}(F:m6 K "__init__" "World.__init__" rK fJ fd)(Ag:Hh P w K mg base 1 fQ K6 uA (wY XQ.D))(Af:Hh P w K mg base 1 fP K5 uz (wW XQ.H))(vY:Hh P w K mg base 1 eZ Dl ["self"] (rC XQ.S)):pF P w K mg base 3 fJ fd su (uQ XQ):=by
 have sc:=Gh;have tx:qd K XQ aC aL aK aP aJ aH aG aO aF aD aA:=⟨T.bV,T.bU,T.cM,T.bT,T.bR,T.bQ,T.cL,T.bO,T.bN,T.bH,⟨⟨T.dB,T.bJ,T.cQ,T.cP,T.cJ,T.bF,T.dw,T.cN,T.bG,T.cH,T.cI,T.dW⟩,T.dJ,T.cg,T.bZ,T.bL,T.bK,T.aW,T.d7,T.cR,T.cG,T.dO,T.bD,T.cF,T.cY,T.aY,T.aZ,T.bC,T.aR,T.bw,T.cj,T.bA,T.aX,T.bf,T.aQ,T.bB⟩,T.cT,T.cB,T.cC,T.bM,T.cu⟩;walk_at "ok"
 ·refine⟨qP K XQ.D XQ.H XQ.S (wY XQ.D) (wW XQ.H) (rC XQ.S),(au (gq (pv 0) (wG T.Oq Af.g (hr.mono (by decide)) rfl T.Zlt Af.b .nil G.jZ (aa (pv 1) aB)) rfl)
   (au (gq (pv 0) (pv 2) rfl)
   (au (gq (pv 0) (G.JR (cns:=[]) [] (oH (pv 3)) (λ_ _ _ _ _=>G.uv) (λ_ _ _ _ _=>(wG T.Ot Ag.g (hr.mono (by decide)) rfl T.Zlu Ag.b .nil G.jZ (aa (pv 0) (aa (pv 1) aB)))) rfl rfl (by repeat (first | exact trivial | refine⟨rfl,?_⟩)) (by repeat (first | exact trivial | refine⟨rfl,?_⟩)) rfl (by decide +kernel) rfl (by decide +kernel) (by decide +kernel) rfl rfl (by decide +kernel)) rfl)
   (au (gq (pv 0) (Z3) rfl)
   (bu (gq (pv 0) (Zku T.zJ vY.g (hr.mono (by decide)) rfl T.Vt vY.b .nil G.jZ) rfl)))))),?_⟩
  obtain⟨z0,z1,z2,z3,rfl,q⟩:=h;exact Ik tx.w q
theorem Zpc{fd:FuncData}(F:m6 K "held" "held" Zcz vQ fd):pF P w K mg base 1 vQ fd ["world"] (FP XQ):=by
 have sc:=Zo4;have tx:qd K XQ aC aL aK aP aJ aH aG aO aF aD aA:=⟨T.bV,T.bU,T.cM,T.bT,T.bR,T.bQ,T.cL,T.bO,T.bN,T.bH,⟨⟨T.dB,T.bJ,T.cQ,T.cP,T.cJ,T.bF,T.dw,T.cN,T.bG,T.cH,T.cI,T.dW⟩,T.dJ,T.cg,T.bZ,T.bL,T.bK,T.aW,T.d7,T.cR,T.cG,T.dO,T.bD,T.cF,T.cY,T.aY,T.aZ,T.bC,T.aR,T.bw,T.cj,T.bA,T.aX,T.bf,T.aQ,T.bB⟩,T.cT,T.cB,T.cC,T.bM,T.cu⟩;walk_at "ok"
 ·refine⟨Xc K,(bu (dg (G.Zkw (cns:=[]) [] (oH (cZ (pv 0) rfl)) (λ_ _ _ _ _=>G.uv) (λ_ _ _ _ _=>(nO G.sU (by rfl) T.w6 G.boot_list (aa (cZ (pv 0) rfl) aB))) rfl rfl (by repeat (first | exact trivial | refine⟨rfl,?_⟩)) (by repeat (first | exact trivial | refine⟨rfl,?_⟩)) rfl (by decide +kernel) rfl (by decide +kernel) (by decide +kernel) rfl (by decide +kernel)))),?_⟩;obtain⟨z0,rfl,q⟩:=h;exact Zq6 tx.w q
theorem Xq{fd:FuncData}(F:m6 K "looked_at" "looked_at" Bb kZ fd):pF P w K mg base 1 kZ fd Br (wO XQ):=by
 have sc:=WY;have tx:qd K XQ aC aL aK aP aJ aH aG aO aF aD aA:=⟨T.bV,T.bU,T.cM,T.bT,T.bR,T.bQ,T.cL,T.bO,T.bN,T.bH,⟨⟨T.dB,T.bJ,T.cQ,T.cP,T.cJ,T.bF,T.dw,T.cN,T.bG,T.cH,T.cI,T.dW⟩,T.dJ,T.cg,T.bZ,T.bL,T.bK,T.aW,T.d7,T.cR,T.cG,T.dO,T.bD,T.cF,T.cY,T.aY,T.aZ,T.bC,T.aR,T.bw,T.cj,T.bA,T.aX,T.bf,T.aQ,T.bB⟩,T.cT,T.cB,T.cC,T.bM,T.cu⟩;walk_at "ok"
 ·refine⟨yZ K,(bu (dg (uM oK (dj QG (dj Zs4 (cZ (cZ (pv 0) rfl) rfl) (pv 1)) (aN)) (aN) (xU _)))),?_⟩;obtain⟨z0,z1,rfl,q⟩:=h;exact XR tx.w q
theorem Xr{fd:FuncData}(F:m6 K "has_sense" "has_sense" Bc jN fd):pF P w K mg base 1 jN fd wI (pq XQ):=by
 have sc:=W0;have tx:qd K XQ aC aL aK aP aJ aH aG aO aF aD aA:=⟨T.bV,T.bU,T.cM,T.bT,T.bR,T.bQ,T.cL,T.bO,T.bN,T.bH,⟨⟨T.dB,T.bJ,T.cQ,T.cP,T.cJ,T.bF,T.dw,T.cN,T.bG,T.cH,T.cI,T.dW⟩,T.dJ,T.cg,T.bZ,T.bL,T.bK,T.aW,T.d7,T.cR,T.cG,T.dO,T.bD,T.cF,T.cY,T.aY,T.aZ,T.bC,T.aR,T.bw,T.cj,T.bA,T.aX,T.bf,T.aQ,T.bB⟩,T.cT,T.cB,T.cC,T.bM,T.cu⟩;walk_at "ok"
 ·refine⟨zg K,(bu (dg (uM oK (cZ (pv 1) rfl) (cZ (cZ (pv 0) rfl) rfl) (xU _)))),?_⟩;obtain⟨z0,z1,rfl,q⟩:=h;exact YF tx.w q
theorem Zpb{fd:FuncData}{qw zN:FuncData}(F:m6 K "note" "note" Zcy yd fd)(sW:Hh P w K mg base 1 lB qw uX (lD XQ.H))(Cz:Hh P w K mg base 1 jN zN wI (pq XQ)):pF P w K mg base 2 yd fd Zd9 (Za XQ):=by
 have sc:=Zo3;have tx:qd K XQ aC aL aK aP aJ aH aG aO aF aD aA:=⟨T.bV,T.bU,T.cM,T.bT,T.bR,T.bQ,T.cL,T.bO,T.bN,T.bH,⟨⟨T.dB,T.bJ,T.cQ,T.cP,T.cJ,T.bF,T.dw,T.cN,T.bG,T.cH,T.cI,T.dW⟩,T.dJ,T.cg,T.bZ,T.bL,T.bK,T.aW,T.d7,T.cR,T.cG,T.dO,T.bD,T.cF,T.cY,T.aY,T.aZ,T.bC,T.aR,T.bw,T.cj,T.bA,T.aX,T.bf,T.aQ,T.bB⟩,T.cT,T.cB,T.cC,T.bM,T.cu⟩;walk_at "ok"
 ·refine⟨Xb K (lD XQ.H) (pq XQ),(au (kY 2 sc.nd (cZ (pv 0) rfl))
   (au (kY 3 sc.nd (mG sW hr T.yt (aa (cZ (pv 0) rfl) (aa (pv 1) aB))))
   (au (fY (PW.pt (qF (rD qG (cZ (pv 2) rfl) (dI)) (qF (rD G.Gu (pv 3) (nY)) (rY (lF (mG Cz hr T.BK (aa (pv 0) (aa (pv 3) aB)))))))) (bu (dg (nY))) dZ)
   (au (gq (pv 3) (cZ (pv 2) rfl) rfl)
   (au (oG (rE PySem.F.plainAttrs_list PySem.F.slot_list_append PySem.F.type_list_append lz (cZ (pv 2) rfl) (aa (pv 1) aB)))
   (bu (dg (cZ (pv 3) rfl)))))))),?_⟩
  obtain⟨z0,z1,rfl,q⟩:=h;exact Zph tx.w q
theorem Z7{fd:FuncData}(F:m6 K "note_all" "note_all" Eh j7 fd){Zqp:FuncData}(Zun:Hh P w K mg base 2 yd Zqp Zd9 (Za XQ)):pF P w K mg base 3 j7 fd vD (mO XQ):=by
 have sc:=ZK;have tx:qd K XQ aC aL aK aP aJ aH aG aO aF aD aA:=⟨T.bV,T.bU,T.cM,T.bT,T.bR,T.bQ,T.cL,T.bO,T.bN,T.bH,⟨⟨T.dB,T.bJ,T.cQ,T.cP,T.cJ,T.bF,T.dw,T.cN,T.bG,T.cH,T.cI,T.dW⟩,T.dJ,T.cg,T.bZ,T.bL,T.bK,T.aW,T.d7,T.cR,T.cG,T.dO,T.bD,T.cF,T.cY,T.aY,T.aZ,T.bC,T.aR,T.bw,T.cj,T.bA,T.aX,T.bf,T.aQ,T.bB⟩,T.cT,T.cB,T.cC,T.bM,T.cu⟩;walk_at "ok"
 ·refine⟨Bl K (Za XQ),(au (kY 2 sc.nd (gj aB))
   (au (xO PassesOwn.never rfl (oH (pv 1)) (lQ (i:=3) sc.nd rfl (Or.inl rfl))
   (au (kY 4 sc.nd (mG Zun hr T.Zln (aa (pv 0) (aa (pv 3) aB))))
   (bu (fY (rD G.Zl4 (pv 4) (nY)) (bu (oG (rE PySem.F.plainAttrs_list PySem.F.slot_list_append PySem.F.type_list_append lz (pv 2) (aa (pv 4) aB)))) dZ))))
   (bu (dg (pv 2))))),?_⟩
  obtain⟨z0,z1,rfl,q⟩:=h;exact Za4 tx.w q
theorem Zpd{fd:FuncData}{qw zN:FuncData}(F:m6 K "gone" "gone" Zd0 ye fd)(sW:Hh P w K mg base 1 lB qw uX (lD XQ.H))(Cz:Hh P w K mg base 1 jN zN wI (pq XQ)):pF P w K mg base 2 ye fd Zda (Zb XQ):=by
 have sc:=Zo5;have tx:qd K XQ aC aL aK aP aJ aH aG aO aF aD aA:=⟨T.bV,T.bU,T.cM,T.bT,T.bR,T.bQ,T.cL,T.bO,T.bN,T.bH,⟨⟨T.dB,T.bJ,T.cQ,T.cP,T.cJ,T.bF,T.dw,T.cN,T.bG,T.cH,T.cI,T.dW⟩,T.dJ,T.cg,T.bZ,T.bL,T.bK,T.aW,T.d7,T.cR,T.cG,T.dO,T.bD,T.cF,T.cY,T.aY,T.aZ,T.bC,T.aR,T.bw,T.cj,T.bA,T.aX,T.bf,T.aQ,T.bB⟩,T.cT,T.cB,T.cC,T.bM,T.cu⟩;walk_at "ok"
 ·refine⟨Xd K (lD XQ.H) (pq XQ),(au (kY 3 sc.nd (mG sW hr T.yt (aa (cZ (pv 0) rfl) (aa (pv 1) aB))))
   (au (fY (PW.pt (qF (rD G.Gu (pv 3) (nY)) (rY (rD qG (cZ (pv 3) rfl) (pv 2))))) (bu (dg (m8))) dZ)
   (bu (dg ((JS (uM oK (cZ (cZ (pv 0) rfl) rfl) (dI) (xU _)) (JP (Zkt (mG Cz hr T.BK (aa (pv 0) (aa (pv 3) aB))))))))))),?_⟩
  obtain⟨z0,z1,z2,rfl,q⟩:=h;exact Zqe tx.w q
theorem Gy{fd:FuncData}(F:m6 K "__init__" "Scene.__init__" rM eX fd):pF P w K mg base 1 eX fd mX (jK aC):=by
 have sc:=Gi;have tx:qd K XQ aC aL aK aP aJ aH aG aO aF aD aA:=⟨T.bV,T.bU,T.cM,T.bT,T.bR,T.bQ,T.cL,T.bO,T.bN,T.bH,⟨⟨T.dB,T.bJ,T.cQ,T.cP,T.cJ,T.bF,T.dw,T.cN,T.bG,T.cH,T.cI,T.dW⟩,T.dJ,T.cg,T.bZ,T.bL,T.bK,T.aW,T.d7,T.cR,T.cG,T.dO,T.bD,T.cF,T.cY,T.aY,T.aZ,T.bC,T.aR,T.bw,T.cj,T.bA,T.aX,T.bf,T.aQ,T.bB⟩,T.cT,T.cB,T.cC,T.bM,T.cu⟩;walk_at "ok"
 ·refine⟨qQ K,(au (gq (pv 0) (pv 1) rfl)
   (au (gq (pv 0) (pv 2) rfl)
   (au (gq (pv 0) (nO G.sU (by rfl) T.w6 G.boot_list (aa (pv 3) aB)) rfl)
   (bu (gq (pv 0) (nO G.sU (by rfl) T.w6 G.boot_list (aa (pv 4) aB)) rfl))))),?_⟩
  obtain⟨z0,z1,z2,z3,z4,rfl,q⟩:=h;exact Il tx q
theorem Z5{fd:FuncData}(F:m6 K "world_of" "world_of" Ef j6 fd){Ia:FuncData}(yD:Hh P w K mg base 3 fJ Ia su (uQ XQ)):pF P w K mg base 5 j6 fd ["scene"] (nU aC XQ):=by
 have sc:=ZG;have tx:qd K XQ aC aL aK aP aJ aH aG aO aF aD aA:=⟨T.bV,T.bU,T.cM,T.bT,T.bR,T.bQ,T.cL,T.bO,T.bN,T.bH,⟨⟨T.dB,T.bJ,T.cQ,T.cP,T.cJ,T.bF,T.dw,T.cN,T.bG,T.cH,T.cI,T.dW⟩,T.dJ,T.cg,T.bZ,T.bL,T.bK,T.aW,T.d7,T.cR,T.cG,T.dO,T.bD,T.cF,T.cY,T.aY,T.aZ,T.bC,T.aR,T.bw,T.cj,T.bA,T.aX,T.bf,T.aQ,T.bB⟩,T.cT,T.cB,T.cC,T.bM,T.cu⟩;walk_at "ok"
 ·refine⟨Bj K XQ.W (uQ XQ),(bu (dg (wG T.GJ yD.g (hr.mono (by decide)) rfl T.Zfu yD.b .nil G.jZ (aa (cZ (pv 0) rfl) (aa (cZ (pv 0) rfl) (aa (cZ (pv 0) rfl) aB)))))),?_⟩;obtain⟨z0,rfl,q⟩:=h;exact Zr tx q
theorem Xp{fd:FuncData}(F:m6 K "with_rows" "with_rows" Ba jM fd){mq:FuncData}(iI:Hh P w K mg base 1 eX mq mX (jK aC)):pF P w K mg base 3 jM fd wH (qy aC):=by
 have sc:=WX;have tx:qd K XQ aC aL aK aP aJ aH aG aO aF aD aA:=⟨T.bV,T.bU,T.cM,T.bT,T.bR,T.bQ,T.cL,T.bO,T.bN,T.bH,⟨⟨T.dB,T.bJ,T.cQ,T.cP,T.cJ,T.bF,T.dw,T.cN,T.bG,T.cH,T.cI,T.dW⟩,T.dJ,T.cg,T.bZ,T.bL,T.bK,T.aW,T.d7,T.cR,T.cG,T.dO,T.bD,T.cF,T.cY,T.aY,T.aZ,T.bC,T.aR,T.bw,T.cj,T.bA,T.aX,T.bf,T.aQ,T.bB⟩,T.cT,T.cB,T.cC,T.bM,T.cu⟩;walk_at "ok"
 ·refine⟨yX K aC (jK aC),(bu (dg (wG T.yp iI.g (hr.mono (by decide)) rfl T.Ov iI.b .nil G.jZ (aa (cZ (pv 0) rfl) (aa (cZ (pv 0) rfl) (aa (cZ (pv 0) rfl) (aa (dj vK (cZ (pv 0) rfl) (pv 1)) aB))))))),?_⟩;obtain⟨z0,z1,rfl,q⟩:=h;exact Wq tx q
theorem Zl7{fd:FuncData}(F:m6 K "quiet" "quiet" W9 rA fd){mq:FuncData}(iI:Hh P w K mg base 1 eX mq mX (jK aC)):pF P w K mg base 3 rA fd ["scene"] (zR K aC):=by
 have sc:=Zjv;have tx:qd K XQ aC aL aK aP aJ aH aG aO aF aD aA:=⟨T.bV,T.bU,T.cM,T.bT,T.bR,T.bQ,T.cL,T.bO,T.bN,T.bH,⟨⟨T.dB,T.bJ,T.cQ,T.cP,T.cJ,T.bF,T.dw,T.cN,T.bG,T.cH,T.cI,T.dW⟩,T.dJ,T.cg,T.bZ,T.bL,T.bK,T.aW,T.d7,T.cR,T.cG,T.dO,T.bD,T.cF,T.cY,T.aY,T.aZ,T.bC,T.aR,T.bw,T.cj,T.bA,T.aX,T.bf,T.aQ,T.bB⟩,T.cT,T.cB,T.cC,T.bM,T.cu⟩;walk_at "ok"
 ·refine⟨Qx K aC (jK aC),(au (G.Qz (iz:=1) (cns:=[]) [] (oH (cZ (pv 0) rfl)) (λ_ _ _ _ _=>(G.Zkr (rD qG (mR eN (pv 0) (aN)) (T.OJ.pe rfl)))) (λ_ _ _ _ _=>(pv 0)) rfl rfl (by repeat (first | exact trivial | refine⟨rfl,?_⟩)) (by repeat (first | exact trivial | refine⟨rfl,?_⟩)) rfl (by decide +kernel) rfl (by decide +kernel) (by decide +kernel) rfl (by decide +kernel) sc.nd rfl (Or.inl rfl) (Or.inr rfl) rfl)
   (bu (dg (wG T.yp iI.g (hr.mono (by decide)) rfl T.Ov iI.b .nil G.jZ (aa (cZ (pv 0) rfl) (aa (cZ (pv 0) rfl) (aa (cZ (pv 0) rfl) (aa (pv 1) aB)))))))),?_⟩
  obtain⟨z0,rfl,q⟩:=h;exact Zke tx q
theorem Td{fd:FuncData}(F:m6 K "word" "First.word" yV iZ fd):pF P w K mg base 1 iZ fd ["self"] (uD (.str "first")):=by
 have sc:=SX;have tx:qd K XQ aC aL aK aP aJ aH aG aO aF aD aA:=⟨T.bV,T.bU,T.cM,T.bT,T.bR,T.bQ,T.cL,T.bO,T.bN,T.bH,⟨⟨T.dB,T.bJ,T.cQ,T.cP,T.cJ,T.bF,T.dw,T.cN,T.bG,T.cH,T.cI,T.dW⟩,T.dJ,T.cg,T.bZ,T.bL,T.bK,T.aW,T.d7,T.cR,T.cG,T.dO,T.bD,T.cF,T.cY,T.aY,T.aZ,T.bC,T.aR,T.bw,T.cj,T.bA,T.aX,T.bf,T.aQ,T.bB⟩,T.cT,T.cB,T.cC,T.bM,T.cu⟩;walk_at "ok"
 ·refine⟨xM,(bu (dg (dI))),?_⟩;obtain⟨z0,rfl,q⟩:=h;exact Ux tx.w q
theorem Xz{fd:FuncData}(F:m6 K "word" "Each.word" Bh jR fd):pF P w K mg base 1 jR fd ["self"] (uD (.str "each")):=by
 have sc:=W7;have tx:qd K XQ aC aL aK aP aJ aH aG aO aF aD aA:=⟨T.bV,T.bU,T.cM,T.bT,T.bR,T.bQ,T.cL,T.bO,T.bN,T.bH,⟨⟨T.dB,T.bJ,T.cQ,T.cP,T.cJ,T.bF,T.dw,T.cN,T.bG,T.cH,T.cI,T.dW⟩,T.dJ,T.cg,T.bZ,T.bL,T.bK,T.aW,T.d7,T.cR,T.cG,T.dO,T.bD,T.cF,T.cY,T.aY,T.aZ,T.bC,T.aR,T.bw,T.cj,T.bA,T.aX,T.bf,T.aQ,T.bB⟩,T.cT,T.cB,T.cC,T.bM,T.cu⟩;walk_at "ok"
 ·refine⟨zx,(bu (dg (dI))),?_⟩;obtain⟨z0,rfl,q⟩:=h;exact Zk tx.w q
theorem Xw{fd:FuncData}(F:m6 K "word" "Last.word" Bf jP fd):pF P w K mg base 1 jP fd ["self"] (uD (.str "last")):=by
 have sc:=W4;have tx:qd K XQ aC aL aK aP aJ aH aG aO aF aD aA:=⟨T.bV,T.bU,T.cM,T.bT,T.bR,T.bQ,T.cL,T.bO,T.bN,T.bH,⟨⟨T.dB,T.bJ,T.cQ,T.cP,T.cJ,T.bF,T.dw,T.cN,T.bG,T.cH,T.cI,T.dW⟩,T.dJ,T.cg,T.bZ,T.bL,T.bK,T.aW,T.d7,T.cR,T.cG,T.dO,T.bD,T.cF,T.cY,T.aY,T.aZ,T.bC,T.aR,T.bw,T.cj,T.bA,T.aX,T.bf,T.aQ,T.bB⟩,T.cT,T.cB,T.cC,T.bM,T.cu⟩;walk_at "ok"
 ·refine⟨zp,(bu (dg (dI))),?_⟩;obtain⟨z0,rfl,q⟩:=h;exact Zc tx.w q
theorem Ka{fd:FuncData}(F:m6 K "__init__" "Kind.__init__" ud fO fd):pF P w K mg base 1 fO fd uy (wU XQ.K):=by
 have sc:=Jq;have tx:qd K XQ aC aL aK aP aJ aH aG aO aF aD aA:=⟨T.bV,T.bU,T.cM,T.bT,T.bR,T.bQ,T.cL,T.bO,T.bN,T.bH,⟨⟨T.dB,T.bJ,T.cQ,T.cP,T.cJ,T.bF,T.dw,T.cN,T.bG,T.cH,T.cI,T.dW⟩,T.dJ,T.cg,T.bZ,T.bL,T.bK,T.aW,T.d7,T.cR,T.cG,T.dO,T.bD,T.cF,T.cY,T.aY,T.aZ,T.bC,T.aR,T.bw,T.cj,T.bA,T.aX,T.bf,T.aQ,T.bB⟩,T.cT,T.cB,T.cC,T.bM,T.cu⟩;walk_at "ok"
 ·refine⟨rQ K,(au (gq (pv 0) (pv 1) rfl)
   (bu (gq (pv 0) (pv 2) rfl))),?_⟩
  obtain⟨z0,z1,z2,rfl,q⟩:=h;exact Ld tx.w q
theorem Tc{fd:FuncData}{YT Um YM:FuncData}(F:m6 K "words" "Kind.words" yU gD fd)(Mq:Hh P w K mg base 1 jR YT ["self"] (uD (.str "each")))(Iv:Hh P w K mg base 1 iZ Um ["self"] (uD (.str "first")))(Ml:Hh P w K mg base 1 jP YM ["self"] (uD (.str "last"))):pF P w K mg base 2 gD fd ["self"] (pK XQ):=by
 have sc:=SQ;have tx:qd K XQ aC aL aK aP aJ aH aG aO aF aD aA:=⟨T.bV,T.bU,T.cM,T.bT,T.bR,T.bQ,T.cL,T.bO,T.bN,T.bH,⟨⟨T.dB,T.bJ,T.cQ,T.cP,T.cJ,T.bF,T.dw,T.cN,T.bG,T.cH,T.cI,T.dW⟩,T.dJ,T.cg,T.bZ,T.bL,T.bK,T.aW,T.d7,T.cR,T.cG,T.dO,T.bD,T.cF,T.cY,T.aY,T.aZ,T.bC,T.aR,T.bw,T.cj,T.bA,T.aX,T.bf,T.aQ,T.bB⟩,T.cT,T.cB,T.cC,T.bM,T.cu⟩;walk_at "ok"
 ·refine⟨xK K XQ.E XQ.F XQ.L (uD (.str "each")) (uD (.str "first")) (uD (.str "last")),(au (kY 1 sc.nd (G.Zfr (pU (cZ (pv 0) rfl) T.Zbk T.Dy Iv.g (hr.mono (by decide)) Iv.b .nil G.jZ) (G.Zfr (pU (cZ (pv 0) rfl) T.Zgi T.GZ Mq.g (hr.mono (by decide)) Mq.b .nil G.jZ) (pU (cZ (pv 0) rfl) T.Zgh T.GQ Ml.g (hr.mono (by decide)) Ml.b .nil G.jZ))))
   (au (fY (rD qG (dj QG (cZ (pv 0) rfl) (T.Zmz.pe rfl)) (aN)) (bu (kY 1 sc.nd (dj jB (pv 1) (dI)))) dZ)
   (au (fY (rD qG (dj QG (cZ (pv 0) rfl) (T.Zn0.pe rfl)) (aN)) (bu (kY 1 sc.nd (dj jB (pv 1) (dI)))) dZ)
   (bu (dg (pv 1)))))),?_⟩
  obtain⟨z0,rfl,q⟩:=h;exact Uu tx.w q
theorem Zdh{fd:FuncData}{K4 mK:FuncData}(F:m6 K "kind_of" "kind_of" Jw nR fd)(Ae:Hh P w K mg base 1 fO K4 uy (wU XQ.K))(jf:Hh P w K mg base 2 gD mK ["self"] (pK XQ)):pF P w K mg base 3 nR fd ["text"] (Dc XQ):=by
 have sc:=Zcm;have tx:qd K XQ aC aL aK aP aJ aH aG aO aF aD aA:=⟨T.bV,T.bU,T.cM,T.bT,T.bR,T.bQ,T.cL,T.bO,T.bN,T.bH,⟨⟨T.dB,T.bJ,T.cQ,T.cP,T.cJ,T.bF,T.dw,T.cN,T.bG,T.cH,T.cI,T.dW⟩,T.dJ,T.cg,T.bZ,T.bL,T.bK,T.aW,T.d7,T.cR,T.cG,T.dO,T.bD,T.cF,T.cY,T.aY,T.aZ,T.bC,T.aR,T.bw,T.cj,T.bA,T.aX,T.bf,T.aQ,T.bB⟩,T.cT,T.cB,T.cC,T.bM,T.cu⟩;walk_at "ok"
 ·refine⟨Eo K XQ.E XQ.F XQ.K XQ.L (wU XQ.K) (pK XQ),(au (xO PassesOwn.never rfl (oH (gj (aa (G.JQ T.Vq rfl T.Zfv) (aa (G.JQ T.Zaf rfl T.Zlv) (aa (G.JQ T.Zae rfl T.Zlr) aB))))) (lQ (i:=1) sc.nd rfl (Or.inl rfl))
   (bu (xO PassesOwn.never rfl (ym rfl T.uL (aa (aN) aB)) (lQ (i:=2) sc.nd rfl (Or.inl rfl))
   (au (kY 3 sc.nd (wG T.Oo Ae.g (hr.mono (by decide)) rfl T.Zls Ae.b .nil G.jZ (aa (pv 1) (aa (pv 2) aB))))
   (bu (fY (rD oK (pU (pv 3) T.dO T.pW jf.g (hr.mono (by decide)) jf.b .nil G.jZ) (pv 0)) (bu (dg (pv 3))) dZ))))))
   (bu (dg (nY)))),?_⟩
  obtain⟨z0,rfl,q⟩:=h;exact Ze6 tx.w q
theorem Z6{fd:FuncData}(F:m6 K "slots_of" "slots_of" Eg gw fd):pF P w K mg base 1 gw fd lG (eF XQ):=by
 have sc:=ZJ;have tx:qd K XQ aC aL aK aP aJ aH aG aO aF aD aA:=⟨T.bV,T.bU,T.cM,T.bT,T.bR,T.bQ,T.cL,T.bO,T.bN,T.bH,⟨⟨T.dB,T.bJ,T.cQ,T.cP,T.cJ,T.bF,T.dw,T.cN,T.bG,T.cH,T.cI,T.dW⟩,T.dJ,T.cg,T.bZ,T.bL,T.bK,T.aW,T.d7,T.cR,T.cG,T.dO,T.bD,T.cF,T.cY,T.aY,T.aZ,T.bC,T.aR,T.bw,T.cj,T.bA,T.aX,T.bf,T.aQ,T.bB⟩,T.cT,T.cB,T.cC,T.bM,T.cu⟩;walk_at "ok"
 ·refine⟨Bk K,(bu (dg (cZ (mR gP (cZ (pv 0) rfl) (pv 1)) rfl))),?_⟩;obtain⟨z0,z1,rfl,q⟩:=h;exact ZF tx.w q
theorem Zdq{fd:FuncData}{qw gh:FuncData}(F:m6 K "cell_in" "cell_in" JH lA fd)(sW:Hh P w K mg base 1 lB qw uX (lD XQ.H))(gA:Hh P w K mg base 1 gw gh lG (eF XQ)):pF P w K mg base 2 lA fd uW (lC XQ bh):=by
 have sc:=Zcv;have tx:qd K XQ aC aL aK aP aJ aH aG aO aF aD aA:=⟨T.bV,T.bU,T.cM,T.bT,T.bR,T.bQ,T.cL,T.bO,T.bN,T.bH,⟨⟨T.dB,T.bJ,T.cQ,T.cP,T.cJ,T.bF,T.dw,T.cN,T.bG,T.cH,T.cI,T.dW⟩,T.dJ,T.cg,T.bZ,T.bL,T.bK,T.aW,T.d7,T.cR,T.cG,T.dO,T.bD,T.cF,T.cY,T.aY,T.aZ,T.bC,T.aR,T.bw,T.cj,T.bA,T.aX,T.bf,T.aQ,T.bB⟩,T.cT,T.cB,T.cC,T.bM,T.cu⟩;walk_at "okX"
 ·refine⟨EY K bh (lD XQ.H) (eF XQ) E,(au (kY 3 sc.nd (mG sW hr T.yt (aa (cZ (pv 0) rfl) (aa (mR gP (mG gA hr T.lH (aa (pv 0) (aa (pv 1) aB))) (pv 2)) aB))))
   (au (fY (rD G.Gu (pv 3) (nY)) (bu (G.Gp rfl rfl T.BW T.wz (aa (dI) aB) (λ_ _ _ _ _ _ _ I hx hE=>G.Xe I hx hE))) dZ)
   (bu (dg (pv 3))))),?_⟩
  obtain⟨z0,z1,z2,rfl,q⟩:=h;exact Zf6 tx.w q
theorem Xu{fd:FuncData}{Ib qu:FuncData}(F:m6 K "fields_in" "fields_in" Bd jO fd)(yE:Hh P w K mg base 1 fX Ib sE (wR XQ))(jC:Hh P w K mg base 2 lA qu uW (lC XQ bh)):pF P w K mg base 3 jO fd wJ (pA XQ bh cU):=by
 have sc:=W2;have tx:qd K XQ aC aL aK aP aJ aH aG aO aF aD aA:=⟨T.bV,T.bU,T.cM,T.bT,T.bR,T.bQ,T.cL,T.bO,T.bN,T.bH,⟨⟨T.dB,T.bJ,T.cQ,T.cP,T.cJ,T.bF,T.dw,T.cN,T.bG,T.cH,T.cI,T.dW⟩,T.dJ,T.cg,T.bZ,T.bL,T.bK,T.aW,T.d7,T.cR,T.cG,T.dO,T.bD,T.cF,T.cY,T.aY,T.aZ,T.bC,T.aR,T.bw,T.cj,T.bA,T.aX,T.bf,T.aQ,T.bB⟩,T.cT,T.cB,T.cC,T.bM,T.cu⟩;walk_at "okX"
 ·refine⟨zj K XQ.C cU (wR XQ) (lC XQ bh) E,(au (kY 4 sc.nd (sZ jC.g (hr.mono (by decide)) rfl T.yr jC.k jC.b .nil G.Gs (aa (pv 0) (aa (pv 1) (aa (pv 2) aB)))))
   (au (fY (nW (lF (Xl (pv 4) T.dB T.wL yE.g (hr.mono (by decide)) yE.b .nil G.jZ (aa (pv 3) aB)))) (bu (G.Gp rfl rfl T.Kr T.CJ (aa (dI) aB) (λ_ _ _ _ _ _ _ I hx hE=>G.Xe I hx hE))) dZ)
   (bu (dg (cZ (pv 4) rfl))))),?_⟩
  obtain⟨z0,z1,z2,z3,rfl,q⟩:=h;exact YH tx.w q
theorem QJ{fd:FuncData}(F:m6 K "told_as_old" "told_as_old" xr iT fd):pF P w K mg base 1 iT fd xQ (zQ XQ):=by
 have sc:=Qm;have tx:qd K XQ aC aL aK aP aJ aH aG aO aF aD aA:=⟨T.bV,T.bU,T.cM,T.bT,T.bR,T.bQ,T.cL,T.bO,T.bN,T.bH,⟨⟨T.dB,T.bJ,T.cQ,T.cP,T.cJ,T.bF,T.dw,T.cN,T.bG,T.cH,T.cI,T.dW⟩,T.dJ,T.cg,T.bZ,T.bL,T.bK,T.aW,T.d7,T.cR,T.cG,T.dO,T.bD,T.cF,T.cY,T.aY,T.aZ,T.bC,T.aR,T.bw,T.cj,T.bA,T.aX,T.bf,T.aQ,T.bB⟩,T.cT,T.cB,T.cC,T.bM,T.cu⟩;walk_at "ok"
 ·refine⟨vp K,(au (fY (rD oK (dj QG (cZ (cZ (pv 0) rfl) rfl) (T.Zmz.pe rfl)) (aN)) (bu (dg (gj aB))) dZ)
   (bu (dg (gj (aa (pv 1) aB))))),?_⟩
  obtain⟨z0,z1,rfl,q⟩:=h;exact Pq tx.w q
theorem QK{fd:FuncData}(F:m6 K "told_as_new" "told_as_new" xu ir fd){YJ:FuncData}(Zbu:Hh P w K mg base 1 kZ YJ Br (wO XQ)):pF P w K mg base 2 ir fd tD (qz XQ):=by
 have sc:=Qn;have tx:qd K XQ aC aL aK aP aJ aH aG aO aF aD aA:=⟨T.bV,T.bU,T.cM,T.bT,T.bR,T.bQ,T.cL,T.bO,T.bN,T.bH,⟨⟨T.dB,T.bJ,T.cQ,T.cP,T.cJ,T.bF,T.dw,T.cN,T.bG,T.cH,T.cI,T.dW⟩,T.dJ,T.cg,T.bZ,T.bL,T.bK,T.aW,T.d7,T.cR,T.cG,T.dO,T.bD,T.cF,T.cY,T.aY,T.aZ,T.bC,T.aR,T.bw,T.cj,T.bA,T.aX,T.bf,T.aQ,T.bB⟩,T.cT,T.cB,T.cC,T.bM,T.cu⟩;walk_at "ok"
 ·refine⟨vq K (wO XQ),(au (fY (PW.pt (qF (rD oK (dj QG (cZ (cZ (pv 0) rfl) rfl) (T.Zn0.pe rfl)) (aN)) (rY (lF (mG Zbu hr T.LK (aa (pv 0) (aa (pv 1) aB))))))) (bu (dg (gj aB))) dZ)
   (bu (dg (gj (aa (pv 2) aB))))),?_⟩
  obtain⟨z0,z1,z2,rfl,q⟩:=h;exact Pr tx.w q
theorem Zdm{fd:FuncData}{YQ iG gh:FuncData}(F:m6 K "do_make" "do_make" JC jk fd)(Mm:Hh P w K mg base 3 jr YQ Bt (wV K XQ.C XQ.H dU))(jD:Hh P w K mg base 2 gU iG nA (fH XQ))(gA:Hh P w K mg base 1 gw gh lG (eF XQ)):pF P w K mg base 4 jk fd JX (eO XQ (yj dU bh cU dm) KD):=by
 have sc:=Zcr;have tx:qd K XQ aC aL aK aP aJ aH aG aO aF aD aA:=⟨T.bV,T.bU,T.cM,T.bT,T.bR,T.bQ,T.cL,T.bO,T.bN,T.bH,⟨⟨T.dB,T.bJ,T.cQ,T.cP,T.cJ,T.bF,T.dw,T.cN,T.bG,T.cH,T.cI,T.dW⟩,T.dJ,T.cg,T.bZ,T.bL,T.bK,T.aW,T.d7,T.cR,T.cG,T.dO,T.bD,T.cF,T.cY,T.aY,T.aZ,T.bC,T.aR,T.bw,T.cj,T.bA,T.aX,T.bf,T.aQ,T.bB⟩,T.cT,T.cB,T.cC,T.bM,T.cu⟩;walk_at "okX"
 ·refine⟨Eu K XQ.H (wV K XQ.C XQ.H dU) (fH XQ) (eF XQ) E,(au (kY 2 sc.nd (mG gA hr T.lH (aa (pv 0) (aa (mR eN (pv 1) (aN)) aB))))
   (au (kY 3 sc.nd (mR eN (pv 1) (aN)))
   (au (kY 4 sc.nd (mR eN (pv 1) (aN)))
   (au (kY 5 sc.nd (Xl (cZ (pv 0) rfl) T.dw T.GR Mm.g (hr.mono (by decide)) Mm.b .nil G.Gs (aa (pv 3) (aa (pv 4) (aa (cZ (cZ (pv 0) rfl) rfl) aB)))))
   (au (zy (pv 5) (zA (pv 2) (mR eN (pv 1) (aN)) set_list))
   (bu (dg (gF (aa (dI) (aa (mG jD hr T.oY (aa (cZ (pv 0) rfl) (aa (pv 5) aB))) (aa (gj aB) aB))))))))))),?_⟩
  obtain⟨z0,z1,rfl,q⟩:=h;exact Zez tx.w rfl q
theorem Zhi{fd:FuncData}{iG zO gh:FuncData}(F:m6 K "do_get" "do_get" Qt kj fd)(jD:Hh P w K mg base 2 gU iG nA (fH XQ))(pB:Hh P w K mg base 3 jO zO wJ (pA XQ bh cU))(gA:Hh P w K mg base 1 gw gh lG (eF XQ)):pF P w K mg base 4 kj fd QD (eO XQ (yj dU bh cU dm) Vx):=by
 have sc:=Zh8;have tx:qd K XQ aC aL aK aP aJ aH aG aO aF aD aA:=⟨T.bV,T.bU,T.cM,T.bT,T.bR,T.bQ,T.cL,T.bO,T.bN,T.bH,⟨⟨T.dB,T.bJ,T.cQ,T.cP,T.cJ,T.bF,T.dw,T.cN,T.bG,T.cH,T.cI,T.dW⟩,T.dJ,T.cg,T.bZ,T.bL,T.bK,T.aW,T.d7,T.cR,T.cG,T.dO,T.bD,T.cF,T.cY,T.aY,T.aZ,T.bC,T.aR,T.bw,T.cj,T.bA,T.aX,T.bf,T.aQ,T.bB⟩,T.cT,T.cB,T.cC,T.bM,T.cu⟩;walk_at "okX"
 ·refine⟨JN K (fH XQ) (pA XQ bh cU) (eF XQ) E,(au (kY 2 sc.nd (mR eN (pv 1) (aN)))
   (au (kY 3 sc.nd (mR eN (pv 1) (aN)))
   (au (kY 4 sc.nd (mR eN (pv 1) (aN)))
   (au (kY 5 sc.nd (mR gP (sZ pB.g (hr.mono (by decide)) rfl T.BL pB.k pB.b .nil G.Gs (aa (pv 0) (aa (pv 2) (aa (pv 3) (aa (pv 4) aB))))) (pv 4)))
   (au (zy (pv 5) (zA (mG gA hr T.lH (aa (pv 0) (aa (pv 2) aB))) (mR eN (pv 1) (aN)) set_list))
   (bu (dg (gF (aa (dI) (aa (mG jD hr T.oY (aa (cZ (pv 0) rfl) (aa (pv 5) aB))) (aa (gj aB) aB))))))))))),?_⟩
  obtain⟨z0,z1,rfl,q⟩:=h;exact Ziu tx.w rfl rfl q
theorem Zhh{fd:FuncData}{iG zO tV gh vP Rp:FuncData}(F:m6 K "do_put" "do_put" Qs j9 fd)(jD:Hh P w K mg base 2 gU iG nA (fH XQ))(pB:Hh P w K mg base 3 jO zO wJ (pA XQ bh cU))(vX:Hh P w K mg base 3 j7 tV vD (mO XQ))(gA:Hh P w K mg base 1 gw gh lG (eF XQ))(yf:Hh P w K mg base 2 ir vP tD (qz XQ))(Uw:Hh P w K mg base 1 iT Rp xQ (zQ XQ)):pF P w K mg base 4 j9 fd QC (eO XQ (yj dU bh cU dm) Vw):=by
 have sc:=Zh7;have tx:qd K XQ aC aL aK aP aJ aH aG aO aF aD aA:=⟨T.bV,T.bU,T.cM,T.bT,T.bR,T.bQ,T.cL,T.bO,T.bN,T.bH,⟨⟨T.dB,T.bJ,T.cQ,T.cP,T.cJ,T.bF,T.dw,T.cN,T.bG,T.cH,T.cI,T.dW⟩,T.dJ,T.cg,T.bZ,T.bL,T.bK,T.aW,T.d7,T.cR,T.cG,T.dO,T.bD,T.cF,T.cY,T.aY,T.aZ,T.bC,T.aR,T.bw,T.cj,T.bA,T.aX,T.bf,T.aQ,T.bB⟩,T.cT,T.cB,T.cC,T.bM,T.cu⟩;walk_at "okX"
 ·refine⟨JM K (fH XQ) (pA XQ bh cU) (mO XQ) (eF XQ) (qz XQ) (zQ XQ) E,(au (kY 2 sc.nd (mR eN (pv 1) (aN)))
   (au (kY 3 sc.nd (mR eN (pv 1) (aN)))
   (au (kY 4 sc.nd (sZ pB.g (hr.mono (by decide)) rfl T.BL pB.k pB.b .nil G.Gs (aa (pv 0) (aa (pv 2) (aa (mR eN (pv 1) (aN)) (aa (pv 3) aB))))))
   (au (kY 5 sc.nd (mR gP (pv 4) (pv 3)))
   (au (kY 6 sc.nd (mR gP (mG gA hr T.lH (aa (pv 0) (aa (pv 2) aB))) (mR eN (pv 1) (aN))))
   (au (zy (pv 6) (zA (pv 4) (pv 3) set_list))
   (au (kY 7 sc.nd (mG vX hr T.zK (aa (pv 0) (aa (dj vK (mG Uw hr T.DG (aa (pv 0) (aa (pv 5) aB))) (mG yf hr T.xW (aa (pv 0) (aa (pv 2) (aa (pv 6) aB))))) aB))))
   (bu (dg (gF (aa (dI) (aa (mG jD hr T.oY (aa (cZ (pv 0) rfl) (aa (pv 5) aB))) (aa (pv 7) aB))))))))))))),?_⟩
  obtain⟨z0,z1,rfl,q⟩:=h;exact Zit tx.w rfl rfl q
theorem Zdp{fd:FuncData}{iG gh:FuncData}(F:m6 K "do_copy" "do_copy" JG jq fd)(jD:Hh P w K mg base 2 gU iG nA (fH XQ))(gA:Hh P w K mg base 1 gw gh lG (eF XQ)):pF P w K mg base 3 jq fd J7 (eO XQ (yj dU bh cU dm) KR):=by
 have sc:=Zcu;have tx:qd K XQ aC aL aK aP aJ aH aG aO aF aD aA:=⟨T.bV,T.bU,T.cM,T.bT,T.bR,T.bQ,T.cL,T.bO,T.bN,T.bH,⟨⟨T.dB,T.bJ,T.cQ,T.cP,T.cJ,T.bF,T.dw,T.cN,T.bG,T.cH,T.cI,T.dW⟩,T.dJ,T.cg,T.bZ,T.bL,T.bK,T.aW,T.d7,T.cR,T.cG,T.dO,T.bD,T.cF,T.cY,T.aY,T.aZ,T.bC,T.aR,T.bw,T.cj,T.bA,T.aX,T.bf,T.aQ,T.bB⟩,T.cT,T.cB,T.cC,T.bM,T.cu⟩;walk_at "ok"
 ·refine⟨Ez K (fH XQ) (eF XQ),(au (kY 2 sc.nd (mG gA hr T.lH (aa (pv 0) (aa (mR eN (pv 1) (aN)) aB))))
   (au (kY 3 sc.nd (mR gP (pv 2) (mR eN (pv 1) (aN))))
   (au (zy (pv 3) (zA (pv 2) (mR eN (pv 1) (aN)) set_list))
   (bu (dg (gF (aa (dI) (aa (mG jD hr T.oY (aa (cZ (pv 0) rfl) (aa (pv 3) aB))) (aa (gj aB) aB))))))))),?_⟩
  obtain⟨z0,z1,rfl,q⟩:=h;exact Zf2 tx.w q
theorem Zdo{fd:FuncData}{iG gh:FuncData}(F:m6 K "do_drop" "do_drop" JF jo fd)(jD:Hh P w K mg base 2 gU iG nA (fH XQ))(gA:Hh P w K mg base 1 gw gh lG (eF XQ)):pF P w K mg base 3 jo fd J0 (eO XQ (yj dU bh cU dm) KQ):=by
 have sc:=Zct;have tx:qd K XQ aC aL aK aP aJ aH aG aO aF aD aA:=⟨T.bV,T.bU,T.cM,T.bT,T.bR,T.bQ,T.cL,T.bO,T.bN,T.bH,⟨⟨T.dB,T.bJ,T.cQ,T.cP,T.cJ,T.bF,T.dw,T.cN,T.bG,T.cH,T.cI,T.dW⟩,T.dJ,T.cg,T.bZ,T.bL,T.bK,T.aW,T.d7,T.cR,T.cG,T.dO,T.bD,T.cF,T.cY,T.aY,T.aZ,T.bC,T.aR,T.bw,T.cj,T.bA,T.aX,T.bf,T.aQ,T.bB⟩,T.cT,T.cB,T.cC,T.bM,T.cu⟩;walk_at "ok"
 ·refine⟨Ey K (fH XQ) (eF XQ),(au (kY 2 sc.nd (mG gA hr T.lH (aa (pv 0) (aa (mR eN (pv 1) (aN)) aB))))
   (au (kY 3 sc.nd (mR gP (pv 2) (mR eN (pv 1) (aN))))
   (au (zy (nY) (zA (pv 2) (mR eN (pv 1) (aN)) set_list))
   (bu (dg (gF (aa (dI) (aa (mG jD hr T.oY (aa (cZ (pv 0) rfl) (aa (pv 3) aB))) (aa (gj aB) aB))))))))),?_⟩
  obtain⟨z0,z1,rfl,q⟩:=h;exact Zf1 tx.w q
theorem Zdn{fd:FuncData}{iG tV gh vP:FuncData}(F:m6 K "do_give" "do_give" JD jm fd)(jD:Hh P w K mg base 2 gU iG nA (fH XQ))(vX:Hh P w K mg base 3 j7 tV vD (mO XQ))(gA:Hh P w K mg base 1 gw gh lG (eF XQ))(yf:Hh P w K mg base 2 ir vP tD (qz XQ)):pF P w K mg base 4 jm fd JZ (eO XQ (yj dU bh cU dm) KN):=by
 have sc:=Zcs;have tx:qd K XQ aC aL aK aP aJ aH aG aO aF aD aA:=⟨T.bV,T.bU,T.cM,T.bT,T.bR,T.bQ,T.cL,T.bO,T.bN,T.bH,⟨⟨T.dB,T.bJ,T.cQ,T.cP,T.cJ,T.bF,T.dw,T.cN,T.bG,T.cH,T.cI,T.dW⟩,T.dJ,T.cg,T.bZ,T.bL,T.bK,T.aW,T.d7,T.cR,T.cG,T.dO,T.bD,T.cF,T.cY,T.aY,T.aZ,T.bC,T.aR,T.bw,T.cj,T.bA,T.aX,T.bf,T.aQ,T.bB⟩,T.cT,T.cB,T.cC,T.bM,T.cu⟩;walk_at "ok"
 ·refine⟨Ew K (fH XQ) (mO XQ) (eF XQ) (qz XQ),(au (kY 2 sc.nd (mR eN (pv 1) (aN)))
   (au (kY 3 sc.nd (mR eN (pv 1) (aN)))
   (au (kY 4 sc.nd (mR gP (mG gA hr T.lH (aa (pv 0) (aa (pv 2) aB))) (mR eN (pv 1) (aN))))
   (au (zy (pv 4) (zA (mG gA hr T.lH (aa (pv 0) (aa (pv 3) aB))) (mR eN (pv 1) (aN)) set_list))
   (au (kY 5 sc.nd (mG vX hr T.zK (aa (pv 0) (aa (mG yf hr T.xW (aa (pv 0) (aa (pv 2) (aa (pv 4) aB)))) aB))))
   (bu (dg (gF (aa (dI) (aa (mG jD hr T.oY (aa (cZ (pv 0) rfl) (aa (pv 4) aB))) (aa (pv 5) aB))))))))))),?_⟩
  obtain⟨z0,z1,rfl,q⟩:=h;exact Zf0 tx.w q
theorem Z9{fd:FuncData}(F:m6 K "do_write" "do_write" Ej gR fd){qu:FuncData}(jC:Hh P w K mg base 2 lA qu uW (lC XQ bh)):pF P w K mg base 3 gR fd Fe (eO XQ (yj dU bh cU dm) CQ):=by
 have sc:=ZM;have tx:qd K XQ aC aL aK aP aJ aH aG aO aF aD aA:=⟨T.bV,T.bU,T.cM,T.bT,T.bR,T.bQ,T.cL,T.bO,T.bN,T.bH,⟨⟨T.dB,T.bJ,T.cQ,T.cP,T.cJ,T.bF,T.dw,T.cN,T.bG,T.cH,T.cI,T.dW⟩,T.dJ,T.cg,T.bZ,T.bL,T.bK,T.aW,T.d7,T.cR,T.cG,T.dO,T.bD,T.cF,T.cY,T.aY,T.aZ,T.bC,T.aR,T.bw,T.cj,T.bA,T.aX,T.bf,T.aQ,T.bB⟩,T.cT,T.cB,T.cC,T.bM,T.cu⟩;walk_at "okX"
 ·refine⟨Bo K (lC XQ bh) E,(au (kY 2 sc.nd (sZ jC.g (hr.mono (by decide)) rfl T.yr jC.k jC.b .nil G.Gs (aa (pv 0) (aa (mR eN (pv 1) (aN)) (aa (mR eN (pv 1) (aN)) aB)))))
   (au (kY 3 sc.nd (cZ (pv 2) rfl))
   (au (gq (pv 2) (mR eN (pv 1) (aN)) rfl)
   (bu (dg (gF (aa (dI) (aa (pv 3) (aa (gj aB) aB))))))))),?_⟩
  obtain⟨z0,z1,rfl,q⟩:=h;exact Zbe tx.w rfl q
theorem Zdk{fd:FuncData}(F:m6 K "do_read" "do_read" Jz ji fd){qu:FuncData}(jC:Hh P w K mg base 2 lA qu uW (lC XQ bh)):pF P w K mg base 3 ji fd JV (eO XQ (yj dU bh cU dm) KC):=by
 have sc:=Zcp;have tx:qd K XQ aC aL aK aP aJ aH aG aO aF aD aA:=⟨T.bV,T.bU,T.cM,T.bT,T.bR,T.bQ,T.cL,T.bO,T.bN,T.bH,⟨⟨T.dB,T.bJ,T.cQ,T.cP,T.cJ,T.bF,T.dw,T.cN,T.bG,T.cH,T.cI,T.dW⟩,T.dJ,T.cg,T.bZ,T.bL,T.bK,T.aW,T.d7,T.cR,T.cG,T.dO,T.bD,T.cF,T.cY,T.aY,T.aZ,T.bC,T.aR,T.bw,T.cj,T.bA,T.aX,T.bf,T.aQ,T.bB⟩,T.cT,T.cB,T.cC,T.bM,T.cu⟩;walk_at "okX"
 ·refine⟨Es K (lC XQ bh) E,(au (kY 2 sc.nd (sZ jC.g (hr.mono (by decide)) rfl T.yr jC.k jC.b .nil G.Gs (aa (pv 0) (aa (mR eN (pv 1) (aN)) (aa (mR eN (pv 1) (aN)) aB)))))
   (bu (dg (gF (aa (dI) (aa (cZ (pv 2) rfl) (aa (gj aB) aB))))))),?_⟩
  obtain⟨z0,z1,rfl,q⟩:=h;exact Zex tx.w rfl q
theorem Zdl{fd:FuncData}{qu gh:FuncData}(F:m6 K "do_name" "do_name" JB jj fd)(jC:Hh P w K mg base 2 lA qu uW (lC XQ bh))(gA:Hh P w K mg base 1 gw gh lG (eF XQ)):pF P w K mg base 3 jj fd JW (eO XQ (yj dU bh cU dm) isName):=by
 have sc:=Zcq;have tx:qd K XQ aC aL aK aP aJ aH aG aO aF aD aA:=⟨T.bV,T.bU,T.cM,T.bT,T.bR,T.bQ,T.cL,T.bO,T.bN,T.bH,⟨⟨T.dB,T.bJ,T.cQ,T.cP,T.cJ,T.bF,T.dw,T.cN,T.bG,T.cH,T.cI,T.dW⟩,T.dJ,T.cg,T.bZ,T.bL,T.bK,T.aW,T.d7,T.cR,T.cG,T.dO,T.bD,T.cF,T.cY,T.aY,T.aZ,T.bC,T.aR,T.bw,T.cj,T.bA,T.aX,T.bf,T.aQ,T.bB⟩,T.cT,T.cB,T.cC,T.bM,T.cu⟩;walk_at "okX"
 ·refine⟨Et K (lC XQ bh) (eF XQ) E,(au (kY 2 sc.nd (mR eN (pv 1) (aN)))
   (au (kY 3 sc.nd (mR eN (pv 1) (aN)))
   (au (kY 4 sc.nd (cZ (sZ jC.g (hr.mono (by decide)) rfl T.yr jC.k jC.b .nil G.Gs (aa (pv 0) (aa (pv 2) (aa (pv 3) aB)))) rfl))
   (au (Zoo (HH hr) (cZ (pv 0) rfl) (mR eN (pv 1) (aN)) (gF (aa (mR gP (mG gA hr T.lH (aa (pv 0) (aa (pv 2) aB))) (pv 3)) (aa (pv 4) aB))) rfl)
   (bu (dg (gF (aa (dI) (aa (pv 4) (aa (gj aB) aB)))))))))),?_⟩
  obtain⟨z0,z1,rfl,q⟩:=h;exact Zey tx.w rfl q
theorem Zdj{fd:FuncData}{iG tV Rr gh:FuncData}(F:m6 K "do_seek" "do_seek" Jy jg fd)(jD:Hh P w K mg base 2 gU iG nA (fH XQ))(vX:Hh P w K mg base 3 j7 tV vD (mO XQ))(yg:Hh P w K mg base 3 iU Rr xR (tK XQ dm))(gA:Hh P w K mg base 1 gw gh lG (eF XQ)):pF P w K mg base 4 jg fd JT (eO XQ (yj dU bh cU dm) Kz):=by
 have sc:=Zco;have tx:qd K XQ aC aL aK aP aJ aH aG aO aF aD aA:=⟨T.bV,T.bU,T.cM,T.bT,T.bR,T.bQ,T.cL,T.bO,T.bN,T.bH,⟨⟨T.dB,T.bJ,T.cQ,T.cP,T.cJ,T.bF,T.dw,T.cN,T.bG,T.cH,T.cI,T.dW⟩,T.dJ,T.cg,T.bZ,T.bL,T.bK,T.aW,T.d7,T.cR,T.cG,T.dO,T.bD,T.cF,T.cY,T.aY,T.aZ,T.bC,T.aR,T.bw,T.cj,T.bA,T.aX,T.bf,T.aQ,T.bB⟩,T.cT,T.cB,T.cC,T.bM,T.cu⟩;walk_at "okX"
 ·refine⟨Er K (fH XQ) (mO XQ) (tK XQ dm) (eF XQ) E,(au (kY 2 sc.nd (sZ yg.g (hr.mono (by decide)) rfl T.DK yg.k yg.b .nil G.Gs (aa (pv 0) (aa (mR eN (pv 1) (aN)) aB))))
   (au (zy (pv 2) (zA (mG gA hr T.lH (aa (pv 0) (aa (mR eN (pv 1) (aN)) aB))) (mR eN (pv 1) (aN)) set_list))
   (au (kY 3 sc.nd (mG vX hr T.zK (aa (pv 0) (aa (gj (aa (pv 2) aB)) aB))))
   (bu (dg (gF (aa (dI) (aa (mG jD hr T.oY (aa (cZ (pv 0) rfl) (aa (pv 2) aB))) (aa (pv 3) aB))))))))),?_⟩
  obtain⟨z0,z1,rfl,q⟩:=h;exact Zew tx.w rfl q
theorem QL{fd:FuncData}(F:m6 K "place_named" "place_named" xx iU fd){Zqq:FuncData}(Zuo:Hh P w K mg base 2 ye Zqq Zda (Zb XQ)):pF P w K mg base 3 iU fd xR (tK XQ dm):=by
 have sc:=Qo;have tx:qd K XQ aC aL aK aP aJ aH aG aO aF aD aA:=⟨T.bV,T.bU,T.cM,T.bT,T.bR,T.bQ,T.cL,T.bO,T.bN,T.bH,⟨⟨T.dB,T.bJ,T.cQ,T.cP,T.cJ,T.bF,T.dw,T.cN,T.bG,T.cH,T.cI,T.dW⟩,T.dJ,T.cg,T.bZ,T.bL,T.bK,T.aW,T.d7,T.cR,T.cG,T.dO,T.bD,T.cF,T.cY,T.aY,T.aZ,T.bC,T.aR,T.bw,T.cj,T.bA,T.aX,T.bf,T.aQ,T.bB⟩,T.cT,T.cB,T.cC,T.bM,T.cu⟩;walk_at "okX"
 ·refine⟨vA K dm (Zb XQ) E,(au (fY (Zs0 (Zhf (HH hr) (pv 1) (cZ (pv 0) rfl))) (bu (G.Gp rfl rfl T.QZ T.FZ (aa (dI) aB) (λ_ _ _ _ _ _ _ I hx hE=>G.Xe I hx hE))) dZ)
   (au (kY 2 sc.nd (mR eN (pdg hr (cZ (pv 0) rfl) (pv 1)) (aN)))
   (au (kY 3 sc.nd (mR eN (pdg hr (cZ (pv 0) rfl) (pv 1)) (aN)))
   (au (fY (lF (mG Zuo hr T.Zlo (aa (pv 0) (aa (pv 2) (aa (pv 3) aB))))) (bu (dg (nY))) dZ)
   (bu (dg (pv 2))))))),?_⟩
  obtain⟨z0,z1,rfl,q⟩:=h;exact QB tx.w q
theorem Zv2{fd:FuncData}{Zet Zes Ziq Zer Zeq Zep Zio Zeo Zen Zb5:FuncData}(F:m6 K "do" "do" Zrt Ru fd)(Lq:Hh P w K mg base 3 jq Zet J7 (eO XQ (yj dU bh cU dm) KR))(Lp:Hh P w K mg base 3 jo Zes J0 (eO XQ (yj dU bh cU dm) KQ))(RN:Hh P w K mg base 4 kj Ziq QD (eO XQ (yj dU bh cU dm) Vx))(Ln:Hh P w K mg base 4 jm Zer JZ (eO XQ (yj dU bh cU dm) KN))(Lj:Hh P w K mg base 4 jk Zeq JX (eO XQ (yj dU bh cU dm) KD))(Li:Hh P w K mg base 3 jj Zep JW (eO XQ (yj dU bh cU dm) isName))(RM:Hh P w K mg base 4 j9 Zio QC (eO XQ (yj dU bh cU dm) Vw))(Lh:Hh P w K mg base 3 ji Zeo JV (eO XQ (yj dU bh cU dm) KC))(Lg:Hh P w K mg base 4 jg Zen JT (eO XQ (yj dU bh cU dm) Kz))(FQ:Hh P w K mg base 3 gR Zb5 Fe (eO XQ (yj dU bh cU dm) CQ)):pF P w K mg base 5 Ru fd Zp5 (eO XQ (yj dU bh cU dm) (λ_=>True)):=by
 have sc:=Zuu;have tx:qd K XQ aC aL aK aP aJ aH aG aO aF aD aA:=⟨T.bV,T.bU,T.cM,T.bT,T.bR,T.bQ,T.cL,T.bO,T.bN,T.bH,⟨⟨T.dB,T.bJ,T.cQ,T.cP,T.cJ,T.bF,T.dw,T.cN,T.bG,T.cH,T.cI,T.dW⟩,T.dJ,T.cg,T.bZ,T.bL,T.bK,T.aW,T.d7,T.cR,T.cG,T.dO,T.bD,T.cF,T.cY,T.aY,T.aZ,T.bC,T.aR,T.bw,T.cj,T.bA,T.aX,T.bf,T.aQ,T.bB⟩,T.cT,T.cB,T.cC,T.bM,T.cu⟩;walk_at "okX"
 ·refine⟨Zk8 K jq jo kj jm jk jj j9 ji jg gR (eO XQ (yj dU bh cU dm) KR) (eO XQ (yj dU bh cU dm) KQ) (eO XQ (yj dU bh cU dm) Vx) (eO XQ (yj dU bh cU dm) KN) (eO XQ (yj dU bh cU dm) KD) (eO XQ (yj dU bh cU dm) isName) (eO XQ (yj dU bh cU dm) Vw) (eO XQ (yj dU bh cU dm) KC) (eO XQ (yj dU bh cU dm) Kz) (eO XQ (yj dU bh cU dm) CQ) E,(au (kY 2 sc.nd (G.Zs3 T.Vk rfl (mR eN (pv 1) (aN)) (λ_ _=>rfl)))
   (bu (dg (G.Zl1 (k:=4) (G.FnT.cons (by decide) Lj.g Lj.b Lj.k (G.FnT.cons (by decide) RN.g RN.b RN.k (G.FnT.cons (by decide) RM.g RM.b RM.k (G.FnT.cons (by decide) Lq.g Lq.b Lq.k (G.FnT.cons (by decide) Lp.g Lp.b Lp.k (G.FnT.cons (by decide) Ln.g Ln.b Ln.k (G.FnT.cons (by decide) FQ.g FQ.b FQ.k (G.FnT.cons (by decide) Lh.g Lh.b Lh.k (G.FnT.cons (by decide) Li.g Li.b Li.k (G.FnT.cons (by decide) Lg.g Lg.b Lg.k G.FnT.nil)))))))))) (hr.mono (by decide)) rfl (Or.inl rfl) G.Gs (aa (pv 0) (aa (pv 1) aB)))))),?_⟩
  obtain⟨z0,z1,rfl,q⟩:=h;exact Zwi tx.w q
theorem Z8{fd:FuncData}(F:m6 K "forms_of" "forms_of" Ei mL fd):pF P w K mg base 1 mL fd ["word"] (O9 K):=by
 have sc:=ZL;have tx:qd K XQ aC aL aK aP aJ aH aG aO aF aD aA:=⟨T.bV,T.bU,T.cM,T.bT,T.bR,T.bQ,T.cL,T.bO,T.bN,T.bH,⟨⟨T.dB,T.bJ,T.cQ,T.cP,T.cJ,T.bF,T.dw,T.cN,T.bG,T.cH,T.cI,T.dW⟩,T.dJ,T.cg,T.bZ,T.bL,T.bK,T.aW,T.d7,T.cR,T.cG,T.dO,T.bD,T.cF,T.cY,T.aY,T.aZ,T.bC,T.aR,T.bw,T.cj,T.bA,T.aX,T.bf,T.aQ,T.bB⟩,T.cT,T.cB,T.cC,T.bM,T.cu⟩;walk_at "ok"
 ·refine⟨Bm aL aK aP aJ aH aG aO aF aD aA,(bu (dg (G.Zp2 T.Qa rfl (pv 0) ⟨rfl,rfl,rfl,rfl⟩))),?_⟩;obtain⟨z0,rfl,q⟩:=h;exact Zb2 tx q
theorem Zl6{fd:FuncData}(F:m6 K "tried" "tried" W8 tH fd){Uj:FuncData}(Zg:Hh P w K mg base 6 jG Uj zE (O6 XQ (yj dU bh cU dm))):pF P w K mg base 7 tH fd Xn (O4 XQ (yj dU bh cU dm)):=by
 have sc:=Zju;walk_at "ok"
 ·refine⟨Qw K (O6 XQ (yj dU bh cU dm)),(au (fY (rD oK (mR eN (pv 1) (aN)) (T.OJ.pe rfl)) (bu (Zkh)) dZ)
   (bu (dg (gj (aa (mG Zg hr T.Ho (aa (pv 0) (aa (pv 1) aB))) aB))))),?_⟩
  obtain⟨z0,z1,rfl,q⟩:=h;exact Zji q
theorem S7{fd:FuncData}(F:m6 K "tells_loss" "tells_loss" yQ jH fd):pF P w K mg base 1 jH fd zF (O5):=by
 have sc:=SJ;walk_at "ok"
 ·refine⟨xH K,(bu (dg ((JS (uM Zl5 (gB G.iH (by rfl) T.qC G.boot_len (aa (pv 0) aB)) (aN) (xU _)) (JP (uM oK (mR eN (mR gP (pv 0) (Zfq Ws (aN))) (aN)) (dI) (xU _))))))),?_⟩;obtain⟨z0,rfl,q⟩:=h;exact Sg q
theorem S6{fd:FuncData}{Zn8 Zek:FuncData}(F:m6 K "tried_deed" "tried_deed" yO jG fd)(Znp:Hh P w K mg base 5 Ru Zn8 Zp5 (eO XQ (yj dU bh cU dm) (λ_=>True)))(Df:G.HhH P w K mg base 1 nQ Zek ["word"] (CZ)):pF P w K mg base 6 jG fd zE (O6 XQ (yj dU bh cU dm)):=by
 have sc:=Sy;walk_at "ok"
 ·refine⟨xG bh dU cU dm (eO XQ (yj dU bh cU dm) (λ_=>True)) (CZ),(bu (G.Zon ⟨rfl,rfl⟩ rfl T.BW rfl T.Kr rfl T.Ze1 rfl T.QZ (λcls h=>by rcases h with rfl<;>first | exact T.lR) (λcls h=>by rcases h with rfl<;>first | exact⟨T.lZ,T.oO⟩) (λcls h=>by rcases h with rfl<;>first | exact⟨T.oN,T.pZ,T.wN⟩) (λcls h=>by rcases h with rfl<;>first | exact⟨T.mU,T.oM,T.qU,T.qb⟩) (λEx pn xe hx=>(bu (dg (G.Zl0 Znp.g (hr.mono (by decide)) rfl T.Zso Znp.k Znp.b .nil hx (aa (pv 0) (aa (pv 1) aB)))))) (λea pn=>(bu (dg (G.Gr Df hr T.yq (aa (dI) aB))))) (λea pn=>(bu (dg (G.Gr Df hr T.yq (aa (dI) aB))))) (λea pn=>(bu (dg (G.Gr Df hr T.yq (aa (dI) aB))))) (λea pn=>(bu (dg (G.Gr Df hr T.yq (aa (dI) aB))))))),?_⟩;obtain⟨z0,z1,rfl,q⟩:=h;exact R3 rfl rfl rfl rfl q
theorem Zdg{fd:FuncData}(F:m6 K "refused" "refused" Jv nQ fd):G.FnH P w K mg base (G.DY P w) 1 nQ fd ["word"] (CZ):=by
 have sc:=Zcl;refine G.ZFm F sc (λvs H Q E h=>?_) (λcdv ea A outer s H vs Q E hr h=>?_)
 ·obtain⟨z0,rfl,q⟩:=h;rfl
 ·refine⟨En,(bu (dg (gF (aa (dI) (aa (pv 0) (aa (gj aB) aB)))))),?_⟩;obtain⟨z0,rfl,q⟩:=h;exact Zd2 q
theorem Zs8{fd:FuncData}{Zem Zn6 tU:FuncData}(F:G.Znq K "run" "run" Zfl Cj fd)(Zj8:Hh P w K mg base 2 nT Zem ["log"] (Ir))(Zr5:Hh P w K mg base 7 tH Zn6 Xn (O4 XQ (yj dU bh cU dm)))(sV:Hh P w K mg base 5 j6 tU ["scene"] (nU aC XQ)):pF P w K mg base 8 Cj fd Zl2 (Zgo aC XQ):=by
 have sc:=Zrr;have tx:qd K XQ aC aL aK aP aJ aH aG aO aF aD aA:=⟨T.bV,T.bU,T.cM,T.bT,T.bR,T.bQ,T.cL,T.bO,T.bN,T.bH,⟨⟨T.dB,T.bJ,T.cQ,T.cP,T.cJ,T.bF,T.dw,T.cN,T.bG,T.cH,T.cI,T.dW⟩,T.dJ,T.cg,T.bZ,T.bL,T.bK,T.aW,T.d7,T.cR,T.cG,T.dO,T.bD,T.cF,T.cY,T.aY,T.aZ,T.bC,T.aR,T.bw,T.cj,T.bA,T.aX,T.bf,T.aQ,T.bB⟩,T.cT,T.cB,T.cC,T.bM,T.cu⟩;walk_at "okD"
 ·refine⟨Zd3 K (Ir) (O4 XQ (yj dU bh cU dm)) (nU aC XQ),(au (kY 2 sc.nd (mG sV hr T.vM (aa (pv 0) aB)))
   (au (kY 3 sc.nd (gj aB))
   (au (xO PassesOwn.never rfl (oH (yo Ge (cZ (pv 0) rfl) Gq (G.Zs1 (pv 1)))) (lQ (i:=4) sc.nd rfl (Or.inl rfl))
   (au (oG (rE PySem.F.plainAttrs_list PySem.F.slot_list_append PySem.F.type_list_append lz (pv 3) (aa (mG Zr5 hr T.Zft (aa (pv 2) (aa (pv 4) aB))) aB)))
   (bu (fY (lF (mG Zj8 hr T.Vs (aa (pv 3) aB))) (bu (Zki)) dZ))))
   (bu (dg (pv 3)))))),?_⟩
  obtain⟨z0,rfl,q⟩:=h;exact Zrv tx q
theorem Zdi{fd:FuncData}(F:m6 K "is_lost" "is_lost" Jx nT fd){Uk:FuncData}(Zh:Hh P w K mg base 1 jH Uk zF (O5)):pF P w K mg base 2 nT fd ["log"] (Ir):=by
 have sc:=Zcn;walk_at "ok"
 ·refine⟨Ep K (O5),(bu (dg ((JS (uM Zl5 (gB G.iH (by rfl) T.qC G.boot_len (aa (pv 0) aB)) (aN) (xU _)) (JP (mG Zh hr T.Hq (aa (mR gP (pv 0) (Zfq Ws (aN))) aB))))))),?_⟩;obtain⟨z0,rfl,q⟩:=h;exact Zea q
theorem Zdf{fd:FuncData}{mK Ro:FuncData}(F:m6 K "written" "written" Ju nP fd)(jf:Hh P w K mg base 2 gD mK ["self"] (pK XQ))(Uv:Hh P w K mg base 2 iR Ro xP (O2)):pF P w K mg base 3 nP fd ["scene"] (CW aC XQ):=by
 have sc:=Zck;have tx:qd K XQ aC aL aK aP aJ aH aG aO aF aD aA:=⟨T.bV,T.bU,T.cM,T.bT,T.bR,T.bQ,T.cL,T.bO,T.bN,T.bH,⟨⟨T.dB,T.bJ,T.cQ,T.cP,T.cJ,T.bF,T.dw,T.cN,T.bG,T.cH,T.cI,T.dW⟩,T.dJ,T.cg,T.bZ,T.bL,T.bK,T.aW,T.d7,T.cR,T.cG,T.dO,T.bD,T.cF,T.cY,T.aY,T.aZ,T.bC,T.aR,T.bw,T.cj,T.bA,T.aX,T.bf,T.aQ,T.bB⟩,T.cT,T.cB,T.cC,T.bM,T.cu⟩;walk_at "ok"
 ·refine⟨Em K XQ.K (pK XQ) (O2),(au (Zd5 (i:=1) sc.nd rfl (Or.inr rfl) (G.JR (cns:=[]) [] (oH (cZ (pv 0) rfl)) (λ_ _ _ _ _=>G.uv) (λ_ _ _ _ _=>(pv 0)) rfl rfl (by repeat (first | exact trivial | refine⟨rfl,?_⟩)) (by repeat (first | exact trivial | refine⟨rfl,?_⟩)) rfl (by decide +kernel) rfl (by decide +kernel) (by decide +kernel) rfl rfl (by decide +kernel)))
   (au (kY 2 sc.nd (cZ (pv 0) rfl))
   (au (kY 3 sc.nd (pU (cZ (pv 0) rfl) T.dO T.pW jf.g (hr.mono (by decide)) jf.b .nil G.jZ))
   (au (kY 4 sc.nd (gj (aa (G.Zky (G.PL.cons (dI) (G.PL.cons (G.Xm (pv 2)) G.PL.nil))) (aa (G.Zky (G.PL.cons (dI) (G.PL.cons (G.Xm (pv 3)) G.PL.nil))) aB))))
   (au (oG (rE PySem.F.plainAttrs_list PySem.F.slot_list_extend PySem.F.type_list_extend Vp (pv 4) (aa (G.JR (cns:=[]) [] (oH (cZ (pv 0) rfl)) (λ_ _ _ _ _=>G.uv) (λ_ _ _ _ _=>(G.Zky (G.PL.cons (dI) (G.PL.cons (G.Xm (pv 0)) (G.PL.cons (dI) (G.PL.cons (G.Xm (pv 1)) G.PL.nil)))))) rfl rfl (by repeat (first | exact trivial | refine⟨rfl,?_⟩)) (by repeat (first | exact trivial | refine⟨rfl,?_⟩)) rfl (by decide +kernel) rfl (by decide +kernel) (by decide +kernel) rfl rfl (by decide +kernel)) aB)))
   (au (oG (rE PySem.F.plainAttrs_list PySem.F.slot_list_append PySem.F.type_list_append lz (pv 4) (aa (dI) aB)))
   (au (oG (rE PySem.F.plainAttrs_list PySem.F.slot_list_extend PySem.F.type_list_extend Vp (pv 4) (aa (G.Zkw (cns:=["names"]) [1] (oH (cZ (pv 0) rfl)) (λ_ _ _ _ _=>G.uv) (λ_ _ _ _ _=>(mG Uv hr T.Dz (aa (pv 0) (aa (pv 1) aB)))) rfl rfl (by repeat (first | exact trivial | refine⟨rfl,?_⟩)) (by repeat (first | exact trivial | refine⟨rfl,?_⟩)) rfl (by decide +kernel) rfl (by decide +kernel) (by decide +kernel) rfl (by decide +kernel)) aB)))
   (bu (dg (rE PySem.F.plainAttrs_str PySem.F.slot_str_join PySem.F.type_str_join G.XM (dI) (aa (pv 4) aB))))))))))),?_⟩
  obtain⟨z0,rfl,q⟩:=h;exact Zbx tx q
theorem QH{fd:FuncData}{Zb4 N6:FuncData}(F:m6 K "written_row" "written_row" xq iR fd)(Zff:Hh P w K mg base 1 mL Zb4 ["word"] (O9 K))(RK:Hh P w K mg base 1 ig N6 vC (O3)):pF P w K mg base 2 iR fd xP (O2):=by
 have sc:=Ql;walk_at "ok"
 ·refine⟨vo K (O9 K) (O3),(au (kY 2 sc.nd (mR eN (pv 0) (aN)))
   (au (fY (rD oK (pv 2) (T.OJ.pe rfl)) (bu (dg (rE PySem.F.plainAttrs_str PySem.F.slot_str_join PySem.F.type_str_join G.XM (dI) (aa (gj (aa (pv 2) (aa (nO G.K8 (by rfl) T.Dt G.boot_str (aa (mR eN (pv 0) (aN)) aB)) aB))) aB)))) dZ)
   (au (G.Vn (iz:=3) (cns:=["names"]) [1] (G.Zfp true true rfl T.UJ (aa (mG Zff hr T.QX (aa (pv 2) aB)) (aa (yo Zrq (pv 0) (CP (aN)) Gq) aB))) (λ_ _ _ _ _=>G.uv) (λ_ _ _ _ _=>(mG RK hr T.By (aa (pv 0) (aa (pv 1) (aa (pv 2) aB))))) rfl rfl (by repeat (first | exact trivial | refine⟨rfl,?_⟩)) (by repeat (first | exact trivial | refine⟨rfl,?_⟩)) rfl (by decide +kernel) rfl (by decide +kernel) (by decide +kernel) rfl rfl (by decide +kernel) sc.nd rfl (Or.inl rfl) (Or.inr rfl) rfl)
   (bu (dg (rE PySem.F.plainAttrs_str PySem.F.slot_str_join PySem.F.type_str_join G.XM (dI) (aa (dj vK (dj vK (yo Ge (pv 3) Gq (CP (aN))) (gj (aa (pv 2) aB))) (yo Ge (pv 3) (CP (aN)) Gq)) aB))))))),?_⟩
  obtain⟨z0,z1,rfl,q⟩:=h;exact Pg q
theorem Ny{fd:FuncData}(F:m6 K "written_part" "written_part" u6 ig fd):pF P w K mg base 1 ig fd vC (O3):=by
 have sc:=Nr;walk_at "ok"
 ·refine⟨uh K,(bu (dg (Zkx (rD oK (pv 0) (dI)) (mR gP (pv 2) (pv 1)) (nO G.Wg (by rfl) T.Dt G.boot_str (aa (pv 1) aB))))),?_⟩;obtain⟨z0,z1,z2,rfl,q⟩:=h;exact Mr q
theorem NP{fd:FuncData}(F:m6 K "_law_cell_at" "_law_cell_at" vm iB fd):pF P w K mg base 1 iB fd vJ (Zgq K):=by
 have sc:=Nx;walk_at "ok"
 ·refine⟨ur K,(au (fY (rD Zfs (pv 1) (gB G.iH (by rfl) T.qC G.boot_len (aa (pv 0) aB))) (bu (dg (mR gP (pv 0) (pv 1)))) dZ)
   (bu (dg (aN)))),?_⟩
  obtain⟨z0,z1,rfl,q⟩:=h;exact Og q
theorem S8{fd:FuncData}(F:m6 K "_law_whole" "_law_whole" yR iY fd):pF P w K mg base 1 iY fd uN (zP):=by
 have sc:=SM;walk_at "ok"
 ·refine⟨sY,(bu (dg ((JS (gB G.vV (by rfl) T.jF G.boot_isinstance (aa (pv 0) (aa (zB rfl T.Zfh G.boot_int rfl) aB))) (JP (Zkt (gB G.vV (by rfl) T.jF G.boot_isinstance (aa (pv 0) (aa (zB rfl T.Wn G.boot_bool rfl) aB))))))))),?_⟩;obtain⟨z0,rfl,q⟩:=h;exact Us q
theorem Xv{fd:FuncData}(F:m6 K "_law_safe" "_law_safe" Be lq fd):pF P w K mg base 1 lq fd Bs (RJ):=by
 have sc:=W3;walk_at "ok"
 ·refine⟨zm,(au (fY (rD oK (pv 0) (dI)) (bu (dg (dI))) dZ)
   (bu (dg (pv 0)))),?_⟩
  obtain⟨z0,rfl,q⟩:=h;exact Y8 q
theorem J9{fd:FuncData}(F:m6 K "_law_hands_by" "_law_hands_by" uc gO fd){YL:FuncData}(Zbv:Hh P w K mg base 1 lq YL Bs (RJ)):pF P w K mg base 2 gO fd ux (Dd):=by
 have sc:=Jp;walk_at "ok"
 ·refine⟨rP K (RJ),(au (kY 2 sc.nd (dI))
   (au (kY 3 sc.nd (dj ju (aN) (dj gJ (dj kW (pv 1) (aN)) (aN))))
   (au (kY 4 sc.nd (gj aB))
   (au (xO PassesOwn.never rfl (ym rfl T.uL (aa (dj ju (aN) (dj gJ (pv 0) (aN))) aB)) (lQ (i:=5) sc.nd rfl (Or.inl rfl))
   (au (kY 6 sc.nd (dI))
   (au (xO PassesOwn.never rfl (ym rfl T.uL (aa (pv 3) aB)) (lQ (i:=7) sc.nd rfl (Or.inl rfl))
   (au (kY 8 sc.nd (dj ju (dj G.pH (dj G.pH (pv 7) (pv 7)) (aN)) (dj G.pH (pv 7) (dj gJ (dj kW (pv 1) (aN)) (aN)))))
   (au (fY (rD oK (pv 7) (dj gJ (dj kW (pv 0) (aN)) (pv 3))) (bu (kY 8 sc.nd (dj ju (pv 8) (pv 5)))) dZ)
   (bu (kY 6 sc.nd (dj jB (pv 6) (mR Ze9 (pv 2) (dj gJ (dj ju (pv 1) (pv 8)) (aN)))))))))
   (au (fY (rD oK (dj gJ (dj kW (pv 0) (aN)) (aN)) (aN)) (bu (kY 6 sc.nd (dj G.Zp6 (mR Ze9 (pv 2) (dj gJ (pv 1) (aN))) (dj ju (aN) (dj gJ (dj ju (pv 5) (dj kW (pv 1) (aN))) (aN)))))) dZ)
   (bu (oG (rE PySem.F.plainAttrs_list PySem.F.slot_list_append PySem.F.type_list_append lz (pv 4) (aa (gF (aa (mG Zbv hr T.LQ (aa (pv 6) aB)) (aa (dj ju (aN) (dj gJ (dj ju (dj kW (pv 1) (aN)) (dj G.pH (dj G.pH (pv 5) (pv 5)) (aN))) (aN))) aB))) aB))))))))
   (au (fY (PW.pt (Qy (rD oK (dj gJ (dj kW (pv 0) (aN)) (aN)) (aN)) (Gn (rD Xo (dI) (G.JR (cns:=[]) [] (oH (pv 4)) (λ_ _ _ _ _=>G.uv) (λ_ _ _ _ _=>(pv 0)) rfl rfl (by repeat (first | exact trivial | refine⟨rfl,?_⟩)) (by repeat (first | exact trivial | refine⟨rfl,?_⟩)) rfl (by decide +kernel) rfl (by decide +kernel) (by decide +kernel) rfl rfl (by decide +kernel)) (by with_unfolding_all rfl))))) (bu (zy (gF (aa (dI) (aa (mR eN (mR gP (pv 4) (aN)) (aN)) aB))) (zA (pv 4) (aN) set_list))) dZ)
   (bu (dg (pv 4)))))))),?_⟩
  obtain⟨z0,z1,rfl,q⟩:=h;exact La q
theorem NK{fd:FuncData}(F:m6 K "_law_kind_by" "_law_kind_by" vg iy fd):pF P w K mg base 1 iy fd vI (Io):=by
 have sc:=Nv;walk_at "ok"
 ·refine⟨uq K,(au (kY 1 sc.nd (mR gP (gj (aa (dI) (aa (dI) (aa (dI) aB)))) (dj gJ (pv 0) (aN))))
   (au (fY (rD oK (dj gJ (dj kW (pv 0) (aN)) (aN)) (aN)) (bu (kY 1 sc.nd (dj jB (pv 1) (dI)))) dZ)
   (au (fY (rD oK (dj gJ (dj kW (pv 0) (aN)) (aN)) (aN)) (bu (kY 1 sc.nd (dj jB (pv 1) (dI)))) dZ)
   (bu (dg (pv 1)))))),?_⟩
  obtain⟨z0,rfl,q⟩:=h;exact Oe q
theorem Nz{fd:FuncData}(F:m6 K "_law_word_by" "_law_word_by" vd iu fd):pF P w K mg base 1 iu fd vG (Cw):=by
 have sc:=Nt;walk_at "ok"
 ·refine⟨um,(au (kY 2 sc.nd (dI))
   (au (kY 3 sc.nd (dI))
   (au (xO PassesOwn.never rfl (ym rfl T.uL (aa (dj ju (aN) (dj gJ (pv 1) (aN))) aB)) (lQ (i:=4) sc.nd rfl (Or.inl rfl))
   (bu (kY 3 sc.nd (dj jB (pv 3) (mR Ze9 (pv 2) (dj gJ (dj ju (pv 0) (dj G.pH (dj G.pH (pv 4) (pv 4)) (dj gJ (dj kW (pv 1) (aN)) (aN)))) (aN)))))))
   (bu (dg (pv 3)))))),?_⟩
  obtain⟨z0,z1,rfl,q⟩:=h;exact Oc q
theorem S9{fd:FuncData}(F:m6 K "_law_large" "_law_large" yS jJ fd):pF P w K mg base 1 jJ fd zG (wQ):=by
 have sc:=SN;walk_at "ok"
 ·refine⟨xJ,(au (fY (rD oK (dj gJ (dj kW (pv 1) (aN)) (aN)) (aN)) (bu (dg (dj gJ (dj G.Zp9 (dj ju (pv 0) (aN)) (aN)) (dj ju (pv 2) (aN))))) dZ)
   (bu (dg (dj gJ (pv 0) (dj ju (pv 2) (aN)))))),?_⟩
  obtain⟨z0,z1,z2,rfl,q⟩:=h;exact Ut q
theorem QM{fd:FuncData}{Ul N7:FuncData}(F:m6 K "_law_row_by" "_law_row_by" xF iV fd)(uT:Hh P w K mg base 1 jJ Ul zG (wQ))(RP:Hh P w K mg base 1 iu N7 vG (Cw)):pF P w K mg base 2 iV fd xT (O8):=by
 have sc:=Qp;walk_at "okw"
 ·refine⟨vB K (wQ) (Cw),(oX (kY 3 sc.nd (dj gJ (dj G.pH (dj ju (dj ju (pv 0) (dj G.pH (dj G.pH (aN) (pv 1)) (pv 1))) (aN)) (aN)) (aN)))
   (oX (kY 4 sc.nd (dj gJ (dj G.pH (dj ju (dj ju (pv 0) (dj G.pH (aN) (pv 1))) (aN)) (aN)) (aN)))
   (oX (kY 5 sc.nd (dj gJ (dj kW (pv 3) (aN)) (gB G.iH (by rfl) T.qC G.boot_len (aa (pv 2) aB))))
   (oX (kY 6 sc.nd (dj gJ (pv 4) (gB G.iH (by rfl) T.qC G.boot_len (aa (pv 2) aB))))
   (oX (kY 7 sc.nd (dj gJ (dj kW (pv 4) (aN)) (mR eN (mR gP (pv 2) (pv 5)) (aN))))
   (oX (kY 8 sc.nd (dj gJ (dj kW (pv 3) (aN)) (mR eN (mR gP (pv 2) (pv 5)) (aN))))
   (oX (kY 9 sc.nd (mG uT hr T.qX (aa (pv 0) (aa (pv 3) (aa (mR gP (gj (aa (aN) (aa (aN) aB))) (dj gJ (pv 4) (aN))) aB)))))
   (oX (kY 10 sc.nd (mG uT hr T.qX (aa (pv 0) (aa (pv 3) (aa (dj QF (dj Zdc (aN) (aN)) (aN)) aB)))))
   (oX (fY (rD oK (dj gJ (dj kW (pv 4) (aN)) (aN)) (aN)) (bu (kY 10 sc.nd (dj QF (aN) (pv 10)))) dZ)
   (oX (kY 11 sc.nd (mG RP hr T.BP (aa (pv 0) (aa (pv 4) aB))))
   (oX (fY (rD oK (dj gJ (dj kW (pv 4) (aN)) (aN)) (aN)) (bu (kY 11 sc.nd (dI))) dZ)
   (Zom (dg (mR gP (gj (aa (gF (aa (dI) (aa (pv 5) (aa (pv 7) (aa (dj gJ (dj kW (pv 4) (aN)) (aN)) (aa (mG uT hr T.qX (aa (pv 0) (aa (pv 3) (aa (dj Zdc (aN) (aN)) aB)))) aB)))))) (aa (gF (aa (dI) (aa (pv 5) (aa (pv 7) (aa (pv 8) (aa (pv 9) aB)))))) (aa (gF (aa (dI) (aa (pv 5) (aa (pv 8) (aa (pv 9) (aa (pv 7) aB)))))) (aa (gF (aa (dI) (aa (pv 5) (aa (pv 7) (aa (pv 8) aB))))) (aa (gF (aa (dI) (aa (pv 5) (aa (pv 7) aB)))) (aa (gF (aa (dI) (aa (pv 5) (aa (pv 7) (aa (pv 6) (aa (dj gJ (dj kW (pv 3) (aN)) (mR eN (mR gP (pv 2) (pv 6)) (aN))) aB)))))) (aa (gF (aa (dI) (aa (pv 5) (aa (pv 8) (aa (pv 10) aB))))) (aa (gF (aa (dI) (aa (pv 5) (aa (pv 8) aB)))) (aa (gF (aa (dI) (aa (pv 5) (aa (pv 8) (aa (pv 11) aB))))) (aa (gF (aa (dI) (aa (pv 5) (aa (pv 7) (aa (pv 11) aB))))) (aa (gF (aa (dI) (aa (dj ju (aN) (mG uT hr T.qX (aa (pv 0) (aa (pv 3) (aa (aN) aB))))) aB))) aB)))))))))))) (dj gJ (pv 3) (aN)))))))))))))))),?_⟩
  obtain⟨z0,z1,z2,rfl,q⟩:=h;exact RG q
theorem NB{fd:FuncData}(F:m6 K "_law_text_of" "_law_text_of" vf iw fd):pF P w K mg base 1 iw fd vH (Im):=by
 have sc:=Nu;walk_at "ok"
 ·refine⟨uo K,(au (fY (rD oK (mR eN (pv 0) (aN)) (dI)) (bu (dg (dj jB (dI) (nO G.K8 (by rfl) T.Dt G.boot_str (aa (mR eN (pv 0) (aN)) aB))))) dZ)
   (au (kY 2 sc.nd (dj jB (dj jB (mR eN (mR gP (pv 1) (mR eN (pv 0) (aN))) (aN)) (dI)) (mR eN (pv 0) (aN))))
   (au (xO PassesOwn.never rfl (Zhe rfl T.uL (aa (aN) (aa (gB G.iH (by rfl) T.qC G.boot_len (aa (pv 0) aB)) aB))) (lQ (i:=3) sc.nd rfl (Or.inl rfl))
   (au (kY 4 sc.nd (nO G.Wg (by rfl) T.Dt G.boot_str (aa (mR eN (pv 0) (pv 3)) aB)))
   (au (fY (PW.pt (Qy (rD oK (mR eN (pv 0) (aN)) (dI)) (Gn (rD oK (pv 3) (aN))))) (bu (kY 4 sc.nd (mR eN (mR gP (pv 1) (mR eN (pv 0) (aN))) (aN)))) dZ)
   (bu (kY 2 sc.nd (dj jB (dj jB (pv 2) (dI)) (pv 4)))))))
   (bu (dg (pv 2)))))),?_⟩
  obtain⟨z0,z1,rfl,q⟩:=h;exact Od q
theorem J8{fd:FuncData}(F:m6 K "_law_same_row" "_law_same_row" t8 gM fd){yc:FuncData}(zU:Hh P w K mg base 1 iY yc uN (zP)):pF P w K mg base 2 gM fd uw (Y9):=by
 have sc:=Jo;walk_at "ok"
 ·refine⟨rO K (zP),(au (fY (PW.pt (qF (nW (lF (gB G.vV (by rfl) T.jF G.boot_isinstance (aa (pv 0) (aa (zB rfl T.Oj G.boot_tuple rfl) aB))))) (rY (rD qG (gB G.iH (by rfl) T.qC G.boot_len (aa (pv 0) aB)) (gB G.iH (by rfl) T.qC G.boot_len (aa (pv 1) aB)))))) (bu (dg (m8))) dZ)
   (au (xO PassesOwn.never rfl (G.Zfp true true rfl T.UJ (aa (pv 0) (aa (pv 1) aB))) (Xk rfl (tQ (lQ (i:=2) sc.nd rfl (Or.inl rfl)) (tQ (lQ (i:=3) sc.nd rfl (Or.inl rfl)) Om)))
   (au (fY (PW.pt (Qy (lF (gB G.vV (by rfl) T.jF G.boot_isinstance (aa (pv 3) (aa (zB rfl T.Dt G.boot_str rfl) aB)))) (Gn (nW (lF (gB G.vV (by rfl) T.jF G.boot_isinstance (aa (pv 2) (aa (zB rfl T.Dt G.boot_str rfl) aB)))))))) (bu (dg (m8))) dZ)
   (au (fY (PW.pt (Qy (nW (lF (gB G.vV (by rfl) T.jF G.boot_isinstance (aa (pv 3) (aa (zB rfl T.Dt G.boot_str rfl) aB))))) (Gn (nW (lF (mG zU hr T.zL (aa (pv 2) aB))))))) (bu (dg (m8))) dZ)
   (bu (fY (rD qG (pv 2) (pv 3)) (bu (dg (m8))) dZ)))))
   (bu (dg (m8))))),?_⟩
  obtain⟨z0,z1,rfl,q⟩:=h;exact K9 q
theorem Gv{fd:FuncData}(F:m6 K "_law_same_rows" "_law_same_rows" rH gm fd){K1:FuncData}(Oh:Hh P w K mg base 2 gM K1 uw (Y9)):pF P w K mg base 3 gm fd rZ (O7):=by
 have sc:=Gf;walk_at "ok"
 ·refine⟨qM K (Y9),(au (fY (PW.pt (qF (nW (lF (gB G.vV (by rfl) T.jF G.boot_isinstance (aa (pv 0) (aa (zB rfl T.w6 G.boot_list rfl) aB))))) (rY (rD qG (gB G.iH (by rfl) T.qC G.boot_len (aa (pv 0) aB)) (gB G.iH (by rfl) T.qC G.boot_len (aa (pv 1) aB)))))) (bu (dg (m8))) dZ)
   (au (xO PassesOwn.never rfl (G.Zs2 rfl T.UJ (aa (pv 0) (aa (pv 1) aB))) (Xk rfl (tQ (lQ (i:=2) sc.nd rfl (Or.inl rfl)) (tQ (lQ (i:=3) sc.nd rfl (Or.inl rfl)) Om)))
   (bu (fY (nW (lF (mG Oh hr T.zW (aa (pv 2) (aa (pv 3) aB))))) (bu (dg (m8))) dZ)))
   (bu (dg (m8))))),?_⟩
  obtain⟨z0,z1,rfl,q⟩:=h;exact Ii q
theorem Fg{fd:FuncData}{mK HY yc:FuncData}(F:m6 K "_law_same_scene" "_law_same_scene" qK fL fd)(jf:Hh P w K mg base 2 gD mK ["self"] (pK XQ))(yz:Hh P w K mg base 3 gm HY rZ (O7))(zU:Hh P w K mg base 1 iY yc uN (zP)):pF P w K mg base 4 fL fd oJ (vW aC XQ):=by
 have sc:=Ec;have tx:qd K XQ aC aL aK aP aJ aH aG aO aF aD aA:=⟨T.bV,T.bU,T.cM,T.bT,T.bR,T.bQ,T.cL,T.bO,T.bN,T.bH,⟨⟨T.dB,T.bJ,T.cQ,T.cP,T.cJ,T.bF,T.dw,T.cN,T.bG,T.cH,T.cI,T.dW⟩,T.dJ,T.cg,T.bZ,T.bL,T.bK,T.aW,T.d7,T.cR,T.cG,T.dO,T.bD,T.cF,T.cY,T.aY,T.aZ,T.bC,T.aR,T.bw,T.cj,T.bA,T.aX,T.bf,T.aQ,T.bB⟩,T.cT,T.cB,T.cC,T.bM,T.cu⟩;walk_at "ok"
 ·refine⟨qm K XQ.K (pK XQ) (O7) (zP),(au (fY (PW.pt (qF (nW (lF (mG zU hr T.zL (aa (cZ (pv 0) rfl) aB)))) (qF (rD qG (cZ (pv 0) rfl) (pv 1)) (rY (rD qG (pU (cZ (pv 0) rfl) T.dO T.pW jf.g (hr.mono (by decide)) jf.b .nil G.jZ) (pv 2)))))) (bu (dg (m8))) dZ)
   (bu (dg ((JS (mG yz hr T.sI (aa (cZ (pv 0) rfl) (aa (pv 3) aB))) (JP (mG yz hr T.sI (aa (cZ (pv 0) rfl) (aa (pv 4) aB))))))))),?_⟩
  obtain⟨z0,z1,z2,z3,z4,rfl,q⟩:=h;exact Fy tx q
theorem Gw{fd:FuncData}{mK YK:FuncData}(F:m6 K "_law_new_world" "_law_new_world" rJ fW fd)(jf:Hh P w K mg base 2 gD mK ["self"] (pK XQ))(Zfe:Hh P w K mg base 1 vQ YK ["world"] (FP XQ)):pF P w K mg base 3 fW fd pG (FN XQ):=by
 have sc:=Gg;have tx:qd K XQ aC aL aK aP aJ aH aG aO aF aD aA:=⟨T.bV,T.bU,T.cM,T.bT,T.bR,T.bQ,T.cL,T.bO,T.bN,T.bH,⟨⟨T.dB,T.bJ,T.cQ,T.cP,T.cJ,T.bF,T.dw,T.cN,T.bG,T.cH,T.cI,T.dW⟩,T.dJ,T.cg,T.bZ,T.bL,T.bK,T.aW,T.d7,T.cR,T.cG,T.dO,T.bD,T.cF,T.cY,T.aY,T.aZ,T.bC,T.aR,T.bw,T.cj,T.bA,T.aX,T.bf,T.aQ,T.bB⟩,T.cT,T.cB,T.cC,T.bM,T.cu⟩;walk_at "ok"
 ·refine⟨qO K XQ.K (pK XQ) (FP XQ),(au (fY (PW.pt (qF (rD qG (cZ (cZ (pv 0) rfl) rfl) (pv 1)) (qF (rD (G.Zde (HH hr)) (cZ (cZ (pv 0) rfl) rfl) (gj aB)) (qF (rD qG (cZ (cZ (pv 0) rfl) rfl) (aN)) (rY (rD qG (cZ (cZ (pv 0) rfl) rfl) (aN))))))) (bu (dg (m8))) dZ)
   (au (fY (PW.pt (qF (rD qG (pU (cZ (pv 0) rfl) T.dO T.pW jf.g (hr.mono (by decide)) jf.b .nil G.jZ) (pv 2)) (qF (rD (G.Zp8 (HH hr)) (cZ (pv 0) rfl) (Z3)) (rY (rD qG (cZ (cZ (pv 0) rfl) rfl) (dI)))))) (bu (dg (m8))) dZ)
   (au (fY (PW.pt (qF (rD qG (cZ (cZ (pv 0) rfl) rfl) (aN)) (rY (rD (G.Zde (HH hr)) (cZ (cZ (pv 0) rfl) rfl) (gj aB))))) (bu (dg (m8))) dZ)
   (au (fY (rD (G.Zde (HH hr)) (G.Zkw (cns:=[]) [] (oH (cZ (pv 0) rfl)) (λ_ _ _ _ _=>G.uv) (λ_ _ _ _ _=>(cZ (pv 0) rfl)) rfl rfl (by repeat (first | exact trivial | refine⟨rfl,?_⟩)) (by repeat (first | exact trivial | refine⟨rfl,?_⟩)) rfl (by decide +kernel) rfl (by decide +kernel) (by decide +kernel) rfl (by decide +kernel)) (G.JR (cns:=[]) [] (oH (pv 3)) (λ_ _ _ _ _=>G.uv) (λ_ _ _ _ _=>(pv 0)) rfl rfl (by repeat (first | exact trivial | refine⟨rfl,?_⟩)) (by repeat (first | exact trivial | refine⟨rfl,?_⟩)) rfl (by decide +kernel) rfl (by decide +kernel) (by decide +kernel) rfl rfl (by decide +kernel))) (bu (dg (m8))) dZ)
   (bu (dg (uM (G.Zs6 hr.units) (mG Zfe hr T.Zdz (aa (pv 0) aB)) (G.JR (cns:=[]) [] (oH (pv 3)) (λ_ _ _ _ _=>G.uv) (λ_ _ _ _ _=>(dj Zdb (gj (aa (nY) aB)) (pv 1))) rfl rfl (by repeat (first | exact trivial | refine⟨rfl,?_⟩)) (by repeat (first | exact trivial | refine⟨rfl,?_⟩)) rfl (by decide +kernel) rfl (by decide +kernel) (by decide +kernel) rfl rfl (by decide +kernel)) (xU _)))))))),?_⟩
  obtain⟨z0,z1,z2,z3,rfl,q⟩:=h;exact Ij tx.w q
theorem Fj{fd:FuncData}{qx N8 Rq Zn7 zM Zej:FuncData}(F:m6 K "_law_asked_anew" "_law_asked_anew" qL fZ fd)(gZ:Hh P w K mg base 4 fL qx oJ (vW aC XQ))(RQ:Hh P w K mg base 1 iw N8 vH (Im))(Zi:Hh P w K mg base 3 rA Rq ["scene"] (zR K aC))(Zgt:Hh P w K mg base 8 Cj Zn7 Zl2 (Zgo aC XQ))(Cy:Hh P w K mg base 3 jM zM wH (qy aC))(Wl:Hh P w K mg base 3 nP Zej ["scene"] (CW aC XQ)){Zbc:List Value}(Zbo:Binds K Zn7 ["scene","most"] Zbc)(Zaz:Vals [.non] Zbc):pF P w K mg base 9 fZ fd qT (Pa aC XQ):=by
 have sc:=Ed;have tx:qd K XQ aC aL aK aP aJ aH aG aO aF aD aA:=⟨T.bV,T.bU,T.cM,T.bT,T.bR,T.bQ,T.cL,T.bO,T.bN,T.bH,⟨⟨T.dB,T.bJ,T.cQ,T.cP,T.cJ,T.bF,T.dw,T.cN,T.bG,T.cH,T.cI,T.dW⟩,T.dJ,T.cg,T.bZ,T.bL,T.bK,T.aW,T.d7,T.cR,T.cG,T.dO,T.bD,T.cF,T.cY,T.aY,T.aZ,T.bC,T.aR,T.bw,T.cj,T.bA,T.aX,T.bf,T.aQ,T.bB⟩,T.cT,T.cB,T.cC,T.bM,T.cu⟩;walk_at "ok"
 ·refine⟨qp K (vW aC XQ) (Im) (zR K aC) (Zgo aC XQ) (qy aC) (CW aC XQ),(au (kY 5 sc.nd (sZ Zgt.g (hr.mono (by decide)) rfl T.Zlm Zgt.k Zbo Zaz G.jZ (aa (pv 0) aB)))
   (au (kY 6 sc.nd (mG Wl hr T.Kq (aa (pv 0) aB)))
   (au (kY 7 sc.nd (gF (aa (dI) (aa (aN) (aa (aN) aB)))))
   (au (oG (rE PySem.F.plainAttrs_list PySem.F.slot_list_append PySem.F.type_list_append lz (cZ (pv 0) rfl) (aa (pv 7) aB)))
   (au (kY 8 sc.nd (sZ Zgt.g (hr.mono (by decide)) rfl T.Zlm Zgt.k Zbo Zaz G.jZ (aa (pv 0) aB)))
   (au (fY (PW.pt (qF (rD qG (gB G.iH (by rfl) T.qC G.boot_len (aa (pv 8) aB)) (dj ju (gB G.iH (by rfl) T.qC G.boot_len (aa (pv 5) aB)) (aN))) (qF (rD (G.Zdd hr.units) (yo Ge (pv 8) Gq (CP (Zfq Ws (aN)))) (pv 5)) (rY (rD qG (mR eN (mR gP (mR gP (pv 8) (Zfq Ws (aN))) (aN)) (aN)) (dI)))))) (bu (dg (m8))) dZ)
   (au (fY (rD qG (mG Wl hr T.Kq (aa (pv 0) aB)) (dj jB (dj jB (pv 6) (dI)) (mG RQ hr T.BR (aa (pv 7) (aa (pv 3) aB))))) (bu (dg (m8))) dZ)
   (au (fY (nW (lF (mG gZ hr T.gY (aa (mG Zi hr T.XN (aa (pv 0) aB)) (aa (pv 1) (aa (pv 2) (aa (pv 3) (aa (dj vK (pv 4) (gj (aa (pv 7) aB))) aB)))))))) (bu (dg (m8))) dZ)
   (au (fY (nW (lF (mG gZ hr T.gY (aa (mG Cy hr T.BJ (aa (pv 0) (aa (gj (aa (pv 7) aB)) aB))) (aa (pv 1) (aa (pv 2) (aa (pv 3) (aa (dj vK (pv 4) (gj (aa (pv 7) (aa (pv 7) aB)))) aB)))))))) (bu (dg (m8))) dZ)
   (bu (dg (mG gZ hr T.gY (aa (pv 0) (aa (pv 1) (aa (pv 2) (aa (pv 3) (aa (dj vK (pv 4) (gj (aa (pv 7) aB))) aB))))))))))))))))),?_⟩
  obtain⟨z0,z1,z2,z3,z4,rfl,q⟩:=h;exact Fz tx q
theorem Bu{fd:FuncData}{rz Zn8 YK tU:FuncData}(F:m6 K "_law_worlds_apart" "_law_worlds_apart" pO fG fd)(pL:Hh P w K mg base 3 fW rz pG (FN XQ))(Znp:Hh P w K mg base 5 Ru Zn8 Zp5 (eO XQ (yj dU bh cU dm) (λ_=>True)))(Zfe:Hh P w K mg base 1 vQ YK ["world"] (FP XQ))(sV:Hh P w K mg base 5 j6 tU ["scene"] (nU aC XQ)):pF P w K mg base 6 fG fd pR (Pb aC XQ):=by
 have sc:=Az;have tx:qd K XQ aC aL aK aP aJ aH aG aO aF aD aA:=⟨T.bV,T.bU,T.cM,T.bT,T.bR,T.bQ,T.cL,T.bO,T.bN,T.bH,⟨⟨T.dB,T.bJ,T.cQ,T.cP,T.cJ,T.bF,T.dw,T.cN,T.bG,T.cH,T.cI,T.dW⟩,T.dJ,T.cg,T.bZ,T.bL,T.bK,T.aW,T.d7,T.cR,T.cG,T.dO,T.bD,T.cF,T.cY,T.aY,T.aZ,T.bC,T.aR,T.bw,T.cj,T.bA,T.aX,T.bf,T.aQ,T.bB⟩,T.cT,T.cB,T.cC,T.bM,T.cu⟩;walk_at "ok"
 ·refine⟨oW K (FN XQ) (eO XQ (yj dU bh cU dm) (λ_=>True)) (FP XQ) (nU aC XQ),(au (kY 5 sc.nd (mG sV hr T.vM (aa (pv 0) aB)))
   (au (fY (nW (lF (mG pL hr T.pJ (aa (pv 5) (aa (pv 1) (aa (pv 2) (aa (pv 3) aB))))))) (bu (dg (m8))) dZ)
   (au (kY 6 sc.nd (mG Znp hr T.Zso (aa (pv 5) (aa (gF (aa (dI) (aa (aN) (aa (pv 4) (aa (aN) (aa (aN) aB)))))) aB))))
   (au (kY 7 sc.nd (mG sV hr T.vM (aa (pv 0) aB)))
   (au (fY (PW.pt (qF (rD (G.Zdd hr.units) (pv 6) (gF (aa (dI) (aa (aN) (aa (gj aB) aB))))) (rY (nW (lF (mG pL hr T.pJ (aa (pv 7) (aa (pv 1) (aa (pv 2) (aa (pv 3) aB)))))))))) (bu (dg (m8))) dZ)
   (bu (dg ((JS (uM oK (mR gP (mR gP (mG Zfe hr T.Zdz (aa (pv 5) aB)) (aN)) (pv 4)) (aN) (xU _)) (JP (uM oK (cZ (cZ (pv 5) rfl) rfl) (aN) (xU _)))))))))))),?_⟩
  obtain⟨z0,z1,z2,z3,z4,rfl,q⟩:=h;exact Cv tx q
theorem Zs9{fl:Addr}{fd:FuncData}{mq Ft Ob K3 Oa rz Rt qx Cg Zel Rq zM tU:FuncData}(F:m6 K "law" "law" Qq fl fd)(iI:Hh P w K mg base 1 eX mq mX (jK aC))(Iu:Hh P w K mg base 9 fZ Ft qT (Pa aC XQ))(mY:Hh P w K mg base 1 iB Ob vJ (Zgq K))(Oi:Hh P w K mg base 2 gO K3 ux (Dd))(RT:Hh P w K mg base 1 iy Oa vI (Io))(pL:Hh P w K mg base 3 fW rz pG (FN XQ))(DW:Hh P w K mg base 2 iV Rt xT (O8))(gZ:Hh P w K mg base 4 fL qx oJ (vW aC XQ))(Dr:Hh P w K mg base 6 fG Cg pR (Pb aC XQ))(Zj7:Hh P w K mg base 3 nR Zel ["text"] (Dc XQ))(Zi:Hh P w K mg base 3 rA Rq ["scene"] (zR K aC))(Cy:Hh P w K mg base 3 jM zM wH (qy aC))(sV:Hh P w K mg base 5 j6 tU ["scene"] (nU aC XQ)):pF P w K mg base 10 fl fd ["_law_script"] (Zgp K):=by
 have sc:=Zrs;have tx:qd K XQ aC aL aK aP aJ aH aG aO aF aD aA:=⟨T.bV,T.bU,T.cM,T.bT,T.bR,T.bQ,T.cL,T.bO,T.bN,T.bH,⟨⟨T.dB,T.bJ,T.cQ,T.cP,T.cJ,T.bF,T.dw,T.cN,T.bG,T.cH,T.cI,T.dW⟩,T.dJ,T.cg,T.bZ,T.bL,T.bK,T.aW,T.d7,T.cR,T.cG,T.dO,T.bD,T.cF,T.cY,T.aY,T.aZ,T.bC,T.aR,T.bw,T.cj,T.bA,T.aX,T.bf,T.aQ,T.bB⟩,T.cT,T.cB,T.cC,T.bM,T.cu⟩;walk_at "ok"
 ·refine⟨Zd4 K aC (jK aC) (Pa aC XQ) (Zgq K) (Dd) (Io) (FN XQ) (O8) (vW aC XQ) (Pb aC XQ) (Dc XQ) (zR K aC) (qy aC) (nU aC XQ),(au (kY 1 sc.nd (dj gJ (dj G.pH (dj ju (mG mY hr T.lJ (aa (pv 0) (aa (aN) aB))) (aN)) (aN)) (aN)))
   (au (Zd5 (i:=2) sc.nd rfl (Or.inr rfl) (mG Oi hr T.zX (aa (pv 1) (aa (mG mY hr T.lJ (aa (pv 0) (aa (aN) aB))) aB))))
   (au (kY 3 sc.nd (dj ju (aN) (dj gJ (mG mY hr T.lJ (aa (pv 0) (aa (aN) aB))) (dj QF (dj Zdc (aN) (aN)) (aN)))))
   (au (kY 4 sc.nd (mG RT hr T.BV (aa (mG mY hr T.lJ (aa (pv 0) (aa (aN) aB))) aB)))
   (au (G.Vn (iz:=5) (cns:=["_law_hands"]) [2] (G.Zov rfl T.wu (aa (yo Ge (pv 0) (CP (aN)) (CP (aN))) aB)) (λ_ _ _ _ _=>G.uv) (λ_ _ _ _ _=>(mG DW hr T.xX (aa (pv 1) (aa (pv 0) (aa (pv 2) aB))))) rfl rfl (by repeat (first | exact trivial | refine⟨rfl,?_⟩)) (by repeat (first | exact trivial | refine⟨rfl,?_⟩)) rfl (by decide +kernel) rfl (by decide +kernel) (by decide +kernel) rfl rfl (by decide +kernel) sc.nd rfl (Or.inl rfl) (Or.inr rfl) rfl)
   (au (G.Qz (iz:=6) (cns:=["_law_script","_law_hands"]) [0,2] (ym rfl T.uL (aa (dj gJ (dj kW (pv 1) (aN)) (aN)) aB)) (λ_ _ _ _ _=>G.uv) (λ_ _ _ _ _=>(mG DW hr T.xX (aa (dj ju (mG mY hr T.lJ (aa (pv 1) (aa (dj ju (aN) (pv 0)) aB))) (aN)) (aa (pv 0) (aa (pv 2) aB))))) rfl rfl (by repeat (first | exact trivial | refine⟨rfl,?_⟩)) (by repeat (first | exact trivial | refine⟨rfl,?_⟩)) rfl (by decide +kernel) rfl (by decide +kernel) (by decide +kernel) rfl (by decide +kernel) sc.nd rfl (Or.inl rfl) (Or.inr rfl) rfl)
   (au (kY 7 sc.nd (nO G.sU (by rfl) T.w6 G.boot_list (aa (pv 2) aB)))
   (au (kY 8 sc.nd (nO G.sU (by rfl) T.w6 G.boot_list (aa (pv 5) aB)))
   (au (kY 9 sc.nd (nO G.sU (by rfl) T.w6 G.boot_list (aa (pv 6) aB)))
   (au (kY 10 sc.nd (wG T.yp iI.g (hr.mono (by decide)) rfl T.Ov iI.b .nil G.jZ (aa (pv 3) (aa (mG Zj7 hr T.Vr (aa (pv 4) aB)) (aa (pv 7) (aa (pv 8) aB))))))
   (au (oG (rE PySem.F.plainAttrs_list PySem.F.slot_list_append PySem.F.type_list_append lz (pv 7) (aa (gF (aa (dI) (aa (aN) aB))) aB)))
   (au (oG (rE PySem.F.plainAttrs_list PySem.F.slot_list_append PySem.F.type_list_append lz (pv 8) (aa (gF (aa (dI) (aa (aN) (aa (aN) aB)))) aB)))
   (au (kY 11 sc.nd (mG Cy hr T.BJ (aa (pv 10) (aa (pv 9) aB))))
   (au (fY (rD (G.Zdd hr.units) (pv 9) (pv 6)) (bu (dg (m8))) dZ)
   (au (oG (rE PySem.F.plainAttrs_list PySem.F.slot_list_append PySem.F.type_list_append lz (pv 9) (aa (gF (aa (dI) (aa (aN) (aa (aN) aB)))) aB)))
   (au (kY 12 sc.nd (mG Zi hr T.XN (aa (pv 10) aB)))
   (au (G.Qz (iz:=13) (cns:=[]) [] (oH (pv 5)) (λ_ _ _ _ _=>(G.Zkr (rD qG (mR eN (pv 0) (aN)) (dI)))) (λ_ _ _ _ _=>(pv 0)) rfl rfl (by repeat (first | exact trivial | refine⟨rfl,?_⟩)) (by repeat (first | exact trivial | refine⟨rfl,?_⟩)) rfl (by decide +kernel) rfl (by decide +kernel) (by decide +kernel) rfl (by decide +kernel) sc.nd rfl (Or.inl rfl) (Or.inr rfl) rfl)
   (au (oG (rE PySem.F.plainAttrs_list PySem.F.slot_list_append PySem.F.type_list_append lz (cZ (pv 11) rfl) (aa (gF (aa (dI) (aa (aN) (aa (aN) aB)))) aB)))
   (au (oG (rE PySem.F.plainAttrs_list PySem.F.slot_list_append PySem.F.type_list_append lz (cZ (pv 11) rfl) (aa (gF (aa (dI) (aa (aN) aB))) aB)))
   (au (fY (nW (lF (mG gZ hr T.gY (aa (pv 11) (aa (pv 3) (aa (pv 4) (aa (dj vK (pv 2) (gj (aa (gF (aa (dI) (aa (aN) aB))) aB))) (aa (dj vK (dj vK (pv 5) (pv 6)) (gj (aa (gF (aa (dI) (aa (aN) (aa (aN) aB)))) aB))) aB)))))))) (bu (dg (m8))) dZ)
   (au (fY (PW.pt (qF (nW (lF (mG gZ hr T.gY (aa (pv 12) (aa (pv 3) (aa (pv 4) (aa (pv 2) (aa (pv 13) aB)))))))) (rY (nW (lF (mG gZ hr T.gY (aa (pv 10) (aa (pv 3) (aa (pv 4) (aa (pv 2) (aa (pv 5) aB))))))))))) (bu (dg (m8))) dZ)
   (au (fY (nW (lF (mG Iu hr T.wM (aa (pv 12) (aa (pv 3) (aa (pv 4) (aa (pv 2) (aa (pv 13) aB)))))))) (bu (dg (m8))) dZ)
   (au (fY (PW.pt (Qy (rD Zfs (gB G.iH (by rfl) T.qC G.boot_len (aa (pv 2) aB)) (aN)) (Gn (nW (lF (mG pL hr T.pJ (aa (mG sV hr T.vM (aa (pv 11) aB)) (aa (pv 3) (aa (pv 4) (aa (dj vK (pv 2) (gj (aa (gF (aa (dI) (aa (aN) aB))) aB))) aB)))))))))) (bu (dg (m8))) dZ)
   (au (fY (nW (lF (mG Dr hr T.uJ (aa (pv 10) (aa (pv 3) (aa (pv 4) (aa (pv 2) (aa (dj gJ (mG mY hr T.lJ (aa (pv 0) (aa (aN) aB))) (aN)) aB)))))))) (bu (dg (m8))) dZ)
   (bu (dg (mG gZ hr T.gY (aa (pv 10) (aa (pv 3) (aa (pv 4) (aa (pv 2) (aa (pv 5) aB)))))))))))))))))))))))))))))))),?_⟩
  obtain⟨z0,rfl,q⟩:=h;exact Zst tx q
end
abbrev Fi(K:aV)(c:Addr)(s:Str)(f:Addr):Prop:=W.findIn K (.ref c) s=some (some (.ref f))
abbrev Fo(K:aV)(c:Addr)(s:Str):Prop:=W.findIn K (.ref c) s=some none
abbrev Ns(K:aV)(s:Str)(f:Addr):Prop:=W.nsIn K mainGlobals s=some (some (.ref f))
abbrev Ki(K:aV)(f:Addr):Prop:=W.keepIn K (.ref f)=true
abbrev Ci(K:aV)(c:Value)(s:Str):Prop:=W.codeIn K c s=true
abbrev Lk(K:aV)(f:Addr)(a b:Str)(s:Stmt)(d:Value)(oc:Value)(od:Option Addr)(kV dc pm:Value)(an:Option Addr)(cd ct:Value)(sl:Array (Option Value)):Prop:=K.lookup f=some ⟨oc,od,.func (W.fnOf a b (oR s) (jU s) (bI s) d kV dc pm an cd ct),sl⟩
def pD(K:aV)(x q:Str)(s:Stmt)(f:Addr):Prop:=∃oc od kV dc pm an cd ct sl,Lk K f x q s .none oc od kV dc pm an cd ct sl/\Ci K cd q/\Ki K f
theorem fgm{K:aV}{x q:Str}{s:Stmt}{f:Addr}{oc:Value}{od:Option Addr}{kV dc pm:Value}{an:Option Addr}{cd ct:Value}{sl:Array (Option Value)}(l:Lk K f x q s .none oc od kV dc pm an cd ct sl)(c:Ci K cd q)(k:Ki K f):pD K x q s f:=⟨oc,od,kV,dc,pm,an,cd,ct,sl,l,c,k⟩
theorem fg{K:aV}{x q:Str}{s:Stmt}{f:Addr}(h:pD K x q s f):∃fd,m6 K x q s f fd/\Ki K f:=by
 obtain⟨oc,od,kV,dc,pm,an,cd,ct,sl,l,c,k⟩:=h;exact⟨_,Zn3 l c k,k⟩
theorem Y4{K:aV}{x qual:Str}{st:Stmt}{f:Addr}{fd:FuncData}(F:m6 K x qual st f fd)(a0:Str)(h:∀(kV doc pm:Value) (an:Option Addr) (cdv ct u0:Value),bindArgs (W.fnOf x qual (oR st) (jU st) (bI st) .none kV doc pm an cdv ct) ⟨[u0],[]⟩=pure (([a0]:List Str).zip [u0]):=by intros;rfl):Binds K fd [a0] []:=F.binds λkV doc pm an cdv ct us hl=>match us,hl with | [u0],_=>h kV doc pm an cdv ct u0
theorem Dm{K:aV}{x qual:Str}{st:Stmt}{f:Addr}{fd:FuncData}(F:m6 K x qual st f fd)(a0 a1:Str)(h:∀(kV doc pm:Value) (an:Option Addr) (cdv ct u0 u1:Value),bindArgs (W.fnOf x qual (oR st) (jU st) (bI st) .none kV doc pm an cdv ct) ⟨[u0,u1],[]⟩=pure (([a0,a1]:List Str).zip [u0,u1]):=by intros;rfl):Binds K fd [a0,a1] []:=F.binds λkV doc pm an cdv ct us hl=>match us,hl with | [u0,u1],_=>h kV doc pm an cdv ct u0 u1
theorem bd3{K:aV}{x qual:Str}{st:Stmt}{f:Addr}{fd:FuncData}(F:m6 K x qual st f fd)(a0 a1 a2:Str)(h:∀(kV doc pm:Value) (an:Option Addr) (cdv ct u0 u1 u2:Value),bindArgs (W.fnOf x qual (oR st) (jU st) (bI st) .none kV doc pm an cdv ct) ⟨[u0,u1,u2],[]⟩=pure (([a0,a1,a2]:List Str).zip [u0,u1,u2]):=by intros;rfl):Binds K fd [a0,a1,a2] []:=F.binds λkV doc pm an cdv ct us hl=>match us,hl with | [u0,u1,u2],_=>h kV doc pm an cdv ct u0 u1 u2
theorem bd4{K:aV}{x qual:Str}{st:Stmt}{f:Addr}{fd:FuncData}(F:m6 K x qual st f fd)(a0 a1 a2 a3:Str)(h:∀(kV doc pm:Value) (an:Option Addr) (cdv ct u0 u1 u2 u3:Value),bindArgs (W.fnOf x qual (oR st) (jU st) (bI st) .none kV doc pm an cdv ct) ⟨[u0,u1,u2,u3],[]⟩=pure (([a0,a1,a2,a3]:List Str).zip [u0,u1,u2,u3]):=by intros;rfl):Binds K fd [a0,a1,a2,a3] []:=F.binds λkV doc pm an cdv ct us hl=>match us,hl with | [u0,u1,u2,u3],_=>h kV doc pm an cdv ct u0 u1 u2 u3
theorem bd5{K:aV}{x qual:Str}{st:Stmt}{f:Addr}{fd:FuncData}(F:m6 K x qual st f fd)(a0 a1 a2 a3 a4:Str)(h:∀(kV doc pm:Value) (an:Option Addr) (cdv ct u0 u1 u2 u3 u4:Value),bindArgs (W.fnOf x qual (oR st) (jU st) (bI st) .none kV doc pm an cdv ct) ⟨[u0,u1,u2,u3,u4],[]⟩=pure (([a0,a1,a2,a3,a4]:List Str).zip [u0,u1,u2,u3,u4]):=by intros;rfl):Binds K fd [a0,a1,a2,a3,a4] []:=F.binds λkV doc pm an cdv ct us hl=>match us,hl with | [u0,u1,u2,u3,u4],_=>h kV doc pm an cdv ct u0 u1 u2 u3 u4
theorem all_mk{l:W.OpenLaw}{w:World}{K:aV}{h:Heap}{mg:Str->Option Value}{fa fl dY d8 mQ dX gQ aC jX m5 mZ iM bh cU dU dm aH aP aO aL aK aJ aA aF aG aD fU je fX fP jr lN jQ lB gU fQ eZ fJ vQ kZ jN yd j7 ye eX j6 jM rA iZ jR jP fO gD nR gw lA jO iT ir jk kj j9 jq jo jm gR ji jj jg iU Ru mL tH jH jG nQ Cj nT nP iR ig iB iY lq gO iy iu jJ iV iw gM gm fL fW fZ fG:Addr}(KI:K.In h)(GN:h.Ns mainGlobals mg)(hfa:mg "law"=some (.ref fa))
  {od5 an5 to5 Zx7 ZFv Zwy Zx6 Zwp:Option Addr}
  {sl5 ts5 Zx4 Zwx Zx3:Array (Option Value)}
  {oc5 kV5 dc5 pm5 cd5 ct5 tc5 Znd Zga Zx9 Zxh ZFq Zx5 Zwm ZFr Zx0 Zev Zx8 Zva Zwk Zux Zub Zwl Zr9 Zr8 Zfi:Value}
  {td5 Zur Ig Rx:Addr}
  {tn5 Zwz Zba R7 Wu Wt Sd R9 R8 Pu R5 R6 R4 Zbb:Nat}
  {VR VP VN VM VL VJ VH VG VF VD V9 V8 V7 V6 V5 V4 V3 V2 V1 V0:Int}
  {U9 U8 U7 U6 U5 U4 U3 U0 UW UT MP MN MK MJ PX PN PK PJ PB Pz Py Px Ng Nf Nb M9 M8 M7 M6 M5 MT Jb IW IV Mx Mw MF Mz My Mv Mu Ms Vj Vi Vh Vg Vf Ve Vd Vc Vb Va:Tok}
  (Zuk:Ns K "Cell" dY)
  (Zug:Ns K "Heap" d8)
  (Zuh:Ns K "Hand" mQ)
  (Zj5:Ns K "Sweeper" dX)
  (Zr0:Ns K "World" gQ)
  (Zr1:Ns K "Scene" aC)
  (Zr2:Ns K "First" jX)
  (Zuj:Ns K "Each" m5)
  (Zue:Ns K "Last" mZ)
  (Zuf:Ns K "Kind" iM)
  (Zbq:Ns K "EmptySlot" bh)
  (Zj6:Ns K "NoField" cU)
  (Zui:Ns K "Full" dU)
  (Zno:Ns K "NoName" dm)
  (a1:Fi K dY "__init__" fU)
  (i1:W.isFn K (.ref fU)=true)
  (a2:Fi K dY "units" je)
  (i2:W.isFn K (.ref je)=true)
  (a3:Fi K dY "has_field" fX)
  (i3:W.isFn K (.ref fX)=true)
  (a4:Fi K d8 "__init__" fP)
  (i4:W.isFn K (.ref fP)=true)
  (a5:Fi K d8 "make" jr)
  (i5:W.isFn K (.ref jr)=true)
  (l5:Lk K jr "make" "Heap.make" wD (.ref td5) oc5 od5 kV5 dc5 pm5 an5 cd5 ct5 sl5)
  (t5:K.lookup td5=some ⟨tc5,to5,.seq #[Znd,Zga] tn5,ts5⟩)
  (ZG1:RelV (.int 0) Znd)
  (ZG0:RelV (.int 0) Zga)
  (c5:Ci K cd5 "Heap.make")
  (k5:Ki K jr)
  (a6:Fi K d8 "lay" lN)
  (i6:W.isFn K (.ref lN)=true)
  (a7:Fi K d8 "free" jQ)
  (i7:W.isFn K (.ref jQ)=true)
  (a8:Ns K "cell_at" lB)
  (a9:Ns K "birth_at" gU)
  (a10:Fi K mQ "__init__" fQ)
  (i10:W.isFn K (.ref fQ)=true)
  (a11:Fi K dX "__init__" eZ)
  (i11:W.isFn K (.ref eZ)=true)
  (a12:Fi K gQ "__init__" fJ)
  (i12:W.isFn K (.ref fJ)=true)
  (a13:Ns K "held" vQ)
  (a14:Ns K "looked_at" kZ)
  (a15:Ns K "has_sense" jN)
  (a16:Ns K "note" yd)
  (a17:Ns K "note_all" j7)
  (a18:Ns K "gone" ye)
  (a19:Fi K aC "__init__" eX)
  (i19:W.isFn K (.ref eX)=true)
  (a20:Ns K "world_of" j6)
  (a21:Ns K "with_rows" jM)
  (a22:Ns K "quiet" rA)
  (a23:Fi K jX "word" iZ)
  (i23:W.isFn K (.ref iZ)=true)
  (a24:Fi K m5 "word" jR)
  (i24:W.isFn K (.ref jR)=true)
  (a25:Fi K mZ "word" jP)
  (i25:W.isFn K (.ref jP)=true)
  (a26:Fi K iM "__init__" fO)
  (i26:W.isFn K (.ref fO)=true)
  (a27:Fi K iM "words" gD)
  (i27:W.isFn K (.ref gD)=true)
  (a28:Ns K "kind_of" nR)
  (a29:Ns K "slots_of" gw)
  (a30:Ns K "cell_in" lA)
  (a31:Ns K "fields_in" jO)
  (a32:Ns K "told_as_old" iT)
  (a33:Ns K "told_as_new" ir)
  (a34:Ns K "do_make" jk)
  (a35:Ns K "do_get" kj)
  (a36:Ns K "do_put" j9)
  (a37:Ns K "do_copy" jq)
  (a38:Ns K "do_drop" jo)
  (a39:Ns K "do_give" jm)
  (a40:Ns K "do_write" gR)
  (a41:Ns K "do_read" ji)
  (a42:Ns K "do_name" jj)
  (a43:Ns K "do_seek" jg)
  (a44:Ns K "place_named" iU)
  (a45:Ns K "do" Ru)
  (a46:Ns K "forms_of" mL)
  (a47:Ns K "tried" tH)
  (a48:Ns K "tells_loss" jH)
  (a49:Ns K "tried_deed" jG)
  (a50:Ns K "refused" nQ)
  (a51:Ns K "run" Cj)
  (l51:Lk K Cj "run" "run" Zfl (.ref Zur) Zx9 Zx7 Zxh ZFq Zx5 ZFv Zwm ZFr Zx4)
  (t51:K.lookup Zur=some ⟨Zx0,Zwy,.seq #[Zev] Zwz,Zwx⟩)
  (Zu8:RelV .non Zev)
  (c51:Ci K Zwm "run")
  (k51:Ki K Cj)
  (a52:Ns K "is_lost" nT)
  (a53:Ns K "written" nP)
  (a54:Ns K "written_row" iR)
  (a55:Ns K "written_part" ig)
  (a56:Ns K "_law_cell_at" iB)
  (a57:Ns K "_law_whole" iY)
  (a58:Ns K "_law_safe" lq)
  (a59:Ns K "_law_hands_by" gO)
  (a60:Ns K "_law_kind_by" iy)
  (a61:Ns K "_law_word_by" iu)
  (a62:Ns K "_law_large" jJ)
  (a63:Ns K "_law_row_by" iV)
  (a64:Ns K "_law_text_of" iw)
  (a65:Ns K "_law_same_row" gM)
  (a66:Ns K "_law_same_rows" gm)
  (a67:Ns K "_law_same_scene" fL)
  (a68:Ns K "_law_new_world" fW)
  (a69:Ns K "_law_asked_anew" fZ)
  (a70:Ns K "_law_worlds_apart" fG)
  (a71:Ns K "law" fl)
  (l71:Lk K fl "law" "law" Qq .none Zx8 Zx6 Zva Zwk Zux Zwp Zub Zwl Zx3)
  (c71:Ci K Zub "law")
  (k71:Ki K fl)
  (Zlf:Ns K "FORMS" Ig)
  (Zjs:(Ig == sysModules)=false)
  (Zlz:K.lookup Ig=some ⟨.type "dict",none,.dict #[⟨VR,.str "make" U9,.ref aH⟩,⟨VP,.str "get" U8,.ref aP⟩,⟨VN,.str "put" U7,.ref aO⟩,⟨VM,.str "copy" U6,.ref aL⟩,⟨VL,.str "drop" U5,.ref aK⟩,⟨VJ,.str "give" U4,.ref aJ⟩,⟨VH,.str "write" U3,.ref aA⟩,⟨VG,.str "read" U0,.ref aF⟩,⟨VF,.str "name" UW,.ref aG⟩,⟨VD,.str "seek" UT,.ref aD⟩] Zba,#[]⟩)
  (Zi9:VR=hashStr w "make")
  (Zi8:VP=hashStr w "get")
  (Zi7:VN=hashStr w "put")
  (Zi6:VM=hashStr w "copy")
  (Zi5:VL=hashStr w "drop")
  (Zi4:VJ=hashStr w "give")
  (Zi3:VH=hashStr w "write")
  (Zi2:VG=hashStr w "read")
  (Zi1:VF=hashStr w "name")
  (Zi0:VD=hashStr w "seek")
  (Tn:K.lookup aH=some ⟨.type "tuple",none,.seq #[.str "hand" MP,.str "slot" MN,.str "many" MK,.str "bulk" MJ] R7,#[]⟩)
  (XX:K.lookup aP=some ⟨.type "tuple",none,.seq #[.str "hand" PX,.str "slot" PN,.str "slot" PK,.str "field" PJ] Wu,#[]⟩)
  (XS:K.lookup aO=some ⟨.type "tuple",none,.seq #[.str "hand" PB,.str "slot" Pz,.str "field" Py,.str "slot" Px] Wt,#[]⟩)
  (Tr:K.lookup aL=some ⟨.type "tuple",none,.seq #[.str "hand" Ng,.str "slot" Nf,.str "slot" Nb] Sd,#[]⟩)
  (Tq:K.lookup aK=some ⟨.type "tuple",none,.seq #[.str "hand" M9,.str "slot" M8] R9,#[]⟩)
  (Tp:K.lookup aJ=some ⟨.type "tuple",none,.seq #[.str "hand" M7,.str "slot" M6,.str "hand" M5,.str "slot" MT] R8,#[]⟩)
  (Q3:K.lookup aA=some ⟨.type "tuple",none,.seq #[.str "hand" Jb,.str "slot" IW,.str "load" IV] Pu,#[]⟩)
  (Ti:K.lookup aF=some ⟨.type "tuple",none,.seq #[.str "hand" Mx,.str "slot" Mw] R5,#[]⟩)
  (Tj:K.lookup aG=some ⟨.type "tuple",none,.seq #[.str "hand" MF,.str "slot" Mz,.str "word" My] R6,#[]⟩)
  (Th:K.lookup aD=some ⟨.type "tuple",none,.seq #[.str "hand" Mv,.str "slot" Mu,.str "word" Ms] R4,#[]⟩)
  (Zlg:Ns K "DEEDS" Rx)
  (Zm0:K.lookup Rx=some ⟨.type "dict",none,.dict #[⟨V9,.str "make" Vj,.ref jk⟩,⟨V8,.str "get" Vi,.ref kj⟩,⟨V7,.str "put" Vh,.ref j9⟩,⟨V6,.str "copy" Vg,.ref jq⟩,⟨V5,.str "drop" Vf,.ref jo⟩,⟨V4,.str "give" Ve,.ref jm⟩,⟨V3,.str "write" Vd,.ref gR⟩,⟨V2,.str "read" Vc,.ref ji⟩,⟨V1,.str "name" Vb,.ref jj⟩,⟨V0,.str "seek" Va,.ref jg⟩] Zbb,#[]⟩)
  (Zij:V9=hashStr w "make")
  (Zii:V8=hashStr w "get")
  (Zih:V7=hashStr w "put")
  (Zig:V6=hashStr w "copy")
  (Zif:V5=hashStr w "drop")
  (Zie:V4=hashStr w "give")
  (Zid:V3=hashStr w "write")
  (Zic:V2=hashStr w "read")
  (Zib:V1=hashStr w "name")
  (Zia:V0=hashStr w "seek")
  (Zp1:W.plainGet K dY Str.empty=true)
  (Zqc:W.hasDictIn K dY=true)
  (Zou:W.plainOver K dY=true)
  (Zoc:W.findIn K (.ref dY) "__setattr__"=some (some (.builtin "object.__setattr__")))
  (Ou:W.makesIn K dY=true)
  (Zpv:Ki K dY)
  (bJ:Fo K dY "birth")
  (cQ:Fo K dY "bulk")
  (cP:Fo K dY "tone")
  (cJ:Fo K dY "load")
  (bF:Fo K dY "fields")
  (Znc:W.findIn K (.ref dY) "__eq__"=some (some (.builtin "object.__eq__")))
  (Znb:W.mroIn K dY (.type "object")=some true)
  (Zoy:W.plainGet K d8 Str.empty=true)
  (Zq9:W.hasDictIn K d8=true)
  (Zor:W.plainOver K d8=true)
  (Zo9:W.findIn K (.ref d8) "__setattr__"=some (some (.builtin "object.__setattr__")))
  (Oq:W.makesIn K d8=true)
  (Zps:Ki K d8)
  (cN:Fo K d8 "room")
  (bG:Fo K d8 "cells")
  (cH:Fo K d8 "used")
  (cI:Fo K d8 "born")
  (Zoz:W.plainGet K mQ Str.empty=true)
  (Zqa:W.hasDictIn K mQ=true)
  (Zos:W.plainOver K mQ=true)
  (Zoa:W.findIn K (.ref mQ) "__setattr__"=some (some (.builtin "object.__setattr__")))
  (Ot:W.makesIn K mQ=true)
  (Zpt:Ki K mQ)
  (cR:Fo K mQ "name")
  (cG:Fo K mQ "slots")
  (Zd8:W.plainGet K dX Str.empty=true)
  (Zef:W.hasDictIn K dX=true)
  (Zd6:W.plainOver K dX=true)
  (Zcx:W.findIn K (.ref dX) "__setattr__"=some (some (.builtin "object.__setattr__")))
  (zJ:W.makesIn K dX=true)
  (Ze7:Ki K dX)
  (aY:Fo K dX "sense")
  (aZ:Fo K dX "phase")
  (bC:Fo K dX "grey")
  (aR:Fo K dX "looked")
  (bw:Fo K dX "turn")
  (cj:Fo K dX "at")
  (bA:Fo K dX "stop")
  (aX:Fo K dX "walks")
  (bf:Fo K dX "looks")
  (aQ:Fo K dX "passes")
  (bB:Fo K dX "loss")
  (Zko:W.plainGet K gQ Str.empty=true)
  (Zmr:W.hasDictIn K gQ=true)
  (Zkk:W.plainOver K gQ=true)
  (Zjw:W.findIn K (.ref gQ) "__setattr__"=some (some (.builtin "object.__setattr__")))
  (GJ:W.makesIn K gQ=true)
  (Zm8:Ki K gQ)
  (cg:Fo K gQ "heap")
  (bZ:Fo K gQ "kind")
  (bL:Fo K gQ "hands")
  (bK:Fo K gQ "names")
  (aW:Fo K gQ "sweeper")
  (Zkp:W.plainGet K aC Str.empty=true)
  (Zms:W.hasDictIn K aC=true)
  (Zkl:W.plainOver K aC=true)
  (Zjx:W.findIn K (.ref aC) "__setattr__"=some (some (.builtin "object.__setattr__")))
  (yp:W.makesIn K aC=true)
  (Zm9:Ki K aC)
  (cB:Fo K aC "room")
  (cC:Fo K aC "kind")
  (bM:Fo K aC "hands")
  (cu:Fo K aC "rows")
  (Zkq:W.plainGet K jX Str.empty=true)
  (Zmt:W.hasDictIn K jX=true)
  (Zkm:W.plainOver K jX=true)
  (Zjy:W.findIn K (.ref jX) "__setattr__"=some (some (.builtin "object.__setattr__")))
  (Zli:W.makesIn K jX=true)
  (Zma:Ki K jX)
  (Zl8:W.findIn K (.ref jX) "__init__"=some (some (.builtin "object.__init__")))
  (Zp0:W.plainGet K m5 Str.empty=true)
  (Zqb:W.hasDictIn K m5=true)
  (Zot:W.plainOver K m5=true)
  (Zob:W.findIn K (.ref m5) "__setattr__"=some (some (.builtin "object.__setattr__")))
  (Zpl:W.makesIn K m5=true)
  (Zpu:Ki K m5)
  (Zpf:W.findIn K (.ref m5) "__init__"=some (some (.builtin "object.__init__")))
  (Zow:W.plainGet K mZ Str.empty=true)
  (Zq7:W.hasDictIn K mZ=true)
  (Zop:W.plainOver K mZ=true)
  (Zo7:W.findIn K (.ref mZ) "__setattr__"=some (some (.builtin "object.__setattr__")))
  (Zpk:W.makesIn K mZ=true)
  (Zpq:Ki K mZ)
  (Zpe:W.findIn K (.ref mZ) "__init__"=some (some (.builtin "object.__init__")))
  (Zox:W.plainGet K iM Str.empty=true)
  (Zq8:W.hasDictIn K iM=true)
  (Zoq:W.plainOver K iM=true)
  (Zo8:W.findIn K (.ref iM) "__setattr__"=some (some (.builtin "object.__setattr__")))
  (Oo:W.makesIn K iM=true)
  (Zpr:Ki K iM)
  (bD:Fo K iM "looking")
  (cF:Fo K iM "tells")
  (wz:W.excIn K bh [.type "ValueError",.type "Exception",.type "BaseException",.type "object"] "ValueError.__new__"=true)
  (Wo:W.excIn K dU [.type "ValueError",.type "Exception",.type "BaseException",.type "object"] "ValueError.__new__"=true)
  (CJ:W.excIn K cU [.type "ValueError",.type "Exception",.type "BaseException",.type "object"] "ValueError.__new__"=true)
  (FZ:W.excIn K dm [.type "ValueError",.type "Exception",.type "BaseException",.type "object"] "ValueError.__new__"=true)
  (lR:W.exmOne K (.ref bh) (.ref bh)=some true)
  (wN:W.exmOne K (.ref dU) (.ref dU)=some true)
  (oO:W.exmOne K (.ref cU) (.ref cU)=some true)
  (qb:W.exmOne K (.ref dm) (.ref dm)=some true)
  (oN:W.exmOne K (.ref dU) (.ref bh)=some false)
  (pZ:W.exmOne K (.ref dU) (.ref cU)=some false)
  (lZ:W.exmOne K (.ref cU) (.ref bh)=some false)
  (mU:W.exmOne K (.ref dm) (.ref bh)=some false)
  (qU:W.exmOne K (.ref dm) (.ref dU)=some false)
  (oM:W.exmOne K (.ref dm) (.ref cU)=some false)
  (Wn:W.nsIn K mainGlobals "bool"=some none)
  (wu:W.nsIn K mainGlobals "enumerate"=some none)
  (Zfh:W.nsIn K mainGlobals "int"=some none)
  (jF:W.nsIn K mainGlobals "isinstance"=some none)
  (qC:W.nsIn K mainGlobals "len"=some none)
  (w6:W.nsIn K mainGlobals "list"=some none)
  (uL:W.nsIn K mainGlobals "range"=some none)
  (Dt:W.nsIn K mainGlobals "str"=some none)
  (Oj:W.nsIn K mainGlobals "tuple"=some none)
  (UJ:W.nsIn K mainGlobals "zip"=some none)
  (Ztw:W.nsIn K mainGlobals "NEW"=some (some Zr9))
  (Ztu:RelV (.int 2) Zr9)
  (Ztv:W.nsIn K mainGlobals "OLD"=some (some Zr8))
  (Ztt:RelV (.int 1) Zr8)
  (Zmx:W.nsIn K mainGlobals "SWEEP"=some (some Zfi))
  (Zmw:RelV (.str "sweep") Zfi)
  (g1:pD K "__init__" "Cell.__init__" ug fU)
  (g2:pD K "units" "Cell.units" yW je)
  (g3:pD K "has_field" "Cell.has_field" rN fX)
  (g4:pD K "__init__" "Heap.__init__" ue fP)
  (g6:pD K "lay" "Heap.lay" El lN)
  (g7:pD K "free" "Heap.free" Bg jQ)
  (g8:pD K "cell_at" "cell_at" JK lB)
  (g9:pD K "birth_at" "birth_at" Ek gU)
  (g10:pD K "__init__" "Hand.__init__" uf fQ)
  (g11:pD K "__init__" "Sweeper.__init__" qj eZ)
  (g12:pD K "__init__" "World.__init__" rK fJ)
  (g13:pD K "held" "held" Zcz vQ)
  (g14:pD K "looked_at" "looked_at" Bb kZ)
  (g15:pD K "has_sense" "has_sense" Bc jN)
  (g16:pD K "note" "note" Zcy yd)
  (g17:pD K "note_all" "note_all" Eh j7)
  (g18:pD K "gone" "gone" Zd0 ye)
  (g19:pD K "__init__" "Scene.__init__" rM eX)
  (g20:pD K "world_of" "world_of" Ef j6)
  (g21:pD K "with_rows" "with_rows" Ba jM)
  (g22:pD K "quiet" "quiet" W9 rA)
  (g23:pD K "word" "First.word" yV iZ)
  (g24:pD K "word" "Each.word" Bh jR)
  (g25:pD K "word" "Last.word" Bf jP)
  (g26:pD K "__init__" "Kind.__init__" ud fO)
  (g27:pD K "words" "Kind.words" yU gD)
  (g28:pD K "kind_of" "kind_of" Jw nR)
  (g29:pD K "slots_of" "slots_of" Eg gw)
  (g30:pD K "cell_in" "cell_in" JH lA)
  (g31:pD K "fields_in" "fields_in" Bd jO)
  (g32:pD K "told_as_old" "told_as_old" xr iT)
  (g33:pD K "told_as_new" "told_as_new" xu ir)
  (g34:pD K "do_make" "do_make" JC jk)
  (g35:pD K "do_get" "do_get" Qt kj)
  (g36:pD K "do_put" "do_put" Qs j9)
  (g37:pD K "do_copy" "do_copy" JG jq)
  (g38:pD K "do_drop" "do_drop" JF jo)
  (g39:pD K "do_give" "do_give" JD jm)
  (g40:pD K "do_write" "do_write" Ej gR)
  (g41:pD K "do_read" "do_read" Jz ji)
  (g42:pD K "do_name" "do_name" JB jj)
  (g43:pD K "do_seek" "do_seek" Jy jg)
  (g44:pD K "place_named" "place_named" xx iU)
  (g45:pD K "do" "do" Zrt Ru)
  (g46:pD K "forms_of" "forms_of" Ei mL)
  (g47:pD K "tried" "tried" W8 tH)
  (g48:pD K "tells_loss" "tells_loss" yQ jH)
  (g49:pD K "tried_deed" "tried_deed" yO jG)
  (g50:pD K "refused" "refused" Jv nQ)
  (g52:pD K "is_lost" "is_lost" Jx nT)
  (g53:pD K "written" "written" Ju nP)
  (g54:pD K "written_row" "written_row" xq iR)
  (g55:pD K "written_part" "written_part" u6 ig)
  (g56:pD K "_law_cell_at" "_law_cell_at" vm iB)
  (g57:pD K "_law_whole" "_law_whole" yR iY)
  (g58:pD K "_law_safe" "_law_safe" Be lq)
  (g59:pD K "_law_hands_by" "_law_hands_by" uc gO)
  (g60:pD K "_law_kind_by" "_law_kind_by" vg iy)
  (g61:pD K "_law_word_by" "_law_word_by" vd iu)
  (g62:pD K "_law_large" "_law_large" yS jJ)
  (g63:pD K "_law_row_by" "_law_row_by" xF iV)
  (g64:pD K "_law_text_of" "_law_text_of" vf iw)
  (g65:pD K "_law_same_row" "_law_same_row" t8 gM)
  (g66:pD K "_law_same_rows" "_law_same_rows" rH gm)
  (g67:pD K "_law_same_scene" "_law_same_scene" qK fL)
  (g68:pD K "_law_new_world" "_law_new_world" rJ fW)
  (g69:pD K "_law_asked_anew" "_law_asked_anew" qL fZ)
  (g70:pD K "_law_worlds_apart" "_law_worlds_apart" pO fG)
  :∃fd:FuncData,(∀(s:Shared) (v:Value),BindsTo s fd ⟨[v],[]⟩ [("_law_script",v)])/\∀base:Heap,K.In base->base.Ns mainGlobals mg->uV l.prog w K mg base (G.DY l.prog w) 10 fa fd ["_law_script"] (Zgp K):=by
 have e:=hfa.symm.trans (W.mg_of KI GN a71);cases e;have mo:∀{s:Str}{v:Value},W.nsIn K mainGlobals s=some (some v)->mg s=some v:=λh=>W.mg_of KI GN h
 let Q0:Cs:=⟨gQ,d8,dY,iM,mQ,dX,jX,m5,mZ⟩
 obtain⟨_,F1,k1⟩:=fg g1;obtain⟨_,F2,k2⟩:=fg g2;obtain⟨_,F3,k3⟩:=fg g3;obtain⟨_,F4,k4⟩:=fg g4;obtain⟨_,F6,k6⟩:=fg g6;obtain⟨_,F7,k7⟩:=fg g7;obtain⟨_,F8,k8⟩:=fg g8;obtain⟨_,F9,k9⟩:=fg g9;obtain⟨_,F10,k10⟩:=fg g10;obtain⟨_,F11,k11⟩:=fg g11;obtain⟨_,F12,k12⟩:=fg g12;obtain⟨_,F13,k13⟩:=fg g13;obtain⟨_,F14,k14⟩:=fg g14;obtain⟨_,F15,k15⟩:=fg g15;obtain⟨_,F16,k16⟩:=fg g16;obtain⟨_,F17,k17⟩:=fg g17;obtain⟨_,F18,k18⟩:=fg g18;obtain⟨_,F19,k19⟩:=fg g19;obtain⟨_,F20,k20⟩:=fg g20;obtain⟨_,F21,k21⟩:=fg g21;obtain⟨_,F22,k22⟩:=fg g22;obtain⟨_,F23,Zn⟩:=fg g23;obtain⟨_,F24,k24⟩:=fg g24;obtain⟨_,F25,k25⟩:=fg g25;obtain⟨_,F26,k26⟩:=fg g26;obtain⟨_,F27,k27⟩:=fg g27;obtain⟨_,F28,k28⟩:=fg g28;obtain⟨_,F29,k29⟩:=fg g29;obtain⟨_,F30,k30⟩:=fg g30;obtain⟨_,F31,k31⟩:=fg g31;obtain⟨_,F32,k32⟩:=fg g32;obtain⟨_,F33,k33⟩:=fg g33;obtain⟨_,F34,k34⟩:=fg g34;obtain⟨_,F35,k35⟩:=fg g35;obtain⟨_,F36,k36⟩:=fg g36;obtain⟨_,F37,k37⟩:=fg g37;obtain⟨_,F38,k38⟩:=fg g38;obtain⟨_,F39,k39⟩:=fg g39;obtain⟨_,F40,k40⟩:=fg g40;obtain⟨_,F41,k41⟩:=fg g41;obtain⟨_,F42,k42⟩:=fg g42;obtain⟨_,F43,k43⟩:=fg g43;obtain⟨_,F44,k44⟩:=fg g44;obtain⟨_,F45,k45⟩:=fg g45;obtain⟨_,F46,k46⟩:=fg g46;obtain⟨_,F47,k47⟩:=fg g47;obtain⟨_,F48,k48⟩:=fg g48;obtain⟨_,F49,k49⟩:=fg g49;obtain⟨_,F50,k50⟩:=fg g50;obtain⟨_,F52,k52⟩:=fg g52;obtain⟨_,F53,k53⟩:=fg g53;obtain⟨_,F54,k54⟩:=fg g54;obtain⟨_,F55,k55⟩:=fg g55;obtain⟨_,F56,k56⟩:=fg g56;obtain⟨_,F57,k57⟩:=fg g57;obtain⟨_,F58,k58⟩:=fg g58;obtain⟨_,F59,k59⟩:=fg g59;obtain⟨_,F60,k60⟩:=fg g60;obtain⟨_,F61,k61⟩:=fg g61;obtain⟨_,F62,k62⟩:=fg g62;obtain⟨_,F63,k63⟩:=fg g63;obtain⟨_,F64,k64⟩:=fg g64;obtain⟨_,F65,k65⟩:=fg g65;obtain⟨_,F66,k66⟩:=fg g66;obtain⟨_,F67,k67⟩:=fg g67;obtain⟨_,F68,k68⟩:=fg g68;obtain⟨_,F69,k69⟩:=fg g69;obtain⟨_,F70,k70⟩:=fg g70;have T:Txt w K mg dY d8 mQ dX gQ aC jX m5 mZ iM bh cU dU dm aH aP aO aL aK aJ aA aF aG aD fU je fX fP jr lN jQ lB gU fQ eZ fJ vQ kZ jN yd j7 ye eX j6 jM rA iZ jR jP fO gD nR gw lA jO iT ir jk kj j9 jq jo jm gR ji jj jg iU Ru mL tH jH jG nQ Cj nT nP iR ig iB iY lq gO iy iu jJ iV iw gM gm fL fW fZ fG:={
  Qa:=⟨Ig,_,_,Zba,W.mg_of KI GN Zlf,Zjs,Zlz,⟨rfl,rfl,rfl⟩,rfl,Zi9,⟨U9,rfl⟩,rfl,Zi8,⟨U8,rfl⟩,rfl,Zi7,⟨U7,rfl⟩,rfl,Zi6,⟨U6,rfl⟩,rfl,Zi5,⟨U5,rfl⟩,rfl,Zi4,⟨U4,rfl⟩,rfl,Zi3,⟨U3,rfl⟩,rfl,Zi2,⟨U0,rfl⟩,rfl,Zi1,⟨UW,rfl⟩,rfl,Zi0,⟨UT,rfl⟩,rfl,trivial⟩
  bR:=λH=>.inr ⟨_,_,_,Tn,rfl,rfl,by simp[sizeLine_eq],.cons ⟨_,rfl⟩ (.cons ⟨_,rfl⟩ (.cons ⟨_,rfl⟩ (.cons ⟨_,rfl⟩ .nil)))⟩
  cM:=λH=>.inr ⟨_,_,_,XX,rfl,rfl,by simp[sizeLine_eq],.cons ⟨_,rfl⟩ (.cons ⟨_,rfl⟩ (.cons ⟨_,rfl⟩ (.cons ⟨_,rfl⟩ .nil)))⟩
  cL:=λH=>.inr ⟨_,_,_,XS,rfl,rfl,by simp[sizeLine_eq],.cons ⟨_,rfl⟩ (.cons ⟨_,rfl⟩ (.cons ⟨_,rfl⟩ (.cons ⟨_,rfl⟩ .nil)))⟩
  bV:=λH=>.inr ⟨_,_,_,Tr,rfl,rfl,by simp[sizeLine_eq],.cons ⟨_,rfl⟩ (.cons ⟨_,rfl⟩ (.cons ⟨_,rfl⟩ .nil))⟩
  bU:=λH=>.inr ⟨_,_,_,Tq,rfl,rfl,by simp[sizeLine_eq],.cons ⟨_,rfl⟩ (.cons ⟨_,rfl⟩ .nil)⟩
  bT:=λH=>.inr ⟨_,_,_,Tp,rfl,rfl,by simp[sizeLine_eq],.cons ⟨_,rfl⟩ (.cons ⟨_,rfl⟩ (.cons ⟨_,rfl⟩ (.cons ⟨_,rfl⟩ .nil)))⟩
  bH:=λH=>.inr ⟨_,_,_,Q3,rfl,rfl,by simp[sizeLine_eq],.cons ⟨_,rfl⟩ (.cons ⟨_,rfl⟩ (.cons ⟨_,rfl⟩ .nil))⟩
  bO:=λH=>.inr ⟨_,_,_,Ti,rfl,rfl,by simp[sizeLine_eq],.cons ⟨_,rfl⟩ (.cons ⟨_,rfl⟩ .nil)⟩
  bQ:=λH=>.inr ⟨_,_,_,Tj,rfl,rfl,by simp[sizeLine_eq],.cons ⟨_,rfl⟩ (.cons ⟨_,rfl⟩ (.cons ⟨_,rfl⟩ .nil))⟩
  bN:=λH=>.inr ⟨_,_,_,Th,rfl,rfl,by simp[sizeLine_eq],.cons ⟨_,rfl⟩ (.cons ⟨_,rfl⟩ (.cons ⟨_,rfl⟩ .nil))⟩
  Vk:=⟨Rx,_,_,Zbb,W.mg_of KI GN Zlg,Zm0,⟨rfl,rfl,rfl⟩,rfl,Zij,⟨Vj,rfl⟩,rfl,Zii,⟨Vi,rfl⟩,rfl,Zih,⟨Vh,rfl⟩,rfl,Zig,⟨Vg,rfl⟩,rfl,Zif,⟨Vf,rfl⟩,rfl,Zie,⟨Ve,rfl⟩,rfl,Zid,⟨Vd,rfl⟩,rfl,Zic,⟨Vc,rfl⟩,rfl,Zib,⟨Vb,rfl⟩,rfl,Zia,⟨Va,rfl⟩,rfl,trivial⟩
  dB:=⟨Zp1,Zqc,Zou,Zoc⟩
  Zlw:=mo Zuk
  Ou:=⟨Ou,a1,i1,Zpv⟩
  bJ:=bJ
  cQ:=cQ
  cP:=cP
  cJ:=cJ
  bF:=bF
  dW:=⟨Znc,Znb⟩
  dw:=⟨Zoy,Zq9,Zor,Zo9⟩
  Zlt:=mo Zug
  Oq:=⟨Oq,a4,i4,Zps⟩
  cN:=cN
  bG:=bG
  cH:=cH
  cI:=cI
  d7:=⟨Zoz,Zqa,Zos,Zoa⟩
  Zlu:=mo Zuh
  Ot:=⟨Ot,a10,i10,Zpt⟩
  cR:=cR
  cG:=cG
  cY:=⟨Zd8,Zef,Zd6,Zcx⟩
  Vt:=mo Zj5
  zJ:=⟨zJ,a11,i11,Ze7⟩
  aY:=aY
  aZ:=aZ
  bC:=bC
  aR:=aR
  bw:=bw
  cj:=cj
  bA:=bA
  aX:=aX
  bf:=bf
  aQ:=aQ
  bB:=bB
  dJ:=⟨Zko,Zmr,Zkk,Zjw⟩
  Zfu:=mo Zr0
  GJ:=⟨GJ,a12,i12,Zm8⟩
  cg:=cg
  bZ:=bZ
  bL:=bL
  bK:=bK
  aW:=aW
  cT:=⟨Zkp,Zms,Zkl,Zjx⟩
  Ov:=mo Zr1
  yp:=⟨yp,a19,i19,Zm9⟩
  cB:=cB
  cC:=cC
  bM:=bM
  cu:=cu
  Zbk:=⟨Zkq,Zmt,Zkm,Zjy⟩
  Zfv:=mo Zr2
  Vq:=⟨Zli,Zl8,Zma⟩
  Zgi:=⟨Zp0,Zqb,Zot,Zob⟩
  Zlv:=mo Zuj
  Zaf:=⟨Zpl,Zpf,Zpu⟩
  Zgh:=⟨Zow,Zq7,Zop,Zo7⟩
  Zlr:=mo Zue
  Zae:=⟨Zpk,Zpe,Zpq⟩
  dO:=⟨Zox,Zq8,Zoq,Zo8⟩
  Zls:=mo Zuf
  Oo:=⟨Oo,a26,i26,Zpr⟩
  bD:=bD
  cF:=cF
  BW:=mo Zbq
  Kr:=mo Zj6
  Ze1:=mo Zui
  QZ:=mo Zno
  wz:=wz
  Wo:=Wo
  CJ:=CJ
  FZ:=FZ
  lR:=lR
  wN:=wN
  oO:=oO
  qb:=qb
  oN:=oN
  pZ:=pZ
  lZ:=lZ
  mU:=mU
  qU:=qU
  oM:=oM
  Kp:=⟨a1,i1,k1⟩
  xV:=⟨a2,i2,k2⟩
  wL:=⟨a3,i3,k3⟩
  Km:=⟨a4,i4,k4⟩
  GR:=⟨a5,i5,k5⟩
  LC:=⟨a6,i6,k6⟩
  GX:=⟨a7,i7,k7⟩
  yt:=mo a8
  oY:=mo a9
  Ko:=⟨a10,i10,k10⟩
  Dk:=⟨a11,i11,k11⟩
  GK:=⟨a12,i12,k12⟩
  Zdz:=mo a13
  LK:=mo a14
  BK:=mo a15
  Zln:=mo a16
  zK:=mo a17
  Zlo:=mo a18
  GP:=⟨a19,i19,k19⟩
  vM:=mo a20
  BJ:=mo a21
  XN:=mo a22
  Dy:=⟨a23,i23,Zn⟩
  GZ:=⟨a24,i24,k24⟩
  GQ:=⟨a25,i25,k25⟩
  Kl:=⟨a26,i26,k26⟩
  pW:=⟨a27,i27,k27⟩
  Vr:=mo a28
  lH:=mo a29
  yr:=mo a30
  BL:=mo a31
  DG:=mo a32
  xW:=mo a33
  Zhp:=mo a34
  Zlq:=mo a35
  Zlp:=mo a36
  Zhs:=mo a37
  Zhr:=mo a38
  Zhq:=mo a39
  Ze0:=mo a40
  Zhn:=mo a41
  Zho:=mo a42
  Zhm:=mo a43
  DK:=mo a44
  Zso:=mo a45
  QX:=mo a46
  Zft:=mo a47
  Hq:=mo a48
  Ho:=mo a49
  yq:=mo a50
  Zlm:=mo a51
  Vs:=mo a52
  Kq:=mo a53
  Dz:=mo a54
  By:=mo a55
  lJ:=mo a56
  zL:=mo a57
  LQ:=mo a58
  zX:=mo a59
  BV:=mo a60
  BP:=mo a61
  qX:=mo a62
  xX:=mo a63
  BR:=mo a64
  zW:=mo a65
  sI:=mo a66
  gY:=mo a67
  pJ:=mo a68
  wM:=mo a69
  uJ:=mo a70
  Wn:=W.mg_none_of KI GN Wn
  wu:=W.mg_none_of KI GN wu
  Zfh:=W.mg_none_of KI GN Zfh
  jF:=W.mg_none_of KI GN jF
  qC:=W.mg_none_of KI GN qC
  w6:=W.mg_none_of KI GN w6
  uL:=W.mg_none_of KI GN uL
  Dt:=W.mg_none_of KI GN Dt
  Oj:=W.mg_none_of KI GN Oj
  UJ:=W.mg_none_of KI GN UJ
  Zn0:=⟨_,W.mg_of KI GN Ztw,Ztu⟩
  Zmz:=⟨_,W.mg_of KI GN Ztv,Ztt⟩
  OJ:=⟨_,W.mg_of KI GN Zmx,Zmw⟩
 }
 have b1:=bd5 F1 "self" "birth" "many" "bulk" "tone";have b2:=Y4 F2 "self";have b3:=Dm F3 "self" "field";have b4:=Dm F4 "self" "room";have F5:=G.Zg5 (st:=wD) l5 c5 k5;have b5:=G.RD (ps:=["self","many","bulk","tone"]) (ds:=[]) l5 t5 λus hl=>match us,hl with | [_,_,_,_],_=>⟨_,rfl,rfl⟩
 have ZG3:=G.RD (ps:=["self","many","bulk","tone"]) (ds:=[Zga]) l5 t5 λus hl=>match us,hl with | [_,_,_],_=>⟨_,rfl,rfl⟩
 have ZG2:=G.RD (ps:=["self","many","bulk","tone"]) (ds:=[Znd,Zga]) l5 t5 λus hl=>match us,hl with | [_,_],_=>⟨_,rfl,rfl⟩
 have b6:=Dm F6 "self" "cell";have b7:=Y4 F7 "self";have b8:=Dm F8 "heap" "place";have b9:=Dm F9 "heap" "place";have b10:=bd3 F10 "self" "name" "many";have b11:=Y4 F11 "self";have b12:=bd4 F12 "self" "room" "kind" "hands";have b13:=Y4 F13 "world";have b14:=Dm F14 "world" "hand";have b15:=Dm F15 "world" "cell";have b16:=Dm F16 "world" "place";have b17:=Dm F17 "world" "places";have b18:=bd3 F18 "world" "place" "birth";have b19:=bd5 F19 "self" "room" "kind" "hands" "rows";have b20:=Y4 F20 "scene";have b21:=Dm F21 "scene" "more";have b22:=Y4 F22 "scene";have b23:=Y4 F23 "self";have b24:=Y4 F24 "self";have b25:=Y4 F25 "self";have b26:=bd3 F26 "self" "looking" "tells";have b27:=Y4 F27 "self";have b28:=Y4 F28 "text";have b29:=Dm F29 "world" "hand";have b30:=bd3 F30 "world" "hand" "slot";have b31:=bd4 F31 "world" "hand" "slot" "field";have b32:=Dm F32 "world" "place";have b33:=bd3 F33 "world" "hand" "place";have b34:=Dm F34 "world" "deed";have b35:=Dm F35 "world" "deed";have b36:=Dm F36 "world" "deed";have b37:=Dm F37 "world" "deed";have b38:=Dm F38 "world" "deed";have b39:=Dm F39 "world" "deed";have b40:=Dm F40 "world" "deed";have b41:=Dm F41 "world" "deed";have b42:=Dm F42 "world" "deed";have b43:=Dm F43 "world" "deed";have b44:=Dm F44 "world" "word";have b45:=Dm F45 "world" "deed";have b46:=Y4 F46 "word";have b47:=Dm F47 "world" "row";have b48:=Y4 F48 "events";have b49:=Dm F49 "world" "deed";have b50:=Y4 F50 "word";have F51:=G.Zg5 (st:=Zfl) l51 c51 k51;have b51:=G.RD (ps:=["scene","most"]) (ds:=[]) l51 t51 λus hl=>match us,hl with | [_,_],_=>⟨_,rfl,rfl⟩
 have Zud:=G.RD (ps:=["scene","most"]) (ds:=[Zev]) l51 t51 λus hl=>match us,hl with | [_],_=>⟨_,rfl,rfl⟩
 have b52:=Y4 F52 "log";have b53:=Y4 F53 "scene";have b54:=Dm F54 "row" "names";have b55:=bd3 F55 "form" "value" "names";have b56:=Dm F56 "_law_script" "_law_k";have b57:=Y4 F57 "_law_found";have b58:=Y4 F58 "_law_name";have b59:=Dm F59 "_law_way" "_law_cell";have b60:=Y4 F60 "_law_cell";have b61:=Dm F61 "_law_cell" "_law_way";have b62:=bd3 F62 "_law_cell" "_law_way" "_law_most";have b63:=bd3 F63 "_law_cell" "_law_k" "_law_hands";have b64:=Dm F64 "_law_row" "_law_hands";have b65:=Dm F65 "_law_found" "_law_due";have b66:=Dm F66 "_law_found" "_law_due";have b67:=bd5 F67 "_law_scene" "_law_room" "_law_words" "_law_hands" "_law_weave";have b68:=bd4 F68 "_law_world" "_law_room" "_law_words" "_law_hands";have b69:=bd5 F69 "_law_scene" "_law_room" "_law_words" "_law_hands" "_law_weave";have b70:=bd5 F70 "_law_scene" "_law_room" "_law_words" "_law_hands" "_law_at";have F71:=Zn3 (st:=Qq) l71 c71 k71;refine⟨W.fnOf "law" "law" (oR Qq) (jU Qq) (bI Qq) .none Zva Zwk Zux Zwp Zub Zwl,λs v=>.of_eq rfl,λbase _ _=>?_⟩;have G1:=hh (w:=w) (Ke l.prog base Q0 T F1 ) b1 k1;have G2:=hh (w:=w) (Te l.prog base Q0 T F2 ) b2 k2;have G3:=hh (w:=w) (Gz l.prog base Q0 T F3 ) b3 k3;have G4:=hh (w:=w) (Kc l.prog base Q0 T F4 ) b4 k4;have G6:=hh (w:=w) (Za1 l.prog base Q0 T F6 ) b6 k6;have G7:=hh (w:=w) (Xy l.prog base Q0 T F7 ) b7 k7;have G8:=hh (w:=w) (Zdr l.prog base Q0 T F8 ) b8 k8;have G10:=hh (w:=w) (Kd l.prog base Q0 T F10 ) b10 k10;have G11:=hh (w:=w) (Dj l.prog base Q0 T F11 ) b11 k11;have G13:=hh (w:=w) (Zpc l.prog base Q0 T F13 ) b13 k13;have G14:=hh (w:=w) (Xq l.prog base Q0 T F14 ) b14 k14;have G15:=hh (w:=w) (Xr l.prog base Q0 T F15 ) b15 k15;have G19:=hh (w:=w) (Gy l.prog base Q0 T F19 ) b19 k19;have G23:=hh (w:=w) (Td l.prog base Q0 T F23 ) b23 Zn;have G24:=hh (w:=w) (Xz l.prog base Q0 T F24 ) b24 k24;have G25:=hh (w:=w) (Xw l.prog base Q0 T F25 ) b25 k25;have G26:=hh (w:=w) (Ka l.prog base Q0 T F26 ) b26 k26;have G29:=hh (w:=w) (Z6 l.prog base Q0 T F29 ) b29 k29;have G32:=hh (w:=w) (QJ l.prog base Q0 T F32 ) b32 k32;have G46:=hh (w:=w) (Z8 l.prog base Q0 T F46 ) b46 k46;have G48:=hh (w:=w) (S7 l.prog base Q0 T F48 ) b48 k48;have G50:=G.hhH (w:=w) (Zdg l.prog base Q0 T F50 ) b50 k50;have G55:=hh (w:=w) (Ny l.prog base Q0 T F55 ) b55 k55;have G56:=hh (w:=w) (NP l.prog base Q0 T F56 ) b56 k56;have G57:=hh (w:=w) (S8 l.prog base Q0 T F57 ) b57 k57;have G58:=hh (w:=w) (Xv l.prog base Q0 T F58 ) b58 k58;have G60:=hh (w:=w) (NK l.prog base Q0 T F60 ) b60 k60;have G61:=hh (w:=w) (Nz l.prog base Q0 T F61 ) b61 k61;have G62:=hh (w:=w) (S9 l.prog base Q0 T F62 ) b62 k62;have G64:=hh (w:=w) (NB l.prog base Q0 T F64 ) b64 k64;have G9:=hh (w:=w) (Za0 l.prog base Q0 T F9 G8) b9 k9;have G16:=hh (w:=w) (Zpb l.prog base Q0 T F16 G8 G15) b16 k16;have G18:=hh (w:=w) (Zpd l.prog base Q0 T F18 G8 G15) b18 k18;have G27:=hh (w:=w) (Tc l.prog base Q0 T F27 G24 G23 G25) b27 k27;have G30:=hh (w:=w) (Zdq l.prog base Q0 T F30 G8 G29) b30 k30;have G33:=hh (w:=w) (QK l.prog base Q0 T F33 G14) b33 k33;have G52:=hh (w:=w) (Zdi l.prog base Q0 T F52 G48) b52 k52;have G54:=hh (w:=w) (QH l.prog base Q0 T F54 G46 G55) b54 k54;have G59:=hh (w:=w) (J9 l.prog base Q0 T F59 G58) b59 k59;have G63:=hh (w:=w) (QM l.prog base Q0 T F63 G62 G61) b63 k63;have G65:=hh (w:=w) (J8 l.prog base Q0 T F65 G57) b65 k65;have G5:=hh (w:=w) (Xx l.prog base Q0 T F5 G1 G2 G7 G6) b5 k5;have G12:=hh (w:=w) (Gx l.prog base Q0 T F12 G10 G4 G11) b12 k12;have G17:=hh (w:=w) (Z7 l.prog base Q0 T F17 G16) b17 k17
 have G21:=hh (w:=w) (Xp l.prog base Q0 T F21 G19) b21 k21;have G22:=hh (w:=w) (Zl7 l.prog base Q0 T F22 G19) b22 k22;have G28:=hh (w:=w) (Zdh l.prog base Q0 T F28 G26 G27) b28 k28;have G31:=hh (w:=w) (Xu l.prog base Q0 T F31 G3 G30) b31 k31;have G37:=hh (w:=w) (Zdp l.prog base Q0 T F37 G9 G29) b37 k37;have G38:=hh (w:=w) (Zdo l.prog base Q0 T F38 G9 G29) b38 k38;have G40:=hh (w:=w) (Z9 l.prog base Q0 T F40 G30) b40 k40;have G41:=hh (w:=w) (Zdk l.prog base Q0 T F41 G30) b41 k41;have G42:=hh (w:=w) (Zdl l.prog base Q0 T F42 G30 G29) b42 k42;have G44:=hh (w:=w) (QL l.prog base Q0 T F44 G18) b44 k44;have G53:=hh (w:=w) (Zdf l.prog base Q0 T F53 G27 G54) b53 k53;have G66:=hh (w:=w) (Gv l.prog base Q0 T F66 G65) b66 k66;have G68:=hh (w:=w) (Gw l.prog base Q0 T F68 G27 G13) b68 k68;have G34:=hh (w:=w) (Zdm l.prog base Q0 T F34 G5 G9 G29) b34 k34;have G35:=hh (w:=w) (Zhi l.prog base Q0 T F35 G9 G31 G29) b35 k35;have G36:=hh (w:=w) (Zhh l.prog base Q0 T F36 G9 G31 G17 G29 G33 G32) b36 k36;have G39:=hh (w:=w) (Zdn l.prog base Q0 T F39 G9 G17 G29 G33) b39 k39;have G43:=hh (w:=w) (Zdj l.prog base Q0 T F43 G9 G17 G44 G29) b43 k43;have G67:=hh (w:=w) (Fg l.prog base Q0 T F67 G27 G66 G57) b67 k67;have G20:=hh (w:=w) (Z5 l.prog base Q0 T F20 G12) b20 k20;have G45:=hh (w:=w) (Zv2 l.prog base Q0 T F45 G37 G38 G35 G39 G34 G42 G36 G41 G43 G40) b45 k45;have G49:=hh (w:=w) (S6 l.prog base Q0 T F49 G45 G50) b49 k49;have G70:=hh (w:=w) (Bu l.prog base Q0 T F70 G68 G45 G13 G20) b70 k70;have G47:=hh (w:=w) (Zl6 l.prog base Q0 T F47 G49) b47 k47;have G51:=hh (w:=w) (Zs8 l.prog base Q0 T F51 G52 G47 G20) b51 k51;have G69:=hh (w:=w) (Fj l.prog base Q0 T F69 G67 G64 G22 G51 G21 G53 Zud (.cons Zu8 .nil)) b69 k69;exact Zs9 _ _ Q0 T F71 G19 G69 G56 G59 G60 G68 G63 G67 G70 G28 G22 G21 G20
theorem walk{l:W.OpenLaw}{q:Program}{loose:List Str}{XP:(Str->Option Value)->Heap->Prop}{YP:World->Heap->Prop}{d:DefRec}{K:Params->aV}(hn:l.most=some 63)(hdf:d.params.defaults=[])
  (hY:∀(w:World) (h:Heap),YP w h->(K w.params).In h)
  (F:∀(w:World) (mg:Str->Option Value) (fa:Addr) (h:Heap),(K w.params).In h->h.Ns mainGlobals mg->mg d.name=some (.ref fa)->
   ∃fd:FuncData,(∀(s:Shared) (u:Value),BindsTo s fd ⟨[u],[]⟩ [("_law_script",u)])/\∀base:Heap,(K w.params).In base->base.Ns mainGlobals mg->uV l.prog w (K w.params) mg base (G.DY l.prog w) 10 fa fd ["_law_script"] (Zgp (K w.params))):
  W.WalkO q loose XP YP l.row.toRowW d [] (λf vs=>PySem.call f vs):=
 G.Zjf (n:=63) (k:=10) (x:="_law_script") (CX:=λw=>G.DY l.prog w) (sp:=λw=>Zgp (K w.params)) hn (by decide) hdf ⟨rfl,by decide,by decide⟩ hY F (λ_ _ a ns hl _ hS hb=>⟨a,rfl,ns,hS,hl,hb,λ_=>rfl⟩) λ_ _ _ _ _ z=>by
  obtain⟨_,_,_,_,_,_,_,_,_,_,_,_,z⟩:=z;exact z
end K49
namespace PySem.W.Fast
def tw3894487386231057952:=0
def tw15664034975968743040:=0
def tw16554237065438218914:=0
def tw6315870223812811139:=0
def tw17020016425831946468:=0
def tw12346097984606328773:=0
def tw15158628298167061094:=0
def tw10230836669358635814:=0
def tw14078247938060464519:=0
def tw3982141972311299368:=0
def tw4640632044204364521:=0
def tw14199836585194108554:=0
def tw2208665357418855275:=0
def tw11830240535855516651:=0
def tw3039413687140401232:=0
def tw2305070636243009169:=0
def tw10897757943718635090:=0
def tw11667341939128099987:=0
def tw8252493450080795923:=0
def tw11012574236196438419:=0
def tw8032025139840572597:=0
def tw18248786394940568789:=0
def tw16596203578670636341:=0
def tw7559297833512093493:=0
def tw14979398165511451257:=0
def tw1194440503873351514:=0
def tw8535646585029219227:=0
def tw7263912620913496316:=0
def tw11662767921411124532:=0
def tw12034771154189699905:=0
def tw1511800043052316250:=0
def tw6779692557041863726:=0
def tw8533919304920240883:=0
def tw11074840765823106996:=0
def tw4319354997690991587:=0
def tw16528363567429921958:=0
def tw3784936051907908725:=0
def tw8574623709968494349:=0
def tw5419112945904291041:=0
def tw3541805136965889294:=0
def tw254378824327298636:=0
def tw12041281649392375452:=0
def tw11240872481914309864:=0
def tw492941656268075753:=0
def tw4126037824580132564:=0
def tw13973538998648562251:=0
def tw4961492479550973367:=0
def tw15376103263143996664:=0
def tw14462445207590870341:=0
def tw15697505061416363810:=0
def tw11769371053594940447:=0
def tw9387098613242239448:=0
def tw16880831958076837290:=0
def tw1306301564763664193:=0
def tw11136758371249961907:=0
def tw9172900085691623225:=0
def tw154146116627114827:=0
def tw17776897897850002713:=0
def tw17107004987825150314:=0
def tw5190540051974085252:=0
def tw12081957182671103255:=0
def tw12910428382495643400:=0
def tw14507918235615355656:=0
def tw210616781858902796:=0
def tw6440647519897402862:=0
def tw9007238775401681036:=0
def tw4017436262391133234:=0
def tw13081213874999241794:=0
def tw10805350467063099979:=0
def tw13939893947081524170:=0
def tw11701277711168598827:=0
def tw4454018951404214738:=0
def tw213094963350496472:=0
def tw18427484117420797644:=0
def tw879693224880854746:=0
def tw13547418164838905766:=0
def tw2116201674293946988:=0
def tw11335755075795388910:=0
def tw2117267587472865209:=0
def tw15945041923279785492:=0
def tw14018116860710281860:=0
def tw4653331910335418628:=0
def tw18326481871298657882:=0
def tw17279177788596079202:=0
def tw8680614289083687765:=0
def tw10369293929820345336:=0
def tw10652552210423269311:=0
def tw11807396210605912847:=0
def tw8664074239801087683:=0
def tw17927444594800480698:=0
def tw2254951703768883975:=0
def tw958883455241039656:=0
def tw66617610514706019:=0
def tw2389014366940798237:=0
def tw15626701954905115414:=0
def tw6340009375371702216:=0
def tw2107997602615274725:=0
def tw17077110141683217247:=0
def tw110050776878111785:=0
def tw1662862838182495059:=0
def tw8530605574847453463:=0
def tw8069539331711595143:=0
def tw12553588924444564274:=0
def tw4695568695121706855:=0
def tw5108841812131176637:=0
def tw10916474892260732594:=0
def tw5672994365158565576:=0
def tw12917006058614546455:=0
def tw6166610691261787148:=0
def tw4238008371287565755:=0
def tw3271126889780423802:=0
def tw18340049705964485161:=0
def tw4176032257618167874:=0
def tw13673790914181866469:=0
def tw4677062283219147958:=0
def tw13764397937288897651:=0
def tw10917521908626642344:=0
def tw18021607300161694568:=0
def tw12552879179015386861:=0
def tw9345126760329102203:=0
def tw2344610254755518929:=0
def tw4245263663887628776:=0
def tw8433059443309739492:=0
def tw13086264687259695180:=0
def tw7527456231033716026:=0
def tw13104610769517320835:=0
def tw12726849626835418270:=0
def tw9052806189421718806:=0
def tw14999155407651888948:=0
def tw6586368869036950407:=0
def tw6164098611392238150:=0
def tw16343355772261514890:=0
def tw16388927214667270969:=0
def tw5917370788056112838:=0
def tw8762359566399348526:=0
def tw3051122782788891107:=0
def tw18106844143634226214:=0
def tw13224775566071949028:=0
def tw1687931094530515973:=0
def tw10890865484007917706:=0
def tw17904775520024533574:=0
def tw9182318979540405853:=0
def tw9471416471329346561:=0
def tw9472278826568939602:=0
def tw17090910571410803281:=0
def tw15196995684021530209:=0
def tw3573039900984137921:=0
def tw10185088401112748192:=0
def tw9866706870130560426:=0
def tw14135863333132601230:=0
def tw13402213640634095388:=0
def tw1436448604123955827:=0
def tw4747586162480041234:=0
def tw16444537429554086510:=0
def tw14996637087120646327:=0
def tw15587133414987974718:=0
def tw8137806991971742934:=0
def tw10606712926001842377:=0
def tw15340247933248422781:=0
def tw12355116260952569146:=0
def tw2642722803274618928:=0
def tw16826171861927654297:=0
def tw15261013925489586235:=0
def tw9824708041442932314:=0
def tw10857396483196331:=0
def tw2805973749078370939:=0
def tw3305284600447741797:=0
def tw7816206121094318568:=0
def tw2571065680458021116:=0
def tw10393427764327228865:=0
def tw1396219467622168849:=0
def tw16646484662191181945:=0
def tw12106457430695601250:=0
def tw1282645533725405005:=0
def tw11508917999462557657:=0
def tw716445917805302724:=0
def tw8196349201961622346:=0
def tw2364553279386359465:=0
def tw11609364634602956719:=0
def tw17321197263898282584:=0
def tw12233153741720950750:=0
def tw5619181881596594660:=0
def tw1390169932388850791:=0
def tw6671993644422119678:=0
def tw6495406267384341908:=0
def tw11730802560992748658:=0
def tw2209610708327182742:=0
def tw16488651746238488350:=0
def tw9420690155197497802:=0
def tw9231822076501245459:=0
def tw9528670245472261643:=0
def tw6959525826127729855:=0
def tw511201245256592525:=0
def tw15182041624942734933:=0
def tw3329265626518259514:=0
def tw17521095985626446781:=0
def tw2140792475909189394:=0
def tw10794066292657877690:=0
def tw15006841015264540686:=0
def tw4730244715345317738:=0
def tw12687712105422589823:=0
def tw12766015061468818481:=0
def tw11123715047917830682:=0
def tw3827422258537246921:=0
def tw13764813556955682596:=0
def tw6988554877539297100:=0
def tw14815819368504072490:=0
def tw11612870062925541163:=0
def tw11710214033644248854:=0
def tw16500352865979934398:=0
def tw6861218910067569591:=0
def tw5143794228579628279:=0
def tw7436072978675603936:=0
def tw12803481382921348498:=0
def tw12606980992510578916:=0
def tw2750119500047253648:=0
def tw2210822855701854707:=0
def tw2093151303355572430:=0
def tw11299590184440230196:=0
def tw3335487696265123751:=0
def tw10266957464311702166:=0
def tw9191587445204164206:=0
def tw12614824448770587175:=0
def tw4727372269607934107:=0
def tw14188642250222332719:=0
def tw9478796279944397377:=0
def tw1635991455538470903:=0
def tw13833983520669597132:=0
def tw17521293795285986241:=0
def tw10318716746832943208:=0
def tw16001707898390307247:=0
def tw14464371739050392778:=0
def tw13094044360573827509:=0
def tw15089642257486981232:=0
def tw11576989050422113966:=0
def tw8037325943464484183:=0
def tw8305871309724151742:=0
def tw7116188213552266074:=0
def tw15017550869278258363:=0
def tw17280954899558589123:=0
def tw17258703640442988015:=0
def tw7026453420543915876:=0
def tw5940754458706528112:=0
def tw14402568633730956127:=0
def tw3730676655831181562:=0
def tw779695082693094384:=0
def tw2964902910801426705:=0
def tw3525310582299673243:=0
def tw756930967385803431:=0
def tw12958204266897258806:=0
def tw15346463832309868569:=0
def tw7341406854150343503:=0
def tw3941425575388746821:=0
def tw5593598349414668250:=0
def tw7236091465612341313:=0
def tw6079815061705492817:=0
def tw7675876968942117671:=0
def tw16309014546307445322:=0
def tw6172027617959061669:=0
def tw12170978824685663912:=0
def tw15437968146969481395:=0
def tw2841582135433075107:=0
def tw7674742332888101836:=0
def tw10281390531824424975:=0
def tw5710623242447396871:=0
def tw16688268802551848383:=0
def tw1770418852330726215:=0
def tw12826097332969429577:=0
def tw4486421579148356858:=0
def tw562574792200254568:=0
def tw9566186625960895493:=0
def tw6752460876061197074:=0
def tw12595783229964665861:=0
def tw7585834085786992429:=0
def tw18077239571270358265:=0
def tw13840424197011565448:=0
def tw5118340004810012677:=0
def tw6443632472287656038:=0
def tw16186460638690133299:=0
def tw9754759722843823424:=0
def tw5521803122723541092:=0
def tw14320239131884298539:=0
def tw17833173850383291493:=0
def tw14534734015766994785:=0
def tw9173343777661028550:=0
def tw18016334215162222268:=0
def tw6348515975337238715:=0
def tw3371043610054235884:=0
def tw18238427599525737383:=0
def tw11270058241487452230:=0
def tw16428365170620812889:=0
def tw10415864923559185350:=0
def tw14303968310278215249:=0
def tw15942102871313384375:=0
def tw17666858104293287990:=0
def tw9149696792717806286:=0
def tw11757143601526034744:=0
def tw7243342630578074757:=0
def tw2932807134367079250:=0
def tw16418689243796965925:=0
def tw13024637871590228139:=0
def tw15405720827226885343:=0
def tw7289659844436957498:=0
def tw10924652528844110714:=0
def tw1016814235522198439:=0
def tw8584801679216705748:=0
def tw18428930077106149285:=0
def tw6645905117509383124:=0
def tw12348580050136713488:=0
def tw14269883721361641724:=0
def tw15405382377190945198:=0
def tw14821506737876383259:=0
def tw16954643928287233179:=0
def tw3241352682215006100:=0
def tw12579018632600962217:=0
def tw12898779327148527629:=0
def tw7899556636936346560:=0
def tw13031594380493727593:=0
def tw18077427225555619466:=0
def tw10024017735914046635:=0
def tw13169122527769650564:=0
def tw2560901602236220480:=0
def tw1729184856128378329:=0
def tw16460382215949964308:=0
def tw10129174299616592464:=0
def tw412780210408063092:=0
def tw229455524900798178:=0
def tw17843866653724319926:=0
def tw17010411273290260983:=0
def tw15481243216870145894:=0
def tw3051137728777571216:=0
def tw12254755947989862549:=0
def tw10619199420217739525:=0
def tw1750425600273483533:=0
def tw14399287347200078476:=0
def tw8358315920462765511:=0
def tw15500561665650088121:=0
def tw294261722044833330:=0
def tw27159552625878300:=0
def tw3590758985555556716:=0
def tw11483615752108413803:=0
def tw14731622531268161186:=0
def tw8895411512100937851:=0
def tw12556620051593753417:=0
def tw1027451535297866909:=0
def tw11161498842523011595:=0
def tw18425309890762642084:=0
def tw3635724609398614241:=0
def tw2243403507122752774:=0
def tw9261828663394216925:=0
def tw15990366060455305050:=0
def tw4823109417929435468:=0
def tw9966077266285814864:=0
def tw17177749109525419114:=0
def tw9063263326562074145:=0
def tw12460302071857141321:=0
def tw5995395106512624090:=0
def tw17996308842322289338:=0
def tw17520568067935697397:=0
def tw5046482546353887183:=0
def tw15837715436548448999:=0
def tw11759974513111606713:=0
def tw12395903091809510355:=0
def tw13002639256187830343:=0
def tw3110639308210029742:=0
def tw15262816966402215404:=0
def tw10515278692224327100:=0
def tw5306003714455184908:=0
def tw12906512459983200811:=0
def tw5700750713384257727:=0
def tw7028634695973764726:=0
def tw13218329036429625241:=0
def tw13820217539962266672:=0
def tw11515199990382007633:=0
def tw6458007621081993631:=0
def tw9202900785978723737:=0
def tw9624563945739189157:=0
def tw5410636786073190385:=0
def tw1767011066682086180:=0
def tw5377979307786549311:=0
def tw5088310809093121547:=0
def tw11548939109626299493:=0
def tw7862348061411678707:=0
def tw3268679983074310309:=0
def tw333756447528819750:=0
def tw1153250469142347781:=0
def tw16474258413772581670:=0
def tw11331759362626584857:=0
def tw5969825897800758801:=0
def tw17801315202646714313:=0
def tw9888334902468650861:=0
def tw11533952771859390024:=0
def tw3879542138819601795:=0
def tw13810270232295712937:=0
def tw3754694103967603816:=0
def tw17660606104981132346:=0
def tw16287133617428063085:=0
def tw11466277640279981010:=0
def tw15734558702084168755:=0
def tw14281260868438655598:=0
def tw11973897773672495282:=0
def tw10938886945082752985:=0
def tw160249221313678738:=0
def tw3014876760227693458:=0
def tw17537013827467671839:=0
def tw7834008744725182844:=0
def tw13723856028449815546:=0
def tw16504452209212239883:=0
def tw2715416138996201850:=0
def tw17947934783593610517:=0
def tw1405506902232079885:=0
def tw13124115466613019186:=0
def tw4253457602310625686:=0
def tw9627798405651306799:=0
def tw2030709354783008477:=0
def tw530818743634771623:=0
def tw1451020412619449051:=0
def tw14476314570291272647:=0
def tw10012828926667004889:=0
def tw15078121303146230392:=0
def tw15411663807848383518:=0
def tw16396511940603240582:=0
def tw16656327729428006608:=0
def tw10089381361759719999:=0
def tw11136013806896287309:=0
def tw4378121416471811176:=0
def tw4752717933130684669:=0
def tw17436073481721155919:=0
def tw15069855230215658086:=0
def tw1675673551494813017:=0
def tw16938349034724414714:=0
def tw4216659426397835960:=0
def tw9448185558657365592:=0
def tw12858329518209453671:=0
def tw5285396594948650774:=0
def tw12250936612272224309:=0
def tw9356464270801692922:=0
def tw8666497913151235988:=0
def tw11497801305312815547:=0
def tw10897899282149937830:=0
def tw7526471863843386537:=0
def tw7373157058889581449:=0
def tw12608180412964393545:=0
def tw17305942849565299726:=0
def tw10883219654506329897:=0
def tw12013551621856103708:=0
def tw17299382302179526105:=0
def tw3114179133755447065:=0
def tw4998038286995156107:=0
def tw4903515442174264027:=0
def tw3227646407512795791:=0
def tw4285637452601338083:=0
def tw13744397164867614634:=0
def tw10185256291256299192:=0
def tw403624220784657280:=0
def tw3441479026327404927:=0
def tw3488113032919313645:=0
def tw15314403407329221315:=0
def tw2447568989315451148:=0
def tw10008083656363044123:=0
def tw17189695102058499775:=0
def tw8600676167570319035:=0
def tw5614764076019989966:=0
def tw3958229580706615973:=0
def tw13592774845726719051:=0
def tw2414054921221804589:=0
def tw10680543115393423564:=0
def tw3191346035585621080:=0
def tw11867164831906005078:=0
def tw13854092170384155207:=0
def tw15094613183120657433:=0
def tw5234037205307084742:=0
def tw10348205087522323886:=0
def tw14676955588720088851:=0
def tw15234865185613233980:=0
def tw2404868113156669500:=0
def tw3189837645952153886:=0
def tw7431274022875586331:=0
def tw17809891940679421334:=0
def tw1737915437074722729:=0
def tw169752035657408564:=0
def tw9511051991954709636:=0
def tw7777934899027217542:=0
def tw14666823546312431507:=0
def tw17591417315037363018:=0
def tw9618909685718931072:=0
def tw11273612938585586109:=0
def tw11736967862556824967:=0
def tw6420580017248915012:=0
def tw14762096099119751760:=0
def tw6732308400642770107:=0
def tw6575382317882928805:=0
def tw569645685181490085:=0
def tw6741532810819587714:=0
def tw13804160618125587428:=0
def tw18023882832654526532:=0
end PySem.W.Fast
open PySem PySem.W PyProof.Rows
set_option maxRecDepth 100000 in
set_option maxHeartbeats 0 in
theorem PySem.Challenge.cw_greywalk_k49_scenes_kept_holds : PySem.Challenge.rw_greywalk_k49_scenes_kept.Holds := by
 w_on;o_law;k_head;(case hw=>w_witness2)
 k_fill
 refine K49.walk (l:=PySem.Challenge.rw_greywalk_k49_scenes_kept) rfl rfl (fun w h Y=>PySem.W.kIn_of Y) ?F
 case F=>
  intro w mg fa h KX G hmg
  refine' K49.all_mk KX G hmg ?h0 ?h1 ?h2 ?h3 ?h4 ?h5 ?h6 ?h7 ?h8 ?h9 ?h10 ?h11 ?h12 ?h13 ?h14 ?h15 ?h16 ?h17 ?h18 ?h19 ?h20 ?h21 ?h22 ?h23 ?h24 ?h25 ?h26 ?h27 ?h28 ?h29 ?h30 ?h31 ?h32 ?h33 ?h34 ?h35 ?h36 ?h37 ?h38 ?h39 ?h40 ?h41 ?h42 ?h43 ?h44 ?h45 ?h46 ?h47 ?h48 ?h49 ?h50 ?h51 ?h52 ?h53 ?h54 ?h55 ?h56 ?h57 ?h58 ?h59 ?h60 ?h61 ?h62 ?h63 ?h64 ?h65 ?h66 ?h67 ?h68 ?h69 ?h70 ?h71 ?h72 ?h73 ?h74 ?h75 ?h76 ?h77 ?h78 ?h79 ?h80 ?h81 ?h82 ?h83 ?h84 ?h85 ?h86 ?h87 ?h88 ?h89 ?h90 ?h91 ?h92 ?h93 ?h94 ?h95 ?h96 ?h97 ?h98 ?h99 ?h100 ?ZFi ?ZFh ?ZFg ?ZFf ?ZFe ?ZFd ?ZFc ?ZFb ?ZFa ?ZF9 ?ZF8 ?ZF7 ?ZF6 ?ZF5 ?ZF4 ?ZF3 ?ZF2 ?ZF1 ?ZF0 ?ZEz ?ZEy ?ZEx ?ZEw ?ZEv ?ZEu ?ZEt ?ZEs ?ZEr ?ZEq ?ZEp ?ZEo ?ZEn ?ZEm ?ZEl ?ZEk ?ZEj ?ZEi ?ZEh ?ZEg ?ZEf ?ZEe ?ZEd ?ZEc ?ZEb ?ZEa ?ZE9 ?ZE8 ?ZE7 ?ZE6 ?ZE5 ?ZE4 ?ZE3 ?ZE1 ?ZE0 ?ZDz ?ZDy ?ZDx ?ZDw ?ZDv ?ZDu ?ZDt ?ZDs ?ZDr ?ZDq ?ZDp ?ZDo ?ZDn ?ZDm ?ZDl ?ZDk ?ZDj ?ZDi ?ZDh ?ZDg ?ZDf ?ZDe ?ZDd ?ZDc ?ZDb ?ZDa ?ZD9 ?ZD8 ?ZD7 ?ZD6 ?ZD5 ?ZD4 ?ZD3 ?ZD2 ?ZD1 ?ZD0 ?ZCz ?ZCy ?ZCx ?ZCw ?ZCv ?ZCu ?ZCt ?ZCs ?ZCr ?ZCq ?ZCp ?ZCo ?ZCn ?ZCm ?ZCl ?ZCk ?ZCj ?ZCi ?ZCh ?ZCg ?ZCf ?ZCe ?ZCd ?ZCc ?ZCb ?ZCa ?ZC9 ?ZC8 ?ZC7 ?ZC6 ?ZC5 ?ZC4 ?ZC3 ?ZC2 ?ZC1 ?ZC0 ?ZBz ?ZBy ?ZBx ?ZBw ?ZBv ?ZBu ?ZBt ?ZBs ?ZBr ?ZBq ?ZBp ?ZBo ?ZBn ?ZBm ?ZBl ?ZBk ?ZBj ?ZBi ?ZBh ?ZBg ?ZBf ?ZBe ?ZBd ?ZBc ?ZBb ?ZBa ?ZB9 ?ZB8 ?ZB7 ?ZB6 ?ZB5 ?ZB4 ?ZB3 ?ZB2 ?ZB1 ?ZB0 ?ZAz ?ZAy ?ZAx ?ZAw ?ZAv ?ZAu ?ZAt ?ZAs ?ZAr ?ZAq ?ZAp ?ZAo ?ZAn ?ZAm ?ZAl ?ZAk ?ZAj ?ZAi ?ZAh ?ZAg ?ZAf ?ZAe ?ZAd ?ZAc ?ZAb ?ZAa ?ZA9 ?ZA8 ?ZA6 ?ZA5 ?ZA4 ?ZA3 ?ZA2 ?ZA1 ?ZA0 ?Zzz ?Zzy ?Zzx ?Zzw ?Zzv ?Zzu ?Zzt ?Zzs ?Zzr ?Zzq ?Zzp ?Zzo ?Zzn ?Zzm ?Zzl ?Zzk ?Zzj ?Zzi ?Zzh ?Zzg ?Zzf ?Zze ?Zzd ?Zzc ?Zzb ?Zza ?Zz9 ?Zz8 ?Zz7 ?Zz6 ?Zz5 ?Zz4 ?Zz3 ?Zz2 ?Zz1 ?Zz0 ?Zyz ?Zyy ?Zyx ?Zyw ?Zyv ?Zyu ?Zyt ?Zys ?Zyr ?Zyq ?Zyp ?Zyo
  case h0 | h1 | h2 | h3 | h4 | h5 | h6 | h7 | h8 | h9 | h10 | h11 | h12 | h13 | h14 | h15 | h16 | h17 | h18 | h19 | h20 | h21 | h22 | h23 | h24 | h25=>(show _=_;k_is)
  case h26 | h27=>first | exact rfl | exact ⟨_,rfl⟩
  case h28 | h29 | h30 | h31 | h32 | h33 | h34 | h35 | h36 | h37 | h38 | h39 | h40 | h41 | h42 | h43 | h44 | h45 | h46 | h47 | h48 | h49 | h50 | h51 | h52 | h53 | h54 | h55 | h56 | h57 | h58 | h59 | h60 | h61 | h62 | h63 | h64 | h65 | h66 | h67 | h68 | h69 | h70 | h71 | h72 | h73 | h74 | h75 | h76 | h77 | h78 | h79 | h80 | h81 | h82 | h83 | h84 | h85 | h86 | h87 | h88=>(show _=_;k_is)
  case h89=>first | exact rfl | exact ⟨_,rfl⟩
  case h90 | h91 | h92 | h93 | h94 | h95 | h96 | h97 | h98 | h99 | h100 | ZFi | ZFh | ZFg | ZFf | ZFe | ZFd | ZFc | ZFb | ZFa | ZF9 | ZF8 | ZF7 | ZF6 | ZF5 | ZF4=>(show _=_;k_is)
  case ZF3=>exact rfl
  case ZF2=>(show _=_;k_is)
  case ZF1 | ZF0 | ZEz | ZEy | ZEx | ZEw | ZEv | ZEu | ZEt | ZEs=>exact rfl
  case ZEr | ZEq | ZEp | ZEo | ZEn | ZEm | ZEl | ZEk | ZEj | ZEi | ZEh | ZEg=>(show _=_;k_is)
  case ZEf | ZEe | ZEd | ZEc | ZEb | ZEa | ZE9 | ZE8 | ZE7 | ZE6=>exact rfl
  case ZE5 | ZE4 | ZE3 | ZE1 | ZE0 | ZDz | ZDy | ZDx | ZDw | ZDv | ZDu | ZDt | ZDs | ZDr | ZDq | ZDp | ZDo | ZDn | ZDm | ZDl | ZDk | ZDj | ZDi | ZDh | ZDg | ZDf | ZDe | ZDd | ZDc | ZDb | ZDa | ZD9 | ZD8 | ZD7 | ZD6 | ZD5 | ZD4 | ZD3 | ZD2 | ZD1 | ZD0 | ZCz | ZCy | ZCx | ZCw | ZCv | ZCu | ZCt | ZCs | ZCr | ZCq | ZCp | ZCo | ZCn | ZCm | ZCl | ZCk | ZCj | ZCi | ZCh | ZCg | ZCf | ZCe | ZCd | ZCc | ZCb | ZCa | ZC9 | ZC8 | ZC7 | ZC6 | ZC5 | ZC4 | ZC3 | ZC2 | ZC1 | ZC0 | ZBz | ZBy | ZBx | ZBw | ZBv | ZBu | ZBt | ZBs | ZBr | ZBq | ZBp | ZBo | ZBn | ZBm | ZBl | ZBk | ZBj | ZBi | ZBh | ZBg | ZBf=>(show _=_;k_is)
  case ZBe | ZBd | ZBc | ZBb=>k_exc
  case ZBa | ZB9 | ZB8 | ZB7 | ZB6 | ZB5 | ZB4 | ZB3 | ZB2 | ZB1=>kts_exm
  case ZB0 | ZAz | ZAy | ZAx | ZAw | ZAv | ZAu | ZAt | ZAs | ZAr | ZAq=>(show _=_;k_is)
  case ZAp=>first | exact rfl | exact ⟨_,rfl⟩
  case ZAo=>(show _=_;k_is)
  case ZAn=>first | exact rfl | exact ⟨_,rfl⟩
  case ZAm=>(show _=_;k_is)
  case ZAl=>first | exact rfl | exact ⟨_,rfl⟩
  case ZAk | ZAj | ZAi | ZAh | ZAg | ZAf | ZAe | ZAd | ZAc | ZAb | ZAa | ZA9 | ZA8 | ZA6 | ZA5 | ZA4 | ZA3 | ZA2 | ZA1 | ZA0 | Zzz | Zzy | Zzx | Zzw | Zzv | Zzu | Zzt | Zzs | Zzr | Zzq | Zzp | Zzo | Zzn | Zzm | Zzl | Zzk | Zzj | Zzi | Zzh | Zzg | Zzf | Zze | Zzd | Zzc | Zzb | Zza | Zz9 | Zz8 | Zz7 | Zz6 | Zz5 | Zz4 | Zz3 | Zz2 | Zz1 | Zz0 | Zyz | Zyy | Zyx | Zyw | Zyv | Zyu | Zyt | Zys | Zyr | Zyq | Zyp | Zyo=>(refine' K49.fgm ?l ?c ?k;(case l=>show _=_;k_is);(case c=>show _=_;k_is);(case k=>show _=_;k_is))
#print axioms PySem.Challenge.cw_greywalk_k49_scenes_kept_holds
